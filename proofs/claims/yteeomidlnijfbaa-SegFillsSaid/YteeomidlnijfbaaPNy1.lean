/- SegFills: what its round needs. -/
import Derived.Test.YteeomidlnijfbaaPNy
namespace Go.Proofs.Yteeomidlnijfbaa
open Go.RowKit
set_option linter.unusedSimpArgs false
set_option linter.unusedVariables false

/-- A row of zeros, but for its first byte. -/
def rowZ (x : Nat) : Nat → Nat := fun j => if j = 0 then x else 0
theorem row_made {w : World} {g n x : Nat} (h : w.rowIs g 5 n fun _ => .int .u8 0) (hn : 1 ≤ n) (hx : x < 256) :
    Byt (w.setCell ⟨g, 0, none⟩ (.int .u8 (x : Nat))) (.slice (some ⟨g, 0, none⟩) n n) n (rowZ x) ∧ Typ8 (w.setCell ⟨g, 0, none⟩ (.int .u8 (x : Nat))) (.slice (some ⟨g, 0, none⟩) n n) := by
  have h2 := h.set 0 (.int .u8 (x : Nat))
  refine ⟨⟨_, n, rfl, Nat.le_refl _, fun j hj => ⟨_, rfl, ?_⟩, fun j hj => by unfold rowZ; split <;> omega⟩, fun k hk => ?_⟩
  · rw [add_mk, Nat.zero_add, h2.cell hj]
    by_cases e : j = 0
    · subst e
      simp [rowZ]
    · simp [rowZ, e]
  · obtain ⟨cs, hh, _⟩ := h2
    have : g = k := by simpa [Value.ownBlock] using hk
    subst this
    exact ⟨cs, _, hh⟩
/-- A list of one row, as it is handed to Add. -/
theorem one_in {G : Nat → Prop} {w : World} {A : Option Addr} {n c lb : Nat} {f : Nat → Nat} (hb : Byt w (.slice A n c) n f) (ht : Typ8 w (.slice A n c)) (hn : n ≤ 1000000) (hg : ∀ k, (Value.slice A n c).ownBlock = some k → G k) (hl : Boxed w lb 35 (.slice A n c)) (hgl : G lb) {u : World} (hk : Kept G w u) : RowsIn u (some ⟨lb, 0, none⟩) 1 (fun _ => ⟨A, n, c, f⟩) := fun i hi => by
  obtain rfl : i = 0 := by omega
  have hl2 : Boxed u lb 35 (.slice A n c) := (hk.1 lb hgl).trans hl
  exact ⟨_, rfl, hl2.cell, (byt_kept hb ht hg fun k hk' _ => hk.1 k hk').1, by show n ≤ _; omega⟩
theorem need_pos {n : Nat} (h1 : 1 ≤ n) (h2 : n ≤ 392) : needF n ≠ 0 ∧ needF n ≤ 8 := by unfold needF; rw [if_neg (by omega)]; omega
theorem takes_row {Q : QS} {A : Option Addr} {n c : Nat} {f : Nat → Nat} (h1 : 1 ≤ n) (h2 : n ≤ 392) (ht : Q.top < 4294967295) : takesC Q 1 (fun _ => ⟨A, n, c, f⟩) = if Q.behind - Q.ende < needF n then 3 else 0 := by
  have hs : sumN (fun _ => (⟨A, n, c, f⟩ : RowD)) 1 = needF n := by show 0 + needF n = _; omega
  unfold takesC
  rw [hs, if_neg]
  · by_cases h : Q.behind - Q.ende < needF n
    · rw [if_pos (.inl h), if_pos h]
    · rw [if_neg (by omega), if_neg h]
  · rintro ⟨i, _, h⟩
    exact (need_pos h1 h2).1 h
def FillsPost (w V w' : World) (e : Ending) (gd gq : Nat) (S : DS) (K used top n : Nat) (f : Nat → Nat) (rs : List Rec) (G : Nat → Prop) : Prop :=
  ((¬ used + needF n ≤ K → e = .returned (.int .i64 3) ∧ HeldG w w' gd gq S ⟨2, 2 + K, 5, 2 + used, top⟩ G) ∧ (used + needF n ≤ K → e = .returned (.int .i64 0) ∧ ∃ S', Calm S' ⟨2, 2 + K, 5, 2 + (used + needF n), top + 1⟩ (rs ++ [(n, f)]) ∧ HeldG w w' gd gq S' ⟨2, 2 + K, 5, 2 + (used + needF n), top + 1⟩ G)) ∧ Kept G V w'
theorem fills_add {w V : World} {gd gq : Nat} {S : DS} {K used top n lb c cl : Nat} {A : Option Addr} {f : Nat → Nat} {rs : List Rec} {G : Nat → Prop} (h : HeldG w V gd gq S ⟨2, 2 + K, 5, 2 + used, top⟩ G) (hc : Calm S ⟨2, 2 + K, 5, 2 + used, top⟩ rs) (hr : ∀ u, Kept G V u → RowsIn u (some ⟨lb, 0, none⟩) 1 (fun _ => ⟨A, n, c, f⟩)) (h1 : 1 ≤ n) (h2 : n ≤ 392) (ht : top < 1000) (hf : ∀ j, j < n → f j < 256) (hu : used ≤ K) :
    Calls Try.prog 16 #[.pointer (some ⟨gq, 0, none⟩), .slice (some ⟨lb, 0, none⟩) 1 cl] V fun e w' => FillsPost w V w' e gd gq S K used top n f rs G := by
  have htk := takes_row (Q := ⟨2, 2 + K, 5, 2 + used, top⟩) (A := A) (c := c) (f := f) h1 h2 (by show top < _; omega)
  have hbe : (⟨2, 2 + K, 5, 2 + used, top⟩ : QS).behind - (⟨2, 2 + K, 5, 2 + used, top⟩ : QS).ende = K - used := by show 2 + K - (2 + used) = _; omega
  rw [hbe] at htk
  refine (h.add (c := cl) hr (by decide) (by rw [hc.P]; decide)).mono ?_
  rintro e w' ⟨S', Q', k, rfl, ha, hh, hk⟩
  refine ⟨⟨fun hno => ?_, fun hyes => ?_⟩, hk⟩
  · rw [if_pos (by omega)] at htk
    rcases hc.add (fun i _ j hj => hf j hj) ha with ⟨rfl, h0, rfl, rfl⟩ | ⟨_, h0, _⟩
    · exact ⟨by rw [htk], hh⟩
    · rw [htk] at h0
      cases h0
  · rw [if_neg (by omega)] at htk
    rcases hc.add (fun i _ j hj => hf j hj) ha with ⟨e, h0, _⟩ | ⟨rfl, _, _, hq, hcc⟩
    · rw [htk] at e
      exact absurd e h0
    · have hs : sumN (fun _ => (⟨A, n, c, f⟩ : RowD)) 1 = needF n := by show 0 + needF n = _; omega
      have hq2 : Q' = ⟨2, 2 + K, 5, 2 + (used + needF n), top + 1⟩ := by rw [hq, hs]; simp; omega
      subst hq2
      exact ⟨rfl, S', hcc, hh⟩
/-- A row is made, its first byte set, and a list of it. -/
theorem fills_built {w wr w5 : World} {gd gq : Nat} {S : DS} {Q : QS} {G : Nat → Prop} {n x : Nat} (h : HeldG w wr gd gq S Q G) (hr : w5.rowIs wr.heap.size 5 n fun _ => .int .u8 0) (hb : Below wr.heap.size wr w5) (hs : w5.heap.size = wr.heap.size + 1) (hn : 1 ≤ n) (hn2 : n ≤ 1000000) (hx : x < 256) {V : World} (hV : V = (w5.setCell ⟨wr.heap.size, 0, none⟩ (.int .u8 (x : Nat))).alloc (.cells #[.slice (some ⟨wr.heap.size, 0, none⟩) n n] 35)) {G3 : Nat → Prop} (hG : ∀ k, G3 k ↔ G k ∨ (wr.heap.size ≤ k ∧ k < wr.heap.size + 2)) :
    HeldG w V gd gq S Q G3 ∧ (∀ u, Kept G3 V u → RowsIn u (some ⟨w5.heap.size, 0, none⟩) 1 (fun _ => ⟨some ⟨wr.heap.size, 0, none⟩, n, n, rowZ x⟩)) ∧ (Byt V (.slice (some ⟨wr.heap.size, 0, none⟩) n n) n (rowZ x) ∧ Typ8 V (.slice (some ⟨wr.heap.size, 0, none⟩) n n)) ∧ Below wr.heap.size wr V ∧ ∀ k, (Value.slice (some ⟨wr.heap.size, 0, none⟩) n n).ownBlock = some k → G3 k := by
  obtain ⟨m1, m2⟩ := row_made hr hn hx
  have hs1 : (w5.setCell ⟨wr.heap.size, 0, none⟩ (.int .u8 (x : Nat))).heap.size = wr.heap.size + 1 := by simp [World.setCell, hs]
  have hbx := Boxed.new (w5.setCell ⟨wr.heap.size, 0, none⟩ (.int .u8 (x : Nat))) 35 (.slice (some ⟨wr.heap.size, 0, none⟩) n n)
  rw [hs1] at hbx
  have hbV : Below wr.heap.size wr V := by
    rw [hV]
    exact (hb.setCell (Nat.le_refl _) _).alloc (by rw [hs1]; omega) _
  have hsV : V.heap.size = wr.heap.size + 2 := by rw [hV, World.size_alloc, hs1]
  have hb1 := m1.below (below_new _ (.cells #[.slice (some ⟨wr.heap.size, 0, none⟩) n n] 35))
  have hb2 := m2.below (below_new _ (.cells #[.slice (some ⟨wr.heap.size, 0, none⟩) n n] 35))
  rw [← hV] at hb1 hb2 hbx
  have ho : ∀ k, (Value.slice (some ⟨wr.heap.size, 0, none⟩) n n).ownBlock = some k → G3 k := fun k hk => by
    have e : wr.heap.size = k := by simpa [Value.ownBlock] using hk
    exact (hG k).2 (.inr (by omega))
  refine ⟨h.ours (.of_below hbV) fun k hk => ?_, fun u hk => ?_, ⟨hb1, hb2⟩, hbV, ho⟩
  · rw [hsV]
    exact (hG k).1 hk
  · rw [hs]
    exact one_in hb1 hb2 hn2 ho hbx ((hG _).2 (.inr (by omega))) hk
/-- A row is appended to a list of ours: what the append needs, and what is behind it. -/
def AppFits (w w8 : World) (lb : Nat) (v row : Value) (m : Nat) (R : Value → World → Prop) : Prop :=
  ∃ vs, w8.ownsRow w.heap.size 35 1 v m vs ∧ (∀ (j : Nat) (u : Value), [row][j]? = some u → w8.cell? ((⟨lb, 0, none⟩ : Addr).add j) = some u) ∧ (∀ u ∈ [row], u.oneCell' = true) ∧ w.heap.size ≤ w8.heap.size ∧ ∀ v' w', w'.ownsRow w.heap.size 35 1 v' (m + 1) (vs ++ [row]) → w8.grownBy w' v.ownBlock → (v'.ownBlock = v.ownBlock ∨ v'.ownBlock = some w8.heap.size) → R v' w'
theorem fills_app {w w7 : World} {gd gq : Nat} {S : DS} {Q : QS} {G : Nat → Prop} {A : Option Addr} {n c : Nat} {f : Nat → Nat} {v : Value} {rs : List Rec} (h : HeldG w w7 gd gq S Q G) (hl : ListG G w7 w.heap.size v rs) (hb : Byt w7 (.slice A n c) n f) (ht : Typ8 w7 (.slice A n c)) (hn : n ≤ 1000000) (ho : ∀ k, (Value.slice A n c).ownBlock = some k → G k) :
    AppFits w (w7.alloc (.cells #[.slice A n c] 35)) w7.heap.size v (.slice A n c) rs.length fun v' w' => ∃ G5, HeldG w w' gd gq S Q G5 ∧ ListG G5 w' w.heap.size v' (rs ++ [(n, f)]) := by
  have hbn := below_new w7 (.cells #[.slice A n c] 35)
  obtain ⟨vs, o1, o2, o3⟩ := hl.below hbn
  have h8 := h.below hbn
  refine ⟨vs, o1, fun j u hu => ?_, fun u hu => ?_, h8.bel.size, fun v' w' a1 a2 a3 => ?_⟩
  · cases j with
    | zero =>
      simp at hu
      subst hu
      exact (Boxed.new w7 35 (.slice A n c)).cell
    | succ j => simp at hu
  · simp at hu
    subst hu
    rfl
  · refine ⟨fun k => G k ∨ ((w7.alloc (.cells #[.slice A n c] 35)).heap.size ≤ k ∧ k < w'.heap.size), h8.ours (only_grown a2 o2) fun k hk => hk, ListG.snoc o1 o2 o3 (hb.below hbn) (ht.below hbn) hn ho a1 a2 a3 (fun k hk => .inl hk) fun hlt => .inr ⟨Nat.le_refl _, hlt⟩⟩
end Go.Proofs.Yteeomidlnijfbaa

/- SegFills. -/
namespace Go.Proofs.Yteeomidlnijfbaa
open Go.RowKit
set_option linter.unusedSimpArgs false
set_option linter.unusedVariables false

set_option maxRecDepth 100000 in
set_option maxHeartbeats 4000000 in
theorem seg_fills (w : World) (n0 : Nat) (hn0 : n0 < 256) {A : Option Addr} {m c : Nat} {f : Nat → Nat} (hv : Byt w (.slice A m c) m f) (hm : m ≤ 9223372036854775807) :
    Calls Try.prog 4 #[.int .u8 (n0 : Nat), .slice A m c] w fun e w' => e = .returned (.bool true) ∧ Below w.heap.size w w' := by
  have HV : Hid (∀ u j, Below w.heap.size w u → j < m → ∃ ad, A = some ad ∧ u.cell? (ad.add j) = some (.int .u8 (f j : Nat)) ∧ f j < 256) := fun u j hu hj => by
    obtain ⟨A', c', e, _, hr, hf⟩ := hv
    cases e
    obtain ⟨ad, e, hc⟩ := hr j hj
    exact ⟨ad, e, (hu.cell (block_lt_of_cell hc)).trans hc, hf j hj⟩
  have HNEW : Hid (∀ u, Below w.heap.size w u → Calls Try.prog 12 #[.int .i64 44] u fun e w' => ∃ gd, e = .returned (.tuple #[.pointer (some ⟨gd, 0, none⟩), .int .i64 0]) ∧ Held w w' gd (DS.new 44) fun _ => True) := fun u hu => held_new (w0 := w) (w := u) 44 (by omega) (by omega) hu
  obtain ⟨K, hK⟩ : ∃ K, 1 + n0 % 40 = K := ⟨_, rfl⟩
  have hKI : (1 : Int) + ((n0 : Nat) : Int) % 40 = (K : Int) := by omega
  have HMK : Hid (∀ u gd, Held w u gd (DS.new 44) (fun _ => True) → Calls Try.prog 13 #[.pointer (some ⟨gd, 0, none⟩), .int .i64 2, .int .i64 (K : Nat), .int .u32 5] u fun e w' => ∃ gq, e = .returned (.tuple #[.pointer (some ⟨gq, 0, none⟩), .int .i64 0]) ∧ HeldG w w' gd gq (DS.new 44) ⟨2, 2 + K, 5, 2, 4294967295⟩ fun _ => False) := fun u gd h => by
    have hh := h
    obtain ⟨F, Z, hF, _⟩ := hh
    refine (snew_ok hF 2 K 5 (by decide) (by omega) (by show (2 : Int) + K ≤ 44; omega) (by decide)).mono ?_
    rintro e w' ⟨⟨gq, rfl, hg, hq⟩, hb⟩
    have e2 : ((2 : Int) + (K : Int)).toNat = 2 + K := by omega
    rw [e2] at hq
    exact ⟨gq, rfl, HeldG.of (HeldS.of h hb hg hq)⟩
  have HS1 : Hid (∀ u gd gq, HeldG w u gd gq (DS.new 44) ⟨2, 2 + K, 5, 2, 4294967295⟩ (fun _ => False) → Calls Try.prog 14 #[.pointer (some ⟨gq, 0, none⟩)] u fun e w' => ∃ v, e = .returned (.tuple #[v, .int .i64 0]) ∧ Calm (DS.new 44) ⟨2, 2 + K, 5, 2 + 0, 0⟩ [] ∧ HeldG w w' gd gq (DS.new 44) ⟨2, 2 + K, 5, 2 + 0, 0⟩ fun _ => False) := fun u gd gq h => by
    refine (h.scan rfl).mono ?_
    rintro e w' ⟨rs, en, v, l, rfl, hs, hr, hh, _⟩
    obtain ⟨rfl, rfl, ht, hc⟩ := calm_new (Q := ⟨2, 2 + K, 5, 2, 4294967295⟩) rfl rfl rfl h.box.2 (by show 2 + K ≤ 44; omega) (fun k _ _ => new_cell 44 k) hs
    rw [ht] at hc hh
    exact ⟨v, rfl, hc, hh⟩
  have HND : Hid (∀ (n : Nat) (u : World), n ≤ 1000 → Calls Try.prog 20 #[.int .i64 (n : Nat)] u fun e w' => e = .returned (.int .i64 (needF n : Nat)) ∧ u = w') := fun n u hn => (rneed_any n u (by omega)).mono fun e w' h => ⟨h.1, h.2.symm⟩
  have HFR : Hid (∀ u gd gq S used d top G, HeldG w u gd gq S ⟨2, 2 + K, 5, 2 + (used + d), top⟩ G → used + d ≤ K → Calls Try.prog 21 #[.pointer (some ⟨gq, 0, none⟩)] u fun e w' => e = .returned (.int .i64 ((K : Int) - ((used : Int) + (d : Int)))) ∧ Below u.heap.size u w') := fun u gd gq S used d top G h hle => by
    refine h.free.mono ?_
    rintro e w' ⟨rfl, hb⟩
    have : (((⟨2, 2 + K, 5, 2 + (used + d), top⟩ : QS).behind - (⟨2, 2 + K, 5, 2 + (used + d), top⟩ : QS).ende : Nat) : Int) = (K : Int) - ((used : Int) + (d : Int)) := by show ((2 + K - (2 + (used + d)) : Nat) : Int) = _; omega
    exact ⟨by rw [this], hb⟩
  have HFR0 : Hid (∀ u gd gq S used top G, HeldG w u gd gq S ⟨2, 2 + K, 5, 2 + used, top⟩ G → used ≤ K → Calls Try.prog 21 #[.pointer (some ⟨gq, 0, none⟩)] u fun e w' => e = .returned (.int .i64 ((K : Int) - (used : Int))) ∧ Below u.heap.size u w') := fun u gd gq S used top G h hle => by
    refine h.free.mono ?_
    rintro e w' ⟨rfl, hb⟩
    have : (((⟨2, 2 + K, 5, 2 + used, top⟩ : QS).behind - (⟨2, 2 + K, 5, 2 + used, top⟩ : QS).ende : Nat) : Int) = (K : Int) - (used : Int) := by show ((2 + K - (2 + used) : Nat) : Int) = _; omega
    exact ⟨by rw [this], hb⟩
  have HS2 : Hid (∀ u gd gq S Q G rs v, Calm S Q rs → HeldG w u gd gq S Q G → ListG G u w.heap.size v rs → Calls Try.prog 14 #[.pointer (some ⟨gq, 0, none⟩)] u fun e w' => ∃ v2 rs2, e = .returned (.tuple #[v2, .int .i64 0]) ∧ RowsBy w' v2 rs2 ∧ RowsBy w' v rs ∧ SameL rs2 rs ∧ Below w.heap.size w w') := fun u gd gq S Q G rs v hc h hl => by
    refine (h.scan hc.gone).mono ?_
    rintro e w' ⟨rs2, en, v2, l, rfl, hs, hr, hh, hk⟩
    obtain ⟨h1, rfl, _⟩ := hc.scan hs
    exact ⟨v2, rs2, rfl, hr.by_ hs.few, (hl.kept hk).by_, h1.symm, hh.bel⟩
  have hKb : K ≤ 40 := by omega
  have hK1 : 1 ≤ K := by omega
  clear hv hK
  go_enter Try.func4, Try.ntmps4
  go_wp2_with (first
    | (go_at_call 11; refine (awake7 _).mono ?_; rintro e w1 ⟨rfl, hb1⟩; have HB1 := Lib.hid hb1; clear hb1)
    | (go_at_call 12; refine (HNEW.out _ HB1.out).mono ?_; rintro e w2 ⟨gd, rfl, h2⟩; have H2 := Lib.hid h2; clear h2)
    | (go_at_call 13; (try rw [hKI]); refine (HMK.out _ _ H2.out).mono ?_; rintro e w3 ⟨gq, rfl, h3⟩; have H3 := Lib.hid h3; clear h3)
    | (go_at_call 14; refine (HS1.out _ _ _ H3.out).mono ?_; rintro e w4 ⟨v4, rfl, hc4, h4⟩; have HC4 := Lib.hid hc4; have H4 := Lib.hid h4; clear hc4 h4))
  go_loopw [10, 11, 12] (fun x10 x11 x12 wr => ∃ (i used top : Nat) (S : DS) (rs : List Rec) (G : Nat → Prop), i ≤ 60 ∧ i ≤ m ∧ x10 = .int .i64 (used : Nat) ∧ x12 = .int .i64 (i : Nat) ∧ top ≤ i ∧ used ≤ K ∧ rs.length ≤ i ∧ HeldG w wr gd gq S ⟨2, 2 + K, 5, 2 + used, top⟩ G ∧ Calm S ⟨2, 2 + K, 5, 2 + used, top⟩ rs ∧ ListG G wr w.heap.size x11 rs) (fun _ _ x12 _ => 60 - (intOf x12).toNat)
  case atStart => exact ⟨0, 0, 0, _, [], _, by omega, by omega, rfl, rfl, Nat.le_refl _, by omega, Nat.le_refl _, H4.out, HC4.out, ListG.nil⟩
  case round =>
    obtain ⟨i, used, top, S, rs, G, hi60, him, rfl, rfl, hti, huK, hrl, hh, hc, hl⟩ := hrel
    have HB := Lib.hid hh.bel
    have HH := Lib.hid hh
    have HC := Lib.hid hc
    have HL := Lib.hid hl
    clear hh hc hl
    by_cases hlt : i < m
    · by_cases h60 : i < 60
      · obtain ⟨ad, rfl, hcell, hs⟩ := HV.out _ i HB.out hlt
        generalize f i = s at *
        have j1 : (i : Int) < (m : Int) := by omega
        have j2 : (i : Int) < 60 := by omega
        have HBX := Lib.hid (show (1 : Int) + (s : Int) = ((1 + s : Nat) : Int) from by omega)
        have HT := Lib.hid (show i < 256 ∧ 1 ≤ 1 + s ∧ 1 + s ≤ 392 ∧ top < 1000 from by omega)
        have HU : Hid (needF (1 + s) ≤ 8) := Lib.hid (need_few _)
        have hnI : ((1 + s : Nat) : Int) ≤ 1000 := by omega
        have hnP : 0 < 1 + s := by omega
        generalize hn : 1 + s = n at *
        have HN := Lib.hid hn
        clear hn
        obtain ⟨G3, hG3⟩ : ∃ G3 : Nat → Prop, ∀ k, G3 k ↔ G k ∨ (wr.heap.size ≤ k ∧ k < wr.heap.size + 2) := ⟨_, fun k => Iff.rfl⟩
        have HG3 := Lib.hid hG3
        clear hG3
        have HBU : Hid (∀ w5 : World, w5.rowIs wr.heap.size 5 n (fun _ => .int .u8 0) → Below wr.heap.size wr w5 → w5.heap.size = wr.heap.size + 1 → Calls Try.prog 16 #[.pointer (some ⟨gq, 0, none⟩), .slice (some ⟨w5.heap.size, 0, none⟩) 1 1] ((w5.setCell ⟨wr.heap.size, 0, none⟩ (.int .u8 (i : Nat))).alloc (.cells #[.slice (some ⟨wr.heap.size, 0, none⟩) n n] 35)) fun e w' => ∃ V, FillsPost w V w' e gd gq S K used top n (rowZ i) rs G3 ∧ ListG G3 w' w.heap.size u11 rs ∧ Byt w' (.slice (some ⟨wr.heap.size, 0, none⟩) n n) n (rowZ i) ∧ Typ8 w' (.slice (some ⟨wr.heap.size, 0, none⟩) n n) ∧ ∀ k, (Value.slice (some ⟨wr.heap.size, 0, none⟩) n n).ownBlock = some k → G3 k) := fun w5 h1 h2 h3 => by
          obtain ⟨t1, t2, t3, t4⟩ := HT.out
          obtain ⟨a1, a2, ⟨a3, a4⟩, a5, a6⟩ := fills_built HH.out h1 h2 h3 t2 (by omega) t1 rfl HG3.out
          refine (fills_add a1 HC.out a2 t2 t3 t4 (fun j hj => a3.lt j hj) huK).mono ?_
          rintro e w' hp
          obtain ⟨b1, b2⟩ := byt_kept a3 a4 a6 fun k hk _ => hp.2.1 k hk
          exact ⟨_, hp, ((HL.out.below a5).mono fun k hk => (HG3.out k).2 (.inl hk)).kept hp.2, b1, b2, a6⟩
        by_cases hfit : used + needF n ≤ K
        · have HF := Lib.hid hfit
          have j3 : (used : Int) + (needF n : Int) ≤ (K : Int) := by omega
          have HU2 : Hid (used + needF n ≤ 1000) := Lib.hid (by omega)
          have hd1 : (needF n : Int) ≤ 8 := by have := HU.out; omega
          go_wp2_with (first
            | (at_make; refine wpList_make_rowIs rfl _ _ 35 rfl 5 (.int .u8 0) 1 Try.underlying35 u8_info rfl .i64 .i64 _ _ n rfl rfl HBX.out HBX.out (by omega) (by omega) ?_; intro w5 hrow5 hb5 hs5; have HR5 := Lib.hid hrow5; have HB5 := Lib.hid hb5; have HS5 := Lib.hid hs5; have c5 : w5.cell? ⟨wr.heap.size, 0, none⟩ = some (.int .u8 0) := hrow5.cell (i := 0) (by omega); have z5 := hrow5.frozen 0; clear hrow5 hb5 hs5)
            | (go_at_call 20; refine (HND.out n _ (by omega)).mono ?_; rintro e w6 ⟨rfl, rfl⟩)
            | (go_at_call 16; refine (HBU.out _ HR5.out HB5.out HS5.out).mono ?_; rintro e w7 ⟨V7, hp7, hl7, hb7, ht7, ho7⟩; obtain ⟨rfl, S7, hc7, hh7⟩ := hp7.1.2 HF.out; have HC7 := Lib.hid hc7; have HH7 := Lib.hid hh7; have HL7 := Lib.hid hl7; have HB7 := Lib.hid hb7; have HT7 := Lib.hid ht7; have HO7 := Lib.hid ho7; have HAP := Lib.hid (fills_app hh7 hl7 hb7 ht7 (by omega) ho7); clear hp7 hl7 hb7 ht7 ho7 hc7 hh7 c5 z5)
            | (at_builtin; obtain ⟨vs, o1, o2, o3, o4, o5⟩ := HAP.out; refine wpList_append_at rfl _ _ 32 rfl w.heap.size 35 (.slice none 0 0) 1 24 Try.underlying32 rows_info rfl (by omega) _ rs.length vs rfl o1 ⟨w7.heap.size, 0, none⟩ 1 1 _ rfl rfl o2 o3 (by simp only [maxLen]; omega) (by omega) o4 ?_; intro v9 w9 p1 p2 p3; obtain ⟨G5, hh9, hl9⟩ := o5 v9 w9 p1 p2 p3; have HH9 := Lib.hid hh9; have HL9 := Lib.hid hl9; clear o1 o2 o3 o4 o5 p1 p2 p3 hh9 hl9)
            | (go_at_call 21; refine (HFR.out _ _ _ _ _ _ _ _ HH9.out HF.out).mono ?_; rintro e w10 ⟨rfl, hb10⟩; have HB10 := Lib.hid hb10; clear hb10))
          refine ⟨⟨i + 1, used + needF n, top + 1, S7, rs ++ [(n, rowZ i)], G5, by omega, by omega, by rw [Int.natCast_add], by rw [Int.natCast_add]; rfl, by omega, HF.out, by rw [List.length_append, List.length_singleton]; omega, HH9.out.below HB10.out, HC7.out, HL9.out.below HB10.out⟩, by simp [intOf]; omega⟩
        · have HF := Lib.hid hfit
          have j3 : (K : Int) < (used : Int) + (needF n : Int) := by omega
          have HU2 : Hid (used + needF n ≤ 1000) := Lib.hid (by have := HU.out; omega)
          have hd1 : (needF n : Int) ≤ 8 := by have := HU.out; omega
          go_wp2_with (first
            | (at_make; refine wpList_make_rowIs rfl _ _ 35 rfl 5 (.int .u8 0) 1 Try.underlying35 u8_info rfl .i64 .i64 _ _ n rfl rfl HBX.out HBX.out (by omega) (by omega) ?_; intro w5 hrow5 hb5 hs5; have HR5 := Lib.hid hrow5; have HB5 := Lib.hid hb5; have HS5 := Lib.hid hs5; have c5 : w5.cell? ⟨wr.heap.size, 0, none⟩ = some (.int .u8 0) := hrow5.cell (i := 0) (by omega); have z5 := hrow5.frozen 0; clear hrow5 hb5 hs5)
            | (go_at_call 20; refine (HND.out n _ (by omega)).mono ?_; rintro e w6 ⟨rfl, rfl⟩)
            | (go_at_call 16; refine (HBU.out _ HR5.out HB5.out HS5.out).mono ?_; rintro e w7 ⟨V7, hp7, hl7, hb7, ht7, ho7⟩; obtain ⟨rfl, hh7⟩ := hp7.1.1 HF.out; have HH7 := Lib.hid hh7; have HL7 := Lib.hid hl7; clear hp7 hl7 hb7 ht7 ho7 hh7 c5 z5)
            | (go_at_call 21; refine (HFR0.out _ _ _ _ _ _ _ HH7.out huK).mono ?_; rintro e w10 ⟨rfl, hb10⟩; have HB10 := Lib.hid hb10; clear hb10))
          refine ⟨⟨i + 1, used, top, S, rs, G3, by omega, by omega, rfl, by rw [Int.natCast_add]; rfl, by omega, huK, by omega, HH7.out.below HB10.out, HC.out, HL7.out.below HB10.out⟩, by simp [intOf]; omega⟩
      · obtain rfl : i = 60 := by omega
        have HLN := Lib.hid hrl
        have j1 : (60 : Int) < (m : Int) := by omega
        clear hrl
        go_wp2_with (first
          | (go_at_call 14; refine (HS2.out _ _ _ _ _ _ _ _ HC.out HH.out HL.out).mono ?_; rintro e w5 ⟨v5, rs5, rfl, hr5, hl5, hs5, hb5⟩; have HR5 := Lib.hid hr5; have HL5 := Lib.hid hl5; have HS5 := Lib.hid hs5; have HB5 := Lib.hid hb5; clear hr5 hl5 hs5 hb5)
          | (go_at_call 19; refine (alikeL_yes HR5.out HL5.out HS5.out (by have := HS5.out.len; have := HLN.out; omega)).mono ?_; rintro e w6 ⟨rfl, hb6⟩; have HB6 := Lib.hid hb6; clear hb6))
        go_ret
        exact ⟨rfl, bbt HB5.out HB6.out⟩
    · obtain rfl : i = m := by omega
      have HLN := Lib.hid hrl
      clear hrl
      go_wp2_with (first
        | (go_at_call 14; refine (HS2.out _ _ _ _ _ _ _ _ HC.out HH.out HL.out).mono ?_; rintro e w5 ⟨v5, rs5, rfl, hr5, hl5, hs5, hb5⟩; have HR5 := Lib.hid hr5; have HL5 := Lib.hid hl5; have HS5 := Lib.hid hs5; have HB5 := Lib.hid hb5; clear hr5 hl5 hs5 hb5)
        | (go_at_call 19; refine (alikeL_yes HR5.out HL5.out HS5.out (by have := HS5.out.len; have := HLN.out; omega)).mono ?_; rintro e w6 ⟨rfl, hb6⟩; have HB6 := Lib.hid hb6; clear hb6))
      go_ret
      exact ⟨rfl, bbt HB5.out HB6.out⟩
end Go.Proofs.Yteeomidlnijfbaa
