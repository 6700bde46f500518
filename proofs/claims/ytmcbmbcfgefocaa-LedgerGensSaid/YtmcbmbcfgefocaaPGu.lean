/- Contract: Compact; a lost ledger. -/
import Derived.Test.YtmcbmbcfgefocaaPGs
namespace Go.Proofs.Ytmcbmbcfgefocaa
open Go.RowKit Go.Shelf
set_option linter.unusedSimpArgs false
set_option linter.unusedVariables false

section
variable {w0 w w' : World} {gl gd gq gq2 : Nat} {S S' S2 : DS} {Q Q' Q1 : QS} {v : Value} {rs rs2 : List Rec} {G Z Z' : Nat → Prop} {N M n : Nat} {R : Nat → RowD}
/-- How Compact ends. -/
def CompactPost (w0 w w' : World) (e : Ending) (gl gd gq : Nat) (N M : Nat) (S : DS) (Q : QS) (v : Value) (rs : List Rec) (n : Nat) (R : Nat → RowD) (Z : Nat → Prop) : Prop :=
  ((∃ i, i < n ∧ needF (R i).n = 0) ∧ e = .returned (.int .i64 1) ∧ Led w0 w' gl gd gq S Q v rs Z ∧ Kept Z w w') ∨
  ((∀ i, i < n → needF (R i).n ≠ 0) ∧ ¬ CompOk N Q n R ∧ e = .returned (.int .i64 3) ∧ Led w0 w' gl gd gq S Q v rs Z ∧ Kept Z w w') ∨
  (CompOk N Q n R ∧ e = .returned (.int .i64 0) ∧ ∃ gq2 S2 Q1 v2, LedS N (M + n) S2 Q1 (recsOf R n) ∧ Q1.gen = Q.gen + 1 ∧ Q1.ende = Q1.first + sumN R n ∧ Led w0 w' gl gd gq2 S2 Q1 v2 (recsOf R n) Z ∧ Kept Z w w')
set_option maxRecDepth 100000 in
set_option maxHeartbeats 2000000 in
theorem Led.compact (hN : 18 ≤ N) (hN2 : N ≤ 512) (hM : M ≤ 1000000) (hS : LedS N M S Q rs) (hL : Led w0 w gl gd gq S Q v rs Z) {A : Option Addr} {c : Nat} (hR : ∀ V, Kept Z w V → Below w0.heap.size w0 V → RowsIn V A n R) (hn : n ≤ 100000) :
    Calls Try.prog 12 #[.pointer (some ⟨gl, 0, none⟩), .slice A n c] w fun e w' => CompactPost w0 w w' e gl gd gq N M S Q v rs n R Z := by
  have hzw := fun k hk => (hL.z_lt k hk).2
  obtain ⟨w1, hw1⟩ : ∃ w1, (w.alloc (.cells #[.pointer (some ⟨gl, 0, none⟩)] 28)).alloc (.cells #[.slice A n c] 33) = w1 := ⟨_, rfl⟩
  have hs1 : w1.heap.size = w.heap.size + 2 := by rw [← hw1]; simp
  have hb1 : Below w.heap.size w w1 := by rw [← hw1]; exact (below_new _ _).trans ((below_new _ _).mono (by simp))
  have hx1 : Boxed w1 w.heap.size 28 (.pointer (some ⟨gl, 0, none⟩)) := by rw [← hw1]; exact (Boxed.new w _ _).alloc _
  have hx2 : Boxed w1 (w.heap.size + 1) 33 (.slice A n c) := by
    rw [← hw1]
    have := Boxed.new (w.alloc (.cells #[.pointer (some ⟨gl, 0, none⟩)] 28)) 33 (.slice A n c)
    rw [World.size_alloc] at this
    exact this
  have hbc := callW_below w1 gl
  have hsc := callW_size w1 gl
  have hb := hb1.trans (hbc.mono hb1.size)
  obtain ⟨y1, y2⟩ := callW_boxes w1 gl
  have hLc : Led w0 (callW w1 gl) gl gd gq S Q v rs (fun k => Z k ∨ (w.heap.size ≤ k ∧ k < (callW w1 gl).heap.size)) := hL.new hb fun k hk => hk
  have hz : ∀ k, w.heap.size ≤ k → k < w.heap.size + 4 → (Z k ∨ (w.heap.size ≤ k ∧ k < (callW w1 gl).heap.size)) := fun k h1 h2 => .inr ⟨h1, by omega⟩
  have hr1 := hL.row.of_block (hb1.block gl hL.row.lt)
  have key : ∀ e w2, CompPost w0 (callW w1 gl) w2 e gl gd gq N M S Q v rs n R (fun k => Z k ∨ (w.heap.size ≤ k ∧ k < (callW w1 gl).heap.size)) → (∃ k, e = mustE k ∧ k ≠ 4) ∧ Kept (fun k => Z k ∨ (w.heap.size ≤ k ∧ k < (callW w1 gl).heap.size)) (callW w1 gl) w2 ∧ ∃ V, w2.rowIs gl 56 4 V := fun e w2 h => by
    rcases h with ⟨_, rfl, h1, h2⟩ | ⟨_, _, rfl, h1, h2⟩ | ⟨_, rfl, gq2, S2, Q1, v2, _, _, _, h1, h2⟩
    · exact ⟨⟨1, rfl, by decide⟩, h2, _, h1.row⟩
    · exact ⟨⟨3, rfl, by decide⟩, h2, _, h1.row⟩
    · exact ⟨⟨0, rfl, by decide⟩, h2, _, h1.row⟩
  have HC : Hid (Calls Try.prog 23 #[.pointer (some ⟨gl, 0, none⟩), .func (.func 25) #[] #[.pointer (some ⟨w.heap.size + 1, 0, none⟩), .pointer (some ⟨w.heap.size, 0, none⟩)]] w1 fun e w' => (∃ k, e = .returned (.int .i64 k)) ∧ CompactPost w0 w w' e gl gd gq N M S Q v rs n R Z) := Lib.hid (by
    refine (call_any (RF := fun e w' => CompPost w0 (callW w1 gl) w' e gl gd gq N M S Q v rs n R (fun k => Z k ∨ (w.heap.size ≤ k ∧ k < (callW w1 gl).heap.size))) (args := #[.pointer (some ⟨w.heap.size + 1, 0, none⟩), .pointer (some ⟨w.heap.size, 0, none⟩)]) (by simp) cf_compact hr1
      (compact_any hN hN2 hM hS hLc (hz _ (by omega) (by omega)) (hz _ (by omega) (by omega)) ((hbc.block _ (by omega)).trans hx2) ((hbc.block _ (by omega)).trans hx1) (fun V hV hB => hR V ⟨fun k hk => (hV.1 k (.inl hk)).trans (hb.block k (hzw k hk)), Nat.le_trans hb.size hV.2⟩ hB) hn) fun e w2 h => ?_).mono fun e w' h => ?_
    · obtain ⟨⟨k, rfl, _⟩, h3, h4⟩ := key e w2 h
      exact ⟨(h3.1 _ (hz _ (by omega) (by omega))).trans y1, ⟨_, (h3.1 _ (hz _ (by omega) (by omega))).trans y2⟩, h4, mustE_or k⟩
    · obtain ⟨k, w2, h1, rfl, hc⟩ := h.code fun e w2 h => by
        obtain ⟨⟨k, rfl, _⟩, _⟩ := key e w2 h
        exact ⟨k, rfl⟩
      have hke : ∀ j, mustE k = mustE j → k = j := fun j hkk => by
        unfold mustE at hkk
        by_cases a0 : k = 0 <;> by_cases b0 : j = 0 <;> by_cases a4 : k = 4 <;> by_cases b4 : j = 4 <;> simp [a0, b0, a4, b4] at hkk ⊢ <;> omega
      have fin : ∀ {gq : Nat} {S : DS} {Q : QS} {v : Value} {rs : List Rec}, k ≠ 4 → Led w0 w2 gl gd gq S Q v rs (fun k => Z k ∨ (w.heap.size ≤ k ∧ k < (callW w1 gl).heap.size)) → Kept (fun k => Z k ∨ (w.heap.size ≤ k ∧ k < (callW w1 gl).heap.size)) (callW w1 gl) w2 → Led w0 w' gl gd gq S Q v rs Z ∧ Kept Z w w' := fun hk4 h2 h3 => by
        obtain ⟨l1, _⟩ := led_left (w' := w') (k := k) hb (fun _ => Iff.rfl) hzw (c := w1.heap.size + 1) (by omega) (by omega) h2 h3 y2
        rcases hc with ⟨_, hw⟩ | ⟨h4, _⟩
        · exact l1 hw
        · exact absurd h4 hk4
      refine ⟨⟨k, rfl⟩, ?_⟩
      rcases h1 with ⟨a1, hk, a2, a3⟩ | ⟨a0, a1, hk, a2, a3⟩ | ⟨a1, hk, gq2, S2, Q1, v2, b1, b2, b3, a2, a3⟩
      · obtain rfl := hke 1 hk
        obtain ⟨m1, m2⟩ := fin (by decide) a2 a3
        exact .inl ⟨a1, rfl, m1, m2⟩
      · obtain rfl := hke 3 hk
        obtain ⟨m1, m2⟩ := fin (by decide) a2 a3
        exact .inr (.inl ⟨a0, a1, rfl, m1, m2⟩)
      · obtain rfl := hke 0 hk
        obtain ⟨m1, m2⟩ := fin (by decide) a2 a3
        exact .inr (.inr ⟨a1, rfl, gq2, S2, Q1, v2, b1, b2, b3, m1, m2⟩))
  have hmf : ∀ (fn : Fn) (first cap : Array Value) (w : World), (Instr.makeFunc fn first cap).run Try.prog w = .ok (.func fn first cap) w := fun _ _ _ _ => rfl
  have HW := Lib.hid hw1
  clear hS hL hs1 hb1 hx1 hx2 hbc hsc hb y1 y2 hLc hz hr1 hzw hR hn hw1 key
  go_enter Try.func12, Try.ntmps12
  go_wp2_with (go_at_call 23; rw [HW.out]; refine HC.out.mono ?_; rintro e w2 ⟨⟨k, rfl⟩, hp⟩; have HP := Lib.hid hp; clear hp)
  go_ret
  exact HP.out
end
end Go.Proofs.Ytmcbmbcfgefocaa

/- A ledger on a disk that loses nothing: its contracts in one word. -/
namespace Go.Proofs.Ytmcbmbcfgefocaa
open Go.RowKit Go.Shelf
set_option linter.unusedSimpArgs false
set_option linter.unusedVariables false

/-- A ledger's disk: so many sectors, its generation, how many are used, its records. -/
def Dg (w0 w : World) (gd N M g used : Nat) (rs : List Rec) (Z : Nat → Prop) : Prop := ∃ S Q, HeldD w0 w gd S Z ∧ LedS N M S Q rs ∧ Q.gen = g ∧ Q.ende = Q.first + used
/-- A ledger. -/
def Lg (w0 w : World) (gl gd N M g used : Nat) (rs : List Rec) (Z : Nat → Prop) : Prop := ∃ gq S Q v, Led w0 w gl gd gq S Q v rs Z ∧ LedS N M S Q rs ∧ Q.gen = g ∧ Q.ende = Q.first + used
section
variable {w0 w w' : World} {gl gd N M g used n : Nat} {rs : List Rec} {R : Nat → RowD} {Z Z' : Nat → Prop}
theorem Lg.bel (h : Lg w0 w gl gd N M g used rs Z) : Below w0.heap.size w0 w := by
  obtain ⟨gq, S, Q, v, h1, h2⟩ := h
  exact h1.bel
theorem Lg.new (h : Lg w0 w gl gd N M g used rs Z) (hb : Below w.heap.size w w') (hZ : ∀ k, Z' k → Z k ∨ (w.heap.size ≤ k ∧ k < w'.heap.size)) : Lg w0 w' gl gd N M g used rs Z' := by
  obtain ⟨gq, S, Q, v, h1, h2⟩ := h
  exact ⟨gq, S, Q, v, h1.new hb hZ, h2⟩
theorem Lg.below (h : Lg w0 w gl gd N M g used rs Z) (hb : Below w.heap.size w w') : Lg w0 w' gl gd N M g used rs Z := h.new hb fun k hk => .inl hk
theorem Lg.less (h : Lg w0 w gl gd N M g used rs Z) (hZ : ∀ k, Z' k → Z k) : Lg w0 w gl gd N M g used rs Z' := h.new (Below.refl _ _) fun k hk => .inl (hZ k hk)
theorem Lg.disk (h : Lg w0 w gl gd N M g used rs Z) : Dg w0 w gd N M g used rs Z := by
  obtain ⟨gq, S, Q, v, h1, h2⟩ := h
  exact ⟨S, Q, h1.1.disk.mono fun k hk => .inr (.inr hk), h2⟩
theorem Lg.few (h : Lg w0 w gl gd N M g used rs Z) : rs.length ≤ 200 ∧ (∀ r ∈ rs, r.1 ≤ 1000) ∧ used ≤ halfN N := by
  obtain ⟨gq, S, Q, v, h1, h2, h3, h4⟩ := h
  refine ⟨h2.few, h2.calm.few, ?_⟩
  have := h2.calm.ok.2.1
  have := h2.first
  have := h2.behind
  omega
theorem LedS.load_ (hN : 18 ≤ N) {S : DS} {Q : QS} (h : LedS N M S Q rs) : S.load = (Q.gen, 0) := by
  have he := calm_sti h.calm
  have hr := h.root
  have hn := h.n
  rw [he, sti_load (by omega)]
  rw [he, rdS_sti, rdS_sti, if_pos (by omega), if_pos (by omega)] at hr
  rw [hr]
/-- A new disk. -/
theorem dg_new (hN : 18 ≤ N) (hN2 : N ≤ 512) (h : HeldD w0 w gd (DS.new N) Z) : Dg w0 w gd N 0 0 0 [] Z := by
  obtain ⟨h1, h2, h3⟩ := led_new (N := N) hN hN2 (rs := []) (en := (segQ N 0).first) (l := 0) (.none_ fun a b => by rw [new_cell] at b; cases b)
  exact ⟨_, _, h, h2, rfl, rfl⟩
theorem held_disk (hN : 1 ≤ N) (hN2 : N ≤ 512) : Calls Try.prog 8 #[.int .i64 (N : Nat)] w fun e w' => ∃ gd, e = .returned (.tuple #[.pointer (some ⟨gd, 0, none⟩), .int .i64 0]) ∧ HeldD w w' gd (DS.new N) (fun _ => False) := by
  refine (held_new (w0 := w) (w := w) N hN hN2 (Below.refl _ _)).mono ?_
  rintro e w' ⟨gd, rfl, F, Y, h1, h2, h3, h4, h5⟩
  exact ⟨gd, rfl, F, h1, h2, fun k hk => ⟨(h3 k hk).1, id⟩, fun _ h => h.elim⟩
/-- Opened. -/
theorem Dg.open_ (hN : 18 ≤ N) (hN2 : N ≤ 512) (h : Dg w0 w gd N M g used rs Z) : Calls Try.prog 9 #[.pointer (some ⟨gd, 0, none⟩)] w fun e w' => ∃ gl rs2, e = .returned (.tuple #[.pointer (some ⟨gl, 0, none⟩), .int .i64 0]) ∧ SameL rs rs2 ∧ Lg w0 w' gl gd N M g used rs2 Z ∧ Kept Z w w' := by
  obtain ⟨S, Q, h1, h2, h3, h4⟩ := h
  have hgen : g < 4294967296 := by rw [← h3]; exact h2.calm.ok.2.2.2.1
  refine (open_yes h1 h2.n hN hN2 h2.calm.gone (by rw [h2.load_ hN, h3]) hgen fun rs' en l hs => ?_).mono ?_
  · rw [← h3] at hs
    exact (h2.open_ hs).2.1.few
  · rintro e w' ⟨gl, gq, rs', en, l, v, rfl, hs, hL, hk⟩
    rw [← h3] at hs hL
    obtain ⟨a1, a2, a3⟩ := h2.open_ hs
    refine ⟨gl, rs', rfl, a1, ⟨gq, S, _, v, hL, a2, h3, ?_⟩, hk⟩
    show en = (segQ N Q.gen).first + used
    rw [a3, h4, h2.first]
    rfl
theorem Dg.up (h : Dg w0 w gd N M g used rs Z) : Calls Try.prog 18 #[.pointer (some ⟨gd, 0, none⟩), .slice none 0 0] w fun e w' => e = .returned (.tuple #[]) ∧ Dg w0 w' gd N M g used rs Z ∧ Kept Z w w' := by
  obtain ⟨S, Q, h1, h2, h3, h4⟩ := h
  have := h1.up (by rw [h2.calm.P]; decide)
  rw [calm_up h2.calm.gone h2.calm.left h2.calm.P] at this
  exact this.mono fun e w' h => ⟨h.1, ⟨S, Q, h.2.1, h2, h3, h4⟩, h.2.2⟩
theorem Lg.free (h : Lg w0 w gl gd N M g used rs Z) : Calls Try.prog 15 #[.pointer (some ⟨gl, 0, none⟩)] w fun e w' => e = .returned (.int .i64 ((halfN N - used : Nat) : Int)) ∧ Below w.heap.size w w' := by
  obtain ⟨gq, S, Q, v, h1, h2, h3, h4⟩ := h
  have e : Q.behind - Q.ende = halfN N - used := by
    have := h2.first
    have := h2.behind
    omega
  have := h1.free
  rw [e] at this
  exact this
theorem Lg.gen (h : Lg w0 w gl gd N M g used rs Z) : Calls Try.prog 13 #[.pointer (some ⟨gl, 0, none⟩)] w fun e w' => e = .returned (.int .u32 (g : Nat)) ∧ w = w' := by
  obtain ⟨gq, S, Q, v, h1, h2, h3, h4⟩ := h
  have := h1.gen
  rw [h3] at this
  exact this
theorem Lg.used_ (hN : 18 ≤ N) (hN2 : N ≤ 512) (h : Lg w0 w gl gd N M g used rs Z) : Calls Try.prog 14 #[.pointer (some ⟨gl, 0, none⟩)] w fun e w' => e = .returned (.int .i64 ((used : Nat) : Int)) ∧ Below w.heap.size w w' := by
  obtain ⟨gq, S, Q, v, h1, h2, h3, h4⟩ := h
  have e : Q.ende - Q.first = used := by omega
  have := h1.used (by rw [h2.n]; omega) (by rw [h2.n]; omega) (by rw [h2.n, h2.behind, h2.first])
  rw [e] at this
  exact this
theorem Lg.records (h : Lg w0 w gl gd N M g used rs Z) : Calls Try.prog 17 #[.pointer (some ⟨gl, 0, none⟩)] w fun e w' => (∃ v', e = .returned v' ∧ ListG (fun k => w.heap.size ≤ k ∧ k < w'.heap.size) w' w.heap.size v' rs) ∧ Below w.heap.size w w' := by
  have hf := h.few
  obtain ⟨gq, S, Q, v, h1, h2⟩ := h
  exact h1.records hf.2.1 hf.1
/-- Whether a record more fits. -/
def AppOk (N used n : Nat) (rs : List Rec) : Prop := rs.length < 200 ∧ used + needF n ≤ halfN N
theorem Lg.append (hN : 18 ≤ N) (hN2 : N ≤ 512) (hM : M ≤ 1000000) (h : Lg w0 w gl gd N M g used rs Z) {A : Option Addr} {n c : Nat} {f : Nat → Nat} (hrec : ∀ V, Kept Z w V → Byt V (.slice A n c) n f) (hn1 : 1 ≤ n) (hn2 : n ≤ 392) :
    Calls Try.prog 19 #[.pointer (some ⟨gl, 0, none⟩), .slice A n c] w fun e w' => Kept Z w w' ∧ ((AppOk N used n rs ∧ e = .returned (.int .i64 0) ∧ Lg w0 w' gl gd N (M + 1) g (used + needF n) (rs ++ [(n, f)]) Z) ∨ (¬ AppOk N used n rs ∧ e = .returned (.int .i64 3) ∧ Lg w0 w' gl gd N M g used rs Z)) := by
  have hfew := h.few
  obtain ⟨gq, S, Q, v, h1, h2, h3, h4⟩ := h
  have hnp := need_pos hn1 hn2
  have hb := (hrec w ⟨fun _ _ => rfl, Nat.le_refl _⟩)
  have hf : ∀ i, i < 1 → ∀ j, j < (⟨A, n, c, f⟩ : RowD).n → (⟨A, n, c, f⟩ : RowD).f j < 256 := fun i _ j hj => hb.lt j hj
  have htop := h2.top
  have htk := takes_row (Q := Q) (A := A) (c := c) (f := f) hn1 hn2 (by omega)
  have hfree : Q.behind - Q.ende = halfN N - used := by
    have := h2.first
    have := h2.behind
    omega
  rw [hfree] at htk
  refine (h1.append (by rw [h2.calm.P]; decide) hrec (by omega) (by have := h2.few; omega)).mono ?_
  rintro e w' ⟨k, S', Q', rs', rfl, ha, hk, hc⟩
  refine ⟨hk, ?_⟩
  cases ha with
  | arg h => exact absurd h hnp.1
  | full h hl =>
    rcases hc with ⟨_, v', hL⟩ | ⟨h4, _⟩
    · exact .inr ⟨fun a => by have := a.1; omega, rfl, gq, _, _, v', hL, h2, h3, h4⟩
    · cases h4
  | bad h hl ha hk0 =>
    rcases h2.calm.add hf ha with ⟨e, h0, rfl, rfl⟩ | ⟨e, _⟩
    · rw [htk] at e
      split at e
      · rename_i hlt
        subst e
        rcases hc with ⟨_, v', hL⟩ | ⟨h4, _⟩
        · exact .inr ⟨fun a => by have := a.2; omega, rfl, gq, _, _, v', hL, h2, h3, h4⟩
        · cases h4
      · exact absurd e hk0
    · exact absurd e hk0
  | ok h hl ha =>
    obtain ⟨a1, a2, a3, a4, a5⟩ := h2.add hN ha (by decide) (by omega) hf
    have hs : sumN (fun _ => (⟨A, n, c, f⟩ : RowD)) 1 = needF n := by show 0 + needF n = _; omega
    have hfit : used + needF n ≤ halfN N := by
      have b1 := a1.calm.ok.2.1
      have b2 := a1.first
      have b3 := a1.behind
      rw [hs] at a3
      omega
    rcases hc with ⟨_, v', hL⟩ | ⟨h4, _⟩
    · refine .inl ⟨⟨hl, hfit⟩, rfl, gq, _, _, v', hL, a1, by rw [a2, h3], ?_⟩
      rw [a3, a4, h4, hs]
      omega
    · cases h4
theorem Lg.compact (hN : 18 ≤ N) (hN2 : N ≤ 512) (hM : M ≤ 1000000) (h : Lg w0 w gl gd N M g used rs Z) {A : Option Addr} {c : Nat} (hR : ∀ V, Kept Z w V → Below w0.heap.size w0 V → RowsIn V A n R) (hn : n ≤ 100000) :
    Calls Try.prog 12 #[.pointer (some ⟨gl, 0, none⟩), .slice A n c] w fun e w' => Kept Z w w' ∧ ((((∀ i, i < n → needF (R i).n ≠ 0) ∧ n ≤ 200 ∧ sumN R n ≤ halfN N ∧ g + 1 < 4294967296) ∧ e = .returned (.int .i64 0) ∧ Lg w0 w' gl gd N (M + n) (g + 1) (sumN R n) (recsOf R n) Z) ∨ (¬ ((∀ i, i < n → needF (R i).n ≠ 0) ∧ n ≤ 200 ∧ sumN R n ≤ halfN N ∧ g + 1 < 4294967296) ∧ (∃ k : Int, k ≠ 0 ∧ e = .returned (.int .i64 k)) ∧ Lg w0 w' gl gd N M g used rs Z)) := by
  obtain ⟨gq, S, Q, v, h1, h2, h3, h4⟩ := h
  refine (h1.compact hN hN2 hM h2 hR hn).mono ?_
  rintro e w' (⟨a1, rfl, a2, a3⟩ | ⟨a0, a1, rfl, a2, a3⟩ | ⟨a1, rfl, gq2, S2, Q1, v2, b1, b2, b3, a2, a3⟩)
  · exact ⟨a3, .inr ⟨fun hh => by obtain ⟨i, hi, e⟩ := a1; exact hh.1 i hi e, ⟨1, by decide, rfl⟩, gq, S, Q, v, a2, h2, h3, h4⟩⟩
  · refine ⟨a3, .inr ⟨fun hh => a1 ⟨hh.1, hh.2.1, hh.2.2.1, by rw [h3]; exact hh.2.2.2⟩, ⟨3, by decide, rfl⟩, gq, S, Q, v, a2, h2, h3, h4⟩⟩
  · refine ⟨a3, .inl ⟨⟨a1.1, a1.2.1, a1.2.2.1, by rw [← h3]; exact a1.2.2.2⟩, rfl, gq2, S2, Q1, v2, a2, b1, by rw [b2, h3], b3⟩⟩
end
end Go.Proofs.Ytmcbmbcfgefocaa
