/- Contract: clones. -/
import Derived.Test.YtmcbmbcfgefocaaPNz
import Derived.Test.YtmcbmbcfgefocaaPGc
import Derived.Deep.RegionHeld3
import Derived.Test.YtmcbmbcfgefocaaPDa
import Derived.Test.YtmcbmbcfgefocaaPDl
import Derived.Lib.SlBytesConst
namespace Go.Proofs.Ytmcbmbcfgefocaa
open Go.RowKit Go.Shelf
set_option linter.unusedSimpArgs false
set_option linter.unusedVariables false

/-- Bytes in a block that is new. -/
def NewBy (w w' : World) (v : Value) : Prop := ∀ k, v.ownBlock = some k → w.heap.size ≤ k ∧ k < w'.heap.size
theorem clone_byt {w : World} {v : Value} {n : Nat} {f : Nat → Nat} (h : Byt w v n f) (hn : n ≤ 1000000) : Calls Try.prog 39 #[v] w fun e w' => ∃ v', e = .returned v' ∧ Byt w' v' n f ∧ Typ8 w' v' ∧ Below w.heap.size w w' ∧ NewBy w w' v' := by
  obtain ⟨A, c, rfl, hc, hr, hf⟩ := h
  cases A with
  | none =>
    have h0 : n = 0 := by
      by_cases h0 : n = 0
      · exact h0
      · obtain ⟨ad, e, _⟩ := hr 0 (by omega)
        cases e
    subst h0
    refine (clone_nil 0 c w).mono ?_
    rintro e w' ⟨rfl, rfl⟩
    exact ⟨_, rfl, ⟨none, 0, rfl, Nat.le_refl _, fun j hj => absurd hj (Nat.not_lt_zero _), hf⟩, Typ8.none, Below.refl _ _, fun k e => by cases e⟩
  | some ad =>
    refine (clone_own ad n c f w hr hn).mono ?_
    rintro e w' ⟨⟨v, rfl, ho⟩, hb⟩
    refine ⟨v, rfl, ?_, own_typ8 ho, hb, fun k e => World.ownsRow.lt ho k e⟩
    have hlen : ∃ A c, v = .slice A n c ∧ n ≤ c := by
      rcases ho.2 with ⟨e, h0⟩ | ⟨g, c, cur, e, _, _, hc, _⟩
      · exact ⟨none, 0, by rw [e, h0], by omega⟩
      · exact ⟨_, c, e, by simpa using hc⟩
    obtain ⟨A, c, rfl, hc⟩ := hlen
    exact ⟨A, c, rfl, hc, ho.rd_, hf⟩
theorem RecsAt.base {w : World} {base : Nat} {v : Value} {rs : List Rec} (h : RecsAt w base v rs) : ∀ k, v.ownBlock = some k → base ≤ k := fun k e => by
  obtain ⟨vs, h1, _⟩ := h
  rcases h1.2 with ⟨e1, _⟩ | ⟨g, c, cur, e1, hb, _⟩
  · rw [e1] at e; cases e
  · rw [e1] at e
    have : g = k := by simpa [Value.ownBlock] using e
    omega
theorem Byt.one {w : World} {v : Value} {n : Nat} {f : Nat → Nat} (h : Byt w v n f) : v.oneCell' = true := by
  obtain ⟨A, c, rfl, _⟩ := h
  rfl
/-- Of a list's first rows one row more. -/
theorem take_more {rs : List Rec} {k : Nat} {r : Rec} (h : rs[k]? = some r) : rs.take (k + 1) = rs.take k ++ [r] := by
  rw [List.take_add_one, h]
  rfl
/-- A list of clones grows by one. -/
theorem clones_app {w7 : World} {v u : Value} {base : Nat} {rs : List Rec} {r : Rec} (hl : RecsAt w7 base v rs) (hb : Byt w7 u r.1 r.2) (ht : Typ8 w7 u) (hbase : base ≤ w7.heap.size) (hu : u.oneCell' = true) {R : Value → World → Prop} (hR : ∀ v' w', RecsAt w' base v' (rs ++ [r]) → (w7.alloc (.cells #[u] 35)).grownBy w' v.ownBlock → (v'.ownBlock = v.ownBlock ∨ v'.ownBlock = some (w7.heap.size + 1)) → R v' w') :
    ∃ vs, (w7.alloc (.cells #[u] 35)).ownsRow base 35 1 v rs.length vs ∧ (∀ (j : Nat) (x : Value), [u][j]? = some x → (w7.alloc (.cells #[u] 35)).cell? ((⟨w7.heap.size, 0, none⟩ : Addr).add j) = some x) ∧ (∀ x ∈ [u], x.oneCell' = true) ∧ base ≤ (w7.alloc (.cells #[u] 35)).heap.size ∧ ∀ v' w', w'.ownsRow base 35 1 v' (rs.length + 1) (vs ++ [u]) → (w7.alloc (.cells #[u] 35)).grownBy w' v.ownBlock → (v'.ownBlock = v.ownBlock ∨ v'.ownBlock = some (w7.alloc (.cells #[u] 35)).heap.size) → R v' w' := by
  have hbn := below_new w7 (.cells #[u] 35)
  obtain ⟨vs, h1, h2⟩ := hl.below hbn
  have hb8 := hb.below hbn
  have ht8 := ht.below hbn
  refine ⟨vs, h1, fun j x hx => ?_, fun x hx => ?_, by rw [World.size_alloc]; omega, fun v' w' a1 a2 a3 => ?_⟩
  · cases j with
    | zero =>
      simp at hx
      subst hx
      exact (Boxed.new w7 35 u).cell
    | succ j => simp at hx
  · simp at hx
    subst hx
    exact hu
  · rw [World.size_alloc] at a3
    have key : ∀ (x : Value) (m : Nat) (f : Nat → Nat), Byt (w7.alloc (.cells #[u] 35)) x m f → Typ8 (w7.alloc (.cells #[u] 35)) x → Byt w' x m f ∧ Typ8 w' x := fun x m f hb ht => by
      refine byt_kept (G := fun k => x.ownBlock = some k) hb ht (fun k e => e) fun k e hlt => a2.block k hlt fun e' => ?_
      obtain ⟨cs, m, h⟩ := ht k e
      rcases h1.2 with ⟨e1, _⟩ | ⟨g, c, cur, e1, _, hgb, _⟩
      · rw [e1] at e'
        cases e'
      · rw [e1] at e'
        have : k = g := by simpa [Value.ownBlock] using e'
        subst this
        rw [h] at hgb
        injection hgb with hgb
        injection hgb with _ ht2
        exact absurd ht2 (by decide)
    refine hR v' w' (RecsAt.snoc (w := w') (v := v) a1 ?_ (fun i r' hi => ?_) (key u _ _ hb8 ht8)) a2 a3
    · have := h1.1
      simpa using this
    · obtain ⟨x, hx, hbx, htx⟩ := h2 i r' hi
      exact ⟨x, hx, key x _ _ hbx htx⟩
def AppR (w w7 : World) (v u : Value) (k : Nat) (R : Value → World → Prop) : Prop := ∃ vs, (w7.alloc (.cells #[u] 35)).ownsRow w.heap.size 35 1 v k vs ∧ (∀ (j : Nat) (x : Value), [u][j]? = some x → (w7.alloc (.cells #[u] 35)).cell? ((⟨w7.heap.size, 0, none⟩ : Addr).add j) = some x) ∧ (∀ x ∈ [u], x.oneCell' = true) ∧ w.heap.size ≤ (w7.alloc (.cells #[u] 35)).heap.size ∧ ∀ v' w', w'.ownsRow w.heap.size 35 1 v' (k + 1) (vs ++ [u]) → (w7.alloc (.cells #[u] 35)).grownBy w' v.ownBlock → (v'.ownBlock = v.ownBlock ∨ v'.ownBlock = some (w7.alloc (.cells #[u] 35)).heap.size) → R v' w'
theorem clonesG_step {w wr w2 : World} {v u : Value} {rs : List Rec} {k : Nat} {r : Rec} (hl : (rs.take k).length = k) (ht : rs.take (k + 1) = rs.take k ++ [r]) (hre : ListG (fun k => w.heap.size ≤ k ∧ k < wr.heap.size) wr w.heap.size v (rs.take k)) (hb : Below w.heap.size w wr) (hu : Byt w2 u r.1 r.2) (hty : Typ8 w2 u) (hb2 : Below wr.heap.size wr w2) (hnew : NewBy wr w2 u) (hrm : r.1 ≤ 1000000) :
    AppR w w2 v u k fun v' w' => ListG (fun k => w.heap.size ≤ k ∧ k < w'.heap.size) w' w.heap.size v' (rs.take (k + 1)) ∧ Below w.heap.size w w' := by
  have hbb := bbt hb hb2
  have hs := hb.size
  have hs2 := hb2.size
  have hb8 := below_new w2 (.cells #[u] 35)
  obtain ⟨vs, h1, h2, h3⟩ := hre.below (bbt hb2 hb8)
  rw [hl] at h1
  refine ⟨vs, h1, fun j x hx => ?_, fun x hx => ?_, by rw [World.size_alloc]; omega, fun v' w' a1 a2 a3 => ⟨?_, ?_⟩⟩
  · cases j with
    | zero =>
      simp at hx
      subst hx
      exact (Boxed.new w2 35 u).cell
    | succ j => simp at hx
  · simp at hx
    subst hx
    exact hu.one
  · have hsz := a2.size
    rw [World.size_alloc] at hsz
    rw [ht]
    refine ListG.snoc (G := fun k => w.heap.size ≤ k ∧ k < w2.heap.size) (w := w2.alloc (.cells #[u] 35)) (rs := rs.take k) (by rw [hl]; exact h1) (fun k e => ⟨(h2 k e).1, by have := (h2 k e).2; omega⟩) (fun i r hi => ?_) (hu.below hb8) (hty.below hb8) hrm (fun k e => ⟨by have := (hnew k e).1; omega, (hnew k e).2⟩) (by rw [hl]; exact a1) a2 a3 (fun k hk => ⟨hk.1, by omega⟩) (fun hlt => ⟨by rw [World.size_alloc]; omega, hlt⟩)
    obtain ⟨x, hx, hbx, htx, hlx, hgx⟩ := h3 i r hi
    exact ⟨x, hx, hbx, htx, hlx, fun k e => ⟨(hgx k e).1, by have := (hgx k e).2; omega⟩⟩
  · exact (hbb.trans (hb8.mono hbb.size)).grown a2 (by rw [World.size_alloc]; exact Nat.le_succ_of_le hbb.size) fun g hg => (h2 g hg).1
theorem ListG.recs {G : Nat → Prop} {w : World} {base : Nat} {v : Value} {rs : List Rec} (h : ListG G w base v rs) : RecsAt w base v rs := by
  obtain ⟨vs, h1, h2, h3⟩ := h
  refine ⟨vs, h1, fun i r hi => ?_⟩
  obtain ⟨u, a1, a2, a3, _⟩ := h3 i r hi
  exact ⟨u, a1, a2, a3⟩
set_option maxRecDepth 100000 in
set_option maxHeartbeats 2000000 in
theorem clonesG_any {w : World} {v : Value} {rs : List Rec} (hv : RowsBy w v rs) (hf : ∀ r ∈ rs, r.1 ≤ 1000000) (hn : rs.length ≤ 100000) : Calls Try.prog 33 #[v] w fun e w' => (∃ v', e = .returned v' ∧ ListG (fun k => w.heap.size ≤ k ∧ k < w'.heap.size) w' w.heap.size v' rs) ∧ Below w.heap.size w w' := by
  obtain ⟨A, c, rfl, hr⟩ := hv
  obtain ⟨n, hnn⟩ : ∃ n, rs.length = n := ⟨_, rfl⟩
  have HR := Lib.hid hr
  have HF := Lib.hid hf
  have HN := Lib.hid hnn
  rw [hnn] at hn ⊢
  obtain ⟨iE, hiE, hzz⟩ := Option.map_eq_some_iff.1 rows_info
  simp only [Prod.mk.injEq] at hzz
  have HZ := Lib.hid hzz
  have HI := Lib.hid hiE
  clear hr hf hnn hzz hiE
  go_enter Try.func33, Try.ntmps33
  go_wp2_with (at_make; refine wpList_make_own w rfl _ _ 33 rfl w.heap.size 35 iE (.slice none 0 0) 1 Try.underlying33 HI.out HZ.out.1 HZ.out.2.1 .i64 .i64 _ n rfl rfl rfl (by rw [HZ.out.2.2]; omega) (by simp only [maxLen]; omega) (Nat.le_refl _) ?_; intro w1 ho1 hg1; have HO1 := Lib.hid ho1; have HG1 := Lib.hid ((Below.refl _ _).grown hg1 (Nat.le_refl _) fun k hk => by cases hk); clear ho1 hg1)
  go_loopw [3, 11] (fun v3 v11 wr => ∃ k : Nat, k ≤ n ∧ v11 = .int .i64 (k : Nat) ∧ ListG (fun k => w.heap.size ≤ k ∧ k < wr.heap.size) wr w.heap.size v3 (rs.take k) ∧ Below w.heap.size w wr) (fun _ v11 _ => n - (intOf v11).toNat)
  case atStart => exact ⟨0, Nat.zero_le _, rfl, ⟨[], HO1.out, fun k e => World.ownsRow.lt HO1.out k e, fun i r h => by simp at h⟩, HG1.out⟩
  case round =>
    obtain ⟨k, hk, rfl, hre, hbl⟩ := hrel
    have HRE := Lib.hid hre
    have HB := Lib.hid hbl
    by_cases hlt : k < n
    · have hkl : k < rs.length := by have := HN.out; omega
      obtain ⟨r, hrk⟩ : ∃ r, rs[k]? = some r := ⟨rs[k], List.getElem?_eq_getElem hkl⟩
      obtain ⟨ad, u, rfl, h1, h2, h3⟩ := HR.out k r hrk
      have h1' := (hbl.cell (block_lt_of_cell h1)).trans h1
      have HU := Lib.hid (h2.below hbl)
      have HTK := Lib.hid (take_more hrk)
      have HRM := Lib.hid (HF.out r (List.mem_of_getElem? hrk))
      have HLN : Hid ((rs.take k).length = k) := Lib.hid (by rw [List.length_take]; omega)
      clear h1 h2 hre hbl hrk hkl
      go_wp2_with (first
        | (go_at_call 39; refine (clone_byt HU.out HRM.out).mono ?_; rintro e w2 ⟨u2, rfl, hu2, ht2, hb2, hn2⟩; obtain ⟨A2, c2, rfl, _⟩ := id hu2; have HAP := Lib.hid (clonesG_step HLN.out HTK.out HRE.out HB.out hu2 ht2 hb2 hn2 HRM.out); clear hu2 ht2 hb2 hn2)
        | (at_builtin; obtain ⟨vs, o1, o2, o3, o4, o5⟩ := HAP.out; refine wpList_append_at rfl _ _ 33 rfl w.heap.size 35 (.slice none 0 0) 1 24 Try.underlying33 rows_info rfl (by omega) _ k vs rfl o1 _ 1 1 _ rfl rfl o2 o3 (by simp only [maxLen]; omega) (by omega) o4 ?_; intro v9 w9 p1 p2 p3; have H9 := Lib.hid (o5 v9 w9 p1 p2 p3); clear o1 o2 o3 o4 o5 p1 p2 p3))
      exact ⟨⟨k + 1, by omega, by rw [Int.natCast_add]; rfl, H9.out.1, H9.out.2⟩, by simp [intOf]; omega⟩
    · obtain rfl : k = n := by omega
      have HTK : Hid (rs.take k = rs) := Lib.hid (List.take_of_length_le (by have := HN.out; omega))
      clear hre hbl
      go_wp2
      go_ret
      have := HRE.out
      rw [HTK.out] at this
      exact ⟨⟨_, rfl, this⟩, HB.out⟩
theorem clones_any {w : World} {v : Value} {rs : List Rec} (hv : RowsBy w v rs) (hf : ∀ r ∈ rs, r.1 ≤ 1000000) (hn : rs.length ≤ 100000) : Calls Try.prog 33 #[v] w fun e w' => (∃ v', e = .returned v' ∧ RecsAt w' w.heap.size v' rs ∧ ∀ k, v'.ownBlock = some k → w.heap.size ≤ k) ∧ Below w.heap.size w w' :=
  (clonesG_any hv hf hn).mono fun e w' h => ⟨by obtain ⟨v', rfl, h1⟩ := h.1; exact ⟨v', rfl, h1.recs, h1.recs.base⟩, h.2⟩
end Go.Proofs.Ytmcbmbcfgefocaa

/- Contract: Begin. -/
namespace Go.Proofs.Ytmcbmbcfgefocaa
open Go.RowKit Go.Shelf
set_option linter.unusedSimpArgs false
set_option linter.unusedVariables false

def BegunPost (w w' : World) (e : Ending) (gq gd : Nat) (S : DS) (Q : QS) : Prop := e = .returned (.int .i64 0) ∧ SBox w' gq gd { Q with ende := Q.first, top := topOf (rdS S) Q.first (Q.behind - Q.first) } ∧ Only (· = gq) w w'
set_option maxRecDepth 100000 in
set_option maxHeartbeats 4000000 in
theorem begin_seg {F : Nat → Prop} {w : World} {gq gd : Nat} {S : DS} {Q : QS} (hd : DskAt F w gd S) (h : SBox w gq gd Q) (hg : S.gone = false) : Calls Try.prog 48 #[.pointer (some ⟨gq, 0, none⟩)] w fun e w' => BegunPost w w' e gq gd S Q := by
  have HDN : Hid (Calls Try.prog 54 #[.pointer (some ⟨gd, 0, none⟩)] w fun e w' => e = .returned (.bool false) ∧ w = w') := Lib.hid (by
    obtain ⟨_, _, _, _, _, _, _, _, hk⟩ := id hd
    have := down_any hk
    rw [hg] at this
    exact this)
  have hq := h.2
  obtain ⟨t, ht⟩ : ∃ t, topOf (rdS S) Q.first (Q.behind - Q.first) = t := ⟨_, rfl⟩
  have HGR : Hid (∀ u, Below w.heap.size w u → Calls Try.prog 62 #[.pointer (some ⟨gq, 0, none⟩)] u fun e w' => e = .returned (.int .u32 (t : Nat)) ∧ t < 4294967296 ∧ Below u.heap.size u w') := Lib.hid fun u hu => by
    have := greatest_any (hd.keep (fun k hk => hu.block k (hd.lt k hk)) hu.size) (h.below hu)
    rw [ht] at this
    exact this
  have HQ := Lib.hid h
  have HT := Lib.hid ht
  obtain ⟨c0, c1, c2, c3, c4, c5⟩ := h.cells
  have z4 := h.1.frozen 4
  have z5 := h.1.frozen 5
  have HQK := Lib.hid hq
  clear hd h hg hq ht
  go_enter Try.func48, Try.ntmps48
  go_wp2_with (go_at_call 54; refine HDN.out.mono ?_; rintro e w1 ⟨rfl, rfl⟩)
  go_region_with (go_at_call 62; refine (HGR.out w.drew (Below.drew_ (Below.refl _ _))).mono ?_; rintro e w2 ⟨rfl, ht2, hb2⟩; have HB2 := Lib.hid (show Below w.heap.size w w2 from (Below.drew_ (Below.refl _ _)).trans hb2); have HQ2 := Lib.hid (HQ.out.below HB2.out); have HTT := Lib.hid ht2; obtain ⟨d0, d1, d2, d3, d4, d5⟩ := HQ2.out.cells; have y4 := HQ2.out.1.frozen 4; have y5 := HQ2.out.1.frozen 5; clear hb2)
  all_goals
    clear c0 c1 c2 c3 c4 c5 d0 d1 d2 d3 d4 d5 ht2
    go_wp2
    go_ret
    refine ⟨rfl, ?_, only_box (only_box ((Only.refl (F := fun k => k = gq)).trans (Only.of_below HB2.out)) 4 _) 5 _⟩
    rw [HT.out]
    exact sbox_turned HQ2.out.1 ⟨HQK.out.2.2.1, HQK.out.2.2.2.1⟩ ⟨Nat.le_refl _, Nat.le_trans HQK.out.1 HQK.out.2.1⟩ HTT.out
theorem HeldG.begin_ {w0 w : World} {gd gq : Nat} {S : DS} {Q : QS} {G : Nat → Prop} (h : HeldG w0 w gd gq S Q G) (hg : S.gone = false) :
    Calls Try.prog 48 #[.pointer (some ⟨gq, 0, none⟩)] w fun e w' => e = .returned (.int .i64 0) ∧ HeldG w0 w' gd gq S { Q with ende := Q.first, top := topOf (rdS S) Q.first (Q.behind - Q.first) } G ∧ Kept G w w' := by
  obtain ⟨F, h1, h2, h3, h4, h5, h6⟩ := h
  refine (begin_seg h1 h2 hg).mono ?_
  rintro e w' ⟨rfl, hq, ho⟩
  exact ⟨rfl, HeldG.turn h1 h2 h3 h4 h5 h6 (h1.keep (fun k hk => ho.block k (h1.lt k hk) fun e => h4.2.1 (e ▸ hk)) ho.size) (fun k hk => .inl hk) hq (ho.mono fun k e => .inr e)⟩
end Go.Proofs.Ytmcbmbcfgefocaa

/- Contracts: bytes.Equal of rows of 64 bytes; a root's home; a root as a sector. -/
namespace Go.Proofs.Ytmcbmbcfgefocaa
open Go.RowKit
set_option linter.unusedSimpArgs false
set_option linter.unusedVariables false

theorem str_same {f h : Nat → Nat} {n : Nat} (hf : ∀ j, j < n → f j < 256) (hh : ∀ j, j < n → h j < 256) : (strOfNums (intsOf f n)).toList = (strOfNums (intsOf h n)).toList ↔ ∀ j, j < n → f j = h j := by
  rw [Lib.strOfNums_toList, Lib.strOfNums_toList]
  unfold Lib.bytesOf intsOf
  constructor
  · intro e j hj
    have e2 := congrArg (fun b : List UInt8 => b[j]?) e
    simp [hj] at e2
    have h3 := congrArg UInt8.toNat e2
    have := hf j hj
    have := hh j hj
    simp at h3
    omega
  · intro e
    apply List.ext_getElem?
    intro j
    by_cases hj : j < n
    · simp [hj, e j hj]
    · rw [List.getElem?_eq_none (by simp; omega), List.getElem?_eq_none (by simp; omega)]
theorem conv_bytes {w : World} {ad : Addr} {n c : Nat} {f : Nat → Nat} (hr : Rd .u8 w (some ad) n f) : (convert 35 9 (.slice (some ad) n c)).run Try.prog w = .ok (.string (strOfNums (intsOf f n))) w := by
  have hl : (loadCells ad n).run Try.prog w = .ok ((intsOf f n).map (Value.int .u8)).toArray w := by
    have := run_loadCells_list (P := Try.prog) w ad ((intsOf f n).map (Value.int .u8)) (fun j v hj => by
      have hjl : j < n := by
        rcases Nat.lt_or_ge j n with h | h
        · exact h
        · rw [List.getElem?_eq_none (by simp [intsOf]; exact h)] at hj; cases hj
      rw [hr.at_ hjl]
      simp [intsOf, hjl] at hj
      subst hj
      rfl)
    simpa [intsOf] using this
  rw [run_convert_bytes_string w 35 9 5 (some ad) n c Try.underlying35 Try.underlying5 Try.underlying9, run_bytesToString w _ n c (intsOf f n) hl, foldl_push_bytes]
  simp [strOfNums]
set_option maxRecDepth 100000 in
theorem equal64 {w : World} {A B : Option Addr} {c d : Nat} {f h : Nat → Nat} (ha : Byt w (.slice A 64 c) 64 f) (hb : Byt w (.slice B 64 d) 64 h) :
    Calls Try.prog 69 #[.slice A 64 c, .slice B 64 d] w fun e w' => (∃ b, e = .returned (.bool b) ∧ (b = true ↔ ∀ j, j < 64 → f j = h j)) ∧ w = w' := by
  obtain ⟨A', c', e, _, hr, hf⟩ := ha
  cases e
  obtain ⟨B', d', e, _, hs, hh⟩ := hb
  cases e
  have HI := Lib.hid (str_same hf hh)
  obtain ⟨ad, rfl, _⟩ := hr 0 (by omega)
  obtain ⟨bd, rfl, _⟩ := hs 0 (by omega)
  have h1 : (convert 35 9 (.slice (some ad) 64 c)).run Try.prog w = .ok (.string (strOfNums (intsOf f 64))) w := conv_bytes hr
  have h2 : (convert 35 9 (.slice (some bd) 64 d)).run Try.prog w = .ok (.string (strOfNums (intsOf h 64))) w := conv_bytes hs
  generalize strOfNums (intsOf f 64) = x at *
  generalize strOfNums (intsOf h 64) = y at *
  clear hr hs hf hh
  go_enter Try.func69, Try.ntmps69
  go_wp2
  go_ret
  refine ⟨⟨_, rfl, ?_⟩, rfl⟩
  rw [← HI.out]
  try simp
def homeP (g : Int) (w w' : World) (e : Ending) : Prop := e = .returned (.int .i64 (g % 2)) ∧ w = w'
theorem home_any {g : Int} (w : World) (hg : u32I g) : Calls Try.prog 52 #[.int .u32 g] w fun e w' => homeP g w w' e := by
  unfold u32I at hg
  have h1 : g.tmod 2 = g % 2 := by rw [Int.tmod_eq_emod_of_nonneg hg.1]
  have h0 : 0 ≤ g % 2 ∧ g % 2 < 2 := by omega
  obtain ⟨h2, h3⟩ := hg
  go_enter Try.func52, Try.ntmps52
  go_wp2
  go_ret
  exact ⟨rfl, rfl⟩
/-- A root's data, and its sector. -/
def rootW : Nat → Nat := fun j => if j = 0 then 114 else if j = 1 then 111 else if j = 2 then 111 else 116
def rootF (g : Nat) : Nat → Nat := sectF g 0 0 1 4 rootW
theorem rootW_lt : ∀ j, j < 4 → rootW j < 256 := fun j _ => by unfold rootW; split <;> (try split) <;> (try split) <;> omega
theorem root_may : mayP 0 1 4 := by unfold mayP; omega
set_option maxRecDepth 100000 in
theorem encode_root {g : Int} (w : World) (hg : u32I g) : Calls Try.prog 51 #[.int .u32 g] w fun e w' => (∃ v, e = .returned (.tuple #[v, .int .i64 0]) ∧ Byt w' v 64 (rootF g.toNat)) ∧ Below w.heap.size w w' := by
  have HB := Lib.hid (below_new w (.cells #[.int .u8 114, .int .u8 111, .int .u8 111, .int .u8 116] 5 (4, 5)))
  have HR : Hid (Rd .u8 (w.alloc (.cells #[.int .u8 114, .int .u8 111, .int .u8 111, .int .u8 116] 5 (4, 5))) (some ⟨w.heap.size, 0, none⟩) 4 rootW) := fun j hj => ⟨_, rfl, by
    rw [add_mk, Nat.zero_add, World.cell?_alloc_mark]
    rcases (by omega : j = 0 ∨ j = 1 ∨ j = 2 ∨ j = 3) with rfl | rfl | rfl | rfl <;> rfl⟩
  have HE : Hid (Calls Try.prog 65 #[cellI g 0 0 1 (some ⟨w.heap.size, 0, none⟩) 4 4] (w.alloc (.cells #[.int .u8 114, .int .u8 111, .int .u8 111, .int .u8 116] 5 (4, 5))) fun e w' => (∃ v, e = .returned (.tuple #[v, .int .i64 0]) ∧ Byt w' v 64 (rootF g.toNat)) ∧ Below (w.alloc (.cells #[.int .u8 114, .int .u8 111, .int .u8 111, .int .u8 116] 5 (4, 5))).heap.size (w.alloc (.cells #[.int .u8 114, .int .u8 111, .int .u8 111, .int .u8 116] 5 (4, 5))) w') := encode_i hg (by unfold u32I; omega) HR.out rootW_lt root_may
  have kc := fun (w : World) (C : Array Value) (n c : Nat) => Lib.run_convert_bytes_const (P := Try.prog) w 35 5 C n c Try.underlying35 Try.underlying5
  go_enter Try.func51, Try.ntmps51
  go_wp2_with (go_at_call 65; refine HE.out.mono ?_; rintro e w2 ⟨⟨v, rfl, hv⟩, hb⟩; have HV := Lib.hid hv; have HB2 := Lib.hid hb; clear hv hb)
  go_ret2
  exact ⟨⟨_, rfl, HV.out⟩, bbt HB.out HB2.out⟩
end Go.Proofs.Ytmcbmbcfgefocaa
