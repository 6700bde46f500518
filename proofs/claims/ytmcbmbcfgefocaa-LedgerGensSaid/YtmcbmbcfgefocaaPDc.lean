/- The program's disk in memory; contracts: Sectors, Down, has, Plan, begin. -/
import Derived.Test.YtmcbmbcfgefocaaPDa
import Derived.WalkLawsBesides
namespace Go.Proofs.Ytmcbmbcfgefocaa
open Go.RowKit

def dv (a b c d e : Value) : Nat → Value
  | 0 => a
  | 1 => b
  | 2 => c
  | 3 => d
  | _ => e
/-- The blocks of rows: what is written over is none of them. -/
def Rw (F : Nat → Prop) (gd gt gs : Nat) (vp : Value) : Nat → Prop := fun k => F k ∧ k ≠ gd ∧ k ≠ gt ∧ k ≠ gs ∧ vp.ownBlock ≠ some k
/-- The pending writes, as cells. -/
def Pend (R : Nat → Prop) (w : World) (n : Nat) : List (Nat × (Nat → Nat)) → List Value → Prop
  | [], xs => xs = []
  | p :: P, xs => ∃ v ys, xs = .int .i64 (p.1 : Nat) :: v :: ys ∧ p.1 < n ∧ Sec R w v p.2 ∧ Pend R w n P ys
section
variable {R R' : Nat → Prop} {w w' : World} {n : Nat}
theorem Pend.keep (hb : ∀ k, R k → k < w.heap.size → w'.heap[k]? = w.heap[k]?) (hR : ∀ k, R k → k < w.heap.size → R' k) : ∀ {P : List (Nat × (Nat → Nat))} {xs : List Value}, Pend R w n P xs → Pend R' w' n P xs
  | [], _, h => h
  | _ :: _, _, ⟨v, ys, e, h1, h2, h3⟩ => ⟨v, ys, e, h1, h2.keep hb hR, Pend.keep hb hR h3⟩
theorem Pend.snoc {i : Nat} {f : Nat → Nat} {v : Value} (hi : i < n) (hv : Sec R w v f) : ∀ {P : List (Nat × (Nat → Nat))} {xs : List Value}, Pend R w n P xs → Pend R w n (P ++ [(i, f)]) (xs ++ [.int .i64 (i : Nat), v])
  | [], _, h => by
    obtain rfl : _ = [] := h
    exact ⟨v, [], rfl, hi, hv, rfl⟩
  | _ :: _, _, ⟨u, ys, e, h1, h2, h3⟩ => by
    subst e
    exact ⟨u, _, rfl, h1, h2, Pend.snoc hi hv h3⟩
theorem Pend.at_ : ∀ {P : List (Nat × (Nat → Nat))} {xs : List Value}, Pend R w n P xs → ∀ k p, P[k]? = some p → p.1 < n ∧ xs[k * 2]? = some (.int .i64 (p.1 : Nat)) ∧ ∃ v, xs[k * 2 + 1]? = some v ∧ Sec R w v p.2
  | [], _, _, k, p, hk => by simp at hk
  | q :: P, _, ⟨u, ys, e, h1, h2, h3⟩, k, p, hk => by
    subst e
    cases k with
    | zero =>
      simp at hk
      subst hk
      exact ⟨h1, rfl, u, rfl, h2⟩
    | succ k =>
      simp at hk
      have := Pend.at_ h3 k p hk
      rw [show (k + 1) * 2 = k * 2 + 2 from by omega]
      simpa using this
end

structure Dk (F : Nat → Prop) (w : World) (gd gt gs ct cs : Nat) (vp : Value) (xs : List Value) (VT VS : Nat → Value) (S : DS) : Prop where
  box : w.rowIs gd 53 5 (dv (.slice (some ⟨gt, 0, none⟩) S.n ct) (.slice (some ⟨gs, 0, none⟩) S.n cs) vp (.bool S.gone) (.int .i64 (S.left : Nat)))
  th : w.rowIs gt 35 ct VT
  se : w.rowIs gs 35 cs VS
  pe : w.ownsRow 0 68 2 vp S.P.length xs
  hT : ∀ i, i < S.n → SecO (Rw F gd gt gs vp) w (VT i) (S.T i)
  hS : ∀ i, i < S.n → SecO (Rw F gd gt gs vp) w (VS i) (S.seen i)
  hP : Pend (Rw F gd gt gs vp) w S.n S.P xs
  n1 : 1 ≤ S.n
  n2 : S.n ≤ 512
  nt : S.n ≤ ct
  ns : S.n ≤ cs
  lf : S.left ≤ 9223372036854775807
  dt : gd ≠ gt
  ds : gd ≠ gs
  ts : gt ≠ gs
  px : ∀ k, vp.ownBlock = some k → k ≠ gd ∧ k ≠ gt ∧ k ≠ gs ∧ F k
  fd : F gd
  ft : F gt
  fs : F gs
  lt : ∀ k, F k → k < w.heap.size

theorem dvr {w : World} {b : Nat} {t : TypeId} {a0 a1 a2 a3 a4 : Value} (h : w.rowIs b t 5 (dv a0 a1 a2 a3 a4)) :
    w.cell? ⟨b, 0, none⟩ = some a0 ∧ w.cell? ⟨b, 1, none⟩ = some a1 ∧ w.cell? ⟨b, 2, none⟩ = some a2 ∧ w.cell? ⟨b, 3, none⟩ = some a3 ∧ w.cell? ⟨b, 4, none⟩ = some a4 :=
  ⟨h.cell (i := 0) (by omega), h.cell (i := 1) (by omega), h.cell (i := 2) (by omega), h.cell (i := 3) (by omega), h.cell (i := 4) (by omega)⟩
section
variable {w : World} {b : Nat} {t : TypeId} {a0 a1 a2 a3 a4 : Value}
theorem dv_set2 (h : w.rowIs b t 5 (dv a0 a1 a2 a3 a4)) (v : Value) : (w.setCell ⟨b, 2, none⟩ v).rowIs b t 5 (dv a0 a1 v a3 a4) :=
  (h.set 2 v).congr fun i hi => by rcases (by omega : i = 0 ∨ i = 1 ∨ i = 2 ∨ i = 3 ∨ i = 4) with rfl | rfl | rfl | rfl | rfl <;> rfl
theorem dv_set3 (h : w.rowIs b t 5 (dv a0 a1 a2 a3 a4)) (v : Value) : (w.setCell ⟨b, 3, none⟩ v).rowIs b t 5 (dv a0 a1 a2 v a4) :=
  (h.set 3 v).congr fun i hi => by rcases (by omega : i = 0 ∨ i = 1 ∨ i = 2 ∨ i = 3 ∨ i = 4) with rfl | rfl | rfl | rfl | rfl <;> rfl
theorem dv_set4 (h : w.rowIs b t 5 (dv a0 a1 a2 a3 a4)) (v : Value) : (w.setCell ⟨b, 4, none⟩ v).rowIs b t 5 (dv a0 a1 a2 a3 v) :=
  (h.set 4 v).congr fun i hi => by rcases (by omega : i = 0 ∨ i = 1 ∨ i = 2 ∨ i = 3 ∨ i = 4) with rfl | rfl | rfl | rfl | rfl <;> rfl
end

section
variable {F : Nat → Prop} {w w' : World} {gd gt gs ct cs : Nat} {vp : Value} {xs : List Value} {VT VS : Nat → Value} {S S' : DS}
theorem own_keep {base : Nat} {e : TypeId} {size : Nat} {v : Value} {n : Nat} {xs : List Value} (h : w.ownsRow base e size v n xs) (hb : ∀ k, v.ownBlock = some k → w'.heap[k]? = w.heap[k]?) : w'.ownsRow base e size v n xs := by
  refine ⟨h.1, ?_⟩
  rcases h.2 with hn | ⟨g, cap, cur, rfl, h1, h2, r⟩
  · exact .inl hn
  · exact .inr ⟨g, cap, cur, rfl, h1, (hb g rfl).trans h2, r⟩
/-- The world has turned beside the disk. -/
theorem Dk.keep (h : Dk F w gd gt gs ct cs vp xs VT VS S) (hb : ∀ k, F k → w'.heap[k]? = w.heap[k]?) (hs : w.heap.size ≤ w'.heap.size) : Dk F w' gd gt gs ct cs vp xs VT VS S where
  box := h.box.of_block (hb _ h.fd)
  th := h.th.of_block (hb _ h.ft)
  se := h.se.of_block (hb _ h.fs)
  pe := own_keep h.pe fun k hk => hb k (h.px k hk).2.2.2
  hT := fun i hi => (h.hT i hi).keep (fun k hk _ => hb k hk.1) (fun _ hk _ => hk)
  hS := fun i hi => (h.hS i hi).keep (fun k hk _ => hb k hk.1) (fun _ hk _ => hk)
  hP := h.hP.keep (fun k hk _ => hb k hk.1) (fun _ hk _ => hk)
  n1 := h.n1
  n2 := h.n2
  nt := h.nt
  ns := h.ns
  lf := h.lf
  dt := h.dt
  ds := h.ds
  ts := h.ts
  px := h.px
  fd := h.fd
  ft := h.ft
  fs := h.fs
  lt := fun k hk => Nat.lt_of_lt_of_le (h.lt k hk) hs
/-- Only whether the power is gone, and what is left, has turned. -/
theorem Dk.flags (h : Dk F w gd gt gs ct cs vp xs VT VS S) (hS : S'.n = S.n ∧ S'.T = S.T ∧ S'.P = S.P) (hl : S'.left ≤ 9223372036854775807)
    (hbox : w'.rowIs gd 53 5 (dv (.slice (some ⟨gt, 0, none⟩) S.n ct) (.slice (some ⟨gs, 0, none⟩) S.n cs) vp (.bool S'.gone) (.int .i64 (S'.left : Nat)))) (ho : Only (· = gd) w w') : Dk F w' gd gt gs ct cs vp xs VT VS S' := by
  obtain ⟨n', T', P', g', l'⟩ := S'
  obtain ⟨rfl, rfl, rfl⟩ := hS
  exact {
    box := hbox
    th := ho.rowIs h.th (fun e => h.dt e.symm)
    se := ho.rowIs h.se (fun e => h.ds e.symm)
    pe := own_keep h.pe fun k hk => ho.block k (h.lt k (h.px k hk).2.2.2) (h.px k hk).1
    hT := fun i hi => (h.hT i hi).keep (fun k hk hl => ho.block k hl hk.2.1) (fun _ hk _ => hk)
    hS := fun i hi => (h.hS i hi).keep (fun k hk hl => ho.block k hl hk.2.1) (fun _ hk _ => hk)
    hP := h.hP.keep (fun k hk hl => ho.block k hl hk.2.1) (fun _ hk _ => hk)
    n1 := h.n1
    n2 := h.n2
    nt := h.nt
    ns := h.ns
    lf := hl
    dt := h.dt
    ds := h.ds
    ts := h.ts
    px := h.px
    fd := h.fd
    ft := h.ft
    fs := h.fs
    lt := fun k hk => Nat.lt_of_lt_of_le (h.lt k hk) ho.size }

theorem only_box {gd : Nat} {w w' : World} (h : Only (· = gd) w w') (i : Nat) (v : Value) : Only (· = gd) w (w'.setCell ⟨gd, i, none⟩ v) := h.setCell (.inl rfl) v
theorem Dk.flags3 (h : Dk F w gd gt gs ct cs vp xs VT VS S) (hS : S'.n = S.n ∧ S'.T = S.T ∧ S'.P = S.P) (hl : S'.left ≤ 9223372036854775807)
    (hbox : w'.rowIs gd 53 5 (dv (.slice (some ⟨gt, 0, none⟩) S.n ct) (.slice (some ⟨gs, 0, none⟩) S.n cs) vp (.bool S'.gone) (.int .i64 (S'.left : Nat)))) (ho : Only (· = gd) w w') (hz : w'.heap.size = w.heap.size) :
    Dk F w' gd gt gs ct cs vp xs VT VS S' ∧ Only (· = gd) w w' ∧ w'.heap.size = w.heap.size := ⟨h.flags hS hl hbox ho, ho, hz⟩
theorem sectors_any (h : Dk F w gd gt gs ct cs vp xs VT VS S) :
    Calls Try.prog 42 #[.pointer (some ⟨gd, 0, none⟩)] w fun e w' => e = .returned (.int .i64 (S.n : Nat)) ∧ w = w' := by
  obtain ⟨c0, c1, c2, c3, c4⟩ := dvr h.box
  clear h
  go_enter Try.func42, Try.ntmps42
  go_wp2
  go_ret
  exact ⟨rfl, rfl⟩
theorem down_any (h : Dk F w gd gt gs ct cs vp xs VT VS S) :
    Calls Try.prog 54 #[.pointer (some ⟨gd, 0, none⟩)] w fun e w' => e = .returned (.bool S.gone) ∧ w = w' := by
  obtain ⟨c0, c1, c2, c3, c4⟩ := dvr h.box
  clear h
  go_enter Try.func54, Try.ntmps54
  go_wp2
  go_ret
  exact ⟨rfl, rfl⟩
def hasB (n : Nat) (i : Int) : Bool := decide (0 ≤ i ∧ i < n)
theorem has_any (h : Dk F w gd gt gs ct cs vp xs VT VS S) (i : Int) :
    Calls Try.prog 63 #[.pointer (some ⟨gd, 0, none⟩), .int .i64 i] w fun e w' => e = .returned (.bool (hasB S.n i)) ∧ w = w' := by
  obtain ⟨c0, c1, c2, c3, c4⟩ := dvr h.box
  clear h
  by_cases h0 : 0 ≤ i
  · have d0 : decide (i < 0) = false := by rw [decide_eq_false_iff_not]; omega
    by_cases h1 : i < S.n
    · rw [show hasB S.n i = true from by simp [hasB, h0, h1]]
      go_enter Try.func63, Try.ntmps63
      go_wp2
      go_ret
      exact ⟨rfl, rfl⟩
    · rw [show hasB S.n i = false from by simp [hasB, h1]]
      go_enter Try.func63, Try.ntmps63
      go_wp2
      go_ret
      exact ⟨rfl, rfl⟩
  · rw [show hasB S.n i = false from by simp [hasB, h0]]
    have h2 : i < 0 := by omega
    go_enter Try.func63, Try.ntmps63
    go_wp2
    go_ret
    exact ⟨rfl, rfl⟩
theorem begin_any (h : Dk F w gd gt gs ct cs vp xs VT VS S) (hg : S.gone = false) :
    Calls Try.prog 64 #[.pointer (some ⟨gd, 0, none⟩)] w fun e w' => e = .returned (.bool S.ok) ∧ Dk F w' gd gt gs ct cs vp xs VT VS S.begun ∧ Only (· = gd) w w' ∧ w'.heap.size = w.heap.size := by
  have H := Lib.hid h
  obtain ⟨n, T, P, g, l⟩ := S
  subst hg
  have hlf : l ≤ 9223372036854775807 := h.lf
  have hb := h.box
  have HB := Lib.hid hb
  obtain ⟨c0, c1, c2, c3, c4⟩ := dvr hb
  have z3 := hb.frozen 3
  have z4 := hb.frozen 4
  clear h hb
  by_cases h0 : l = 0
  · subst h0
    go_enter Try.func64, Try.ntmps64
    go_wp2
    go_ret
    exact ⟨rfl, H.out, Only.refl, rfl⟩
  · by_cases h1 : l = 1
    · subst h1
      go_enter Try.func64, Try.ntmps64
      go_wp2
      go_ret
      exact ⟨rfl, H.out.flags3 (S' := ⟨n, T, P, true, 0⟩) ⟨rfl, rfl, rfl⟩ (by simp) (dv_set3 (dv_set4 HB.out _) _) (only_box (only_box Only.refl _ _) _ _) (by simp [World.setCell])⟩
    · have q0 : ((l : Int) == 0) = false := by rw [beq_eq_false_iff_ne]; omega
      have q1 : ((l : Int) - 1 == 0) = false := by rw [beq_eq_false_iff_ne]; omega
      have HE := Lib.hid (show DS.begun ⟨n, T, P, false, l⟩ = ⟨n, T, P, false, l - 1⟩ ∧ DS.ok ⟨n, T, P, false, l⟩ = true from by simp [DS.begun, DS.ok, h0, h1])
      have HC := Lib.hid (show ((l : Int) - 1) = ((l - 1 : Nat) : Int) from by omega)
      clear h0 h1
      go_enter Try.func64, Try.ntmps64
      go_wp2
      go_ret
      rw [HE.out.1, HE.out.2, HC.out]
      exact ⟨rfl, H.out.flags3 (S' := ⟨n, T, P, false, l - 1⟩) ⟨rfl, rfl, rfl⟩ (by simp; omega) (dv_set3 (dv_set4 HB.out _) _) (only_box (only_box Only.refl _ _) _ _) (by simp [World.setCell])⟩
end
end Go.Proofs.Ytmcbmbcfgefocaa

/- Contracts: bytes.Clone, Row, Rows. -/
namespace Go.Proofs.Ytmcbmbcfgefocaa
open Go.RowKit

/-- Blocks that are new behind w. -/
def New (w : World) : Nat → Prop := fun k => w.heap.size ≤ k
theorem own_sec {w : World} {base : Nat} {v : Value} {f : Nat → Nat} {t : TypeId} (h : Own .u8 t w base v 64 f) (hf : ∀ j, j < 64 → f j < 256) : Sec (fun k => base ≤ k) w v f := by
  rcases h.form with ⟨_, h0⟩ | ⟨g, c, rfl, hg, hc⟩
  · omega
  · exact ⟨g, 0, c, rfl, hc, hg, fun j hj => by have := h.rd_.at_ hj; rwa [add_mk] at this, hf⟩

set_option maxRecDepth 100000 in
set_option maxHeartbeats 1000000 in
theorem clone_sec {R : Nat → Prop} {w : World} {v : Value} {f : Nat → Nat} (h : Sec R w v f) :
    Calls Try.prog 39 #[v] w fun e w' => ∃ v', e = .returned v' ∧ Sec (New w) w' v' f ∧ Below w.heap.size w w' := by
  obtain ⟨g, o, c, rfl, _, _, hr, hf⟩ := h.rd
  have HR := Lib.hid (hr.below (below_new w (.cells #[] 5)))
  have HF := Lib.hid hf
  have hown := own_none8 w f
  have hnil := Lib.run_eql_slice_nil (P := Try.prog) w 35 5 (some ⟨g, o, none⟩) 64 c 0 0 Try.underlying35
  clear hr hf h
  go_enter Try.func39, Try.ntmps39
  go_wp2_with (at_builtin; refine wpList_app rfl _ _ 35 rfl .u8 5 Try.underlying35 1 u8_info (by omega) w.heap.size _ 0 f rfl hown (some ⟨g, o, none⟩) 64 c f rfl HR.out (fun h => by cases h) (by omega) (by simp) ?_; intro v2 w5 hown2 hb2 hsz2)
  clear hnil
  have HO := Lib.hid hown2
  have HB := Lib.hid ((below_new w (.cells #[] 5)).trans hb2)
  clear hown hown2 hb2 hsz2
  go_wp2
  go_ret
  refine ⟨v2, rfl, ?_, HB.out⟩
  have h2 := HO.out
  rw [Nat.zero_add] at h2
  exact own_sec (h2.congr fun j _ => by simp [appF]) HF.out
theorem clone_nil (n c : Nat) (w : World) :
    Calls Try.prog 39 #[.slice none n c] w fun e w' => e = .returned (.slice none 0 0) ∧ w = w' := by
  have hnil := Lib.run_eql_slice_nil (P := Try.prog) w 35 5 none n c 0 0 Try.underlying35
  go_enter Try.func39, Try.ntmps39
  go_wp2
  go_ret
  exact ⟨rfl, rfl⟩
theorem clone_o {R : Nat → Prop} {w : World} {v : Value} {s : Option (Nat → Nat)} (h : SecO R w v s) :
    Calls Try.prog 39 #[v] w fun e w' => ∃ v', e = .returned v' ∧ SecO (New w) w' v' s ∧ Below w.heap.size w w' := by
  cases s with
  | some f => exact clone_sec h
  | none =>
    obtain rfl : v = _ := h
    refine (clone_nil 0 0 w).mono ?_
    rintro e w' ⟨rfl, rfl⟩
    exact ⟨_, rfl, rfl, Below.refl _ _⟩

theorem clone_os {R : Nat → Prop} {w : World} {v : Value} {s : Option (Nat → Nat)} (h : SecO R w v s) :
    Calls Try.prog 39 #[v] w fun e w' => ∃ a n c, e = .returned (.slice a n c) ∧ SecO (New w) w' (.slice a n c) s ∧ Below w.heap.size w w' :=
  (clone_o h).mono fun _ _ ⟨v, h1, h2, h3⟩ => by
    obtain ⟨a, n, c, rfl⟩ := h2.form
    exact ⟨a, n, c, h1, h2, h3⟩

end Go.Proofs.Ytmcbmbcfgefocaa
