/- The document's disk in memory; contracts: Plan, goes. -/
import Derived.Test.YteeomidlnijfbaaPDq
namespace Go.Proofs.Yteeomidlnijfbaa
open Go.RowKit

def dv7 (a b c d e f g : Value) : Nat → Value
  | 0 => a
  | 1 => b
  | 2 => c
  | 3 => d
  | 4 => e
  | 5 => f
  | _ => g
theorem dvr7 {w : World} {b : Nat} {t : TypeId} {a0 a1 a2 a3 a4 a5 a6 : Value} (h : w.rowIs b t 7 (dv7 a0 a1 a2 a3 a4 a5 a6)) :
    w.cell? ⟨b, 0, none⟩ = some a0 ∧ w.cell? ⟨b, 1, none⟩ = some a1 ∧ w.cell? ⟨b, 2, none⟩ = some a2 ∧ w.cell? ⟨b, 3, none⟩ = some a3 ∧ w.cell? ⟨b, 4, none⟩ = some a4 ∧ w.cell? ⟨b, 5, none⟩ = some a5 ∧ w.cell? ⟨b, 6, none⟩ = some a6 :=
  ⟨h.cell (i := 0) (by omega), h.cell (i := 1) (by omega), h.cell (i := 2) (by omega), h.cell (i := 3) (by omega), h.cell (i := 4) (by omega), h.cell (i := 5) (by omega), h.cell (i := 6) (by omega)⟩
section
variable {w : World} {b : Nat} {t : TypeId} {a0 a1 a2 a3 a4 a5 a6 : Value}
theorem c7 {V : Nat → Value} {W : Nat → Value} (h : V 0 = W 0 ∧ V 1 = W 1 ∧ V 2 = W 2 ∧ V 3 = W 3 ∧ V 4 = W 4 ∧ V 5 = W 5 ∧ V 6 = W 6) : ∀ i, i < 7 → V i = W i := fun i hi => by
  obtain ⟨h0, h1, h2, h3, h4, h5, h6⟩ := h
  rcases (by omega : i = 0 ∨ i = 1 ∨ i = 2 ∨ i = 3 ∨ i = 4 ∨ i = 5 ∨ i = 6) with rfl | rfl | rfl | rfl | rfl | rfl | rfl <;> assumption
theorem d7_0 (h : w.rowIs b t 7 (dv7 a0 a1 a2 a3 a4 a5 a6)) (v : Value) : (w.setCell ⟨b, 0, none⟩ v).rowIs b t 7 (dv7 v a1 a2 a3 a4 a5 a6) := (h.set 0 v).congr (c7 ⟨rfl, rfl, rfl, rfl, rfl, rfl, rfl⟩)
theorem d7_2 (h : w.rowIs b t 7 (dv7 a0 a1 a2 a3 a4 a5 a6)) (v : Value) : (w.setCell ⟨b, 2, none⟩ v).rowIs b t 7 (dv7 a0 a1 v a3 a4 a5 a6) := (h.set 2 v).congr (c7 ⟨rfl, rfl, rfl, rfl, rfl, rfl, rfl⟩)
theorem d7_3 (h : w.rowIs b t 7 (dv7 a0 a1 a2 a3 a4 a5 a6)) (v : Value) : (w.setCell ⟨b, 3, none⟩ v).rowIs b t 7 (dv7 a0 a1 a2 v a4 a5 a6) := (h.set 3 v).congr (c7 ⟨rfl, rfl, rfl, rfl, rfl, rfl, rfl⟩)
theorem d7_4 (h : w.rowIs b t 7 (dv7 a0 a1 a2 a3 a4 a5 a6)) (v : Value) : (w.setCell ⟨b, 4, none⟩ v).rowIs b t 7 (dv7 a0 a1 a2 a3 v a5 a6) := (h.set 4 v).congr (c7 ⟨rfl, rfl, rfl, rfl, rfl, rfl, rfl⟩)
theorem d7_5 (h : w.rowIs b t 7 (dv7 a0 a1 a2 a3 a4 a5 a6)) (v : Value) : (w.setCell ⟨b, 5, none⟩ v).rowIs b t 7 (dv7 a0 a1 a2 a3 a4 v a6) := (h.set 5 v).congr (c7 ⟨rfl, rfl, rfl, rfl, rfl, rfl, rfl⟩)
theorem d7_6 (h : w.rowIs b t 7 (dv7 a0 a1 a2 a3 a4 a5 a6)) (v : Value) : (w.setCell ⟨b, 6, none⟩ v).rowIs b t 7 (dv7 a0 a1 a2 a3 a4 a5 v) := (h.set 6 v).congr (c7 ⟨rfl, rfl, rfl, rfl, rfl, rfl, rfl⟩)
end

/-- The plan in the document's words: stop and count say what is left. -/
def PlanIs (left : Nat) (stop begun : Int) : Prop := (left = 0 ∧ stop < 1) ∨ (0 < left ∧ 1 ≤ stop ∧ (left : Int) = stop - begun)
/-- A sector of the document's: its row lies there though it is torn. -/
def RefT (R : Nat → Prop) (w : World) (v : Value) (b : Bool) : Option (Nat → Nat) → Prop
  | none => b = true ∧ ∃ f, Sec R w v f
  | some f => b = false ∧ Sec R w v f
/-- Blocks of rows. -/
def Rr (G : Nat → Prop) (g gB gX : Nat) (vA vN : Value) : Nat → Prop := fun k => G k ∧ k ≠ g ∧ k ≠ gB ∧ k ≠ gX ∧ vA.ownBlock ≠ some k ∧ vN.ownBlock ≠ some k
def PendI : List (Nat × (Nat → Nat)) → List Value := List.map fun p => .int .i64 (p.1 : Nat)
/-- The document's disk. -/
structure Rk (G : Nat → Prop) (w : World) (g gB cB gX : Nat) (vA vN : Value) (ys : List Value) (VB : Nat → Value) (X : Nat → Bool) (stop begun : Int) (t : Nat) (S : DS) : Prop where
  box : w.rowIs g 91 7 (dv7 (.slice (some ⟨gB, 0, none⟩) S.n cB) (.slice (some ⟨gX, 0, none⟩) S.n S.n) vA vN (.bool S.gone) (.int .i64 stop) (.int .i64 begun))
  rB : w.rowIs gB 35 cB VB
  rX : w.rowIs gX 4 S.n fun i => .bool (X i)
  oA : w.ownsRow 0 3 1 vA S.P.length (PendI S.P)
  oN : w.ownsRow 0 35 1 vN S.P.length ys
  hT : ∀ i, i < S.n → RefT (Rr G g gB gX vA vN) w (VB i) (X i) (S.T i)
  hP : ∀ (k : Nat) (p : Nat × (Nat → Nat)), S.P[k]? = some p → p.1 < S.n ∧ ∃ v, ys[k]? = some v ∧ Sec (Rr G g gB gX vA vN) w v p.2
  n1 : 1 ≤ S.n
  n2 : S.n ≤ 512
  nB : S.n ≤ cB
  pl : S.gone = false → PlanIs S.left stop begun
  bg : 0 ≤ begun ∧ begun ≤ t
  sp : stop ≤ 9223372036854775807 ∧ -9223372036854775808 ≤ stop
  e1 : g ≠ gB ∧ g ≠ gX ∧ gB ≠ gX
  pA : ∀ k, vA.ownBlock = some k → k ≠ g ∧ k ≠ gB ∧ k ≠ gX ∧ G k ∧ vN.ownBlock ≠ some k
  pN : ∀ k, vN.ownBlock = some k → k ≠ g ∧ k ≠ gB ∧ k ≠ gX ∧ G k
  gg : G g ∧ G gB ∧ G gX
  lt : ∀ k, G k → k < w.heap.size

section
variable {G : Nat → Prop} {w w' : World} {g gB cB gX : Nat} {vA vN : Value} {ys : List Value} {VB : Nat → Value} {X : Nat → Bool} {stop begun stop' begun' : Int} {t t' : Nat} {S S' : DS}
theorem RefT.keep {R R' : Nat → Prop} {v : Value} {b : Bool} {s : Option (Nat → Nat)} (h : RefT R w v b s) (hb : ∀ k, R k → k < w.heap.size → w'.heap[k]? = w.heap[k]?) (hR : ∀ k, R k → k < w.heap.size → R' k) : RefT R' w' v b s := by
  cases s with
  | none =>
    obtain ⟨h1, f, h2⟩ := h
    exact ⟨h1, f, h2.keep hb hR⟩
  | some f => exact ⟨h.1, h.2.keep hb hR⟩
/-- The world has turned beside it. -/
theorem Rk.keep (h : Rk G w g gB cB gX vA vN ys VB X stop begun t S) (hb : ∀ k, G k → w'.heap[k]? = w.heap[k]?) (hs : w.heap.size ≤ w'.heap.size) : Rk G w' g gB cB gX vA vN ys VB X stop begun t S where
  box := h.box.of_block (hb _ h.gg.1)
  rB := h.rB.of_block (hb _ h.gg.2.1)
  rX := h.rX.of_block (hb _ h.gg.2.2)
  oA := own_keep h.oA fun k hk => hb k (h.pA k hk).2.2.2.1
  oN := own_keep h.oN fun k hk => hb k (h.pN k hk).2.2.2
  hT := fun i hi => (h.hT i hi).keep (fun k hk _ => hb k hk.1) (fun _ hk _ => hk)
  hP := fun k p hp => by
    obtain ⟨a, v, b, c⟩ := h.hP k p hp
    exact ⟨a, v, b, c.keep (fun k hk _ => hb k hk.1) (fun _ hk _ => hk)⟩
  n1 := h.n1
  n2 := h.n2
  nB := h.nB
  pl := h.pl
  bg := h.bg
  sp := h.sp
  e1 := h.e1
  pA := h.pA
  pN := h.pN
  gg := h.gg
  lt := fun k hk => Nat.lt_of_lt_of_le (h.lt k hk) hs
/-- Only numbers have turned. -/
theorem Rk.flags (h : Rk G w g gB cB gX vA vN ys VB X stop begun t S) (hS : S'.n = S.n ∧ S'.T = S.T ∧ S'.P = S.P) (hpl : S'.gone = false → PlanIs S'.left stop' begun') (hbg : 0 ≤ begun' ∧ begun' ≤ t') (hsp : stop' ≤ 9223372036854775807 ∧ -9223372036854775808 ≤ stop')
    (hbox : w'.rowIs g 91 7 (dv7 (.slice (some ⟨gB, 0, none⟩) S.n cB) (.slice (some ⟨gX, 0, none⟩) S.n S.n) vA vN (.bool S'.gone) (.int .i64 stop') (.int .i64 begun'))) (ho : Only (· = g) w w') :
    Rk G w' g gB cB gX vA vN ys VB X stop' begun' t' S' := by
  obtain ⟨n', T', P', g', l'⟩ := S'
  obtain ⟨rfl, rfl, rfl⟩ := hS
  exact {
    box := hbox
    rB := ho.rowIs h.rB (fun e => h.e1.1 e.symm)
    rX := ho.rowIs h.rX (fun e => h.e1.2.1 e.symm)
    oA := own_keep h.oA fun k hk => ho.block k (h.lt k (h.pA k hk).2.2.2.1) (h.pA k hk).1
    oN := own_keep h.oN fun k hk => ho.block k (h.lt k (h.pN k hk).2.2.2) (h.pN k hk).1
    hT := fun i hi => (h.hT i hi).keep (fun k hk hl => ho.block k hl hk.2.1) (fun _ hk _ => hk)
    hP := fun k p hp => by
      obtain ⟨a, v, b, c⟩ := h.hP k p hp
      exact ⟨a, v, b, c.keep (fun k hk hl => ho.block k hl hk.2.1) (fun _ hk _ => hk)⟩
    n1 := h.n1
    n2 := h.n2
    nB := h.nB
    pl := hpl
    bg := hbg
    sp := hsp
    e1 := h.e1
    pA := h.pA
    pN := h.pN
    gg := h.gg
    lt := fun k hk => Nat.lt_of_lt_of_le (h.lt k hk) ho.size }
theorem rplan_any (h : Rk G w g gB cB gX vA vN ys VB X stop begun t S) (k : Int) (hk : k ≤ 9223372036854775807 ∧ -9223372036854775808 ≤ k) :
    Calls Try.prog 29 #[.pointer (some ⟨g, 0, none⟩), .int .i64 k] w fun e w' => e = .returned (.tuple #[]) ∧ Rk G w' g gB cB gX vA vN ys VB X k 0 t (S.plan k) ∧ Only (· = g) w w' := by
  have H := Lib.hid h
  have hb := h.box
  have HB := Lib.hid hb
  obtain ⟨c0, c1, c2, c3, c4, c5, c6⟩ := dvr7 hb
  have z5 := hb.frozen 5
  have z6 := hb.frozen 6
  clear h hb
  go_enter Try.func29, Try.ntmps29
  go_wp2
  go_end0
  exact ⟨rfl, H.out.flags ⟨rfl, rfl, rfl⟩ (fun _ => by
    unfold PlanIs DS.plan
    simp only
    omega) ⟨by omega, by omega⟩ hk (d7_6 (d7_5 HB.out _) _) (only_box (only_box Only.refl _ _) _ _), only_box (only_box Only.refl _ _) _ _⟩
set_option maxRecDepth 100000 in
set_option maxHeartbeats 1000000 in
theorem goes_any (h : Rk G w g gB cB gX vA vN ys VB X stop begun t S) (hg : S.gone = false) (ht : t ≤ 1000000) :
    Calls Try.prog 55 #[.pointer (some ⟨g, 0, none⟩)] w fun e w' => e = .returned (.bool (!S.ok)) ∧ Rk G w' g gB cB gX vA vN ys VB X stop (begun + 1) (t + 1) S.begun ∧ Only (· = g) w w' := by
  have H := Lib.hid h
  have hb := h.box
  have HB := Lib.hid hb
  have hpl := h.pl hg
  obtain ⟨b0, b1⟩ := h.bg
  have HSP := Lib.hid h.sp
  rw [hg] at hb
  obtain ⟨c0, c1, c2, c3, c4, c5, c6⟩ := dvr7 hb
  have z4 := hb.frozen 4
  have z6 := hb.frozen 6
  clear h
  rcases hpl with ⟨e1, e2⟩ | ⟨e1, e2, e3⟩
  · have d1 : decide (1 ≤ stop) = false := by rw [decide_eq_false_iff_not]; omega
    have HE := Lib.hid (ok_free e1)
    have HE1 := Lib.hid e1
    clear e1 hg
    go_enter Try.func55, Try.ntmps55
    go_wp2
    go_quiet (fail)
    go_wp2
    go_ret
    rw [HE.out.1, HE.out.2]
    have ho : Only (· = g) w ((w.setCell ⟨g, 6, none⟩ (.int .i64 (begun + 1))).drewN nq) := (only_box Only.refl _ _).drewN _
    exact ⟨rfl, H.out.flags (S' := S) ⟨rfl, rfl, rfl⟩ (fun _ => .inl ⟨HE1.out, e2⟩) ⟨by omega, by omega⟩ HSP.out (d7_6 HB.out _) ho, ho⟩
  · have d1 : (1 : Int) ≤ stop := e2
    by_cases hl : S.left = 1
    · obtain rfl : stop = begun + 1 := by omega
      have HE := Lib.hid (begun_last hl)
      clear hl hg e3
      go_enter Try.func55, Try.ntmps55
      go_wp2
      go_quiet (fail)
      go_wp2
      go_ret
      rw [HE.out.1, HE.out.2]
      have ho : Only (· = g) w (((w.setCell ⟨g, 6, none⟩ (.int .i64 (begun + 1))).setCell ⟨g, 4, none⟩ (.bool true)).drewN nq) := (only_box (only_box Only.refl _ _) _ _).drewN _
      exact ⟨rfl, H.out.flags (S' := { S with left := 0, gone := true }) ⟨rfl, rfl, rfl⟩ (fun e => by cases e) ⟨by omega, by omega⟩ HSP.out (d7_4 (d7_6 HB.out _) _) ho, ho⟩
    · have hne : (begun + 1 == stop) = false := by rw [beq_eq_false_iff_ne]; omega
      have HE := Lib.hid (begun_more (S := S) (by omega))
      have HPN := Lib.hid (show PlanIs (S.left - 1) stop (begun + 1) from .inr ⟨by omega, e2, by omega⟩)
      clear hl hg e3
      go_enter Try.func55, Try.ntmps55
      go_wp2
      go_quiet (fail)
      go_wp2
      go_ret
      rw [HE.out.1, HE.out.2]
      have ho : Only (· = g) w ((w.setCell ⟨g, 6, none⟩ (.int .i64 (begun + 1))).drewN nq) := (only_box Only.refl _ _).drewN _
      exact ⟨rfl, H.out.flags (S' := { S with left := S.left - 1 }) ⟨rfl, rfl, rfl⟩ (fun _ => HPN.out) ⟨by omega, by omega⟩ HSP.out (d7_6 HB.out _) ho, ho⟩
end
end Go.Proofs.Yteeomidlnijfbaa
