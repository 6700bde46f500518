/- Contracts: must, half, first. -/
import Derived.Test.YtmcbmbcfgefocaaPDa
import Derived.Test.YtmcbmbcfgefocaaPDl
import Derived.WalkLawsBesides
import Derived.Defers
import Derived.Recover
import Derived.Deep.MidRow
import Derived.Deep.Cut
namespace Go.Proofs.Ytmcbmbcfgefocaa
open Go.RowKit
set_option linter.unusedSimpArgs false
set_option linter.unusedVariables false

/-- A call ends by a refusal; by a loss. -/
abbrev refE (k : Int) : Ending := .panicked [{ v := .iface 60 (.int .i64 k), recovered := false }]
abbrev lossV : Value := .iface 75 (.agg #[])
abbrev lossE : Ending := .panicked [{ v := lossV, recovered := false }]
/-- How must ends. -/
def mustE (k : Int) : Ending := if k = 0 then .returned (.tuple #[]) else if k = 4 then lossE else refE k
set_option maxRecDepth 100000 in
theorem must_any (k : Int) (w : World) : Calls Try.prog 30 #[.int .i64 k] w fun e w' => e = mustE k ∧ w = w' := by
  by_cases h0 : k = 0
  · subst h0
    go_enter Try.func30, Try.ntmps30
    go_wp2
    go_end0
    exact ⟨rfl, rfl⟩
  · by_cases h4 : k = 4
    · subst h4
      go_enter Try.func30, Try.ntmps30
      go_wp2
      exact ⟨rfl, rfl, rfl⟩
    · have e0 : (k == 0) = false := by rw [beq_eq_false_iff_ne]; exact h0
      have e4 : (k == 4) = false := by rw [beq_eq_false_iff_ne]; exact h4
      have HE : Hid (refE k = mustE k) := Lib.hid (by unfold mustE; rw [if_neg h0, if_neg h4])
      clear h0 h4
      go_enter Try.func30, Try.ntmps30
      go_wp2
      exact ⟨rfl, HE.out, rfl⟩
section
variable {F : Nat → Prop} {w w' : World} {gd : Nat} {S : DS}
theorem gsectors_any (h : DskAt F w gd S) : Calls Try.prog 42 #[.pointer (some ⟨gd, 0, none⟩)] w fun e w' => e = .returned (.int .i64 (S.n : Nat)) ∧ w = w' := by
  obtain ⟨_, _, _, _, _, _, _, _, h⟩ := h
  exact sectors_any h
theorem w64_in (n : Int) (h : -9223372036854775808 ≤ n ∧ n ≤ 9223372036854775807) : wrap64 n = n := by unfold wrap64; omega
def halfN (n : Nat) : Nat := (n - 2) / 2
set_option maxRecDepth 100000 in
theorem half_any (h : DskAt F w gd S) (h2 : 2 ≤ S.n) (h3 : S.n ≤ 512) : Calls Try.prog 27 #[.pointer (some ⟨gd, 0, none⟩)] w fun e w' => e = .returned (.int .i64 (halfN S.n : Nat)) ∧ w = w' := by
  have HS := Lib.hid (gsectors_any h)
  have hb : (S.n : Int) ≤ 512 := by omega
  have hb2 : (2 : Int) ≤ S.n := by omega
  have HE : Hid (((S.n : Int) - 2) / 2 = ((halfN S.n : Nat) : Int)) := Lib.hid (by unfold halfN; omega)
  clear h h2 h3
  go_enter Try.func27, Try.ntmps27
  go_wp2_with (go_at_call 42; refine HS.out.mono ?_; rintro e w' ⟨rfl, rfl⟩)
  go_ret
  rw [HE.out]
  exact ⟨rfl, rfl⟩
set_option maxRecDepth 100000 in
theorem first_any (h : DskAt F w gd S) (h2 : 2 ≤ S.n) (h3 : S.n ≤ 512) (g : Nat) (hg : g < 4294967296) : Calls Try.prog 47 #[.pointer (some ⟨gd, 0, none⟩), .int .u32 (g : Nat)] w fun e w' => e = .returned (.int .i64 ((2 + g % 2 * halfN S.n : Nat) : Int)) ∧ w = w' := by
  have HS := Lib.hid (half_any h h2 h3)
  have hgI : (g : Int) < 4294967296 := by omega
  have hgr : g % 2 ≤ 1 := by omega
  have hh : halfN S.n ≤ 255 := by unfold halfN; omega
  have HE : Hid (wrap64 ((2 : Int) + wrap64 (((g : Nat) : Int) % 2 * ((halfN S.n : Nat) : Int))) = ((2 + g % 2 * halfN S.n : Nat) : Int)) := Lib.hid (by
    rcases (by omega : g % 2 = 0 ∨ g % 2 = 1) with e | e
    · rw [e, show ((g : Nat) : Int) % 2 = 0 from by omega, Int.zero_mul, Nat.zero_mul, w64_in 0 (by omega), w64_in _ (by omega)]; rfl
    · have h1 : ((halfN S.n : Nat) : Int) ≤ 255 := by omega
      have h0 : 0 ≤ ((halfN S.n : Nat) : Int) := by omega
      rw [e, show ((g : Nat) : Int) % 2 = 1 from by omega, Int.one_mul, Nat.one_mul, w64_in ((halfN S.n : Nat) : Int) (by omega), w64_in _ (by omega), Int.natCast_add]; rfl)
  clear h h2 h3
  go_enter Try.func47, Try.ntmps47
  go_wp2_with (go_at_call 27; refine HS.out.mono ?_; rintro e w' ⟨rfl, rfl⟩)
  go_ret
  rw [HE.out]
  exact ⟨rfl, rfl⟩
end
end Go.Proofs.Ytmcbmbcfgefocaa

/- The deferred call: how a call of the ledger ends. -/
namespace Go.Proofs.Ytmcbmbcfgefocaa
open Go.RowKit
set_option linter.unusedSimpArgs false
set_option linter.unusedVariables false

abbrev catchK : FuncId := 41
abbrev caught (k : Value) (b : Bool) (older : List PanicEntry) : FrameMode := .panicking ({ v := k, recovered := b } :: older)
theorem is_ref (k : Int) (w : World) : (Instr.typeAssert (.iface 60 (.int .i64 k)) 20 60 true).run Try.prog w = .ok (.tuple #[.int .i64 k, .bool true]) w := by kernel_rfl
theorem not_ref (w : World) : (Instr.typeAssert (.iface 75 (.agg #[])) 20 60 true).run Try.prog w = .ok (.tuple #[.int .i64 0, .bool false]) w := by kernel_rfl
theorem is_loss (w : World) : (Instr.typeAssert (.iface 75 (.agg #[])) 20 75 true).run Try.prog w = .ok (.tuple #[.agg #[], .bool true]) w := by kernel_rfl
set_option maxRecDepth 100000 in
set_option maxHeartbeats 1000000 in
theorem catch_idle (pc pl : Addr) (w : World) : CallsD Try.prog catchK #[.pointer (some pc), .pointer (some pl)] .returning w (fun e u' w' => e = Ending.returned (Value.tuple #[]) ∧ u' = .returning ∧ w' = w) := by
  have hnil : ∀ w : World, (binOp BinOp.eql 20 .nilIface .nilIface).run Try.prog w = .ok (.bool true) w := fun _ => by kernel_rfl
  refine callsD_of_wpS Try.func41 rfl fun c₀ cs hu => ?_
  apply wpS_seq
  apply wpS_region
  simp [wpOpsS, go_sem, recoverD, hu, Try.ntmps41, Exit.thenS]
  refine wpS_of_wp ?_
  obtain ⟨PP, hPP⟩ : ∃ PP, PP = (fun e a' w' => bodyPostS Try.prog Try.f41 c₀ cs (fun e u' w' => e = Ending.returned (Value.tuple #[]) ∧ u' = .returning ∧ w' = w) e a' (c₀ :: cs) w') := ⟨_, rfl⟩
  have hfin : ∀ tmps w', w' = w → PP .normal { tmps := tmps, defers := [] } w' := fun tmps w' hw => by rw [hPP]; exact ⟨rfl, .returning, by cases c₀; simp at hu; subst hu; rfl, _, results_none rfl _ _ _, rfl, rfl, hw⟩
  rw [← hPP]
  have HF := Lib.hid hfin
  clear hPP hu hfin
  simp only [Array.replicate_succ, Array.replicate_zero, List.push_toArray, List.append_toArray, List.nil_append, List.cons_append, List.setIfInBounds_toArray, List.set_cons_succ, List.set_cons_zero]
  go_wp2
  exact HF.out _ _ rfl
set_option maxRecDepth 100000 in
set_option maxHeartbeats 1000000 in
theorem catch_ref {pc : Addr} (pl : Addr) (k : Int) {x : Value} (older : List PanicEntry) {w : World} (hc : w.cell? pc = some x) (hz : w.frozen? pc = false) : CallsD Try.prog catchK #[.pointer (some pc), .pointer (some pl)] (caught (.iface 60 (.int .i64 k)) false older) w (fun e u' w' => e = Ending.returned (Value.tuple #[]) ∧ u' = (caught (.iface 60 (.int .i64 k)) true older) ∧ w' = w.setCell pc (.int .i64 k)) := by
  have h1 := is_ref k
  refine callsD_of_wpS Try.func41 rfl fun c₀ cs hu => ?_
  apply wpS_seq
  apply wpS_region
  simp [wpOpsS, go_sem, recoverD, hu, Try.ntmps41, Exit.thenS]
  refine wpS_of_wp ?_
  obtain ⟨PP, hPP⟩ : ∃ PP, PP = (fun e a' w' => bodyPostS Try.prog Try.f41 c₀ cs (fun e u' w' => e = Ending.returned (Value.tuple #[]) ∧ u' = (caught (.iface 60 (.int .i64 k)) true older) ∧ w' = w.setCell pc (.int .i64 k)) e a' ({ c₀ with mode := (caught (.iface 60 (.int .i64 k)) true older) } :: cs) w') := ⟨_, rfl⟩
  have hfin : ∀ tmps w', w' = w.setCell pc (.int .i64 k) → PP .normal { tmps := tmps, defers := [] } w' := fun tmps w' hw => by rw [hPP]; exact ⟨rfl, (caught (.iface 60 (.int .i64 k)) true older), by cases c₀; simp at hu; subst hu; rfl, _, results_none rfl _ _ _, rfl, rfl, hw⟩
  rw [← hPP]
  have HF := Lib.hid hfin
  clear hPP hu hfin
  simp only [Array.replicate_succ, Array.replicate_zero, List.push_toArray, List.append_toArray, List.nil_append, List.cons_append, List.setIfInBounds_toArray, List.set_cons_succ, List.set_cons_zero]
  go_wp2
  exact HF.out _ _ rfl
theorem box_other' {w : World} {B C : Nat} {t : TypeId} {u : Value} (h : Boxed w B t u) (hn : B ≠ C) (i : Nat) (v : Value) : Boxed (w.setCell ⟨C, i, none⟩ v) B t u := (Below.heap_setCell w ⟨C, i, none⟩ v B hn).trans h
/-- A ledger in its block: its disk, segment, records; whether it is lost. -/
def lv (gd gq : Option Addr) (v : Value) (b : Bool) : Nat → Value
  | 0 => .pointer gd
  | 1 => .pointer gq
  | 2 => v
  | _ => .bool b
/-- A ledger was lost, and its code told. -/
def LostAt (w w' : World) (pc gl : Nat) : Prop := w'.rowIs gl 56 4 (lv none none (.slice none 0 0) true) ∧ Boxed w' pc 25 (.int .i64 4) ∧ Only (fun k => k = gl ∨ k = pc) w w'
theorem cells4 (w : World) (g : Nat) (a b c d : Value) : w.setCells g 0 [a, b, c, d] = (((w.setCell ⟨g, 0, none⟩ a).setCell ⟨g, 1, none⟩ b).setCell ⟨g, 2, none⟩ c).setCell ⟨g, 3, none⟩ d := rfl
theorem only4 {F : Nat → Prop} {w w1 : World} {g : Nat} (h : Only F w w1) (hg : F g) (a b c d : Value) : Only F w (w1.setCells g 0 [a, b, c, d]) := by
  rw [cells4]
  exact (((h.setCell (a := ⟨g, 0, none⟩) (.inl hg) a).setCell (a := ⟨g, 1, none⟩) (.inl hg) b).setCell (a := ⟨g, 2, none⟩) (.inl hg) c).setCell (a := ⟨g, 3, none⟩) (.inl hg) d
theorem box4 {w : World} {B g : Nat} {t : TypeId} {u : Value} (h : Boxed w B t u) (hn : B ≠ g) (a b c d : Value) : Boxed (w.setCells g 0 [a, b, c, d]) B t u := by
  rw [cells4]
  exact box_other' (box_other' (box_other' (box_other' h hn 0 _) hn 1 _) hn 2 _) hn 3 _
theorem row4_set {w : World} {g : Nat} {t : TypeId} {V V' : Nat → Value} {a b c d : Value} (h : w.rowIs g t 4 V) (h0 : V' 0 = a) (h1 : V' 1 = b) (h2 : V' 2 = c) (h3 : V' 3 = d) : (w.setCells g 0 [a, b, c, d]).rowIs g t 4 V' := by
  rw [cells4]
  refine ((((h.set 0 a).set 1 b).set 2 c).set 3 d).congr fun i hi => ?_
  rcases (by omega : i = 0 ∨ i = 1 ∨ i = 2 ∨ i = 3) with rfl | rfl | rfl | rfl
  · exact h0.symm
  · exact h1.symm
  · exact h2.symm
  · exact h3.symm
set_option maxRecDepth 100000 in
set_option maxHeartbeats 1000000 in
theorem catch_loss {pc gl b : Nat} {V : Nat → Value} {x : Value} (older : List PanicEntry) {w : World} (hb : w.cell? ⟨b, 0, none⟩ = some (.pointer (some ⟨gl, 0, none⟩))) (hl : w.rowIs gl 56 4 V) (hc : Boxed w pc 25 x) : CallsD Try.prog catchK #[.pointer (some ⟨pc, 0, none⟩), .pointer (some ⟨b, 0, none⟩)] (caught lossV false older) w (fun e u' w' => e = Ending.returned (Value.tuple #[]) ∧ u' = (caught lossV true older) ∧ LostAt w w' pc gl) := by
  have h1 := not_ref
  have h2 := is_loss
  have hb0 := below_new w (.cells #[] 75)
  have hlr : (w.alloc (.cells #[] 75)).rowIs gl 56 4 V := hl.of_block (hb0.block gl hl.lt)
  have HLR := Lib.hid hlr
  have hb1 : (w.alloc (.cells #[] 75)).cell? ⟨b, 0, none⟩ = some (.pointer (some ⟨gl, 0, none⟩)) := (World.cell?_of_block (hb0.block b (block_lt_of_cell hb))).trans hb
  have hne : pc ≠ gl := fun e => by
    subst e
    obtain ⟨cs, hh, _⟩ := hl
    have hc : w.heap[pc]? = _ := hc
    rw [hh] at hc
    injection hc with hc
    injection hc with _ h4
    exact absurd h4 (by decide)
  have hx : Boxed (w.alloc (.cells #[] 75)) pc 25 x := (hb0.block pc hc.lt).trans hc
  have HX : Hid (Boxed ((w.alloc (.cells #[] 75)).setCells gl 0 [.pointer none, .pointer none, .slice none 0 0, .bool true]) pc 25 x) := Lib.hid (box4 hx hne _ _ _ _)
  have HR := Lib.hid (row4_set (V' := lv none none (.slice none 0 0) true) (a := .pointer none) (b := .pointer none) (c := .slice none 0 0) (d := .bool true) hlr rfl rfl rfl rfl)
  have HO : Hid (Only (fun k => k = gl ∨ k = pc) w ((w.alloc (.cells #[] 75)).setCells gl 0 [.pointer none, .pointer none, .slice none 0 0, .bool true])) := Lib.hid (only4 (Only.of_below hb0) (.inl rfl) _ _ _ _)
  have HNE := Lib.hid hne
  have HX0 := Lib.hid hx
  clear hlr hb0 hb hl hc hx hne
  refine callsD_of_wpS Try.func41 rfl fun c₀ cs hu => ?_
  apply wpS_seq
  apply wpS_region
  simp [wpOpsS, go_sem, recoverD, hu, Try.ntmps41, Exit.thenS]
  refine wpS_of_wp ?_
  obtain ⟨PP, hPP⟩ : ∃ PP, PP = (fun e a' w' => bodyPostS Try.prog Try.f41 c₀ cs (fun e u' w' => e = Ending.returned (Value.tuple #[]) ∧ u' = (caught lossV true older) ∧ LostAt w w' pc gl) e a' ({ c₀ with mode := (caught lossV true older) } :: cs) w') := ⟨_, rfl⟩
  have hfin : ∀ tmps w', LostAt w w' pc gl → PP .normal { tmps := tmps, defers := [] } w' := fun tmps w' hw => by rw [hPP]; exact ⟨rfl, (caught lossV true older), by cases c₀; simp at hu; subst hu; rfl, _, results_none rfl _ _ _, rfl, rfl, hw⟩
  rw [← hPP]
  have HF := Lib.hid hfin
  clear hPP hu hfin
  simp only [Array.replicate_succ, Array.replicate_zero, List.push_toArray, List.append_toArray, List.nil_append, List.cons_append, List.setIfInBounds_toArray, List.set_cons_succ, List.set_cons_zero]
  go_upto_region 10 with fail
  clear h1 h2
  generalize w.alloc (.cells #[] 75) = w1 at *
  have c0 := HLR.out.cell (i := 0) (by omega)
  have c1 := HLR.out.cell (i := 1) (by omega)
  have c2 := HLR.out.cell (i := 2) (by omega)
  have c3 := HLR.out.cell (i := 3) (by omega)
  have z0 := HLR.out.frozen 0
  have z1 := HLR.out.frozen 1
  have z2 := HLR.out.frozen 2
  have z3 := HLR.out.frozen 3
  have cx := HX0.out.cell
  have zx := HX0.out.frozen
  have n1 : (pc = gl) = False := eq_false HNE.out
  have n2 : (gl = pc) = False := eq_false fun e => HNE.out e.symm
  go_wp2
  rw [cells4] at HX HR HO
  refine HF.out _ _ ⟨?_, ?_, ?_⟩
  · exact HR.out.setOther (fun e => HNE.out e.symm) _
  · exact HX.out.set _
  · exact HO.out.setCell (.inl (.inr rfl)) _
end Go.Proofs.Ytmcbmbcfgefocaa

/- call: how a call of the ledger ends. -/
namespace Go.Proofs.Ytmcbmbcfgefocaa
open Go.RowKit
set_option linter.unusedSimpArgs false
set_option linter.unusedVariables false

theorem results_code {fn : Func} (h : fn.results = #[.cell 4 25]) {tmps : Array Value} {w : World} {b : Nat} {k : Int} (hp : tmps.getD 4 undef = .pointer (some ⟨b, 0, none⟩)) (hb : Boxed w b 25 (.int .i64 k)) : (results fn tmps).run Try.prog w = .ok (.int .i64 k) w := by
  have hc := hb.cell
  have hp' : tmps[4]?.getD undef = .pointer (some ⟨b, 0, none⟩) := by simpa using hp
  simp [results, h, go_sem, hp', hc]
/-- Memory in which a call does what it does: two new boxes. -/
abbrev callW (w : World) (gl : Nat) : World := (w.alloc (.cells #[.pointer (some ⟨gl, 0, none⟩)] 28)).alloc (.cells #[.int .i64 0] 25)
/-- How a call ends, by how what it does ends. -/
def CallQ (w : World) (gl : Nat) (RF : Ending → World → Prop) (e' : Ending) (w' : World) : Prop :=
  ∃ e w2, RF e w2 ∧ ((e = .returned (.tuple #[]) ∧ e' = .returned (.int .i64 0) ∧ w' = w2.setCell ⟨w.heap.size + 1, 0, none⟩ (.int .i64 0)) ∨ (∃ k, e = refE k ∧ e' = .returned (.int .i64 k) ∧ w' = w2.setCell ⟨w.heap.size + 1, 0, none⟩ (.int .i64 k)) ∨ (e = lossE ∧ e' = .returned (.int .i64 4) ∧ LostAt w2 w' (w.heap.size + 1) gl))
/-- What a call leaves of what its end needs. -/
def CallK (w : World) (gl : Nat) (e : Ending) (w2 : World) : Prop := Boxed w2 w.heap.size 28 (.pointer (some ⟨gl, 0, none⟩)) ∧ (∃ x, Boxed w2 (w.heap.size + 1) 25 x) ∧ (∃ V, w2.rowIs gl 56 4 V) ∧ (e = .returned (.tuple #[]) ∨ (∃ k, e = refE k) ∨ e = lossE)
set_option maxRecDepth 100000 in
set_option maxHeartbeats 2000000 in
theorem call_any {w : World} {gl : Nat} {v : Value} {a b : Option Addr} {fn : FuncId} {first cap args : Array Value} {RF : Ending → World → Prop} (ha : first ++ cap = args) (hcf : ∀ args u, (callFunc fn args).run Try.prog u = .ok (.enter fn args) u) (h : w.rowIs gl 56 4 (lv a b v false)) (HF : Calls Try.prog fn args (callW w gl) RF) (hK : ∀ e w2, RF e w2 → CallK w gl e w2) :
    Calls Try.prog 23 #[.pointer (some ⟨gl, 0, none⟩), .func (.func fn) first cap] w (CallQ w gl RF) := by
  subst ha
  have hb0 : Below w.heap.size w (callW w gl) := (below_new _ _).trans ((below_new _ _).mono (by simp))
  have c3 : (callW w gl).cell? ⟨gl, 3, none⟩ = some (.bool false) := (h.of_block (hb0.block gl h.lt)).cell (i := 3) (by omega)
  have HB := Lib.hid hb0
  have hmf : ∀ (fn : Fn) (first cap : Array Value) (w : World), (Instr.makeFunc fn first cap).run Try.prog w = .ok (.func fn first cap) w := fun _ _ _ _ => rfl
  clear hb0 h
  go_enter_defers Try.func23, Try.ntmps23
  go_wp2
  refine HF.mono ?_
  intro e w2 hr
  obtain ⟨k1, ⟨x, k2⟩, ⟨V, k3⟩, hcase⟩ := hK e w2 hr
  have z2 := k2.frozen
  have c2 := k2.cell
  have K1 := Lib.hid k1
  have K2 := Lib.hid k2
  have K3 := Lib.hid k3
  have HR := Lib.hid hr
  clear hK k1 k2 k3 hr HF c3 hcf
  rcases hcase with rfl | ⟨k, rfl⟩ | rfl
  · go_wp2
    refine leaves_cons (f := catchK) (args := #[.pointer (some ⟨w.heap.size + 1, 0, none⟩), .pointer (some ⟨w.heap.size, 0, none⟩)]) (by simp) (by simp [go_sem]) ?_
    refine (catch_idle _ _ _).mono ?_
    rintro e u' w3 ⟨rfl, rfl, rfl⟩
    exact ⟨_, results_code rfl rfl (K2.out.set (.int .i64 0)), _, w2, HR.out, .inl ⟨rfl, rfl, rfl⟩⟩
  · show Leaves _ _ _ _ _ _ _
    refine leaves_cons (f := catchK) (args := #[.pointer (some ⟨w.heap.size + 1, 0, none⟩), .pointer (some ⟨w.heap.size, 0, none⟩)]) (by simp) (by simp [go_sem]) ?_
    refine (catch_ref _ k [] c2 z2).mono ?_
    rintro e u' w3 ⟨rfl, rfl, rfl⟩
    exact ⟨_, results_code rfl rfl (K2.out.set (.int .i64 k)), _, w2, HR.out, .inr (.inl ⟨k, rfl, rfl, rfl⟩)⟩
  · show Leaves _ _ _ _ _ _ _
    refine leaves_cons (f := catchK) (args := #[.pointer (some ⟨w.heap.size + 1, 0, none⟩), .pointer (some ⟨w.heap.size, 0, none⟩)]) (by simp) (by simp [go_sem]) ?_
    refine (catch_loss [] K1.out.cell K3.out K2.out).mono ?_
    rintro e u' w3 ⟨rfl, rfl, hl⟩
    exact ⟨_, results_code rfl rfl hl.2.1, _, w2, HR.out, .inr (.inr ⟨rfl, rfl, hl⟩)⟩
theorem cf_load (args : Array Value) (u : World) : (callFunc 24 args).run Try.prog u = .ok (.enter 24 args) u := by simp [go_sem]
theorem cf_compact (args : Array Value) (u : World) : (callFunc 25 args).run Try.prog u = .ok (.enter 25 args) u := by simp [go_sem]
theorem cf_append (args : Array Value) (u : World) : (callFunc 37 args).run Try.prog u = .ok (.enter 37 args) u := by simp [go_sem]
end Go.Proofs.Ytmcbmbcfgefocaa
