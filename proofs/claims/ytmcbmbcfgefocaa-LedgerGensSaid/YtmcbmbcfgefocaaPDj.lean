/- Contracts: next, wait. -/
import Derived.Test.YtmcbmbcfgefocaaPDi
import Derived.Conc.LoneCalls
import Derived.Conc.LoneSelectN
import Derived.KernelRfl
namespace Go.Proofs.Ytmcbmbcfgefocaa
open Go.Conc Go.RowKit

def bytesV (l : List Nat) : Array Value := (l.map fun (c : Nat) => Value.int .u8 (c : Nat)).toArray
/-- A channel that is closed, in which these bytes wait. -/
def Chn (w : World) (g : Nat) (l : List Nat) : Prop := ∃ cap s r, w.heap[g]? = some (.chan cap (bytesV l) true s r false)
theorem zero8 (w : World) : (zeroValue 5).run Try.prog w = .ok (.int .u8 0) w := by kernel_rfl
theorem res_r0 (a : Nat) (z v : Value) (ok : Bool) : commResult #[rcase a z] .select ((0 : Nat) : Int) v ok = .tuple #[goInt 0, .bool ok, v] := by
  simp [commResult, rcase, List.zipIdx_cons]
theorem only_setChan {w : World} (g cap : Nat) (buf : Array Value) (cl : Bool) (s r : Nat) (tm : Bool) : Only (· = g) w (w.setChan g cap buf cl s r tm) :=
  ⟨rfl, rfl, rfl, by simp [World.setChan], fun k _ hk => by simp only [World.setChan]; rw [Array.getElem?_setIfInBounds_ne (fun e => hk e.symm)]⟩
theorem heap_lt {w : World} {g : Nat} {o : Obj} (h : w.heap[g]? = some o) : g < w.heap.size := (Array.getElem?_eq_some_iff.1 h).1
set_option maxRecDepth 100000 in
theorem next_some (g c : Nat) (l : List Nat) (w : World) (h : Chn w g (c :: l)) (hc : c < 256) :
    Calls Try.prog 36 #[.chan (some g)] w fun e w' => e = .returned (.int .i64 ((c % 3 : Nat) : Int)) ∧ Chn w' g l ∧ Only (· = g) w w' := by
  obtain ⟨cap, s, r, h⟩ := h
  refine calls_of_loneTo fun cs => ?_
  have e : Frame.enter Try.prog 36 #[.chan (some g)] .normal = (base 36).at ⟨#[.chan (some g), undef, undef, undef, undef, undef, undef, undef, undef, undef, undef, undef], []⟩ [.code (Try.f36.body.getD .skip)] := by
    simp [Frame.enter, Frame.at, Try.func36, base, Try.f36]
  rw [e]
  have hz := zero8
  refine LoneTo.goes (n := 20) ?_
  simp only [Try.f36, Option.getD_some]
  s_c stepG_seq
  s_reg
  s_op
  s_c stepG_region_end
  s_c stepG_seq
  s_reg
  s_op
  s_c stepG_region_end
  s_c stepG_seq
  s_reg
  s_stop
  refine LoneTo.step (step_lone_sel_recv_buf (k := 0) (c := g) (z := .int .u8 0) (cap := cap) (buf := bytesV (c :: l)) (closed := true) (s := s) (r := r) (tm := false)
    (stepG_comm (cases := #[rcase g (.int .u8 0)]) (blocking := false) (shape := .select) (w' := w) rfl rfl (by decide) (by simp [go_sem, execOp, rcase, Act.eval, hz]))
    rfl (fun m c' hm hc' => ?_) h (by simp [bytesV])) ?_
  · rcases m with _ | m
    · exact absurd rfl hm
    · simp at hc'
  rw [Frame.finish_at, res_r0]
  walk_nrm
  refine LoneTo.goes (n := 30) ?_
  s_op
  s_op
  s_c stepG_region_end
  s_c stepG_block
  s_cond true
  s_c stepG_seq
  s_reg
  s_op
  s_op
  s_c stepG_region_end
  s_c stepG_seq
  s_reg
  s_op
  s_op
  s_op
  s_op
  s_c stepG_region_end
  s_c stepG_ret'
  s_stop
  have hb : (bytesV (c :: l)).extract 1 (bytesV (c :: l)).size = bytesV l := by simp [bytesV, List.take_of_length_le]
  exact LoneTo.done ⟨.returned (.int .i64 ((c % 3 : Nat) : Int)), _, rfl, ⟨rfl, ⟨cap, s, r + 1, by rw [← hb]; exact heap_setChan _ _ _ _ _ _ _ _ (heap_lt h)⟩, only_setChan _ _ _ _ _ _ _⟩, rfl, rfl, rfl, rfl, _, Try.func36, by simp [results, Try.f36, Frame.at]; rw [Int.tmod_eq_emod_of_nonneg (by omega)]; exact IntWalk.i64_in _ (by omega)⟩
set_option maxRecDepth 100000 in
theorem next_none (g : Nat) (w : World) (h : Chn w g []) :
    Calls Try.prog 36 #[.chan (some g)] w fun e w' => e = .returned (.int .i64 0) ∧ w = w' := by
  obtain ⟨cap, s, r, h⟩ := h
  have hbe : bytesV [] = #[] := rfl
  rw [hbe] at h
  refine calls_of_loneTo fun cs => ?_
  have e : Frame.enter Try.prog 36 #[.chan (some g)] .normal = (base 36).at ⟨#[.chan (some g), undef, undef, undef, undef, undef, undef, undef, undef, undef, undef, undef], []⟩ [.code (Try.f36.body.getD .skip)] := by
    simp [Frame.enter, Frame.at, Try.func36, base, Try.f36]
  rw [e]
  have hz := zero8
  refine LoneTo.goes (n := 20) ?_
  simp only [Try.f36, Option.getD_some]
  s_c stepG_seq
  s_reg
  s_op
  s_c stepG_region_end
  s_c stepG_seq
  s_reg
  s_op
  s_c stepG_region_end
  s_c stepG_seq
  s_reg
  s_stop
  refine LoneTo.step (step_lone_sel_recv_shut (k := 0) (c := g) (z := .int .u8 0) (cap := cap) (s := s) (r := r) (tm := false)
    (stepG_comm (cases := #[rcase g (.int .u8 0)]) (blocking := false) (shape := .select) (w' := w) rfl rfl (by decide) (by simp [go_sem, execOp, rcase, Act.eval, hz]))
    rfl (fun m c' hm hc' => ?_) h) ?_
  · rcases m with _ | m
    · exact absurd rfl hm
    · simp at hc'
  rw [Frame.finish_at, res_r0]
  walk_nrm
  refine LoneTo.goes (n := 30) ?_
  s_op
  s_op
  s_c stepG_region_end
  s_c stepG_block
  s_cond true
  s_c stepG_seq
  s_reg
  s_op
  s_op
  s_c stepG_region_end
  s_c stepG_seq
  s_reg
  s_op
  s_op
  s_op
  s_op
  s_c stepG_region_end
  s_c stepG_ret'
  s_stop
  exact LoneTo.done ⟨.returned (.int .i64 0), _, rfl, ⟨rfl, rfl⟩, rfl, rfl, rfl, rfl, _, Try.func36, by simp [results, Try.f36, Frame.at]; rfl⟩

theorem info8 : ∃ i, Try.prog.info? 5 = some i ∧ i.bytes = 1 := by
  have h : (Try.prog.info? 5).map (·.bytes) = some 1 := by kernel_rfl
  obtain ⟨i, hi, hb⟩ := Option.map_eq_some_iff.1 h
  exact ⟨i, hi, hb⟩
theorem mkc (w : World) (n : Nat) (hn : n ≤ 1000000000) : (Instr.makeChan 90 (.int .i64 (n : Nat))).run Try.prog w = .ok (.chan (some w.heap.size)) (w.alloc (.chan n #[] false 0 0 false)) := by
  obtain ⟨i, hi, hb⟩ := info8
  exact run_makeChan (P := Try.prog) (w := w) Try.underlying90 hi .i64 n (by omega) (by rw [hb]; omega)
def sndSeq : Code → Code | .seq _ b => b | c => c
def fstSeq : Code → Code | .seq a _ => a | c => c
def unBlock : Code → Code | .block _ c => c | c => c
def unLoop : Code → Code | .loop c => c | c => c
noncomputable def loopBody : Code := unLoop (unBlock (sndSeq (fstSeq (sndSeq (sndSeq (Try.f35.body.getD .skip))))))
noncomputable def afterLoop : Code := sndSeq (sndSeq (sndSeq (Try.f35.body.getD .skip)))
/-- What the call comes to. -/
def WEnds (cs : List Frame) (n : Nat) (f : Nat → Nat) (w0 : World) (g' : Goroutine) (w' : World) : Prop :=
  ∃ e fr, g' = G fr cs ∧ (e = .returned (.chan (some w0.heap.size)) ∧ Chn w' w0.heap.size ((List.range n).map f) ∧ Below w0.heap.size w0 w') ∧ fr.fn = 35 ∧ fr.leaving Try.prog w' e
set_option maxRecDepth 100000 in
theorem wait_loop (A : Option Addr) (n c : Nat) (f : Nat → Nat) (w0 : World) (hr : Rd .u8 w0 A n f) (hn : n ≤ 1000000000) (cs : List Frame) :
    ∀ (m k : Nat) (w : World) (j1 j4 j5 j6 j7 j8 j12 j13 j14 j15 j16 j17 j18 j19 : Value), n - k = m → k ≤ n → w.heap[w0.heap.size]? = some (.chan n (bytesV ((List.range k).map f)) false k 0 false) → Below w0.heap.size w0 w →
      LoneTo Try.prog (WEnds cs n f w0) (G ((base 35).at ⟨#[.slice A n c, j1, .chan none, .chan (some w0.heap.size), j4, j5, j6, j7, j8, .slice A n c, .int .i64 (n : Nat), .int .i64 (k : Nat), j12, j13, j14, j15, j16, j17, j18, j19], []⟩ [.code loopBody, .inLoop loopBody, .inBlock 0, .code afterLoop]) cs) w := by
  intro m
  induction m with
  | zero =>
    intro k w j1 j4 j5 j6 j7 j8 j12 j13 j14 j15 j16 j17 j18 j19 hm hk hc hb
    obtain rfl : k = n := by omega
    have hlt := heap_lt hc
    refine LoneTo.goes (n := 40) ?_
    simp only [loopBody, afterLoop, Try.f35, Option.getD_some, sndSeq, fstSeq, unBlock, unLoop]
    s_c stepG_seq
    s_reg
    s_op
    s_c stepG_region_end
    s_c stepG_seq
    s_cond false
    s_exit
    s_c stepG_seq
    s_reg
    s_op
    s_in
    refine goes_oper_k rfl rfl (by decide) (fun K hK => ?_)
    have hcl := fun ats ty => run_close_open (P := Try.prog) (w := w) ats ty hc
    go_simp
    refine hK _ _ ⟨trivial, ?_⟩
    clear hK K hcl
    s_c stepG_region_end
    s_c stepG_seq
    s_reg
    s_op
    s_op
    s_c stepG_region_end
    s_c stepG_ret'
    s_stop
    exact LoneTo.done ⟨.returned (.chan (some w0.heap.size)), _, rfl, ⟨rfl, ⟨k, k, 0, heap_setChan w _ _ _ _ _ _ _ hlt⟩, below_setChan hb (Nat.le_refl _) k (bytesV ((List.range k).map f)) true k 0 false⟩, rfl, rfl, rfl, rfl, _, Try.func35, by simp [results, Try.f35, Frame.at]⟩
  | succ m ih =>
    intro k w j1 j4 j5 j6 j7 j8 j12 j13 j14 j15 j16 j17 j18 j19 hm hk hc hb
    have hkn : k < n := by omega
    have hw1 : IntKind.i64.wrap ((k : Int) + 1) = ((k + 1 : Nat) : Int) := by rw [IntWalk.i64_in _ (by omega)]; omega
    have hp : (bytesV ((List.range k).map f)).push (.int .u8 (f k : Nat)) = bytesV ((List.range (k + 1)).map f) := by simp [bytesV, List.range_succ]
    obtain ⟨ad, rfl, hcell⟩ := hr k hkn
    have hcell2 := (cell_later hb hcell)
    have q0 : (0 : Int) ≤ (k : Int) := by omega
    have q1 : (k : Int) < (n : Int) := by omega
    refine LoneTo.goes (n := 40) ?_
    simp only [loopBody, afterLoop, Try.f35, Option.getD_some, sndSeq, fstSeq, unBlock, unLoop]
    s_c stepG_seq
    s_reg
    s_op
    s_c stepG_region_end
    s_c stepG_seq
    s_cond true
    s_c stepG_skip
    s_c stepG_seq
    s_c stepG_block
    s_c stepG_seq
    s_reg
    s_op
    s_op
    s_op
    s_c stepG_region_end
    s_reg
    s_op
    s_op
    s_stop
    refine LoneTo.step (step_lone_send_room (c := w0.heap.size) (cap := n) (buf := bytesV ((List.range k).map f)) (s := k) (r := 0) (tm := false) (stepG_comm (cases := #[scase w0.heap.size (.int .u8 (f k : Nat)) (.tuple #[])]) (blocking := true) (shape := .send) (w' := w) rfl rfl (by decide) (by simp [execOp, scase, Act.eval])) hc (by simp [bytesV]; omega)) ?_
    rw [Frame.finish_at, hp]
    walk_nrm
    refine LoneTo.goes (n := 20) ?_
    s_c stepG_region_end
    s_c stepG_inBlock
    s_reg
    s_op
    s_op
    s_c stepG_region_end
    s_c stepG_inLoop
    s_stop
    exact ih (k + 1) (w.setChan w0.heap.size n (bytesV ((List.range (k + 1)).map f)) false (k + 1) 0 false) _ _ _ _ _ _ _ _ _ _ _ _ _ _ (by omega) (by omega) (heap_setChan _ _ _ _ _ _ _ _ (heap_lt hc)) (below_setChan hb (Nat.le_refl _) _ _ _ _ _ _)
set_option maxRecDepth 100000 in
theorem wait_any (A : Option Addr) (n c : Nat) (f : Nat → Nat) (w : World) (hr : Rd .u8 w A n f) (hn : n ≤ 1000000000) :
    Calls Try.prog 35 #[.slice A n c] w fun e w' => e = .returned (.chan (some w.heap.size)) ∧ Chn w' w.heap.size ((List.range n).map f) ∧ Below w.heap.size w w' := by
  refine calls_of_loneTo fun cs => ?_
  have e : Frame.enter Try.prog 35 #[.slice A n c] .normal = (base 35).at ⟨#[.slice A n c, undef, undef, undef, undef, undef, undef, undef, undef, undef, undef, undef, undef, undef, undef, undef, undef, undef, undef, undef], []⟩ [.code (Try.f35.body.getD .skip)] := by
    simp [Frame.enter, Frame.at, Try.func35, base, Try.f35]
  rw [e]
  have hmc := fun w => mkc w n hn
  refine LoneTo.goes (n := 40) ?_
  simp only [Try.f35, Option.getD_some]
  s_c stepG_seq
  s_reg
  s_op
  s_c stepG_region_end
  s_c stepG_seq
  s_reg
  s_op
  s_op
  s_op
  s_op
  s_c stepG_region_end
  s_c stepG_seq
  s_c stepG_seq
  s_reg
  s_op
  s_op
  s_op
  s_c stepG_region_end
  s_c stepG_block
  s_c stepG_loop
  s_stop
  exact wait_loop A n c f w hr hn cs n 0 (w.alloc (.chan n #[] false 0 0 false)) _ _ _ _ _ _ _ _ _ _ _ _ _ _ (by omega) (by omega) (heap_alloc_new w _) ((Below.refl _ _).alloc (Nat.le_refl _) _)
end Go.Proofs.Ytmcbmbcfgefocaa
