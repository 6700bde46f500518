/- Contract: do. -/
import Derived.Test.YtldbnlmimjamnaaEi
import Derived.Deep.RegionHeld3
namespace Go.Proofs.Ytldbnlmimjamnaa
open Go.RowKit

def actV (K I : Int) (C : Nat) (B : Bool) (A : Option Addr) (n c : Nat) : Value := .agg #[.int .i64 K, .int .i64 I, .int .u8 (C : Nat), .bool B, .slice A n c]
def actO (K I : Int) (C : Nat) (B : Bool) (A : Option Addr) (n c : Nat) : Obj := .cells #[.int .i64 K, .int .i64 I, .int .u8 (C : Nat), .bool B, .slice A n c] 33
def DoPost (w0 : World) (gd g t : Nat) (S : DS) (e : Ending) (w' : World) : Prop := ∃ S' t', e = .returned (.bool true) ∧ Two w0 w' gd g t' S' S' (fun _ => True) ∧ t' ≤ t + 1 ∧ S'.P.length ≤ S.P.length + 1
section
variable {w0 w w' : World} {gd g t t' : Nat} {S S' R R' : DS} {Φ Ψ : World → Prop}
theorem act_row (w : World) (K I : Int) (C : Nat) (B : Bool) (A : Option Addr) (n c : Nat) : (w.alloc (actO K I C B A n c)).rowIs w.heap.size 33 5 (dv (.int .i64 K) (.int .i64 I) (.int .u8 (C : Nat)) (.bool B) (.slice A n c)) :=
  World.rowIs_alloc w _ _ _ fun i hi => by
    simp at hi
    rcases (by omega : i = 0 ∨ i = 1 ∨ i = 2 ∨ i = 3 ∨ i = 4) with rfl | rfl | rfl | rfl | rfl <;> rfl
theorem Two.act (h : Two w0 w gd g t S R Φ) (K I : Int) (C : Nat) (B : Bool) (A : Option Addr) (n c : Nat) :
    Two w0 (w.alloc (actO K I C B A n c)) gd g t S R fun u => u.rowIs w.heap.size 33 5 (dv (.int .i64 K) (.int .i64 I) (.int .u8 (C : Nat)) (.bool B) (.slice A n c)) :=
  (h.more (Ψ := fun u => u.rowIs w.heap.size 33 5 (dv (.int .i64 K) (.int .i64 I) (.int .u8 (C : Nat)) (.bool B) (.slice A n c))) (below_new w _) fun u hu _ => (act_row w K I C B A n c).of_block (hu _ (Nat.le_refl _) (by rw [World.size_alloc]; omega))).imp fun _ h => h.2
theorem write_len (S : DS) (i : Int) (f : Nat → Nat) : (S.write i f).1.P.length ≤ S.P.length + 1 := by
  unfold DS.write
  split
  · exact Nat.le_succ _
  · split
    · split
      · simp [DS.wrote, (begun_P S).2.1]
      · rw [(begun_P S).2.1]; exact Nat.le_succ _
    · exact Nat.le_succ _
theorem flush_len (S : DS) : S.flush.1.P.length ≤ S.P.length + 1 := by
  unfold DS.flush
  split
  · exact Nat.le_succ _
  · split
    · simp [DS.flushed]
    · rw [(begun_P S).2.1]; exact Nat.le_succ _
set_option maxRecDepth 20000 in
set_option maxHeartbeats 2000000 in
theorem do_read (h : Two w0 w gd g t S S fun _ => True) (hP : S.P.length ≤ 1000000) (I : Int) (C : Nat) (B : Bool) (A : Option Addr) (n c : Nat) :
    Calls Try.prog 13 #[.pointer (some ⟨gd, 0, none⟩), .pointer (some ⟨g, 0, none⟩), actV 0 I C B A n c] w fun e w' => DoPost w0 gd g t S e w' := by
  have h1 := h.act 0 I C B A n c
  unfold actO at h1
  unfold actV
  clear h
  go_enter Try.func13, Try.ntmps13
  go_wp2_with (first
    | (go_at_call 23; with_reducible refine (h1.read1 I).mono ?_; rintro e w2 ⟨a1, n1, c1, rfl, h2⟩
       obtain ⟨y0, y1, y2, y3, y4⟩ := dvr h2.sat.1)
    | (go_at_call 27; refine (h2.read2 I hP).mono ?_; rintro e w3 ⟨a2, n2, c2, rfl, hs2, rfl⟩)
    | (go_at_call 22; with_reducible refine (rows_yes h2.sat.2 hs2 (SameO.refl _)).mono ?_; rintro e w4 ⟨rfl, hb4⟩))
  go_ret
  exact ⟨S, t, rfl, (h2.below hb4).imp fun _ _ => trivial, by omega, by omega⟩
set_option maxRecDepth 20000 in
set_option maxHeartbeats 2000000 in
theorem do_flush (h : Two w0 w gd g t S S fun _ => True) (ht : t ≤ 1000000) (hP : S.P.length ≤ 1000000) (I : Int) (C : Nat) (B : Bool) (A : Option Addr) (n c : Nat) :
    Calls Try.prog 13 #[.pointer (some ⟨gd, 0, none⟩), .pointer (some ⟨g, 0, none⟩), actV 2 I C B A n c] w fun e w' => DoPost w0 gd g t S e w' := by
  have h1 := h.act 2 I C B A n c
  unfold actO at h1
  unfold actV
  clear h
  go_enter Try.func13, Try.ntmps13
  go_wp2_with (first
    | (go_at_call 20; with_reducible refine h1.flush1.mono ?_; rintro e w2 ⟨rfl, h2⟩)
    | (go_at_call 29; with_reducible refine (h2.flush2 ht hP).mono ?_; rintro e w3 ⟨rfl, h3⟩))
  go_ret
  exact ⟨_, _, rfl, h3.imp fun _ _ => trivial, by omega, flush_len S⟩
set_option maxRecDepth 20000 in
set_option maxHeartbeats 2000000 in
theorem do_plan (h : Two w0 w gd g t S S fun _ => True) (I : Int) (hI : I ≤ 9223372036854775807 ∧ -9223372036854775808 ≤ I) (C : Nat) (B : Bool) (A : Option Addr) (n c : Nat) :
    Calls Try.prog 13 #[.pointer (some ⟨gd, 0, none⟩), .pointer (some ⟨g, 0, none⟩), actV 3 I C B A n c] w fun e w' => DoPost w0 gd g t S e w' := by
  have h1 := h.act 3 I C B A n c
  unfold actO at h1
  unfold actV
  clear h
  go_enter Try.func13, Try.ntmps13
  go_wp2_with (first
    | (go_at_call 24; with_reducible refine (h1.plan1 I hI.1).mono ?_; rintro e w2 ⟨rfl, h2⟩
       obtain ⟨y0, y1, y2, y3, y4⟩ := dvr h2.sat)
    | (go_at_call 30; with_reducible refine (h2.plan2 I hI).mono ?_; rintro e w3 ⟨rfl, h3⟩
       obtain ⟨v0, v1, v2, v3, v4⟩ := dvr h3.sat))
  go_ret
  exact ⟨_, _, rfl, h3.imp fun _ _ => trivial, by omega, Nat.le_succ _⟩
set_option maxRecDepth 20000 in
set_option maxHeartbeats 2000000 in
theorem do_up (h : Two w0 w gd g t S S fun _ => True) (hP : S.P.length ≤ 1000000) (I : Int) (C : Nat) (B : Bool) (A : Option Addr) (n c : Nat) (f : Nat → Nat) (hr : Rd .u8 w0 A n f) (hf : ∀ j, j < n → f j < 256) (hnc : n ≤ c) (hn : n ≤ 1000000) :
    Calls Try.prog 13 #[.pointer (some ⟨gd, 0, none⟩), .pointer (some ⟨g, 0, none⟩), actV 4 I C B A n c] w fun e w' => DoPost w0 gd g t S e w' := by
  have h1 := h.act 4 I C B A n c
  have HC := Lib.hid (show ∀ ad, A = some ad → 0 < n → ad.block < w0.heap.size from fun ad e hn => by
    obtain ⟨ad', e', hl⟩ := hr.some_ hn
    rw [e] at e'
    injection e' with e'
    rw [e']; exact hl)
  have HR := Lib.hid hr
  unfold actO at h1
  unfold actV
  clear h hr
  go_enter Try.func13, Try.ntmps13
  go_wp2_with (first
    | (go_at_call 21; with_reducible refine (h1.up1 hP A n c f (HR.out.below h1.bel) hf hnc hn).mono ?_; rintro e w2 ⟨rfl, h2⟩
       obtain ⟨y0, y1, y2, y3, y4⟩ := dvr h2.sat)
    | (go_at_call 31; with_reducible refine (h2.up2 hP A n c f (HR.out.below h2.bel) hf HC.out).mono ?_; rintro e w3 ⟨rfl, h3⟩
       obtain ⟨v0, v1, v2, v3, v4⟩ := dvr h3.sat))
  go_ret
  exact ⟨_, _, rfl, h3.imp fun _ _ => trivial, by omega, by simp [DS.up]⟩
set_option maxRecDepth 20000 in
set_option maxHeartbeats 2000000 in
theorem do_none (h : Two w0 w gd g t S S fun _ => True) (K I : Int) (hK : K ≠ 0 ∧ K ≠ 1 ∧ K ≠ 2 ∧ K ≠ 3 ∧ K ≠ 4) (C : Nat) (B : Bool) (A : Option Addr) (n c : Nat) :
    Calls Try.prog 13 #[.pointer (some ⟨gd, 0, none⟩), .pointer (some ⟨g, 0, none⟩), actV K I C B A n c] w fun e w' => DoPost w0 gd g t S e w' := by
  have h1 := h.act K I C B A n c
  unfold actO at h1
  unfold actV
  obtain ⟨k0, k1, k2, k3, k4⟩ := hK
  have e0 : (K == 0) = false := by rw [beq_eq_false_iff_ne]; exact k0
  have e1 : (K == 1) = false := by rw [beq_eq_false_iff_ne]; exact k1
  have e2 : (K == 2) = false := by rw [beq_eq_false_iff_ne]; exact k2
  have e3 : (K == 3) = false := by rw [beq_eq_false_iff_ne]; exact k3
  have e4 : (K == 4) = false := by rw [beq_eq_false_iff_ne]; exact k4
  clear h k0 k1 k2 k3 k4
  go_enter Try.func13, Try.ntmps13
  go_wp2
  go_ret
  exact ⟨_, _, rfl, h1.imp fun _ _ => trivial, by omega, Nat.le_succ _⟩
end
end Go.Proofs.Ytldbnlmimjamnaa
