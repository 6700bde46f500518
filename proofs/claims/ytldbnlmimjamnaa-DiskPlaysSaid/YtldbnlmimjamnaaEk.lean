/- Contract: do, of a write. -/
import Derived.Test.YtldbnlmimjamnaaEj
namespace Go.Proofs.Ytldbnlmimjamnaa
open Go.RowKit

section
variable {w0 w w' : World} {gd g t t' : Nat} {S S' R R' : DS} {Φ Ψ : World → Prop}
set_option maxRecDepth 20000 in
set_option maxHeartbeats 4000000 in
theorem do_write (h : Two w0 w gd g t S S fun _ => True) (ht : t ≤ 1000000) (hP : S.P.length ≤ 1000000) (I : Int) (C : Nat) (hc : C < 256) (A : Option Addr) (n c : Nat) :
    Calls Try.prog 13 #[.pointer (some ⟨gd, 0, none⟩), .pointer (some ⟨g, 0, none⟩), actV 1 I C false A n c] w fun e w' => DoPost w0 gd g t S e w' := by
  have h1 := h.act 1 I C false A n c
  have HK := Lib.hid (show ∀ u : World, u.rowIs w.heap.size 33 5 (dv (.int .i64 1) (.int .i64 I) (.int .u8 (C : Nat)) (.bool false) (.slice A n c)) → u.cell? ⟨w.heap.size, 1, none⟩ = some (.int .i64 I) ∧ u.cell? ⟨w.heap.size, 2, none⟩ = some (.int .u8 (C : Nat)) ∧ u.cell? ⟨w.heap.size, 3, none⟩ = some (.bool false) from fun u hu => ⟨(dvr hu).2.1, (dvr hu).2.2.1, (dvr hu).2.2.2.1⟩)
  unfold actO at h1
  unfold actV
  have h1d := h1.drew
  clear h
  go_enter Try.func13, Try.ntmps13
  go_wp2
  go_region_held3 (fun u => u.cell? ⟨w.heap.size, 1, none⟩ = some (.int .i64 I) ∧ u.cell? ⟨w.heap.size, 2, none⟩ = some (.int .u8 (C : Nat)) ∧ u.cell? ⟨w.heap.size, 3, none⟩ = some (.bool false)) (first | exact HK.out _ h1.sat | exact HK.out _ h1d.sat | exact HK.out _ h2.sat.1 | exact HK.out _ h3.sat.1 | exact HK.out _ h4.sat.1.1 | exact HK.out _ h5.sat.1.1 | trivial | go_keep)
    (first
      | (go_at_call 19; ((with_reducible refine Calls.mono (h3.row C hc) ?_)); rintro e w4 ⟨a4, k4, rfl, h4⟩)
      | (go_at_call 19; ((with_reducible refine Calls.mono (h1d.row C hc) ?_)); rintro e w2 ⟨a2, k2, rfl, h2⟩)
      | (go_at_call 18; ((with_reducible refine Calls.mono (h2.write1 hP I (fun _ h => h.2)) ?_)); rintro e w3 ⟨rfl, h3⟩)
      | (go_at_call 28; ((with_reducible refine Calls.mono (h4.write2 ht hP I (f := fun _ => C) (fun _ h => h.2)) ?_)); rintro e w5 ⟨rfl, h5⟩))
  all_goals
    go_wp2
    go_ret
    exact ⟨_, _, rfl, h5.imp fun _ _ => trivial, by omega, write_len S I fun _ => C⟩
set_option maxRecDepth 20000 in
set_option maxHeartbeats 4000000 in
theorem do_writeBad (h : Two w0 w gd g t S S fun _ => True) (I : Int) (C : Nat) (A : Option Addr) (n c : Nat) :
    Calls Try.prog 13 #[.pointer (some ⟨gd, 0, none⟩), .pointer (some ⟨g, 0, none⟩), actV 1 I C true A n c] w fun e w' => DoPost w0 gd g t S e w' := by
  have h1 := h.act 1 I C true A n c
  have HK := Lib.hid (show ∀ u : World, u.rowIs w.heap.size 33 5 (dv (.int .i64 1) (.int .i64 I) (.int .u8 (C : Nat)) (.bool true) (.slice A n c)) → u.cell? ⟨w.heap.size, 1, none⟩ = some (.int .i64 I) ∧ u.cell? ⟨w.heap.size, 2, none⟩ = some (.int .u8 (C : Nat)) ∧ u.cell? ⟨w.heap.size, 3, none⟩ = some (.bool true) from fun u hu => ⟨(dvr hu).2.1, (dvr hu).2.2.1, (dvr hu).2.2.2.1⟩)
  unfold actO at h1
  unfold actV
  have h1d := h1.drew
  clear h
  go_enter Try.func13, Try.ntmps13
  go_wp2
  go_region_held3 (fun u => u.cell? ⟨w.heap.size, 1, none⟩ = some (.int .i64 I) ∧ u.cell? ⟨w.heap.size, 2, none⟩ = some (.int .u8 (C : Nat)) ∧ u.cell? ⟨w.heap.size, 3, none⟩ = some (.bool true)) (first | exact HK.out _ h1.sat | exact HK.out _ h1d.sat | exact HK.out _ h2.sat | exact HK.out _ h3.sat | exact HK.out _ h4.sat | exact HK.out _ h5.sat | trivial | go_keep)
    (first
      | (go_at_call 19; ((with_reducible refine Calls.mono (h3.rowBad C) ?_)); rintro e w4 ⟨a4, k4, rfl, h4⟩)
      | (go_at_call 19; ((with_reducible refine Calls.mono (h1d.rowBad C) ?_)); rintro e w2 ⟨a2, k2, rfl, h2⟩)
      | (go_at_call 18; ((with_reducible refine Calls.mono (h2.writeBad1 I _ 65 _ (by omega)) ?_)); rintro e w3 ⟨rfl, h3⟩)
      | (go_at_call 28; ((with_reducible refine Calls.mono (h4.writeBad2 I _ 65 _ (by omega)) ?_)); rintro e w5 ⟨rfl, h5⟩))
  all_goals
    go_wp2
    go_ret
    exact ⟨S, t, rfl, h5.imp fun _ _ => trivial, by omega, Nat.le_succ _⟩
theorem do_any (h : Two w0 w gd g t S S fun _ => True) (ht : t ≤ 1000000) (hP : S.P.length ≤ 1000000) (K I : Int) (hI : I ≤ 9223372036854775807 ∧ -9223372036854775808 ≤ I) (C : Nat) (hc : C < 256) (B : Bool) (A : Option Addr) (n c : Nat) (f : Nat → Nat) (hr : Rd .u8 w0 A n f) (hf : ∀ j, j < n → f j < 256) (hnc : n ≤ c) (hn : n ≤ 1000000) :
    Calls Try.prog 13 #[.pointer (some ⟨gd, 0, none⟩), .pointer (some ⟨g, 0, none⟩), actV K I C B A n c] w fun e w' => DoPost w0 gd g t S e w' := by
  by_cases k0 : K = 0
  · subst k0; exact do_read h hP I C B A n c
  by_cases k1 : K = 1
  · subst k1
    cases B
    · exact do_write h ht hP I C hc A n c
    · exact do_writeBad h I C A n c
  by_cases k2 : K = 2
  · subst k2; exact do_flush h ht hP I C B A n c
  by_cases k3 : K = 3
  · subst k3; exact do_plan h I hI C B A n c
  by_cases k4 : K = 4
  · subst k4; exact do_up h hP I C B A n c f hr hf hnc hn
  exact do_none h K I ⟨k0, k1, k2, k3, k4⟩ C B A n c
end
end Go.Proofs.Ytldbnlmimjamnaa
