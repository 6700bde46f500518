/- Contracts: bytes.Clone, Row, Rows. -/
import Derived.Test.YteeomidlnijfbaaPDb
import Derived.WalkLawsBesides
namespace Go.Proofs.Yteeomidlnijfbaa
open Go.RowKit

/-- Blocks that are new behind w. -/
def New (w : World) : Nat → Prop := fun k => w.heap.size ≤ k
theorem own_sec {w : World} {base : Nat} {v : Value} {f : Nat → Nat} {t : TypeId} (h : Own .u8 t w base v 64 f) (hf : ∀ j, j < 64 → f j < 256) : Sec (fun k => base ≤ k) w v f := by
  rcases h.form with ⟨_, h0⟩ | ⟨g, c, rfl, hg, hc⟩
  · omega
  · exact ⟨g, 0, c, rfl, hc, hg, fun j hj => by have := h.rd_.at_ hj; rwa [add_mk] at this, hf⟩

set_option maxRecDepth 100000 in
set_option maxHeartbeats 1000000 in
theorem clone_sec {R : Nat → Prop} {w : World} {v : Value} {f : Nat → Nat} (h : Sec R w v f) :
    Calls Try.prog 50 #[v] w fun e w' => ∃ v', e = .returned v' ∧ Sec (New w) w' v' f ∧ Below w.heap.size w w' := by
  obtain ⟨g, o, c, rfl, _, _, hr, hf⟩ := h.rd
  have HR := Lib.hid (hr.below (below_new w (.cells #[] 5)))
  have HF := Lib.hid hf
  have hown := own_none8 w f
  have hnil := Lib.run_eql_slice_nil (P := Try.prog) w 35 5 (some ⟨g, o, none⟩) 64 c 0 0 Try.underlying35
  clear hr hf h
  go_enter Try.func50, Try.ntmps50
  go_wp2_with (at_builtin; refine wpList_app rfl _ _ 35 rfl .u8 5 Try.underlying35 1 u8_info (by omega) w.heap.size _ 0 f rfl hown (some ⟨g, o, none⟩) 64 c f rfl HR.out (fun h => by cases h) (by omega) (by simp) ?_; intro v2 w5 hown2 hb2 hsz2)
  clear hnil
  have HO := Lib.hid hown2
  have HB := Lib.hid ((below_new w (.cells #[] 5)).trans hb2)
  clear hown hown2 hb2 hsz2
  go_wp2
  go_ret
  refine ⟨v2, rfl, ?_, HB.out⟩
  have h2 := HO.out
  rw [Nat.zero_add] at h2
  exact own_sec (h2.congr fun j _ => by simp [appF]) HF.out
theorem clone_nil (n c : Nat) (w : World) :
    Calls Try.prog 50 #[.slice none n c] w fun e w' => e = .returned (.slice none 0 0) ∧ w = w' := by
  have hnil := Lib.run_eql_slice_nil (P := Try.prog) w 35 5 none n c 0 0 Try.underlying35
  go_enter Try.func50, Try.ntmps50
  go_wp2
  go_ret
  exact ⟨rfl, rfl⟩
theorem clone_o {R : Nat → Prop} {w : World} {v : Value} {s : Option (Nat → Nat)} (h : SecO R w v s) :
    Calls Try.prog 50 #[v] w fun e w' => ∃ v', e = .returned v' ∧ SecO (New w) w' v' s ∧ Below w.heap.size w w' := by
  cases s with
  | some f => exact clone_sec h
  | none =>
    obtain rfl : v = _ := h
    refine (clone_nil 0 0 w).mono ?_
    rintro e w' ⟨rfl, rfl⟩
    exact ⟨_, rfl, rfl, Below.refl _ _⟩

theorem clone_os {R : Nat → Prop} {w : World} {v : Value} {s : Option (Nat → Nat)} (h : SecO R w v s) :
    Calls Try.prog 50 #[v] w fun e w' => ∃ a n c, e = .returned (.slice a n c) ∧ SecO (New w) w' (.slice a n c) s ∧ Below w.heap.size w w' :=
  (clone_o h).mono fun _ _ ⟨v, h1, h2, h3⟩ => by
    obtain ⟨a, n, c, rfl⟩ := h2.form
    exact ⟨a, n, c, h1, h2, h3⟩

/-- Alike, as far as 64 bytes go. -/
def SameO : Option (Nat → Nat) → Option (Nat → Nat) → Prop
  | none, none => True
  | some f, some g => ∀ j, j < 64 → f j = g j
  | _, _ => False
theorem SameO.refl : ∀ s : Option (Nat → Nat), SameO s s
  | none => trivial
  | some _ => fun _ _ => rfl
end Go.Proofs.Yteeomidlnijfbaa
