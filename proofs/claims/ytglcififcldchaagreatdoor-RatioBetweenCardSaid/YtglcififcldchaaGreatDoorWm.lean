/- awake of the laws over whole numbers. -/
import Derived.Test.YtglcififcldchaaGreatDoorWl
namespace Go.Proofs.YtglcififcldchaaGreatDoor
open Go.RowKit
attribute [local go_sem ↓] Go.wp_at_zero Go.wp_at_succ

theorem li_small_is {k : Nat} {w : World} {v : Value} {X : Int} (h : LimI k w v X) (hk : k ≤ 1000000) (h1 : -9223372036854775808 ≤ X) (h2 : X ≤ 9223372036854775807) : Calls Tryz.prog 131 #[v] w fun e w' => e = .returned (.tuple #[.int .i64 X, .bool true]) ∧ Below w.heap.size w w' := by
  have := li_small h hk
  unfold SmallPost at this
  rw [(small_yes ⟨h1, h2⟩).1, (small_yes ⟨h1, h2⟩).2] at this
  exact this
theorem li_div_is {k l : Nat} {w : World} {v v' : Value} {X Y : Int} (q r : Int) (hf : FDiv X Y q r) (h : LimI k w v X) (h' : LimI l w v' Y) (hk : k ≤ 1000000) (hl : l ≤ 1000000) (hY : Y ≠ 0) :
    Calls Tryz.prog 96 #[v, v'] w fun e w' => ∃ vq vr, e = .returned (.tuple #[vq, vr, .bool true]) ∧ IsInt w' vq q ∧ IsInt w' vr r ∧ Below w.heap.size w w' :=
  (li_div h h' hk hl hY).mono fun e w' ⟨vq, vr, q', r', he, hf', hq, hr, hb⟩ => by
    obtain ⟨rfl, rfl⟩ := hf.uniq hf'
    exact ⟨vq, vr, he, hq, hr, hb⟩
theorem dec12 : decS 12 = ⟨#[49, 50]⟩ := by
  unfold decS decText
  rw [if_neg (by omega), ← decK_dec 2 _ (by omega) (by omega) (by omega)]
  rfl
theorem minus12 : textI (-12) = ⟨#[45, 49, 50]⟩ := by
  unfold textI
  rw [if_pos (by omega), show (-12 : Int).natAbs = 12 from rfl, dec12]
  rfl
theorem num12 : IsNum ⟨#[49, 50]⟩ := by
  refine ⟨by decide, by decide, by decide, ?_⟩
  have : ∀ i : Fin 2, 48 ≤ bt ⟨#[49, 50]⟩ i.val ∧ bt ⟨#[49, 50]⟩ i.val ≤ 57 := by decide
  exact fun i hi => this ⟨i, hi⟩
theorem num0 : IsNum ⟨#[48]⟩ := by
  refine ⟨by decide, by decide, by decide, ?_⟩
  have : ∀ i : Fin 1, 48 ≤ bt ⟨#[48]⟩ i.val ∧ bt ⟨#[48]⟩ i.val ≤ 57 := by decide
  exact fun i hi => this ⟨i, hi⟩
theorem int12 : intB ⟨#[45, 49, 50]⟩ = true ∧ intV ⟨#[45, 49, 50]⟩ = -12 := by
  have h1 : minusB ⟨#[45, 49, 50]⟩ = true := (minusB_iff _).2 ⟨by decide, by decide⟩
  have h2 : digitsOf ⟨#[45, 49, 50]⟩ = ⟨#[49, 50]⟩ := by
    unfold digitsOf
    rw [if_pos h1]
    rfl
  have h3 := num_yes num12
  have h4 : dval (bt ⟨#[49, 50]⟩) (ByteArray.size ⟨#[49, 50]⟩) = 12 := by decide
  rw [h4] at h3
  unfold intB intV
  rw [h1, h2, h3.1, h3.2]
  exact ⟨rfl, rfl⟩
theorem int0 : intB ⟨#[45, 48]⟩ = false ∧ intV ⟨#[45, 48]⟩ = 0 := by
  have h1 : minusB ⟨#[45, 48]⟩ = true := (minusB_iff _).2 ⟨by decide, by decide⟩
  have h2 : digitsOf ⟨#[45, 48]⟩ = ⟨#[48]⟩ := by
    unfold digitsOf
    rw [if_pos h1]
    rfl
  have h3 := num_yes num0
  have h4 : dval (bt ⟨#[48]⟩) (ByteArray.size ⟨#[48]⟩) = 0 := by decide
  rw [h4] at h3
  unfold intB intV
  rw [h1, h2, h3.1, h3.2]
  exact ⟨rfl, rfl⟩
theorem parse12 (w : World) : Calls Tryz.prog 111 #[.string ⟨#[45, 49, 50]⟩] w fun e w' => ParsePostI w w' e true (-12) := by
  have := str_parseI ⟨#[45, 49, 50]⟩ w (by decide)
  rwa [int12.1, int12.2] at this
theorem parse0 (w : World) : Calls Tryz.prog 111 #[.string ⟨#[45, 48]⟩] w fun e w' => ParsePostI w w' e false 0 := by
  have := str_parseI ⟨#[45, 48]⟩ w (by decide)
  rwa [int0.1, int0.2] at this
end Go.Proofs.YtglcififcldchaaGreatDoor
