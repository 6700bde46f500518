/- Contract: awake. -/
import Derived.Test.YtmedmeabjlmggaaCh
namespace Go.Proofs.Ytmedmeabjlmggaa
open Go.RowKit

def litF (l : List Nat) : Nat → Nat := fun j => l.getD j 0
theorem rd_lit (w : World) (l : List Nat) (m : Nat × Nat) (t : TypeId) : Rd .u8 (w.alloc (.cells (l.map fun x => Value.int .u8 (x : Nat)).toArray t m)) (some ⟨w.heap.size, 0, none⟩) l.length (litF l) := fun j hj =>
  ⟨_, rfl, by rw [add_mk, Nat.zero_add, cell_of_row _ _ j _ t m (heap_alloc_new w _)]; simp [litF, hj]⟩
theorem lit_lt (l : List Nat) (h : l.all (· < 256) = true) : ∀ j, j < l.length → litF l j < 256 := fun j hj => by
  rw [List.all_eq_true] at h
  have := h l[j] (List.getElem_mem hj)
  simp only [litF, List.getD_eq_getElem?_getD, List.getElem?_eq_getElem hj, Option.getD_some]
  simpa using this

def l13 : List Nat := [38, 57, 244, 203, 49, 50, 51, 52, 53, 54, 55, 56, 57]
def l9 : List Nat := [49, 50, 51, 52, 53, 54, 55, 56, 57]
theorem open13 : OpenB (litF l13) 13 = true := by decide +kernel
theorem crc9 : crcN (litF l9) 9 = 3421780262 := by decide +kernel

theorem rd13 (w : World) : Rd .u8 (w.alloc (.cells #[.int .u8 38, .int .u8 57, .int .u8 244, .int .u8 203, .int .u8 49, .int .u8 50, .int .u8 51, .int .u8 52, .int .u8 53, .int .u8 54, .int .u8 55, .int .u8 56, .int .u8 57] 5)) (some ⟨w.heap.size, 0, none⟩) 13 (litF l13) := rd_lit w l13 (0, 0) 5
theorem rd9 (w : World) (m : Nat × Nat) : Rd .u8 (w.alloc (.cells #[.int .u8 49, .int .u8 50, .int .u8 51, .int .u8 52, .int .u8 53, .int .u8 54, .int .u8 55, .int .u8 56, .int .u8 57] 5 m)) (some ⟨w.heap.size, 0, none⟩) 9 (litF l9) := rd_lit w l9 m 5
def SlOk (w w' : World) (e : Ending) : Prop := ∃ A c, e = .returned (.tuple #[.slice A 9 c, .bool true]) ∧ Below w.heap.size w w'
theorem open_13 (w : World) : Calls Try.prog 50 #[.slice (some ⟨w.heap.size, 0, none⟩) 13 13] (w.alloc (.cells #[.int .u8 38, .int .u8 57, .int .u8 244, .int .u8 203, .int .u8 49, .int .u8 50, .int .u8 51, .int .u8 52, .int .u8 53, .int .u8 54, .int .u8 55, .int .u8 56, .int .u8 57] 5)) fun e w' => SlOk w w' e :=
  (open_any _ 13 13 (litF l13) _ (rd13 w) (lit_lt l13 (by decide)) (by omega) (by omega)).mono fun e w' h => by
    rcases h with ⟨_, v, rfl, ⟨A, c, rfl, _⟩, hb⟩ | ⟨hno, _⟩
    · exact ⟨A, c, rfl, (below_new w _).trans (hb.mono (below_new w _).size)⟩
    · rw [open13] at hno; cases hno
theorem open_3 (w0 : World) (A : Option Addr) : Calls Try.prog 50 #[.slice A 3 3] w0 fun e w' => e = .returned (.tuple #[.slice none 0 0, .bool false]) ∧ Below w0.heap.size w0 w' :=
  (open_few A 3 3 (fun _ => 0) w0 (by omega)).mono fun e w' h => by
    rcases h with ⟨hy, _⟩ | ⟨_, h1, h2⟩
    · rw [openB_few (by omega)] at hy; cases hy
    · exact ⟨h1, h2⟩
theorem sum_9 (w : World) (m : Nat × Nat) : Calls Try.prog 58 #[.slice (some ⟨w.heap.size, 0, none⟩) 9 9] (w.alloc (.cells #[.int .u8 49, .int .u8 50, .int .u8 51, .int .u8 52, .int .u8 53, .int .u8 54, .int .u8 55, .int .u8 56, .int .u8 57] 5 m)) fun e w' => e = .returned (.int .u32 3421780262) ∧ Below w.heap.size w w' :=
  (sum_any _ 9 9 (litF l9) _ (rd9 w m) (lit_lt l9 (by decide)) (by omega)).mono fun e w' h => by
    obtain ⟨h1, h2⟩ := h
    rw [crc9] at h1
    have hb : Below w.heap.size w (w.alloc (.cells #[.int .u8 49, .int .u8 50, .int .u8 51, .int .u8 52, .int .u8 53, .int .u8 54, .int .u8 55, .int .u8 56, .int .u8 57] 5 m)) := (Below.refl _ _).alloc (Nat.le_refl _) _
    exact ⟨h1, hb.trans (h2.mono hb.size)⟩
def SlFour (w w' : World) (e : Ending) : Prop := ∃ A c, e = .returned (.slice A 4 c) ∧ Below w.heap.size w w'
theorem seal_0 (w : World) : Calls Try.prog 49 #[.slice none 0 0] w fun e w' => SlFour w w' e :=
  (seal_any none 0 0 (fun _ => 0) w Rd.zero (fun j hj => absurd hj (by omega)) (by omega) (fun _ => ⟨rfl, rfl⟩)).mono fun e w' h => by
    obtain ⟨v, rfl, ⟨A, c, rfl, _⟩, hb⟩ := h
    exact ⟨A, c, rfl, hb⟩

end Go.Proofs.Ytmedmeabjlmggaa
