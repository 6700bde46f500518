/- awake returns true. -/
import Derived.Test.YtldbnlmimjamnaaDl
namespace Go.Proofs.Ytldbnlmimjamnaa
open Go.RowKit

section
variable {w0 w w' : World} {gd : Nat} {S S' : DS} {Φ Ψ : World → Prop}
theorem Held.rowI (h : Held w0 w gd S Φ) (x : Int) (h0 : 0 ≤ x) (h1 : x < 256) (f : Nat → Nat) (hf : f = fun _ => x.toNat) :
    Calls Try.prog 19 #[.int .u8 x, .bool false] w fun e w' => ∃ a k, e = .returned (.slice a 64 k) ∧ Held w0 w' gd S fun u => Φ u ∧ Sec Any u (.slice a 64 k) f := by
  have := h.row x.toNat (by omega)
  rw [Int.toNat_of_nonneg h0] at this
  subst hf
  exact this
theorem Held.writeE {a : Option Addr} {c : Nat} {f : Nat → Nat} (h : Held w0 w gd S fun u => Φ u ∧ Sec Any u (.slice a 64 c) f) (i : Int) (x : Int) (hw : S.write i f = (S', x)) (hP : S.P.length ≤ 1000000) :
    Calls Try.prog 18 #[.pointer (some ⟨gd, 0, none⟩), .int .i64 i, .slice a 64 c] w fun e w' => e = .returned (.int .i64 x) ∧ Held w0 w' gd S' Φ := by
  refine (h.write hP i fun u h => h.2).mono ?_
  rw [hw]
  rintro e w' ⟨h1, h2⟩
  exact ⟨h1, h2.imp fun _ h => h.1⟩
theorem Held.readE (h : Held w0 w gd S Φ) (i : Int) (s : Option (Nat → Nat)) (x : Int) (hr : S.read i = (s, x)) :
    Calls Try.prog 23 #[.pointer (some ⟨gd, 0, none⟩), .int .i64 i] w fun e w' => ∃ a n c, e = .returned (.tuple #[.slice a n c, .int .i64 x]) ∧ Held w0 w' gd S fun u => Φ u ∧ SecO Any u (.slice a n c) s := by
  have := h.read i
  rw [hr] at this
  exact this
theorem Held.flushE (h : Held w0 w gd S Φ) (x : Int) (hw : S.flush = (S', x)) :
    Calls Try.prog 20 #[.pointer (some ⟨gd, 0, none⟩)] w fun e w' => e = .returned (.int .i64 x) ∧ Held w0 w' gd S' Φ := by
  have := h.flush
  rw [hw] at this
  exact this
theorem Held.up1 (h : Held w0 w gd S Φ) (hP : S.P.length ≤ 1000000) (x : Int) (h0 : 0 ≤ x) (h1 : x < 256) (hS : S.up [x.toNat] = S') :
    Calls Try.prog 21 #[.pointer (some ⟨gd, 0, none⟩), .slice (some ⟨w.heap.size, 0, none⟩) 1 1] (w.alloc (.cells #[.int .u8 x] 5)) fun e w' => e = .returned (.tuple #[]) ∧ Held w0 w' gd S' Φ := by
  obtain ⟨n, rfl⟩ : ∃ n : Nat, x = n := ⟨x.toNat, by omega⟩
  subst hS
  exact (h.below (below_new w _)).up hP _ 1 1 (fun _ => n) ((row_one w n).rd0 (Nat.le_refl _)) (fun _ _ => by omega) (Nat.le_refl _) (by omega)
theorem Held.up0 (h : Held w0 w gd S Φ) (hP : S.P.length ≤ 1000000) (hS : S.up [] = S') :
    Calls Try.prog 21 #[.pointer (some ⟨gd, 0, none⟩), .slice none 0 0] w fun e w' => e = .returned (.tuple #[]) ∧ Held w0 w' gd S' Φ := by
  subst hS
  exact h.up hP none 0 0 (fun _ => 0) Rd.zero (fun j hj => absurd hj (by omega)) (Nat.le_refl _) (by omega)
theorem Held.rows (h : Held w0 w gd S Φ) {u v : Value} {s : Option (Nat → Nat)} {g : Nat → Nat} (hu : ∀ w, Φ w → SecO Any w u s) (hv : ∀ w, Φ w → Sec Any w v g) (hs : SameO s (some g)) :
    Calls Try.prog 22 #[u, v] w fun e w' => e = .returned (.bool true) ∧ Held w0 w' gd S Φ :=
  (rows_yes (t := some g) (hu w h.sat) (hv w h.sat) hs).mono fun _ _ ⟨h1, h2⟩ => ⟨h1, h.below h2⟩
end
def f7 : Nat → Nat := fun _ => 7
def f9 : Nat → Nat := fun _ => 9
def AS0 : DS := DS.new 2
def AS1 : DS := AS0.wrote 0 f7
def AS2 : DS := AS1.up [2]
def AS3 : DS := AS2.wrote 1 f9
def AS4 : DS := AS3.flushed
def AS5 : DS := AS4.up []
set_option maxHeartbeats 2000000 in
theorem awake_any (w : World) : Calls Try.prog 9 #[] w fun e w' => e = .returned (.bool true) ∧ Below w.heap.size w w' := by
  have hnew := fun w1 : World => fun (hb : Below w.heap.size w w1) => held_new (w0 := w) (w := w1) 2 (by omega) (by omega) hb
  have HNEW := Lib.hid hnew
  clear hnew
  go_enter Try.func9, Try.ntmps9
  go_wp2_with (first
    | (go_at_call 10; with_reducible refine (new_bad 0 _ (by omega)).mono ?_; rintro e w' ⟨rfl, rfl⟩)
    | (go_at_call 10; refine (HNEW.out _ (Below.refl _ _)).mono ?_; rintro e w1 ⟨gd, rfl, h0⟩)
    | (go_at_call 19; with_reducible refine (h0.rowI 7 (by omega) (by omega) f7 rfl).mono ?_; rintro e w2 ⟨a1, k1, rfl, h1⟩)
    | (go_at_call 18; with_reducible refine (h1.writeE (S' := AS1) 0 0 rfl (by decide)).mono ?_; rintro e w3 ⟨rfl, h2⟩)
    | (go_at_call 23; with_reducible refine (h2.readE 0 (some f7) 0 rfl).mono ?_; rintro e w4 ⟨a2, n2, k2, rfl, h3⟩)
    | (go_at_call 21; with_reducible refine (h3.up1 (S' := AS2) (by decide) 2 (by omega) (by omega) rfl).mono ?_; rintro e w5 ⟨rfl, h4⟩)
    | (go_at_call 23; with_reducible refine (h4.readE 0 none 6 rfl).mono ?_; rintro e w6 ⟨a3, n3, k3, rfl, h5⟩)
    | (go_at_call 19; with_reducible refine (h5.rowI 9 (by omega) (by omega) f9 rfl).mono ?_; rintro e w7 ⟨a4, k4, rfl, h6⟩)
    | (go_at_call 18; with_reducible refine (h6.writeE (S' := AS3) 1 0 rfl (by decide)).mono ?_; rintro e w8 ⟨rfl, h7⟩)
    | (go_at_call 20; with_reducible refine (h7.flushE (S' := AS4) 0 rfl).mono ?_; rintro e w9 ⟨rfl, h8⟩)
    | (go_at_call 21; with_reducible refine (h8.up0 (S' := AS5) (by decide) rfl).mono ?_; rintro e w10 ⟨rfl, h9⟩)
    | (go_at_call 23; with_reducible refine (h9.readE 1 (some f9) 0 rfl).mono ?_; rintro e w11 ⟨a5, n5, k5, rfl, h10⟩)
    | (go_at_call 19; with_reducible refine (h10.rowI 7 (by omega) (by omega) f7 rfl).mono ?_; rintro e w12 ⟨a6, k6, rfl, h11⟩)
    | (go_at_call 22; with_reducible refine (h11.rows (s := some f7) (g := f7) (fun _ h => h.1.1.1.2) (fun _ h => h.2) (SameO.refl _)).mono ?_; rintro e w13 ⟨rfl, h12⟩)
    | (go_at_call 19; with_reducible refine (h12.rowI 9 (by omega) (by omega) f9 rfl).mono ?_; rintro e w14 ⟨a7, k7, rfl, h13⟩)
    | (go_at_call 22; with_reducible refine (h13.rows (s := some f9) (g := f9) (fun _ h => h.1.1.2) (fun _ h => h.2) (SameO.refl _)).mono ?_; rintro e w15 ⟨rfl, h14⟩)
    | (go_at_call 11; with_reducible refine h14.sectors.mono ?_; rintro e w16 ⟨rfl, rfl⟩))
  go_ret
  exact ⟨rfl, h14.bel⟩
end Go.Proofs.Ytldbnlmimjamnaa
