/- What a disk without a plan answers; the walk of DiskTorn. -/
import Derived.Test.YtldbnlmimjamnaaDm
namespace Go.Proofs.Ytldbnlmimjamnaa
open Go.RowKit

theorem ok_free {S : DS} (hl : S.left = 0) : S.ok = true ∧ S.begun = S := by
  unfold DS.ok DS.begun
  rw [hl]
  exact ⟨rfl, rfl⟩
theorem write_free {S : DS} (hg : S.gone = false) (hl : S.left = 0) {k : Nat} (hk : k < S.n) (f : Nat → Nat) : S.write (k : Int) f = (S.wrote k f, 0) := by
  unfold DS.write
  rw [hg, (ok_free hl).1, (ok_free hl).2, show hasB S.n (k : Int) = true from by simp [hasB, hk]]
  rfl
theorem flush_free {S : DS} (hg : S.gone = false) (hl : S.left = 0) : S.flush = (S.flushed, 0) := by
  unfold DS.flush
  rw [hg, (ok_free hl).1, (ok_free hl).2]
  rfl
theorem read_some {S : DS} (hg : S.gone = false) {k : Nat} (hk : k < S.n) {f : Nat → Nat} (h : S.seen k = some f) : S.read (k : Int) = (some f, 0) := by
  unfold DS.read
  rw [hg, show hasB S.n (k : Int) = true from by simp [hasB, hk], Int.toNat_natCast, h]
  rfl
theorem read_none {S : DS} (hg : S.gone = false) {k : Nat} (hk : k < S.n) (h : S.seen k = none) : S.read (k : Int) = (none, 6) := by
  unfold DS.read
  rw [hg, show hasB S.n (k : Int) = true from by simp [hasB, hk], Int.toNat_natCast, h]
  rfl
section
variable {w0 w w' : World} {gd : Nat} {S S' : DS} {Φ Ψ : World → Prop}
theorem Held.readN (h : Held w0 w gd S Φ) (i : Int) (x : Int) (hr : S.read i = (none, x)) :
    Calls Try.prog 23 #[.pointer (some ⟨gd, 0, none⟩), .int .i64 i] w fun e w' => e = .returned (.tuple #[.slice none 0 0, .int .i64 x]) ∧ Held w0 w' gd S Φ := by
  refine (h.readE i none x hr).mono ?_
  rintro e w' ⟨a, n, c, rfl, h2⟩
  have h3 := h2.sat.2
  injection (show Value.slice a n c = .slice none 0 0 from h3) with e1 e2 e3
  subst e1 e2 e3
  exact ⟨rfl, h2.imp fun _ h => h.1⟩
theorem Held.readS (h : Held w0 w gd S Φ) (i : Int) {f : Nat → Nat} (hr : S.read i = (some f, 0)) :
    Calls Try.prog 23 #[.pointer (some ⟨gd, 0, none⟩), .int .i64 i] w fun e w' => ∃ a c, e = .returned (.tuple #[.slice a 64 c, .int .i64 0]) ∧ Held w0 w' gd S fun u => Φ u ∧ SecO Any u (.slice a 64 c) (some f) := by
  refine (h.readE i (some f) 0 hr).mono ?_
  rintro e w' ⟨a, n, c, rfl, h2⟩
  have h3 := h2.sat.2
  obtain ⟨g, o, c', e, _⟩ := h3
  injection e with e1 e2 e3
  subst e1 e2 e3
  exact ⟨_, _, rfl, h2⟩
end

def TT1 (k c : Nat) : DS := (DS.new 8).wrote k fun _ => c
def TT2 (k c : Nat) : DS := (TT1 k c).up [2]
def TT3 (k c : Nat) : DS := (TT2 k c).wrote k fun _ => c
theorem tt2_seen (k c j : Nat) : (TT2 k c).seen j = if j = k then none else some fun _ => 0 := rfl
set_option maxHeartbeats 2000000 in
theorem diskTorn_walk (i c : Nat) (flush : Bool) (w : World) (hi : i < 256) (hc : c < 256) :
    Calls Try.prog 7 #[.int .u8 (i : Nat), .int .u8 (c : Nat), .bool flush] w fun e w' => e = .returned (.bool true) ∧ Below w.heap.size w w' := by
  obtain ⟨k, hk⟩ : ∃ k, k = i % 8 := ⟨_, rfl⟩
  have hk8 : k < 8 := by omega
  have hm1 : (i : Int) % 8 = (k : Int) := by omega
  have HNEW := Lib.hid (fun (w1 : World) (hb : Below w.heap.size w w1) => held_new (w0 := w) (w := w1) 8 (by omega) (by omega) hb)
  have W1 := Lib.hid (show (DS.new 8).write (k : Int) (fun _ => c) = (TT1 k c, 0) from write_free rfl rfl hk8 _)
  have L1 := Lib.hid (show (TT1 k c).P.length ≤ 1000000 from by show 1 ≤ 1000000; decide)
  have L2 := Lib.hid (show (TT2 k c).P.length ≤ 1000000 from by show 0 ≤ 1000000; decide)
  have L3 := Lib.hid (show (TT3 k c).P.length ≤ 1000000 from by show 1 ≤ 1000000; decide)
  clear hk
  go_enter Try.func7, Try.ntmps7
  go_wp2_with (first
    | (go_at_call 9; with_reducible refine (awake_any _).mono ?_; rintro e w1 ⟨rfl, hb1⟩)
    | (go_at_call 10; refine (HNEW.out _ hb1).mono ?_; rintro e w2 ⟨gd, rfl, h0⟩)
    | (go_at_call 19; with_reducible refine (h0.rowI c (by omega) (by omega) (fun _ => c) rfl).mono ?_; rintro e w3 ⟨a1, k1, rfl, h1⟩)
    | (go_at_call 18; with_reducible refine (h1.writeE (S' := TT1 k c) k 0 W1.out (by decide)).mono ?_; rintro e w4 ⟨rfl, h2⟩)
    | (go_at_call 21; with_reducible refine (h2.up1 (S' := TT2 k c) L1.out 2 (by omega) (by omega) rfl).mono ?_; rintro e w5 ⟨rfl, h3⟩))
  have W2 := Lib.hid (show (TT2 k c).write (k : Int) (fun _ => c) = (TT3 k c, 0) from write_free rfl rfl hk8 _)
  go_loopw [10] (fun v wr => ∃ j : Nat, j ≤ 8 ∧ v = .int .i64 j ∧ Held w wr gd (TT2 k c) fun _ => True) (fun v _ => 8 - (intOf v).toNat)
  case atStart => exact ⟨0, by omega, rfl, h3.imp fun _ _ => trivial⟩
  case round =>
    obtain ⟨j, hj, rfl, h4⟩ := hrel
    by_cases hlt : j < 8
    · by_cases hjk : j = k
      · subst hjk
        have R1 := Lib.hid (show (TT2 j c).read (j : Int) = (none, 6) from read_none rfl hlt (by rw [tt2_seen, if_pos rfl]))
        go_wp2_with (go_at_call 23; with_reducible refine (h4.readN j 6 R1.out).mono ?_; rintro e w6 ⟨rfl, h5⟩)
        go_roundw
        case rel => exact ⟨j + 1, by omega, by go_num, h5⟩
        case measure => simp [intOf]; omega
      · have R1 := Lib.hid (show (TT2 k c).read (j : Int) = (some fun _ => 0, 0) from read_some rfl hlt (by rw [tt2_seen, if_neg hjk]))
        have hne : ((j : Int) == (k : Int)) = false := by rw [beq_eq_false_iff_ne]; omega
        have hne2 : ((j : Int) != (k : Int)) = true := by rw [bne_iff_ne]; omega
        go_wp2_with (first
          | (go_at_call 23; with_reducible refine (h4.readS j R1.out).mono ?_; rintro e w6 ⟨a6, k6, rfl, h5⟩)
          | (go_at_call 19; with_reducible refine (h5.rowI 0 (by omega) (by omega) (fun _ => 0) rfl).mono ?_; rintro e w7 ⟨a7, k7, rfl, h6⟩)
          | (go_at_call 22; with_reducible refine (h6.rows (s := some fun _ => 0) (g := fun _ => 0) (fun _ h => h.1.2) (fun _ h => h.2) (SameO.refl _)).mono ?_; rintro e w8 ⟨rfl, h7⟩))
        go_roundw
        case rel => exact ⟨j + 1, by omega, by go_num, h7.imp fun _ _ => trivial⟩
        case measure => simp [intOf]; omega
    · obtain rfl : j = 8 := by omega
      cases flush
      case false =>
        have R4 := Lib.hid (show ((TT3 k c)).read (k : Int) = (some fun _ => c, 0) from read_some rfl hk8 (by show (if k = k then _ else _) = _; rw [if_pos rfl]))
        have L4 := Lib.hid (show ((TT3 k c)).P.length ≤ 1000000 from by show 1 ≤ 1000000; decide)
        have R5 := Lib.hid (show (((TT3 k c)).up []).read (k : Int) = (none, 6) from read_none rfl hk8 (by show (if k = k then _ else _) = _; rw [if_pos rfl]))
        go_wp2_with (first
          | (go_at_call 19; with_reducible refine (h4.rowI c (by omega) (by omega) (fun _ => c) rfl).mono ?_; rintro e w6 ⟨a6, k6, rfl, h6⟩)
          | (go_at_call 18; with_reducible refine (h6.writeE (S' := TT3 k c) k 0 W2.out L2.out).mono ?_; rintro e w7 ⟨rfl, h7⟩)
          | (go_at_call 23; with_reducible refine (h7.readS k R4.out).mono ?_; rintro e w9 ⟨a9, k9, rfl, h9⟩)
          | (go_at_call 21; with_reducible refine (h9.up0 (S' := ((TT3 k c)).up []) L4.out rfl).mono ?_; rintro e w10 ⟨rfl, h10⟩)
          | (go_at_call 23; with_reducible refine (h10.readN k 6 R5.out).mono ?_; rintro e w11 ⟨rfl, h11⟩)
          | (go_at_call 19; with_reducible refine (h11.rowI c (by omega) (by omega) (fun _ => c) rfl).mono ?_; rintro e w12 ⟨a12, k12, rfl, h12⟩)
          | (go_at_call 22; with_reducible refine (h12.rows (s := some fun _ => c) (g := fun _ => c) (fun _ h => h.1.2) (fun _ h => h.2) (SameO.refl _)).mono ?_; rintro e w13 ⟨rfl, h13⟩))
        go_ret
        exact ⟨rfl, h13.bel⟩
      case true =>
        have R4 := Lib.hid (show ((TT3 k c).flushed).read (k : Int) = (some fun _ => c, 0) from read_some rfl hk8 (by show (if k = k then _ else _) = _; rw [if_pos rfl]))
        have L4 := Lib.hid (show ((TT3 k c).flushed).P.length ≤ 1000000 from by show 0 ≤ 1000000; decide)
        have R5 := Lib.hid (show (((TT3 k c).flushed).up []).read (k : Int) = (some fun _ => c, 0) from read_some rfl hk8 (by show (if k = k then _ else _) = _; rw [if_pos rfl]))
        have F4 := Lib.hid (show (TT3 k c).flush = ((TT3 k c).flushed, 0) from flush_free rfl rfl)
        go_wp2_with (first
          | (go_at_call 19; with_reducible refine (h4.rowI c (by omega) (by omega) (fun _ => c) rfl).mono ?_; rintro e w6 ⟨a6, k6, rfl, h6⟩)
          | (go_at_call 18; with_reducible refine (h6.writeE (S' := TT3 k c) k 0 W2.out L2.out).mono ?_; rintro e w7 ⟨rfl, h7⟩)
          | (go_at_call 20; with_reducible refine (h7.flushE (S' := (TT3 k c).flushed) 0 F4.out).mono ?_; rintro e w8 ⟨rfl, h8⟩)
          | (go_at_call 23; with_reducible refine (h8.readS k R4.out).mono ?_; rintro e w9 ⟨a9, k9, rfl, h9⟩)
          | (go_at_call 21; with_reducible refine (h9.up0 (S' := ((TT3 k c).flushed).up []) L4.out rfl).mono ?_; rintro e w10 ⟨rfl, h10⟩)
          | (go_at_call 23; with_reducible refine (h10.readS k R5.out).mono ?_; rintro e w11 ⟨a11, k11, rfl, h11⟩)
          | (go_at_call 19; with_reducible refine (h11.rowI c (by omega) (by omega) (fun _ => c) rfl).mono ?_; rintro e w12 ⟨a12, k12, rfl, h12⟩)
          | (go_at_call 22; with_reducible refine (h12.rows (s := some fun _ => c) (g := fun _ => c) (fun _ h => h.1.1.2) (fun _ h => h.2) (SameO.refl _)).mono ?_; rintro e w13 ⟨rfl, h13⟩))
        go_ret
        exact ⟨rfl, h13.bel⟩
end Go.Proofs.Ytldbnlmimjamnaa
