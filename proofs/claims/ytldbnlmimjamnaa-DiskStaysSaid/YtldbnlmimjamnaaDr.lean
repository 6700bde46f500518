/- The walk of DiskQuiet. -/
import Derived.Test.YtldbnlmimjamnaaDq
namespace Go.Proofs.Ytldbnlmimjamnaa
open Go.RowKit

theorem and7_all : ∀ x : Fin 256, 0 ≤ bits BinOp.and IntKind.i8 ((x.val : Int) - 128) 7 ∧ bits BinOp.and IntKind.i8 ((x.val : Int) - 128) 7 ≤ 7 := by decide +kernel
theorem and7 (x : Int) (h0 : -128 ≤ x) (h1 : x ≤ 127) : 0 ≤ bits BinOp.and IntKind.i8 x 7 ∧ bits BinOp.and IntKind.i8 x 7 ≤ 7 := by
  have := and7_all ⟨(x + 128).toNat, by omega⟩
  have e : (((x + 128).toNat : Nat) : Int) - 128 = x := by omega
  simp only [e] at this
  exact this
section
variable {w0 w w' : World} {gd : Nat} {S S' : DS} {Φ Ψ : World → Prop}
theorem Held.alike (h : Held w0 w gd S Φ) {u v : Value} {n : Nat} {T : Nat → Option (Nat → Nat)} (hu : ∀ w, Φ w → Img Any w u n T) (hv : ∀ w, Φ w → Img Any w v n T) (hn : n ≤ 512) :
    Calls Try.prog 15 #[u, v] w fun e w' => e = .returned (.bool true) ∧ Held w0 w' gd S Φ :=
  (alike_yes (hu w h.sat) (hv w h.sat) hn fun _ _ => SameO.refl _).mono fun _ _ ⟨h1, h2⟩ => ⟨h1, h.below h2⟩
theorem Held.imageE (h : Held w0 w gd S Φ) (n : Nat) (T : Nat → Option (Nat → Nat)) (hn : S.n = n) (hT : S.T = T) :
    Calls Try.prog 16 #[.pointer (some ⟨gd, 0, none⟩)] w fun e w' => ∃ a c, e = .returned (.slice a n c) ∧ Held w0 w' gd S fun u => Φ u ∧ Img Any u (.slice a n c) n T := by
  subst hn hT
  exact h.image
theorem Held.readQ (h : Held w0 w gd S Φ) (i : Int) :
    Calls Try.prog 23 #[.pointer (some ⟨gd, 0, none⟩), .int .i64 i] w fun e w' => (∃ v, e = .returned v) ∧ Held w0 w' gd S Φ := by
  refine (h.read i).mono ?_
  rintro e w' ⟨a, n, c, rfl, h2⟩
  exact ⟨⟨_, rfl⟩, h2.imp fun _ h => h.1⟩
theorem Held.writeQ (h : Held w0 w gd S Φ) (hg : S.gone = false) (i : Int) (a : Option Addr) (m c : Nat) (hm : m ≠ 64) :
    Calls Try.prog 18 #[.pointer (some ⟨gd, 0, none⟩), .int .i64 i, .slice a m c] w fun e w' => e = .returned (.int .i64 1) ∧ Held w0 w' gd S Φ := by
  have := h.writeBad i a m c hm
  rwa [show S.writeBad = 1 from by unfold DS.writeBad; rw [hg]; rfl] at this
end
/-- Behind t writes to one sector, the power planned to go ahead of the k-th. -/
def QInv (T : Nat → Option (Nat → Nat)) (k t : Nat) (S : DS) : Prop :=
  S.n = 8 ∧ S.T = T ∧ S.P.length ≤ t ∧ ((t < k ∧ S.gone = false ∧ S.left = k - t) ∨ (k ≤ t ∧ S.gone = true))
theorem q_step {T : Nat → Option (Nat → Nat)} {k t : Nat} {S : DS} (h : QInv T k t S) (f : Nat → Nat) :
    (S.write 0 f).2 = (if t + 1 < k then 0 else 4) ∧ QInv T k (t + 1) (S.write 0 f).1 := by
  obtain ⟨h1, hT, h2, h3⟩ := h
  have hh : hasB S.n 0 = true := by rw [h1]; simp [hasB]
  rcases h3 with ⟨e2, e3, e4⟩ | ⟨e2, e3⟩
  · by_cases hl : t + 1 < k
    · have hb := begun_more (S := S) (by omega)
      have hw : S.write 0 f = (DS.wrote { S with left := S.left - 1 } 0 f, 0) := by
        unfold DS.write
        rw [if_neg (by rw [e3]; simp), if_pos hh, if_pos hb.1, hb.2]; rfl
      rw [hw, if_pos hl]
      exact ⟨rfl, h1, hT, by simp [DS.wrote]; omega, .inl ⟨hl, e3, by simp only [DS.wrote]; omega⟩⟩
    · have hb := begun_last (S := S) (by omega)
      have hw : S.write 0 f = ({ S with left := 0, gone := true }, 4) := by
        unfold DS.write
        rw [if_neg (by rw [e3]; simp), if_pos hh, if_neg (by rw [hb.1]; simp), hb.2]
      rw [hw, if_neg (by omega)]
      exact ⟨rfl, h1, hT, Nat.le_succ_of_le h2, .inr ⟨by omega, rfl⟩⟩
  · rw [write_gone' e3, if_neg (by omega)]
    exact ⟨rfl, h1, hT, Nat.le_succ_of_le h2, .inr ⟨by omega, e3⟩⟩
theorem write_out {S : DS} (hg : S.gone = false) (i : Int) (hi : (S.n : Int) ≤ i) (f : Nat → Nat) : S.write i f = (S, 1) := by
  unfold DS.write
  rw [if_neg (by rw [hg]; simp), if_neg (by simp [hasB]; omega)]
def f2 : Nat → Nat := fun _ => 2
def QS1 : DS := (DS.new 8).wrote 3 f7
def QS2 : DS := QS1.flushed
set_option maxHeartbeats 2000000 in
theorem diskQuiet_walk (A : Option Addr) (n cp : Nat) (x : Nat → Int) (s : Nat) (w : World) (hX : ∀ i, i < n → ∃ ad, A = some ad ∧ w.cell? (ad.add i) = some (.int .i8 (x i)) ∧ -128 ≤ x i ∧ x i ≤ 127) (hs : s < 256) :
    Calls Try.prog 8 #[.slice A n cp, .int .u8 (s : Nat)] w fun e w' => e = .returned (.bool true) ∧ Below w.heap.size w w' := by
  have HX := Lib.hid hX
  clear hX
  obtain ⟨k, hk⟩ : ∃ k, k = s % 3 := ⟨_, rfl⟩
  have hk3 : k < 3 := by omega
  have hq1 : (s : Int) % 3 = (k : Int) := by omega
  have HNEW := Lib.hid (fun (w1 : World) (hb : Below w.heap.size w w1) => held_new (w0 := w) (w := w1) 8 (by omega) (by omega) hb)
  clear hk
  go_enter Try.func8, Try.ntmps8
  go_wp2_with (first
    | (go_at_call 9; with_reducible refine (awake_any _).mono ?_; rintro e w1 ⟨rfl, hb1⟩)
    | (go_at_call 10; refine (HNEW.out _ hb1).mono ?_; rintro e w2 ⟨gd, rfl, h0⟩)
    | (go_at_call 19; with_reducible refine (h0.rowI 7 (by omega) (by omega) f7 rfl).mono ?_; rintro e w3 ⟨a3, k3, rfl, h1⟩)
    | (go_at_call 18; with_reducible refine (h1.writeE (S' := QS1) 3 0 rfl (by decide)).mono ?_; rintro e w4 ⟨rfl, h2⟩)
    | (go_at_call 20; with_reducible refine (h2.flushE (S' := QS2) 0 rfl).mono ?_; rintro e w5 ⟨rfl, h3⟩)
    | (go_at_call 16; with_reducible refine (h3.imageE 8 QS2.T rfl rfl).mono ?_; rintro e w6 ⟨aw, kw, rfl, h4⟩)
    | (go_at_call 24; with_reducible refine (h4.plan (1 + (k : Int)) (by omega)).mono ?_; rintro e w7 ⟨rfl, h5⟩))
  go_loopw [9] (fun v wr => ∃ i : Nat, i ≤ 30 ∧ v = .int .i64 i ∧ Held w wr gd (QS2.plan (1 + (k : Int))) fun u => Img Any u (.slice aw 8 kw) 8 QS2.T) (fun v _ => 30 - (intOf v).toNat)
  case atStart => exact ⟨0, by omega, rfl, h5.imp fun _ h => h.2⟩
  case round =>
    obtain ⟨i, hi, rfl, h6⟩ := hrel
    by_cases hlt : i < n ∧ i < 30
    · obtain ⟨hl1, hl2⟩ := hlt
      obtain ⟨ad, rfl, hc, hx0, hx1⟩ := HX.out i hl1
      have HC := Lib.hid hc
      have hc1 := cell_later h6.bel hc
      have ha7 := and7 (x i) hx0 hx1
      obtain ⟨y, hy⟩ : ∃ y, bits BinOp.and IntKind.i8 (x i) 7 = y := ⟨_, rfl⟩
      rw [hy] at ha7
      obtain ⟨y0, y1⟩ := ha7
      generalize x i = xi at *
      have hwx : IntKind.i64.wrap xi = xi := IntWalk.i64_in _ (by omega)
      have hwy : IntKind.i64.wrap y = y := IntWalk.i64_in _ (by omega)
      have hwz : IntKind.i64.wrap (8 + y) = 8 + y := IntWalk.i64_in _ (by omega)
      have HGN := Lib.hid (show (QS2.plan (1 + (k : Int))).gone = false from rfl)
      have HWO := Lib.hid (show (QS2.plan (1 + (k : Int))).write (8 + y) (fun _ => 1) = (QS2.plan (1 + (k : Int)), 1) from write_out rfl _ (by show (8 : Int) ≤ 8 + y; omega) _)
      have HPL := Lib.hid (show (QS2.plan (1 + (k : Int))).P.length ≤ 1000000 from by show 0 ≤ 1000000; decide)
      clear hc
      go_wp2_with (go_at_call 23; with_reducible refine (h6.readQ xi).mono ?_; rintro e w8 ⟨⟨v, rfl⟩, h7⟩)
      have hc2 := cell_later h7.bel HC.out
      have h7d := h7.drew
      go_region_with (first
        | (go_at_call 19; refine (h7d.rowBad 1).mono ?_; rintro e w9 ⟨a9, k9, rfl, h8⟩
           have hc3 := cell_later h8.bel HC.out)
        | (go_at_call 18; with_reducible refine (h8.writeQ HGN.out xi a9 65 k9 (by decide)).mono ?_; rintro e w10 ⟨rfl, h9⟩))
      all_goals
        have hc4 := cell_later h9.bel HC.out
        have h9d := h9.drew
        go_wp2
        go_region_with (first
          | (go_at_call 19; with_reducible refine (h9d.rowI 1 (by omega) (by omega) (fun _ => 1) rfl).mono ?_; rintro e w11 ⟨a11, k11, rfl, h11⟩
             have hc5 := cell_later h11.bel HC.out)
          | (go_at_call 18; with_reducible refine (h11.writeE (S' := QS2.plan (1 + (k : Int))) (8 + y) 1 HWO.out HPL.out).mono ?_; rintro e w12 ⟨rfl, h12⟩
             have hc6 := cell_later h12.bel HC.out)
          | (go_at_call 16; with_reducible refine (h12.imageE 8 QS2.T rfl rfl).mono ?_; rintro e w13 ⟨a13, k13, rfl, h13⟩)
          | (go_at_call 15; with_reducible refine (h13.alike (fun _ h => h.2) (fun _ h => h.1) (by omega)).mono ?_; rintro e w14 ⟨rfl, h14⟩))
        all_goals
          simp only [Act.put, List.setIfInBounds_toArray, List.set_cons_zero, List.set_cons_succ, List.getElem_toArray, List.getElem_cons_succ, List.getElem_cons_zero]
          go_wp2
          go_roundw
          case rel => exact ⟨i + 1, by omega, by go_num, h14.imp fun _ h => h.1⟩
          case measure => simp [intOf]; omega
    · have hq : (¬ i < n) ∨ (i < n ∧ ¬ i < 30) := by omega
      clear hlt
      have HQI := Lib.hid (show QInv QS2.T (k + 1) 0 (QS2.plan (1 + (k : Int))) from ⟨rfl, rfl, Nat.zero_le _, .inl ⟨by omega, rfl, by show (1 + (k : Int)).toNat = _; omega⟩⟩)
      rcases hq with hq | ⟨hq, hq'⟩
      all_goals
        go_wp2
        go_loopw [10] (fun v wr => ∃ (t : Nat) (S : DS), t ≤ 3 ∧ v = .int .i64 ((t : Int) + 1) ∧ QInv QS2.T (k + 1) t S ∧ Held w wr gd S fun u => Img Any u (.slice aw 8 kw) 8 QS2.T) (fun v _ => 5 - (intOf v).toNat)
        case atStart => exact ⟨0, _, by omega, rfl, HQI.out, h6⟩
        case round =>
          obtain ⟨t, S, ht, rfl, hinv, h7⟩ := hrel
          have HIV := Lib.hid hinv
          clear hinv
          by_cases ht3 : t < 3
          · have HST := Lib.hid (q_step HIV.out f2)
            have HPL := Lib.hid (show S.P.length ≤ 1000000 from by have := HIV.out.2.2.1; omega)
            obtain ⟨z, S', hw⟩ : ∃ z S', S.write 0 f2 = (S', z) := ⟨_, _, rfl⟩
            rw [hw] at HST
            have HW := Lib.hid hw
            have hz : z = (if t + 1 < k + 1 then 0 else 4) := HST.out.1
            have HIN := Lib.hid (show QInv QS2.T (k + 1) (t + 1) S' from HST.out.2)
            clear hw HST
            have ht4 : (t : Int) + 1 ≤ 3 := by omega
            by_cases hk1 : t + 1 < k + 1
            · rw [if_pos hk1] at hz
              rw [hz] at HW
              have hk2 : (t : Int) + 1 < 1 + (k : Int) := by omega
              clear hz
              go_wp2_with (first
                | (go_at_call 19; with_reducible refine (h7.rowI 2 (by omega) (by omega) f2 rfl).mono ?_; rintro e w8 ⟨a8, k8, rfl, h8⟩)
                | (go_at_call 18; with_reducible refine (h8.writeE (S' := S') 0 0 HW.out HPL.out).mono ?_; rintro e w9 ⟨rfl, h9⟩))
              go_roundw
              case rel => exact ⟨t + 1, S', by omega, by go_num, HIN.out, h9⟩
              case measure => simp [intOf]; omega
            · rw [if_neg hk1] at hz
              rw [hz] at HW
              have hk2 : ¬ (t : Int) + 1 < 1 + (k : Int) := by omega
              clear hz
              go_wp2_with (first
                | (go_at_call 19; with_reducible refine (h7.rowI 2 (by omega) (by omega) f2 rfl).mono ?_; rintro e w8 ⟨a8, k8, rfl, h8⟩)
                | (go_at_call 18; with_reducible refine (h8.writeE (S' := S') 0 4 HW.out HPL.out).mono ?_; rintro e w9 ⟨rfl, h9⟩))
              go_roundw
              case rel => exact ⟨t + 1, S', by omega, by go_num, HIN.out, h9⟩
              case measure => simp [intOf]; omega
          · obtain rfl : t = 3 := by omega
            have hinv := HIV.out
            have HD := Lib.hid h7.down
            rw [show S.gone = true from by rcases hinv.2.2.2 with ⟨e, _⟩ | ⟨_, e⟩; omega; exact e] at HD
            have HSN := Lib.hid hinv.1
            have HSTT := Lib.hid hinv.2.1
            clear hinv
            go_wp2_with (first
              | (go_at_call 14; with_reducible refine HD.out.mono ?_; rintro e w8 ⟨rfl, rfl⟩)
              | (go_at_call 16; with_reducible refine (h7.imageE 8 QS2.T HSN.out HSTT.out).mono ?_; rintro e w13 ⟨a13, k13, rfl, h13⟩)
              | (go_at_call 15; with_reducible refine (h13.alike (fun _ h => h.2) (fun _ h => h.1) (by omega)).mono ?_; rintro e w14 ⟨rfl, h14⟩))
            go_ret
            exact ⟨rfl, h14.bel⟩
end Go.Proofs.Ytldbnlmimjamnaa
