/- The document's side: Load. -/
import Derived.Test.YteeomidlnijfbaaPLb
import Derived.Test.YteeomidlnijfbaaPLc
namespace Go.Proofs.Yteeomidlnijfbaa
open Go.RowKit
set_option linter.unusedSimpArgs false
set_option linter.unusedVariables false

/-- The greatest of what the first sectors say. -/
noncomputable def ldTo (S : DS) : Nat → Nat
  | 0 => 0
  | k + 1 => max (ldTo S k) (sayN k (S.read (k : Nat)).1)
theorem ldTo_two (S : DS) : ldTo S 2 = max (sayN 0 (S.read 0).1) (sayN 1 (S.read 1).1) := by
  show max (max 0 (sayN 0 (S.read 0).1)) (sayN 1 (S.read 1).1) = _
  rw [Nat.max_eq_right (Nat.zero_le _)]
theorem sayN_le {f : Nat → Nat} (i : Nat) : sayN i (some f) ≤ rootG f := by
  by_cases h : rootAt i f
  · exact Nat.le_of_eq (if_pos h)
  · rw [show sayN i (some f) = 0 from if_neg h]
    exact Nat.zero_le _
theorem read_code {S : DS} (hg : S.gone = false) {i : Nat} (hi : i < S.n) : ((S.read (i : Nat)).1 = none ∧ (S.read (i : Nat)).2 = 6) ∨ ∃ f, (S.read (i : Nat)).1 = some f ∧ (S.read (i : Nat)).2 = 0 := by
  unfold DS.read
  rw [hg, hasB_yes hi]
  simp only [Bool.false_eq_true, if_false, if_true]
  cases h : S.seen (Int.toNat (i : Nat)) with
  | none => exact .inl ⟨rfl, rfl⟩
  | some f => exact .inr ⟨f, rfl, rfl⟩
theorem layT_all {B : (Nat → Nat) → Prop} {n : Nat} : ∀ (P : List (Nat × (Nat → Nat))) (T : Nat → Option (Nat → Nat)), (∀ i f, i < n → T i = some f → B f) → (∀ p ∈ P, B p.2) → ∀ i f, i < n → layT T P i = some f → B f
  | [], T, hT, _, i, f, hi, h => hT i f hi h
  | p :: P, T, hT, hP, i, f, hi, h => layT_all P (setT T p.1 (some p.2)) (fun i f hi h => by
      unfold setT at h
      split at h
      · injection h with h
        exact h ▸ hP p (List.mem_cons_self ..)
      · exact hT i f hi h) (fun q hq => hP q (List.mem_cons_of_mem _ hq)) i f hi h
theorem RAt.read_lt {G : Nat → Prop} {w : World} {g t : Nat} {S : DS} (h : RAt G w g t S) {i : Nat} (hi : i < S.n) {f : Nat → Nat} (hf : (S.read (i : Nat)).1 = some f) : ∀ j, j < 64 → f j < 256 := by
  obtain ⟨gB, cB, gX, vA, vN, ys, VB, X, stop, begun, hd⟩ := h
  have hs : S.seen i = some f := by
    unfold DS.read at hf
    rw [hasB_yes hi] at hf
    cases hg : S.gone with
    | true => rw [hg] at hf; cases hf
    | false =>
      rw [hg] at hf
      simp only [Bool.false_eq_true, if_false, if_true, Int.toNat_natCast] at hf
      cases h : S.seen i with
      | none => rw [h] at hf; cases hf
      | some x => rw [h] at hf; injection hf with hf; rw [hf]
  refine layT_all (B := fun f => ∀ j, j < 64 → f j < 256) (n := S.n) S.P S.T (fun i f hi h => ?_) (fun p hp => ?_) i f hi hs
  · have := hd.hT i hi
    rw [h] at this
    obtain ⟨_, g, o, c, _, _, _, _, hl⟩ := this
    exact hl
  · obtain ⟨k, hk⟩ := List.getElem?_of_mem hp
    obtain ⟨_, v, _, g, o, c, _, _, _, _, hl⟩ := hd.hP k p hk
    exact hl
def RLoad (w w' : World) (e : Ending) (S : DS) : Prop := e = .returned (.tuple #[.int .u32 (S.load.1 : Nat), .int .i64 S.load.2]) ∧ Below w.heap.size w w'
set_option maxRecDepth 100000 in
set_option maxHeartbeats 4000000 in
theorem rload_any {G : Nat → Prop} {w : World} {g t : Nat} {S : DS} (h : RAt G w g t S) (hP : S.P.length ≤ 1000000) : Calls Try.prog 32 #[.pointer (some ⟨g, 0, none⟩)] w fun e w' => RLoad w w' e S := by
  have hbox : ∃ a c, w.cell? ⟨g, 0, none⟩ = some (.slice a S.n c) ∧ w.cell? ⟨g, 4, none⟩ = some (.bool S.gone) := by
    obtain ⟨gB, cB, gX, vA, vN, ys, VB, X, stop, begun, hd⟩ := id h
    exact ⟨_, _, (dvr7 hd.box).1, (dvr7 hd.box).2.2.2.2.1⟩
  obtain ⟨a0, c0, hc0, hc4⟩ := hbox
  have hlt := block_lt_of_cell hc0
  cases hg : S.gone with
  | true =>
    have HP : Hid (RLoad w w (.returned (.tuple #[.int .u32 0, .int .i64 4])) S) := Lib.hid ⟨by simp [DS.load, hg], Below.refl _ _⟩
    rw [hg] at hc4
    clear h hg hP
    go_enter Try.func32, Try.ntmps32
    go_wp2
    go_ret2
    exact HP.out
  | false =>
    rw [hg] at hc4
    obtain ⟨N, hN⟩ : ∃ N, S.n = N := ⟨_, rfl⟩
    rw [hN] at hc0
    by_cases hn : N < 2
    · have HP : Hid (RLoad w w (.returned (.tuple #[.int .u32 0, .int .i64 1])) S) := Lib.hid ⟨by simp [DS.load, hg, hN, hn], Below.refl _ _⟩
      have hn2 : (N : Int) < 2 := by omega
      clear h hg hN hP
      go_enter Try.func32, Try.ntmps32
      go_wp2
      go_ret2
      exact HP.out
    · have hn2 : ¬ (N : Int) < 2 := by omega
      have HP : Hid (∀ w', Below w.heap.size w w' → RLoad w w' (.returned (.tuple #[.int .u32 (ldTo S 2 : Nat), .int .i64 0])) S) := Lib.hid fun w' hb => ⟨by rw [ldTo_two]; simp [DS.load, hg, hN, hn], hb⟩
      have HRD : Hid (∀ (u : World) (i : Nat), Below w.heap.size w u → Calls Try.prog 59 #[.pointer (some ⟨g, 0, none⟩), .int .i64 (i : Nat)] u fun e w' => RRead S u w' e (i : Nat)) := fun u i hu => by
        obtain ⟨gB, cB, gX, vA, vN, ys, VB, X, stop, begun, hd⟩ := h.keepB hu
        exact rread_any hd (i : Nat) hP
      have HCD : Hid (∀ i : Nat, i < 2 → ((S.read (i : Nat)).1 = none ∧ (S.read (i : Nat)).2 = 6) ∨ ∃ f, (S.read (i : Nat)).1 = some f ∧ (S.read (i : Nat)).2 = 0) := fun i hi => read_code hg (by omega)
      have HFL : Hid (∀ (i : Nat) (f : Nat → Nat), i < 2 → (S.read (i : Nat)).1 = some f → ∀ j, j < 64 → f j < 256) := fun i f hi hf => h.read_lt (by omega) hf
      clear h hg hN hP hn
      go_enter Try.func32, Try.ntmps32
      go_wp2
      go_loopw [4, 5] (fun x4 x5 wr => ∃ k m : Nat, k ≤ 2 ∧ x5 = .int .i64 (k : Nat) ∧ x4 = .int .u32 (m : Nat) ∧ m = ldTo S k ∧ Below w.heap.size w wr) (fun x4 x5 _ => 2 - (intOf x5).toNat)
      case atStart => exact ⟨0, 0, by omega, rfl, rfl, rfl, Below.refl _ _⟩
      case round =>
        obtain ⟨k, m, hk, rfl, rfl, hm, hb⟩ := hrel
        have HB := Lib.hid hb
        have HM := Lib.hid hm
        clear hb hm
        by_cases hk2 : k < 2
        · have j1 : (k : Int) < 2 := by omega
          have HS : Hid (ldTo S (k + 1) = max m (sayN k (S.read (k : Nat)).1)) := Lib.hid (by show max (ldTo S k) _ = _; rw [← HM.out])
          obtain ⟨o, ho⟩ : ∃ o, (S.read (k : Nat)).1 = o := ⟨_, rfl⟩
          obtain ⟨cd, hcd⟩ : ∃ cd, (S.read (k : Nat)).2 = cd := ⟨_, rfl⟩
          have hrd := HRD.out wr k HB.out
          have hcc := HCD.out k hk2
          unfold RRead at hrd
          rw [ho, hcd] at hrd hcc
          rw [ho] at HS
          clear hcd
          rcases hcc with ⟨rfl, rfl⟩ | ⟨f, rfl, rfl⟩
          · have HR : Hid (Calls Try.prog 59 #[.pointer (some ⟨g, 0, none⟩), .int .i64 (k : Nat)] wr fun e w' => e = .returned (.tuple #[.slice none 0 0, .int .i64 6]) ∧ wr = w') := hrd.mono fun e w' h => by
              obtain ⟨a, n, c, rfl, h1, h2⟩ := h
              have h1 : Value.slice a n c = .slice none 0 0 := h1
              cases h1
              exact ⟨rfl, h2⟩
            have HD : Hid (Calls Try.prog 60 #[.slice none 0 0] wr fun e w' => e = .returned (.tuple #[cellI 0 0 0 0 none 0 0, .int .i64 2]) ∧ Below wr.heap.size wr w') := (rdecode_by (w := wr) (v := .slice none 0 0) (n := 0) (f := fun _ => 0) ⟨none, 0, rfl, Nat.le_refl _, Rd.zero, fun j hj => absurd hj (by omega)⟩ (by omega)).mono fun e w' h => by
              rcases h with ⟨⟨⟨h, _⟩, _⟩ | ⟨_, h⟩, hb⟩
              · cases h
              · exact ⟨h, hb⟩
            have HE : Hid (ldTo S (k + 1) = m) := Lib.hid (by rw [HS.out]; exact Nat.max_eq_left (Nat.zero_le _))
            clear hrd ho hk2
            go_wp2_with (first
              | (go_at_call 59; refine HR.out.mono ?_; rintro e w2 ⟨rfl, rfl⟩)
              | (go_at_call 60; refine HD.out.mono ?_; rintro e w3 ⟨rfl, hb3⟩; have HB3 := Lib.hid (bbt (bbt HB.out hb3) (below_new w3 (.cells #[.int .u32 0, .int .u32 0, .int .i64 0, .int .i64 0, .slice none 0 0] 97))); clear hb3))
            exact ⟨⟨k + 1, m, by omega, by rw [Int.natCast_add]; rfl, rfl, HE.out.symm, HB3.out⟩, by simp [intOf]; omega⟩
          · have HR : Hid (Calls Try.prog 59 #[.pointer (some ⟨g, 0, none⟩), .int .i64 (k : Nat)] wr fun e w' => (∃ (ad : Addr) (c : Nat), e = .returned (.tuple #[.slice (some ad) 64 c, .int .i64 0]) ∧ Byt w' (.slice (some ad) 64 c) 64 f) ∧ wr = w') := hrd.mono fun e w' h => by
              obtain ⟨a, n, c, rfl, h1, h2⟩ := h
              obtain ⟨gg, o, c2, e, x1, x2, x3, x4⟩ := Sec.rd (h1 : Sec Any w' _ f)
              cases e
              exact ⟨⟨_, c, rfl, _, c, rfl, x1, x3, x4⟩, h2⟩
            have hfl := HFL.out k f hk2 ho
            clear hrd ho
            · by_cases hd : decP 64 f
              · have HDD : Hid (∀ u v, Byt u v 64 f → Hid (Calls Try.prog 60 #[v] u fun e w' => (∃ (s : Nat) (p q : Int) (n : Nat) (B : Option Addr) (c' : Nat), e = .returned (.tuple #[cellV (rootG f) s p q B n c', .int .i64 0])) ∧ Below u.heap.size u w')) := fun u v hv => by
                  refine (rdecode_by hv (by omega)).mono ?_
                  rintro e w' ⟨⟨_, B, c', rfl, _⟩ | ⟨h0, _⟩, hb⟩
                  · exact ⟨⟨_, _, _, _, B, c', rfl⟩, hb⟩
                  · exact absurd hd h0
                have hgl := rootG_lt hfl
                have HG : Hid (u32I ((rootG f : Nat) : Int)) := by show u32I _; unfold u32I; omega
                have HE : Hid (∀ u, Calls Try.prog 27 #[.int .u32 (rootG f : Nat)] u fun e w' => (∃ v, e = .returned v ∧ Byt w' v 64 (rootF (rootG f))) ∧ Below u.heap.size u w') := fun u => (rsector u HG.out).mono fun e w' h => by
                  obtain ⟨⟨v, e1, e2, _⟩, hb⟩ := h
                  exact ⟨⟨v, e1, e2⟩, hb⟩
                have HC : Hid (∀ (W : World) (s : Nat) (p q : Int) (n : Nat) (B : Option Addr) (c' : Nat) (u : World), Below (W.alloc (.cells #[.int .u32 (rootG f : Nat), .int .u32 (s : Nat), .int .i64 p, .int .i64 q, .slice B n c'] 97)).heap.size (W.alloc (.cells #[.int .u32 (rootG f : Nat), .int .u32 (s : Nat), .int .i64 p, .int .i64 q, .slice B n c'] 97)) u → u.cell? ⟨W.heap.size, 0, none⟩ = some (.int .u32 (rootG f : Nat))) := fun W s p q n B c' u hu => ((BoxC.new W (rootG f) s p q B n c').below hu).1
                have HBB : Hid (∀ (W : World) (s : Nat) (p q : Int) (n : Nat) (B : Option Addr) (c' : Nat), Below wr.heap.size wr W → Below w.heap.size w (W.alloc (.cells #[.int .u32 (rootG f : Nat), .int .u32 (s : Nat), .int .i64 p, .int .i64 q, .slice B n c'] 97))) := fun W s p q n B c' h => bbt (bbt HB.out h) (below_new _ _)
                have HWW : Hid (∀ (W : World) (s : Nat) (p q : Int) (n : Nat) (B : Option Addr) (c' : Nat), Below wr.heap.size wr W → Below wr.heap.size wr (W.alloc (.cells #[.int .u32 (rootG f : Nat), .int .u32 (s : Nat), .int .i64 p, .int .i64 q, .slice B n c'] 97))) := fun W s p q n B c' h => bbt h (below_new _ _)
                have HRW0 : Hid (∀ bq : Bool, (bq = true ↔ ∀ j, j < 64 → f j = rootF (rootG f) j) → ∀ u v1 v2, Byt u v1 64 f → Byt u v2 64 (rootF (rootG f)) → ∀ (W : World) (s : Nat) (p q : Int) (n : Nat) (B : Option Addr) (c' : Nat), Below (W.alloc (.cells #[.int .u32 (rootG f : Nat), .int .u32 (s : Nat), .int .i64 p, .int .i64 q, .slice B n c'] 97)).heap.size (W.alloc (.cells #[.int .u32 (rootG f : Nat), .int .u32 (s : Nat), .int .i64 p, .int .i64 q, .slice B n c'] 97)) u → Calls Try.prog 61 #[v1, v2] u fun e w' => e = .returned (.bool bq) ∧ Below u.heap.size u w' ∧ w'.cell? ⟨W.heap.size, 0, none⟩ = some (.int .u32 (rootG f : Nat))) := fun bq hbq u v1 v2 h1 h2 W s p q n B c' hu => by
                  refine (rows_by h1 h2 (by omega) (by omega)).mono ?_
                  rintro e w' ⟨⟨b, rfl, hb⟩, hbl⟩
                  exact ⟨by rw [show b = bq from Bool.eq_iff_iff.2 (hb.trans ⟨fun h => hbq.2 h.2, fun h => ⟨rfl, hbq.1 h⟩⟩)], hbl, HC.out W s p q n B c' w' (bbt hu hbl)⟩
                have HSV1 : Hid (rootAt k f → sayN k (some f) = rootG f) := fun h => if_pos h
                have HSV0 : Hid (¬ rootAt k f → sayN k (some f) = 0) := fun h => if_neg h
                have HLE := Lib.hid (sayN_le (f := f) k)
                by_cases hgt : m < rootG f
                · have j2 : (m : Int) < (rootG f : Int) := by omega
                  have h02 : 0 ≤ ((rootG f : Nat) : Int) % 2 ∧ ((rootG f : Nat) : Int) % 2 < 2 := by omega
                  by_cases hpar : rootG f % 2 = k
                  · have j3 : (((rootG f : Nat) : Int) % 2 == (k : Int)) = true := by rw [beq_iff_eq]; omega
                    by_cases hrow : ∀ j, j < 64 → f j = rootF (rootG f) j
                    · have HEQ : Hid (ldTo S (k + 1) = rootG f) := Lib.hid (by rw [HS.out, HSV1.out ⟨hrow, hpar⟩]; exact Nat.max_eq_right (Nat.le_of_lt hgt))
                      have HRW := Lib.hid (HRW0.out true ⟨fun _ => hrow, fun _ => rfl⟩)
                      clear hgt hpar hrow hgl HSV1 HSV0 HLE HRW0 hd hfl
                      generalize rootG f = x at *
                      go_wp2_with (first
                        | (go_at_call 59; refine HR.out.mono ?_; rintro e w2 ⟨⟨ad, c, rfl, hv⟩, rfl⟩; have HV := Lib.hid hv; have HD := HDD.out _ _ hv; clear hv)
                        | (go_at_call 60; refine HD.out.mono ?_; rintro e w3 ⟨⟨s, p, q, n, B, c', rfl⟩, hb3⟩; have HB3 := Lib.hid (HBB.out w3 s p q n B c' hb3); have HW3 := Lib.hid (HWW.out w3 s p q n B c' hb3); have c0 := HC.out w3 s p q n B c' _ (Below.refl _ _); clear hb3)
                        | (go_at_call 27; refine (HE.out _).mono ?_; rintro e w4 ⟨⟨v4, rfl, hv4⟩, hb4⟩; have HV4 := Lib.hid hv4; have HB4 := Lib.hid (bbt HB3.out hb4); have HBX := Lib.hid hb4; have HV5 := Lib.hid (HV.out.below (bbt HW3.out hb4)); clear c0 hv4; have c0 := HC.out w3 s p q n B c' _ hb4; clear hb4)
                        | (go_at_call 61; refine (HRW.out _ _ _ HV5.out HV4.out w3 s p q n B c' HBX.out).mono ?_; rintro e w6 ⟨rfl, hb6, hc6⟩; have HB6 := Lib.hid (bbt HB4.out hb6); clear c0 hb6; have c0 := hc6; clear hc6))
                      exact ⟨⟨k + 1, x, by omega, by rw [Int.natCast_add]; rfl, rfl, HEQ.out.symm, HB6.out⟩, by simp [intOf]; omega⟩
                    · have HEQ : Hid (ldTo S (k + 1) = m) := Lib.hid (by rw [HS.out, HSV0.out fun h => hrow h.1]; exact Nat.max_eq_left (Nat.zero_le _))
                      have HRW := Lib.hid (HRW0.out false ⟨(fun h => by cases h), fun h => absurd h hrow⟩)
                      clear hgt hpar hrow hgl HSV1 HSV0 HLE HRW0 hd hfl
                      generalize rootG f = x at *
                      go_wp2_with (first
                        | (go_at_call 59; refine HR.out.mono ?_; rintro e w2 ⟨⟨ad, c, rfl, hv⟩, rfl⟩; have HV := Lib.hid hv; have HD := HDD.out _ _ hv; clear hv)
                        | (go_at_call 60; refine HD.out.mono ?_; rintro e w3 ⟨⟨s, p, q, n, B, c', rfl⟩, hb3⟩; have HB3 := Lib.hid (HBB.out w3 s p q n B c' hb3); have HW3 := Lib.hid (HWW.out w3 s p q n B c' hb3); have c0 := HC.out w3 s p q n B c' _ (Below.refl _ _); clear hb3)
                        | (go_at_call 27; refine (HE.out _).mono ?_; rintro e w4 ⟨⟨v4, rfl, hv4⟩, hb4⟩; have HV4 := Lib.hid hv4; have HB4 := Lib.hid (bbt HB3.out hb4); have HBX := Lib.hid hb4; have HV5 := Lib.hid (HV.out.below (bbt HW3.out hb4)); clear c0 hv4; have c0 := HC.out w3 s p q n B c' _ hb4; clear hb4)
                        | (go_at_call 61; refine (HRW.out _ _ _ HV5.out HV4.out w3 s p q n B c' HBX.out).mono ?_; rintro e w6 ⟨rfl, hb6, hc6⟩; have HB6 := Lib.hid (bbt HB4.out hb6); clear c0 hb6; have c0 := hc6; clear hc6))
                      exact ⟨⟨k + 1, m, by omega, by rw [Int.natCast_add]; rfl, rfl, HEQ.out.symm, HB6.out⟩, by simp [intOf]; omega⟩
                  · have j3 : (((rootG f : Nat) : Int) % 2 == (k : Int)) = false := by rw [beq_eq_false_iff_ne]; omega
                    have HEQ : Hid (ldTo S (k + 1) = m) := Lib.hid (by rw [HS.out, HSV0.out fun h => hpar h.2]; exact Nat.max_eq_left (Nat.zero_le _))
                    clear hgt hpar hgl HSV1 HSV0 HLE HRW0 hd hfl
                    generalize rootG f = x at *
                    go_wp2_with (first
                      | (go_at_call 59; refine HR.out.mono ?_; rintro e w2 ⟨⟨ad, c, rfl, hv⟩, rfl⟩; have HV := Lib.hid hv; have HD := HDD.out _ _ hv; clear hv)
                      | (go_at_call 60; refine HD.out.mono ?_; rintro e w3 ⟨⟨s, p, q, n, B, c', rfl⟩, hb3⟩; have HB3 := Lib.hid (HBB.out w3 s p q n B c' hb3); have HW3 := Lib.hid (HWW.out w3 s p q n B c' hb3); have c0 := HC.out w3 s p q n B c' _ (Below.refl _ _); clear hb3))
                    exact ⟨⟨k + 1, m, by omega, by rw [Int.natCast_add]; rfl, rfl, HEQ.out.symm, HB3.out⟩, by simp [intOf]; omega⟩
                · have j2 : ((m : Int) < (rootG f : Int)) = False := eq_false (by omega)
                  have HEQ : Hid (ldTo S (k + 1) = m) := Lib.hid (by rw [HS.out]; exact Nat.max_eq_left (Nat.le_trans HLE.out (Nat.not_lt.1 hgt)))
                  clear hgt hgl HSV1 HSV0 HLE HRW0 hd hfl
                  generalize rootG f = x at *
                  go_wp2_with (first
                    | (go_at_call 59; refine HR.out.mono ?_; rintro e w2 ⟨⟨ad, c, rfl, hv⟩, rfl⟩; have HV := Lib.hid hv; have HD := HDD.out _ _ hv; clear hv)
                    | (go_at_call 60; refine HD.out.mono ?_; rintro e w3 ⟨⟨s, p, q, n, B, c', rfl⟩, hb3⟩; have HB3 := Lib.hid (HBB.out w3 s p q n B c' hb3); have HW3 := Lib.hid (HWW.out w3 s p q n B c' hb3); have c0 := HC.out w3 s p q n B c' _ (Below.refl _ _); clear hb3))
                  exact ⟨⟨k + 1, m, by omega, by rw [Int.natCast_add]; rfl, rfl, HEQ.out.symm, HB3.out⟩, by simp [intOf]; omega⟩
              · have HDD : Hid (∀ u v, Byt u v 64 f → Hid (Calls Try.prog 60 #[v] u fun e w' => e = .returned (.tuple #[cellI 0 0 0 0 none 0 0, .int .i64 2]) ∧ Below u.heap.size u w')) := fun u v hv => by
                  refine (rdecode_by hv (by omega)).mono ?_
                  rintro e w' ⟨⟨h0, _⟩ | ⟨_, h0⟩, hb⟩
                  · exact absurd h0 hd
                  · exact ⟨h0, hb⟩
                have HEQ : Hid (ldTo S (k + 1) = m) := Lib.hid (by rw [HS.out, show sayN k (some f) = 0 from if_neg fun e => hd (root_dec hfl e)]; exact Nat.max_eq_left (Nat.zero_le _))
                clear hd hfl
                go_wp2_with (first
                  | (go_at_call 59; refine HR.out.mono ?_; rintro e w2 ⟨⟨ad, c, rfl, hv⟩, rfl⟩; have HD := HDD.out _ _ hv; clear hv)
                  | (go_at_call 60; refine HD.out.mono ?_; rintro e w3 ⟨rfl, hb3⟩; have HB3 := Lib.hid (bbt (bbt HB.out hb3) (below_new w3 (.cells #[.int .u32 0, .int .u32 0, .int .i64 0, .int .i64 0, .slice none 0 0] 97))); clear hb3))
                exact ⟨⟨k + 1, m, by omega, by rw [Int.natCast_add]; rfl, rfl, HEQ.out.symm, HB3.out⟩, by simp [intOf]; omega⟩
        · obtain rfl : k = 2 := by omega
          have HMM := HP.out _ HB.out
          rw [← HM.out] at HMM
          have HMH := Lib.hid HMM
          clear HMM
          go_wp2
          go_ret2
          exact HMH.out
end Go.Proofs.Yteeomidlnijfbaa
