/- The walk of DiskStays. -/
import Derived.Test.YtldbnlmimjamnaaDr
import Derived.Deep.DeepCutAuto
import Derived.Deep.CutBlock
namespace Go.Proofs.Ytldbnlmimjamnaa
open Go.RowKit

/-- An image whose row is known by name. -/
def ImgX (g c : Nat) (V : Nat → Value) (n : Nat) (T : Nat → Option (Nat → Nat)) (u : World) : Prop := n ≤ c ∧ u.rowIs g 31 c V ∧ ∀ i, i < n → SecO Any u (V i) (T i)
section
variable {w0 w w' : World} {gd : Nat} {S S' : DS} {Φ Ψ : World → Prop}
theorem Held.imageX (h : Held w0 w gd S Φ) (n : Nat) (T : Nat → Option (Nat → Nat)) (hn : S.n = n) (hT : S.T = T) :
    Calls Try.prog 16 #[.pointer (some ⟨gd, 0, none⟩)] w fun e w' => ∃ g c V, e = .returned (.slice (some ⟨g, 0, none⟩) n c) ∧ Held w0 w' gd S fun u => Φ u ∧ ImgX g c V n T u := by
  subst hn hT
  have hh := h
  obtain ⟨F, Z, ⟨gt, gs, ct, cs, vp, xs, VT, VS, hd⟩, _⟩ := hh
  refine (image_any hd).mono ?_
  rintro e w' ⟨v, rfl, hv, hb⟩
  obtain ⟨g, c, V, rfl, h1, h2, h3, h4, h5⟩ := hv
  exact ⟨g, c, V, rfl, h.more hb fun u hu hs => ⟨h1, h4.of_block (hu g h2 h3), fun i hi => (h5 i hi).keep (fun j hj hl => hu j hj hl) fun _ _ _ => trivial⟩⟩
theorem Held.upE (h : Held w0 w gd S Φ) (hP : S.P.length ≤ 1000000) (A : Option Addr) (n c : Nat) (f : Nat → Nat) (hr : Rd .u8 w A n f) (hf : ∀ j, j < n → f j < 256) (hnc : n ≤ c) (hn : n ≤ 1000000) (hS : S.up ((List.range n).map f) = S') :
    Calls Try.prog 21 #[.pointer (some ⟨gd, 0, none⟩), .slice A n c] w fun e w' => e = .returned (.tuple #[]) ∧ Held w0 w' gd S' Φ := by
  subst hS
  exact h.up hP A n c f hr hf hnc hn
theorem Held.rowsQ (h : Held w0 w gd S Φ) {u v : Value} {s t : Option (Nat → Nat)} (hu : ∀ w, Φ w → SecO Any w u s) (hv : ∀ w, Φ w → SecO Any w v t) :
    Calls Try.prog 22 #[u, v] w fun e w' => ∃ q : Bool, e = .returned (.bool q) ∧ (q = true ↔ SameO s t) ∧ Held w0 w' gd S Φ :=
  (rows_o (hu w h.sat) (hv w h.sat)).mono fun _ _ ⟨q, h1, h2, h3⟩ => ⟨q, h1, h2, h.below h3⟩
theorem Held.rowsQS (h : Held w0 w gd S Φ) {u v : Value} {s : Option (Nat → Nat)} {g : Nat → Nat} (hu : ∀ w, Φ w → SecO Any w u s) (hv : ∀ w, Φ w → Sec Any w v g) :
    Calls Try.prog 22 #[u, v] w fun e w' => ∃ q : Bool, e = .returned (.bool q) ∧ (q = true ↔ SameO s (some g)) ∧ Held w0 w' gd S Φ := h.rowsQ (t := some g) hu hv
end
theorem upT_cases (T : Nat → Option (Nat → Nat)) (P : List (Nat × (Nat → Nat))) (cs : List Nat) (i : Nat) : upT T P cs i = T i ∨ ∃ f, (i, f) ∈ P ∧ (upT T P cs i = none ∨ upT T P cs i = some f) := by
  induction P generalizing T cs with
  | nil => exact .inl rfl
  | cons p P ih =>
    cases cs with
    | nil => exact .inl (by rw [upT_nil])
    | cons c cs =>
      rcases ih (if c % 3 = 1 then setT T p.1 (some p.2) else if c % 3 = 2 then setT T p.1 none else T) cs with h | ⟨f, h1, h2⟩
      · by_cases hi : i = p.1
        · subst hi
          have h' : upT T (p :: P) (c :: cs) p.1 = _ := h
          by_cases hc1 : c % 3 = 1
          · rw [if_pos hc1] at h'
            exact .inr ⟨p.2, by simp, .inr (by rw [h']; simp [setT])⟩
          · by_cases hc2 : c % 3 = 2
            · rw [if_neg hc1, if_pos hc2] at h'
              exact .inr ⟨p.2, by simp, .inl (by rw [h']; simp [setT])⟩
            · rw [if_neg hc1, if_neg hc2] at h'
              exact .inl h'
        · left
          have h' : upT T (p :: P) (c :: cs) i = _ := h
          rw [h']
          split
          · simp [setT, hi]
          · split
            · simp [setT, hi]
            · rfl
      · exact .inr ⟨f, by simp [h1], h2⟩
/-- Behind i writes of the list. -/
def PInv (T : Nat → Option (Nat → Nat)) (X : Nat → ActD) (i : Nat) (S : DS) : Prop :=
  Free 16 i S ∧ S.T = T ∧ ∀ p, p ∈ S.P → ∃ k, k < i ∧ (X k).I = (p.1 : Int) ∧ p.2 = fun _ => (X k).C
theorem p_step {T : Nat → Option (Nat → Nat)} {X : Nat → ActD} {i : Nat} {S : DS} (h : PInv T X i S) : PInv T X (i + 1) (S.write (X i).I fun _ => (X i).C).1 := by
  obtain ⟨⟨h1, h2, h3, h4⟩, h5, h6⟩ := h
  have old : PInv T X (i + 1) S := ⟨⟨h1, h2, h3, Nat.le_succ_of_le h4⟩, h5, fun p hp => by obtain ⟨k, a, b⟩ := h6 p hp; exact ⟨k, by omega, b⟩⟩
  cases hb : hasB S.n (X i).I with
  | false =>
    have : S.write (X i).I (fun _ => (X i).C) = (S, 1) := by
      unfold DS.write
      rw [if_neg (by rw [h2]; simp), if_neg (by rw [hb]; simp)]
    rw [this]
    exact old
  | true =>
    obtain ⟨q0, q1⟩ := hasB_true hb
    have e : (((X i).I.toNat : Nat) : Int) = (X i).I := by omega
    have := write_free h2 h3 (k := (X i).I.toNat) (by omega) (fun _ => (X i).C)
    rw [e] at this
    rw [this]
    refine ⟨⟨h1, h2, h3, by simp [DS.wrote]; omega⟩, h5, fun p hp => ?_⟩
    have hp' : p ∈ S.P ++ [((X i).I.toNat, fun _ => (X i).C)] := hp
    rcases List.mem_append.1 hp' with hp' | hp'
    · obtain ⟨k, a, b⟩ := h6 p hp'; exact ⟨k, by omega, b⟩
    · simp at hp'
      subst hp'
      exact ⟨i, by omega, e.symm, rfl⟩
/-- One of the writes tells what is there now. -/
def HitAt (U : Nat → Option (Nat → Nat)) (X : Nat → ActD) (i k : Nat) : Prop := (X k).I = (i : Int) ∧ (U i = none ∨ SameO (U i) (some fun _ => (X k).C))
theorem hit_some {T : Nat → Option (Nat → Nat)} {X : Nat → ActD} {m : Nat} {S : DS} (h : PInv T X m S) (cs : List Nat) (i : Nat) : SameO (T i) (upT S.T S.P cs i) ∨ ∃ k, k < m ∧ HitAt (upT S.T S.P cs) X i k := by
  obtain ⟨h1, h2, h3⟩ := h
  rcases upT_cases S.T S.P cs i with e | ⟨f, e1, e2⟩
  · left; rw [e, h2]; exact SameO.refl _
  · obtain ⟨k, a, b, c⟩ := h3 _ e1
    refine .inr ⟨k, a, b, ?_⟩
    rcases e2 with e2 | e2
    · exact .inl e2
    · right; rw [e2]; intro j _; exact congrFun c j
set_option maxRecDepth 20000 in
set_option maxHeartbeats 2000000 in
theorem diskStays_walk (A : Option Addr) (n cp : Nat) (fr : Nat → Nat) (B : Option Addr) (m dp : Nat) (X : Nat → ActD) (C : Option Addr) (l ep : Nat) (fc : Nat → Nat) (w : World)
    (hA : Rd .u8 w A n fr) (hfr : ∀ j, j < n → fr j < 256) (hX : Acts w B m X) (hC : Rd .u8 w C l fc) (hfc : ∀ j, j < l → fc j < 256) (hlc : l ≤ ep) :
    Calls Try.prog 4 #[.slice A n cp, .slice B m dp, .slice C l ep] w fun e w' => e = .returned (.bool true) ∧ Below w.heap.size w w' := by
  have HA := Lib.hid hA
  have HFR := Lib.hid hfr
  have HX := Lib.hid hX
  have HC := Lib.hid hC
  have HFC := Lib.hid hfc
  clear hX hA hfr hC hfc
  have HNEW := Lib.hid (fun (w1 : World) (hb : Below w.heap.size w w1) => held_new (w0 := w) (w := w1) 16 (by omega) (by omega) hb)
  by_cases hl : l ≤ 300
  · go_enter Try.func4, Try.ntmps4
    go_upto_block 0 with (first
      | (go_at_call 9; with_reducible refine (awake_any _).mono ?_; rintro e w1 ⟨rfl, hb1⟩)
      | (go_at_call 10; refine (HNEW.out _ hb1).mono ?_; rintro e w2 ⟨gd, rfl, h0⟩))
    go_cut [] (fun wx => ∃ S, Free 16 16 S ∧ Held w wx gd S fun _ => True)
    case first =>
      go_wp2
      go_loopw [9] (fun v wr => ∃ (i : Nat) (S : DS), i ≤ 16 ∧ v = .int .i64 i ∧ Free 16 i S ∧ Held w wr gd S fun _ => True) (fun v _ => 16 - (intOf v).toNat)
      case atStart => exact ⟨0, _, by omega, rfl, ⟨rfl, rfl, rfl, Nat.le_refl _⟩, h0⟩
      case round =>
        obtain ⟨i, S, hi, rfl, hfree, h1⟩ := hrel
        have HF := Lib.hid hfree
        clear hfree
        by_cases hlt : i < 16 ∧ i < n
        · obtain ⟨hl1, hl2⟩ := hlt
          obtain ⟨ad, rfl, hc⟩ := (HA.out.below h1.bel) i hl2
          have hv := HFR.out i hl2
          have HW := Lib.hid (free_step HF.out hl1 (fun _ => fr i))
          have HPL := Lib.hid (show S.P.length ≤ 1000000 from by have := HF.out.2.2.2; omega)
          go_wp2_with (first
            | (go_at_call 19; with_reducible refine (h1.rowI (fr i : Int) (by omega) (by omega) (fun _ => fr i) rfl).mono ?_; rintro e w3 ⟨a3, k3, rfl, h2⟩)
            | (go_at_call 18; with_reducible refine (h2.writeE (S' := S.wrote i fun _ => fr i) i 0 HW.out.1 HPL.out).mono ?_; rintro e w4 ⟨rfl, h3⟩))
          go_roundw
          case rel => exact ⟨i + 1, _, by omega, by go_num, HW.out.2, h3⟩
          case measure => simp [intOf]; omega
        · have hq : (¬ i < 16) ∨ (i < 16 ∧ ¬ i < n) := by omega
          clear hlt
          rcases hq with hq | ⟨hq, hq'⟩
          all_goals
            go_wp2
            go_meet
            exact ⟨S, ⟨HF.out.1, HF.out.2.1, HF.out.2.2.1, by have := HF.out.2.2.2; omega⟩, h1⟩
    case rest =>
      obtain ⟨S, hfree, h1⟩ := hcut
      have HF := Lib.hid hfree
      have HFL := Lib.hid (show S.flush = (S.flushed, 0) from flush_free HF.out.2.1 HF.out.2.2.1)
      have HFN := Lib.hid (show S.flushed.n = 16 from HF.out.1)
      have HP0 := Lib.hid (show PInv S.flushed.T X 0 S.flushed from ⟨⟨HF.out.1, HF.out.2.1, HF.out.2.2.1, Nat.le_refl _⟩, rfl, fun p hp => by cases hp⟩)
      clear hfree
      go_upto_block 2 with (first
        | (go_at_call 20; with_reducible refine (h1.flushE (S' := S.flushed) 0 HFL.out).mono ?_; rintro e w5 ⟨rfl, h2⟩)
        | (go_at_call 16; with_reducible refine (h2.imageX 16 S.flushed.T HFN.out rfl).mono ?_; rintro e w6 ⟨go, co, VO, rfl, h3⟩))
      generalize hT : S.flushed.T = T at *
      generalize S.flushed = SF at *
      go_cut [] (fun wx => ∃ S2, PInv T X (min m 20) S2 ∧ Held w wx gd S2 fun u => ImgX go co VO 16 T u)
      case first =>
        go_wp2
        go_loopw [11] (fun v wr => ∃ (i : Nat) (Z : DS), i ≤ min m 20 ∧ v = .int .i64 i ∧ PInv T X i Z ∧ Held w wr gd Z fun u => ImgX go co VO 16 T u) (fun v _ => 20 - (intOf v).toNat)
        case atStart => exact ⟨0, _, by omega, rfl, HP0.out, h3.imp fun _ h => h.2⟩
        case round =>
          obtain ⟨i, Z, hi, rfl, hinv, h4⟩ := hrel
          have HIV := Lib.hid hinv
          clear hinv
          by_cases hlt : i < m ∧ i < 20
          · obtain ⟨hl1, hl2⟩ := hlt
            obtain ⟨ad, rfl, hact⟩ := (HX.out.below h4.bel) i hl1
            have HAT := Lib.hid (fun (u : World) (hb : Below w.heap.size w u) => Acts.at_ (HX.out.below hb) hl1)
            have HST := Lib.hid (p_step HIV.out)
            have HPL := Lib.hid (show Z.P.length ≤ 1000000 from by have := HIV.out.1.2.2.2; omega)
            obtain ⟨act, hA⟩ : ∃ a, X i = a := ⟨_, rfl⟩
            rw [hA] at hact HAT HST
            clear hA
            obtain ⟨aK, xi, xc, xb, aA, an, ac, af⟩ := act
            obtain ⟨hb, _, x1, x2, _, _, g0, g1, g2, _⟩ := hact
            have x1' : wr.cell? ⟨(ad.add (i * 5)).block, (ad.add (i * 5)).off + 1, none⟩ = some (.int .i64 xi) := x1
            have x2' : wr.cell? ⟨(ad.add (i * 5)).block, (ad.add (i * 5)).off + 2, none⟩ = some (.int .u8 (xc : Nat)) := x2
            have hxc : xc < 256 := g2
            clear x1 x2 g2
            have HST' := Lib.hid (show PInv T X (i + 1) (Z.write xi fun _ => xc).1 from HST.out)
            have h4d := h4.drew
            go_wp2
            go_region_with (first
              | (go_at_call 19; refine (h4d.rowI (xc : Int) (by omega) (by omega) (fun _ => xc) rfl).mono ?_; rintro e w8 ⟨a8, k8, rfl, h5⟩
                 obtain ⟨hb8, _, y1, _⟩ := HAT.out w8 h5.bel
                 have y1' : w8.cell? ⟨(ad.add (i * 5)).block, (ad.add (i * 5)).off + 1, none⟩ = some (.int .i64 xi) := y1)
              | (go_at_call 18; with_reducible refine (h5.writeE (S' := (Z.write xi fun _ => xc).1) xi (Z.write xi fun _ => xc).2 rfl HPL.out).mono ?_; rintro e w9 ⟨rfl, h6⟩))
            all_goals
              go_wp2
              go_roundw
              case rel => exact ⟨i + 1, _, by omega, by go_num, HST'.out, h6⟩
              case measure => simp [intOf]; omega
          · have hq : (¬ i < m) ∨ (i < m ∧ ¬ i < 20) := by omega
            have hi2 : i = min m 20 := by omega
            have HIE := Lib.hid hi2
            clear hlt hi2
            rcases hq with hq | ⟨hq, hq'⟩
            all_goals
              go_wp2
              go_meet
              exact ⟨Z, by rw [← HIE.out]; exact HIV.out, h4⟩
      case rest =>
        obtain ⟨S2, hp, h4⟩ := hcut
        have HP := Lib.hid hp
        have HPL := Lib.hid (show S2.P.length ≤ 1000000 from by have := hp.1.2.2.2; omega)
        have HSN := Lib.hid (show (S2.up ((List.range l).map fc)).n = 16 from hp.1.1)
        have HHIT := Lib.hid (fun i => hit_some hp ((List.range l).map fc) i)
        obtain ⟨U, hU⟩ : ∃ U, upT S2.T S2.P ((List.range l).map fc) = U := ⟨_, rfl⟩
        rw [hU] at HHIT
        have HUT := Lib.hid (show (S2.up ((List.range l).map fc)).T = U from hU)
        clear hp hU
        go_wp2_with (first
          | (go_at_call 21; with_reducible refine (h4.upE (S' := S2.up ((List.range l).map fc)) HPL.out C l ep fc (HC.out.below h4.bel) HFC.out hlc (by omega) rfl).mono ?_; rintro e w7 ⟨rfl, h5⟩)
          | (go_at_call 16; with_reducible refine (h5.imageX 16 U HSN.out HUT.out).mono ?_; rintro e w8 ⟨gn, cn, VN, rfl, h6⟩))
        generalize S2.up ((List.range l).map fc) = SU at *
        go_loopw [13] (fun v wr => ∃ i : Nat, i ≤ 16 ∧ v = .int .i64 i ∧ Held w wr gd SU fun u => ImgX go co VO 16 T u ∧ ImgX gn cn VN 16 U u) (fun v _ => 16 - (intOf v).toNat)
        case atStart => exact ⟨0, by omega, rfl, h6⟩
        case round =>
          obtain ⟨i, hi, rfl, h7⟩ := hrel
          by_cases hlt : i < 16
          · have hs7 := h7.sat
            have hco := hs7.1.1
            have hcn := hs7.2.1
            have z1 := hs7.1.2.1.cell (i := i) (by omega)
            have z2 := hs7.2.2.1.cell (i := i) (by omega)
            have h7d := h7.drew
            clear hs7
            have HV1 := Lib.hid (show ∀ u, (ImgX go co VO 16 T u ∧ ImgX gn cn VN 16 U u) → SecO Any u (VO i) (T i) from fun _ h => h.1.2.2 i hlt)
            have HV2 := Lib.hid (show ∀ u, (ImgX go co VO 16 T u ∧ ImgX gn cn VN 16 U u) → SecO Any u (VN i) (U i) from fun _ h => h.2.2.2 i hlt)
            go_upto_region 23 with fail
            go_cut [14] (fun b wx => ∃ q : Bool, b = .bool q ∧ (q = true ↔ SameO (T i) (U i)) ∧ Held w wx gd SU fun u => ImgX go co VO 16 T u ∧ ImgX gn cn VN 16 U u)
            case first =>
              go_region_with (go_at_call 22; with_reducible refine (h7d.rowsQ HV1.out HV2.out).mono ?_; rintro e w9 ⟨q, rfl, hq, h8⟩)
              all_goals
                (try simp only [Act.put, List.setIfInBounds_toArray, List.set_cons_zero, List.set_cons_succ, List.getElem_toArray, List.getElem_cons_succ, List.getElem_cons_zero])
                go_wp2
                go_meet
                exact ⟨q, rfl, hq, h8⟩
            case rest =>
              obtain ⟨q, rfl, hq, h8⟩ := hcut
              have HQ := Lib.hid hq
              clear hq z1 z2 h7d
              go_upto_block 6 with fail
              go_cut [14] (fun b wx => b = .bool true ∧ Held w wx gd SU fun u => ImgX go co VO 16 T u ∧ ImgX gn cn VN 16 U u)
              case first =>
                go_wp2
                go_loopw [14, 15] (fun b v wq => ∃ (k : Nat) (q' : Bool), k ≤ min m 20 ∧ v = .int .i64 k ∧ b = .bool q' ∧ (q' = true ∨ (¬ SameO (T i) (U i) ∧ ∀ k', k' < k → ¬ HitAt U X i k')) ∧ Held w wq gd SU fun u => ImgX go co VO 16 T u ∧ ImgX gn cn VN 16 U u) (fun _ v _ => 20 - (intOf v).toNat)
                case atStart => exact ⟨0, q, by omega, rfl, rfl, by
                  cases q
                  · exact .inr ⟨fun h => by have := HQ.out.2 h; simp at this, fun k' hk' => absurd hk' (by omega)⟩
                  · exact .inl rfl, h8⟩
                case round =>
                  obtain ⟨k, q', hk, rfl, rfl, hor, h9⟩ := hrel
                  have HOR := Lib.hid hor
                  clear hor
                  by_cases hlt2 : k < m ∧ k < 20
                  · obtain ⟨hl1, hl2⟩ := hlt2
                    cases q'
                    · obtain ⟨ad, rfl, hact⟩ := (HX.out.below h9.bel) k hl1
                      have HAT := Lib.hid (fun (u : World) (hb : Below w.heap.size w u) => Acts.at_ (HX.out.below hb) hl1)
                      have HNO := Lib.hid (show ¬ SameO (T i) (U i) ∧ ∀ k', k' < k → ¬ HitAt U X i k' from by
                        rcases HOR.out with e | e
                        · cases e
                        · exact e)
                      have HHK := Lib.hid (show HitAt U X i k = ((X k).I = (i : Int) ∧ (U i = none ∨ SameO (U i) (some fun _ => (X k).C))) from rfl)
                      obtain ⟨act, hA⟩ : ∃ a, X k = a := ⟨_, rfl⟩
                      rw [hA] at hact HAT HHK
                      clear hA
                      obtain ⟨aK, xi, xc, xb, aA, an, ac, af⟩ := act
                      obtain ⟨hb, _, x1, x2, _, _, g0, g1, g2, _⟩ := hact
                      have x1' : wr.cell? ⟨(ad.add (k * 5)).block, (ad.add (k * 5)).off + 1, none⟩ = some (.int .i64 xi) := x1
                      have x2' : wr.cell? ⟨(ad.add (k * 5)).block, (ad.add (k * 5)).off + 2, none⟩ = some (.int .u8 (xc : Nat)) := x2
                      have hxc : xc < 256 := g2
                      have HHK2 := Lib.hid (show HitAt U X i k = (xi = (i : Int) ∧ (U i = none ∨ SameO (U i) (some fun _ => xc))) from HHK.out)
                      have z2 := h9.sat.2.2.1.cell (i := i) (by omega)
                      clear x1 x2 g2
                      by_cases hxi : xi = (i : Int)
                      · subst hxi
                        cases hUi : U i with
                        | none =>
                          have hv : VN i = .slice none 0 0 := by
                            have := HV2.out _ h9.sat
                            rw [hUi] at this
                            exact this
                          rw [hv] at z2
                          clear hv hUi
                          go_wp2
                          go_quiet (fail)
                          go_wp2
                          go_roundw
                          case rel => exact ⟨k + 1, true, by omega, by go_num, rfl, .inl rfl, h9.drewN _⟩
                          case measure => simp [intOf]; omega
                        | some g =>
                          have HVS := Lib.hid (show ∀ u, (ImgX go co VO 16 T u ∧ ImgX gn cn VN 16 U u) → SecO Any u (VN i) (some g) from fun u hu => by have := HV2.out u hu; rwa [hUi] at this)
                          have HHK3 := Lib.hid (show SameO (some g) (some fun _ => xc) ↔ HitAt U X i k from by rw [HHK2.out, hUi]; exact ⟨fun h => ⟨rfl, .inr h⟩, fun h => by rcases h.2 with e | e; cases e; exact e⟩)
                          obtain ⟨gg, oo, c6, hv, _⟩ := HVS.out _ h9.sat
                          rw [hv] at z2 HVS
                          have h9d := h9.drew
                          have HVN := Lib.hid hv
                          have HNO2 := Lib.hid (show ¬ SameO (T i) (some g) from by rw [← hUi]; exact HNO.out.1)
                          clear hUi hv
                          go_wp2
                          have HK := Lib.hid (show ∀ (w' : World) (Ψ : World → Prop), (∀ v, Ψ v → ImgX gn cn VN 16 U v) → Held w w' gd SU Ψ → (w'.cell? ⟨gn, i, none⟩ = some (.slice (some ⟨gg, oo, none⟩) 64 c6) ∧ w'.cell? ⟨(ad.add (k * 5)).block, (ad.add (k * 5)).off + 1, none⟩ = some (.int .i64 (i : Int)) ∧ w'.cell? ⟨(ad.add (k * 5)).block, (ad.add (k * 5)).off + 2, none⟩ = some (.int .u8 (xc : Nat))) from fun u Ψ hp hh => by
                            obtain ⟨_, _, y1, y2, _⟩ := HAT.out u hh.bel
                            have z3 := (hp u hh.sat).2.1.cell (i := i) (by omega)
                            rw [HVN.out] at z3
                            exact ⟨z3, y1, y2⟩)
                          go_region_held3 (fun w' => w'.cell? ⟨gn, i, none⟩ = some (.slice (some ⟨gg, oo, none⟩) 64 c6) ∧ w'.cell? ⟨(ad.add (k * 5)).block, (ad.add (k * 5)).off + 1, none⟩ = some (.int .i64 (i : Int)) ∧ w'.cell? ⟨(ad.add (k * 5)).block, (ad.add (k * 5)).off + 2, none⟩ = some (.int .u8 (xc : Nat))) (first | exact HK.out _ _ (fun _ h => h.2) h9 | exact HK.out _ _ (fun _ h => h.2) h9d | exact HK.out _ _ (fun _ h => h.1.2) h10 | exact HK.out _ _ (fun _ h => h.1.2) h11 | trivial | go_keep)
                            (first
                              | (go_at_call 19; ((with_reducible refine Calls.mono (h9d.rowI (xc : Int) (by omega) (by omega) (fun _ => xc) rfl) ?_)); rintro e w10 ⟨a10, k10, rfl, h10⟩)
                              | (go_at_call 22; ((with_reducible refine Calls.mono (h10.rowsQS (s := some g) (g := fun _ => xc) (fun u h => HVS.out u h.1) (fun _ h => h.2)) ?_)); rintro e w11 ⟨q2, rfl, hq2, h11⟩))
                          all_goals
                            have HQ2 := Lib.hid (hq2.trans HHK3.out)
                            clear hq2
                            go_wp2
                            go_roundw
                            case rel => exact ⟨k + 1, q2, by omega, by go_num, rfl, by
                              cases q2
                              · refine .inr ⟨HNO2.out, fun k' hk' => ?_⟩
                                by_cases e : k' = k
                                · subst e; intro h; have := HQ2.out.2 h; simp at this
                                · exact HNO.out.2 k' (by omega)
                              · exact .inl rfl, h11.imp fun _ h => h.1⟩
                            case measure => simp [intOf]; omega
                      · have hne : (xi == (i : Int)) = false := by rw [beq_eq_false_iff_ne]; exact hxi
                        have HNX := Lib.hid hxi
                        clear hxi
                        go_wp2
                        go_quiet (fail)
                        go_wp2
                        go_roundw
                        case rel => exact ⟨k + 1, false, by omega, by go_num, rfl, .inr ⟨HNO.out.1, fun k' hk' => by
                          by_cases e : k' = k
                          · subst e; rw [HHK2.out]; exact fun h => HNX.out h.1
                          · exact HNO.out.2 k' (by omega)⟩, h9.drewN _⟩
                        case measure => simp [intOf]; omega
                    · go_wp2
                      go_quiet (fail)
                      go_wp2
                      go_roundw
                      case rel => exact ⟨k + 1, true, by omega, by go_num, rfl, .inl rfl, h9.drewN _⟩
                      case measure => simp [intOf]; omega
                  · have hq : (¬ k < m) ∨ (k < m ∧ ¬ k < 20) := by omega
                    have hk2 : k = min m 20 := by omega
                    have hb : q' = true := by
                      rcases HOR.out with e | ⟨e1, e2⟩
                      · exact e
                      · rcases HHIT.out i with h | ⟨k', a, b⟩
                        · exact absurd h e1
                        · exact absurd b (e2 k' (by omega))
                    subst hb
                    clear hlt2 hk2
                    rcases hq with hq | ⟨hq, hq'⟩
                    all_goals
                      go_wp2
                      go_meet
                      exact ⟨rfl, h9⟩
              case rest =>
                obtain ⟨rfl, h9⟩ := hcut
                go_wp2
                go_roundw
                case rel => exact ⟨i + 1, by omega, by go_num, h9⟩
                case measure => simp [intOf]; omega
          · obtain rfl : i = 16 := by omega
            go_wp2
            go_ret
            exact ⟨rfl, h7.bel⟩
  · have hl2 : (300 : Int) < (l : Int) := by omega
    go_enter Try.func4, Try.ntmps4
    go_wp2_with (first
      | (go_at_call 9; with_reducible refine (awake_any _).mono ?_; rintro e w1 ⟨rfl, hb1⟩)
      | (go_at_call 10; refine (HNEW.out _ hb1).mono ?_; rintro e w2 ⟨gd, rfl, h0⟩))
    go_ret
    exact ⟨rfl, h0.bel⟩
end Go.Proofs.Ytldbnlmimjamnaa
