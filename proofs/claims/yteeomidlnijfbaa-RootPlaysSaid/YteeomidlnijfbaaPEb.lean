/- Contract: the document's Read. -/
import Derived.Test.YteeomidlnijfbaaPEa
namespace Go.Proofs.Yteeomidlnijfbaa
open Go.RowKit

theorem layT_none {i : Nat} : ∀ (P : List (Nat × (Nat → Nat))) (T : Nat → Option (Nat → Nat)), (∀ q, q ∈ P → q.1 ≠ i) → layT T P i = T i
  | [], _, _ => rfl
  | q :: P, T, h => by
    show layT (setT T q.1 (some q.2)) P i = T i
    rw [layT_none P _ fun r hr => h r (by simp [hr])]
    have := h q (by simp)
    show (if i = q.1 then _ else _) = _
    rw [if_neg (fun e => this e.symm)]
theorem layT_last {i : Nat} : ∀ (P : List (Nat × (Nat → Nat))) (T : Nat → Option (Nat → Nat)) (k : Nat) (p : Nat × (Nat → Nat)), P[k]? = some p → p.1 = i → (∀ j q, k < j → P[j]? = some q → q.1 ≠ i) → layT T P i = some p.2
  | [], _, k, p, h, _, _ => by simp at h
  | q :: P, T, 0, p, h, hp, hq => by
    simp at h
    subst h
    show layT (setT T q.1 (some q.2)) P i = some q.2
    rw [layT_none P _ fun r hr => by
      obtain ⟨j, hj⟩ := List.getElem?_of_mem hr
      exact hq (j + 1) r (by omega) (by simpa using hj)]
    simp [setT, hp]
  | q :: P, T, k + 1, p, h, hp, hq =>
    layT_last P (setT T q.1 (some q.2)) k p (by simpa using h) hp fun j r hj hr => hq (j + 1) r (by omega) (by simpa using hr)
section
variable {G : Nat → Prop} {w w' : World} {g gB cB gX : Nat} {vA vN : Value} {ys : List Value} {VB : Nat → Value} {X : Nat → Bool} {stop begun stop' begun' : Int} {t t' : Nat} {S S' : DS}
theorem own_shape {w : World} {base : Nat} {e : TypeId} {size : Nat} {v : Value} {n : Nat} {xs : List Value} (h : w.ownsRow base e size v n xs) : ∃ a c, v = .slice a n c := by
  rcases h.2 with ⟨e, e2⟩ | ⟨g, c, cur, e, _⟩
  · exact ⟨_, _, by rw [e, e2]⟩
  · exact ⟨_, _, e⟩
def RRead (S : DS) (w w' : World) (e : Ending) (i : Int) : Prop := ∃ a n c, e = .returned (.tuple #[.slice a n c, .int .i64 (S.read i).2]) ∧ SecO Any w' (.slice a n c) (S.read i).1 ∧ w = w'
set_option maxRecDepth 100000 in
set_option maxHeartbeats 1000000 in
theorem rread_any (h : Rk G w g gB cB gX vA vN ys VB X stop begun t S) (i : Int) (hP : S.P.length ≤ 1000000) :
    Calls Try.prog 59 #[.pointer (some ⟨g, 0, none⟩), .int .i64 i] w fun e w' => RRead S w w' e i := by
  obtain ⟨aA, cA, rfl⟩ := own_shape h.oA
  obtain ⟨aN, cN, rfl⟩ := own_shape h.oN
  obtain ⟨c0, c1, c2, c3, c4, c5, c6⟩ := dvr7 h.box
  cases hg : S.gone
  case true =>
    rw [hg] at c4
    have HP := Lib.hid (show RRead S w w (.returned (.tuple #[.slice none 0 0, .int .i64 4])) i from ⟨none, 0, 0, by simp [DS.read, hg], by simp [DS.read, hg, SecO], rfl⟩)
    clear h hg
    go_enter Try.func59, Try.ntmps59
    go_wp2
    go_ret2
    exact HP.out
  case false =>
    rw [hg] at c4
    cases hh : hasB S.n i
    case false =>
      have HP := Lib.hid (show RRead S w w (.returned (.tuple #[.slice none 0 0, .int .i64 1])) i from ⟨none, 0, 0, by simp [DS.read, hg, hh], by simp [DS.read, hg, hh, SecO], rfl⟩)
      have hcase : i < 0 ∨ (¬ i < 0 ∧ (S.n : Int) ≤ i) := by
        by_cases h0 : i < 0
        · exact .inl h0
        · refine .inr ⟨h0, ?_⟩
          simp only [hasB, decide_eq_false_iff_not] at hh
          omega
      clear h hg hh
      rcases hcase with h0 | ⟨h0, h1⟩
      · go_enter Try.func59, Try.ntmps59
        go_wp2
        go_ret2
        exact HP.out
      · have d0 : decide (i < 0) = false := by rw [decide_eq_false_iff_not]; exact h0
        go_enter Try.func59, Try.ntmps59
        go_wp2
        go_ret2
        exact HP.out
    case true =>
      obtain ⟨i0, i1⟩ := hasB_true hh
      obtain ⟨j, rfl⟩ : ∃ j : Nat, i = j := ⟨i.toNat, by omega⟩
      have hjn : j < S.n := by omega
      have d0 : decide ((j : Int) < 0) = false := by rw [decide_eq_false_iff_not]; omega
      have d1 : decide ((S.n : Int) ≤ (j : Int)) = false := by rw [decide_eq_false_iff_not]; omega
      have HH := Lib.hid h
      have HRD := Lib.hid (show S.read (j : Int) = (match S.seen j with | none => (none, 6) | some f => (some f, 0)) from by unfold DS.read; rw [if_neg (by rw [hg]; simp), if_pos hh, Int.toNat_natCast]; rfl)
      have hnB := h.nB
      clear h hg hh
      go_enter Try.func59, Try.ntmps59
      go_wp2
      go_loopw [6] (fun v wr => ∃ k : Nat, k ≤ S.P.length ∧ v = .int .i64 ((k : Int) - 1) ∧ (∀ y q, k ≤ y → S.P[y]? = some q → q.1 ≠ j) ∧ w = wr) (fun v _ => (intOf v + 1).toNat)
      case atStart => exact ⟨S.P.length, Nat.le_refl _, rfl, fun y q hy hq => by
        have := (List.getElem?_eq_some_iff.1 hq).1
        omega, rfl⟩
      case round =>
        obtain ⟨k, hk, rfl, hno, rfl⟩ := hrel
        have HNO := Lib.hid hno
        clear hno
        by_cases hk0 : 0 < k
        · obtain ⟨p, hp⟩ : ∃ p, S.P[k - 1]? = some p := ⟨_, List.getElem?_eq_getElem (by omega)⟩
          obtain ⟨hpn, v, hv, hsec⟩ := HH.out.hP (k - 1) p hp
          obtain ⟨ga, ca, ea⟩ := own_some HH.out.oA (by omega)
          obtain ⟨gn, cn, en⟩ := own_some HH.out.oN (by omega)
          injection ea with ea1 ea2 ea3
          injection en with en1 en2 en3
          subst ea1 ea3 en1 en3
          have y1 := World.ownsRow.cellAt HH.out.oA (k - 1) (by omega)
          have y2 := World.ownsRow.cellAt HH.out.oN (k - 1) (by omega)
          have e1 : (PendI S.P)[k - 1]? = some (.int .i64 (p.1 : Nat)) := by unfold PendI; rw [List.getElem?_map, hp]; rfl
          rw [e1] at y1
          rw [hv] at y2
          have ek : ((k : Int) - 1).toNat = k - 1 := by omega
          have b0 : (0 : Int) ≤ (k : Int) - 1 := by omega
          have b1 : (k : Int) - 1 < (S.P.length : Int) := by omega
          have HSC := Lib.hid hsec
          have HPK := Lib.hid hp
          clear hp hv hsec e1 ea2 en2 hpn
          by_cases hpj : p.1 = j
          · have HF := Lib.hid (show S.seen j = some p.2 from layT_last S.P S.T (k - 1) p HPK.out hpj fun y q hy hq => HNO.out y q (by omega) hq)
            obtain ⟨va, vn, vc, rfl⟩ := SecO.form (s := some p.2) HSC.out
            have hpe : ((p.1 : Int) == (j : Int)) = true := by rw [beq_iff_eq]; omega
            have HPT := Lib.hid (show RRead S w w (.returned (.tuple #[.slice va vn vc, .int .i64 0])) j from ⟨va, vn, vc, by rw [HRD.out, HF.out], by rw [HRD.out, HF.out]; exact Sec.keep HSC.out (fun _ _ _ => rfl) (fun _ _ _ => trivial), rfl⟩)
            clear hpj
            go_wp2
            go_ret2
            exact HPT.out
          · have hpe : ((p.1 : Int) == (j : Int)) = false := by rw [beq_eq_false_iff_ne]; omega
            have HPJ := Lib.hid hpj
            clear hpj
            go_wp2
            go_roundw
            case rel => exact ⟨k - 1, by omega, by
              have : ((k - 1 : Nat) : Int) - 1 = (k : Int) - 1 - 1 := by omega
              rw [this], fun y q hy hq => by
              by_cases e : y = k - 1
              · subst e; rw [HPK.out] at hq; injection hq with hq; subst hq; exact HPJ.out
              · exact HNO.out y q (by omega) hq, trivial⟩
            case measure => simp [intOf]; omega
        · obtain rfl : k = 0 := by omega
          have HSE := Lib.hid (show S.seen j = S.T j from layT_none S.P S.T fun q hq => by
            obtain ⟨y, hy⟩ := List.getElem?_of_mem hq
            exact HNO.out y q (Nat.zero_le _) hy)
          have x1 := HH.out.rX.cell (i := j) hjn
          have x2 := HH.out.rB.cell (i := j) (by omega)
          have hT := HH.out.hT j hjn
          cases hTj : S.T j with
          | none =>
            rw [hTj] at hT
            rw [hT.1] at x1
            have HPT := Lib.hid (show RRead S w w (.returned (.tuple #[.slice none 0 0, .int .i64 6])) j from ⟨none, 0, 0, by rw [HRD.out, HSE.out, hTj], by rw [HRD.out, HSE.out, hTj]; rfl, rfl⟩)
            clear hT hTj
            go_wp2
            go_ret2
            exact HPT.out
          | some f =>
            rw [hTj] at hT
            rw [hT.1] at x1
            obtain ⟨va, vn, vc, hv⟩ := SecO.form (s := some f) hT.2
            have HPT := Lib.hid (show RRead S w w (.returned (.tuple #[.slice va vn vc, .int .i64 0])) j from ⟨va, vn, vc, by rw [HRD.out, HSE.out, hTj], by rw [HRD.out, HSE.out, hTj, ← hv]; exact Sec.keep hT.2 (fun _ _ _ => rfl) (fun _ _ _ => trivial), rfl⟩)
            rw [hv] at x2
            clear hT hTj hv
            go_wp2
            go_ret2
            exact HPT.out
end
end Go.Proofs.Yteeomidlnijfbaa
