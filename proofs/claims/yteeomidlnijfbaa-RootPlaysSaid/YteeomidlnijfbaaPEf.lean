/- Contracts: the document's Flush, Up. -/
import Derived.Test.YteeomidlnijfbaaPEe
namespace Go.Proofs.Yteeomidlnijfbaa
open Go.RowKit

section
variable {G : Nat → Prop} {w w' : World} {g gB cB gX : Nat} {vA vN : Value} {ys : List Value} {VB : Nat → Value} {X : Nat → Bool} {stop begun stop' begun' : Int} {t t' : Nat} {S S' : DS}
theorem rflush_gone (h : Rk G w g gB cB gX vA vN ys VB X stop begun t S) (hg : S.gone = true) :
    Calls Try.prog 53 #[.pointer (some ⟨g, 0, none⟩)] w fun e w' => e = .returned (.int .i64 4) ∧ w = w' := by
  obtain ⟨c0, c1, c2, c3, c4, c5, c6⟩ := dvr7 h.box
  rw [hg] at c4
  clear h hg
  go_enter Try.func53, Try.ntmps53
  go_wp2
  go_ret
  exact ⟨rfl, rfl⟩
theorem rflush_stop (h : Rk G w g gB cB gX vA vN ys VB X stop begun t S) (hg : S.gone = false) (hk : S.ok = false) (ht : t ≤ 1000000) :
    Calls Try.prog 53 #[.pointer (some ⟨g, 0, none⟩)] w fun e w' => e = .returned (.int .i64 4) ∧ RPost G w w' g (t + 1) S.begun := by
  obtain ⟨c0, c1, c2, c3, c4, c5, c6⟩ := dvr7 h.box
  rw [hg] at c4
  have HG := Lib.hid (goes_any h hg ht)
  rw [hk] at HG
  clear h hg hk
  go_enter Try.func53, Try.ntmps53
  go_wp2_with (go_at_call 55; refine HG.out.mono ?_; rintro e w' ⟨rfl, hd, ho⟩; have HD := Lib.hid hd; have HO := Lib.hid ho; clear hd ho)
  go_ret
  exact ⟨rfl, .box HD.out HO.out⟩
theorem begun_P (S : DS) : S.begun.n = S.n ∧ S.begun.P = S.P ∧ S.begun.T = S.T := by unfold DS.begun; split; exact ⟨rfl, rfl, rfl⟩; split <;> exact ⟨rfl, rfl, rfl⟩
theorem RPost.blocks (h : Rk G w g gB cB gX vA vN ys VB X stop begun t S) {vA' vN' : Value} {ys' : List Value} {VB' : Nat → Value} {X' : Nat → Bool} (h' : Rk G w' g gB cB gX vA' vN' ys' VB' X' stop' begun' t' S') (ho : Only (fun j => j = g ∨ j = gB ∨ j = gX) w w') : RPost G w w' g t' S' :=
  ⟨G, ⟨_, _, _, _, _, _, _, _, _, _, h'⟩, ho.mono (by rintro k (rfl | rfl | rfl); exact h.gg.1; exact h.gg.2.1; exact h.gg.2.2), fun _ hk => .inl hk⟩
theorem rflush_ok (h : Rk G w g gB cB gX vA vN ys VB X stop begun t S) (hg : S.gone = false) (hk : S.ok = true) (ht : t ≤ 1000000) (hP : S.P.length ≤ 1000000) :
    Calls Try.prog 53 #[.pointer (some ⟨g, 0, none⟩)] w fun e w' => e = .returned (.int .i64 0) ∧ RPost G w w' g (t + 1) S.begun.flushed := by
  obtain ⟨c0, c1, c2, c3, c4, c5, c6⟩ := dvr7 h.box
  rw [hg] at c4
  have HG := Lib.hid (goes_any h hg ht)
  rw [hk] at HG
  have HH := Lib.hid h
  have HPL := Lib.hid (show S.begun.P.length ≤ 1000000 by rw [(begun_P S).2.1]; exact hP)
  clear h hg hk hP
  go_enter Try.func53, Try.ntmps53
  go_wp2_with (first
    | (go_at_call 55; refine HG.out.mono ?_; rintro e w1 ⟨rfl, hd, ho⟩; have HD := Lib.hid hd; have HO := Lib.hid ho; clear hd ho)
    | (go_at_call 56; refine (lay_any HD.out HPL.out true none 0 0 (fun _ => 0) Rd.zero (fun _ _ => by decide) (fun ad e => by cases e)).mono ?_; rintro e w2 ⟨rfl, V, Y, hd2, ho2⟩; have HD2 := Lib.hid hd2; have HO2 := Lib.hid ho2; clear hd2 ho2))
  go_ret
  exact ⟨rfl, .blocks HH.out (S' := S.begun.flushed) HD2.out ((HO.out.mono fun k e => .inl e).trans HO2.out)⟩
theorem rflush_any (h : RAt G w g t S) (ht : t ≤ 1000000) (hP : S.P.length ≤ 1000000) :
    Calls Try.prog 53 #[.pointer (some ⟨g, 0, none⟩)] w fun e w' => e = .returned (.int .i64 S.flush.2) ∧ RPost G w w' g (t + 1) S.flush.1 := by
  obtain ⟨gB, cB, gX, vA, vN, ys, VB, X, stop, begun, hd⟩ := h
  unfold DS.flush
  cases hg : S.gone
  case true =>
    refine (rflush_gone hd hg).mono ?_
    rintro e w' ⟨rfl, rfl⟩
    exact ⟨rfl, .stay hd (by omega)⟩
  case false =>
    cases hk : S.ok
    case false =>
      refine (rflush_stop hd hg hk ht).mono ?_
      rintro e w' ⟨rfl, a1⟩
      exact ⟨rfl, a1⟩
    case true =>
      refine (rflush_ok hd hg hk ht hP).mono ?_
      rintro e w' ⟨rfl, a1⟩
      exact ⟨rfl, a1⟩
theorem rwrite_any (h : RAt G w g t S) (ht : t ≤ 1000000) (hP : S.P.length ≤ 1000000) (i : Int) {a : Option Addr} {c : Nat} {f : Nat → Nat} (hv : ∀ w1, Only G w w1 → Sec (fun _ => True) w1 (.slice a 64 c) f) :
    Calls Try.prog 28 #[.pointer (some ⟨g, 0, none⟩), .int .i64 i, .slice a 64 c] w fun e w' => e = .returned (.int .i64 (S.write i f).2) ∧ RPost G w w' g (t + 1) (S.write i f).1 := by
  obtain ⟨gB, cB, gX, vA, vN, ys, VB, X, stop, begun, hd⟩ := h
  unfold DS.write
  cases hg : S.gone
  case true =>
    refine (rwrite_gone hd hg i _).mono ?_
    rintro e w' ⟨rfl, rfl⟩
    exact ⟨rfl, .stay hd (by omega)⟩
  case false =>
    cases hi : hasB S.n i
    case false =>
      refine (rwrite_bad hd hg i a 64 c (.inl hi)).mono ?_
      rintro e w' ⟨rfl, rfl⟩
      exact ⟨rfl, .stay hd (by omega)⟩
    case true =>
      obtain ⟨i0, i1⟩ := hasB_true hi
      obtain ⟨j, rfl⟩ : ∃ j : Nat, i = j := ⟨i.toNat, by omega⟩
      cases hk : S.ok
      case false =>
        refine (rwrite_stop hd hg hk ht j (by omega) a c).mono ?_
        rintro e w' ⟨rfl, a1⟩
        exact ⟨rfl, a1⟩
      case true =>
        refine (rwrite_ok hd hg hk ht hP j (by omega) hv).mono ?_
        rintro e w' ⟨rfl, a1⟩
        exact ⟨rfl, a1⟩
theorem rup_any (h : RAt G w g t S) (hP : S.P.length ≤ 1000000) (C : Option Addr) (n c : Nat) (f : Nat → Nat) (hr : Rd .u8 w C n f) (hf : ∀ j, j < n → f j < 256) (hC : ∀ ad, C = some ad → 0 < n → ¬ G ad.block) :
    Calls Try.prog 30 #[.pointer (some ⟨g, 0, none⟩), .slice C n c] w fun e w' => e = .returned (.tuple #[]) ∧ RPost G w w' g t (S.up ((List.range n).map f)) := by
  obtain ⟨gB, cB, gX, vA, vN, ys, VB, X, stop, begun, hd⟩ := h
  have HH := Lib.hid hd
  have HL := Lib.hid (lay_any hd hP false C n c f hr hf fun ad e hn => ⟨fun e2 => hC ad e hn (e2 ▸ hd.gg.2.1), fun e2 => hC ad e hn (e2 ▸ hd.gg.2.2)⟩)
  clear hd hr hf hC hP
  go_enter Try.func30, Try.ntmps30
  go_wp2_with (
    go_at_call 56; refine HL.out.mono ?_; rintro e w2 ⟨rfl, V, Y, hd2, ho2⟩
    have hb := hd2.box
    have HB := Lib.hid hb
    have HD2 := Lib.hid hd2; have HO2 := Lib.hid ho2
    obtain ⟨c0, c1, c2, c3, c4, c5, c6⟩ := dvr7 hb
    have z4 := hb.frozen 4
    have z5 := hb.frozen 5
    have z6 := hb.frozen 6
    clear hd2 ho2 hb)
  go_end0
  have ho := only_box (only_box (only_box (Only.refl (F := (· = g)) (w := w2)) 4 (.bool false)) 5 (.int .i64 0)) 6 (.int .i64 0)
  refine ⟨rfl, .blocks HH.out (HD2.out.flags (S' := S.up ((List.range n).map f)) (stop' := 0) (begun' := 0) ⟨rfl, rfl, rfl⟩ (fun _ => .inl ⟨rfl, by omega⟩) ⟨by omega, by omega⟩ ⟨by omega, by omega⟩ (d7_6 (d7_5 (d7_4 HB.out _) _) _) ho) (HO2.out.trans (ho.mono fun k e => .inl e))⟩
theorem rplan_at (h : RAt G w g t S) (k : Int) (hk : k ≤ 9223372036854775807 ∧ -9223372036854775808 ≤ k) :
    Calls Try.prog 29 #[.pointer (some ⟨g, 0, none⟩), .int .i64 k] w fun e w' => e = .returned (.tuple #[]) ∧ RPost G w w' g t (S.plan k) := by
  obtain ⟨gB, cB, gX, vA, vN, ys, VB, X, stop, begun, hd⟩ := h
  refine (rplan_any hd k hk).mono ?_
  rintro e w' ⟨rfl, a, b⟩
  exact ⟨rfl, .box a b⟩
end
end Go.Proofs.Yteeomidlnijfbaa
