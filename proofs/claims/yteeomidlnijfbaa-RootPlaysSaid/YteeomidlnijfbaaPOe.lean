/- Contract: Save. -/
import Derived.Test.YteeomidlnijfbaaPOd
namespace Go.Proofs.Yteeomidlnijfbaa
open Go.RowKit
set_option linter.unusedSimpArgs false
set_option linter.unusedVariables false

section
variable {F : Nat → Prop} {w w' : World} {gd : Nat} {S : DS}
/-- Bytes aren't in the disk's own block. -/
theorem Dk.secR {gt gs ct cs : Nat} {vp : Value} {xs : List Value} {VT VS : Nat → Value} (h : Dk F w gd gt gs ct cs vp xs VT VS S) {a : Option Addr} {c : Nat} {f : Nat → Nat} (hv : Byt w (.slice a 64 c) 64 f) {w1 : World} (ho : Only (· = gd) w w1) : Sec (fun _ => True) w1 (.slice a 64 c) f := by
  obtain ⟨A, c', e, hc, hr, hf⟩ := hv
  cases e
  obtain ⟨ad, rfl, hl⟩ := hr.some_ (by omega)
  obtain ⟨b, o, sp⟩ := ad
  have h0 : w.cell? ⟨b, o, sp⟩ = some (.int .u8 (f 0 : Nat)) := hr.at_ (j := 0) (by omega)
  cases sp with
  | some x =>
    rw [World.cell?] at h0
    split at h0
    · simp at h0
    · cases h0
  | none =>
    have hne : b ≠ gd := fun e => by
      subst e
      obtain ⟨cs, hcs, hsz, hget⟩ := h.box
      rw [cell_of_row _ _ o cs _ _ hcs] at h0
      by_cases hj : o < 5
      · rw [hget o hj] at h0
        rcases (by omega : o = 0 ∨ o = 1 ∨ o = 2 ∨ o = 3 ∨ o = 4) with rfl | rfl | rfl | rfl | rfl <;> simp [dv] at h0
        rcases h.pe.2 with ⟨hvp, _⟩ | ⟨g, c, cur, hvp, _⟩ <;> rw [hvp] at h0 <;> cases h0
      · rw [Array.getElem?_eq_none (by omega)] at h0
        cases h0
    refine ⟨b, o, c, rfl, hc, trivial, fun j hj => ?_, hf⟩
    have h1 := hr.at_ hj
    rw [add_mk] at h1
    exact (World.cell?_of_block (ho.block b hl hne)).trans h1
theorem owrite_any (hF : DskAt F w gd S) (hP : S.P.length ≤ 1000000) (i : Int) {a : Option Addr} {c : Nat} {f : Nat → Nat} (hv : Byt w (.slice a 64 c) 64 f) :
    Calls Try.prog 22 #[.pointer (some ⟨gd, 0, none⟩), .int .i64 i, .slice a 64 c] w fun e w' => e = .returned (.int .i64 (S.write i f).2) ∧ DPost F w w' gd (S.write i f).1 := by
  obtain ⟨gt, gs, ct, cs, vp, xs, VT, VS, hd⟩ := id hF
  unfold DS.write
  cases hg : S.gone
  case true =>
    refine (write_gone hd hg i _).mono ?_
    rintro e w' ⟨rfl, rfl⟩
    exact ⟨rfl, .stay hF⟩
  case false =>
    cases hi : hasB S.n i
    case false =>
      refine (write_bad hd hg i a 64 c (.inl hi)).mono ?_
      rintro e w' ⟨rfl, rfl⟩
      exact ⟨rfl, .stay hF⟩
    case true =>
      cases hk : S.ok
      case false =>
        refine (write_stop hd hg hk i hi a c).mono ?_
        rintro e w' ⟨rfl, a1, a2⟩
        exact ⟨rfl, .box a1 a2⟩
      case true =>
        obtain ⟨i0, i1⟩ := hasB_true hi
        have := write_ok hd hg hk i.toNat (by omega) hP (a := a) (c := c) (f := f) fun w1 ho => hd.secR hv ho
        rw [Int.toNat_of_nonneg i0] at this
        refine this.mono ?_
        rintro e w' ⟨rfl, a1⟩
        exact ⟨rfl, a1⟩
theorem oflush_any (hF : DskAt F w gd S) :
    Calls Try.prog 35 #[.pointer (some ⟨gd, 0, none⟩)] w fun e w' => e = .returned (.int .i64 S.flush.2) ∧ DPost F w w' gd S.flush.1 := by
  obtain ⟨gt, gs, ct, cs, vp, xs, VT, VS, hd⟩ := id hF
  unfold DS.flush
  cases hg : S.gone
  case true =>
    refine (flush_gone hd hg).mono ?_
    rintro e w' ⟨rfl, rfl⟩
    exact ⟨rfl, .stay hF⟩
  case false =>
    cases hk : S.ok
    case false =>
      refine (flush_stop hd hg hk).mono ?_
      rintro e w' ⟨rfl, a1, a2⟩
      exact ⟨rfl, .box a1 a2⟩
    case true =>
      refine (flush_ok hd hg hk).mono ?_
      rintro e w' ⟨rfl, a1⟩
      exact ⟨rfl, a1⟩
/-- One thing is done behind the other. -/
theorem DPost.then {w1 w2 : World} {F1 : Nat → Prop} {S2 : DS} (ho : Only F w w1) (hF : ∀ k, F1 k → F k ∨ w.heap.size ≤ k) (h : DPost F1 w1 w2 gd S2) : DPost F w w2 gd S2 := by
  obtain ⟨F2, h1, h2, h3⟩ := h
  refine ⟨F2, h1, ho.then h2 hF, fun k hk => ?_⟩
  rcases h3 k hk with e | e
  · exact hF k e
  · exact .inr (Nat.le_trans ho.size e)
end
/-- What Save makes of a disk, and says. -/
def DS.save (S : DS) (g : Nat) : DS × Int := if S.n < 2 ∨ g = 0 then (S, 1) else if (S.write ((g % 2 : Nat) : Int) (rootF g)).2 = 0 then (S.write ((g % 2 : Nat) : Int) (rootF g)).1.flush else S.write ((g % 2 : Nat) : Int) (rootF g)
def SavePost (F : Nat → Prop) (w w' : World) (e : Ending) (gd : Nat) (S : DS) (g : Nat) : Prop := e = .returned (.int .i64 (S.save g).2) ∧ DPost F w w' gd (S.save g).1
set_option maxRecDepth 100000 in
set_option maxHeartbeats 2000000 in
theorem save_any {F : Nat → Prop} {w : World} {gd : Nat} {S : DS} (hF : DskAt F w gd S) (hP : S.P.length ≤ 900000) (g : Nat) (hg : g < 4294967296) : Calls Try.prog 25 #[.pointer (some ⟨gd, 0, none⟩), .int .u32 (g : Nat)] w fun e w' => SavePost F w w' e gd S g := by
  have HSC := Lib.hid (osectors_any hF)
  have hgI : (g : Int) < 4294967296 := by omega
  by_cases hn : S.n < 2
  · have HP : Hid (SavePost F w w (.returned (.int .i64 1)) gd S g) := by
      refine Lib.hid ?_
      unfold SavePost DS.save
      rw [if_pos (.inl hn)]
      exact ⟨rfl, .stay hF⟩
    have hn2 : (S.n : Int) < 2 := by omega
    clear hF
    go_enter Try.func25, Try.ntmps25
    go_wp2_with (go_at_call 39; refine HSC.out.mono ?_; rintro e w' ⟨rfl, rfl⟩)
    go_ret
    exact HP.out
  · have hn2 : ¬ (S.n : Int) < 2 := by omega
    by_cases h0 : g = 0
    · subst h0
      have HP : Hid (SavePost F w w (.returned (.int .i64 1)) gd S 0) := by
        refine Lib.hid ?_
        unfold SavePost DS.save
        rw [if_pos (.inr rfl)]
        exact ⟨rfl, .stay hF⟩
      clear hF
      go_enter Try.func25, Try.ntmps25
      go_wp2_with (go_at_call 39; refine HSC.out.mono ?_; rintro e w' ⟨rfl, rfl⟩)
      go_ret
      exact HP.out
    · have h01 : ((g : Int) == 0) = false := by rw [beq_eq_false_iff_ne]; omega
      have HG : Hid (u32I ((g : Nat) : Int)) := by show u32I _; unfold u32I; omega
      have HH : Hid (∀ u : World, Calls Try.prog 52 #[.int .u32 (g : Nat)] u fun e w' => e = .returned (.int .i64 (g % 2 : Nat)) ∧ u = w') := fun u => (home_any u HG.out).mono fun e w' h => ⟨by rw [h.1]; rfl, h.2⟩
      obtain ⟨i, hi⟩ : ∃ i : Nat, g % 2 = i := ⟨_, rfl⟩
      obtain ⟨r, hr⟩ : ∃ r, S.write ((i : Nat) : Int) (rootF g) = r := ⟨_, rfl⟩
      have HW : Hid (∀ u v, Below w.heap.size w u → Byt u v 64 (rootF g) → Calls Try.prog 22 #[.pointer (some ⟨gd, 0, none⟩), .int .i64 (i : Nat), v] u fun e w' => e = .returned (.int .i64 r.2) ∧ ∃ F1, DskAt F1 w' gd r.1 ∧ Only F w w' ∧ ∀ k, F1 k → F k ∨ w.heap.size ≤ k) := fun u v hu hv => by
        obtain ⟨A, c, rfl, _⟩ := id hv
        refine (owrite_any (hF.keep (fun k hk => hu.block k (hF.lt k hk)) hu.size) (by omega) (i : Nat) hv).mono ?_
        rw [hr]
        rintro e w' ⟨rfl, F1, a1, a2, a3⟩
        refine ⟨rfl, F1, a1, (Only.of_below hu).trans a2, fun k hk => (a3 k hk).imp id fun e => Nat.le_trans hu.size e⟩
      have HE : Hid (∀ u, Calls Try.prog 51 #[.int .u32 (g : Nat)] u fun e w' => (∃ v, e = .returned (.tuple #[v, .int .i64 0]) ∧ Byt w' v 64 (rootF g)) ∧ Below u.heap.size u w') := fun u => encode_root u HG.out
      have hsv : S.save g = if r.2 = 0 then r.1.flush else r := by
        unfold DS.save
        rw [if_neg (by rintro (e | e); exact hn e; exact h0 e), hi, hr]
      rw [hi] at HH
      clear hF hi hr h0 hn hgI hP
      by_cases hk : r.2 = 0
      · rw [if_pos hk] at hsv
        have HSV := Lib.hid hsv
        rw [hk] at HW
        have HFL : Hid (∀ u F1, DskAt F1 u gd r.1 → Only F w u → (∀ k, F1 k → F k ∨ w.heap.size ≤ k) → Calls Try.prog 35 #[.pointer (some ⟨gd, 0, none⟩)] u fun e w' => ∃ k : Int, e = .returned (.int .i64 k) ∧ SavePost F w w' (.returned (.int .i64 k)) gd S g) := fun u F1 h1 h2 h3 => by
          refine (oflush_any h1).mono ?_
          rintro e w' ⟨rfl, hp⟩
          refine ⟨_, rfl, ?_⟩
          unfold SavePost
          rw [HSV.out]
          exact ⟨rfl, DPost.then h2 h3 hp⟩
        clear hsv hk
        go_enter Try.func25, Try.ntmps25
        go_wp2_with (first
          | (go_at_call 39; refine HSC.out.mono ?_; rintro e w' ⟨rfl, rfl⟩)
          | (go_at_call 51; refine (HE.out _).mono ?_; rintro e w2 ⟨⟨v, rfl, hv⟩, hb⟩; have HV := Lib.hid hv; have HB := Lib.hid hb; clear hv hb)
          | (go_at_call 52; refine (HH.out _).mono ?_; rintro e w3 ⟨rfl, rfl⟩)
          | (go_at_call 22; refine (HW.out _ _ HB.out HV.out).mono ?_; rintro e w4 ⟨rfl, F1, a1, a2, a3⟩; have HA1 := Lib.hid a1; have HA2 := Lib.hid a2; have HA3 := Lib.hid a3; clear a1 a2 a3)
          | (go_at_call 35; refine (HFL.out _ _ HA1.out HA2.out HA3.out).mono ?_; rintro e w5 ⟨k, rfl, hp⟩; have HPP := Lib.hid hp; clear hp))
        go_ret
        exact HPP.out
      · rw [if_neg hk] at hsv
        have HSV := Lib.hid hsv
        have hk2 : (r.2 == 0) = false := by rw [beq_eq_false_iff_ne]; exact hk
        clear hsv hk
        go_enter Try.func25, Try.ntmps25
        go_wp2_with (first
          | (go_at_call 39; refine HSC.out.mono ?_; rintro e w' ⟨rfl, rfl⟩)
          | (go_at_call 51; refine (HE.out _).mono ?_; rintro e w2 ⟨⟨v, rfl, hv⟩, hb⟩; have HV := Lib.hid hv; have HB := Lib.hid hb; clear hv hb)
          | (go_at_call 52; refine (HH.out _).mono ?_; rintro e w3 ⟨rfl, rfl⟩)
          | (go_at_call 22; refine (HW.out _ _ HB.out HV.out).mono ?_; rintro e w4 ⟨rfl, F1, a1, a2, a3⟩; have HPP : Hid (SavePost F w w4 (.returned (.int .i64 r.2)) gd S g) := (by refine Lib.hid ?_; unfold SavePost; rw [HSV.out]; exact ⟨rfl, F1, a1, a2, a3⟩); clear a1 a2 a3))
        go_ret
        exact HPP.out
section
variable {w0 w : World} {gd : Nat} {S : DS} {Φ : World → Prop}
theorem Held.save (h : Held w0 w gd S Φ) (hP : S.P.length ≤ 900000) (g : Nat) (hg : g < 4294967296) : Calls Try.prog 25 #[.pointer (some ⟨gd, 0, none⟩), .int .u32 (g : Nat)] w fun e w' => e = .returned (.int .i64 (S.save g).2) ∧ Held w0 w' gd (S.save g).1 Φ :=
  h.post (R := fun e => e = .returned (.int .i64 (S.save g).2)) fun F hF _ => save_any hF hP g hg
theorem Held.load (h : Held w0 w gd S Φ) : Calls Try.prog 31 #[.pointer (some ⟨gd, 0, none⟩)] w fun e w' => e = .returned (.tuple #[.int .u32 (S.load.1 : Nat), .int .i64 S.load.2]) ∧ Held w0 w' gd S Φ := by
  obtain ⟨F, Z, hF, _⟩ := id h
  exact (load_any hF).mono fun e w' hp => ⟨hp.1, h.below hp.2⟩
end
end Go.Proofs.Yteeomidlnijfbaa
