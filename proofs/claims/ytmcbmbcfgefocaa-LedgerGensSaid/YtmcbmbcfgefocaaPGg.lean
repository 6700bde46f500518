/- Contract: Save. -/
import Derived.Test.YtmcbmbcfgefocaaPOd
import Derived.Test.YtmcbmbcfgefocaaPOa
namespace Go.Proofs.Ytmcbmbcfgefocaa
open Go.RowKit
set_option linter.unusedSimpArgs false
set_option linter.unusedVariables false

section
variable {F : Nat → Prop} {w w' : World} {gd : Nat} {S : DS}
/-- Bytes aren't in the disk's own block. -/
theorem Dk.secR {gt gs ct cs : Nat} {vp : Value} {xs : List Value} {VT VS : Nat → Value} (h : Dk F w gd gt gs ct cs vp xs VT VS S) {a : Option Addr} {c : Nat} {f : Nat → Nat} (hv : Byt w (.slice a 64 c) 64 f) {w1 : World} (ho : Only (· = gd) w w1) : Sec (fun _ => True) w1 (.slice a 64 c) f := by
  obtain ⟨A, c', e, hc, hr, hf⟩ := hv
  cases e
  obtain ⟨ad, rfl, hl⟩ := hr.some_ (by omega)
  obtain ⟨b, o, sp⟩ := ad
  have h0 : w.cell? ⟨b, o, sp⟩ = some (.int .u8 (f 0 : Nat)) := hr.at_ (j := 0) (by omega)
  cases sp with
  | some x =>
    rw [World.cell?] at h0
    split at h0
    · simp at h0
    · cases h0
  | none =>
    have hne : b ≠ gd := fun e => by
      subst e
      obtain ⟨cs, hcs, hsz, hget⟩ := h.box
      rw [cell_of_row _ _ o cs _ _ hcs] at h0
      by_cases hj : o < 5
      · rw [hget o hj] at h0
        rcases (by omega : o = 0 ∨ o = 1 ∨ o = 2 ∨ o = 3 ∨ o = 4) with rfl | rfl | rfl | rfl | rfl <;> simp [dv] at h0
        rcases h.pe.2 with ⟨hvp, _⟩ | ⟨g, c, cur, hvp, _⟩ <;> rw [hvp] at h0 <;> cases h0
      · rw [Array.getElem?_eq_none (by omega)] at h0
        cases h0
    refine ⟨b, o, c, rfl, hc, trivial, fun j hj => ?_, hf⟩
    have h1 := hr.at_ hj
    rw [add_mk] at h1
    exact (World.cell?_of_block (ho.block b hl hne)).trans h1
theorem owrite_any (hF : DskAt F w gd S) (hP : S.P.length ≤ 1000000) (i : Int) {a : Option Addr} {c : Nat} {f : Nat → Nat} (hv : Byt w (.slice a 64 c) 64 f) :
    Calls Try.prog 49 #[.pointer (some ⟨gd, 0, none⟩), .int .i64 i, .slice a 64 c] w fun e w' => e = .returned (.int .i64 (S.write i f).2) ∧ DPost F w w' gd (S.write i f).1 := by
  obtain ⟨gt, gs, ct, cs, vp, xs, VT, VS, hd⟩ := id hF
  unfold DS.write
  cases hg : S.gone
  case true =>
    refine (write_gone hd hg i _).mono ?_
    rintro e w' ⟨rfl, rfl⟩
    exact ⟨rfl, .stay hF⟩
  case false =>
    cases hi : hasB S.n i
    case false =>
      refine (write_bad hd hg i a 64 c (.inl hi)).mono ?_
      rintro e w' ⟨rfl, rfl⟩
      exact ⟨rfl, .stay hF⟩
    case true =>
      cases hk : S.ok
      case false =>
        refine (write_stop hd hg hk i hi a c).mono ?_
        rintro e w' ⟨rfl, a1, a2⟩
        exact ⟨rfl, .box a1 a2⟩
      case true =>
        obtain ⟨i0, i1⟩ := hasB_true hi
        have := write_ok hd hg hk i.toNat (by omega) hP (a := a) (c := c) (f := f) fun w1 ho => hd.secR hv ho
        rw [Int.toNat_of_nonneg i0] at this
        refine this.mono ?_
        rintro e w' ⟨rfl, a1⟩
        exact ⟨rfl, a1⟩
theorem oflush_any (hF : DskAt F w gd S) :
    Calls Try.prog 50 #[.pointer (some ⟨gd, 0, none⟩)] w fun e w' => e = .returned (.int .i64 S.flush.2) ∧ DPost F w w' gd S.flush.1 := by
  obtain ⟨gt, gs, ct, cs, vp, xs, VT, VS, hd⟩ := id hF
  unfold DS.flush
  cases hg : S.gone
  case true =>
    refine (flush_gone hd hg).mono ?_
    rintro e w' ⟨rfl, rfl⟩
    exact ⟨rfl, .stay hF⟩
  case false =>
    cases hk : S.ok
    case false =>
      refine (flush_stop hd hg hk).mono ?_
      rintro e w' ⟨rfl, a1, a2⟩
      exact ⟨rfl, .box a1 a2⟩
    case true =>
      refine (flush_ok hd hg hk).mono ?_
      rintro e w' ⟨rfl, a1⟩
      exact ⟨rfl, a1⟩
/-- One thing is done behind the other. -/
theorem DPost.then {w1 w2 : World} {F1 : Nat → Prop} {S2 : DS} (ho : Only F w w1) (hF : ∀ k, F1 k → F k ∨ w.heap.size ≤ k) (h : DPost F1 w1 w2 gd S2) : DPost F w w2 gd S2 := by
  obtain ⟨F2, h1, h2, h3⟩ := h
  refine ⟨F2, h1, ho.then h2 hF, fun k hk => ?_⟩
  rcases h3 k hk with e | e
  · exact hF k e
  · exact .inr (Nat.le_trans ho.size e)
end
/-- What Save makes of a disk, and says. -/
def DS.save (S : DS) (g : Nat) : DS × Int := if S.n < 2 ∨ g = 0 then (S, 1) else if (S.write ((g % 2 : Nat) : Int) (rootF g)).2 = 0 then (S.write ((g % 2 : Nat) : Int) (rootF g)).1.flush else S.write ((g % 2 : Nat) : Int) (rootF g)
def SavePost (F : Nat → Prop) (w w' : World) (e : Ending) (gd : Nat) (S : DS) (g : Nat) : Prop := e = .returned (.int .i64 (S.save g).2) ∧ DPost F w w' gd (S.save g).1
set_option maxRecDepth 100000 in
set_option maxHeartbeats 2000000 in
theorem save_any {F : Nat → Prop} {w : World} {gd : Nat} {S : DS} (hF : DskAt F w gd S) (hP : S.P.length ≤ 900000) (g : Nat) (hg : g < 4294967296) : Calls Try.prog 31 #[.pointer (some ⟨gd, 0, none⟩), .int .u32 (g : Nat)] w fun e w' => SavePost F w w' e gd S g := by
  have HSC := Lib.hid (osectors_any hF)
  have hgI : (g : Int) < 4294967296 := by omega
  by_cases hn : S.n < 2
  · have HP : Hid (SavePost F w w (.returned (.int .i64 1)) gd S g) := by
      refine Lib.hid ?_
      unfold SavePost DS.save
      rw [if_pos (.inl hn)]
      exact ⟨rfl, .stay hF⟩
    have hn2 : (S.n : Int) < 2 := by omega
    clear hF
    go_enter Try.func31, Try.ntmps31
    go_wp2_with (go_at_call 42; refine HSC.out.mono ?_; rintro e w' ⟨rfl, rfl⟩)
    go_ret
    exact HP.out
  · have hn2 : ¬ (S.n : Int) < 2 := by omega
    by_cases h0 : g = 0
    · subst h0
      have HP : Hid (SavePost F w w (.returned (.int .i64 1)) gd S 0) := by
        refine Lib.hid ?_
        unfold SavePost DS.save
        rw [if_pos (.inr rfl)]
        exact ⟨rfl, .stay hF⟩
      clear hF
      go_enter Try.func31, Try.ntmps31
      go_wp2_with (go_at_call 42; refine HSC.out.mono ?_; rintro e w' ⟨rfl, rfl⟩)
      go_ret
      exact HP.out
    · have h01 : ((g : Int) == 0) = false := by rw [beq_eq_false_iff_ne]; omega
      have HG : Hid (u32I ((g : Nat) : Int)) := by show u32I _; unfold u32I; omega
      have HH : Hid (∀ u : World, Calls Try.prog 52 #[.int .u32 (g : Nat)] u fun e w' => e = .returned (.int .i64 (g % 2 : Nat)) ∧ u = w') := fun u => (home_any u HG.out).mono fun e w' h => ⟨by rw [h.1]; rfl, h.2⟩
      obtain ⟨i, hi⟩ : ∃ i : Nat, g % 2 = i := ⟨_, rfl⟩
      obtain ⟨r, hr⟩ : ∃ r, S.write ((i : Nat) : Int) (rootF g) = r := ⟨_, rfl⟩
      have HW : Hid (∀ u v, Below w.heap.size w u → Byt u v 64 (rootF g) → Calls Try.prog 49 #[.pointer (some ⟨gd, 0, none⟩), .int .i64 (i : Nat), v] u fun e w' => e = .returned (.int .i64 r.2) ∧ ∃ F1, DskAt F1 w' gd r.1 ∧ Only F w w' ∧ ∀ k, F1 k → F k ∨ w.heap.size ≤ k) := fun u v hu hv => by
        obtain ⟨A, c, rfl, _⟩ := id hv
        refine (owrite_any (hF.keep (fun k hk => hu.block k (hF.lt k hk)) hu.size) (by omega) (i : Nat) hv).mono ?_
        rw [hr]
        rintro e w' ⟨rfl, F1, a1, a2, a3⟩
        refine ⟨rfl, F1, a1, (Only.of_below hu).trans a2, fun k hk => (a3 k hk).imp id fun e => Nat.le_trans hu.size e⟩
      have HE : Hid (∀ u, Calls Try.prog 51 #[.int .u32 (g : Nat)] u fun e w' => (∃ v, e = .returned (.tuple #[v, .int .i64 0]) ∧ Byt w' v 64 (rootF g)) ∧ Below u.heap.size u w') := fun u => encode_root u HG.out
      have hsv : S.save g = if r.2 = 0 then r.1.flush else r := by
        unfold DS.save
        rw [if_neg (by rintro (e | e); exact hn e; exact h0 e), hi, hr]
      rw [hi] at HH
      clear hF hi hr h0 hn hgI hP
      by_cases hk : r.2 = 0
      · rw [if_pos hk] at hsv
        have HSV := Lib.hid hsv
        rw [hk] at HW
        have HFL : Hid (∀ u F1, DskAt F1 u gd r.1 → Only F w u → (∀ k, F1 k → F k ∨ w.heap.size ≤ k) → Calls Try.prog 50 #[.pointer (some ⟨gd, 0, none⟩)] u fun e w' => ∃ k : Int, e = .returned (.int .i64 k) ∧ SavePost F w w' (.returned (.int .i64 k)) gd S g) := fun u F1 h1 h2 h3 => by
          refine (oflush_any h1).mono ?_
          rintro e w' ⟨rfl, hp⟩
          refine ⟨_, rfl, ?_⟩
          unfold SavePost
          rw [HSV.out]
          exact ⟨rfl, DPost.then h2 h3 hp⟩
        clear hsv hk
        go_enter Try.func31, Try.ntmps31
        go_wp2_with (first
          | (go_at_call 42; refine HSC.out.mono ?_; rintro e w' ⟨rfl, rfl⟩)
          | (go_at_call 51; refine (HE.out _).mono ?_; rintro e w2 ⟨⟨v, rfl, hv⟩, hb⟩; have HV := Lib.hid hv; have HB := Lib.hid hb; clear hv hb)
          | (go_at_call 52; refine (HH.out _).mono ?_; rintro e w3 ⟨rfl, rfl⟩)
          | (go_at_call 49; refine (HW.out _ _ HB.out HV.out).mono ?_; rintro e w4 ⟨rfl, F1, a1, a2, a3⟩; have HA1 := Lib.hid a1; have HA2 := Lib.hid a2; have HA3 := Lib.hid a3; clear a1 a2 a3)
          | (go_at_call 50; refine (HFL.out _ _ HA1.out HA2.out HA3.out).mono ?_; rintro e w5 ⟨k, rfl, hp⟩; have HPP := Lib.hid hp; clear hp))
        go_ret
        exact HPP.out
      · rw [if_neg hk] at hsv
        have HSV := Lib.hid hsv
        have hk2 : (r.2 == 0) = false := by rw [beq_eq_false_iff_ne]; exact hk
        clear hsv hk
        go_enter Try.func31, Try.ntmps31
        go_wp2_with (first
          | (go_at_call 42; refine HSC.out.mono ?_; rintro e w' ⟨rfl, rfl⟩)
          | (go_at_call 51; refine (HE.out _).mono ?_; rintro e w2 ⟨⟨v, rfl, hv⟩, hb⟩; have HV := Lib.hid hv; have HB := Lib.hid hb; clear hv hb)
          | (go_at_call 52; refine (HH.out _).mono ?_; rintro e w3 ⟨rfl, rfl⟩)
          | (go_at_call 49; refine (HW.out _ _ HB.out HV.out).mono ?_; rintro e w4 ⟨rfl, F1, a1, a2, a3⟩; have HPP : Hid (SavePost F w w4 (.returned (.int .i64 r.2)) gd S g) := (by refine Lib.hid ?_; unfold SavePost; rw [HSV.out]; exact ⟨rfl, F1, a1, a2, a3⟩); clear a1 a2 a3))
        go_ret
        exact HPP.out
section
variable {w0 w : World} {gd : Nat} {S : DS} {Φ : World → Prop}
end
end Go.Proofs.Ytmcbmbcfgefocaa

/- Roots on a disk that loses nothing, by the sectors alone; the document's awake. -/
namespace Go.Proofs.Ytmcbmbcfgefocaa
open Go.RowKit
set_option linter.unusedSimpArgs false
set_option linter.unusedVariables false

theorem rootG_root {g : Nat} (hg : g < 4294967296) : rootG (rootF g) = g := (sect_dec (g := g) (s := 0) (p := 0) (q := 1) (n := 4) (f := rootW) hg (by omega) root_may rootW_lt).2.1
/-- A root's 13th byte is 1. -/
theorem rootF_13 {g : Nat} (hg : g < 4294967296) : rootF g 13 = 1 := (sect_dec (g := g) (s := 0) (p := 0) (q := 1) (n := 4) (f := rootW) hg (by omega) root_may rootW_lt).2.2.2.2.1
theorem rootF_15 {g : Nat} (hg : g < 4294967296) : rootF g 15 = 114 := (sect_dec (g := g) (s := 0) (p := 0) (q := 1) (n := 4) (f := rootW) hg (by omega) root_may rootW_lt).2.2.2.2.2.2 0 (by omega)
theorem say_root {i g : Nat} (hg : g < 4294967296) : sayN i (some (rootF g)) = if g % 2 = i then g else 0 := by
  have e := rootG_root hg
  by_cases h : g % 2 = i
  · rw [if_pos h]
    have : rootAt i (rootF g) := ⟨fun j _ => by rw [e], by rw [e]; exact h⟩
    exact (if_pos this).trans e
  · rw [if_neg h]
    have : ¬ rootAt i (rootF g) := fun k => h (by rw [← e]; exact k.2)
    exact if_neg this
theorem say_not {i : Nat} {f : Nat → Nat} (hf : ∀ j, j < 64 → f j < 256) (h : f 13 ≠ 1 ∨ f 15 ≠ 114) : sayN i (some f) = 0 := by
  have : ¬ rootAt i f := fun k => by
    have hg := rootG_lt hf
    rcases h with h | h
    · exact h ((k.1 13 (by omega)).trans (rootF_13 hg))
    · exact h ((k.1 15 (by omega)).trans (rootF_15 hg))
  exact if_neg this
theorem say_zero (i : Nat) : sayN i (some fun _ => 0) = 0 := say_not (fun _ _ => by decide) (.inl (by decide))
/-- A disk on which all is flushed, and the power on, without a plan. -/
abbrev Sti (n : Nat) (T : Nat → Option (Nat → Nat)) : DS := ⟨n, T, [], false, 0⟩
section
variable {n : Nat} {T : Nat → Option (Nat → Nat)}
theorem hasB_yes {i : Nat} (h : i < n) : hasB n (i : Nat) = true := by simp [hasB, h]
theorem sti_write {i : Nat} (h : i < n) (f : Nat → Nat) : (Sti n T).write (i : Nat) f = (⟨n, T, [(i, f)], false, 0⟩, 0) := by
  unfold DS.write
  rw [hasB_yes h]
  rfl
theorem sti_save (h2 : 2 ≤ n) {g : Nat} (hg : g ≠ 0) : (Sti n T).save g = (Sti n (setT T (g % 2) (some (rootF g))), 0) := by
  unfold DS.save
  rw [if_neg (by show ¬ (n < 2 ∨ g = 0); omega), sti_write (by omega : g % 2 < n)]
  rfl
theorem sti_read {i : Nat} (h : i < n) : ((Sti n T).read (i : Nat)).1 = T i := by
  unfold DS.read
  rw [hasB_yes h]
  show (match T (Int.toNat (i : Nat)) with | none => (none, (6 : Int)) | some f => (some f, 0)).1 = T i
  rw [Int.toNat_natCast]
  cases T i <;> rfl
theorem sti_load (h2 : 2 ≤ n) : (Sti n T).load = (max (sayN 0 (T 0)) (sayN 1 (T 1)), 0) := by
  unfold DS.load
  rw [if_neg (by simp), if_neg (by show ¬ n < 2; omega)]
  have e0 : ((Sti n T).read 0).1 = T 0 := sti_read (i := 0) (by omega)
  have e1 : ((Sti n T).read 1).1 = T 1 := sti_read (i := 1) (by omega)
  rw [e0, e1]
end
end Go.Proofs.Ytmcbmbcfgefocaa

/- A ledger on a disk that loses nothing, by the sectors alone. -/
namespace Go.Proofs.Ytmcbmbcfgefocaa
open Go.RowKit Go.Shelf
set_option linter.unusedSimpArgs false
set_option linter.unusedVariables false

/-- A ledger's disk: N sectors, its segment, its records; no cell is of a later generation, no number above M. -/
structure LedS (N M : Nat) (S : DS) (Q : QS) (rs : List Rec) : Prop where
  n : S.n = N
  few : rs.length ≤ 200
  calm : Calm S Q rs
  first : Q.first = 2 + Q.gen % 2 * halfN N
  behind : Q.behind = 2 + Q.gen % 2 * halfN N + halfN N
  root : max (sayN 0 (rdS S 0)) (sayN 1 (rdS S 1)) = Q.gen
  gens : ∀ k, 2 ≤ k → k < N → cellB (rdS S k) = true → (cellX (rdS S k)).g ≤ Q.gen
  nums : ∀ k, 2 ≤ k → k < N → cellB (rdS S k) = true → (cellX (rdS S k)).s ≤ M
  top : Q.top ≤ M
/-- A generation's half, of which nothing is known yet. -/
def segQ (N g : Nat) : QS := ⟨2 + g % 2 * halfN N, 2 + g % 2 * halfN N + halfN N, g, 2 + g % 2 * halfN N, 4294967295⟩
theorem half_fits {N : Nat} (hN : 18 ≤ N) (g : Nat) : 2 + g % 2 * halfN N + halfN N ≤ N ∧ 8 ≤ halfN N := by
  have h1 : g % 2 * halfN N ≤ 1 * halfN N := Nat.mul_le_mul_right _ (by omega)
  unfold halfN at *
  omega
theorem segQ_ok {N g : Nat} (hN : 18 ≤ N) (hN2 : N ≤ 512) (hg : g < 4294967296) : (segQ N g).ok := by
  have := half_fits hN g
  refine ⟨Nat.le_refl _, Nat.le_add_right _ _, ?_, hg, by show 4294967295 < _; omega⟩
  show 2 + g % 2 * halfN N + halfN N ≤ 1000
  omega
theorem say_new (i N : Nat) : sayN i (rdS (DS.new N) i) = 0 := by
  have hz := say_zero i
  unfold rdS DS.read DS.new
  cases hb : hasB N (i : Int) with
  | true => simpa [DS.seen, layT, hb] using hz
  | false => simp [hb, sayN]
/-- A new disk's. -/
theorem led_new {N : Nat} (hN : 18 ≤ N) (hN2 : N ≤ 512) {rs : List Rec} {en l : Nat} (hs : Scn (rdS (DS.new N)) (segQ N 0).behind (segQ N 0).gen (segQ N 0).first 0 rs en l) :
    rs = [] ∧ LedS N 0 (DS.new N) { segQ N 0 with ende := en, top := topOf (rdS (DS.new N)) (segQ N 0).first ((segQ N 0).behind - (segQ N 0).first) } [] ∧ en = (segQ N 0).first := by
  obtain ⟨h1, h2, h3, h4⟩ := calm_new (S := DS.new N) (Q := segQ N 0) rfl rfl rfl (segQ_ok hN hN2 (by omega)) (half_fits hN 0).1 (fun k _ _ => new_cell N k) hs
  refine ⟨h1, ⟨rfl, by simp, h4, rfl, rfl, by rw [say_new, say_new]; rfl, fun k _ _ h => ?_, fun k _ _ h => ?_, Nat.le_of_eq h3⟩, h2⟩
  · rw [new_cell] at h
    cases h
  · rw [new_cell] at h
    cases h
/-- What a calm disk holds is there again when the power goes and comes. -/
theorem calm_up {S : DS} (hg : S.gone = false) (hl : S.left = 0) (hP : S.P = []) : S.up [] = S := by
  obtain ⟨n, T, P, g, l⟩ := S
  cases hg
  cases hl
  cases hP
  rfl
/-- Opened again. -/
theorem LedS.open_ {N M : Nat} {S : DS} {Q : QS} {rs : List Rec} (h : LedS N M S Q rs) {rs2 : List Rec} {en l : Nat} (hs : Scn (rdS S) (segQ N Q.gen).behind (segQ N Q.gen).gen (segQ N Q.gen).first 0 rs2 en l) :
    SameL rs rs2 ∧ LedS N M S { segQ N Q.gen with ende := en, top := topOf (rdS S) (segQ N Q.gen).first ((segQ N Q.gen).behind - (segQ N Q.gen).first) } rs2 ∧ en = Q.ende := by
  obtain ⟨f, b, g, e, t⟩ := Q
  have h1 : f = 2 + g % 2 * halfN N := h.first
  have h2 : b = 2 + g % 2 * halfN N + halfN N := h.behind
  subst h1
  subst h2
  obtain ⟨c1, c2, c3⟩ := h.calm.scan hs
  have hlen := c1.len
  refine ⟨c1, ⟨h.n, by have := h.few; omega, ?_, rfl, rfl, h.root, h.gens, h.nums, ?_⟩, c2⟩
  · obtain ⟨d1, d2, d3, d4, d5, ⟨rs', l', d6, d7, d8⟩, d9⟩ := c3
    exact ⟨d1, d2, d3, d4, d5, ⟨rs', l', c1.symm.trans d6, d7, d8⟩, d9⟩
  · refine Nat.le_trans (top_most _ fun k k1 k2 k3 => ?_) h.top
    exact h.calm.most k k1 (by have : (segQ N g).first + ((segQ N g).behind - (segQ N g).first) = 2 + g % 2 * halfN N + halfN N := by show 2 + g % 2 * halfN N + (2 + g % 2 * halfN N + halfN N - (2 + g % 2 * halfN N)) = _; omega
                               rw [this] at k2; exact k2) k3
/-- The sectors behind records that were added. -/
theorem added_at {S S' : DS} {Q Q' : QS} {n : Nat} {R : Nat → RowD} (hok : Q.ok) (ha : AddS S Q n R S' Q' 0) (hf : ∀ i, i < n → ∀ j, j < (R i).n → (R i).f j < 256) :
    ∀ k, rdS S' k = rdS S k ∨ (Q.ende ≤ k ∧ k < Q.behind ∧ (cellB (rdS S' k) = true → (cellX (rdS S' k)).g = Q.gen ∧ (cellX (rdS S' k)).s ≤ Q.top + n)) := by
  intro k
  obtain ⟨c, hc0⟩ : ∃ c : Int, 0 = c := ⟨_, rfl⟩
  rw [hc0] at ha
  cases ha with
  | no h => exact .inl rfl
  | gone h hg => exact .inl rfl
  | none_ h hg hn => exact .inl rfl
  | cut h hg hn pre x hs hl hc hk => exact absurd hc0.symm hk
  | lost h hg hn xs hs hl hc hk => exact absurd hc0.symm hk
  | kept h hg hn xs hs hl hc hk =>
    obtain ⟨t1, t2, t3⟩ := takes_yes h
    obtain ⟨f1, f2, f3⟩ := rdS_flush hk
    obtain ⟨n1, n2⟩ := new_at hg hc hs hl
    rw [f3]
    by_cases hin : k < Q.ende ∨ Q.ende + sumN R n ≤ k
    · exact .inl (n2 k hin)
    · refine .inr ⟨by omega, by have := hok.2.1; omega, fun hcb => ?_⟩
      have hex : ∀ m, k < Q.ende + sumN R m → m ≤ n → ∃ i j, i < n ∧ j < needF (R i).n ∧ k = Q.ende + sumN R i + j := by
        intro m
        induction m with
        | zero => intro h _; have : sumN R 0 = 0 := rfl; omega
        | succ m ih =>
          intro h hmn
          by_cases hh : k < Q.ende + sumN R m
          · exact ih hh (by omega)
          · have : sumN R (m + 1) = sumN R m + needF (R m).n := rfl
            exact ⟨m, k - (Q.ende + sumN R m), by omega, by omega, by omega⟩
      obtain ⟨i, j, hi, hj, rfl⟩ := hex n (by omega) (Nat.le_refl _)
      obtain ⟨x, hx, hpx⟩ := n1 i j hi hj
      rw [hx]
      have hd := (dec_part hpx hj hok.2.2.2.1 (by omega) (hf i hi)).2
      exact ⟨hd.1, by have := hd.2.1; omega⟩
/-- Records are added. -/
theorem LedS.add {N M : Nat} {S S' : DS} {Q Q' : QS} {rs : List Rec} {n : Nat} {R : Nat → RowD} (hN : 18 ≤ N) (h : LedS N M S Q rs) (ha : AddS S Q n R S' Q' 0) (hn : n ≠ 0) (hfew : rs.length + n ≤ 200) (hf : ∀ i, i < n → ∀ j, j < (R i).n → (R i).f j < 256) :
    LedS N (M + n) S' Q' (rs ++ recsOf R n) ∧ Q'.gen = Q.gen ∧ Q'.ende = Q.ende + sumN R n ∧ Q'.first = Q.first ∧ Q'.behind = Q.behind := by
  have hat := added_at h.calm.ok ha hf
  obtain ⟨hh, _⟩ := half_fits hN Q.gen
  rcases h.calm.add hf ha with ⟨e, h0, _⟩ | ⟨_, ht, hSn, hQ, hc⟩
  · exact absurd rfl h0
  · subst hQ
    have h2 : 2 ≤ Q.ende := by have := h.calm.ok.1; have := h.first; omega
    rw [if_neg hn] at hc ⊢
    have key : ∀ k, 2 ≤ k → k < N → cellB (rdS S' k) = true → (cellX (rdS S' k)).g ≤ Q.gen ∧ (cellX (rdS S' k)).s ≤ M + n := fun k k1 k2 k3 => by
      rcases hat k with e | ⟨a1, a2, a3⟩
      · rw [e] at k3 ⊢
        exact ⟨h.gens k k1 k2 k3, Nat.le_add_right_of_le (h.nums k k1 k2 k3)⟩
      · obtain ⟨a4, a5⟩ := a3 k3
        have := h.top
        exact ⟨Nat.le_of_eq a4, by omega⟩
    have hlo : ∀ k, k < 2 → rdS S' k = rdS S k := fun k hk => by
      rcases hat k with e | ⟨a1, _⟩
      · exact e
      · omega
    refine ⟨⟨hSn.trans h.n, by rw [List.length_append]; unfold recsOf; simp; omega, hc, h.first, h.behind, by rw [hlo 0 (by omega), hlo 1 (by omega)]; exact h.root, fun k k1 k2 k3 => (key k k1 k2 k3).1, fun k k1 k2 k3 => (key k k1 k2 k3).2, ?_⟩, rfl, rfl, rfl, rfl⟩
    show Q.top + n ≤ M + n
    have := h.top
    omega
end Go.Proofs.Ytmcbmbcfgefocaa
