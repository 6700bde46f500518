/- The document's side: a root as a sector, Save. -/
import Derived.Test.YteeomidlnijfbaaPOn
import Derived.Test.YteeomidlnijfbaaPDq
import Derived.Test.YteeomidlnijfbaaPEj
import Derived.Test.YteeomidlnijfbaaPKz
import Derived.Test.YteeomidlnijfbaaPKx
namespace Go.Proofs.Yteeomidlnijfbaa
open Go.RowKit
set_option linter.unusedSimpArgs false
set_option linter.unusedVariables false

set_option maxRecDepth 100000 in
theorem rsector {g : Int} (w : World) (hg : u32I g) : Calls Try.prog 27 #[.int .u32 g] w fun e w' => (∃ v, e = .returned v ∧ Byt w' v 64 (rootF g.toNat) ∧ NewB w v) ∧ Below w.heap.size w w' := by
  have HB := Lib.hid (below_new w (.cells #[.int .u8 114, .int .u8 111, .int .u8 111, .int .u8 116] 5))
  have HR : Hid (Rd .u8 (w.alloc (.cells #[.int .u8 114, .int .u8 111, .int .u8 111, .int .u8 116] 5)) (some ⟨w.heap.size, 0, none⟩) 4 rootW) := fun j hj => ⟨_, rfl, by
    rw [add_mk, Nat.zero_add, cell_of_row _ _ j _ _ _ (heap_alloc_new w _)]
    rcases (by omega : j = 0 ∨ j = 1 ∨ j = 2 ∨ j = 3) with rfl | rfl | rfl | rfl <;> rfl⟩
  obtain ⟨x, rfl⟩ : ∃ x : Nat, g = x := ⟨g.toNat, by unfold u32I at hg; omega⟩
  have HE : Hid (Calls Try.prog 54 #[cellI (x : Nat) 0 0 1 (some ⟨w.heap.size, 0, none⟩) 4 4] (w.alloc (.cells #[.int .u8 114, .int .u8 111, .int .u8 111, .int .u8 116] 5)) fun e w' => (∃ v, e = .returned (.tuple #[v, .int .i64 0]) ∧ Byt w' v 64 (rootF x) ∧ NewB (w.alloc (.cells #[.int .u8 114, .int .u8 111, .int .u8 111, .int .u8 116] 5)) v) ∧ Below (w.alloc (.cells #[.int .u8 114, .int .u8 111, .int .u8 111, .int .u8 116] 5)).heap.size (w.alloc (.cells #[.int .u8 114, .int .u8 111, .int .u8 111, .int .u8 116] 5)) w') := rencodeN x 0 0 1 (some ⟨w.heap.size, 0, none⟩) 4 4 rootW _ (by unfold u32I at hg; omega) (by omega) HR.out rootW_lt root_may
  go_enter Try.func27, Try.ntmps27
  go_wp2_with (go_at_call 54; refine HE.out.mono ?_; rintro e w2 ⟨⟨v, rfl, hv, hn⟩, hb⟩; have HV := Lib.hid hv; have HN := Lib.hid hn; have HB2 := Lib.hid hb; clear hv hn hb)
  go_ret
  exact ⟨⟨_, rfl, HV.out, fun k hk => Nat.le_trans HB.out.size (HN.out k hk)⟩, bbt HB.out HB2.out⟩
theorem RAt.up {G : Nat → Prop} {w : World} {g t t' : Nat} {S : DS} (h : RAt G w g t S) (ht : t ≤ t') : RAt G w g t' S := by
  obtain ⟨gB, cB, gX, vA, vN, ys, VB, X, stop, begun, hd⟩ := h
  exact ⟨gB, cB, gX, vA, vN, ys, VB, X, stop, begun, { hd with bg := ⟨hd.bg.1, by have := hd.bg.2; omega⟩ }⟩
theorem RPost.then {G G1 : Nat → Prop} {w w1 w2 : World} {g t : Nat} {S2 : DS} (ho : Only G w w1) (hF : ∀ k, G1 k → G k ∨ w.heap.size ≤ k) (h : RPost G1 w1 w2 g t S2) : RPost G w w2 g t S2 := by
  obtain ⟨F2, h1, h2, h3⟩ := h
  refine ⟨F2, h1, ho.then h2 hF, fun k hk => ?_⟩
  rcases h3 k hk with e | e
  · exact hF k e
  · exact .inr (Nat.le_trans ho.size e)
/-- Bytes in a block that no footprint holds. -/
theorem byt_sec {w : World} {a : Option Addr} {c : Nat} {f : Nat → Nat} (hv : Byt w (.slice a 64 c) 64 f) : Sec Any w (.slice a 64 c) f ∧ ∀ k, (Value.slice a 64 c).ownBlock = some k → k < w.heap.size := by
  obtain ⟨A, c', e, hc, hr, hf⟩ := hv
  cases e
  obtain ⟨ad, rfl, hl⟩ := hr.some_ (by omega)
  obtain ⟨b, o, sp⟩ := ad
  have h0 : w.cell? ⟨b, o, sp⟩ = some (.int .u8 (f 0 : Nat)) := hr.at_ (j := 0) (by omega)
  cases sp with
  | some x =>
    rw [World.cell?] at h0
    split at h0
    · simp at h0
    · cases h0
  | none =>
    refine ⟨⟨b, o, c, rfl, hc, trivial, fun j hj => ?_, hf⟩, fun k hk => by
      have : b = k := by simpa [Value.ownBlock] using hk
      subst this
      exact hl⟩
    have h1 := hr.at_ hj
    rw [add_mk] at h1
    exact h1
theorem byt_only {w w1 : World} {G : Nat → Prop} {a : Option Addr} {c : Nat} {f : Nat → Nat} (hv : Byt w (.slice a 64 c) 64 f) (hG : ∀ k, (Value.slice a 64 c).ownBlock = some k → ¬ G k) (ho : Only G w w1) : Sec Any w1 (.slice a 64 c) f := by
  obtain ⟨⟨g, o, c', e, h1, h2, h3, h4⟩, hl⟩ := byt_sec hv
  cases e
  refine ⟨g, o, c, rfl, h1, h2, fun j hj => (World.cell?_of_block (ho.block g (hl g rfl) (hG g rfl))).trans (h3 j hj), h4⟩
end Go.Proofs.Yteeomidlnijfbaa

/- The document's side: Save. -/
namespace Go.Proofs.Yteeomidlnijfbaa
open Go.RowKit
set_option linter.unusedSimpArgs false
set_option linter.unusedVariables false

theorem RAt.keepB {G : Nat → Prop} {w w' : World} {g t : Nat} {S : DS} (h : RAt G w g t S) (hb : Below w.heap.size w w') : RAt G w' g t S := h.keep (fun k hk => hb.block k (h.lt k hk)) hb.size
def RSave (G : Nat → Prop) (w w' : World) (e : Ending) (g t : Nat) (S : DS) (x : Nat) : Prop := e = .returned (.int .i64 (S.save x).2) ∧ RPost G w w' g (t + 2) (S.save x).1
set_option maxRecDepth 100000 in
set_option maxHeartbeats 2000000 in
theorem rsave_any {G : Nat → Prop} {w : World} {g t : Nat} {S : DS} (h : RAt G w g t S) (ht : t ≤ 900000) (hP : S.P.length ≤ 900000) (x : Nat) (hx : x < 4294967296) : Calls Try.prog 26 #[.pointer (some ⟨g, 0, none⟩), .int .u32 (x : Nat)] w fun e w' => RSave G w w' e g t S x := by
  have hbox : ∃ a c, w.cell? ⟨g, 0, none⟩ = some (.slice a S.n c) := by
    obtain ⟨gB, cB, gX, vA, vN, ys, VB, X, stop, begun, hd⟩ := id h
    exact ⟨_, _, (dvr7 hd.box).1⟩
  obtain ⟨a0, c0, hc0⟩ := hbox
  have hstay : RPost G w w g (t + 2) S := ⟨G, h.up (by omega), Only.refl, fun _ hk => .inl hk⟩
  obtain ⟨N, hN⟩ : ∃ N, S.n = N := ⟨_, rfl⟩
  rw [hN] at hc0
  have hlt := block_lt_of_cell hc0
  by_cases hn : N < 2
  · have HP : Hid (RSave G w w (.returned (.int .i64 1)) g t S x) := by
      refine Lib.hid ?_
      unfold RSave DS.save
      rw [if_pos (.inl (by omega))]
      exact ⟨rfl, hstay⟩
    have hn2 : (N : Int) < 2 := by omega
    clear h hN hP hx hstay ht
    go_enter Try.func26, Try.ntmps26
    go_wp2
    go_ret
    exact HP.out
  · have hn2 : ¬ (N : Int) < 2 := by omega
    by_cases h0 : x = 0
    · subst h0
      have HP : Hid (RSave G w w (.returned (.int .i64 1)) g t S 0) := by
        refine Lib.hid ?_
        unfold RSave DS.save
        rw [if_pos (.inr rfl)]
        exact ⟨rfl, hstay⟩
      clear h hN hP hx hstay ht
      go_enter Try.func26, Try.ntmps26
      go_wp2
      go_ret
      exact HP.out
    · have h01 : ((x : Int) == 0) = false := by rw [beq_eq_false_iff_ne]; omega
      have HG : Hid (u32I ((x : Nat) : Int)) := by show u32I _; unfold u32I; omega
      have hx2 : 0 ≤ (x : Int) % 2 ∧ (x : Int) % 2 < 2 := by omega
      obtain ⟨r, hr⟩ : ∃ r, S.write ((x % 2 : Nat) : Int) (rootF x) = r := ⟨_, rfl⟩
      have HW : Hid (∀ u v, Below w.heap.size w u → Byt u v 64 (rootF x) → NewB w v → Calls Try.prog 28 #[.pointer (some ⟨g, 0, none⟩), .int .i64 ((x : Int) % 2), v] u fun e w' => e = .returned (.int .i64 r.2) ∧ ∃ G1, RAt G1 w' g (t + 1) r.1 ∧ Only G w w' ∧ ∀ k, G1 k → G k ∨ w.heap.size ≤ k) := fun u v hu hv hnv => by
        obtain ⟨A, c, rfl, _⟩ := id hv
        have hgl := h.lt
        refine (rwrite_any (h.keepB hu) (by omega) (by omega) ((x % 2 : Nat) : Int) (a := A) (c := c) (f := rootF x) fun w1 ho => byt_only hv (fun k hk hg => by have := hgl k hg; have := hnv k hk; omega) ho).mono ?_
        rw [hr]
        rintro e w' ⟨rfl, F1, a1, a2, a3⟩
        refine ⟨rfl, F1, a1, (Only.of_below hu).trans a2, fun k hk => (a3 k hk).imp id fun e => Nat.le_trans hu.size e⟩
      have HE : Hid (∀ u, Calls Try.prog 27 #[.int .u32 (x : Nat)] u fun e w' => (∃ v, e = .returned v ∧ Byt w' v 64 (rootF x) ∧ NewB u v) ∧ Below u.heap.size u w') := fun u => rsector u HG.out
      have hsv : S.save x = if r.2 = 0 then r.1.flush else r := by
        unfold DS.save
        rw [if_neg (by rintro (e | e); exact hn (hN ▸ e); exact h0 e), hr]
      have hrP : r.1.P.length ≤ 1000000 := by
        have := write_len S ((x % 2 : Nat) : Int) (rootF x)
        rw [hr] at this
        omega
      by_cases hk : r.2 = 0
      · rw [if_pos hk] at hsv
        have HSV := Lib.hid hsv
        rw [hk] at HW
        have HFL : Hid (∀ u F1, RAt F1 u g (t + 1) r.1 → Only G w u → (∀ k, F1 k → G k ∨ w.heap.size ≤ k) → Calls Try.prog 53 #[.pointer (some ⟨g, 0, none⟩)] u fun e w' => ∃ k : Int, e = .returned (.int .i64 k) ∧ RSave G w w' (.returned (.int .i64 k)) g t S x) := fun u F1 h1 h2 h3 => by
          refine (rflush_any h1 (by omega) hrP).mono ?_
          rintro e w' ⟨rfl, hp⟩
          refine ⟨_, rfl, ?_⟩
          unfold RSave
          rw [HSV.out]
          exact ⟨rfl, RPost.then h2 h3 hp⟩
        clear hsv hk h hN hP hx hstay ht hr h0 hn hrP
        go_enter Try.func26, Try.ntmps26
        go_wp2_with (first
          | (go_at_call 27; refine (HE.out _).mono ?_; rintro e w2 ⟨⟨v, rfl, hv, hnv⟩, hb⟩; have HV := Lib.hid hv; have HNV := Lib.hid hnv; have HB := Lib.hid hb; clear hv hb hnv)
          | (go_at_call 28; refine (HW.out _ _ HB.out HV.out HNV.out).mono ?_; rintro e w4 ⟨rfl, F1, a1, a2, a3⟩; have HA1 := Lib.hid a1; have HA2 := Lib.hid a2; have HA3 := Lib.hid a3; clear a1 a2 a3)
          | (go_at_call 53; refine (HFL.out _ _ HA1.out HA2.out HA3.out).mono ?_; rintro e w5 ⟨k, rfl, hp⟩; have HPP := Lib.hid hp; clear hp))
        go_ret
        exact HPP.out
      · rw [if_neg hk] at hsv
        have HSV := Lib.hid hsv
        have hk2 : (r.2 == 0) = false := by rw [beq_eq_false_iff_ne]; exact hk
        have HUP : Hid (∀ F1 w', RAt F1 w' g (t + 1) r.1 → RAt F1 w' g (t + 2) r.1) := fun F1 w' h => h.up (by omega)
        clear hsv hk h hN hP hx hstay ht hr h0 hn hrP
        go_enter Try.func26, Try.ntmps26
        go_wp2_with (first
          | (go_at_call 27; refine (HE.out _).mono ?_; rintro e w2 ⟨⟨v, rfl, hv, hnv⟩, hb⟩; have HV := Lib.hid hv; have HNV := Lib.hid hnv; have HB := Lib.hid hb; clear hv hb hnv)
          | (go_at_call 28; refine (HW.out _ _ HB.out HV.out HNV.out).mono ?_; rintro e w4 ⟨rfl, F1, a1, a2, a3⟩; have HPP : Hid (RSave G w w4 (.returned (.int .i64 r.2)) g t S x) := (by refine Lib.hid ?_; unfold RSave; rw [HSV.out]; exact ⟨rfl, F1, HUP.out _ _ a1, a2, a3⟩); clear a1 a2 a3))
        go_ret
        exact HPP.out
end Go.Proofs.Yteeomidlnijfbaa

/- What the document's Decode asks is what the program's asks; numbers read from the last byte on. -/
namespace Go.Proofs.Yteeomidlnijfbaa
open Go.RowKit
set_option linter.unusedSimpArgs false
set_option linter.unusedVariables false

/-- The number that bytes i to 3 are, read from the last one on. -/
def horn (f : Nat → Nat) : Nat → Nat
  | 0 => 0
  | k + 1 => horn f k * 256 + f (3 - k)
theorem horn_num (f : Nat → Nat) : horn f 4 = num 256 f 4 := by simp [horn, num]; omega
theorem horn_lt {f : Nat → Nat} (hf : ∀ j, j < 4 → f j < 256) : ∀ k, k ≤ 4 → horn f k < 256 ^ k
  | 0, _ => by simp [horn]
  | k + 1, h => by
    have h1 := horn_lt hf k (by omega)
    have h2 := hf (3 - k) (by omega)
    rw [horn, Nat.pow_succ]
    omega
theorem openB_same {f g : Nat → Nat} {n : Nat} (h : ∀ j, j < n → f j = g j) : OpenB f n = OpenB g n := by
  unfold OpenB
  by_cases h4 : 4 ≤ n
  · rw [num_congr 4 (fun j hj => h j (by omega)), crcN_congr (f := fun j => f (4 + j)) (g := fun j => g (4 + j)) (fun j hj => h _ (by omega))]
  · simp [h4]
theorem decP_same {f g : Nat → Nat} (h : ∀ j, j < 64 → f j = g j) (hd : decP 64 f) : decP 64 g := by
  obtain ⟨h1, h2, h3, h4, h5⟩ := hd
  rw [h 12 (by omega), h 13 (by omega), h 14 (by omega)] at h4
  rw [h 14 (by omega)] at h3 h5
  exact ⟨rfl, by rw [← openB_same h]; exact h2, h3, h4, fun j h6 h7 => by rw [← h j h7]; exact h5 j h6 h7⟩
/-- Bytes are a cell's sector just if they are what would be written. -/
theorem decP_iff {f : Nat → Nat} (hf : ∀ j, j < 64 → f j < 256) (hm : mayP (f 12 : Nat) (f 13 : Nat) (f 14)) :
    decP 64 f ↔ ∀ j, j < 64 → sectF (num 256 (fun j => f (4 + j)) 4) (num 256 (fun j => f (8 + j)) 4) (f 12) (f 13) (f 14) (fun j => f (15 + j)) j = f j := by
  have hg : num 256 (fun j => f (4 + j)) 4 < 4294967296 := num4_lt (fun j hj => hf _ (by omega)) (Nat.le_refl _)
  have hs : num 256 (fun j => f (8 + j)) 4 < 4294967296 := num4_lt (fun j hj => hf _ (by omega)) (Nat.le_refl _)
  have hm2 := hm
  unfold mayP at hm2
  have hk : f 14 ≤ 49 := by omega
  have dg := (four_num (f := fun j => f (4 + j)) (fun j hj => hf _ (by omega)) hg).1 rfl
  have ds := (four_num (f := fun j => f (8 + j)) (fun j hj => hf _ (by omega)) hs).1 rfl
  constructor
  · rintro ⟨_, h2, h3, _, h5⟩
    have body : ∀ j, j < 60 → bodyF (num 256 (fun j => f (4 + j)) 4) (num 256 (fun j => f (8 + j)) 4) (f 12) (f 13) (f 14) (fun j => f (15 + j)) j = f (4 + j) := fun j hj => by
      unfold bodyF
      by_cases c1 : j < 4
      · rw [if_pos c1]; exact (dg j c1).symm
      rw [if_neg c1]
      by_cases c2 : j < 8
      · rw [if_pos c2, ← ds (j - 4) (by omega)]
        exact congrArg f (by omega)
      rw [if_neg c2]
      by_cases c3 : j = 8
      · rw [if_pos c3, c3]
      rw [if_neg c3]
      by_cases c4 : j = 9
      · rw [if_pos c4, c4]
      rw [if_neg c4]
      by_cases c5 : j = 10
      · rw [if_pos c5, c5]
      rw [if_neg c5]
      by_cases c6 : j < 11 + f 14
      · rw [if_pos c6]
        exact congrArg f (by omega)
      · rw [if_neg c6]
        exact (h5 (4 + j) (by omega) (by omega)).symm
    intro j hj
    unfold sectF
    by_cases c : j < 4
    · unfold sealF
      rw [if_pos c, crcN_congr body]
      rw [openB_is (by omega), decide_eq_true_eq] at h2
      have hcl : crcN (fun j => f (4 + j)) 60 < 4294967296 := crcN_lt fun j hj => hf _ (by omega)
      exact ((four_num (f := f) (fun j hj => hf _ (by omega)) hcl).1 h2 j c).symm
    · obtain ⟨i, rfl⟩ : ∃ i, j = 4 + i := ⟨j - 4, by omega⟩
      rw [seal_behind]
      exact body i (by omega)
  · intro h
    exact decP_same h (sect_dec hg hs hm (fun j hj => hf _ (by omega))).1
end Go.Proofs.Yteeomidlnijfbaa
