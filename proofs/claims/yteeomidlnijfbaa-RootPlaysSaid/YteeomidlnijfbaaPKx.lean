/- Contract: are two rows of bytes the same? -/
import Derived.Test.YteeomidlnijfbaaPKa
import Derived.Test.YteeomidlnijfbaaPKb
import Derived.Test.YteeomidlnijfbaaPKf
import Derived.RangeFuncBox
import Derived.RangeFuncLeaves
import Derived.Shelf.Abstract
import Derived.OwnWalkIn
import Derived.TacticsInMore
import Derived.LoopNIn
import Derived.LoopIn
import Derived.IntWalk
import Derived.Test.YteeomidlnijfbaaPKd
import Derived.Laws.AppendOwn
import Derived.Maps.AppendAt
import Derived.Deep.RegionHeld3
import Derived.Deep.RegionLaw
namespace Go.Proofs.Yteeomidlnijfbaa
open Go.RowKit
set_option linter.unusedSimpArgs false
set_option linter.unusedVariables false

def RowsPost (w w' : World) (e : Ending) (n m : Nat) (f h : Nat → Nat) : Prop := (∃ b, e = .returned (.bool b) ∧ (b = true ↔ n = m ∧ ∀ j, j < n → f j = h j)) ∧ Below w.heap.size w w'
set_option maxRecDepth 100000 in
set_option maxHeartbeats 2000000 in
theorem rows_any (A : Option Addr) (n c : Nat) (f : Nat → Nat) (B : Option Addr) (m d : Nat) (h : Nat → Nat) (w : World) (ha : Rd .u8 w A n f) (hb : Rd .u8 w B m h) (hf : ∀ j, j < n → f j < 256) (hh : ∀ j, j < m → h j < 256) (hn : n ≤ 4611686018427387904) (hm : m ≤ 4611686018427387904) :
    Calls Try.prog 61 #[.slice A n c, .slice B m d] w fun e w' => RowsPost w w' e n m f h := by
  by_cases hnm : n = m
  · subst hnm
    go_enter Try.func61, Try.ntmps61
    go_wp2
    go_loopw [5] (fun v wr => ∃ k : Nat, k ≤ n ∧ v = .int .i64 k ∧ Below w.heap.size w wr ∧ ∀ j, j < k → f j = h j) (fun v _ => n - (intOf v).toNat)
    case atStart => exact ⟨0, Nat.zero_le _, rfl, Below.refl _ _, fun j hj => absurd hj (by omega)⟩
    case round =>
      obtain ⟨k, hk, rfl, hbl, hE⟩ := hrel
      have HA := Lib.hid ha
      have HB := Lib.hid hb
      have HF := Lib.hid hf
      have HH := Lib.hid hh
      have HE := Lib.hid hE
      clear ha hb hf hh hE
      by_cases hlt : k < n
      · obtain ⟨ad, rfl, hc1⟩ := (HA.out.below hbl) k hlt
        obtain ⟨bd, rfl, hc2⟩ := (HB.out.below hbl) k hlt
        by_cases hq : f k = h k
        · have HQ := Lib.hid hq
          rw [← hq] at hc2
          clear hq
          go_wp2
          go_quiet (fail)
          go_wp2
          go_roundw
          case rel => exact ⟨k + 1, by omega, by go_num, Below.drewN_ hbl _, fun j hj => by
            by_cases hjk : j = k
            · subst hjk; exact HQ.out
            · exact HE.out j (by omega)⟩
          case measure => simp [intOf]; omega
        · have hne : ((f k : Int) != (h k : Int)) = true := by rw [bne_iff_ne]; omega
          have hne2 : ¬ ((f k : Int) = (h k : Int)) := by omega
          have HQ := Lib.hid hq
          clear hq
          go_wp2
          go_quiet (fail)
          go_wp2
          go_ret
          exact ⟨⟨_, rfl, by simp; exact ⟨k, hlt, HQ.out⟩⟩, Below.drewN_ hbl _⟩
      · go_wp2
        go_ret
        obtain rfl : k = n := by omega
        exact ⟨⟨_, rfl, by simp; exact HE.out⟩, hbl⟩
  · have hne : ((n : Int) != (m : Int)) = true := by rw [bne_iff_ne]; omega
    have HQ := Lib.hid hnm
    have hn2 : ¬ ((n : Int) = (m : Int)) := by omega
    clear hnm
    go_enter Try.func61, Try.ntmps61
    go_wp2
    go_ret
    exact ⟨⟨_, rfl, by simp; intro h; exact absurd h HQ.out⟩, Below.refl _ _⟩
theorem rows_by {w : World} {v1 v2 : Value} {n m : Nat} {f g : Nat → Nat} (h1 : Byt w v1 n f) (h2 : Byt w v2 m g) (hn : n ≤ 4611686018427387904) (hm : m ≤ 4611686018427387904) :
    Calls Try.prog 61 #[v1, v2] w fun e w' => RowsPost w w' e n m f g := by
  obtain ⟨A, c, rfl, _, a1, a2⟩ := h1
  obtain ⟨B, d, rfl, _, b1, b2⟩ := h2
  exact rows_any A n c f B m d g w a1 b1 a2 b2 hn hm
end Go.Proofs.Yteeomidlnijfbaa

/- What is encoded is decoded; what is split is joined; the contracts in the words of the laws. -/
namespace Go.Proofs.Yteeomidlnijfbaa
open Go.RowKit
set_option linter.unusedSimpArgs false
set_option linter.unusedVariables false

theorem sect_body (g s p q n : Nat) (f : Nat → Nat) (j : Nat) : sectF g s p q n f (4 + j) = bodyF g s p q n f j := seal_behind _ _ _
theorem num_word {x : Nat} {h : Nat → Nat} (hx : x < 4294967296) (hh : ∀ j, j < 4 → h j = x / 256 ^ j % 256) : num 256 h 4 = x :=
  (four_num (fun j hj => by rw [hh j hj]; exact Nat.mod_lt _ (by decide)) hx).2 hh
theorem sect_dec {g s p q n : Nat} {f : Nat → Nat} (hg : g < 4294967296) (hs : s < 4294967296) (hm : mayP (p : Nat) (q : Nat) n) (hf : ∀ j, j < n → f j < 256) :
    decP 64 (sectF g s p q n f) ∧ num 256 (fun j => sectF g s p q n f (4 + j)) 4 = g ∧ num 256 (fun j => sectF g s p q n f (8 + j)) 4 = s ∧ sectF g s p q n f 12 = p ∧ sectF g s p q n f 13 = q ∧ sectF g s p q n f 14 = n ∧ ∀ j, j < n → sectF g s p q n f (15 + j) = f j := by
  have hm2 := hm
  unfold mayP at hm2
  have e12 : sectF g s p q n f 12 = p := by rw [show 12 = 4 + 8 from rfl, sect_body]; simp [bodyF]
  have e13 : sectF g s p q n f 13 = q := by rw [show 13 = 4 + 9 from rfl, sect_body]; simp [bodyF]
  have e14 : sectF g s p q n f 14 = n := by rw [show 14 = 4 + 10 from rfl, sect_body]; simp [bodyF]
  refine ⟨⟨rfl, openB_seal (bodyF_lt (by omega) (by omega) (by omega) hf), by rw [e14]; omega, by rw [e12, e13, e14]; exact hm, fun j h1 h2 => ?_⟩, num_word hg fun j hj => ?_, num_word hs fun j hj => ?_, e12, e13, e14, fun j hj => ?_⟩
  · rw [e14] at h1
    rw [show j = 4 + (j - 4) from by omega, sect_body]
    unfold bodyF
    rw [if_neg (by omega), if_neg (by omega), if_neg (by omega), if_neg (by omega), if_neg (by omega), if_neg (by omega)]
  · show sectF g s p q n f (4 + j) = _
    rw [sect_body]
    unfold bodyF
    rw [if_pos hj]
  · show sectF g s p q n f (8 + j) = _
    rw [show 8 + j = 4 + (4 + j) from by omega, sect_body]
    unfold bodyF
    rw [if_neg (by omega), if_pos (by omega), Nat.add_sub_cancel_left]
  · rw [show 15 + j = 4 + (11 + j) from by omega, sect_body]
    unfold bodyF
    rw [if_neg (by omega), if_neg (by omega), if_neg (by omega), if_neg (by omega), if_neg (by omega), if_pos (by omega), Nat.add_sub_cancel_left]

/-- A cell's value, by whatever numbers. -/
abbrev cellI (g s p q : Int) (A : Option Addr) (n c : Nat) : Value := .agg #[.int .u32 g, .int .u32 s, .int .i64 p, .int .i64 q, .slice A n c]
def u32I (g : Int) : Prop := 0 ≤ g ∧ g < 4294967296
section
variable {w : World} {g s p q : Int} {A : Option Addr} {n c : Nat} {f : Nat → Nat} {v : Value}
theorem encode_i (hg : u32I g) (hs : u32I s) (hr : Rd .u8 w A n f) (hf : ∀ j, j < n → f j < 256) (hm : mayP p q n) : Calls Try.prog 68 #[cellI g s p q A n c] w fun e w' => (∃ v, e = .returned (.tuple #[v, .int .i64 0]) ∧ Byt w' v 64 (sectF g.toNat s.toNat p.toNat q.toNat n f)) ∧ Below w.heap.size w w' := by
  have hm2 := hm
  unfold mayP at hm2
  obtain ⟨g, rfl⟩ : ∃ k : Nat, g = k := ⟨g.toNat, by unfold u32I at hg; omega⟩
  obtain ⟨s, rfl⟩ : ∃ k : Nat, s = k := ⟨s.toNat, by unfold u32I at hs; omega⟩
  obtain ⟨p, rfl⟩ : ∃ k : Nat, p = k := ⟨p.toNat, by omega⟩
  obtain ⟨q, rfl⟩ : ∃ k : Nat, q = k := ⟨q.toNat, by omega⟩
  have := encode_yes g s p q A n c f w (by unfold u32I at hg; omega) (by unfold u32I at hs; omega) hr hf hm
  simpa using this
theorem decode_ino {m : Nat} {h : Nat → Nat} (hv : Byt w v m h) (hm : m ≤ 9223372036854775807) (hd : ¬ decP m h) :
    Calls Try.prog 72 #[v] w fun e w' => e = .returned (.tuple #[cellI 0 0 0 0 none 0 0, .int .i64 2]) ∧ Below w.heap.size w w' := by
  refine (decode_by hv hm).mono ?_
  rintro e w' ⟨hp, hb⟩
  rcases hp with ⟨hy, _⟩ | ⟨_, he⟩
  · exact absurd hy hd
  · exact ⟨he, hb⟩
end
end Go.Proofs.Yteeomidlnijfbaa

/- Contracts of the document's own: a word's bytes, a cell as a sector. -/
namespace Go.Proofs.Yteeomidlnijfbaa
open Go.RowKit
set_option linter.unusedSimpArgs false
set_option linter.unusedVariables false

theorem step_app_at {P : Program} {ops : Array Oper} {o : Oper} {a : Act} {w : World} {KK : Act → World → Prop} {Q : Exit → Act → World → Prop} {E : Prop} (hgd : o.guard = none) (s x : Operand) (t : TypeId)
    (ho : o.op = .call { callee := .builtin .append, args := #[s, x], argTypes := #[t, t] })
    (K : IntKind) (e : TypeId) (ht : P.underlying t = some (.slice e)) (bytes : Nat) (hinfo : (P.info? e).map (fun i => (i.zero, i.size, i.bytes)) = some (some (.int K 0), 1, bytes)) (hby : bytes ≤ 8)
    (base : Nat) (v : Value) (n : Nat) (f : Nat → Nat) (hs : a.eval s = v) (hown : Own K e w base v n f)
    (ad : Addr) (m c : Nat) (g : Nat → Nat) (hx : a.eval x = .slice (some ad) m c) (hr : Rd K w (some ad) m g)
    (hnm : n + m ≤ 17592186044416) (hbase : base ≤ w.heap.size)
    (h : ∀ v' w', Own K e w' base v' (n + m) (appF f n g) → w.grownBy w' v.ownBlock → (v'.ownBlock = v.ownBlock ∨ v'.ownBlock = some w.heap.size) → KK (a.put o.dst v') w') :
    if Region.wanted o (yielded ops a.tmps) = true then Oper.wp P o a w KK Q else E := by
  have hw : Region.wanted o (yielded ops a.tmps) = true := by simp [Region.wanted, hgd]
  rw [if_pos hw]
  obtain ⟨i, hi, hz0, hz1, hz2⟩ := info_parts hinfo
  have hb : (n + m) * bytes ≤ 140737488355328 := by
    have : (n + m) * bytes ≤ 17592186044416 * 8 := Nat.mul_le_mul hnm hby
    omega
  obtain ⟨v', w', hrun, h2, h3, _, h5⟩ := run_append_own_at w base t o.type e i (.int K 0) 1 bytes ht hi hz0 hz1 hz2 rfl (by omega) v n _ hown ad m c ((List.range m).map fun j => Value.int K (g j : Nat)) (by simp)
    (fun j u hu => by
      have hj : j < m := by
        rcases Nat.lt_or_ge j m with hh | hh
        · exact hh
        · rw [List.getElem?_eq_none (by simpa using hh)] at hu; cases hu
      simp [hj] at hu
      rw [hr.at_ hj, hu])
    (fun u hu => by
      simp at hu
      obtain ⟨j, _, rfl⟩ := hu
      rfl) (by simp only [maxLen]; omega) hb hbase
  rw [map_app] at h2
  unfold Oper.wp
  simp [execOp, ho, resolve, invoke, builtin, hs, hx, hrun, Result.andThen]
  exact h v' w' h2 h3 h5

theorem step_app {P : Program} {ops : Array Oper} {o : Oper} {a : Act} {w : World} {KK : Act → World → Prop} {Q : Exit → Act → World → Prop} {E : Prop} (hgd : o.guard = none) (s x : Operand) (t : TypeId)
    (ho : o.op = .call { callee := .builtin .append, args := #[s, x], argTypes := #[t, t] })
    (K : IntKind) (e : TypeId) (ht : P.underlying t = some (.slice e)) (bytes : Nat) (hinfo : (P.info? e).map (fun i => (i.zero, i.size, i.bytes)) = some (some (.int K 0), 1, bytes)) (hby : bytes ≤ 8)
    (base : Nat) (v : Value) (n : Nat) (f : Nat → Nat) (hs : a.eval s = v) (hown : Own K e w base v n f)
    (A : Option Addr) (m c : Nat) (g : Nat → Nat) (hx : a.eval x = .slice A m c) (hr : Rd K w A m g) (hA : A = none → m = 0 ∧ c = 0)
    (hnm : n + m ≤ 17592186044416) (hbase : base ≤ w.heap.size)
    (h : ∀ v' w', Own K e w' base v' (n + m) (appF f n g) → Below base w w' → w.heap.size ≤ w'.heap.size → KK (a.put o.dst v') w') :
    if Region.wanted o (yielded ops a.tmps) = true then Oper.wp P o a w KK Q else E := by
  rcases A with _ | ad
  · obtain ⟨rfl, rfl⟩ := hA rfl
    have hw : Region.wanted o (yielded ops a.tmps) = true := by simp [Region.wanted, hgd]
    rw [if_pos hw]
    obtain ⟨i, hi, _, hz1, _⟩ := info_parts hinfo
    have hrun := run_append_owned_none (P := P) (w := w) base t o.type e i 1 ht hi v n _ hown
    unfold Oper.wp
    simp [execOp, ho, resolve, invoke, builtin, hs, hx, hrun, Result.andThen]
    exact h v w (hown.congr fun j hj => by simp [appF, hj]) (Below.refl _ _) (Nat.le_refl _)
  · exact step_app_at hgd s x t ho K e ht bytes hinfo hby base v n f hs hown ad m c g hx hr hnm hbase fun v' w' h1 h2 _ =>
      h v' w' h1 ((Below.refl _ _).grown h2 hbase fun k hk => (World.ownsRow.lt hown k hk).1) h2.size


def wordF (x : Nat) : Nat → Nat := fun j => x / 256 ^ j % 256
set_option maxRecDepth 100000 in
set_option maxHeartbeats 1000000 in
theorem word_any (x : Nat) (w : World) (hx : x < 4294967296) :
    Calls Try.prog 82 #[.int .u32 (x : Nat)] w fun e w' => (∃ v, e = .returned v ∧ Own .u8 5 w' w.heap.size v 4 (wordF x)) ∧ Below w.heap.size w w' := by
  have HO := Lib.hid ((own_seal8 w x (fun _ => 0) hx).congr (f' := wordF x) fun j hj => by unfold sealF wordF; rw [if_pos hj])
  have HB := Lib.hid (below_new w (.cells #[.int .u8 ((x : Int) % 256), .int .u8 ((x : Int) / 256 % 256), .int .u8 ((x : Int) / 65536 % 256), .int .u8 ((x : Int) / 16777216)] 5))
  go_enter Try.func82, Try.ntmps82
  go_wp2
  go_ret
  exact ⟨⟨_, rfl, HO.out⟩, HB.out⟩
def three (p q n : Nat) : Nat → Nat := fun j => if j = 0 then p else if j = 1 then q else n
theorem rd_three (w : World) (p q n : Nat) : Rd .u8 (w.alloc (.cells #[.int .u8 (p : Nat), .int .u8 (q : Nat), .int .u8 (n : Nat)] 5)) (some ⟨w.heap.size, 0, none⟩) 3 (three p q n) :=
  (row_new (K := .u8) (t := 5) w _ 3 (three p q n) rfl fun j hj => by
    have : j = 0 ∨ j = 1 ∨ j = 2 := by omega
    rcases this with rfl | rfl | rfl <;> rfl).rd0 (Nat.le_refl _)
theorem body_app (g s p q n : Nat) (f : Nat → Nat) : ∀ j, j < 11 + n → appF (appF (appF (wordF g) 4 (wordF s)) 8 (three p q n)) 11 f j = bodyF g s p q n f j := fun j hj => by
  unfold appF wordF three bodyF
  by_cases h1 : j < 4
  · rw [if_pos (by omega), if_pos (by omega), if_pos h1, if_pos h1]
  by_cases h2 : j < 8
  · rw [if_pos (by omega), if_pos h2, if_neg h1, if_neg h1, if_pos h2]
  by_cases h3 : j < 11
  · rw [if_pos h3, if_neg h2, if_neg h1, if_neg h2]
    have : j = 8 ∨ j = 9 ∨ j = 10 := by omega
    rcases this with rfl | rfl | rfl <;> simp
  · rw [if_neg h3, if_neg h1, if_neg h2, if_neg (by omega), if_neg (by omega), if_neg (by omega), if_pos hj]

end Go.Proofs.Yteeomidlnijfbaa
