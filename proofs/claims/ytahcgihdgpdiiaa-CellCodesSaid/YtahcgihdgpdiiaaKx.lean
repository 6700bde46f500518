/- Contracts of the document's own: a word's bytes, a cell as a sector. -/
import Derived.Test.YtahcgihdgpdiiaaKo
import Derived.Deep.RegionHeld3
import Derived.Deep.RegionLaw
import Derived.Maps.AppendAt
import Derived.IntWalk
namespace Go.Proofs.Ytahcgihdgpdiiaa
open Go.RowKit
set_option linter.unusedSimpArgs false
set_option linter.unusedVariables false

theorem step_app_at {P : Program} {ops : Array Oper} {o : Oper} {a : Act} {w : World} {KK : Act → World → Prop} {Q : Exit → Act → World → Prop} {E : Prop} (hgd : o.guard = none) (s x : Operand) (t : TypeId)
    (ho : o.op = .call { callee := .builtin .append, args := #[s, x], argTypes := #[t, t] })
    (K : IntKind) (e : TypeId) (ht : P.underlying t = some (.slice e)) (bytes : Nat) (hinfo : (P.info? e).map (fun i => (i.zero, i.size, i.bytes)) = some (some (.int K 0), 1, bytes)) (hby : bytes ≤ 8)
    (base : Nat) (v : Value) (n : Nat) (f : Nat → Nat) (hs : a.eval s = v) (hown : Own K e w base v n f)
    (ad : Addr) (m c : Nat) (g : Nat → Nat) (hx : a.eval x = .slice (some ad) m c) (hr : Rd K w (some ad) m g)
    (hnm : n + m ≤ 17592186044416) (hbase : base ≤ w.heap.size)
    (h : ∀ v' w', Own K e w' base v' (n + m) (appF f n g) → w.grownBy w' v.ownBlock → (v'.ownBlock = v.ownBlock ∨ v'.ownBlock = some w.heap.size) → KK (a.put o.dst v') w') :
    if Region.wanted o (yielded ops a.tmps) = true then Oper.wp P o a w KK Q else E := by
  have hw : Region.wanted o (yielded ops a.tmps) = true := by simp [Region.wanted, hgd]
  rw [if_pos hw]
  obtain ⟨i, hi, hz0, hz1, hz2⟩ := info_parts hinfo
  have hb : (n + m) * bytes ≤ 140737488355328 := by
    have : (n + m) * bytes ≤ 17592186044416 * 8 := Nat.mul_le_mul hnm hby
    omega
  obtain ⟨v', w', hrun, h2, h3, _, h5⟩ := run_append_own_at w base t o.type e i (.int K 0) 1 bytes ht hi hz0 hz1 hz2 rfl (by omega) v n _ hown ad m c ((List.range m).map fun j => Value.int K (g j : Nat)) (by simp)
    (fun j u hu => by
      have hj : j < m := by
        rcases Nat.lt_or_ge j m with hh | hh
        · exact hh
        · rw [List.getElem?_eq_none (by simpa using hh)] at hu; cases hu
      simp [hj] at hu
      rw [hr.at_ hj, hu])
    (fun u hu => by
      simp at hu
      obtain ⟨j, _, rfl⟩ := hu
      rfl) (by simp only [maxLen]; omega) hb hbase
  rw [map_app] at h2
  unfold Oper.wp
  simp [execOp, ho, resolve, invoke, builtin, hs, hx, hrun, Result.andThen]
  exact h v' w' h2 h3 h5

theorem step_app {P : Program} {ops : Array Oper} {o : Oper} {a : Act} {w : World} {KK : Act → World → Prop} {Q : Exit → Act → World → Prop} {E : Prop} (hgd : o.guard = none) (s x : Operand) (t : TypeId)
    (ho : o.op = .call { callee := .builtin .append, args := #[s, x], argTypes := #[t, t] })
    (K : IntKind) (e : TypeId) (ht : P.underlying t = some (.slice e)) (bytes : Nat) (hinfo : (P.info? e).map (fun i => (i.zero, i.size, i.bytes)) = some (some (.int K 0), 1, bytes)) (hby : bytes ≤ 8)
    (base : Nat) (v : Value) (n : Nat) (f : Nat → Nat) (hs : a.eval s = v) (hown : Own K e w base v n f)
    (A : Option Addr) (m c : Nat) (g : Nat → Nat) (hx : a.eval x = .slice A m c) (hr : Rd K w A m g) (hA : A = none → m = 0 ∧ c = 0)
    (hnm : n + m ≤ 17592186044416) (hbase : base ≤ w.heap.size)
    (h : ∀ v' w', Own K e w' base v' (n + m) (appF f n g) → Below base w w' → w.heap.size ≤ w'.heap.size → KK (a.put o.dst v') w') :
    if Region.wanted o (yielded ops a.tmps) = true then Oper.wp P o a w KK Q else E := by
  rcases A with _ | ad
  · obtain ⟨rfl, rfl⟩ := hA rfl
    have hw : Region.wanted o (yielded ops a.tmps) = true := by simp [Region.wanted, hgd]
    rw [if_pos hw]
    obtain ⟨i, hi, _, hz1, _⟩ := info_parts hinfo
    have hrun := run_append_owned_none (P := P) (w := w) base t o.type e i 1 ht hi v n _ hown
    unfold Oper.wp
    simp [execOp, ho, resolve, invoke, builtin, hs, hx, hrun, Result.andThen]
    exact h v w (hown.congr fun j hj => by simp [appF, hj]) (Below.refl _ _) (Nat.le_refl _)
  · exact step_app_at hgd s x t ho K e ht bytes hinfo hby base v n f hs hown ad m c g hx hr hnm hbase fun v' w' h1 h2 _ =>
      h v' w' h1 ((Below.refl _ _).grown h2 hbase fun k hk => (World.ownsRow.lt hown k hk).1) h2.size


def wordF (x : Nat) : Nat → Nat := fun j => x / 256 ^ j % 256
set_option maxHeartbeats 1000000 in
theorem word_any (x : Nat) (w : World) (hx : x < 4294967296) :
    Calls Try.prog 35 #[.int .u32 (x : Nat)] w fun e w' => (∃ v, e = .returned v ∧ Own .u8 5 w' w.heap.size v 4 (wordF x)) ∧ Below w.heap.size w w' := by
  have HO := Lib.hid ((own_seal8 w x (fun _ => 0) hx).congr (f' := wordF x) fun j hj => by unfold sealF wordF; rw [if_pos hj])
  have HB := Lib.hid (below_new w (.cells #[.int .u8 ((x : Int) % 256), .int .u8 ((x : Int) / 256 % 256), .int .u8 ((x : Int) / 65536 % 256), .int .u8 ((x : Int) / 16777216)] 5))
  go_enter Try.func35, Try.ntmps35
  go_wp2
  go_ret
  exact ⟨⟨_, rfl, HO.out⟩, HB.out⟩
def three (p q n : Nat) : Nat → Nat := fun j => if j = 0 then p else if j = 1 then q else n
theorem rd_three (w : World) (p q n : Nat) : Rd .u8 (w.alloc (.cells #[.int .u8 (p : Nat), .int .u8 (q : Nat), .int .u8 (n : Nat)] 5)) (some ⟨w.heap.size, 0, none⟩) 3 (three p q n) :=
  (row_new (K := .u8) (t := 5) w _ 3 (three p q n) rfl fun j hj => by
    have : j = 0 ∨ j = 1 ∨ j = 2 := by omega
    rcases this with rfl | rfl | rfl <;> rfl).rd0 (Nat.le_refl _)
theorem body_app (g s p q n : Nat) (f : Nat → Nat) : ∀ j, j < 11 + n → appF (appF (appF (wordF g) 4 (wordF s)) 8 (three p q n)) 11 f j = bodyF g s p q n f j := fun j hj => by
  unfold appF wordF three bodyF
  by_cases h1 : j < 4
  · rw [if_pos (by omega), if_pos (by omega), if_pos h1, if_pos h1]
  by_cases h2 : j < 8
  · rw [if_pos (by omega), if_pos h2, if_neg h1, if_neg h1, if_pos h2]
  by_cases h3 : j < 11
  · rw [if_pos h3, if_neg h2, if_neg h1, if_neg h2]
    have : j = 8 ∨ j = 9 ∨ j = 10 := by omega
    rcases this with rfl | rfl | rfl <;> simp
  · rw [if_neg h3, if_neg h1, if_neg h2, if_neg (by omega), if_neg (by omega), if_neg (by omega), if_pos hj]

end Go.Proofs.Ytahcgihdgpdiiaa
