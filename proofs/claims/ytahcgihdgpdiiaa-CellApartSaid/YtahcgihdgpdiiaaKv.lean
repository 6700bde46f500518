/- The walk of CellApart. -/
import Derived.Test.YtahcgihdgpdiiaaKu
namespace Go.Proofs.Ytahcgihdgpdiiaa
open Go.RowKit
set_option linter.unusedSimpArgs false
set_option linter.unusedVariables false

/-- append of known cells to a slice of one's own, as one step of a region that draws its order. -/
theorem step_append_at {P : Program} {w : World} {ops : Array Oper} {o : Oper} {a : Act} {KK : Act → World → Prop} {Q : Exit → Act → World → Prop} {E : Prop} (hgd : o.guard = none) (s x : Operand) (t : TypeId)
    (ho : o.op = .call { callee := .builtin .append, args := #[s, x], argTypes := #[t, t] })
    (base : Nat) (e : TypeId) (z : Value) (size bytes : Nat) (ht : P.underlying t = some (.slice e)) (hinfo : (P.info? e).map (fun i => (i.zero, i.size, i.bytes)) = some (some z, size, bytes)) (hzs : z.cells.size = size) (hsz : 0 < size)
    (v : Value) (n : Nat) (xs : List Value) (hs : a.eval s = v) (hown : w.ownsRow base e size v n xs)
    (ad : Addr) (m c : Nat) (news : List Value) (hx : a.eval x = .slice (some ad) m c) (hl : news.length = m * size) (hnews : ∀ j u, news[j]? = some u → w.cell? (ad.add j) = some u) (h1 : ∀ u ∈ news, u.oneCell' = true)
    (h63 : n + m ≤ maxLen) (hbytes : (n + m) * bytes ≤ 140737488355328) (hbase : base ≤ w.heap.size)
    (h : ∀ v' w', w'.ownsRow base e size v' (n + m) (xs ++ news) → w.grownBy w' v.ownBlock → (v'.ownBlock = v.ownBlock ∨ v'.ownBlock = some w.heap.size) → KK (a.put o.dst v') w') :
    if Region.wanted o (yielded ops a.tmps) = true then Oper.wp P o a w KK Q else E := by
  have hw : Region.wanted o (yielded ops a.tmps) = true := by simp [Region.wanted, hgd]
  rw [if_pos hw]
  obtain ⟨i, hi, hzz⟩ := Option.map_eq_some_iff.1 hinfo
  simp only [Prod.mk.injEq] at hzz
  obtain ⟨hz0, hz1, hz2⟩ := hzz
  obtain ⟨v', w', hrun, h2, h3, _, h5⟩ := run_append_own_at (P := P) w base t o.type e i z size bytes ht hi hz0 hz1 hz2 hzs hsz v n xs hown ad m c news hl hnews h1 h63 hbytes hbase
  unfold Oper.wp
  simp [execOp, ho, resolve, invoke, builtin, hs, hx, hrun, Result.andThen]
  exact h v' w' h2 h3 h5

theorem step_app_cells {P : Program} (hP : P = Try.prog) {w : World} {ops : Array Oper} {o : Oper} {a : Act} {KK : Act → World → Prop} {Q : Exit → Act → World → Prop} {E : Prop} (hgd : o.guard = none) (s x : Operand)
    (ho : o.op = .call { callee := .builtin .append, args := #[s, x], argTypes := #[34, 34] })
    (base : Nat) (v : Value) (n : Nat) (X : Nat → CellD) (hs : a.eval s = v) (hown : OwnC w base v n X) (ad : Addr) (m c : Nat) (Y : Nat → CellD) (hx : a.eval x = .slice (some ad) m c) (hY : CellsAt w (some ad) m Y) (hnm : n + m ≤ 1000000) (hbase : base ≤ w.heap.size)
    (h : ∀ v' w', OwnC w' base v' (n + m) (appX X n Y) → Below base w w' → w.heap.size ≤ w'.heap.size → KK (a.put o.dst v') w') :
    if Region.wanted o (yielded ops a.tmps) = true then Oper.wp P o a w KK Q else E := by
  subst hP
  refine step_append_at hgd s x 34 ho base 25 _ 5 48 Try.underlying34 cell48 rfl (by omega) v n (rowL X n) hs hown ad m c (rowL Y m) hx (rowL_len Y m) hY.row (rowL_one Y m) (by simp only [maxLen]; omega) (by omega) hbase ?_
  intro v' w' h1 h2 h3
  refine h v' w' ?_ ((Below.refl _ _).grown h2 hbase fun k hk => (World.ownsRow.lt hown k hk).1) h2.size
  unfold OwnC
  rw [rowL_app]
  exact h1
theorem el34 : Try.prog.underlying 34 = some (.slice (Try.prog.elem 34)) := by kernel_rfl
theorem sz34 (w : World) : (sizeOf (Try.prog.elem 34)).run Try.prog w = .ok 5 w := by kernel_rfl
theorem front_at (ad : Addr) (n c l : Nat) (hc : n ≤ c) (hl : l ≤ n) (wq : World) (L : Int) (hL : L = l) : (Instr.slice 34 (.slice (some ad) n c) none (some (.int .i64 L)) none).run Try.prog wq = .ok (.slice (some ad) l c) wq := by
  subst hL
  rw [run_slice_h wq 34 (some ad) n c el34 .i64 l (by omega) (by omega), sz34]
  simp only [Result.andThen, sliced, Int.toNat_natCast, Nat.zero_mul, Option.map_some, Nat.sub_zero]
  split <;> rfl
theorem back_at (ad : Addr) (n c l : Nat) (X : Nat → CellD) (w : World) (h : CellsAt w (some ad) n X) (hc : n ≤ c) (hl : l ≤ n) :
    ∃ B : Addr, (∀ (wq : World) (L : Int), L = l → (Instr.slice 34 (.slice (some ad) n c) (some (.int .i64 L)) none none).run Try.prog wq = .ok (.slice (some B) (n - l) (c - l)) wq) ∧ CellsAt w (some B) (n - l) (fun i => X (l + i)) := by
  refine ⟨if c = l then ad else ad.add (l * 5), fun wq L hL => ?_, ?_⟩
  · subst hL
    rw [run_slice_l wq 34 (some ad) n c el34 .i64 l (by omega) (by omega), sz34]
    simp only [Result.andThen, sliced, Int.toNat_natCast, Option.map_some]
    split <;> rfl
  · by_cases h1 : c = l
    · obtain rfl : l = n := by omega
      rw [Nat.sub_self]
      exact fun i hi => absurd hi (by omega)
    · rw [if_neg h1]
      intro i hi
      refine ⟨_, rfl, ?_⟩
      rw [add_add, show l * 5 + i * 5 = (l + i) * 5 from by omega]
      exact h.at_ (by omega)

def ApartPost (w w' : World) (e : Ending) : Prop := e = .returned (.bool true) ∧ Below w.heap.size w w'
theorem u32_5 : u32I 5 := by unfold u32I; omega
theorem u32_6 : u32I 6 := by unfold u32I; omega

section
variable (A : Option Addr) (n c : Nat) (f : Nat → Nat) (A2 : Option Addr) (m c2 : Nat) (h : Nat → Nat) (t : Nat) (w : World)
set_option maxHeartbeats 1000000 in
theorem apart_no1 (hv : Byt w (.slice A n c) n f) (hn : n ≤ 9223372036854775807) (hv2 : Byt w (.slice A2 m c2) m h) (hm : m ≤ 9223372036854775807) (hz : needF n = 0) :
    Calls Try.prog 5 #[.slice A n c, .slice A2 m c2, .int .u8 (t : Nat)] w fun e w' => ApartPost w w' e := by
  have HV := Lib.hid hv
  have HV2 := Lib.hid hv2
  have HZ := Lib.hid hz
  clear hv hv2 hz
  have tok1 : True := trivial
  by_cases hz2 : needF m = 0
  · have HZ2 := Lib.hid hz2
    clear hz2
    go_enter Try.func5, Try.ntmps5
    go_wp2_with (first
      | (go_at_call 10; refine (awake_any _).mono ?_; rintro e w1 ⟨rfl, hb1⟩)
      | (go_at_call 20; have _t := tok1; clear _t tok1; refine Calls.mono (split_ino u32_1 u32_5 (HV.out.below hb1) hn HZ.out) ?_; rintro e w2 ⟨rfl, hb2⟩; have hb3 := bbt hb1 hb2)
      | (go_at_call 20; refine Calls.mono (split_ino u32_1 u32_6 (HV2.out.below hb3) hm HZ2.out) ?_; rintro e w4 ⟨rfl, hb4⟩)
      | (go_at_call 25; refine Calls.mono (rneed_any n _ hn) ?_; rintro e w5 ⟨rfl, rfl⟩; rw [HZ.out]))
    go_ret
    exact ⟨rfl, bbt hb3 hb4⟩
  · have HZ2 := Lib.hid hz2
    have hm2 : m ≤ 392 := by have := mt need_zero.2 hz2; omega
    clear hz2
    go_enter Try.func5, Try.ntmps5
    go_wp2_with (first
      | (go_at_call 10; refine (awake_any _).mono ?_; rintro e w1 ⟨rfl, hb1⟩)
      | (go_at_call 20; have _t := tok1; clear _t tok1; refine Calls.mono (split_ino u32_1 u32_5 (HV.out.below hb1) hn HZ.out) ?_; rintro e w2 ⟨rfl, hb2⟩; have hb3 := bbt hb1 hb2)
      | (go_at_call 20; refine Calls.mono (split_i u32_1 u32_6 (HV2.out.below hb3) hm HZ2.out) ?_; rintro e w4 ⟨⟨v4, rfl, hv4⟩, hb4⟩; obtain ⟨ad4, c4, rfl, _⟩ := hv4.form)
      | (go_at_call 25; refine Calls.mono (rneed_any n _ hn) ?_; rintro e w5 ⟨rfl, rfl⟩; rw [HZ.out]))
    go_ret
    exact ⟨rfl, bbt hb3 hb4⟩
set_option maxHeartbeats 1000000 in
theorem apart_no2 (hv : Byt w (.slice A n c) n f) (hn : n ≤ 9223372036854775807) (hv2 : Byt w (.slice A2 m c2) m h) (hm : m ≤ 9223372036854775807) (hz : needF n ≠ 0) (hz2 : needF m = 0) :
    Calls Try.prog 5 #[.slice A n c, .slice A2 m c2, .int .u8 (t : Nat)] w fun e w' => ApartPost w w' e := by
  have HV := Lib.hid hv
  have HV2 := Lib.hid hv2
  have HZ := Lib.hid hz
  have HZ2 := Lib.hid hz2
  clear hv hv2 hz hz2
  have tok1 : True := trivial
  go_enter Try.func5, Try.ntmps5
  go_wp2_with (first
    | (go_at_call 10; refine (awake_any _).mono ?_; rintro e w1 ⟨rfl, hb1⟩)
    | (go_at_call 20; have _t := tok1; clear _t tok1; refine Calls.mono (split_i u32_1 u32_5 (HV.out.below hb1) hn HZ.out) ?_; rintro e w2 ⟨⟨v2, rfl, hv2⟩, hb2⟩; obtain ⟨ad2, c4, rfl, _⟩ := hv2.form; have hb3 := bbt hb1 hb2; clear hv2)
    | (go_at_call 20; refine Calls.mono (split_ino u32_1 u32_6 (HV2.out.below hb3) hm HZ2.out) ?_; rintro e w4 ⟨rfl, hb4⟩)
    | (go_at_call 25; refine Calls.mono (rneed_any m _ hm) ?_; rintro e w5 ⟨rfl, rfl⟩; rw [HZ2.out]))
  go_ret
  exact ⟨rfl, bbt hb3 hb4⟩
end
end Go.Proofs.Ytahcgihdgpdiiaa
