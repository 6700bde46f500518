/- Contracts: cells, an iterator over the cells of records; up to its region that calls. -/
import Derived.Test.YtmcbmbcfgefocaaPNj
namespace Go.Proofs.Ytmcbmbcfgefocaa
open Go.RowKit Go.Shelf
set_option linter.unusedSimpArgs false
set_option linter.unusedVariables false
attribute [local go_sem] Oper.semAt_some

/-- Lists of cells, and bytes, stay. -/
def KpC (V V' : World) : Prop := ∀ (k : Nat) c t m, V.heap[k]? = some (Obj.cells c t m) → (t = 106 ∨ t = 5) → V'.heap[k]? = some (Obj.cells c t m)
theorem KpC.trans {X Y Z : World} (h : KpC X Y) (k : KpC Y Z) : KpC X Z := fun i c t m h1 h2 => k i c t m (h i c t m h1 h2) h2
theorem kpc_put {V : World} {l : Nat} {r : Loop} (h : V.heap[l]? = some (.loop r)) (o : Obj) : KpC V (V.putObj l o) := fun k c t m h1 _ => put_other h o h1
theorem kpc_below {V V' : World} (h : Below V.heap.size V V') : KpC V V' := fun k c t m h1 _ => (h.block k (Array.getElem?_eq_some_iff.1 h1).1).trans h1
/-- A record's cells in memory, with the types of the blocks. -/
structure ListC (V : World) (ad : Addr) (N : Nat) (X : Nat → CellD) : Prop where
  at_ : CellsAt V (some ad) N X
  ty : ∃ cs m, V.heap[ad.block]? = some (Obj.cells cs 106 m)
  t8 : ∀ i, i < N → Typ8 V (.slice (X i).A (X i).n (X i).c)
theorem rd_kpc {V V' : World} (k : KpC V V') {A : Option Addr} {n c : Nat} {f : Nat → Nat} (h : Rd .u8 V A n f) (ht : Typ8 V (.slice A n c)) : Rd .u8 V' A n f ∧ Typ8 V' (.slice A n c) := by
  refine ⟨fun j hj => ?_, fun g hg => ?_⟩
  · obtain ⟨ad, e, hc⟩ := h j hj
    obtain ⟨cs, m, hk⟩ := ht ad.block (by rw [e]; rfl)
    refine ⟨ad, e, (World.cell?_of_block ?_).trans hc⟩
    rw [add_block]
    exact (k _ _ _ _ hk (.inr rfl)).trans hk.symm
  · obtain ⟨cs, m, hk⟩ := ht g hg
    exact ⟨cs, m, k _ _ _ _ hk (.inr rfl)⟩
theorem ListC.kpc {V V' : World} {ad : Addr} {N : Nat} {X : Nat → CellD} (h : ListC V ad N X) (k : KpC V V') : ListC V' ad N X := by
  obtain ⟨cs, m, hb⟩ := h.ty
  have hb' := k _ _ _ _ hb (.inl rfl)
  have hbe : V'.heap[ad.block]? = V.heap[ad.block]? := hb'.trans hb.symm
  refine ⟨fun i hi => ?_, ⟨cs, m, hb'⟩, fun i hi => (rd_kpc k (h.at_.at_ hi).2.2.2.2.2.2.1 (h.t8 i hi)).2⟩
  have hc := h.at_.at_ hi
  obtain ⟨h0, h1, h2, h3, h4, h5, h6, h7⟩ := hc
  have e1 : (ad.add (i * 5)).block = ad.block := add_block _ _
  have kk : ∀ a : Addr, a.block = ad.block → V'.cell? a = V.cell? a := fun a ha => World.cell?_of_block (by rw [ha]; exact hbe)
  refine ⟨ad, rfl, ?_, (kk _ e1).trans h1, (kk _ (by rw [add_block, e1])).trans h2, (kk _ (by rw [add_block, e1])).trans h3, (kk _ (by rw [add_block, e1])).trans h4, (kk _ (by rw [add_block, e1])).trans h5, (rd_kpc k h6 (h.t8 i hi)).1, h7⟩
  rw [e1]
  exact (Array.getElem?_eq_some_iff.1 hb').1
/-- The j-th of all cells. -/
def Says (Q : QS) (n : Nat) (R : Nat → RowD) (j : Nat) (x : CellD) : Prop := ∃ i k, i < n ∧ k < needF (R i).n ∧ j = sumN R i + k ∧ PartOf Q.gen (Q.top + 1 + i) (R i).n (R i).f k x
def CelM (gd gq Br Bq : Nat) (A : Option Addr) (n c : Nat) (R : Nat → RowD) (Q : QS) (V : World) : Prop :=
  Boxed V Br 33 (.slice A n c) ∧ Boxed V Bq 54 (.pointer (some ⟨gq, 0, none⟩)) ∧ SBox V gq gd Q ∧ RowsIn V A n R
def CelG (Q : QS) (n : Nat) (R : Nat → RowD) (pre : List CellD) (x : CellD) (V : World) : Prop := Rd .u8 V x.A x.n x.f ∧ x.good ∧ Typ8 V (.slice x.A x.n x.c) ∧ Says Q n R pre.length x
def CelS (Q : QS) (n : Nat) (R : Nat → RowD) (xs : List CellD) : Prop := xs.length = sumN R n ∧ ∀ (j : Nat) (x : CellD), xs[j]? = some x → Says Q n R j x
theorem cells_iter (gq : Nat) (A : Option Addr) (n c : Nat) (w : World) :
    Calls Try.prog 66 #[.pointer (some ⟨gq, 0, none⟩), .slice A n c] w fun e w' => e = .returned (.func (.func 76) #[] #[.pointer (some ⟨w.heap.size + 1, 0, none⟩), .pointer (some ⟨w.heap.size, 0, none⟩)]) ∧
      w' = (w.alloc (.cells #[.pointer (some ⟨gq, 0, none⟩)] 54)).alloc (.cells #[.slice A n c] 33) := by
  go_enter Try.func66, Try.ntmps66
  go_wp2
  go_ret
  exact ⟨by simp, rfl⟩
theorem csplit_any {g s n : Nat} {v : Value} {f : Nat → Nat} {w : World} (hg : g < 4294967296) (hs : s < 4294967296) (h : Byt w v n f) (hn : n ≤ 9223372036854775807) (h0 : needF n ≠ 0) :
    Calls Try.prog 77 #[.int .u32 (g : Nat), .int .u32 (s : Nat), v] w fun e w' => (∃ ad c X, e = .returned (.tuple #[.slice (some ad) (needF n) c, .int .i64 0]) ∧ ListC w' ad (needF n) X ∧ ∀ i, i < needF n → PartOf g s n f i (X i)) ∧ Below w.heap.size w w' := by
  refine (split_byT hg hs h hn).mono ?_
  rintro e w' ⟨hp, hb⟩
  rcases hp with ⟨hz, _⟩ | ⟨_, ad, c, X, rfl, hc, h1, h2, h3, h4⟩
  · exact absurd hz h0
  · exact ⟨⟨ad, c, X, rfl, ⟨h1, h3, h4⟩, h2⟩, hb⟩
theorem sumN_mono (R : Nat → RowD) {a b : Nat} (h : a ≤ b) : sumN R a ≤ sumN R b := by
  induction b with
  | zero => obtain rfl : a = 0 := by omega
            exact Nat.le_refl _
  | succ b ih =>
    by_cases e : a = b + 1
    · exact e ▸ Nat.le_refl _
    · exact Nat.le_trans (ih (by omega)) (Nat.le_add_right _ _)
theorem sumN_lt (R : Nat → RowD) {i n k : Nat} (h : i < n) (hk : k < needF (R i).n) : sumN R i + k < sumN R n := by
  have h1 : sumN R (i + 1) ≤ sumN R n := sumN_mono R h
  have h2 : sumN R (i + 1) = sumN R i + needF (R i).n := rfl
  omega
theorem says_snoc {Q : QS} {n : Nat} {R : Nat → RowD} {pre : List CellD} {x : CellD} (h : ∀ (j : Nat) (y : CellD), pre[j]? = some y → Says Q n R j y) (hx : Says Q n R pre.length x) : ∀ (j : Nat) (y : CellD), (pre ++ [x])[j]? = some y → Says Q n R j y := by
  intro j y hy
  by_cases hj : j < pre.length
  · rw [List.getElem?_append_left hj] at hy
    exact h j y hy
  · rw [List.getElem?_append_right (by omega)] at hy
    by_cases e : j - pre.length = 0
    · obtain rfl : j = pre.length := by omega
      rw [Nat.sub_self] at hy
      cases hy
      exact hx
    · obtain ⟨m, hm⟩ : ∃ m, j - pre.length = m + 1 := ⟨j - pre.length - 1, by omega⟩
      rw [hm] at hy
      cases hy
theorem bel_drew (w : World) : Below w.heap.size w w.drew := (Below.refl _ _).drew
set_option maxRecDepth 100000 in
set_option maxHeartbeats 16000000 in
theorem cells1_in (m : Nat) {gd gq Br Bq : Nat} {A : Option Addr} {n c : Nat} {R : Nat → RowD} {Q : QS} (hn : n ≤ 100000) (hz : ∀ i, i < n → needF (R i).n ≠ 0) (ht : Q.top + n < 4294967296) (W : World) :
    SeqG m Try.prog 76 #[.pointer (some ⟨Br, 0, none⟩), .pointer (some ⟨Bq, 0, none⟩)] encD (CelM gd gq Br Bq A n c R Q) (CelG Q n R) KpC (CelS Q n R) (fun _ => True) (sumN R n) W := by
  intro l J Jx hM hJ hJx hY h0
  have HM := Lib.hid hM
  have HJ := Lib.hid hJ
  have HY := Lib.hid hY
  have HZ := Lib.hid hz
  obtain ⟨m1, m2, m3, m4⟩ := hM _ _ h0
  have hqok := m3.2
  have hc1 := m1.cell
  clear hM hJ hY hJx m2 m3 m4 hz
  refine callsIn_of_wp Try.func76 rfl trivial ?_ rfl
  simp only [Try.ntmps76, List.size_toArray, List.length_cons, List.length_nil, Nat.reduceAdd, Nat.reduceSub, Array.replicate_succ, Array.replicate_zero, List.push_toArray, List.append_toArray, List.nil_append, List.cons_append]
  gi_wp2
  gi_loopw [12] (fun v wr => ∃ (i : Nat) (pre : List CellD), v = .int .i64 (i : Nat) ∧ i ≤ n ∧ pre.length = sumN R i ∧ (∀ (j : Nat) (x : CellD), pre[j]? = some x → Says Q n R j x) ∧ J pre wr) (fun v _ => n - (intOf v).toNat)
  case atStart => exact ⟨0, [], rfl, Nat.zero_le _, rfl, fun j x h => by simp at h, h0⟩
  case round =>
    obtain ⟨i, pre, rfl, hi, hpl, hsy, hJs⟩ := hrel
    clear hc1 m1 h0
    have HJS := Lib.hid hJs
    have HSY := Lib.hid hsy
    obtain ⟨m1, m2, m3, m4⟩ := HM.out _ _ hJs
    clear hJs hsy
    by_cases hlt : i < n
    · obtain ⟨ad, rfl, r1, r2, r3⟩ := m4 i hlt
      have c2 := m2.cell
      obtain ⟨_, _, _, d3, _, d5⟩ := m3.cells
      have hz0 := HZ.out i hlt
      have hw1 : IntKind.u32.wrap (i : Int) = (i : Int) := IntWalk.u32_in _ (by omega)
      clear m1 m2 m3 m4
      gi_wp2
      have HB : Hid (∀ u, Below wr.heap.size wr u → Byt u (.slice (R i).A (R i).n (R i).c) (R i).n (R i).f) := fun u hu => r2.below hu
      have HBN := Lib.hid r3
      obtain ⟨G, hG⟩ : ∃ G, G = Q.top + 1 + i := ⟨_, rfl⟩
      have hGl : G < 4294967296 := by omega
      have HGW := Lib.hid (show IntKind.u32.wrap (IntKind.u32.wrap ((Q.top : Int) + 1) + (i : Int)) = (G : Int) from by rw [IntWalk.u32_in ((Q.top : Int) + 1) (by omega), IntWalk.u32_in _ (by omega)]; omega)
      have HGE := Lib.hid hG
      clear hG
      refine wpIn_region_any (by kernel_rfl) ?_
      change wpAnyIn _ _ _ _ _ _ _ _ _ (World.drew _)
      refine wpAnyIn_take (i := 9) (v := ?_) rfl rfl (by kernel_rfl) (by kernel_rfl) (by kernel_rfl) (fun _ _ _ h => h) ⟨Or.inl ⟨by rfl, ?_⟩, fun _ => rfl⟩ ?_
      rotate_left
      · intro w; go_simp <;> (try with_reducible rfl)
      (try simp only [Act.put, List.setIfInBounds_toArray, List.set_cons_zero, List.set_cons_succ, List.getElem_toArray, List.getElem_cons_succ, List.getElem_cons_zero])
      refine wpAnyIn_take (i := 10) (v := ?_) rfl rfl (by kernel_rfl) (by kernel_rfl) (by kernel_rfl) (fun _ _ _ h => h) ⟨Or.inl ⟨by rfl, ?_⟩, fun _ => rfl⟩ ?_
      rotate_left
      · intro w; go_simp <;> (try with_reducible rfl)
      (try simp only [Act.put, List.setIfInBounds_toArray, List.set_cons_zero, List.set_cons_succ, List.getElem_toArray, List.getElem_cons_succ, List.getElem_cons_zero])
      refine wpAnyIn_take (i := 12) (v := ?_) rfl rfl (by kernel_rfl) (by kernel_rfl) (by kernel_rfl) (fun _ _ _ h => h) ⟨Or.inl ⟨by rfl, ?_⟩, fun _ => rfl⟩ ?_
      rotate_left
      · intro w; go_simp <;> (try with_reducible rfl)
      (try simp only [Act.put, List.setIfInBounds_toArray, List.set_cons_zero, List.set_cons_succ, List.getElem_toArray, List.getElem_cons_succ, List.getElem_cons_zero])
      refine wpAnyIn_ready (rs := [0, 4]) (by kernel_rfl) (by simp) ?_
      refine AllReadyIn.cons rfl (fun K hK => ?_) ?_
      · go_simp
        refine hK _ _ ?_
        clear hK K
        refine wpAnyIn_take (i := 1) (v := ?_) rfl rfl (by kernel_rfl) (by kernel_rfl) (by kernel_rfl) (fun _ _ _ h => h) ⟨Or.inl ⟨by rfl, ?_⟩, fun _ => rfl⟩ ?_
        rotate_left
        · intro w; go_simp <;> (try with_reducible rfl)
        (try simp only [Act.put, List.setIfInBounds_toArray, List.set_cons_zero, List.set_cons_succ, List.getElem_toArray, List.getElem_cons_succ, List.getElem_cons_zero])
        refine wpAnyIn_take (i := 2) (v := ?_) rfl rfl (by kernel_rfl) (by kernel_rfl) (by kernel_rfl) (fun _ _ _ h => h) ⟨Or.inl ⟨by rfl, ?_⟩, fun _ => rfl⟩ ?_
        rotate_left
        · intro w; go_simp <;> (try with_reducible rfl)
        (try simp only [Act.put, List.setIfInBounds_toArray, List.set_cons_zero, List.set_cons_succ, List.getElem_toArray, List.getElem_cons_succ, List.getElem_cons_zero])
        refine wpAnyIn_ready (rs := [3, 4]) (by kernel_rfl) (by simp) ?_
        refine AllReadyIn.cons rfl (fun K hK => ?_) ?_
        · go_simp
          refine hK _ _ ?_
          clear hK K
          refine wpAnyIn_ready (rs := [4]) (by kernel_rfl) (by simp) ?_
          refine AllReadyIn.cons rfl (fun K hK => ?_) ?_
          · go_simp
            refine hK _ _ ?_
            clear hK K
            refine wpAnyIn_take (i := 5) (v := ?_) rfl rfl (by kernel_rfl) (by kernel_rfl) (by kernel_rfl) (fun _ _ _ h => h) ⟨Or.inl ⟨by rfl, ?_⟩, fun _ => rfl⟩ ?_
            rotate_left
            · intro w; go_simp <;> (try with_reducible rfl)
            (try simp only [Act.put, List.setIfInBounds_toArray, List.set_cons_zero, List.set_cons_succ, List.getElem_toArray, List.getElem_cons_succ, List.getElem_cons_zero])
            refine wpAnyIn_take (i := 6) (v := ?_) rfl rfl (by kernel_rfl) (by kernel_rfl) (by kernel_rfl) (fun _ _ _ h => h) ⟨Or.inl ⟨by rfl, ?_⟩, fun _ => rfl⟩ ?_
            rotate_left
            · intro w; go_simp <;> (try with_reducible rfl)
            (try simp only [Act.put, List.setIfInBounds_toArray, List.set_cons_zero, List.set_cons_succ, List.getElem_toArray, List.getElem_cons_succ, List.getElem_cons_zero])
            refine wpAnyIn_ready (rs := [7]) (by kernel_rfl) (by simp) ?_
            refine AllReadyIn.cons rfl (fun K hK => ?_) ?_
            · go_simp
              refine hK _ _ ?_
              clear hK K
              refine wpAnyIn_take (i := 8) (v := ?_) rfl rfl (by kernel_rfl) (by kernel_rfl) (by kernel_rfl) (fun _ _ _ h => h) ⟨Or.inl ⟨by rfl, ?_⟩, fun _ => rfl⟩ ?_
              rotate_left
              · intro w; go_simp <;> (try with_reducible rfl)
              (try simp only [Act.put, List.setIfInBounds_toArray, List.set_cons_zero, List.set_cons_succ, List.getElem_toArray, List.getElem_cons_succ, List.getElem_cons_zero])
              refine wpAnyIn_take (i := 11) (v := ?_) rfl rfl (by kernel_rfl) (by kernel_rfl) (by kernel_rfl) (fun _ _ _ h => h) ⟨Or.inl ⟨by rfl, ?_⟩, fun _ => rfl⟩ ?_
              rotate_left
              · intro w; go_simp <;> (try with_reducible rfl)
              (try simp only [Act.put, List.setIfInBounds_toArray, List.set_cons_zero, List.set_cons_succ, List.getElem_toArray, List.getElem_cons_succ, List.getElem_cons_zero])
              refine wpAnyIn_ready (rs := [13]) (by kernel_rfl) (by simp) ?_
              refine AllReadyIn.cons rfl (fun K hK => ?_) ?_
              · go_simp
                refine ⟨trivial, fun h => (by cases h), ?_⟩
                rw [HGW.out]
                gi_at_call 77
                refine (callsIn_wide.2 (csplit_any hqok.2.2.2.1 hGl (HB.out _ (bel_drew _)) HBN.out hz0)).mono ?_
                rintro e w3 ⟨⟨ad2, c2, X, rfl, hl, hx⟩, hb3⟩
                have HJ3 := Lib.hid (HJ.out _ _ _ HJS.out ((bel_drew _).trans hb3))
                have HL := Lib.hid hl
                have HX := Lib.hid hx
                clear hl hx hb3 d3 d5
                refine hK _ _ ?_
                clear hK K
                refine wpAnyIn_take (i := 14) (v := ?_) rfl rfl (by kernel_rfl) (by kernel_rfl) (by kernel_rfl) (fun _ _ _ h => h) ⟨Or.inl ⟨by rfl, ?_⟩, fun _ => rfl⟩ ?_
                rotate_left
                · intro w; go_simp <;> (try with_reducible rfl)
                (try simp only [Act.put, List.setIfInBounds_toArray, List.set_cons_zero, List.set_cons_succ, List.getElem_toArray, List.getElem_cons_succ, List.getElem_cons_zero])
                refine wpAnyIn_take (i := 15) (v := ?_) rfl rfl (by kernel_rfl) (by kernel_rfl) (by kernel_rfl) (fun _ _ _ h => h) ⟨Or.inl ⟨by rfl, ?_⟩, fun _ => rfl⟩ ?_
                rotate_left
                · intro w; go_simp <;> (try with_reducible rfl)
                (try simp only [Act.put, List.setIfInBounds_toArray, List.set_cons_zero, List.set_cons_succ, List.getElem_toArray, List.getElem_cons_succ, List.getElem_cons_zero])
                refine wpAnyIn_take (i := 16) (v := ?_) rfl rfl (by kernel_rfl) (by kernel_rfl) (by kernel_rfl) (fun _ _ _ h => h) ⟨Or.inl ⟨by rfl, ?_⟩, fun _ => rfl⟩ ?_
                rotate_left
                · intro w; go_simp <;> (try with_reducible rfl)
                (try simp only [Act.put, List.setIfInBounds_toArray, List.set_cons_zero, List.set_cons_succ, List.getElem_toArray, List.getElem_cons_succ, List.getElem_cons_zero])
                refine wpAnyIn_take (i := 17) (v := ?_) rfl rfl (by kernel_rfl) (by kernel_rfl) (by kernel_rfl) (fun _ _ _ h => h) ⟨Or.inl ⟨by rfl, ?_⟩, fun _ => rfl⟩ ?_
                rotate_left
                · intro w; go_simp <;> (try with_reducible rfl)
                (try simp only [Act.put, List.setIfInBounds_toArray, List.set_cons_zero, List.set_cons_succ, List.getElem_toArray, List.getElem_cons_succ, List.getElem_cons_zero])
                refine wpAnyIn_take (i := 18) (v := ?_) rfl rfl (by kernel_rfl) (by kernel_rfl) (by kernel_rfl) (fun _ _ _ h => h) ⟨Or.inl ⟨by rfl, ?_⟩, fun _ => rfl⟩ ?_
                rotate_left
                · intro w; go_simp <;> (try with_reducible rfl)
                (try simp only [Act.put, List.setIfInBounds_toArray, List.set_cons_zero, List.set_cons_succ, List.getElem_toArray, List.getElem_cons_succ, List.getElem_cons_zero])
                refine wpAnyIn_done (by kernel_rfl) ?_ _
                gi_wp2
                gi_loopw [36] (fun v wv => ∃ (k : Nat) (pre2 : List CellD), v = .int .i64 (k : Nat) ∧ k ≤ needF (R i).n ∧ pre2.length = sumN R i + k ∧ (∀ (j : Nat) (x : CellD), pre2[j]? = some x → Says Q n R j x) ∧ J pre2 wv ∧ ListC wv ad2 (needF (R i).n) X) (fun v _ => needF (R i).n - (intOf v).toNat)
                case atStart => exact ⟨0, pre, rfl, Nat.zero_le _, hpl, HSY.out, HJ3.out, HL.out⟩
                case round =>
                  obtain ⟨k, pre2, rfl, hk, hpl2, hsy2, hJ2, hl2⟩ := hrel
                  clear HJ3 HL HJS HSY HB
                  have HJS := Lib.hid hJ2
                  have HL := Lib.hid hl2
                  have HSY := Lib.hid hsy2
                  by_cases hlk : k < needF (R i).n
                  · obtain ⟨_, q1, q2, q3, q4, q5, q6, q7⟩ := hl2.at_.at_ hlk
                    have f2 : wr.cell? ⟨(ad2.add (k * 5)).block, (ad2.add (k * 5)).off + 1, none⟩ = some (.int .u32 ((X k).s : Nat)) := q2
                    have f3 : wr.cell? ⟨(ad2.add (k * 5)).block, (ad2.add (k * 5)).off + 2, none⟩ = some (.int .i64 (X k).p) := q3
                    have f4 : wr.cell? ⟨(ad2.add (k * 5)).block, (ad2.add (k * 5)).off + 3, none⟩ = some (.int .i64 (X k).q) := q4
                    have f5 : wr.cell? ⟨(ad2.add (k * 5)).block, (ad2.add (k * 5)).off + 4, none⟩ = some (.slice (X k).A (X k).n (X k).c) := q5
                    clear q2 q3 q4 q5
                    have hfew := need_few (R i).n
                    have ht8 := hl2.t8 k hlk
                    have hsk : Says Q n R pre2.length (X k) := ⟨i, k, hlt, hlk, hpl2, HGE.out ▸ HX.out k hlk⟩
                    have HQ := Lib.hid hsk
                    have hnw := below_new wr (objD (X k))
                    have HL2 := Lib.hid (hl2.kpc (kpc_below hnw))
                    have HJ3 := Lib.hid (HJ.out _ _ _ HJS.out hnw)
                    obtain ⟨ht1, ht2⟩ := rd_kpc (kpc_below hnw) q6 ht8
                    obtain ⟨fn, tmps, assign, body, hy, hR⟩ := HY.out pre2 (X k) _ HJ3.out (by have := sumN_lt R hlt hlk; omega) ⟨ht1, q7, ht2, hsk⟩
                    have HR := Lib.hid hR
                    have HX3 := Lib.hid (BoxH.new wr (X k).g (X k).s (X k).p (X k).q (X k).A (X k).n (X k).c)
                    have HPL := Lib.hid hpl2
                    clear q6 q7 ht8 hsk hl2 hsy2 hJ2 hnw ht1 ht2 hR hpl2
                    obtain ⟨x0, x1, x2, x3, x4⟩ := HX3.out.boxc
                    gi_wp2
                    refine ⟨fun h => (by cases h), ?_⟩
                    refine HR.out.mono ?_
                    clear x0 x1 x2 x3 x4
                    rintro e W3 (⟨rfl, hJ4, hk4⟩ | ⟨rfl, hJx4⟩)
                    · have HJ4 := Lib.hid hJ4
                      have HL4 := Lib.hid (HL2.out.kpc hk4)
                      clear hJ4 hk4
                      gi_wp2
                      go_roundw
                      case rel => exact ⟨k + 1, pre2 ++ [X k], by go_num, by omega, by rw [List.length_append, List.length_singleton, HPL.out]; rfl, says_snoc HSY.out HQ.out, HJ4.out, HL4.out⟩
                      case measure => simp [intOf]; omega
                    · gi_wp2
                      refine bodyPost_ret (results_none rfl _ _ _) rfl ?_
                      exact ⟨⟨_, rfl⟩, .inr ⟨_, trivial, hJx4⟩⟩
                  · have hfew := need_few (R i).n
                    obtain rfl : k = needF (R i).n := by omega
                    clear hl2
                    gi_wp2
                    go_roundw
                    case rel => exact ⟨i + 1, pre2, by go_num, by omega, hpl2, HSY.out, HJS.out⟩
                    case measure => simp [intOf]; omega
              exact AllReadyIn.nil
            exact AllReadyIn.nil
          exact AllReadyIn.nil
        refine AllReadyIn.cons rfl (fun K hK => ?_) ?_
        · go_simp
          refine hK _ _ ?_
          clear hK K
          refine wpAnyIn_take (i := 5) (v := ?_) rfl rfl (by kernel_rfl) (by kernel_rfl) (by kernel_rfl) (fun _ _ _ h => h) ⟨Or.inl ⟨by rfl, ?_⟩, fun _ => rfl⟩ ?_
          rotate_left
          · intro w; go_simp <;> (try with_reducible rfl)
          (try simp only [Act.put, List.setIfInBounds_toArray, List.set_cons_zero, List.set_cons_succ, List.getElem_toArray, List.getElem_cons_succ, List.getElem_cons_zero])
          refine wpAnyIn_take (i := 6) (v := ?_) rfl rfl (by kernel_rfl) (by kernel_rfl) (by kernel_rfl) (fun _ _ _ h => h) ⟨Or.inl ⟨by rfl, ?_⟩, fun _ => rfl⟩ ?_
          rotate_left
          · intro w; go_simp <;> (try with_reducible rfl)
          (try simp only [Act.put, List.setIfInBounds_toArray, List.set_cons_zero, List.set_cons_succ, List.getElem_toArray, List.getElem_cons_succ, List.getElem_cons_zero])
          refine wpAnyIn_ready (rs := [3, 7]) (by kernel_rfl) (by simp) ?_
          refine AllReadyIn.cons rfl (fun K hK => ?_) ?_
          · go_simp
            refine hK _ _ ?_
            clear hK K
            refine wpAnyIn_ready (rs := [7]) (by kernel_rfl) (by simp) ?_
            refine AllReadyIn.cons rfl (fun K hK => ?_) ?_
            · go_simp
              refine hK _ _ ?_
              clear hK K
              refine wpAnyIn_take (i := 8) (v := ?_) rfl rfl (by kernel_rfl) (by kernel_rfl) (by kernel_rfl) (fun _ _ _ h => h) ⟨Or.inl ⟨by rfl, ?_⟩, fun _ => rfl⟩ ?_
              rotate_left
              · intro w; go_simp <;> (try with_reducible rfl)
              (try simp only [Act.put, List.setIfInBounds_toArray, List.set_cons_zero, List.set_cons_succ, List.getElem_toArray, List.getElem_cons_succ, List.getElem_cons_zero])
              refine wpAnyIn_take (i := 11) (v := ?_) rfl rfl (by kernel_rfl) (by kernel_rfl) (by kernel_rfl) (fun _ _ _ h => h) ⟨Or.inl ⟨by rfl, ?_⟩, fun _ => rfl⟩ ?_
              rotate_left
              · intro w; go_simp <;> (try with_reducible rfl)
              (try simp only [Act.put, List.setIfInBounds_toArray, List.set_cons_zero, List.set_cons_succ, List.getElem_toArray, List.getElem_cons_succ, List.getElem_cons_zero])
              refine wpAnyIn_ready (rs := [13]) (by kernel_rfl) (by simp) ?_
              refine AllReadyIn.cons rfl (fun K hK => ?_) ?_
              · go_simp
                refine ⟨trivial, fun h => (by cases h), ?_⟩
                rw [HGW.out]
                gi_at_call 77
                refine (callsIn_wide.2 (csplit_any hqok.2.2.2.1 hGl (HB.out _ (bel_drew _)) HBN.out hz0)).mono ?_
                rintro e w3 ⟨⟨ad2, c2, X, rfl, hl, hx⟩, hb3⟩
                have HJ3 := Lib.hid (HJ.out _ _ _ HJS.out ((bel_drew _).trans hb3))
                have HL := Lib.hid hl
                have HX := Lib.hid hx
                clear hl hx hb3 d3 d5
                refine hK _ _ ?_
                clear hK K
                refine wpAnyIn_take (i := 14) (v := ?_) rfl rfl (by kernel_rfl) (by kernel_rfl) (by kernel_rfl) (fun _ _ _ h => h) ⟨Or.inl ⟨by rfl, ?_⟩, fun _ => rfl⟩ ?_
                rotate_left
                · intro w; go_simp <;> (try with_reducible rfl)
                (try simp only [Act.put, List.setIfInBounds_toArray, List.set_cons_zero, List.set_cons_succ, List.getElem_toArray, List.getElem_cons_succ, List.getElem_cons_zero])
                refine wpAnyIn_take (i := 15) (v := ?_) rfl rfl (by kernel_rfl) (by kernel_rfl) (by kernel_rfl) (fun _ _ _ h => h) ⟨Or.inl ⟨by rfl, ?_⟩, fun _ => rfl⟩ ?_
                rotate_left
                · intro w; go_simp <;> (try with_reducible rfl)
                (try simp only [Act.put, List.setIfInBounds_toArray, List.set_cons_zero, List.set_cons_succ, List.getElem_toArray, List.getElem_cons_succ, List.getElem_cons_zero])
                refine wpAnyIn_take (i := 16) (v := ?_) rfl rfl (by kernel_rfl) (by kernel_rfl) (by kernel_rfl) (fun _ _ _ h => h) ⟨Or.inl ⟨by rfl, ?_⟩, fun _ => rfl⟩ ?_
                rotate_left
                · intro w; go_simp <;> (try with_reducible rfl)
                (try simp only [Act.put, List.setIfInBounds_toArray, List.set_cons_zero, List.set_cons_succ, List.getElem_toArray, List.getElem_cons_succ, List.getElem_cons_zero])
                refine wpAnyIn_take (i := 17) (v := ?_) rfl rfl (by kernel_rfl) (by kernel_rfl) (by kernel_rfl) (fun _ _ _ h => h) ⟨Or.inl ⟨by rfl, ?_⟩, fun _ => rfl⟩ ?_
                rotate_left
                · intro w; go_simp <;> (try with_reducible rfl)
                (try simp only [Act.put, List.setIfInBounds_toArray, List.set_cons_zero, List.set_cons_succ, List.getElem_toArray, List.getElem_cons_succ, List.getElem_cons_zero])
                refine wpAnyIn_take (i := 18) (v := ?_) rfl rfl (by kernel_rfl) (by kernel_rfl) (by kernel_rfl) (fun _ _ _ h => h) ⟨Or.inl ⟨by rfl, ?_⟩, fun _ => rfl⟩ ?_
                rotate_left
                · intro w; go_simp <;> (try with_reducible rfl)
                (try simp only [Act.put, List.setIfInBounds_toArray, List.set_cons_zero, List.set_cons_succ, List.getElem_toArray, List.getElem_cons_succ, List.getElem_cons_zero])
                refine wpAnyIn_done (by kernel_rfl) ?_ _
                gi_wp2
                gi_loopw [36] (fun v wv => ∃ (k : Nat) (pre2 : List CellD), v = .int .i64 (k : Nat) ∧ k ≤ needF (R i).n ∧ pre2.length = sumN R i + k ∧ (∀ (j : Nat) (x : CellD), pre2[j]? = some x → Says Q n R j x) ∧ J pre2 wv ∧ ListC wv ad2 (needF (R i).n) X) (fun v _ => needF (R i).n - (intOf v).toNat)
                case atStart => exact ⟨0, pre, rfl, Nat.zero_le _, hpl, HSY.out, HJ3.out, HL.out⟩
                case round =>
                  obtain ⟨k, pre2, rfl, hk, hpl2, hsy2, hJ2, hl2⟩ := hrel
                  clear HJ3 HL HJS HSY HB
                  have HJS := Lib.hid hJ2
                  have HL := Lib.hid hl2
                  have HSY := Lib.hid hsy2
                  by_cases hlk : k < needF (R i).n
                  · obtain ⟨_, q1, q2, q3, q4, q5, q6, q7⟩ := hl2.at_.at_ hlk
                    have f2 : wr.cell? ⟨(ad2.add (k * 5)).block, (ad2.add (k * 5)).off + 1, none⟩ = some (.int .u32 ((X k).s : Nat)) := q2
                    have f3 : wr.cell? ⟨(ad2.add (k * 5)).block, (ad2.add (k * 5)).off + 2, none⟩ = some (.int .i64 (X k).p) := q3
                    have f4 : wr.cell? ⟨(ad2.add (k * 5)).block, (ad2.add (k * 5)).off + 3, none⟩ = some (.int .i64 (X k).q) := q4
                    have f5 : wr.cell? ⟨(ad2.add (k * 5)).block, (ad2.add (k * 5)).off + 4, none⟩ = some (.slice (X k).A (X k).n (X k).c) := q5
                    clear q2 q3 q4 q5
                    have hfew := need_few (R i).n
                    have ht8 := hl2.t8 k hlk
                    have hsk : Says Q n R pre2.length (X k) := ⟨i, k, hlt, hlk, hpl2, HGE.out ▸ HX.out k hlk⟩
                    have HQ := Lib.hid hsk
                    have hnw := below_new wr (objD (X k))
                    have HL2 := Lib.hid (hl2.kpc (kpc_below hnw))
                    have HJ3 := Lib.hid (HJ.out _ _ _ HJS.out hnw)
                    obtain ⟨ht1, ht2⟩ := rd_kpc (kpc_below hnw) q6 ht8
                    obtain ⟨fn, tmps, assign, body, hy, hR⟩ := HY.out pre2 (X k) _ HJ3.out (by have := sumN_lt R hlt hlk; omega) ⟨ht1, q7, ht2, hsk⟩
                    have HR := Lib.hid hR
                    have HX3 := Lib.hid (BoxH.new wr (X k).g (X k).s (X k).p (X k).q (X k).A (X k).n (X k).c)
                    have HPL := Lib.hid hpl2
                    clear q6 q7 ht8 hsk hl2 hsy2 hJ2 hnw ht1 ht2 hR hpl2
                    obtain ⟨x0, x1, x2, x3, x4⟩ := HX3.out.boxc
                    gi_wp2
                    refine ⟨fun h => (by cases h), ?_⟩
                    refine HR.out.mono ?_
                    clear x0 x1 x2 x3 x4
                    rintro e W3 (⟨rfl, hJ4, hk4⟩ | ⟨rfl, hJx4⟩)
                    · have HJ4 := Lib.hid hJ4
                      have HL4 := Lib.hid (HL2.out.kpc hk4)
                      clear hJ4 hk4
                      gi_wp2
                      go_roundw
                      case rel => exact ⟨k + 1, pre2 ++ [X k], by go_num, by omega, by rw [List.length_append, List.length_singleton, HPL.out]; rfl, says_snoc HSY.out HQ.out, HJ4.out, HL4.out⟩
                      case measure => simp [intOf]; omega
                    · gi_wp2
                      refine bodyPost_ret (results_none rfl _ _ _) rfl ?_
                      exact ⟨⟨_, rfl⟩, .inr ⟨_, trivial, hJx4⟩⟩
                  · have hfew := need_few (R i).n
                    obtain rfl : k = needF (R i).n := by omega
                    clear hl2
                    gi_wp2
                    go_roundw
                    case rel => exact ⟨i + 1, pre2, by go_num, by omega, hpl2, HSY.out, HJS.out⟩
                    case measure => simp [intOf]; omega
              exact AllReadyIn.nil
            exact AllReadyIn.nil
          refine AllReadyIn.cons rfl (fun K hK => ?_) ?_
          · go_simp
            refine hK _ _ ?_
            clear hK K
            refine wpAnyIn_take (i := 8) (v := ?_) rfl rfl (by kernel_rfl) (by kernel_rfl) (by kernel_rfl) (fun _ _ _ h => h) ⟨Or.inl ⟨by rfl, ?_⟩, fun _ => rfl⟩ ?_
            rotate_left
            · intro w; go_simp <;> (try with_reducible rfl)
            (try simp only [Act.put, List.setIfInBounds_toArray, List.set_cons_zero, List.set_cons_succ, List.getElem_toArray, List.getElem_cons_succ, List.getElem_cons_zero])
            refine wpAnyIn_take (i := 11) (v := ?_) rfl rfl (by kernel_rfl) (by kernel_rfl) (by kernel_rfl) (fun _ _ _ h => h) ⟨Or.inl ⟨by rfl, ?_⟩, fun _ => rfl⟩ ?_
            rotate_left
            · intro w; go_simp <;> (try with_reducible rfl)
            (try simp only [Act.put, List.setIfInBounds_toArray, List.set_cons_zero, List.set_cons_succ, List.getElem_toArray, List.getElem_cons_succ, List.getElem_cons_zero])
            refine wpAnyIn_ready (rs := [3]) (by kernel_rfl) (by simp) ?_
            refine AllReadyIn.cons rfl (fun K hK => ?_) ?_
            · go_simp
              refine hK _ _ ?_
              clear hK K
              refine wpAnyIn_ready (rs := [13]) (by kernel_rfl) (by simp) ?_
              refine AllReadyIn.cons rfl (fun K hK => ?_) ?_
              · go_simp
                refine ⟨trivial, fun h => (by cases h), ?_⟩
                rw [HGW.out]
                gi_at_call 77
                refine (callsIn_wide.2 (csplit_any hqok.2.2.2.1 hGl (HB.out _ (bel_drew _)) HBN.out hz0)).mono ?_
                rintro e w3 ⟨⟨ad2, c2, X, rfl, hl, hx⟩, hb3⟩
                have HJ3 := Lib.hid (HJ.out _ _ _ HJS.out ((bel_drew _).trans hb3))
                have HL := Lib.hid hl
                have HX := Lib.hid hx
                clear hl hx hb3 d3 d5
                refine hK _ _ ?_
                clear hK K
                refine wpAnyIn_take (i := 14) (v := ?_) rfl rfl (by kernel_rfl) (by kernel_rfl) (by kernel_rfl) (fun _ _ _ h => h) ⟨Or.inl ⟨by rfl, ?_⟩, fun _ => rfl⟩ ?_
                rotate_left
                · intro w; go_simp <;> (try with_reducible rfl)
                (try simp only [Act.put, List.setIfInBounds_toArray, List.set_cons_zero, List.set_cons_succ, List.getElem_toArray, List.getElem_cons_succ, List.getElem_cons_zero])
                refine wpAnyIn_take (i := 15) (v := ?_) rfl rfl (by kernel_rfl) (by kernel_rfl) (by kernel_rfl) (fun _ _ _ h => h) ⟨Or.inl ⟨by rfl, ?_⟩, fun _ => rfl⟩ ?_
                rotate_left
                · intro w; go_simp <;> (try with_reducible rfl)
                (try simp only [Act.put, List.setIfInBounds_toArray, List.set_cons_zero, List.set_cons_succ, List.getElem_toArray, List.getElem_cons_succ, List.getElem_cons_zero])
                refine wpAnyIn_take (i := 16) (v := ?_) rfl rfl (by kernel_rfl) (by kernel_rfl) (by kernel_rfl) (fun _ _ _ h => h) ⟨Or.inl ⟨by rfl, ?_⟩, fun _ => rfl⟩ ?_
                rotate_left
                · intro w; go_simp <;> (try with_reducible rfl)
                (try simp only [Act.put, List.setIfInBounds_toArray, List.set_cons_zero, List.set_cons_succ, List.getElem_toArray, List.getElem_cons_succ, List.getElem_cons_zero])
                refine wpAnyIn_take (i := 17) (v := ?_) rfl rfl (by kernel_rfl) (by kernel_rfl) (by kernel_rfl) (fun _ _ _ h => h) ⟨Or.inl ⟨by rfl, ?_⟩, fun _ => rfl⟩ ?_
                rotate_left
                · intro w; go_simp <;> (try with_reducible rfl)
                (try simp only [Act.put, List.setIfInBounds_toArray, List.set_cons_zero, List.set_cons_succ, List.getElem_toArray, List.getElem_cons_succ, List.getElem_cons_zero])
                refine wpAnyIn_take (i := 18) (v := ?_) rfl rfl (by kernel_rfl) (by kernel_rfl) (by kernel_rfl) (fun _ _ _ h => h) ⟨Or.inl ⟨by rfl, ?_⟩, fun _ => rfl⟩ ?_
                rotate_left
                · intro w; go_simp <;> (try with_reducible rfl)
                (try simp only [Act.put, List.setIfInBounds_toArray, List.set_cons_zero, List.set_cons_succ, List.getElem_toArray, List.getElem_cons_succ, List.getElem_cons_zero])
                refine wpAnyIn_done (by kernel_rfl) ?_ _
                gi_wp2
                gi_loopw [36] (fun v wv => ∃ (k : Nat) (pre2 : List CellD), v = .int .i64 (k : Nat) ∧ k ≤ needF (R i).n ∧ pre2.length = sumN R i + k ∧ (∀ (j : Nat) (x : CellD), pre2[j]? = some x → Says Q n R j x) ∧ J pre2 wv ∧ ListC wv ad2 (needF (R i).n) X) (fun v _ => needF (R i).n - (intOf v).toNat)
                case atStart => exact ⟨0, pre, rfl, Nat.zero_le _, hpl, HSY.out, HJ3.out, HL.out⟩
                case round =>
                  obtain ⟨k, pre2, rfl, hk, hpl2, hsy2, hJ2, hl2⟩ := hrel
                  clear HJ3 HL HJS HSY HB
                  have HJS := Lib.hid hJ2
                  have HL := Lib.hid hl2
                  have HSY := Lib.hid hsy2
                  by_cases hlk : k < needF (R i).n
                  · obtain ⟨_, q1, q2, q3, q4, q5, q6, q7⟩ := hl2.at_.at_ hlk
                    have f2 : wr.cell? ⟨(ad2.add (k * 5)).block, (ad2.add (k * 5)).off + 1, none⟩ = some (.int .u32 ((X k).s : Nat)) := q2
                    have f3 : wr.cell? ⟨(ad2.add (k * 5)).block, (ad2.add (k * 5)).off + 2, none⟩ = some (.int .i64 (X k).p) := q3
                    have f4 : wr.cell? ⟨(ad2.add (k * 5)).block, (ad2.add (k * 5)).off + 3, none⟩ = some (.int .i64 (X k).q) := q4
                    have f5 : wr.cell? ⟨(ad2.add (k * 5)).block, (ad2.add (k * 5)).off + 4, none⟩ = some (.slice (X k).A (X k).n (X k).c) := q5
                    clear q2 q3 q4 q5
                    have hfew := need_few (R i).n
                    have ht8 := hl2.t8 k hlk
                    have hsk : Says Q n R pre2.length (X k) := ⟨i, k, hlt, hlk, hpl2, HGE.out ▸ HX.out k hlk⟩
                    have HQ := Lib.hid hsk
                    have hnw := below_new wr (objD (X k))
                    have HL2 := Lib.hid (hl2.kpc (kpc_below hnw))
                    have HJ3 := Lib.hid (HJ.out _ _ _ HJS.out hnw)
                    obtain ⟨ht1, ht2⟩ := rd_kpc (kpc_below hnw) q6 ht8
                    obtain ⟨fn, tmps, assign, body, hy, hR⟩ := HY.out pre2 (X k) _ HJ3.out (by have := sumN_lt R hlt hlk; omega) ⟨ht1, q7, ht2, hsk⟩
                    have HR := Lib.hid hR
                    have HX3 := Lib.hid (BoxH.new wr (X k).g (X k).s (X k).p (X k).q (X k).A (X k).n (X k).c)
                    have HPL := Lib.hid hpl2
                    clear q6 q7 ht8 hsk hl2 hsy2 hJ2 hnw ht1 ht2 hR hpl2
                    obtain ⟨x0, x1, x2, x3, x4⟩ := HX3.out.boxc
                    gi_wp2
                    refine ⟨fun h => (by cases h), ?_⟩
                    refine HR.out.mono ?_
                    clear x0 x1 x2 x3 x4
                    rintro e W3 (⟨rfl, hJ4, hk4⟩ | ⟨rfl, hJx4⟩)
                    · have HJ4 := Lib.hid hJ4
                      have HL4 := Lib.hid (HL2.out.kpc hk4)
                      clear hJ4 hk4
                      gi_wp2
                      go_roundw
                      case rel => exact ⟨k + 1, pre2 ++ [X k], by go_num, by omega, by rw [List.length_append, List.length_singleton, HPL.out]; rfl, says_snoc HSY.out HQ.out, HJ4.out, HL4.out⟩
                      case measure => simp [intOf]; omega
                    · gi_wp2
                      refine bodyPost_ret (results_none rfl _ _ _) rfl ?_
                      exact ⟨⟨_, rfl⟩, .inr ⟨_, trivial, hJx4⟩⟩
                  · have hfew := need_few (R i).n
                    obtain rfl : k = needF (R i).n := by omega
                    clear hl2
                    gi_wp2
                    go_roundw
                    case rel => exact ⟨i + 1, pre2, by go_num, by omega, hpl2, HSY.out, HJS.out⟩
                    case measure => simp [intOf]; omega
              exact AllReadyIn.nil
            exact AllReadyIn.nil
          exact AllReadyIn.nil
        exact AllReadyIn.nil
      refine AllReadyIn.cons rfl (fun K hK => ?_) ?_
      · go_simp
        refine hK _ _ ?_
        clear hK K
        refine wpAnyIn_take (i := 5) (v := ?_) rfl rfl (by kernel_rfl) (by kernel_rfl) (by kernel_rfl) (fun _ _ _ h => h) ⟨Or.inl ⟨by rfl, ?_⟩, fun _ => rfl⟩ ?_
        rotate_left
        · intro w; go_simp <;> (try with_reducible rfl)
        (try simp only [Act.put, List.setIfInBounds_toArray, List.set_cons_zero, List.set_cons_succ, List.getElem_toArray, List.getElem_cons_succ, List.getElem_cons_zero])
        refine wpAnyIn_take (i := 6) (v := ?_) rfl rfl (by kernel_rfl) (by kernel_rfl) (by kernel_rfl) (fun _ _ _ h => h) ⟨Or.inl ⟨by rfl, ?_⟩, fun _ => rfl⟩ ?_
        rotate_left
        · intro w; go_simp <;> (try with_reducible rfl)
        (try simp only [Act.put, List.setIfInBounds_toArray, List.set_cons_zero, List.set_cons_succ, List.getElem_toArray, List.getElem_cons_succ, List.getElem_cons_zero])
        refine wpAnyIn_ready (rs := [0, 7]) (by kernel_rfl) (by simp) ?_
        refine AllReadyIn.cons rfl (fun K hK => ?_) ?_
        · go_simp
          refine hK _ _ ?_
          clear hK K
          refine wpAnyIn_take (i := 1) (v := ?_) rfl rfl (by kernel_rfl) (by kernel_rfl) (by kernel_rfl) (fun _ _ _ h => h) ⟨Or.inl ⟨by rfl, ?_⟩, fun _ => rfl⟩ ?_
          rotate_left
          · intro w; go_simp <;> (try with_reducible rfl)
          (try simp only [Act.put, List.setIfInBounds_toArray, List.set_cons_zero, List.set_cons_succ, List.getElem_toArray, List.getElem_cons_succ, List.getElem_cons_zero])
          refine wpAnyIn_take (i := 2) (v := ?_) rfl rfl (by kernel_rfl) (by kernel_rfl) (by kernel_rfl) (fun _ _ _ h => h) ⟨Or.inl ⟨by rfl, ?_⟩, fun _ => rfl⟩ ?_
          rotate_left
          · intro w; go_simp <;> (try with_reducible rfl)
          (try simp only [Act.put, List.setIfInBounds_toArray, List.set_cons_zero, List.set_cons_succ, List.getElem_toArray, List.getElem_cons_succ, List.getElem_cons_zero])
          refine wpAnyIn_ready (rs := [3, 7]) (by kernel_rfl) (by simp) ?_
          refine AllReadyIn.cons rfl (fun K hK => ?_) ?_
          · go_simp
            refine hK _ _ ?_
            clear hK K
            refine wpAnyIn_ready (rs := [7]) (by kernel_rfl) (by simp) ?_
            refine AllReadyIn.cons rfl (fun K hK => ?_) ?_
            · go_simp
              refine hK _ _ ?_
              clear hK K
              refine wpAnyIn_take (i := 8) (v := ?_) rfl rfl (by kernel_rfl) (by kernel_rfl) (by kernel_rfl) (fun _ _ _ h => h) ⟨Or.inl ⟨by rfl, ?_⟩, fun _ => rfl⟩ ?_
              rotate_left
              · intro w; go_simp <;> (try with_reducible rfl)
              (try simp only [Act.put, List.setIfInBounds_toArray, List.set_cons_zero, List.set_cons_succ, List.getElem_toArray, List.getElem_cons_succ, List.getElem_cons_zero])
              refine wpAnyIn_take (i := 11) (v := ?_) rfl rfl (by kernel_rfl) (by kernel_rfl) (by kernel_rfl) (fun _ _ _ h => h) ⟨Or.inl ⟨by rfl, ?_⟩, fun _ => rfl⟩ ?_
              rotate_left
              · intro w; go_simp <;> (try with_reducible rfl)
              (try simp only [Act.put, List.setIfInBounds_toArray, List.set_cons_zero, List.set_cons_succ, List.getElem_toArray, List.getElem_cons_succ, List.getElem_cons_zero])
              refine wpAnyIn_ready (rs := [13]) (by kernel_rfl) (by simp) ?_
              refine AllReadyIn.cons rfl (fun K hK => ?_) ?_
              · go_simp
                refine ⟨trivial, fun h => (by cases h), ?_⟩
                rw [HGW.out]
                gi_at_call 77
                refine (callsIn_wide.2 (csplit_any hqok.2.2.2.1 hGl (HB.out _ (bel_drew _)) HBN.out hz0)).mono ?_
                rintro e w3 ⟨⟨ad2, c2, X, rfl, hl, hx⟩, hb3⟩
                have HJ3 := Lib.hid (HJ.out _ _ _ HJS.out ((bel_drew _).trans hb3))
                have HL := Lib.hid hl
                have HX := Lib.hid hx
                clear hl hx hb3 d3 d5
                refine hK _ _ ?_
                clear hK K
                refine wpAnyIn_take (i := 14) (v := ?_) rfl rfl (by kernel_rfl) (by kernel_rfl) (by kernel_rfl) (fun _ _ _ h => h) ⟨Or.inl ⟨by rfl, ?_⟩, fun _ => rfl⟩ ?_
                rotate_left
                · intro w; go_simp <;> (try with_reducible rfl)
                (try simp only [Act.put, List.setIfInBounds_toArray, List.set_cons_zero, List.set_cons_succ, List.getElem_toArray, List.getElem_cons_succ, List.getElem_cons_zero])
                refine wpAnyIn_take (i := 15) (v := ?_) rfl rfl (by kernel_rfl) (by kernel_rfl) (by kernel_rfl) (fun _ _ _ h => h) ⟨Or.inl ⟨by rfl, ?_⟩, fun _ => rfl⟩ ?_
                rotate_left
                · intro w; go_simp <;> (try with_reducible rfl)
                (try simp only [Act.put, List.setIfInBounds_toArray, List.set_cons_zero, List.set_cons_succ, List.getElem_toArray, List.getElem_cons_succ, List.getElem_cons_zero])
                refine wpAnyIn_take (i := 16) (v := ?_) rfl rfl (by kernel_rfl) (by kernel_rfl) (by kernel_rfl) (fun _ _ _ h => h) ⟨Or.inl ⟨by rfl, ?_⟩, fun _ => rfl⟩ ?_
                rotate_left
                · intro w; go_simp <;> (try with_reducible rfl)
                (try simp only [Act.put, List.setIfInBounds_toArray, List.set_cons_zero, List.set_cons_succ, List.getElem_toArray, List.getElem_cons_succ, List.getElem_cons_zero])
                refine wpAnyIn_take (i := 17) (v := ?_) rfl rfl (by kernel_rfl) (by kernel_rfl) (by kernel_rfl) (fun _ _ _ h => h) ⟨Or.inl ⟨by rfl, ?_⟩, fun _ => rfl⟩ ?_
                rotate_left
                · intro w; go_simp <;> (try with_reducible rfl)
                (try simp only [Act.put, List.setIfInBounds_toArray, List.set_cons_zero, List.set_cons_succ, List.getElem_toArray, List.getElem_cons_succ, List.getElem_cons_zero])
                refine wpAnyIn_take (i := 18) (v := ?_) rfl rfl (by kernel_rfl) (by kernel_rfl) (by kernel_rfl) (fun _ _ _ h => h) ⟨Or.inl ⟨by rfl, ?_⟩, fun _ => rfl⟩ ?_
                rotate_left
                · intro w; go_simp <;> (try with_reducible rfl)
                (try simp only [Act.put, List.setIfInBounds_toArray, List.set_cons_zero, List.set_cons_succ, List.getElem_toArray, List.getElem_cons_succ, List.getElem_cons_zero])
                refine wpAnyIn_done (by kernel_rfl) ?_ _
                gi_wp2
                gi_loopw [36] (fun v wv => ∃ (k : Nat) (pre2 : List CellD), v = .int .i64 (k : Nat) ∧ k ≤ needF (R i).n ∧ pre2.length = sumN R i + k ∧ (∀ (j : Nat) (x : CellD), pre2[j]? = some x → Says Q n R j x) ∧ J pre2 wv ∧ ListC wv ad2 (needF (R i).n) X) (fun v _ => needF (R i).n - (intOf v).toNat)
                case atStart => exact ⟨0, pre, rfl, Nat.zero_le _, hpl, HSY.out, HJ3.out, HL.out⟩
                case round =>
                  obtain ⟨k, pre2, rfl, hk, hpl2, hsy2, hJ2, hl2⟩ := hrel
                  clear HJ3 HL HJS HSY HB
                  have HJS := Lib.hid hJ2
                  have HL := Lib.hid hl2
                  have HSY := Lib.hid hsy2
                  by_cases hlk : k < needF (R i).n
                  · obtain ⟨_, q1, q2, q3, q4, q5, q6, q7⟩ := hl2.at_.at_ hlk
                    have f2 : wr.cell? ⟨(ad2.add (k * 5)).block, (ad2.add (k * 5)).off + 1, none⟩ = some (.int .u32 ((X k).s : Nat)) := q2
                    have f3 : wr.cell? ⟨(ad2.add (k * 5)).block, (ad2.add (k * 5)).off + 2, none⟩ = some (.int .i64 (X k).p) := q3
                    have f4 : wr.cell? ⟨(ad2.add (k * 5)).block, (ad2.add (k * 5)).off + 3, none⟩ = some (.int .i64 (X k).q) := q4
                    have f5 : wr.cell? ⟨(ad2.add (k * 5)).block, (ad2.add (k * 5)).off + 4, none⟩ = some (.slice (X k).A (X k).n (X k).c) := q5
                    clear q2 q3 q4 q5
                    have hfew := need_few (R i).n
                    have ht8 := hl2.t8 k hlk
                    have hsk : Says Q n R pre2.length (X k) := ⟨i, k, hlt, hlk, hpl2, HGE.out ▸ HX.out k hlk⟩
                    have HQ := Lib.hid hsk
                    have hnw := below_new wr (objD (X k))
                    have HL2 := Lib.hid (hl2.kpc (kpc_below hnw))
                    have HJ3 := Lib.hid (HJ.out _ _ _ HJS.out hnw)
                    obtain ⟨ht1, ht2⟩ := rd_kpc (kpc_below hnw) q6 ht8
                    obtain ⟨fn, tmps, assign, body, hy, hR⟩ := HY.out pre2 (X k) _ HJ3.out (by have := sumN_lt R hlt hlk; omega) ⟨ht1, q7, ht2, hsk⟩
                    have HR := Lib.hid hR
                    have HX3 := Lib.hid (BoxH.new wr (X k).g (X k).s (X k).p (X k).q (X k).A (X k).n (X k).c)
                    have HPL := Lib.hid hpl2
                    clear q6 q7 ht8 hsk hl2 hsy2 hJ2 hnw ht1 ht2 hR hpl2
                    obtain ⟨x0, x1, x2, x3, x4⟩ := HX3.out.boxc
                    gi_wp2
                    refine ⟨fun h => (by cases h), ?_⟩
                    refine HR.out.mono ?_
                    clear x0 x1 x2 x3 x4
                    rintro e W3 (⟨rfl, hJ4, hk4⟩ | ⟨rfl, hJx4⟩)
                    · have HJ4 := Lib.hid hJ4
                      have HL4 := Lib.hid (HL2.out.kpc hk4)
                      clear hJ4 hk4
                      gi_wp2
                      go_roundw
                      case rel => exact ⟨k + 1, pre2 ++ [X k], by go_num, by omega, by rw [List.length_append, List.length_singleton, HPL.out]; rfl, says_snoc HSY.out HQ.out, HJ4.out, HL4.out⟩
                      case measure => simp [intOf]; omega
                    · gi_wp2
                      refine bodyPost_ret (results_none rfl _ _ _) rfl ?_
                      exact ⟨⟨_, rfl⟩, .inr ⟨_, trivial, hJx4⟩⟩
                  · have hfew := need_few (R i).n
                    obtain rfl : k = needF (R i).n := by omega
                    clear hl2
                    gi_wp2
                    go_roundw
                    case rel => exact ⟨i + 1, pre2, by go_num, by omega, hpl2, HSY.out, HJS.out⟩
                    case measure => simp [intOf]; omega
              exact AllReadyIn.nil
            exact AllReadyIn.nil
          refine AllReadyIn.cons rfl (fun K hK => ?_) ?_
          · go_simp
            refine hK _ _ ?_
            clear hK K
            refine wpAnyIn_take (i := 8) (v := ?_) rfl rfl (by kernel_rfl) (by kernel_rfl) (by kernel_rfl) (fun _ _ _ h => h) ⟨Or.inl ⟨by rfl, ?_⟩, fun _ => rfl⟩ ?_
            rotate_left
            · intro w; go_simp <;> (try with_reducible rfl)
            (try simp only [Act.put, List.setIfInBounds_toArray, List.set_cons_zero, List.set_cons_succ, List.getElem_toArray, List.getElem_cons_succ, List.getElem_cons_zero])
            refine wpAnyIn_take (i := 11) (v := ?_) rfl rfl (by kernel_rfl) (by kernel_rfl) (by kernel_rfl) (fun _ _ _ h => h) ⟨Or.inl ⟨by rfl, ?_⟩, fun _ => rfl⟩ ?_
            rotate_left
            · intro w; go_simp <;> (try with_reducible rfl)
            (try simp only [Act.put, List.setIfInBounds_toArray, List.set_cons_zero, List.set_cons_succ, List.getElem_toArray, List.getElem_cons_succ, List.getElem_cons_zero])
            refine wpAnyIn_ready (rs := [3]) (by kernel_rfl) (by simp) ?_
            refine AllReadyIn.cons rfl (fun K hK => ?_) ?_
            · go_simp
              refine hK _ _ ?_
              clear hK K
              refine wpAnyIn_ready (rs := [13]) (by kernel_rfl) (by simp) ?_
              refine AllReadyIn.cons rfl (fun K hK => ?_) ?_
              · go_simp
                refine ⟨trivial, fun h => (by cases h), ?_⟩
                rw [HGW.out]
                gi_at_call 77
                refine (callsIn_wide.2 (csplit_any hqok.2.2.2.1 hGl (HB.out _ (bel_drew _)) HBN.out hz0)).mono ?_
                rintro e w3 ⟨⟨ad2, c2, X, rfl, hl, hx⟩, hb3⟩
                have HJ3 := Lib.hid (HJ.out _ _ _ HJS.out ((bel_drew _).trans hb3))
                have HL := Lib.hid hl
                have HX := Lib.hid hx
                clear hl hx hb3 d3 d5
                refine hK _ _ ?_
                clear hK K
                refine wpAnyIn_take (i := 14) (v := ?_) rfl rfl (by kernel_rfl) (by kernel_rfl) (by kernel_rfl) (fun _ _ _ h => h) ⟨Or.inl ⟨by rfl, ?_⟩, fun _ => rfl⟩ ?_
                rotate_left
                · intro w; go_simp <;> (try with_reducible rfl)
                (try simp only [Act.put, List.setIfInBounds_toArray, List.set_cons_zero, List.set_cons_succ, List.getElem_toArray, List.getElem_cons_succ, List.getElem_cons_zero])
                refine wpAnyIn_take (i := 15) (v := ?_) rfl rfl (by kernel_rfl) (by kernel_rfl) (by kernel_rfl) (fun _ _ _ h => h) ⟨Or.inl ⟨by rfl, ?_⟩, fun _ => rfl⟩ ?_
                rotate_left
                · intro w; go_simp <;> (try with_reducible rfl)
                (try simp only [Act.put, List.setIfInBounds_toArray, List.set_cons_zero, List.set_cons_succ, List.getElem_toArray, List.getElem_cons_succ, List.getElem_cons_zero])
                refine wpAnyIn_take (i := 16) (v := ?_) rfl rfl (by kernel_rfl) (by kernel_rfl) (by kernel_rfl) (fun _ _ _ h => h) ⟨Or.inl ⟨by rfl, ?_⟩, fun _ => rfl⟩ ?_
                rotate_left
                · intro w; go_simp <;> (try with_reducible rfl)
                (try simp only [Act.put, List.setIfInBounds_toArray, List.set_cons_zero, List.set_cons_succ, List.getElem_toArray, List.getElem_cons_succ, List.getElem_cons_zero])
                refine wpAnyIn_take (i := 17) (v := ?_) rfl rfl (by kernel_rfl) (by kernel_rfl) (by kernel_rfl) (fun _ _ _ h => h) ⟨Or.inl ⟨by rfl, ?_⟩, fun _ => rfl⟩ ?_
                rotate_left
                · intro w; go_simp <;> (try with_reducible rfl)
                (try simp only [Act.put, List.setIfInBounds_toArray, List.set_cons_zero, List.set_cons_succ, List.getElem_toArray, List.getElem_cons_succ, List.getElem_cons_zero])
                refine wpAnyIn_take (i := 18) (v := ?_) rfl rfl (by kernel_rfl) (by kernel_rfl) (by kernel_rfl) (fun _ _ _ h => h) ⟨Or.inl ⟨by rfl, ?_⟩, fun _ => rfl⟩ ?_
                rotate_left
                · intro w; go_simp <;> (try with_reducible rfl)
                (try simp only [Act.put, List.setIfInBounds_toArray, List.set_cons_zero, List.set_cons_succ, List.getElem_toArray, List.getElem_cons_succ, List.getElem_cons_zero])
                refine wpAnyIn_done (by kernel_rfl) ?_ _
                gi_wp2
                gi_loopw [36] (fun v wv => ∃ (k : Nat) (pre2 : List CellD), v = .int .i64 (k : Nat) ∧ k ≤ needF (R i).n ∧ pre2.length = sumN R i + k ∧ (∀ (j : Nat) (x : CellD), pre2[j]? = some x → Says Q n R j x) ∧ J pre2 wv ∧ ListC wv ad2 (needF (R i).n) X) (fun v _ => needF (R i).n - (intOf v).toNat)
                case atStart => exact ⟨0, pre, rfl, Nat.zero_le _, hpl, HSY.out, HJ3.out, HL.out⟩
                case round =>
                  obtain ⟨k, pre2, rfl, hk, hpl2, hsy2, hJ2, hl2⟩ := hrel
                  clear HJ3 HL HJS HSY HB
                  have HJS := Lib.hid hJ2
                  have HL := Lib.hid hl2
                  have HSY := Lib.hid hsy2
                  by_cases hlk : k < needF (R i).n
                  · obtain ⟨_, q1, q2, q3, q4, q5, q6, q7⟩ := hl2.at_.at_ hlk
                    have f2 : wr.cell? ⟨(ad2.add (k * 5)).block, (ad2.add (k * 5)).off + 1, none⟩ = some (.int .u32 ((X k).s : Nat)) := q2
                    have f3 : wr.cell? ⟨(ad2.add (k * 5)).block, (ad2.add (k * 5)).off + 2, none⟩ = some (.int .i64 (X k).p) := q3
                    have f4 : wr.cell? ⟨(ad2.add (k * 5)).block, (ad2.add (k * 5)).off + 3, none⟩ = some (.int .i64 (X k).q) := q4
                    have f5 : wr.cell? ⟨(ad2.add (k * 5)).block, (ad2.add (k * 5)).off + 4, none⟩ = some (.slice (X k).A (X k).n (X k).c) := q5
                    clear q2 q3 q4 q5
                    have hfew := need_few (R i).n
                    have ht8 := hl2.t8 k hlk
                    have hsk : Says Q n R pre2.length (X k) := ⟨i, k, hlt, hlk, hpl2, HGE.out ▸ HX.out k hlk⟩
                    have HQ := Lib.hid hsk
                    have hnw := below_new wr (objD (X k))
                    have HL2 := Lib.hid (hl2.kpc (kpc_below hnw))
                    have HJ3 := Lib.hid (HJ.out _ _ _ HJS.out hnw)
                    obtain ⟨ht1, ht2⟩ := rd_kpc (kpc_below hnw) q6 ht8
                    obtain ⟨fn, tmps, assign, body, hy, hR⟩ := HY.out pre2 (X k) _ HJ3.out (by have := sumN_lt R hlt hlk; omega) ⟨ht1, q7, ht2, hsk⟩
                    have HR := Lib.hid hR
                    have HX3 := Lib.hid (BoxH.new wr (X k).g (X k).s (X k).p (X k).q (X k).A (X k).n (X k).c)
                    have HPL := Lib.hid hpl2
                    clear q6 q7 ht8 hsk hl2 hsy2 hJ2 hnw ht1 ht2 hR hpl2
                    obtain ⟨x0, x1, x2, x3, x4⟩ := HX3.out.boxc
                    gi_wp2
                    refine ⟨fun h => (by cases h), ?_⟩
                    refine HR.out.mono ?_
                    clear x0 x1 x2 x3 x4
                    rintro e W3 (⟨rfl, hJ4, hk4⟩ | ⟨rfl, hJx4⟩)
                    · have HJ4 := Lib.hid hJ4
                      have HL4 := Lib.hid (HL2.out.kpc hk4)
                      clear hJ4 hk4
                      gi_wp2
                      go_roundw
                      case rel => exact ⟨k + 1, pre2 ++ [X k], by go_num, by omega, by rw [List.length_append, List.length_singleton, HPL.out]; rfl, says_snoc HSY.out HQ.out, HJ4.out, HL4.out⟩
                      case measure => simp [intOf]; omega
                    · gi_wp2
                      refine bodyPost_ret (results_none rfl _ _ _) rfl ?_
                      exact ⟨⟨_, rfl⟩, .inr ⟨_, trivial, hJx4⟩⟩
                  · have hfew := need_few (R i).n
                    obtain rfl : k = needF (R i).n := by omega
                    clear hl2
                    gi_wp2
                    go_roundw
                    case rel => exact ⟨i + 1, pre2, by go_num, by omega, hpl2, HSY.out, HJS.out⟩
                    case measure => simp [intOf]; omega
              exact AllReadyIn.nil
            exact AllReadyIn.nil
          exact AllReadyIn.nil
        refine AllReadyIn.cons rfl (fun K hK => ?_) ?_
        · go_simp
          refine hK _ _ ?_
          clear hK K
          refine wpAnyIn_take (i := 8) (v := ?_) rfl rfl (by kernel_rfl) (by kernel_rfl) (by kernel_rfl) (fun _ _ _ h => h) ⟨Or.inl ⟨by rfl, ?_⟩, fun _ => rfl⟩ ?_
          rotate_left
          · intro w; go_simp <;> (try with_reducible rfl)
          (try simp only [Act.put, List.setIfInBounds_toArray, List.set_cons_zero, List.set_cons_succ, List.getElem_toArray, List.getElem_cons_succ, List.getElem_cons_zero])
          refine wpAnyIn_take (i := 11) (v := ?_) rfl rfl (by kernel_rfl) (by kernel_rfl) (by kernel_rfl) (fun _ _ _ h => h) ⟨Or.inl ⟨by rfl, ?_⟩, fun _ => rfl⟩ ?_
          rotate_left
          · intro w; go_simp <;> (try with_reducible rfl)
          (try simp only [Act.put, List.setIfInBounds_toArray, List.set_cons_zero, List.set_cons_succ, List.getElem_toArray, List.getElem_cons_succ, List.getElem_cons_zero])
          refine wpAnyIn_ready (rs := [0]) (by kernel_rfl) (by simp) ?_
          refine AllReadyIn.cons rfl (fun K hK => ?_) ?_
          · go_simp
            refine hK _ _ ?_
            clear hK K
            refine wpAnyIn_take (i := 1) (v := ?_) rfl rfl (by kernel_rfl) (by kernel_rfl) (by kernel_rfl) (fun _ _ _ h => h) ⟨Or.inl ⟨by rfl, ?_⟩, fun _ => rfl⟩ ?_
            rotate_left
            · intro w; go_simp <;> (try with_reducible rfl)
            (try simp only [Act.put, List.setIfInBounds_toArray, List.set_cons_zero, List.set_cons_succ, List.getElem_toArray, List.getElem_cons_succ, List.getElem_cons_zero])
            refine wpAnyIn_take (i := 2) (v := ?_) rfl rfl (by kernel_rfl) (by kernel_rfl) (by kernel_rfl) (fun _ _ _ h => h) ⟨Or.inl ⟨by rfl, ?_⟩, fun _ => rfl⟩ ?_
            rotate_left
            · intro w; go_simp <;> (try with_reducible rfl)
            (try simp only [Act.put, List.setIfInBounds_toArray, List.set_cons_zero, List.set_cons_succ, List.getElem_toArray, List.getElem_cons_succ, List.getElem_cons_zero])
            refine wpAnyIn_ready (rs := [3]) (by kernel_rfl) (by simp) ?_
            refine AllReadyIn.cons rfl (fun K hK => ?_) ?_
            · go_simp
              refine hK _ _ ?_
              clear hK K
              refine wpAnyIn_ready (rs := [13]) (by kernel_rfl) (by simp) ?_
              refine AllReadyIn.cons rfl (fun K hK => ?_) ?_
              · go_simp
                refine ⟨trivial, fun h => (by cases h), ?_⟩
                rw [HGW.out]
                gi_at_call 77
                refine (callsIn_wide.2 (csplit_any hqok.2.2.2.1 hGl (HB.out _ (bel_drew _)) HBN.out hz0)).mono ?_
                rintro e w3 ⟨⟨ad2, c2, X, rfl, hl, hx⟩, hb3⟩
                have HJ3 := Lib.hid (HJ.out _ _ _ HJS.out ((bel_drew _).trans hb3))
                have HL := Lib.hid hl
                have HX := Lib.hid hx
                clear hl hx hb3 d3 d5
                refine hK _ _ ?_
                clear hK K
                refine wpAnyIn_take (i := 14) (v := ?_) rfl rfl (by kernel_rfl) (by kernel_rfl) (by kernel_rfl) (fun _ _ _ h => h) ⟨Or.inl ⟨by rfl, ?_⟩, fun _ => rfl⟩ ?_
                rotate_left
                · intro w; go_simp <;> (try with_reducible rfl)
                (try simp only [Act.put, List.setIfInBounds_toArray, List.set_cons_zero, List.set_cons_succ, List.getElem_toArray, List.getElem_cons_succ, List.getElem_cons_zero])
                refine wpAnyIn_take (i := 15) (v := ?_) rfl rfl (by kernel_rfl) (by kernel_rfl) (by kernel_rfl) (fun _ _ _ h => h) ⟨Or.inl ⟨by rfl, ?_⟩, fun _ => rfl⟩ ?_
                rotate_left
                · intro w; go_simp <;> (try with_reducible rfl)
                (try simp only [Act.put, List.setIfInBounds_toArray, List.set_cons_zero, List.set_cons_succ, List.getElem_toArray, List.getElem_cons_succ, List.getElem_cons_zero])
                refine wpAnyIn_take (i := 16) (v := ?_) rfl rfl (by kernel_rfl) (by kernel_rfl) (by kernel_rfl) (fun _ _ _ h => h) ⟨Or.inl ⟨by rfl, ?_⟩, fun _ => rfl⟩ ?_
                rotate_left
                · intro w; go_simp <;> (try with_reducible rfl)
                (try simp only [Act.put, List.setIfInBounds_toArray, List.set_cons_zero, List.set_cons_succ, List.getElem_toArray, List.getElem_cons_succ, List.getElem_cons_zero])
                refine wpAnyIn_take (i := 17) (v := ?_) rfl rfl (by kernel_rfl) (by kernel_rfl) (by kernel_rfl) (fun _ _ _ h => h) ⟨Or.inl ⟨by rfl, ?_⟩, fun _ => rfl⟩ ?_
                rotate_left
                · intro w; go_simp <;> (try with_reducible rfl)
                (try simp only [Act.put, List.setIfInBounds_toArray, List.set_cons_zero, List.set_cons_succ, List.getElem_toArray, List.getElem_cons_succ, List.getElem_cons_zero])
                refine wpAnyIn_take (i := 18) (v := ?_) rfl rfl (by kernel_rfl) (by kernel_rfl) (by kernel_rfl) (fun _ _ _ h => h) ⟨Or.inl ⟨by rfl, ?_⟩, fun _ => rfl⟩ ?_
                rotate_left
                · intro w; go_simp <;> (try with_reducible rfl)
                (try simp only [Act.put, List.setIfInBounds_toArray, List.set_cons_zero, List.set_cons_succ, List.getElem_toArray, List.getElem_cons_succ, List.getElem_cons_zero])
                refine wpAnyIn_done (by kernel_rfl) ?_ _
                gi_wp2
                gi_loopw [36] (fun v wv => ∃ (k : Nat) (pre2 : List CellD), v = .int .i64 (k : Nat) ∧ k ≤ needF (R i).n ∧ pre2.length = sumN R i + k ∧ (∀ (j : Nat) (x : CellD), pre2[j]? = some x → Says Q n R j x) ∧ J pre2 wv ∧ ListC wv ad2 (needF (R i).n) X) (fun v _ => needF (R i).n - (intOf v).toNat)
                case atStart => exact ⟨0, pre, rfl, Nat.zero_le _, hpl, HSY.out, HJ3.out, HL.out⟩
                case round =>
                  obtain ⟨k, pre2, rfl, hk, hpl2, hsy2, hJ2, hl2⟩ := hrel
                  clear HJ3 HL HJS HSY HB
                  have HJS := Lib.hid hJ2
                  have HL := Lib.hid hl2
                  have HSY := Lib.hid hsy2
                  by_cases hlk : k < needF (R i).n
                  · obtain ⟨_, q1, q2, q3, q4, q5, q6, q7⟩ := hl2.at_.at_ hlk
                    have f2 : wr.cell? ⟨(ad2.add (k * 5)).block, (ad2.add (k * 5)).off + 1, none⟩ = some (.int .u32 ((X k).s : Nat)) := q2
                    have f3 : wr.cell? ⟨(ad2.add (k * 5)).block, (ad2.add (k * 5)).off + 2, none⟩ = some (.int .i64 (X k).p) := q3
                    have f4 : wr.cell? ⟨(ad2.add (k * 5)).block, (ad2.add (k * 5)).off + 3, none⟩ = some (.int .i64 (X k).q) := q4
                    have f5 : wr.cell? ⟨(ad2.add (k * 5)).block, (ad2.add (k * 5)).off + 4, none⟩ = some (.slice (X k).A (X k).n (X k).c) := q5
                    clear q2 q3 q4 q5
                    have hfew := need_few (R i).n
                    have ht8 := hl2.t8 k hlk
                    have hsk : Says Q n R pre2.length (X k) := ⟨i, k, hlt, hlk, hpl2, HGE.out ▸ HX.out k hlk⟩
                    have HQ := Lib.hid hsk
                    have hnw := below_new wr (objD (X k))
                    have HL2 := Lib.hid (hl2.kpc (kpc_below hnw))
                    have HJ3 := Lib.hid (HJ.out _ _ _ HJS.out hnw)
                    obtain ⟨ht1, ht2⟩ := rd_kpc (kpc_below hnw) q6 ht8
                    obtain ⟨fn, tmps, assign, body, hy, hR⟩ := HY.out pre2 (X k) _ HJ3.out (by have := sumN_lt R hlt hlk; omega) ⟨ht1, q7, ht2, hsk⟩
                    have HR := Lib.hid hR
                    have HX3 := Lib.hid (BoxH.new wr (X k).g (X k).s (X k).p (X k).q (X k).A (X k).n (X k).c)
                    have HPL := Lib.hid hpl2
                    clear q6 q7 ht8 hsk hl2 hsy2 hJ2 hnw ht1 ht2 hR hpl2
                    obtain ⟨x0, x1, x2, x3, x4⟩ := HX3.out.boxc
                    gi_wp2
                    refine ⟨fun h => (by cases h), ?_⟩
                    refine HR.out.mono ?_
                    clear x0 x1 x2 x3 x4
                    rintro e W3 (⟨rfl, hJ4, hk4⟩ | ⟨rfl, hJx4⟩)
                    · have HJ4 := Lib.hid hJ4
                      have HL4 := Lib.hid (HL2.out.kpc hk4)
                      clear hJ4 hk4
                      gi_wp2
                      go_roundw
                      case rel => exact ⟨k + 1, pre2 ++ [X k], by go_num, by omega, by rw [List.length_append, List.length_singleton, HPL.out]; rfl, says_snoc HSY.out HQ.out, HJ4.out, HL4.out⟩
                      case measure => simp [intOf]; omega
                    · gi_wp2
                      refine bodyPost_ret (results_none rfl _ _ _) rfl ?_
                      exact ⟨⟨_, rfl⟩, .inr ⟨_, trivial, hJx4⟩⟩
                  · have hfew := need_few (R i).n
                    obtain rfl : k = needF (R i).n := by omega
                    clear hl2
                    gi_wp2
                    go_roundw
                    case rel => exact ⟨i + 1, pre2, by go_num, by omega, hpl2, HSY.out, HJS.out⟩
                    case measure => simp [intOf]; omega
              exact AllReadyIn.nil
            exact AllReadyIn.nil
          exact AllReadyIn.nil
        exact AllReadyIn.nil
      exact AllReadyIn.nil
    · obtain rfl : i = n := by omega
      gi_wp2
      go_end0
      exact ⟨⟨_, rfl⟩, .inl ⟨_, ⟨hpl, HSY.out⟩, HJS.out⟩⟩
end Go.Proofs.Ytmcbmbcfgefocaa
