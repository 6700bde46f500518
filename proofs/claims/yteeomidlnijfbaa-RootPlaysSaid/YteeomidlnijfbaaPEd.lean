/- Contract: the document's Write, of a write that is begun. -/
import Derived.Test.YteeomidlnijfbaaPEc
import Derived.Deep.Cut
namespace Go.Proofs.Yteeomidlnijfbaa
open Go.RowKit

theorem int_info : (Try.prog.info? 3).map (fun i => (i.zero, i.size, i.bytes)) = some (some (.int .i64 0), 1, 8) := by kernel_rfl
theorem own_empty (w : World) (t : TypeId) : (w.alloc (.cells #[] t)).ownsRow w.heap.size t 1 (.slice (some ⟨w.heap.size, 0, none⟩) 0 0) 0 [] :=
  World.ownsRow_lit w _ 0 (Nat.le_refl _) (by simp only [maxLen]; omega) rfl
section
variable {G : Nat → Prop} {w w' : World} {g gB cB gX : Nat} {vA vN : Value} {ys : List Value} {VB : Nat → Value} {X : Nat → Bool} {stop begun stop' begun' : Int} {t t' : Nat} {S S' : DS}
/-- The row that 64 bytes make. -/
theorem sec_of_own {w : World} {base g c : Nat} {f : Nat → Nat} (h : w.ownsRow base 5 1 (.slice (some ⟨g, 0, none⟩) 64 c) 64 ((List.range 64).map fun j => Value.int .u8 (f j : Nat))) (hf : ∀ j, j < 64 → f j < 256) (R : Nat → Prop) (hR : R g) : Sec R w (.slice (some ⟨g, 0, none⟩) 64 c) f := by
  rcases h.2 with ⟨e, _⟩ | ⟨g', c', cur, e, _, _, hc, _⟩
  · cases e
  · injection e with e1 e2 e3
    subst e3
    refine ⟨g, 0, c, rfl, hc, hR, fun j hj => ?_, hf⟩
    rw [Nat.zero_add, World.ownsRow.cellAt h j (by omega)]
    simp [hj]
theorem rwrite_fin {w1 w4 w5 w6 : World} {aA aN : Option Addr} {L cA cN gA cA' g5 c5 g6 c6 i : Nat} {f : Nat → Nat} (hd : Rk G w1 g gB cB gX (.slice aA L cA) (.slice aN L cN) ys VB X stop begun t S) (hL : L = S.P.length) (ho : Only (· = g) w w1) (hi : i < S.n)
    (ho4 : Only (fun k => k = g ∨ (Value.slice aA L cA).ownBlock = some k ∨ (Value.slice aN L cN).ownBlock = some k) w1 w4) (hA4 : w4.ownsRow 0 3 1 (.slice (some ⟨gA, 0, none⟩) (L + 1) cA') (L + 1) (PendI S.P ++ [.int .i64 (i : Nat)]))
    (hs4 : w1.heap.size < w4.heap.size) (hat : (Value.slice aA L cA).ownBlock = some gA ∨ gA = w1.heap.size + 1)
    (hown5 : w5.ownsRow w4.heap.size 5 1 (.slice (some ⟨g5, 0, none⟩) 64 c5) 64 ((List.range 64).map fun j => Value.int .u8 (f j : Nat))) (hf : ∀ j, j < 64 → f j < 256) (hg5 : (w4.drew.alloc (.cells #[] 5)).grownBy w5 (some w4.heap.size))
    (hown6 : w6.ownsRow 0 35 1 (.slice (some ⟨g6, 0, none⟩) (L + 1) c6) (L + 1) (ys ++ [.slice (some ⟨g5, 0, none⟩) 64 c5])) (hg6 : (w5.alloc (.cells #[.slice (some ⟨g5, 0, none⟩) 64 c5] 35)).grownBy w6 (Value.slice aN L cN).ownBlock)
    (hat6 : (Value.slice aN L cN).ownBlock = some g6 ∨ g6 = (w5.alloc (.cells #[.slice (some ⟨g5, 0, none⟩) 64 c5] 35)).heap.size)
    (hb6 : w6.rowIs g 91 7 (dv7 (.slice (some ⟨gB, 0, none⟩) S.n cB) (.slice (some ⟨gX, 0, none⟩) S.n S.n) (.slice (some ⟨gA, 0, none⟩) (L + 1) cA') (.slice aN L cN) (.bool S.gone) (.int .i64 stop) (.int .i64 begun))) :
    RPost G w (w6.setCell ⟨g, 3, none⟩ (.slice (some ⟨g6, 0, none⟩) (L + 1) c6)) g t (S.wrote i f) := by
  subst hL
  have z5 := hg5.size
  have z6 := hg6.size
  rw [World.size_alloc] at z5 z6
  have z5' : w4.heap.size + 1 ≤ w5.heap.size := z5
  have lg := hd.lt _ hd.gg.1
  have lA := hd.pA
  have lN := hd.pN
  have l5 := World.ownsRow.lt hown5 g5 rfl
  have l6 := (World.ownsRow.lt hown6 g6 rfl).2
  have lAA := (World.ownsRow.lt hA4 gA rfl).2
  have nN : ∀ k, (Value.slice aN S.P.length cN).ownBlock = some k → k < w1.heap.size ∧ k ≠ g := fun k hk => ⟨hd.lt k (lN k hk).2.2.2, (lN k hk).1⟩
  have nA : gA ≠ g ∧ (Value.slice aN S.P.length cN).ownBlock ≠ some gA := by
    rcases hat with e | e
    · exact ⟨(lA gA e).1, (lA gA e).2.2.2.2⟩
    · exact ⟨by omega, fun e2 => by have := (nN gA e2).1; omega⟩
  have n6 : g6 ≠ g ∧ g6 ≠ g5 ∧ g6 ≠ gA := by
    rcases hat6 with e | e
    · have := nN g6 e
      exact ⟨this.2, by omega, fun e2 => nA.2 (e2 ▸ e)⟩
    · rw [World.size_alloc] at e
      exact ⟨by omega, by omega, by omega⟩
  have kX : ∀ k, k ≠ g → (w6.setCell ⟨g, 3, none⟩ (.slice (some ⟨g6, 0, none⟩) (S.P.length + 1) c6)).heap[k]? = w6.heap[k]? := fun k hk => Below.heap_setCell _ _ _ _ hk
  have k6 : ∀ k, k < w5.heap.size → (Value.slice aN S.P.length cN).ownBlock ≠ some k → w6.heap[k]? = w5.heap[k]? := fun k hk hn => (hg6.block k (by rw [World.size_alloc]; omega) (fun e => hn e.symm)).trans (Below.heap_alloc w5 _ k hk)
  have k5 : ∀ k, k < w4.heap.size → w5.heap[k]? = w4.heap[k]? := fun k hk => (hg5.block k (by rw [World.size_alloc]; exact Nat.lt_succ_of_lt hk) (fun e => by injection e with e; omega)).trans (Below.heap_alloc w4.drew _ k hk)
  have hoB : Only (fun k => k = g ∨ (Value.slice aA S.P.length cA).ownBlock = some k ∨ (Value.slice aN S.P.length cN).ownBlock = some k) w1 (w6.setCell ⟨g, 3, none⟩ (.slice (some ⟨g6, 0, none⟩) (S.P.length + 1) c6)) :=
    (((((ho4.drew).alloc _).grown hg5 (fun k hk => by injection hk with hk; exact .inr (by omega))).alloc _).grown hg6 (fun k hk => .inl (.inr (.inr hk)))).setCell (a := ⟨g, 3, none⟩) (.inl (.inl rfl)) _
  have hsz : (w6.setCell ⟨g, 3, none⟩ (.slice (some ⟨g6, 0, none⟩) (S.P.length + 1) c6)).heap.size = w6.heap.size := by simp [World.setCell]
  refine ⟨_, ⟨gB, cB, gX, _, _, _, VB, X, stop, begun, hd.wrote (w' := w6.setCell ⟨g, 3, none⟩ (.slice (some ⟨g6, 0, none⟩) (S.P.length + 1) c6)) (vA' := .slice (some ⟨gA, 0, none⟩) (S.P.length + 1) cA') (vN' := .slice (some ⟨g6, 0, none⟩) (S.P.length + 1) c6) (u := .slice (some ⟨g5, 0, none⟩) 64 c5) (f := f) hi hoB (d7_3 hb6 _)
    (own_keep hA4 fun k hk => ?_) (own_keep hown6 fun k hk => ?_) ?_ (fun k hk => ?_) (fun k hk => ⟨?_, ?_⟩)⟩, (ho.mono (by rintro k rfl; exact hd.gg.1)).trans (hoB.mono ?_), fun k hk => ?_⟩
  · injection hk with hk
    have hk' : gA = k := hk
    subst hk'
    exact (kX _ nA.1).trans ((k6 _ (by omega) nA.2).trans (k5 _ lAA))
  · injection hk with hk
    have hk' : g6 = k := hk
    subst hk'
    exact kX _ n6.1
  · refine (sec_of_own hown5 hf (fun k => k = g5) rfl).keep (fun k hk hl => ?_) (fun k hk hl => ⟨by omega, ?_, ?_⟩)
    · subst hk
      exact (kX _ (by omega)).trans (k6 _ l5.2 (fun e => by have := (nN _ e).1; omega))
    · intro e; injection e with e; have e' : gA = k := e; omega
    · intro e; injection e with e; have e' : g6 = k := e; exact n6.2.1 (e'.trans hk)
  · injection hk with hk
    have hk' : gA = k := hk
    subst hk'
    rcases hat with e | e
    · exact .inl e
    · exact .inr ⟨by omega, by rw [hsz]; omega⟩
  · injection hk with hk
    have hk' : g6 = k := hk
    subst hk'
    rcases hat6 with e | e
    · exact .inl e
    · rw [World.size_alloc] at e
      exact .inr ⟨by omega, by rw [hsz]; exact l6⟩
  · injection hk with hk
    have hk' : g6 = k := hk
    subst hk'
    intro e; injection e with e; have e' : gA = g6 := e; exact n6.2.2 e'.symm
  · rintro k (rfl | e | e)
    · exact hd.gg.1
    · exact (lA k e).2.2.2.1
    · exact (lN k e).2.2.2
  · have := ho.size
    rcases hk with e | e
    · exact .inl e
    · exact .inr (by omega)
set_option maxRecDepth 20000 in
set_option maxHeartbeats 2000000 in
theorem rwrite_ok (h : Rk G w g gB cB gX vA vN ys VB X stop begun t S) (hg : S.gone = false) (hk : S.ok = true) (ht : t ≤ 1000000) (hP : S.P.length ≤ 1000000) (i : Nat) (hi : i < S.n) {a : Option Addr} {c : Nat} {f : Nat → Nat} (hv : ∀ w1, Only G w w1 → Sec (fun _ => True) w1 (.slice a 64 c) f) :
    Calls Try.prog 28 #[.pointer (some ⟨g, 0, none⟩), .int .i64 (i : Nat), .slice a 64 c] w fun e w' => e = .returned (.int .i64 0) ∧ RPost G w w' g (t + 1) (S.begun.wrote i f) := by
  obtain ⟨aA, cA, rfl⟩ := own_shape h.oA
  obtain ⟨aN, cN, rfl⟩ := own_shape h.oN
  obtain ⟨c0, c1, c2, c3, c4, c5, c6⟩ := dvr7 h.box
  rw [hg] at c4
  have HG := Lib.hid (goes_any h hg ht)
  rw [hk] at HG
  have d0 : decide ((i : Int) < 0) = false := by rw [decide_eq_false_iff_not]; omega
  have d1 : decide ((S.n : Int) ≤ (i : Int)) = false := by rw [decide_eq_false_iff_not]; omega
  have HV := Lib.hid hv
  have hbn : S.begun.n = S.n ∧ S.begun.P = S.P := by unfold DS.begun; split; exact ⟨rfl, rfl⟩; split <;> exact ⟨rfl, rfl⟩
  have HBN := Lib.hid hbn
  obtain ⟨a0, ha0⟩ : ∃ a0, a = some a0 := by
    obtain ⟨g', o', c', e, _⟩ := hv w Only.refl
    injection e with e
    exact ⟨_, e⟩
  subst ha0
  clear h hg hk hv hbn
  go_enter Try.func28, Try.ntmps28
  go_upto_region 7 with (go_at_call 55; refine HG.out.mono ?_; rintro e w1 ⟨rfl, hd, ho⟩; have HD := Lib.hid hd; have HO := Lib.hid ho; clear hd ho)
  have hbox := HD.out.box
  have HBX := Lib.hid hbox
  obtain ⟨q0, q1, q2, q3, q4, q5, q6⟩ := dvr7 hbox
  have q7 := hbox.frozen 2
  have hgl := HD.out.lt g HD.out.gg.1
  have HOA := Lib.hid (own_keep (w' := w1.alloc (.cells #[.int .i64 (i : Nat)] 3)) HD.out.oA fun k hk => Below.heap_alloc w1 _ k (HD.out.lt k (HD.out.pA k hk).2.2.2.1))
  have HPA := Lib.hid HD.out.pA
  have HPN := Lib.hid HD.out.pN
  rw [HBN.out.2] at HOA
  have HLT := Lib.hid HD.out.lt
  clear c0 c1 c2 c3 c4 c5 c6 hbox
  go_wp2_with (
    at_builtin
    refine wpList_append_more rfl (.tmp 33) (.tmp 35) 47 rfl 0 3 _ 1 8 Try.underlying47 int_info rfl (by omega) _ S.P.length _ rfl HOA.out ⟨w1.heap.size, 0, none⟩ 1 1 [.int .i64 (i : Nat)] rfl rfl (cell_one_new _ _ _) (by simp [Value.oneCell']) (by simp only [maxLen]; omega) (by omega) (Nat.zero_le _) (by omega) ?_
    intro gA cA' w3 hown3 hg3 hat3
    have hbx3 := (HBX.out.alloc (.cells #[.int .i64 (i : Nat)] 3)).of_block (hg3.block g (by rw [World.size_alloc]; omega) (fun e => (HPA.out g e.symm).1 rfl))
    obtain ⟨r0, r1, r2, r3, r4, r5, r6⟩ := dvr7 hbx3
    have r7 := hbx3.frozen 2)
  have hw4 : ∀ k, k ≠ g → (w3.setCell ⟨g, 2, none⟩ (.slice (some ⟨gA, 0, none⟩) (S.P.length + 1) cA')).heap[k]? = w3.heap[k]? := fun k hk => Below.heap_setCell _ _ _ _ hk
  have hw3 : ∀ k, k < w1.heap.size → (Value.slice aA S.P.length cA).ownBlock ≠ some k → w3.heap[k]? = w1.heap[k]? := fun k hk hn => (hg3.block k (by rw [World.size_alloc]; omega) (fun e => hn e.symm)).trans (Below.heap_alloc w1 _ k hk)
  have HAT := Lib.hid (hat3.imp id fun e => show gA = w1.heap.size + 1 from by rw [e, World.size_alloc])
  have hgAg : gA ≠ g := by
    rcases HAT.out with e | e
    · exact (HPA.out gA e).1
    · omega
  have HBX4 := Lib.hid (d7_2 hbx3 (.slice (some ⟨gA, 0, none⟩) (S.P.length + 1) cA'))
  have HOW4 := Lib.hid (own_keep (w' := w3.setCell ⟨g, 2, none⟩ (.slice (some ⟨gA, 0, none⟩) (S.P.length + 1) cA')) hown3 (fun k hk => hw4 k (by injection hk with hk; have hk' : gA = k := hk; omega)))
  have HON4 := Lib.hid (own_keep (w' := w3.setCell ⟨g, 2, none⟩ (.slice (some ⟨gA, 0, none⟩) (S.P.length + 1) cA')) HD.out.oN (fun k hk => (hw4 k (HPN.out k hk).1).trans (hw3 k (HLT.out k (HPN.out k hk).2.2.2) (fun e => (HPA.out k e).2.2.2.2 hk))))
  have HO4 := Lib.hid (show Only (fun k => k = g ∨ (Value.slice aA S.P.length cA).ownBlock = some k ∨ (Value.slice aN S.P.length cN).ownBlock = some k) w1 (w3.setCell ⟨g, 2, none⟩ (.slice (some ⟨gA, 0, none⟩) (S.P.length + 1) cA')) from
    (((Only.refl.alloc _).grown hg3 (fun k hk => .inl (.inr (.inl hk)))).setCell (a := ⟨g, 2, none⟩) (.inl (.inl rfl)) _))
  have hgA4 := (World.ownsRow.lt HOW4.out gA rfl).2
  have hs4 : w1.heap.size < (w3.setCell ⟨g, 2, none⟩ (.slice (some ⟨gA, 0, none⟩) (S.P.length + 1) cA')).heap.size := by
    have := hg3.size
    rw [World.size_alloc] at this
    simp [World.setCell]
    omega
  rw [HBN.out.2] at HON4
  clear hown3 hg3 hat3 hbx3 r0 r1 r2 r3 r4 r5 r6 r7 hw4 hw3 q0 q1 q2 q3 q4 q5 q6 q7
  generalize w3.setCell ⟨g, 2, none⟩ (.slice (some ⟨gA, 0, none⟩) (S.P.length + 1) cA') = w4 at *
  have HSC := Lib.hid (HV.out w4 ((HO.out.mono (by rintro k rfl; exact HD.out.gg.1)).trans (HO4.out.mono (by
    rintro k (rfl | e | e)
    · exact HD.out.gg.1
    · exact (HPA.out k e).2.2.2.1
    · exact (HPN.out k e).2.2.2))))
  obtain ⟨g0, o0, c0', es, _, _, hrd, hf⟩ := HSC.out.rd
  injection es with es1 es2 es3
  injection es1 with es1
  subst es1
  have HF := Lib.hid hf
  have HNW := Lib.hid (show ∀ j u, ((List.range 64).map fun j => Value.int .u8 (f j : Nat))[j]? = some u → (w4.drew.alloc (.cells #[] 5)).cell? ((⟨g0, o0, none⟩ : Addr).add j) = some u from fun j u hu => by
    obtain ⟨hj, rfl⟩ := rg_get (s := fun j => Value.int .u8 (f j : Nat)) hu
    exact (hrd.below (below_new w4 (.cells #[] 5))).at_ hj)
  have HEM := Lib.hid (own_empty w4.drew 5)
  have hb4 := HBX4.out
  obtain ⟨q0, q1, q2, q3, q4, q5, q6⟩ := dvr7 hb4
  have q7 := hb4.frozen 3
  have hgl4 : g < w4.heap.size := by omega
  have HLN := Lib.hid (show ∀ k, (Value.slice aN S.P.length cN).ownBlock = some k → k < w1.heap.size ∧ k ≠ g from fun k hk => ⟨HLT.out k (HPN.out k hk).2.2.2, (HPN.out k hk).1⟩)
  clear hrd hf es2 es3 hb4
  go_region_law (first
    | (refine step_append_more rfl (.tmp 44) (.tmp 45) 35 rfl w4.heap.size 5 _ 1 1 Try.underlying35 u8_info rfl (by omega) (.slice (some ⟨w4.heap.size, 0, none⟩) 0 0) 0 [] (by simp [Act.eval]) HEM.out ⟨g0, o0, none⟩ 64 c ((List.range 64).map fun j => Value.int .u8 (f j : Nat)) (by simp [Act.eval]) (by simp) HNW.out (by simp [Value.oneCell']) (by simp only [maxLen]; omega) (by omega) (by simp) (by omega) ?_
       intro g5 c5 w5 hown5 hg5 hat5
       have hb5 := ((HBX4.out.drew).alloc (.cells #[] 5)).of_block (hg5.block g (by simp; omega) (fun e => by injection e with e; simp at e; omega))
       obtain ⟨r0, r1, r2, r3, r4, r5, r6⟩ := dvr7 hb5
       have r7 := hb5.frozen 3
       have hgl5 : g < w5.heap.size := hb5.lt)
    | (refine step_append_more rfl (.tmp 43) (.tmp 47) 32 rfl 0 35 _ 1 24 Try.underlying32 rows_info rfl (by omega) (.slice aN S.P.length cN) S.P.length ys (by simp [Act.eval]) ?qown ⟨w5.heap.size, 0, none⟩ 1 1 [.slice (some ⟨g5, 0, none⟩) 64 c5] (by simp [Act.eval]) rfl (cell_one_new _ _ _) (by simp [Value.oneCell']) (by simp only [maxLen]; omega) (by omega) (Nat.zero_le _) (by omega) ?_
       case qown => exact own_keep HON4.out (fun k hk => (Below.heap_alloc w5 _ k (Nat.lt_of_lt_of_le (Nat.lt_trans (HLN.out k hk).1 hs4) (by have := hg5.size; simp at this; omega))).trans ((hg5.block k (by have := (HLN.out k hk).1; simp; omega) (fun e => by injection e with e; have := (HLN.out k hk).1; simp at e; omega)).trans (Below.heap_alloc w4.drew _ k (Nat.lt_trans (HLN.out k hk).1 hs4))))
       intro g6 c6 w6 hown6 hg6 hat6
       have hb6 := (hb5.alloc (.cells #[.slice (some ⟨g5, 0, none⟩) 64 c5] 35)).of_block (hg6.block g (by rw [World.size_alloc]; have := hg5.size; simp at this; omega) (fun e => (HLN.out g e.symm).2 rfl))
       obtain ⟨s0, s1, s2, s3, s4, s5, s6⟩ := dvr7 hb6
       have s7 := hb6.frozen 3))
  all_goals
    have HFIN := Lib.hid (rwrite_fin HD.out (by rw [HBN.out.2]) HO.out (by rw [HBN.out.1]; exact hi) HO4.out (by rw [HBN.out.2]; exact HOW4.out) hs4 HAT.out (by simpa using hown5) HF.out hg5 hown6 hg6 hat6 hb6)
    clear hown5 hg5 hat5 hb5 hown6 hg6 hat6 hb6 r0 r1 r2 r3 r4 r5 r6 r7 s0 s1 s2 s3 s4 s5 s6 s7 q0 q1 q2 q3 q4 q5 q6 q7
    go_wp2
    go_ret
    exact ⟨rfl, HFIN.out⟩
end
end Go.Proofs.Yteeomidlnijfbaa
