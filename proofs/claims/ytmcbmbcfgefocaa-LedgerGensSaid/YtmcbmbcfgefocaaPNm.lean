/- Contract: write. -/
import Derived.Test.YtmcbmbcfgefocaaPNl
import Derived.OwnWalkIn
import Derived.RangeFuncCalls
import Derived.Sort.QuietIn
import Derived.Sort.LoopGhostIn
namespace Go.Proofs.Ytmcbmbcfgefocaa
open Go.RowKit Go.Shelf
set_option linter.unusedSimpArgs false
set_option linter.unusedVariables false
attribute [local go_sem] Oper.semAt_some

def WritePost (F : Nat → Prop) (w w' : World) (e : Ending) (gd : Nat) (Q : QS) (S : DS) (n : Nat) (R : Nat → RowD) : Prop :=
  ∃ xs : List CellD, (∀ (j : Nat) (x : CellD), xs[j]? = some x → Says Q n R j x) ∧ xs.length ≤ sumN R n ∧ FrW w w' ∧ DPost F w w' gd (wrS S Q.ende xs) ∧
    ((e = .returned (.tuple #[.int .i64 ((Q.ende + xs.length : Nat) : Int), .int .i64 0]) ∧ xs.length = sumN R n ∧ wrC S Q.ende xs) ∨
     (∃ pre x, xs = pre ++ [x] ∧ wrC S Q.ende pre ∧ ((wrS S Q.ende pre).write ((Q.ende + pre.length : Nat)) (secX x)).2 ≠ 0 ∧ e = .returned (.tuple #[.int .i64 0, .int .i64 ((wrS S Q.ende pre).write ((Q.ende + pre.length : Nat)) (secX x)).2])))
set_option maxRecDepth 100000 in
set_option maxHeartbeats 8000000 in
theorem write_any {F : Nat → Prop} {w : World} {gq gd : Nat} {Q : QS} {S : DS} {A : Option Addr} {n c : Nat} {R : Nat → RowD} (hd : DskAt F w gd S) (hq : SBox w gq gd Q) (hR : ∀ V, Only F w V → RowsIn V A n R)
    (hz : ∀ i, i < n → needF (R i).n ≠ 0) (hn : n ≤ 100000) (ht : Q.top + n < 4294967296) (hP : S.P.length + sumN R n ≤ 1000000) :
    Calls Try.prog 55 #[.pointer (some ⟨gq, 0, none⟩), .slice A n c] w fun e w' => WritePost F w w' e gd Q S n R := by
  have HD := Lib.hid hd
  have HR := Lib.hid hR
  have HZ := Lib.hid hz
  have HQ : Hid (∀ V, Below w.heap.size w V → SBox V gq gd Q) := fun V hV => hq.below hV
  have HLT := Lib.hid hd.lt
  have hqok := hq.2
  have hee : Q.ende ≤ 1000 := by have := hqok.2.1; have := hqok.2.2.1; omega
  obtain ⟨w1, hw1⟩ : ∃ w1, ((w.alloc (.cells #[.pointer (some ⟨gq, 0, none⟩)] 54)).alloc (.cells #[.int .i64 0] 3)).alloc (.cells #[.int .i64 0] 25) = w1 := ⟨_, rfl⟩
  have hb1 : Below w.heap.size w w1 := by rw [← hw1]; exact ((below_new _ _).trans ((below_new _ _).mono (by simp))).trans ((below_new _ _).mono (by simp; omega))
  have hs1 : w1.heap.size = w.heap.size + 3 := by rw [← hw1]; simp
  obtain ⟨c0, c1, c2, c3, c4, c5⟩ := (hq.below hb1).cells
  have y2 : Boxed w1 w.heap.size 54 (.pointer (some ⟨gq, 0, none⟩)) := by rw [← hw1]; exact ((Boxed.new w _ _).alloc _).alloc _
  have y4 : Boxed w1 (w.heap.size + 1) 3 (.int .i64 0) := by
    rw [← hw1]
    have := Boxed.new (w.alloc (.cells #[.pointer (some ⟨gq, 0, none⟩)] 54)) 3 (.int .i64 0)
    rw [World.size_alloc] at this
    exact this.alloc _
  have y5 : Boxed w1 (w.heap.size + 1 + 1) 25 (.int .i64 0) := by
    rw [← hw1]
    have := Boxed.new ((w.alloc (.cells #[.pointer (some ⟨gq, 0, none⟩)] 54)).alloc (.cells #[.int .i64 0] 3)) 25 (.int .i64 0)
    rw [World.size_alloc, World.size_alloc] at this
    exact this
  have x2 := y2.cell
  have HY := Lib.hid (show _ ∧ _ ∧ _ ∧ _ ∧ _ from ⟨y2, y4, y5, hb1, hs1⟩)
  obtain ⟨w2, hw2⟩ : ∃ w2, w1.alloc (.cells #[.int .i64 (Q.ende : Nat)] 3) = w2 := ⟨_, rfl⟩
  have h12 : Below w1.heap.size w1 w2 := by rw [← hw2]; exact below_new _ _
  have y6 : Boxed w2 w1.heap.size 3 (.int .i64 (Q.ende : Nat)) := by rw [← hw2]; exact Boxed.new w1 _ _
  have hs2 : w2.heap.size = w1.heap.size + 1 := by rw [← hw2]; simp
  have z2 := (boxed_below y2 h12).cell
  have HY2 := Lib.hid (show _ ∧ _ ∧ _ from ⟨h12, y6, hs2⟩)
  clear y2 y4 y5 hb1 hq hd hs1 hR hz h12 y6 hs2
  refine (callsIn_wide (n := 5)).1 ?_
  refine callsIn_of_wp_marks Try.func55 rfl trivial ?_ rfl
  simp only [Try.ntmps55, List.size_toArray, List.length_cons, List.length_nil, Nat.reduceAdd, Nat.reduceSub, Array.replicate_succ, Array.replicate_zero, List.push_toArray, List.append_toArray, List.nil_append, List.cons_append]
  gi_wp2_with (refine ⟨trivial, ?_⟩; gi_at_call 66; refine (callsIn_wide.2 (cells_iter gq A n c _)).mono ?_; rintro e w' ⟨rfl, rfl⟩)
  clear c0 c1 c2 c3 c4 c5 x2 z2
  obtain ⟨y2, y4, y5, hb1, hs1⟩ := HY.out
  obtain ⟨h12, y6, hs2⟩ := HY2.out
  obtain ⟨w3, hw3⟩ : ∃ w3, (w2.alloc (.cells #[.pointer (some ⟨gq, 0, none⟩)] 54)).alloc (.cells #[.slice A n c] 33) = w3 := ⟨_, rfl⟩
  have h23 : Below w2.heap.size w2 w3 := by rw [← hw3]; exact (below_new _ _).trans ((below_new _ _).mono (by simp))
  have yq : Boxed w3 w2.heap.size 54 (.pointer (some ⟨gq, 0, none⟩)) := by rw [← hw3]; exact (Boxed.new w2 _ _).alloc _
  have yr : Boxed w3 (w2.heap.size + 1) 33 (.slice A n c) := by
    rw [← hw3]
    have := Boxed.new (w2.alloc (.cells #[.pointer (some ⟨gq, 0, none⟩)] 54)) 33 (.slice A n c)
    rw [World.size_alloc] at this
    exact this
  have hs3 : w3.heap.size = w2.heap.size + 2 := by rw [← hw3]; simp
  rw [hw3]
  have h13 : Below w1.heap.size w1 w3 := h12.trans (h23.mono h12.size)
  have h03 : Below w.heap.size w w3 := hb1.trans (h13.mono hb1.size)
  have y2' := boxed_below y2 h13
  have y4' := boxed_below y4 h13
  have y5' := boxed_below y5 h13
  have y6' := boxed_below y6 h23
  have hap : Apart F w w3 (w.heap.size + 1) (w.heap.size + 1 + 1) w1.heap.size := ⟨HLT.out, by omega, by omega, by omega, by omega⟩
  have hI0 : WrI F w w3 gd (w.heap.size + 1) (w.heap.size + 1 + 1) w1.heap.size 0 0 ((Q.ende + ([] : List CellD).length : Nat) : Int) (wrS S Q.ende []) w3 :=
    ⟨⟨F, HD.out.keep (fun k hk => h03.block k (HLT.out k hk)) h03.size, fun k hk => .inl hk⟩, Only.of_below h03, Fr.refl, y4', y5', y6'⟩
  have hsq := HQ.out _ h03
  have hgq : gq < w.heap.size := (HQ.out _ (Below.refl _ _)).lt
  have hn2 : w.heap.size ≠ w.heap.size + 1 ∧ w.heap.size ≠ w.heap.size + 1 + 1 ∧ w.heap.size ≠ w1.heap.size := by omega
  have hnq : w2.heap.size ≠ w.heap.size + 1 ∧ w2.heap.size ≠ w.heap.size + 1 + 1 ∧ w2.heap.size ≠ w1.heap.size := by omega
  have hnr : w2.heap.size + 1 ≠ w.heap.size + 1 ∧ w2.heap.size + 1 ≠ w.heap.size + 1 + 1 ∧ w2.heap.size + 1 ≠ w1.heap.size := by omega
  have hng : gq ≠ w.heap.size + 1 ∧ gq ≠ w.heap.size + 1 + 1 ∧ gq ≠ w1.heap.size := by omega
  have h0B : w.heap.size ≤ w.heap.size + 1 ∧ w.heap.size ≤ w.heap.size + 1 + 1 ∧ w.heap.size ≤ w1.heap.size := by omega
  clear y2 y4 y5 y6 hb1 hs1 h12 hs2 h23 h13 hs3 hw1 hw2 hw3 y4' y5' y6' HY HY2
  have HS3 := Lib.hid (show w.heap.size ≤ w3.heap.size from h03.size)
  obtain ⟨B2, hB2⟩ : ∃ B, w.heap.size = B := ⟨_, rfl⟩
  have HB2 := Lib.hid hB2
  have HAP : Hid (Apart F w w3 (w.heap.size + 1) (w.heap.size + 1 + 1) w1.heap.size) := hap
  have HI0 := Lib.hid hI0
  have H03 := Lib.hid h03
  clear hap hI0 h03
  rw [hB2] at y2' HAP HI0 hn2 hnq hnr hng h0B ⊢
  clear hB2 hgq
  generalize B2 + 1 = B4 at *
  generalize B4 + 1 = B5 at *
  generalize w1.heap.size = B6 at *
  generalize w2.heap.size + 1 = Br at *
  generalize w2.heap.size = Bq at *
  have nt1 : ¬ tyW 54 := by unfold tyW; decide
  have nt2 : ¬ tyW 33 := by unfold tyW; decide
  have nt3 : ¬ tyW 86 := by unfold tyW; decide
  have HC : Hid (∀ {v4 v5 v6 : Int} {S' : DS} {V : World}, WrI F w w3 gd B4 B5 B6 v4 v5 v6 S' V → Boxed V B2 54 (.pointer (some ⟨gq, 0, none⟩)) ∧ CelM gd gq Br Bq A n c R Q V) := fun h =>
    ⟨h.fr.boxed y2' (by simp; omega) nt1, h.fr.boxed yr (by simp; omega) nt2, h.fr.boxed yq (by simp; omega) nt1, hsq.fr h.fr (by simp; omega) nt3, HR.out _ h.on⟩
  have HFW : Hid (∀ {V : World}, Fr tyW (fun k => k = B4 ∨ k = B5 ∨ k = B6) w3 V → FrW w V) := fun h => frw_new H03.out h (by rintro k (rfl | rfl | rfl) <;> (have := HB2.out; omega))
  clear y2' yr yq hsq hn2 hnq hnr hng nt1 nt2 nt3
  refine rangeOwn (encs := encD) (M := CelM gd gq Br Bq A n c R Q) (G := CelG Q n R) (Kp := KpC) (S := CelS Q n R) (Sp := fun _ => True) (N := sumN R n) rfl (enters_of Try.func76 (by kernel_rfl) rfl) (fun _ => rfl) (fun W1 _ _ => cells1_in 4 hn HZ.out ht W1)
    (fun pre V => WrI F w w3 gd B4 B5 B6 0 0 ((Q.ende + pre.length : Nat) : Int) (wrS S Q.ende pre) V ∧ wrC S Q.ende pre ∧ ∀ (j : Nat) (x : CellD), pre[j]? = some x → Says Q n R j x)
    (fun k pre V => k = .ret ∧ ∃ p0 x, pre = p0 ++ [x] ∧ wrC S Q.ende p0 ∧ p0.length < sumN R n ∧ ((wrS S Q.ende p0).write ((Q.ende + p0.length : Nat)) (secX x)).2 ≠ 0 ∧ (∀ (j : Nat) (y : CellD), pre[j]? = some y → Says Q n R j y) ∧ WrI F w w3 gd B4 B5 B6 0 ((wrS S Q.ende p0).write ((Q.ende + p0.length : Nat)) (secX x)).2 ((Q.ende + p0.length : Nat) : Int) (wrS S Q.ende pre) V)
    (fun pre x a' V => ∃ B7, (WrI F w w3 gd B4 B5 B6 0 0 ((Q.ende + pre.length : Nat) : Int) (wrS S Q.ende pre) V ∧ wrC S Q.ende pre ∧ ∀ (j : Nat) (x : CellD), pre[j]? = some x → Says Q n R j x) ∧ (Rd .u8 V x.A x.n x.f ∧ x.good ∧ Says Q n R pre.length x) ∧ pre.length < sumN R n ∧ BoxH V B7 x.g x.s x.p x.q x.A x.n x.c ∧
      a' = { tmps := #[.pointer (some ⟨gq, 0, none⟩), .slice A n c, .pointer (some ⟨B2, 0, none⟩), undef, .pointer (some ⟨B4, 0, none⟩), .pointer (some ⟨B5, 0, none⟩), .pointer (some ⟨B6, 0, none⟩), .pointer (some ⟨B7, 0, none⟩), undef, undef, .pointer (some ⟨gq, 0, none⟩), .pointer (some ⟨gq, 0, none⟩), .pointer (some ⟨gq, 4, none⟩), .int .i64 (Q.ende : Nat), .pointer (some ⟨gq, 0, none⟩), .slice A n c, .func (.func 76) #[] #[.pointer (some ⟨Br, 0, none⟩), .pointer (some ⟨Bq, 0, none⟩)], x.val, undef, undef, undef, undef, undef, undef, undef, undef, undef, undef, undef, undef, undef, undef, undef, undef, undef, undef, undef, undef], defers := [] })
    ?hM ?hI ?hIx ?hIp ?hIxp ?hAp (fun h k => h.trans k) (fun V r o hl => kpc_put hl o) ⟨HI0.out, trivial, fun j x h => by simp at h⟩ ?assign ?body ?done ?stop
  case hM => exact fun pre V h => (HC.out h.1).2
  case hI => exact fun pre V V' h hb => ⟨h.1.below HAP.out hb, h.2⟩
  case hIx =>
    rintro k pre V V' ⟨h1, p0, x, h2, h3, h4, h5, h6, h7⟩ hb
    exact ⟨h1, p0, x, h2, h3, h4, h5, h6, h7.below HAP.out hb⟩
  case hIp => exact fun pre V r o hl h => ⟨h.1.put HAP.out o, h.2⟩
  case hIxp =>
    rintro k pre V r o hl ⟨h1, p0, x, h2, h3, h4, h5, h6, h7⟩
    exact ⟨h1, p0, x, h2, h3, h4, h5, h6, h7.put HAP.out o⟩
  case hAp =>
    rintro pre x a' V r o hl ⟨B7, h1, h2, h3, h4, h5⟩
    exact ⟨B7, ⟨h1.1.put HAP.out o, h1.2⟩, ⟨put_rd hl o h2.1, h2.2⟩, h3, put_other hl o h4, h5⟩
  case assign =>
    rintro pre x W r K h hg hl hd hlen hK
    have hnw := below_new W (objD x)
    have HK := Lib.hid hK
    clear hK
    gi_wp2
    exact HK.out _ _ ⟨W.heap.size, ⟨h.1.below HAP.out hnw, h.2⟩, ⟨hg.1.below hnw, hg.2.1, hg.2.2.2⟩, hlen, BoxH.new W x.g x.s x.p x.q x.A x.n x.c, rfl⟩ (hnw.block _ (Array.getElem?_eq_some_iff.1 hd).1) (hnw.block _ (Array.getElem?_eq_some_iff.1 hl).1) (kpc_below hnw)
  case body =>
    rintro pre x a' W ⟨B7, ⟨hI, hC, hS⟩, ⟨hrd, hgd, hsy⟩, hlen, hbx, rfl⟩ hdf hlp
    obtain ⟨E, hE⟩ : ∃ E, Q.ende + pre.length = E := ⟨_, rfl⟩
    have hEb : E ≤ 2000000 := by omega
    have hEb2 : (E : Int) ≤ 2000000 := by omega
    have HE := Lib.hid hE
    rw [hE] at hI
    obtain ⟨r, hr⟩ : ∃ r, (wrS S Q.ende pre).write ((E : Nat)) (secX x) = r := ⟨_, rfl⟩
    have HWR : Hid (∀ u (a : Option Addr) (c : Nat), WrI F w w3 gd B4 B5 B6 0 0 (E : Int) (wrS S Q.ende pre) u → w3.heap.size + 2 ≤ u.heap.size → Byt u (.slice a 64 c) 64 (secX x) → Calls Try.prog 49 #[.pointer (some ⟨gd, 0, none⟩), .int .i64 (E : Nat), .slice a 64 c] u fun e V' => e = .returned (.int .i64 r.2) ∧ WrI F w w3 gd B4 B5 B6 0 0 (E : Int) r.1 V' ∧ FrW u V') := fun u a c h1 h2 h3 => by
      have := h1.write HAP.out h2 (by have := wrS_few pre S Q.ende; omega) E h3
      rw [hr] at this
      exact this
    have hmay := says_may hsy
    obtain ⟨g1, g2, _, _, _, _, _, _, g9, _⟩ := hgd
    have HEN : Hid (∀ u, Below W.heap.size W u → Calls Try.prog 65 #[x.val] u fun e w' => (∃ a c, e = .returned (.tuple #[.slice a 64 c, .int .i64 0]) ∧ Byt w' (.slice a 64 c) 64 (secX x)) ∧ Below u.heap.size u w') := fun u hu =>
      (encode_i ⟨by omega, by omega⟩ ⟨by omega, by omega⟩ (hrd.below hu) g9 hmay).mono (by
        rintro e w' ⟨⟨v, rfl, hv⟩, hb⟩
        obtain ⟨a, c, e, _⟩ := id hv
        subst e
        exact ⟨⟨a, c, rfl, hv⟩, hb⟩)
    have hUW : w3.heap.size + 2 ≤ W.heap.size := by
      obtain ⟨r, hr⟩ := hlp
      exact (Array.getElem?_eq_some_iff.1 hr).1
    have HI := Lib.hid hI
    have HCC := Lib.hid hC
    have HSS := Lib.hid hS
    have HSY := Lib.hid hsy
    have HR2 := Lib.hid hr
    have HDF := Lib.hid hdf
    have HLP := Lib.hid hlp
    obtain ⟨e0, e1, e2, e3, e4⟩ := hbx.boxc
    have e1 : wrS S Q.ende (pre ++ [x]) = r.1 := by rw [wrS_snoc, hE, hr]
    have e2 : ((Q.ende + (pre ++ [x]).length : Nat) : Int) = (E : Int) + 1 := by
      rw [List.length_append, List.length_singleton]
      omega
    have hmk : ∀ (V V' : World), FrW W V → (∀ k, k = w3.heap.size ∨ k = w3.heap.size + 1 → V'.heap[k]? = V.heap[k]?) → V'.heap[w3.heap.size]? = W.heap[w3.heap.size]? ∧ V'.heap[w3.heap.size + 1]? = W.heap[w3.heap.size + 1]? := fun V V' hF hV => by
      obtain ⟨m1, m2⟩ := frw_marks hF hdf hlp
      exact ⟨(hV _ (.inl rfl)).trans m1, (hV _ (.inr rfl)).trans m2⟩
    have hset : ∀ (V : World) (B : Nat) (v : Value), B < w3.heap.size → ∀ k, k = w3.heap.size ∨ k = w3.heap.size + 1 → (V.setCell ⟨B, 0, none⟩ v).heap[k]? = V.heap[k]? := fun V B v hB k hk => Below.heap_setCell V ⟨B, 0, none⟩ v k (by show k ≠ B; omega)
    have HENDY : Hid (∀ V, r.2 = 0 → WrI F w w3 gd B4 B5 B6 0 0 (E : Int) r.1 V → FrW W V → ((V.setCell ⟨B6, 0, none⟩ (.int .i64 ((E : Int) + 1))).heap[w3.heap.size]? = W.heap[w3.heap.size]? ∧ (V.setCell ⟨B6, 0, none⟩ (.int .i64 ((E : Int) + 1))).heap[w3.heap.size + 1]? = W.heap[w3.heap.size + 1]?) ∧ KpC W (V.setCell ⟨B6, 0, none⟩ (.int .i64 ((E : Int) + 1))) ∧
        (WrI F w w3 gd B4 B5 B6 0 0 ((Q.ende + (pre ++ [x]).length : Nat) : Int) (wrS S Q.ende (pre ++ [x])) (V.setCell ⟨B6, 0, none⟩ (.int .i64 ((E : Int) + 1))) ∧ wrC S Q.ende (pre ++ [x]) ∧ ∀ (j : Nat) (y : CellD), (pre ++ [x])[j]? = some y → Says Q n R j y)) := fun V hk h hF => by
      refine ⟨hmk _ _ hF (hset _ _ _ HAP.out.b3), (kpc_frw hF).trans (kpc_set h.x6 (by decide) (by decide) _), ?_, (wrC_snoc _ _ _ _).2 ⟨hC, by rw [hE, hr]; exact hk⟩, says_snoc hS hsy⟩
      rw [e1, e2]
      exact h.set6 HAP.out _
    have HENDN : Hid (∀ V, r.2 ≠ 0 → WrI F w w3 gd B4 B5 B6 0 0 (E : Int) r.1 V → FrW W V → (((V.setCell ⟨B4, 0, none⟩ (.int .i64 0)).setCell ⟨B5, 0, none⟩ (.int .i64 r.2)).heap[w3.heap.size]? = W.heap[w3.heap.size]? ∧ ((V.setCell ⟨B4, 0, none⟩ (.int .i64 0)).setCell ⟨B5, 0, none⟩ (.int .i64 r.2)).heap[w3.heap.size + 1]? = W.heap[w3.heap.size + 1]?) ∧
        (∃ p0 x1, pre ++ [x] = p0 ++ [x1] ∧ wrC S Q.ende p0 ∧ p0.length < sumN R n ∧ ((wrS S Q.ende p0).write ((Q.ende + p0.length : Nat)) (secX x1)).2 ≠ 0 ∧ (∀ (j : Nat) (y : CellD), (pre ++ [x])[j]? = some y → Says Q n R j y) ∧ WrI F w w3 gd B4 B5 B6 0 ((wrS S Q.ende p0).write ((Q.ende + p0.length : Nat)) (secX x1)).2 ((Q.ende + p0.length : Nat) : Int) (wrS S Q.ende (pre ++ [x])) ((V.setCell ⟨B4, 0, none⟩ (.int .i64 0)).setCell ⟨B5, 0, none⟩ (.int .i64 r.2)))) := fun V hk h hF => by
      have b1 := HAP.out.b1
      have b2 := HAP.out.b2
      have b3 := HAP.out.b3
      refine ⟨hmk _ _ hF fun k hk => (hset _ _ _ (by omega) k hk).trans (hset _ _ _ (by omega) k hk), pre, x, rfl, hC, hlen, by rw [hE, hr]; exact hk, says_snoc hS hsy, ?_⟩
      rw [hE, hr, e1]
      exact (h.set4 HAP.out 0).set5 HAP.out r.2
    clear e1 e2 hmk hset hI hC hS hrd hsy hbx hdf hlp hr hmay hE g1 g2 g9
    gi_wp2_with (refine ⟨trivial, ?_⟩; gi_at_call 65; refine (CallsIn.inRound _ (callsIn_wide.2 (HEN.out _ (Below.refl _ _)))).mono ?_; rintro e w4 ⟨⟨a5, c5, rfl, hv⟩, hb4⟩; have HV := Lib.hid hv; have HI4 := Lib.hid (HI.out.below HAP.out hb4); have HB4 := Lib.hid hb4; clear hv hb4 e0 e1 e2 e3 e4; have z2 := (HC.out HI4.out).1.cell; have z6 := HI4.out.x6.cell; obtain ⟨c0, _, _, _, _, _⟩ := (HC.out HI4.out).2.2.2.1.cells)
    by_cases hk0 : r.2 = 0
    · have HK0 := Lib.hid hk0
      refine region_round (by kernel_rfl) (by kernel_rfl) ?_
      refine wpAnyIn_take (i := 5) (v := ?_) rfl rfl (by kernel_rfl) (by kernel_rfl) (by kernel_rfl) (fun _ _ _ h => h) ⟨Or.inl ⟨by rfl, ?_⟩, fun _ => rfl⟩ ?_
      rotate_left
      · intro w; go_simp <;> (try with_reducible rfl)
      (try simp only [Act.put, List.setIfInBounds_toArray, List.set_cons_zero, List.set_cons_succ, List.getElem_toArray, List.getElem_cons_succ, List.getElem_cons_zero])
      refine wpAnyIn_ready (rs := [0, 4]) (by kernel_rfl) (by simp) ?_
      refine AllReadyIn.cons rfl (fun K hK => ?_) ?_
      · go_simp
        refine hK _ _ ?_
        clear hK K
        refine wpAnyIn_take (i := 1) (v := ?_) rfl rfl (by kernel_rfl) (by kernel_rfl) (by kernel_rfl) (fun _ _ _ h => h) ⟨Or.inl ⟨by rfl, ?_⟩, fun _ => rfl⟩ ?_
        rotate_left
        · intro w; go_simp <;> (try with_reducible rfl)
        (try simp only [Act.put, List.setIfInBounds_toArray, List.set_cons_zero, List.set_cons_succ, List.getElem_toArray, List.getElem_cons_succ, List.getElem_cons_zero])
        refine wpAnyIn_take (i := 2) (v := ?_) rfl rfl (by kernel_rfl) (by kernel_rfl) (by kernel_rfl) (fun _ _ _ h => h) ⟨Or.inl ⟨by rfl, ?_⟩, fun _ => rfl⟩ ?_
        rotate_left
        · intro w; go_simp <;> (try with_reducible rfl)
        (try simp only [Act.put, List.setIfInBounds_toArray, List.set_cons_zero, List.set_cons_succ, List.getElem_toArray, List.getElem_cons_succ, List.getElem_cons_zero])
        refine wpAnyIn_ready (rs := [3, 4]) (by kernel_rfl) (by simp) ?_
        refine AllReadyIn.cons rfl (fun K hK => ?_) ?_
        · go_simp
          refine hK _ _ ?_
          clear hK K
          refine wpAnyIn_ready (rs := [4]) (by kernel_rfl) (by simp) ?_
          refine AllReadyIn.cons rfl (fun K hK => ?_) ?_
          · go_simp
            refine hK _ _ ?_
            clear hK K
            refine wpAnyIn_ready (rs := [6]) (by kernel_rfl) (by simp) ?_
            refine AllReadyIn.cons rfl (fun K hK => ?_) ?_
            · go_simp
              refine ⟨trivial, ?_⟩
              gi_at_call 49
              refine (callsIn_wide.2 (HWR.out _ a5 c5 (HI4.out.below HAP.out (bel_drew _)) (Nat.le_trans hUW HB4.out.size) (HV.out.below (bel_drew _)))).mono ?_
              rintro e w5 ⟨rfl, hI5, hF5⟩
              rw [HK0.out]
              have HI5 := Lib.hid hI5
              have HF5 := Lib.hid (show FrW W w5 from (Fr.of_below (HB4.out.trans ((bel_drew w4).mono HB4.out.size))).trans hF5)
              clear hI5 hF5 z2 z6 c0
              refine hK _ _ ?_
              clear hK K
              refine wpAnyIn_take (i := 7) (v := ?_) rfl rfl (by kernel_rfl) (by kernel_rfl) (by kernel_rfl) (fun _ _ _ h => h) ⟨Or.inl ⟨by rfl, ?_⟩, fun _ => rfl⟩ ?_
              rotate_left
              · intro w; go_simp <;> (try with_reducible rfl)
              (try simp only [Act.put, List.setIfInBounds_toArray, List.set_cons_zero, List.set_cons_succ, List.getElem_toArray, List.getElem_cons_succ, List.getElem_cons_zero])
              refine wpAnyIn_done (by kernel_rfl) ?_ _
              have z6 := HI5.out.x6.cell
              have f6 := HI5.out.x6.frozen
              gi_wp2
              exact HENDY.out _ HK0.out HI5.out HF5.out
            exact AllReadyIn.nil
          exact AllReadyIn.nil
        refine AllReadyIn.cons rfl (fun K hK => ?_) ?_
        · go_simp
          refine hK _ _ ?_
          clear hK K
          refine wpAnyIn_ready (rs := [3]) (by kernel_rfl) (by simp) ?_
          refine AllReadyIn.cons rfl (fun K hK => ?_) ?_
          · go_simp
            refine hK _ _ ?_
            clear hK K
            refine wpAnyIn_ready (rs := [6]) (by kernel_rfl) (by simp) ?_
            refine AllReadyIn.cons rfl (fun K hK => ?_) ?_
            · go_simp
              refine ⟨trivial, ?_⟩
              gi_at_call 49
              refine (callsIn_wide.2 (HWR.out _ a5 c5 (HI4.out.below HAP.out (bel_drew _)) (Nat.le_trans hUW HB4.out.size) (HV.out.below (bel_drew _)))).mono ?_
              rintro e w5 ⟨rfl, hI5, hF5⟩
              rw [HK0.out]
              have HI5 := Lib.hid hI5
              have HF5 := Lib.hid (show FrW W w5 from (Fr.of_below (HB4.out.trans ((bel_drew w4).mono HB4.out.size))).trans hF5)
              clear hI5 hF5 z2 z6 c0
              refine hK _ _ ?_
              clear hK K
              refine wpAnyIn_take (i := 7) (v := ?_) rfl rfl (by kernel_rfl) (by kernel_rfl) (by kernel_rfl) (fun _ _ _ h => h) ⟨Or.inl ⟨by rfl, ?_⟩, fun _ => rfl⟩ ?_
              rotate_left
              · intro w; go_simp <;> (try with_reducible rfl)
              (try simp only [Act.put, List.setIfInBounds_toArray, List.set_cons_zero, List.set_cons_succ, List.getElem_toArray, List.getElem_cons_succ, List.getElem_cons_zero])
              refine wpAnyIn_done (by kernel_rfl) ?_ _
              have z6 := HI5.out.x6.cell
              have f6 := HI5.out.x6.frozen
              gi_wp2
              exact HENDY.out _ HK0.out HI5.out HF5.out
            exact AllReadyIn.nil
          exact AllReadyIn.nil
        exact AllReadyIn.nil
      refine AllReadyIn.cons rfl (fun K hK => ?_) ?_
      · go_simp
        refine hK _ _ ?_
        clear hK K
        refine wpAnyIn_ready (rs := [0]) (by kernel_rfl) (by simp) ?_
        refine AllReadyIn.cons rfl (fun K hK => ?_) ?_
        · go_simp
          refine hK _ _ ?_
          clear hK K
          refine wpAnyIn_take (i := 1) (v := ?_) rfl rfl (by kernel_rfl) (by kernel_rfl) (by kernel_rfl) (fun _ _ _ h => h) ⟨Or.inl ⟨by rfl, ?_⟩, fun _ => rfl⟩ ?_
          rotate_left
          · intro w; go_simp <;> (try with_reducible rfl)
          (try simp only [Act.put, List.setIfInBounds_toArray, List.set_cons_zero, List.set_cons_succ, List.getElem_toArray, List.getElem_cons_succ, List.getElem_cons_zero])
          refine wpAnyIn_take (i := 2) (v := ?_) rfl rfl (by kernel_rfl) (by kernel_rfl) (by kernel_rfl) (fun _ _ _ h => h) ⟨Or.inl ⟨by rfl, ?_⟩, fun _ => rfl⟩ ?_
          rotate_left
          · intro w; go_simp <;> (try with_reducible rfl)
          (try simp only [Act.put, List.setIfInBounds_toArray, List.set_cons_zero, List.set_cons_succ, List.getElem_toArray, List.getElem_cons_succ, List.getElem_cons_zero])
          refine wpAnyIn_ready (rs := [3]) (by kernel_rfl) (by simp) ?_
          refine AllReadyIn.cons rfl (fun K hK => ?_) ?_
          · go_simp
            refine hK _ _ ?_
            clear hK K
            refine wpAnyIn_ready (rs := [6]) (by kernel_rfl) (by simp) ?_
            refine AllReadyIn.cons rfl (fun K hK => ?_) ?_
            · go_simp
              refine ⟨trivial, ?_⟩
              gi_at_call 49
              refine (callsIn_wide.2 (HWR.out _ a5 c5 (HI4.out.below HAP.out (bel_drew _)) (Nat.le_trans hUW HB4.out.size) (HV.out.below (bel_drew _)))).mono ?_
              rintro e w5 ⟨rfl, hI5, hF5⟩
              rw [HK0.out]
              have HI5 := Lib.hid hI5
              have HF5 := Lib.hid (show FrW W w5 from (Fr.of_below (HB4.out.trans ((bel_drew w4).mono HB4.out.size))).trans hF5)
              clear hI5 hF5 z2 z6 c0
              refine hK _ _ ?_
              clear hK K
              refine wpAnyIn_take (i := 7) (v := ?_) rfl rfl (by kernel_rfl) (by kernel_rfl) (by kernel_rfl) (fun _ _ _ h => h) ⟨Or.inl ⟨by rfl, ?_⟩, fun _ => rfl⟩ ?_
              rotate_left
              · intro w; go_simp <;> (try with_reducible rfl)
              (try simp only [Act.put, List.setIfInBounds_toArray, List.set_cons_zero, List.set_cons_succ, List.getElem_toArray, List.getElem_cons_succ, List.getElem_cons_zero])
              refine wpAnyIn_done (by kernel_rfl) ?_ _
              have z6 := HI5.out.x6.cell
              have f6 := HI5.out.x6.frozen
              gi_wp2
              exact HENDY.out _ HK0.out HI5.out HF5.out
            exact AllReadyIn.nil
          exact AllReadyIn.nil
        exact AllReadyIn.nil
      exact AllReadyIn.nil
    · have HK0 := Lib.hid hk0
      refine region_round (by kernel_rfl) (by kernel_rfl) ?_
      refine wpAnyIn_take (i := 5) (v := ?_) rfl rfl (by kernel_rfl) (by kernel_rfl) (by kernel_rfl) (fun _ _ _ h => h) ⟨Or.inl ⟨by rfl, ?_⟩, fun _ => rfl⟩ ?_
      rotate_left
      · intro w; go_simp <;> (try with_reducible rfl)
      (try simp only [Act.put, List.setIfInBounds_toArray, List.set_cons_zero, List.set_cons_succ, List.getElem_toArray, List.getElem_cons_succ, List.getElem_cons_zero])
      refine wpAnyIn_ready (rs := [0, 4]) (by kernel_rfl) (by simp) ?_
      refine AllReadyIn.cons rfl (fun K hK => ?_) ?_
      · go_simp
        refine hK _ _ ?_
        clear hK K
        refine wpAnyIn_take (i := 1) (v := ?_) rfl rfl (by kernel_rfl) (by kernel_rfl) (by kernel_rfl) (fun _ _ _ h => h) ⟨Or.inl ⟨by rfl, ?_⟩, fun _ => rfl⟩ ?_
        rotate_left
        · intro w; go_simp <;> (try with_reducible rfl)
        (try simp only [Act.put, List.setIfInBounds_toArray, List.set_cons_zero, List.set_cons_succ, List.getElem_toArray, List.getElem_cons_succ, List.getElem_cons_zero])
        refine wpAnyIn_take (i := 2) (v := ?_) rfl rfl (by kernel_rfl) (by kernel_rfl) (by kernel_rfl) (fun _ _ _ h => h) ⟨Or.inl ⟨by rfl, ?_⟩, fun _ => rfl⟩ ?_
        rotate_left
        · intro w; go_simp <;> (try with_reducible rfl)
        (try simp only [Act.put, List.setIfInBounds_toArray, List.set_cons_zero, List.set_cons_succ, List.getElem_toArray, List.getElem_cons_succ, List.getElem_cons_zero])
        refine wpAnyIn_ready (rs := [3, 4]) (by kernel_rfl) (by simp) ?_
        refine AllReadyIn.cons rfl (fun K hK => ?_) ?_
        · go_simp
          refine hK _ _ ?_
          clear hK K
          refine wpAnyIn_ready (rs := [4]) (by kernel_rfl) (by simp) ?_
          refine AllReadyIn.cons rfl (fun K hK => ?_) ?_
          · go_simp
            refine hK _ _ ?_
            clear hK K
            refine wpAnyIn_ready (rs := [6]) (by kernel_rfl) (by simp) ?_
            refine AllReadyIn.cons rfl (fun K hK => ?_) ?_
            · go_simp
              refine ⟨trivial, ?_⟩
              gi_at_call 49
              refine (callsIn_wide.2 (HWR.out _ a5 c5 (HI4.out.below HAP.out (bel_drew _)) (Nat.le_trans hUW HB4.out.size) (HV.out.below (bel_drew _)))).mono ?_
              rintro e w5 ⟨rfl, hI5, hF5⟩
              have HI5 := Lib.hid hI5
              have HF5 := Lib.hid (show FrW W w5 from (Fr.of_below (HB4.out.trans ((bel_drew w4).mono HB4.out.size))).trans hF5)
              clear hI5 hF5 z2 z6 c0
              refine hK _ _ ?_
              clear hK K
              refine wpAnyIn_take (i := 7) (v := ?_) rfl rfl (by kernel_rfl) (by kernel_rfl) (by kernel_rfl) (fun _ _ _ h => h) ⟨Or.inl ⟨by rfl, ?_⟩, fun _ => rfl⟩ ?_
              rotate_left
              · intro w; go_simp <;> (try with_reducible rfl)
              (try simp only [Act.put, List.setIfInBounds_toArray, List.set_cons_zero, List.set_cons_succ, List.getElem_toArray, List.getElem_cons_succ, List.getElem_cons_zero])
              refine wpAnyIn_done (by kernel_rfl) ?_ _
              have z4 := HI5.out.x4.cell
              have f4 := HI5.out.x4.frozen
              have z5 := HI5.out.x5.cell
              have f5 := HI5.out.x5.frozen
              have z5b := (HI5.out.set4 HAP.out 0).x5.cell
              have f5b := (HI5.out.set4 HAP.out 0).x5.frozen
              have q1 : (r.2 != 0) = true := by rw [bne_iff_ne]; exact HK0.out
              have q2 := HK0.out
              gi_wp2
              have hz := HENDN.out _ HK0.out HI5.out HF5.out
              exact ⟨hz.1, rfl, hz.2⟩
            exact AllReadyIn.nil
          exact AllReadyIn.nil
        refine AllReadyIn.cons rfl (fun K hK => ?_) ?_
        · go_simp
          refine hK _ _ ?_
          clear hK K
          refine wpAnyIn_ready (rs := [3]) (by kernel_rfl) (by simp) ?_
          refine AllReadyIn.cons rfl (fun K hK => ?_) ?_
          · go_simp
            refine hK _ _ ?_
            clear hK K
            refine wpAnyIn_ready (rs := [6]) (by kernel_rfl) (by simp) ?_
            refine AllReadyIn.cons rfl (fun K hK => ?_) ?_
            · go_simp
              refine ⟨trivial, ?_⟩
              gi_at_call 49
              refine (callsIn_wide.2 (HWR.out _ a5 c5 (HI4.out.below HAP.out (bel_drew _)) (Nat.le_trans hUW HB4.out.size) (HV.out.below (bel_drew _)))).mono ?_
              rintro e w5 ⟨rfl, hI5, hF5⟩
              have HI5 := Lib.hid hI5
              have HF5 := Lib.hid (show FrW W w5 from (Fr.of_below (HB4.out.trans ((bel_drew w4).mono HB4.out.size))).trans hF5)
              clear hI5 hF5 z2 z6 c0
              refine hK _ _ ?_
              clear hK K
              refine wpAnyIn_take (i := 7) (v := ?_) rfl rfl (by kernel_rfl) (by kernel_rfl) (by kernel_rfl) (fun _ _ _ h => h) ⟨Or.inl ⟨by rfl, ?_⟩, fun _ => rfl⟩ ?_
              rotate_left
              · intro w; go_simp <;> (try with_reducible rfl)
              (try simp only [Act.put, List.setIfInBounds_toArray, List.set_cons_zero, List.set_cons_succ, List.getElem_toArray, List.getElem_cons_succ, List.getElem_cons_zero])
              refine wpAnyIn_done (by kernel_rfl) ?_ _
              have z4 := HI5.out.x4.cell
              have f4 := HI5.out.x4.frozen
              have z5 := HI5.out.x5.cell
              have f5 := HI5.out.x5.frozen
              have z5b := (HI5.out.set4 HAP.out 0).x5.cell
              have f5b := (HI5.out.set4 HAP.out 0).x5.frozen
              have q1 : (r.2 != 0) = true := by rw [bne_iff_ne]; exact HK0.out
              have q2 := HK0.out
              gi_wp2
              have hz := HENDN.out _ HK0.out HI5.out HF5.out
              exact ⟨hz.1, rfl, hz.2⟩
            exact AllReadyIn.nil
          exact AllReadyIn.nil
        exact AllReadyIn.nil
      refine AllReadyIn.cons rfl (fun K hK => ?_) ?_
      · go_simp
        refine hK _ _ ?_
        clear hK K
        refine wpAnyIn_ready (rs := [0]) (by kernel_rfl) (by simp) ?_
        refine AllReadyIn.cons rfl (fun K hK => ?_) ?_
        · go_simp
          refine hK _ _ ?_
          clear hK K
          refine wpAnyIn_take (i := 1) (v := ?_) rfl rfl (by kernel_rfl) (by kernel_rfl) (by kernel_rfl) (fun _ _ _ h => h) ⟨Or.inl ⟨by rfl, ?_⟩, fun _ => rfl⟩ ?_
          rotate_left
          · intro w; go_simp <;> (try with_reducible rfl)
          (try simp only [Act.put, List.setIfInBounds_toArray, List.set_cons_zero, List.set_cons_succ, List.getElem_toArray, List.getElem_cons_succ, List.getElem_cons_zero])
          refine wpAnyIn_take (i := 2) (v := ?_) rfl rfl (by kernel_rfl) (by kernel_rfl) (by kernel_rfl) (fun _ _ _ h => h) ⟨Or.inl ⟨by rfl, ?_⟩, fun _ => rfl⟩ ?_
          rotate_left
          · intro w; go_simp <;> (try with_reducible rfl)
          (try simp only [Act.put, List.setIfInBounds_toArray, List.set_cons_zero, List.set_cons_succ, List.getElem_toArray, List.getElem_cons_succ, List.getElem_cons_zero])
          refine wpAnyIn_ready (rs := [3]) (by kernel_rfl) (by simp) ?_
          refine AllReadyIn.cons rfl (fun K hK => ?_) ?_
          · go_simp
            refine hK _ _ ?_
            clear hK K
            refine wpAnyIn_ready (rs := [6]) (by kernel_rfl) (by simp) ?_
            refine AllReadyIn.cons rfl (fun K hK => ?_) ?_
            · go_simp
              refine ⟨trivial, ?_⟩
              gi_at_call 49
              refine (callsIn_wide.2 (HWR.out _ a5 c5 (HI4.out.below HAP.out (bel_drew _)) (Nat.le_trans hUW HB4.out.size) (HV.out.below (bel_drew _)))).mono ?_
              rintro e w5 ⟨rfl, hI5, hF5⟩
              have HI5 := Lib.hid hI5
              have HF5 := Lib.hid (show FrW W w5 from (Fr.of_below (HB4.out.trans ((bel_drew w4).mono HB4.out.size))).trans hF5)
              clear hI5 hF5 z2 z6 c0
              refine hK _ _ ?_
              clear hK K
              refine wpAnyIn_take (i := 7) (v := ?_) rfl rfl (by kernel_rfl) (by kernel_rfl) (by kernel_rfl) (fun _ _ _ h => h) ⟨Or.inl ⟨by rfl, ?_⟩, fun _ => rfl⟩ ?_
              rotate_left
              · intro w; go_simp <;> (try with_reducible rfl)
              (try simp only [Act.put, List.setIfInBounds_toArray, List.set_cons_zero, List.set_cons_succ, List.getElem_toArray, List.getElem_cons_succ, List.getElem_cons_zero])
              refine wpAnyIn_done (by kernel_rfl) ?_ _
              have z4 := HI5.out.x4.cell
              have f4 := HI5.out.x4.frozen
              have z5 := HI5.out.x5.cell
              have f5 := HI5.out.x5.frozen
              have z5b := (HI5.out.set4 HAP.out 0).x5.cell
              have f5b := (HI5.out.set4 HAP.out 0).x5.frozen
              have q1 : (r.2 != 0) = true := by rw [bne_iff_ne]; exact HK0.out
              have q2 := HK0.out
              gi_wp2
              have hz := HENDN.out _ HK0.out HI5.out HF5.out
              exact ⟨hz.1, rfl, hz.2⟩
            exact AllReadyIn.nil
          exact AllReadyIn.nil
        exact AllReadyIn.nil
      exact AllReadyIn.nil
  case done =>
    rintro xs W hS h hD
    obtain ⟨E, hE⟩ : ∃ E, Q.ende + xs.length = E := ⟨_, rfl⟩
    rw [hE] at h
    have z6 := h.1.x6.cell
    have z4 := h.1.x4.cell
    have f4 := h.1.x4.frozen
    have z5b := (h.1.set4 HAP.out (E : Int)).x5.cell
    have f5b := (h.1.set4 HAP.out (E : Int)).x5.frozen
    have HH := Lib.hid h
    have HS := Lib.hid hS
    have HDD := Lib.hid hD
    have HE := Lib.hid hE
    clear h hS hD hE
    gi_wp2
    refine write_leave rfl rfl rfl ((HH.out.1.set4 HAP.out (E : Int)).set5 HAP.out 0) HAP.out ?_ fun V' h' => ⟨xs, HS.out.2, Nat.le_of_eq HS.out.1, HFW.out h'.fr, h'.post HS3.out, .inl ⟨by rw [HE.out], HS.out.1, HH.out.2.1⟩⟩
    have b1 := HAP.out.b1
    have b2 := HAP.out.b2
    have b3 := HAP.out.b3
    exact ((Below.heap_setCell _ ⟨B5, 0, none⟩ _ w3.heap.size (by show w3.heap.size ≠ B5; omega)).trans (Below.heap_setCell _ ⟨B4, 0, none⟩ _ w3.heap.size (by show w3.heap.size ≠ B4; omega))).trans HDD.out
  case stop =>
    rintro k xs W _ ⟨rfl, p0, x, rfl, h2, h3, h4, h5, h6⟩ hD
    have HH := Lib.hid h6
    have HDD := Lib.hid hD
    have HX := Lib.hid (show _ ∧ _ ∧ _ ∧ _ from ⟨h2, h3, h4, h5⟩)
    clear h2 h3 h4 h5 h6 hD
    gi_wp2
    exact write_leave rfl rfl rfl HH.out HAP.out HDD.out fun V' h' => ⟨p0 ++ [x], HX.out.2.2.2, by have := HX.out.2.1; rw [List.length_append, List.length_singleton]; omega, HFW.out h'.fr, h'.post HS3.out, .inr ⟨p0, x, rfl, HX.out.1, HX.out.2.2.1, rfl⟩⟩
end Go.Proofs.Ytmcbmbcfgefocaa
