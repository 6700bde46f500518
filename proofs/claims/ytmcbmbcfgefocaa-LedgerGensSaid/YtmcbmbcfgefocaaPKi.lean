/- Contract: Split. -/
import Derived.Test.YtmcbmbcfgefocaaPKl
import Derived.Maps.AppendAt
namespace Go.Proofs.Ytmcbmbcfgefocaa
open Go.RowKit Go.Shelf
set_option linter.unusedSimpArgs false
set_option linter.unusedVariables false
attribute [local go_sem] Oper.semAt_some

set_option maxRecDepth 100000 in
set_option maxHeartbeats 1000000 in
theorem clone_own (ad : Addr) (n c : Nat) (f : Nat → Nat) (w : World) (hr : Rd .u8 w (some ad) n f) (hn : n ≤ 1000000) :
    Calls Try.prog 39 #[.slice (some ad) n c] w fun e w' => (∃ v, e = .returned v ∧ Own .u8 5 w' w.heap.size v n f) ∧ Below w.heap.size w w' := by
  have HR := Lib.hid (hr.below (below_new w (.cells #[] 5)))
  have hown := own_none8 w f
  have hnil := Lib.run_eql_slice_nil (P := Try.prog) w 35 5 (some ad) n c 0 0 Try.underlying35
  clear hr
  go_enter Try.func39, Try.ntmps39
  go_wp2_with (at_builtin; refine wpList_app rfl _ _ 35 rfl .u8 5 Try.underlying35 1 u8_info (by omega) w.heap.size _ 0 f rfl hown (some ad) n c f rfl HR.out (fun h => by cases h) (by omega) (by simp) ?_; intro v2 w5 hown2 hb2 hsz2)
  clear hnil
  have HO := Lib.hid hown2
  have HB := Lib.hid ((below_new w (.cells #[] 5)).trans hb2)
  clear hown hown2 hb2 hsz2
  go_wp2
  go_ret
  refine ⟨⟨v2, rfl, ?_⟩, HB.out⟩
  have h2 := HO.out
  rw [Nat.zero_add] at h2
  exact h2.congr fun j _ => by simp [appF]

set_option maxRecDepth 100000 in
set_option maxHeartbeats 2000000 in
theorem split_no (g s : Nat) (A : Option Addr) (n c : Nat) (f : Nat → Nat) (w : World) (hn : n ≤ 9223372036854775807) (hz : needF n = 0) :
    Calls Try.prog 77 #[.int .u32 (g : Nat), .int .u32 (s : Nat), .slice A n c] w fun e w' => SplitPostT w w' e g s n f := by
  have HN : Hid (∀ u : World, Calls Try.prog 45 #[.int .i64 (n : Nat)] u fun e w' => e = .returned (.int .i64 0) ∧ w' = u) := fun u => (need_any n u hn).mono fun e w' h => ⟨by rw [h.1, hz]; rfl, h.2⟩
  have HZ := Lib.hid hz
  clear hz
  go_enter Try.func77, Try.ntmps77
  go_wp2_with (go_at_call 45; refine (HN.out _).mono ?_; rintro e w1 ⟨rfl, rfl⟩)
  go_ret2
  exact ⟨.inl ⟨HZ.out, rfl⟩, bbt (bbt (below_new _ _) (below_new _ _)) (below_new _ _)⟩

theorem cell_info : (Try.prog.info? 106).map (fun i => (i.zero, i.size, i.bytes)) = some (some (cellV 0 0 0 0 none 0 0), 5, 48) := by kernel_rfl

theorem own_below {w w' : World} {base k : Nat} {e : TypeId} {size : Nat} {v : Value} {xs : List Value} (h : w.ownsRow base e size v k xs) (hb : Below w.heap.size w w') : w'.ownsRow base e size v k xs := by
  refine ⟨h.1, ?_⟩
  rcases h.2 with hn | ⟨g, c, cur, rfl, hg, hh, r⟩
  · exact .inl hn
  · exact .inr ⟨g, c, cur, rfl, hg, (hb.block g (Array.getElem?_eq_some_iff.1 hh).1).trans hh, r⟩
theorem own_same {w w' : World} {base k g c : Nat} {e : TypeId} {size : Nat} {xs : List Value} (h : w.ownsRow base e size (.slice (some ⟨g, 0, none⟩) k c) k xs) (hb : w'.heap[g]? = w.heap[g]?) : w'.ownsRow base e size (.slice (some ⟨g, 0, none⟩) k c) k xs := by
  refine ⟨h.1, ?_⟩
  rcases h.2 with hn | ⟨g', c', cur, hv, hg, hh, r⟩
  · exact .inl hn
  · cases hv
    exact .inr ⟨g, c, cur, rfl, hg, hb.trans hh, r⟩
theorem new_get (w : World) (arr : Array Value) (t : TypeId) : ∀ (j : Nat) (u : Value), arr.toList[j]? = some u → (w.alloc (.cells arr t)).cell? ((⟨w.heap.size, 0, none⟩ : Addr).add j) = some u := fun j u h => by
  rw [add_mk, Nat.zero_add, cell_of_row _ _ j _ _ _ (heap_alloc_new w (.cells arr t)), ← Array.getElem?_toList]
  exact h
theorem cellL_one (x : CellD) : ∀ u ∈ cellL x, u.oneCell' = true := fun u hu => by
  simp only [cellL, List.mem_cons, List.not_mem_nil, or_false] at hu
  rcases hu with rfl | rfl | rfl | rfl | rfl <;> rfl
/-- Five blocks that stay. -/
def Fix5 (w5 : World) (a b c d e : Nat) (W : World) : Prop := ∀ j, j = a ∨ j = b ∨ j = c ∨ j = d ∨ j = e → W.heap[j]? = w5.heap[j]?
theorem ownFrom_fix {β : Type} {w5 : World} {a b c d e B : Nat} (ha : a < w5.heap.size) (hb : b < w5.heap.size) (hc : c < w5.heap.size) (hd : d < w5.heap.size) (he : e < w5.heap.size) (hB : w5.heap.size ≤ B) : OwnFrom B (fun (_ : β) W => Fix5 w5 a b c d e W) := fun s W W' row hs hg hr j hj => by
  have hjl : j < w5.heap.size := by omega
  have h1 := hs j hj
  have hjW : j < W.heap.size := by
    rcases Nat.lt_or_ge j W.heap.size with h | h
    · exact h
    · rw [Array.getElem?_eq_none h, Array.getElem?_eq_getElem hjl] at h1; cases h1
  exact (hg.block j hjW (fun e' => by have := (hr j e'.symm).1; omega)).trans h1
theorem kept_block {W w1 : World} {tmp : Obj} {v v' : Value} {B9 j : Nat} (hg : (W.alloc tmp).grownBy w1 v.ownBlock) (hj : j < W.heap.size) (hne : some j ≠ v.ownBlock) (h9 : j ≠ B9) : (w1.setCell ⟨B9, 0, none⟩ v').heap[j]? = W.heap[j]? :=
  (Below.heap_setCell w1 ⟨B9, 0, none⟩ v' j h9).trans ((hg.block j (by simp; omega) hne).trans (Below.heap_alloc W tmp j hj))
theorem not_row {W : World} {j : Nat} {cs : Array Value} {t e : TypeId} {m : Nat × Nat} (h : W.heap[j]? = some (.cells cs t m)) (hte : t ≠ e) {base size k : Nat} {v : Value} {xs : List Value} (hr : W.ownsRow base e size v k xs) : some j ≠ v.ownBlock := by
  rcases hr.2 with ⟨rfl, _⟩ | ⟨g, cap, cur, rfl, _, hgb, _⟩
  · simp [Value.ownBlock]
  · intro e'
    obtain rfl : j = g := by simpa [Value.ownBlock] using e'
    rw [h] at hgb
    simp at hgb
    exact hte hgb.2.1
theorem fix_step {w5 W w1 : World} {a b c d e B9 : Nat} {tmp : Obj} {v v' : Value} {base k : Nat} {xs : List Value} {ca cb cc cd ce : Array Value} {ta tb tc td te : TypeId}
    (ha : w5.heap[a]? = some (.cells ca ta (0, 0))) (hb : w5.heap[b]? = some (.cells cb tb (0, 0))) (hc : w5.heap[c]? = some (.cells cc tc (0, 0))) (hd : w5.heap[d]? = some (.cells cd td (0, 0))) (he : w5.heap[e]? = some (.cells ce te (0, 0)))
    (na : ta ≠ 106) (nb : tb ≠ 106) (nc : tc ≠ 106) (nd : td ≠ 106) (ne : te ≠ 106) (h9 : a ≠ B9 ∧ b ≠ B9 ∧ c ≠ B9 ∧ d ≠ B9 ∧ e ≠ B9)
    (hf : Fix5 w5 a b c d e W) (hr : W.ownsRow base 106 5 v k xs) (hg : (W.alloc tmp).grownBy w1 v.ownBlock) : Fix5 w5 a b c d e (w1.setCell ⟨B9, 0, none⟩ v') := fun j hj => by
  have one : ∀ (cs : Array Value) (t : TypeId), w5.heap[j]? = some (.cells cs t (0, 0)) → t ≠ 106 → j ≠ B9 → (w1.setCell ⟨B9, 0, none⟩ v').heap[j]? = w5.heap[j]? := fun cs t h1 h2 h3 => by
    have hW := (hf j hj).trans h1
    exact (kept_block hg (Array.getElem?_eq_some_iff.1 hW).1 (not_row hW h2 hr) h3).trans (hf j hj)
  rcases hj with rfl | rfl | rfl | rfl | rfl
  · exact one _ _ ha na h9.1
  · exact one _ _ hb nb h9.2.1
  · exact one _ _ hc nc h9.2.2.1
  · exact one _ _ hd nd h9.2.2.2.1
  · exact one _ _ he ne h9.2.2.2.2
abbrev encG (g n k : Nat) : Array Value := #[.int .i64 (k : Nat), .slice (some ⟨g, 49 * k, none⟩) (dl n k) (dl n k)]
theorem encG_is (g n : Nat) : encP ⟨g, 0, none⟩ n = encG g n := funext fun k => by unfold encP encG; rw [add_mk, Nat.zero_add]
/-- A part's cell. -/
def partD (g s N R n : Nat) (f : Nat → Nat) (i : Nat) : CellD := ⟨g, s, (i : Nat), (N : Nat), some ⟨R, 49 * i, none⟩, dl n i, dl n i, fun j => f (49 * i + j)⟩
theorem parts_stops (n c N Bs R : Nat) (w : World) (hn : n ≤ 392) (h0 : 0 < n) (hc : n ≤ c) (hN : needF n = N) (hB : Boxed w Bs 35 (.slice (some ⟨R, 0, none⟩) n c)) :
    SeqStopsK Fence.wide (5 - 1) Try.prog 87 #[.pointer (some ⟨Bs, 0, none⟩)] (encG R n) (KpB Bs) (fun ys => ys = List.range N) (fun pre => ∃ k, k ≤ N ∧ pre = List.range k) N w := fun l J Jx W hW _ _ hY h0' => by
  subst hN
  rw [← encG_is] at hY
  exact parts1_in 4 l Bs ⟨R, 0, none⟩ n c hn h0 hc J Jx W hY ((hW.block _ hB.lt).trans hB) h0'

set_option maxRecDepth 100000 in
set_option maxHeartbeats 4000000 in
theorem split_yes (g s : Nat) (ad : Addr) (n c : Nat) (f : Nat → Nat) (w : World) (hg : g < 4294967296) (hs : s < 4294967296) (hr : Rd .u8 w (some ad) n f) (hf : ∀ j, j < n → f j < 256) (h1 : 0 < n) (h2 : n ≤ 392) :
    Calls Try.prog 77 #[.int .u32 (g : Nat), .int .u32 (s : Nat), .slice (some ad) n c] w fun e w' => SplitPostT w w' e g s n f := by
  obtain ⟨N, hN⟩ : ∃ N, needF n = N := ⟨_, rfl⟩
  have hN8 : N ≤ 8 := by rw [← hN]; exact need_few n
  have hN1 : 1 ≤ N := by unfold needF at hN; rw [if_neg (by omega)] at hN; omega
  have HN : Hid (∀ u : World, Calls Try.prog 45 #[.int .i64 (n : Nat)] u fun e w' => e = .returned (.int .i64 (N : Nat)) ∧ w' = u) := fun u => (need_any n u (by omega)).mono fun e w' h => ⟨by rw [h.1, hN], h.2⟩
  have HR := Lib.hid hr
  have HF := Lib.hid hf
  have HE := Lib.hid hN
  clear hr hf hN
  obtain ⟨i0, hi, hz0, hz1, hz2⟩ := info_parts cell_info
  have HI := Lib.hid (show _ ∧ _ ∧ _ ∧ _ from ⟨hi, hz0, hz1, hz2⟩)
  clear hi hz0 hz1 hz2
  refine (callsIn_wide (n := 5)).1 ?_
  refine callsIn_of_wp_marks Try.func77 rfl trivial ?_ rfl
  simp only [Try.ntmps77, List.size_toArray, List.length_cons, List.length_nil, Nat.reduceAdd, Nat.reduceSub, Array.replicate_succ, Array.replicate_zero, List.push_toArray, List.append_toArray, List.nil_append, List.cons_append]
  gi_wp2_with (first
    | (refine ⟨trivial, ?_⟩; gi_at_call 45; refine (callsIn_wide.2 (HN.out _)).mono ?_; rintro e w' ⟨rfl, rfl⟩)
    | (gi_at_make; refine wpListIn_make_own _ rfl _ _ 114 rfl w.heap.size 106 i0 (cellV 0 0 0 0 none 0 0) 5 Try.underlying114 HI.out.1 HI.out.2.1 HI.out.2.2.1 _ _ _ N rfl rfl rfl (by rw [HI.out.2.2.2]; omega) (by simp only [maxLen]; omega) (by simp; omega) ?_; intro w2 hown2 hgrow2))
  have b3 := Boxed.new w 31 (.int .u32 (g : Nat))
  have b4 := Boxed.new (w.alloc (.cells #[.int .u32 (g : Nat)] 31)) 31 (.int .u32 (s : Nat))
  have b8 := Boxed.new ((w.alloc (.cells #[.int .u32 (g : Nat)] 31)).alloc (.cells #[.int .u32 (s : Nat)] 31)) 3 (.int .i64 (N : Nat))
  rw [World.size_alloc] at b4
  rw [World.size_alloc, World.size_alloc] at b8
  have hbl : Below w.heap.size w (((w.alloc (.cells #[.int .u32 (g : Nat)] 31)).alloc (.cells #[.int .u32 (s : Nat)] 31)).alloc (.cells #[.int .i64 (N : Nat)] 3)) := bbt (bbt (below_new _ _) (below_new _ _)) (below_new _ _)
  have b3' := (b3.alloc (.cells #[.int .u32 (s : Nat)] 31)).alloc (.cells #[.int .i64 (N : Nat)] 3)
  have b4' := b4.alloc (.cells #[.int .i64 (N : Nat)] 3)
  have hsz : (((w.alloc (.cells #[.int .u32 (g : Nat)] 31)).alloc (.cells #[.int .u32 (s : Nat)] 31)).alloc (.cells #[.int .i64 (N : Nat)] 3)).heap.size = w.heap.size + 3 := by simp
  generalize (((w.alloc (.cells #[.int .u32 (g : Nat)] 31)).alloc (.cells #[.int .u32 (s : Nat)] 31)).alloc (.cells #[.int .i64 (N : Nat)] 3)) = w1 at *
  have hb12 : Below w1.heap.size w1 w2 := (Below.refl _ _).grown hgrow2 (Nat.le_refl _) fun k hk => by cases hk
  have k3 := (b3'.kept hgrow2 (by simp)).alloc (.cells #[.slice (some ⟨w.heap.size + 1 + 1 + 1, 0, none⟩) 0 N] 114)
  have k4 := (b4'.kept hgrow2 (by simp)).alloc (.cells #[.slice (some ⟨w.heap.size + 1 + 1 + 1, 0, none⟩) 0 N] 114)
  have k8 := (b8.kept hgrow2 (by simp)).alloc (.cells #[.slice (some ⟨w.heap.size + 1 + 1 + 1, 0, none⟩) 0 N] 114)
  have k9 := Boxed.new w2 114 (.slice (some ⟨w.heap.size + 1 + 1 + 1, 0, none⟩) 0 N)
  have hbl3 : Below w.heap.size w (w2.alloc (.cells #[.slice (some ⟨w.heap.size + 1 + 1 + 1, 0, none⟩) 0 N] 114)) := bbt (bbt hbl hb12) (below_new _ _)
  have hown3 := World.ownsRow.alloc hown2 (.cells #[.slice (some ⟨w.heap.size + 1 + 1 + 1, 0, none⟩) 0 N] 114)
  rw [hsz] at hown3
  have hlt9 : w.heap.size + 3 ≤ w2.heap.size := by have := hb12.size; omega
  have hs3 : (w2.alloc (.cells #[.slice (some ⟨w.heap.size + 1 + 1 + 1, 0, none⟩) 0 N] 114)).heap.size = w2.heap.size + 1 := by simp
  clear b3 b4 b8 b3' b4' hbl hsz hown2 hgrow2 hb12
  generalize (w2.alloc (.cells #[.slice (some ⟨w.heap.size + 1 + 1 + 1, 0, none⟩) 0 N] 114)) = w3 at *
  generalize w2.heap.size = B9 at *
  have HRC := Lib.hid (HR.out.below hbl3)
  gi_wp2_with (first
    | (refine ⟨trivial, ?_⟩; gi_at_call 39; refine (callsIn_wide.2 (clone_own ad n c f _ HRC.out (by omega))).mono ?_; rintro e w4 ⟨⟨v3, rfl, hv3⟩, hb34⟩; obtain ⟨g3, c3, rfl, hg3, hc3⟩ : ∃ g3 c3, v3 = .slice (some ⟨g3, 0, none⟩) n c3 ∧ w3.heap.size ≤ g3 ∧ n ≤ c3 := (by rcases hv3.form with ⟨_, h0⟩ | h; (· omega); (· exact h)))
    | (refine ⟨trivial, ?_⟩; gi_at_call 83; refine (callsIn_wide.2 (parts_any _ _ _ _)).mono ?_; rintro e w' ⟨rfl, rfl⟩))
  obtain ⟨w5, hw5⟩ : ∃ w5, w4.alloc (.cells #[.slice (some ⟨g3, 0, none⟩) n c3] 35) = w5 := ⟨_, rfl⟩
  obtain ⟨Bs, hBs⟩ : ∃ Bs, w4.heap.size = Bs := ⟨_, rfl⟩
  have h45 : Below w4.heap.size w4 w5 := by rw [← hw5]; exact below_new _ _
  have h35 : Below w3.heap.size w3 w5 := bbt hb34 h45
  have m3 : Boxed w5 w.heap.size 31 (.int .u32 (g : Nat)) := (h35.block _ k3.lt).trans k3
  have m4 : Boxed w5 (w.heap.size + 1) 31 (.int .u32 (s : Nat)) := (h35.block _ k4.lt).trans k4
  have m8 : Boxed w5 (w.heap.size + 1 + 1) 3 (.int .i64 (N : Nat)) := (h35.block _ k8.lt).trans k8
  have m9 : Boxed w5 B9 114 (.slice (some ⟨w.heap.size + 1 + 1 + 1, 0, none⟩) 0 N) := (h35.block _ k9.lt).trans k9
  have mS : Boxed w5 Bs 35 (.slice (some ⟨g3, 0, none⟩) n c3) := by rw [← hw5, ← hBs]; exact Boxed.new _ _ _
  have mR : Own .u8 5 w5 w3.heap.size (.slice (some ⟨g3, 0, none⟩) n c3) n f := hv3.below h45
  have mrow : w5.ownsRow w.heap.size 106 5 (.slice (some ⟨w.heap.size + 1 + 1 + 1, 0, none⟩) 0 N) 0 [] := own_below hown3 h35
  have mbl : Below w.heap.size w w5 := bbt hbl3 h35
  have msz : w3.heap.size < w5.heap.size ∧ Bs < w5.heap.size ∧ w4.heap.size ≤ w5.heap.size := ⟨by have := hb34.size; rw [← hw5]; simp; omega, mS.lt, h45.size⟩
  have hg3l : g3 < w5.heap.size := by have := h45.size; have := (World.ownsRow.lt hv3 g3 rfl).2; omega
  have hB9 : w.heap.size ≤ B9 := by omega
  have h99 : w.heap.size ≠ B9 ∧ w.heap.size + 1 ≠ B9 ∧ w.heap.size + 1 + 1 ≠ B9 ∧ g3 ≠ B9 ∧ Bs ≠ B9 := by have := hb34.size; omega
  obtain ⟨curR, hR⟩ : ∃ cur, w5.heap[g3]? = some (.cells cur 5 (0, 0)) := by
    rcases mR.2 with ⟨h, _⟩ | ⟨g, cap, cur, hv, _, hgb, _⟩
    · cases h
    · cases hv; exact ⟨cur, hgb⟩
  rw [hw5]
  rw [hBs]
  clear k3 k4 k8 k9 hown3 hbl3 hv3 h45 h35 hb34 hs3 hw5 HRC
  refine wpIn_rangeFunc_ownG (gf := 87) (lb := #[.pointer (some ⟨Bs, 0, none⟩)]) rfl (by omega) rfl trivial (enters_of Try.func87 (by kernel_rfl) rfl)
    (encs := encG g3 n) (Kp := KpB Bs) (S := fun ys => ys = List.range N) (Sp := fun pre => ∃ k, k ≤ N ∧ pre = List.range k) (N := N) (w0 := w5)
    (parts_stops n c3 N Bs g3 w5 h2 h1 hc3 HE.out mS)
    (fun h k => k.trans h) (fun W l o o' hl _ _ _ => World.putObj_heap_other (by omega)) (Below.refl _ _) (fun _ => rfl)
    (fun pre W => (∃ v, Boxed W B9 114 v ∧ W.ownsRow w.heap.size 106 5 v pre.length (pre.flatMap fun i => cellL (partD g s N g3 n f i)) ∧ True) ∧ (Fix5 w5 w.heap.size (w.heap.size + 1) (w.heap.size + 1 + 1) g3 Bs W ∧ Below w.heap.size w W))
    (fun _ _ _ => False)
    (OwnFrom.and (Own.from (holdsRow_own w.heap.size B9 114 106 5 (fun pre : List Nat => pre.length) (fun pre => pre.flatMap fun i => cellL (partD g s N g3 n f i)) (fun _ _ => True)) _) (OwnFrom.and (ownFrom_fix m3.lt m4.lt m8.lt hg3l mS.lt (Nat.le_refl _)) (ownFrom_below (Nat.le_refl _) mbl.size)))
    (fun _ _ _ _ _ hs _ _ => hs)
    ⟨⟨_, m9, mrow, trivial⟩, fun j _ => rfl, mbl⟩
    (fun x => { tmps := #[.int .u32 (g : Nat), .int .u32 (s : Nat), .slice (some ad) n c, .pointer (some ⟨w.heap.size, 0, none⟩), .pointer (some ⟨w.heap.size + 1, 0, none⟩), undef, .slice none 0 0, .int .i64 0, .pointer (some ⟨w.heap.size + 1 + 1, 0, none⟩), .pointer (some ⟨B9, 0, none⟩), .int .i64 (x : Nat), .slice (some ⟨g3, 49 * x, none⟩) (dl n x) (dl n x), .slice (some ad) n c, .int .i64 (n : Nat), .int .i64 (N : Nat), .int .i64 (N : Nat), .bool false, .int .i64 (N : Nat), .slice (some ⟨w.heap.size + 1 + 1 + 1, 0, none⟩) 0 N, .slice (some ad) n c, .slice (some ⟨g3, 0, none⟩) n c3, .func (.func 87) #[] #[.pointer (some ⟨Bs, 0, none⟩)], .int .i64 (x : Nat), .slice (some ⟨g3, 49 * x, none⟩) (dl n x) (dl n x), undef, undef, undef, undef, undef, undef, undef, undef, undef, undef], defers := [] }) ?assign ?body ?done ?stop
  case assign =>
    intro l x W K hK
    gi_wp2
    exact hK
  case body =>
    rintro l pre x W ⟨⟨v, hv, hrow, _⟩, hfix, hB⟩ hlt
    have hc := hv.cell
    have q3 : Boxed W w.heap.size 31 (.int .u32 (g : Nat)) := (hfix _ (.inl rfl)).trans m3
    have q4 : Boxed W (w.heap.size + 1) 31 (.int .u32 (s : Nat)) := (hfix _ (.inr (.inl rfl))).trans m4
    have q8 : Boxed W (w.heap.size + 1 + 1) 3 (.int .i64 (N : Nat)) := (hfix _ (.inr (.inr (.inl rfl)))).trans m8
    have cc3 := q3.cell
    have cc4 := q4.cell
    have cc8 := q8.cell
    have hWs := hB.size
    obtain ⟨hi, hz0, hz1, hz2⟩ := HI.out
    gi_wp2_with (gi_at_builtin; refine wpListIn_append_own _ rfl _ _ 114 rfl w.heap.size 106 i0 (cellV 0 0 0 0 none 0 0) 5 48 Try.underlying114 hi hz0 hz1 hz2 rfl (by decide) _ _ _ rfl (hrow.alloc _) ⟨W.heap.size, 0, none⟩ 1 1 (cellL (partD g s N g3 n f x)) rfl rfl (new_get _ _ _) (cellL_one _) (by simp only [maxLen]; omega) (by omega) (by simp; omega) ?_; intro v' w1 hown' hgrow _; obtain ⟨g', cap', rfl⟩ := ownsRow_succ hown'; obtain ⟨hv1, hv2, hr2, hk2, hb2⟩ := hv.appended (by decide) hrow hWs hB9 hown' hgrow; have hc1 := hv1.cell; have hf1 := hv1.frozen)
    have hfx := fix_step (v' := .slice (some ⟨g', 0, none⟩) (pre.length + 1) cap') m3 m4 m8 hR mS (by decide) (by decide) (by decide) (by decide) (by decide) h99 hfix hrow hgrow
    refine ⟨hk2.from _, (hfx _ (.inr (.inr (.inr (.inr rfl))))).trans (hfix _ (.inr (.inr (.inr (.inr rfl))))).symm, ⟨_, hv2, ?_, trivial⟩, hfx, hB.trans hb2⟩
    rw [List.length_append, List.length_singleton, List.flatMap_append]
    simpa using hr2
  case done =>
    rintro D ys W hD rfl ⟨⟨v, hv, hrow, _⟩, hfix, hB⟩ hK
    have hc := hv.cell
    gi_wp2
    refine ⟨by simp, .inl ⟨_, _, rfl, run_takeDeferred hK, ?_⟩⟩
    refine ⟨_, results_tmp2 rfl _ _ _, ?_, hB.trans (belowK_b (w := w) (Nat.le_refl _) W D _ _ (by have := mbl.size; omega) hK rfl rfl)⟩
    have hrow2 := ownsRow_putObj hrow (.deferred none) hK rfl
    have hR2 : Own .u8 5 W w3.heap.size (.slice (some ⟨g3, 0, none⟩) n c3) n f := own_same mR (hfix _ (.inr (.inr (.inr (.inl rfl)))))
    have hR3 : Own .u8 5 (W.putObj D (.deferred none)) w3.heap.size (.slice (some ⟨g3, 0, none⟩) n c3) n f := ownsRow_putObj hR2 (.deferred none) hK rfl
    have hrd := hR3.rd_
    rw [List.length_range] at hrow2
    have hoc : OwnC (W.putObj D (.deferred none)) w.heap.size v N (partD g s N g3 n f) := hrow2
    obtain ⟨gl, cl, rfl⟩ : ∃ gl cl, v = .slice (some ⟨gl, 0, none⟩) N cl := by
      rcases hoc.2 with ⟨_, h0⟩ | ⟨gl, cl, _, rfl, _⟩
      · omega
      · exact ⟨gl, cl, rfl⟩
    have hcl : N ≤ cl := by
      rcases hoc.2 with ⟨h0, _⟩ | ⟨gl', cl', _, h0, _, _, h1', _⟩
      · cases h0
      · cases h0; exact h1'
    have hNe := HE.out
    have hdl : ∀ i, i < N → 49 * i < n ∧ 49 * i + dl n i ≤ n ∧ dl n i ≤ 49 := fun i hi => by
      unfold needF at hNe
      rw [if_neg (by omega)] at hNe
      unfold dl
      omega
    refine .inr ⟨by omega, ⟨gl, 0, none⟩, cl, partD g s N g3 n f, by rw [hNe]; rfl, by omega, ?_, ?_, ?_, fun i hi => (own_typ8 hR3).part rfl⟩
    · rw [hNe]
      refine hoc.at_ (fun i hi => ?_) (fun i hi => ?_)
      · have h3 := hdl i hi
        have := (hrd.drop (k := 49 * i) (by omega)).less (m := dl n i) (by omega)
        rw [add_mk, Nat.zero_add] at this
        exact this
      · have h3 := hdl i hi
        exact ⟨hg, hs, by show _ ≤ ((i : Nat) : Int); omega, by show ((i : Nat) : Int) ≤ _; omega, by show _ ≤ ((N : Nat) : Int); omega, by show ((N : Nat) : Int) ≤ _; omega, Nat.le_refl _, by show dl n i ≤ _; omega, fun j hj => HF.out _ (by have : j < dl n i := hj; omega), fun h => by cases h⟩
    · intro i hi
      exact ⟨rfl, rfl, rfl, by rw [hNe]; rfl, rfl, fun j _ => rfl⟩
    · rcases hoc.2 with ⟨_, h0⟩ | ⟨gl', cl', cur, h0, _, hh, _⟩
      · omega
      · cases h0; exact ⟨cur, _, hh⟩
  case stop =>
    rintro D c' pre W _ _ h _
    exact h.elim
theorem split_byT {g s n : Nat} {v : Value} {f : Nat → Nat} {w : World} (hg : g < 4294967296) (hs : s < 4294967296) (h : Byt w v n f) (hn : n ≤ 9223372036854775807) :
    Calls Try.prog 77 #[.int .u32 (g : Nat), .int .u32 (s : Nat), v] w fun e w' => SplitPostT w w' e g s n f := by
  obtain ⟨A, c, rfl, hc, hr, hf⟩ := h
  by_cases hz : needF n = 0
  · exact split_no g s A n c f w hn hz
  · have h1 : 0 < n ∧ n ≤ 392 := by
      unfold needF at hz
      split at hz
      · omega
      · omega
    obtain ⟨ad, rfl, _⟩ := hr.some_ h1.1
    exact split_yes g s ad n c f w hg hs hr hf h1.1 h1.2
end Go.Proofs.Ytmcbmbcfgefocaa
