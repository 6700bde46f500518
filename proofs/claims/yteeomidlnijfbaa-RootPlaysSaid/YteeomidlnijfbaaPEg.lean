/- Contract: the document's Make. -/
import Derived.Test.YteeomidlnijfbaaPEf
namespace Go.Proofs.Yteeomidlnijfbaa
open Go.RowKit

theorem bool_info : (Try.prog.info? 4).map (fun i => (i.zero, i.size, i.bytes)) = some (some (.bool false), 1, 1) := by kernel_rfl
theorem mk64 : ∃ C : Array Value, (∀ w : World, (Instr.makeSlice 35 (.int .i64 64) (.int .i64 64)).run Try.prog w = .ok (.slice (some ⟨w.heap.size, 0, none⟩) 64 64) (w.alloc (.cells C 5))) ∧ ∀ w : World, (w.alloc (.cells C 5)).rowIs w.heap.size 5 64 fun _ => .int .u8 0 :=
  ⟨madeCells #[.int .u8 0] 64, fun w => run_make_row' (P := Try.prog) 35 5 (.int .u8 0) 1 Try.underlying35 u8_info rfl .i64 .i64 64 (by omega) (by omega) w, fun w => World.rowIs_made w (.int .u8 0) 64 5⟩
/-- Behind k sectors. -/
def MkRel (n : Nat) (w wr : World) (k : Nat) (v : Value) (xs : List Value) : Prop :=
  wr.rowIs (w.heap.size + 1) 91 7 (dv7 v (.slice (some ⟨w.heap.size, 0, none⟩) n n) (.slice none 0 0) (.slice none 0 0) (.bool false) (.int .i64 0) (.int .i64 0)) ∧
  (wr.rowIs w.heap.size 4 n fun _ => .bool false) ∧ wr.ownsRow (w.heap.size + 2) 35 1 v k xs ∧
  (∀ j, j < k → ∃ u, xs[j]? = some u ∧ Sec (fun b => w.heap.size + 2 ≤ b ∧ v.ownBlock ≠ some b) wr u fun _ => 0) ∧ Below w.heap.size w wr
theorem mk_next {n : Nat} {w wr w1 w2 : World} {k : Nat} {v : Value} {xs : List Value} {g6 c6 : Nat} (h : MkRel n w wr k v xs)
    (hrow1 : w1.rowIs wr.heap.size 5 64 fun _ => .int .u8 0) (hb1 : Below wr.heap.size wr w1) (hs1 : w1.heap.size = wr.heap.size + 1)
    (hown : w2.ownsRow (w.heap.size + 2) 35 1 (.slice (some ⟨g6, 0, none⟩) (k + 1) c6) (k + 1) (xs ++ [.slice (some ⟨wr.heap.size, 0, none⟩) 64 64]))
    (hg : (w1.alloc (.cells #[.slice (some ⟨wr.heap.size, 0, none⟩) 64 64] 35)).grownBy w2 v.ownBlock) (hat : v.ownBlock = some g6 ∨ g6 = (w1.alloc (.cells #[.slice (some ⟨wr.heap.size, 0, none⟩) 64 64] 35)).heap.size) :
    MkRel n w (w2.setCell ⟨w.heap.size + 1, 0, none⟩ (.slice (some ⟨g6, 0, none⟩) (k + 1) c6)) (k + 1) (.slice (some ⟨g6, 0, none⟩) (k + 1) c6) (xs ++ [.slice (some ⟨wr.heap.size, 0, none⟩) 64 64]) := by
  obtain ⟨hbox, hX, hB, hall, hbl⟩ := h
  have lb := hbox.lt
  have lX := hX.lt
  have z := hbl.size
  have z1 := hg.size
  rw [World.size_alloc] at z1 hat
  have lB : ∀ j, v.ownBlock = some j → w.heap.size + 2 ≤ j ∧ j < wr.heap.size := fun j hj => World.ownsRow.lt hB j hj
  have key : ∀ j, j < wr.heap.size → v.ownBlock ≠ some j → j ≠ w.heap.size + 1 → (w2.setCell ⟨w.heap.size + 1, 0, none⟩ (.slice (some ⟨g6, 0, none⟩) (k + 1) c6)).heap[j]? = wr.heap[j]? := fun j hj hn hne =>
    (Below.heap_setCell _ _ _ _ hne).trans ((hg.block j (by rw [World.size_alloc]; omega) (fun e => hn e.symm)).trans ((Below.heap_alloc w1 _ j (by omega)).trans (hb1.block j hj)))
  have hlen := hB.1
  have hg6 : w.heap.size + 2 ≤ g6 := (World.ownsRow.lt hown g6 rfl).1
  have hbA := ((hbl.trans (hb1.mono z)).alloc (by omega) (.cells #[.slice (some ⟨wr.heap.size, 0, none⟩) 64 64] 35))
  have hO : Only (fun j => w.heap.size ≤ j) w (w2.setCell ⟨w.heap.size + 1, 0, none⟩ (.slice (some ⟨g6, 0, none⟩) (k + 1) c6)) :=
    ((Only.of_below hbA).grown hg fun j hj => .inr (by have := (lB j hj).1; omega)).setCell (.inr (by show w.heap.size ≤ w.heap.size + 1; omega)) _
  refine ⟨?_, ?_, ?_, fun j hj => ?_, hO.below (Nat.le_refl _) fun _ h => h⟩
  · have hb2 : w2.rowIs (w.heap.size + 1) _ 7 _ := ((hbox.of_block (hb1.block _ lb)).alloc _).of_block (hg.block _ (by rw [World.size_alloc]; omega) (fun e => by have := (lB _ e.symm).1; omega))
    exact d7_0 hb2 _
  · exact hX.of_block (key _ lX (fun e => by have := (lB _ e).1; omega) (by omega))
  · exact own_keep hown fun j hj => by
      injection hj with hj
      have hj' : g6 = j := hj
      exact Below.heap_setCell _ _ _ _ (by show j ≠ w.heap.size + 1; omega)
  · by_cases hjk : j < k
    · obtain ⟨u, hu, hs⟩ := hall j hjk
      refine ⟨u, by rw [List.getElem?_append_left (by omega)]; exact hu, hs.keep (fun b hb hl => key b hl hb.2 (by omega)) fun b hb hl => ⟨hb.1, fun e => ?_⟩⟩
      injection e with e
      have e' : g6 = b := e
      rcases hat with h | h
      · exact hb.2 (by rw [h, e'])
      · omega
    · obtain rfl : j = k := by omega
      refine ⟨_, (by rw [List.getElem?_append_right (by omega), show j - xs.length = 0 from by omega]; rfl), wr.heap.size, 0, 64, rfl, Nat.le_refl _, ⟨by omega, fun e => ?_⟩, fun y hy => ?_, fun _ _ => (by decide : (0 : Nat) < 256)⟩
      · injection e with e
        have e' : g6 = wr.heap.size := e
        rcases hat with h | h
        · have := (lB _ h).2; omega
        · omega
      · rw [Nat.zero_add]
        have hr : (w2.setCell ⟨w.heap.size + 1, 0, none⟩ (.slice (some ⟨g6, 0, none⟩) (j + 1) c6)).rowIs wr.heap.size _ 64 _ := (hrow1.alloc (.cells #[.slice (some ⟨wr.heap.size, 0, none⟩) 64 64] 35)).of_block ((Below.heap_setCell _ _ _ _ (by show wr.heap.size ≠ w.heap.size + 1; omega)).trans (hg.block _ (by rw [World.size_alloc]; omega) (fun e => by have := (lB _ e.symm).2; omega)))
        exact hr.cell hy
def MadePost (w w' : World) (e : Ending) (n : Nat) : Prop := ∃ g G, e = .returned (.pointer (some ⟨g, 0, none⟩)) ∧ RAt G w' g 0 (DS.new n) ∧ (∀ k, G k → w.heap.size ≤ k) ∧ Below w.heap.size w w'
theorem mk_fin {n : Nat} {w wr : World} {v : Value} {xs : List Value} (h1 : 1 ≤ n) (h2 : n ≤ 512) (h : MkRel n w wr n v xs) : MadePost w wr (.returned (.pointer (some ⟨w.heap.size + 1, 0, none⟩))) n := by
  obtain ⟨hbox, hX, hB, hall, hbl⟩ := h
  obtain ⟨gB, cB, V, rfl, hb, hc, hm, hrow, hv⟩ := own_row hB h1
  have lb := hbox.lt
  have lX := hX.lt
  have lB := hrow.lt
  refine ⟨w.heap.size + 1, fun k => w.heap.size ≤ k ∧ k < wr.heap.size, rfl, ⟨gB, cB, w.heap.size, .slice none 0 0, .slice none 0 0, [], V, fun _ => false, 0, 0, ?_⟩, fun k hk => hk.1, hbl⟩
  exact {
    box := hbox
    rB := hrow
    rX := hX
    oA := World.ownsRow_nil _ _ _ _
    oN := World.ownsRow_nil _ _ _ _
    hT := fun i hi => by
      obtain ⟨u, hu, hs⟩ := hall i hi
      rw [hv i hi] at hu
      injection hu with hu
      subst hu
      refine ⟨rfl, hs.keep (fun _ _ _ => rfl) fun b hb' hl => ⟨⟨(by omega), hl⟩, (by omega), fun e => hb'.2 (by rw [e]; rfl), (by omega), (by simp [Value.ownBlock]), (by simp [Value.ownBlock])⟩⟩
    hP := fun k p hp => by simp [DS.new] at hp
    n1 := h1
    n2 := h2
    nB := hc
    pl := fun _ => .inl ⟨rfl, by omega⟩
    bg := ⟨by omega, by omega⟩
    sp := ⟨by omega, by omega⟩
    e1 := ⟨by omega, by omega, by omega⟩
    pA := fun k hk => by simp [Value.ownBlock] at hk
    pN := fun k hk => by simp [Value.ownBlock] at hk
    gg := ⟨⟨by omega, lb⟩, ⟨by omega, lB⟩, ⟨by omega, lX⟩⟩
    lt := fun k hk => hk.2 }
set_option maxRecDepth 20000 in
set_option maxHeartbeats 2000000 in
theorem make_any (n : Nat) (w : World) (h1 : 1 ≤ n) (h2 : n ≤ 512) :
    Calls Try.prog 24 #[.int .i64 (n : Nat)] w fun e w' => MadePost w w' e n := by
  go_enter Try.func24, Try.ntmps24
  go_wp2_with (
    at_make; refine wpList_make_rowIs rfl _ _ 89 rfl 4 (.bool false) 1 Try.underlying89 bool_info rfl .i64 .i64 _ _ n rfl rfl rfl rfl (by omega) (by omega) ?_; intro w1 hrow1 hb1 hs1)
  have HREL0 := Lib.hid (show MkRel n w (w1.alloc (.cells #[.slice none 0 0, .slice (some ⟨w.heap.size, 0, none⟩) n n, .slice none 0 0, .slice none 0 0, .bool false, .int .i64 0, .int .i64 0] 91)) 0 (.slice none 0 0) [] from
    ⟨(by
      rw [← hs1]
      exact World.rowIs_alloc w1 _ _ _ fun i hi => by
        simp at hi
        rcases (by omega : i = 0 ∨ i = 1 ∨ i = 2 ∨ i = 3 ∨ i = 4 ∨ i = 5 ∨ i = 6) with rfl | rfl | rfl | rfl | rfl | rfl | rfl <;> rfl),
     hrow1.alloc _, World.ownsRow_nil _ _ _ _, fun j hj => absurd hj (by omega), hb1.alloc (by omega) _⟩)
  clear hrow1 hb1 hs1
  obtain ⟨C64, hmk, hc64⟩ := mk64
  have HC64 := Lib.hid hc64
  clear hc64
  go_loopw [4] (fun v wr => ∃ (k : Nat) (u : Value) (xs : List Value), k ≤ n ∧ v = .int .i64 k ∧ MkRel n w wr k u xs) (fun v _ => n - (intOf v).toNat)
  case atStart => exact ⟨0, _, _, Nat.zero_le _, rfl, HREL0.out⟩
  case round =>
    obtain ⟨k, u, xs, hk, rfl, hrel⟩ := hrel
    have HREL := Lib.hid hrel
    have hbr := hrel.1
    have hz := hrel.2.2.2.2.size
    have hlb := hbr.lt
    obtain ⟨aB, cB, rfl⟩ := own_shape hrel.2.2.1
    clear hrel HREL0
    by_cases hlt : k < n
    · have HBR := Lib.hid hbr
      obtain ⟨q0, q1, q2, q3, q4, q5, q6⟩ := dvr7 hbr
      have q7 := hbr.frozen 0
      have HN1 := Lib.hid (show ∀ u : Value, ∀ j x, ([u] : List Value)[j]? = some x → ((wr.drew.alloc (.cells C64 5)).alloc (.cells #[u] 35)).cell? ((⟨wr.heap.size + 1, 0, none⟩ : Addr).add j) = some x from fun u => by
        have e : wr.heap.size + 1 = (wr.drew.alloc (.cells C64 5)).heap.size := (World.size_alloc _ _).symm
        rw [e]
        exact cell_one_new _ _ _)
      have rr := hbr.alloc (.cells C64 5)
      have r0 := (dvr7 (rr.alloc (.cells #[.slice (some ⟨wr.heap.size, 0, none⟩) 64 64] 35))).1
      clear hbr rr
      go_wp2
      go_region_law (
        refine step_append_more rfl (.tmp 18) (.tmp 20) 32 rfl (w.heap.size + 2) 35 _ 1 24 Try.underlying32 rows_info rfl (by omega) (.slice aB k cB) k xs (by simp [Act.eval]) ?qown ⟨wr.heap.size + 1, 0, none⟩ 1 1 [.slice (some ⟨wr.heap.size, 0, none⟩) 64 64] (by simp [Act.eval]) rfl (HN1.out _) (by simp [Value.oneCell']) (by simp only [maxLen]; omega) (by omega) ?qbase (by omega) ?_
        case qown => exact own_keep HREL.out.2.2.1 (fun j hj => (Below.heap_alloc _ _ j (by have := (World.ownsRow.lt HREL.out.2.2.1 j hj).2; rw [World.size_alloc]; exact Nat.lt_succ_of_lt this)).trans (Below.heap_alloc wr.drew _ j (World.ownsRow.lt HREL.out.2.2.1 j hj).2))
        case qbase => simp; omega
        intro g6 c6 w2 hown2 hg2 hat2
        have hb6 := ((HBR.out.drew.alloc (.cells C64 5)).alloc (.cells #[.slice (some ⟨wr.heap.size, 0, none⟩) 64 64] 35)).of_block (hg2.block (w.heap.size + 1) (by simp; omega) (fun e => by have := (World.ownsRow.lt HREL.out.2.2.1 _ e.symm).1; omega))
        obtain ⟨s0, s1, s2, s3, s4, s5, s6⟩ := dvr7 hb6
        have s7 := hb6.frozen 0)
      all_goals
        have HFIN := Lib.hid (mk_next (n := n) (w := w) (wr := wr) (w1 := wr.drew.alloc (.cells C64 5)) HREL.out (HC64.out wr.drew) ((Below.drew_ (Below.refl _ _)).alloc (Nat.le_refl _) _) (World.size_alloc _ _) hown2 hg2 hat2)
        clear hown2 hg2 hat2 hb6 r0 s0 s1 s2 s3 s4 s5 s6 s7 q0 q1 q2 q3 q4 q5 q6 q7
        go_wp2
        go_roundw
        case rel => exact ⟨k + 1, _, _, by omega, by go_num, HFIN.out⟩
        case measure => simp [intOf]; omega
    · obtain rfl : k = n := by omega
      clear hbr
      go_wp2
      go_ret
      exact mk_fin h1 h2 HREL.out
end Go.Proofs.Yteeomidlnijfbaa
