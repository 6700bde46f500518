/- Contract: the document's Image. -/
import Derived.Test.YteeomidlnijfbaaPEg
namespace Go.Proofs.Yteeomidlnijfbaa
open Go.RowKit

section
variable {G : Nat → Prop} {w w' : World} {g gB cB gX : Nat} {vA vN : Value} {ys : List Value} {VB : Nat → Value} {X : Nat → Bool} {stop begun stop' begun' : Int} {t t' : Nat} {S S' : DS}
/-- Behind k sectors. -/
def ImRel (S : DS) (w wr : World) (k : Nat) (v : Value) (xs : List Value) : Prop :=
  wr.ownsRow w.heap.size 35 1 v k xs ∧ (∀ j, j < k → ∃ u, xs[j]? = some u ∧ SecO Any w u (S.T j)) ∧ Below w.heap.size w wr
theorem im_next {wr w2 : World} {k : Nat} {v u : Value} {xs : List Value} {g6 c6 : Nat} (h : ImRel S w wr k v xs) (hu : SecO Any w u (S.T k))
    (hown : w2.ownsRow w.heap.size 35 1 (.slice (some ⟨g6, 0, none⟩) (k + 1) c6) (k + 1) (xs ++ [u]))
    (hg : (wr.alloc (.cells #[u] 35)).grownBy w2 v.ownBlock) : ImRel S w w2 (k + 1) (.slice (some ⟨g6, 0, none⟩) (k + 1) c6) (xs ++ [u]) := by
  obtain ⟨hB, hall, hbl⟩ := h
  have hlen := hB.1
  refine ⟨hown, fun j hj => ?_, ?_⟩
  · by_cases hjk : j < k
    · obtain ⟨x, hx, hs⟩ := hall j hjk
      exact ⟨x, (by rw [List.getElem?_append_left (by omega)]; exact hx), hs⟩
    · obtain rfl : j = k := by omega
      exact ⟨u, (by rw [List.getElem?_append_right (by omega), show j - xs.length = 0 from by omega]; rfl), hu⟩
  · exact ((Only.of_below (F := fun j => w.heap.size ≤ j) (hbl.alloc hbl.size _)).grown hg fun j hj => .inl (World.ownsRow.lt hB j hj).1).below (Nat.le_refl _) fun _ h => h
def RImg (S : DS) (w w' : World) (e : Ending) : Prop := ∃ a c, e = .returned (.slice a S.n c) ∧ Img Any w' (.slice a S.n c) S.n S.T ∧ Below w.heap.size w w'
theorem im_fin {wr : World} {v : Value} {xs : List Value} (h1 : 1 ≤ S.n) (h : ImRel S w wr S.n v xs) : RImg S w wr (.returned v) := by
  obtain ⟨hB, hall, hbl⟩ := h
  obtain ⟨gB, cB, V, rfl, hb, hc, hm, hrow, hv⟩ := own_row hB h1
  refine ⟨_, cB, rfl, ⟨gB, cB, V, rfl, hc, trivial, hrow.lt, hrow, fun i hi => ?_⟩, hbl⟩
  obtain ⟨u, hu, hs⟩ := hall i hi
  rw [hv i hi] at hu
  injection hu with hu
  subst hu
  exact hs.keep (fun b _ hl => hbl.block b hl) fun _ _ _ => trivial
set_option maxRecDepth 20000 in
set_option maxHeartbeats 2000000 in
theorem rimage_any (h : Rk G w g gB cB gX vA vN ys VB X stop begun t S) :
    Calls Try.prog 34 #[.pointer (some ⟨g, 0, none⟩)] w fun e w' => RImg S w w' e := by
  have HH := Lib.hid h
  have hgl := h.lt g h.gg.1
  have hBl := h.lt gB h.gg.2.1
  have hXl := h.lt gX h.gg.2.2
  have hnB := h.nB
  have hn2 := h.n2
  clear h
  go_enter Try.func34, Try.ntmps34
  go_wp2
  go_loopw [3, 4] (fun v3 v4 wr => ∃ (k : Nat) (xs : List Value), k ≤ S.n ∧ v4 = .int .i64 k ∧ ImRel S w wr k v3 xs) (fun _ v4 _ => S.n - (intOf v4).toNat)
  case atStart => exact ⟨0, [], Nat.zero_le _, rfl, World.ownsRow_nil _ _ _ _, fun j hj => absurd hj (by omega), Below.refl _ _⟩
  case round =>
    obtain ⟨k, xs, hk, rfl, hrel⟩ := hrel
    have HREL := Lib.hid hrel
    have hz := hrel.2.2.size
    obtain ⟨aR, cR, rfl⟩ := own_shape hrel.1
    have hbr := HH.out.box.of_block (hrel.2.2.block _ hgl)
    have hbB := HH.out.rB.of_block (hrel.2.2.block _ hBl)
    have hbX := HH.out.rX.of_block (hrel.2.2.block _ hXl)
    have HBR := Lib.hid hbr
    obtain ⟨q0, q1, q2, q3, q4, q5, q6⟩ := dvr7 hbr
    clear hrel
    by_cases hlt : k < S.n
    · have x1 := hbX.cell (i := k) hlt
      have x2 := hbB.cell (i := k) (by omega)
      have hT := HH.out.hT k hlt
      have HN1 := Lib.hid (show ∀ u : Value, ∀ j x, ([u] : List Value)[j]? = some x → (wr.alloc (.cells #[u] 35)).cell? ((⟨wr.heap.size, 0, none⟩ : Addr).add j) = some x from fun u => cell_one_new _ _ _)
      have HQO := Lib.hid (show ∀ u : Value, (wr.alloc (.cells #[u] 35)).ownsRow w.heap.size 35 1 (.slice aR k cR) k xs from fun u => own_keep HREL.out.1 (fun j hj => Below.heap_alloc _ _ j (World.ownsRow.lt HREL.out.1 j hj).2))
      clear hbr hbB hbX
      cases hTk : S.T k with
      | none =>
        rw [hTk] at hT
        rw [hT.1] at x1
        have HU := Lib.hid (show SecO Any w (.slice none 0 0) (S.T k) by rw [hTk]; rfl)
        clear hT hTk
        go_wp2_with (
          at_builtin
          refine wpList_append_more rfl (.tmp 21) (.tmp 22) 32 rfl w.heap.size 35 _ 1 24 Try.underlying32 rows_info rfl (by omega) _ k xs rfl (HQO.out _) ⟨wr.heap.size, 0, none⟩ 1 1 [.slice none 0 0] rfl rfl (HN1.out _) (by simp [Value.oneCell']) (by simp only [maxLen]; omega) (by omega) (by rw [World.size_alloc]; omega) (by omega) ?_
          intro g6 c6 w2 hown2 hg2 hat2)
        have HFIN := Lib.hid (im_next (w := w) HREL.out HU.out hown2 hg2)
        clear hown2 hg2 hat2
        go_roundw
        case rel => exact ⟨k + 1, _, by omega, by go_num, HFIN.out⟩
        case measure => simp [intOf]; omega
      | some f =>
        rw [hTk] at hT
        rw [hT.1] at x1
        obtain ⟨va, vn, vc, hv⟩ := SecO.form (s := some f) hT.2
        have HU := Lib.hid (show SecO Any w (.slice va vn vc) (S.T k) by rw [hTk, ← hv]; exact Sec.keep hT.2 (fun _ _ _ => rfl) (fun _ _ _ => trivial))
        rw [hv] at x2
        clear hT hTk hv
        go_wp2_with (
          at_builtin
          refine wpList_append_more rfl (.tmp 24) (.tmp 32) 32 rfl w.heap.size 35 _ 1 24 Try.underlying32 rows_info rfl (by omega) _ k xs rfl (HQO.out _) ⟨wr.heap.size, 0, none⟩ 1 1 [.slice va vn vc] rfl rfl (HN1.out _) (by simp [Value.oneCell']) (by simp only [maxLen]; omega) (by omega) (by rw [World.size_alloc]; omega) (by omega) ?_
          intro g6 c6 w2 hown2 hg2 hat2)
        have HFIN := Lib.hid (im_next (w := w) HREL.out HU.out hown2 hg2)
        clear hown2 hg2 hat2
        go_roundw
        case rel => exact ⟨k + 1, _, by omega, by go_num, HFIN.out⟩
        case measure => simp [intOf]; omega
    · obtain rfl : k = S.n := by omega
      have HFIN := Lib.hid (im_fin (w := w) HH.out.n1 HREL.out)
      clear hbr hbB hbX
      go_wp2
      go_ret
      exact HFIN.out
end
end Go.Proofs.Yteeomidlnijfbaa
