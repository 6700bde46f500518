/- Rows of values of one cell: copy, append, read as functions of the place. Nothing of the program is in here. -/
import Derived.Test.YtmcbmbcfgefocaaPDa
import Derived.Laws.CopyOwn
import Derived.Deep.RegionLaw
import Derived.Test.YtmcbmbcfgefocaaPDc
import Derived.Laws.Bits64
namespace Go.Proofs.Ytmcbmbcfgefocaa
open Go.RowKit

/-- What a row holds behind a copy of m cells to place o. -/
def splV (f : Nat → Value) (o m : Nat) (s : Nat → Value) : Nat → Value := fun j => if o ≤ j ∧ j < o + m then s (j - o) else f j

theorem row_copied {w : World} {g : Nat} {t : TypeId} {sz : Nat} {f : Nat → Value} {cur : Array Value} (hg : w.heap[g]? = some (.cells cur t (0, 0))) (hcs : cur.size = sz) (hc : ∀ i, i < sz → cur[i]? = some (f i)) (o m : Nat) (s : Nat → Value) (hfit : o + m ≤ sz) :
    (w.setRow g (cur.toList.take o ++ (((List.range m).map s) ++ cur.toList.drop (o + m))).toArray).rowIs g t sz (splV f o m s) := by
  refine ⟨_, setRow_heap w g cur _ t _ hg, ?_, fun j hj => ?_⟩
  · simp [hcs]; omega
  · have hcl : cur.toList.length = sz := by simp [hcs]
    simp only [List.getElem?_toArray, splV]
    by_cases h1 : j < o
    · rw [if_neg (by omega), List.getElem?_append_left (by simp [hcs]; omega), List.getElem?_take, if_pos h1, Array.getElem?_toList]
      exact hc j hj
    · rw [List.getElem?_append_right (by simp; omega)]
      have hl1 : (List.take o cur.toList).length = o := by simp [hcs]; omega
      rw [hl1]
      by_cases h2 : j < o + m
      · rw [if_pos ⟨by omega, h2⟩, List.getElem?_append_left (by simp; omega), List.getElem?_map, List.getElem?_range (by omega)]
        rfl
      · rw [if_neg (by omega), List.getElem?_append_right (by simp; omega), List.length_map, List.length_range, List.getElem?_drop, Array.getElem?_toList]
        rw [show o + m + (j - o - m) = j from by omega]
        exact hc j hj
theorem rg_get {s : Nat → Value} {m j : Nat} {u : Value} (h : ((List.range m).map s)[j]? = some u) : j < m ∧ u = s j := by
  have hj : j < m := by
    rcases Nat.lt_or_ge j m with hh | hh
    · exact hh
    · rw [List.getElem?_eq_none (by simpa using hh)] at h; cases h
  simp [hj] at h
  exact ⟨hj, h.symm⟩

theorem run_copy_rowIs {P : Program} {w : World} (dT sT ty elem : TypeId) (hu : P.underlying dT = some (.slice elem)) (hsz : (P.info? elem).map (·.size) = some 1)
    (g o dLen dCap : Nat) (ad : Addr) (sLen sCap : Nat) (t : TypeId) (sz : Nat) (f : Nat → Value) (hrow : w.rowIs g t sz f) (m : Nat) (hm : m = Nat.min sLen dLen) (s : Nat → Value)
    (hsrc : ∀ j, j < m → w.cell? (ad.add j) = some (s j)) (h1 : ∀ j, j < m → (s j).oneCell' = true) (hfit : o + m ≤ sz) :
    ∃ w', (Builtin.copy_ #[dT, sT] ty #[.slice (some ⟨g, o, none⟩) dLen dCap, .slice (some ad) sLen sCap]).run P w = .ok (.int .i64 (m : Nat)) w' ∧ w'.rowIs g t sz (splV f o m s) ∧ w.grownBy w' (some g) ∧ w'.heap.size = w.heap.size := by
  obtain ⟨cur, hg, hcs, hc⟩ := hrow
  have hlen : ((List.range m).map s).length = m := by simp
  have hr := run_copy_row (P := P) w dT sT ty elem g o dLen dCap ad sLen sCap cur t ((List.range m).map s) hu hsz hg (by rw [hlen, hm]) (fun j v hv => by
    obtain ⟨hj, rfl⟩ := rg_get hv
    exact hsrc j hj) (by rw [hlen, hcs]; exact hfit) (fun v hv => by
    simp at hv
    obtain ⟨j, hj, rfl⟩ := hv
    exact h1 j hj)
  rw [hlen, List.append_assoc] at hr
  exact ⟨_, hr, row_copied hg hcs hc o m s hfit, ⟨rfl, rfl, rfl, by simp, fun k _ hne => setRow_other w g k _ (fun e => hne (by rw [e]))⟩, by simp⟩

theorem wpList_copy_rowIs {P : Program} {w : World} {ops : Array Oper} {rest : List Oper} {o : Oper} {a : Act} {Q : Exit → Act → World → Prop} (hgd : o.guard = none) (d s : Operand) (dT sT : TypeId)
    (ho : o.op = .call { callee := .builtin .copy, args := #[d, s], argTypes := #[dT, sT] }) (elem : TypeId) (hu : P.underlying dT = some (.slice elem)) (hsz : (P.info? elem).map (·.size) = some 1)
    (g off dLen dCap : Nat) (ad : Addr) (sLen sCap : Nat) (hd : a.eval d = .slice (some ⟨g, off, none⟩) dLen dCap) (hs : a.eval s = .slice (some ad) sLen sCap)
    (t : TypeId) (sz : Nat) (f : Nat → Value) (hrow : w.rowIs g t sz f) (src : Nat → Value) (m : Nat) (hm : m = Nat.min sLen dLen)
    (hsrc : ∀ j, j < m → w.cell? (ad.add j) = some (src j)) (h1 : ∀ j, j < m → (src j).oneCell' = true) (hfit : off + m ≤ sz)
    (h : ∀ w', w'.rowIs g t sz (splV f off m src) → w.grownBy w' (some g) → w'.heap.size = w.heap.size → wpList P ops Q rest (a.put o.dst (.int .i64 (m : Nat))) w') :
    wpList P ops Q (o :: rest) a w := by
  refine wpList_plain hgd fun K hK => ?_
  obtain ⟨w', hrun, h2, h3, h4⟩ := run_copy_rowIs (P := P) (w := w) dT sT o.type elem hu hsz g off dLen dCap ad sLen sCap t sz f hrow m hm src hsrc h1 hfit
  unfold Oper.wp
  simp [execOp, ho, resolve, invoke, builtin, hd, hs, hrun, Result.andThen]
  exact hK _ _ (h w' h2 h3 h4)

theorem step_copy_rowIs {P : Program} {w : World} {ops : Array Oper} {o : Oper} {a : Act} {K : Act → World → Prop} {Q : Exit → Act → World → Prop} {E : Prop} (hgd : o.guard = none) (d s : Operand) (dT sT : TypeId)
    (ho : o.op = .call { callee := .builtin .copy, args := #[d, s], argTypes := #[dT, sT] }) (elem : TypeId) (hu : P.underlying dT = some (.slice elem)) (hsz : (P.info? elem).map (·.size) = some 1)
    (g off dLen dCap : Nat) (ad : Addr) (sLen sCap : Nat) (hd : a.eval d = .slice (some ⟨g, off, none⟩) dLen dCap) (hs : a.eval s = .slice (some ad) sLen sCap)
    (t : TypeId) (sz : Nat) (f : Nat → Value) (hrow : w.rowIs g t sz f) (src : Nat → Value) (m : Nat) (hm : m = Nat.min sLen dLen)
    (hsrc : ∀ j, j < m → w.cell? (ad.add j) = some (src j)) (h1 : ∀ j, j < m → (src j).oneCell' = true) (hfit : off + m ≤ sz)
    (h : ∀ w', w'.rowIs g t sz (splV f off m src) → w.grownBy w' (some g) → w'.heap.size = w.heap.size → K (a.put o.dst (.int .i64 (m : Nat))) w') :
    if Region.wanted o (yielded ops a.tmps) = true then Oper.wp P o a w K Q else E := by
  have hw : Region.wanted o (yielded ops a.tmps) = true := by simp [Region.wanted, hgd]
  rw [if_pos hw]
  obtain ⟨w', hrun, h2, h3, h4⟩ := run_copy_rowIs (P := P) (w := w) dT sT o.type elem hu hsz g off dLen dCap ad sLen sCap t sz f hrow m hm src hsrc h1 hfit
  unfold Oper.wp
  simp [execOp, ho, resolve, invoke, builtin, hd, hs, hrun, Result.andThen]
  exact h w' h2 h3 h4

/-- append of known cells to a slice of one's own, as one step of a region that draws its order. -/
theorem step_append_at {P : Program} {w : World} {ops : Array Oper} {o : Oper} {a : Act} {KK : Act → World → Prop} {Q : Exit → Act → World → Prop} {E : Prop} (hgd : o.guard = none) (s x : Operand) (t : TypeId)
    (ho : o.op = .call { callee := .builtin .append, args := #[s, x], argTypes := #[t, t] })
    (base : Nat) (e : TypeId) (z : Value) (size bytes : Nat) (ht : P.underlying t = some (.slice e)) (hinfo : (P.info? e).map (fun i => (i.zero, i.size, i.bytes)) = some (some z, size, bytes)) (hzs : z.cells.size = size) (hsz : 0 < size)
    (v : Value) (n : Nat) (xs : List Value) (hs : a.eval s = v) (hown : w.ownsRow base e size v n xs)
    (ad : Addr) (m c : Nat) (news : List Value) (hx : a.eval x = .slice (some ad) m c) (hl : news.length = m * size) (hnews : ∀ j u, news[j]? = some u → w.cell? (ad.add j) = some u) (h1 : ∀ u ∈ news, u.oneCell' = true)
    (h63 : n + m ≤ maxLen) (hbytes : (n + m) * bytes ≤ 140737488355328) (hbase : base ≤ w.heap.size)
    (h : ∀ v' w', w'.ownsRow base e size v' (n + m) (xs ++ news) → w.grownBy w' v.ownBlock → (v'.ownBlock = v.ownBlock ∨ v'.ownBlock = some w.heap.size) → KK (a.put o.dst v') w') :
    if Region.wanted o (yielded ops a.tmps) = true then Oper.wp P o a w KK Q else E := by
  have hw : Region.wanted o (yielded ops a.tmps) = true := by simp [Region.wanted, hgd]
  rw [if_pos hw]
  obtain ⟨i, hi, hzz⟩ := Option.map_eq_some_iff.1 hinfo
  simp only [Prod.mk.injEq] at hzz
  obtain ⟨hz0, hz1, hz2⟩ := hzz
  obtain ⟨v', w', hrun, h2, h3, _, h5⟩ := run_append_own_at (P := P) w base t o.type e i z size bytes ht hi hz0 hz1 hz2 hzs hsz v n xs hown ad m c news hl hnews h1 h63 hbytes hbase
  unfold Oper.wp
  simp [execOp, ho, resolve, invoke, builtin, hs, hx, hrun, Result.andThen]
  exact h v' w' h2 h3 h5
theorem own_some {w : World} {base : Nat} {e : TypeId} {size : Nat} {v : Value} {n : Nat} {xs : List Value} (h : w.ownsRow base e size v n xs) (hn : 0 < n) : ∃ g c, v = .slice (some ⟨g, 0, none⟩) n c := by
  rcases h.2 with ⟨_, h0⟩ | ⟨g, c, cur, rfl, _⟩
  · omega
  · exact ⟨g, c, rfl⟩
theorem step_append_more {P : Program} {w : World} {ops : Array Oper} {o : Oper} {a : Act} {KK : Act → World → Prop} {Q : Exit → Act → World → Prop} {E : Prop} (hgd : o.guard = none) (s x : Operand) (t : TypeId)
    (ho : o.op = .call { callee := .builtin .append, args := #[s, x], argTypes := #[t, t] })
    (base : Nat) (e : TypeId) (z : Value) (size bytes : Nat) (ht : P.underlying t = some (.slice e)) (hinfo : (P.info? e).map (fun i => (i.zero, i.size, i.bytes)) = some (some z, size, bytes)) (hzs : z.cells.size = size) (hsz : 0 < size)
    (v : Value) (n : Nat) (xs : List Value) (hs : a.eval s = v) (hown : w.ownsRow base e size v n xs)
    (ad : Addr) (m c : Nat) (news : List Value) (hx : a.eval x = .slice (some ad) m c) (hl : news.length = m * size) (hnews : ∀ j u, news[j]? = some u → w.cell? (ad.add j) = some u) (h1 : ∀ u ∈ news, u.oneCell' = true)
    (h63 : n + m ≤ maxLen) (hbytes : (n + m) * bytes ≤ 140737488355328) (hbase : base ≤ w.heap.size) (hm : 0 < m)
    (h : ∀ g' c' w', w'.ownsRow base e size (.slice (some ⟨g', 0, none⟩) (n + m) c') (n + m) (xs ++ news) → w.grownBy w' v.ownBlock → (v.ownBlock = some g' ∨ g' = w.heap.size) → KK (a.put o.dst (.slice (some ⟨g', 0, none⟩) (n + m) c')) w') :
    if Region.wanted o (yielded ops a.tmps) = true then Oper.wp P o a w KK Q else E :=
  step_append_at hgd s x t ho base e z size bytes ht hinfo hzs hsz v n xs hs hown ad m c news hx hl hnews h1 h63 hbytes hbase fun v' w' h2 h3 h4 => by
    obtain ⟨g', c', rfl⟩ := own_some h2 (by omega)
    exact h g' c' w' h2 h3 (h4.imp (fun e => e.symm) (fun e => by simpa [Value.ownBlock] using e))
theorem wpList_append_at {P : Program} {w : World} {ops : Array Oper} {rest : List Oper} {o : Oper} {a : Act} {Q : Exit → Act → World → Prop} (hgd : o.guard = none) (s x : Operand) (t : TypeId)
    (ho : o.op = .call { callee := .builtin .append, args := #[s, x], argTypes := #[t, t] })
    (base : Nat) (e : TypeId) (z : Value) (size bytes : Nat) (ht : P.underlying t = some (.slice e)) (hinfo : (P.info? e).map (fun i => (i.zero, i.size, i.bytes)) = some (some z, size, bytes)) (hzs : z.cells.size = size) (hsz : 0 < size)
    (v : Value) (n : Nat) (xs : List Value) (hs : a.eval s = v) (hown : w.ownsRow base e size v n xs)
    (ad : Addr) (m c : Nat) (news : List Value) (hx : a.eval x = .slice (some ad) m c) (hl : news.length = m * size) (hnews : ∀ j u, news[j]? = some u → w.cell? (ad.add j) = some u) (h1 : ∀ u ∈ news, u.oneCell' = true)
    (h63 : n + m ≤ maxLen) (hbytes : (n + m) * bytes ≤ 140737488355328) (hbase : base ≤ w.heap.size)
    (h : ∀ v' w', w'.ownsRow base e size v' (n + m) (xs ++ news) → w.grownBy w' v.ownBlock → (v'.ownBlock = v.ownBlock ∨ v'.ownBlock = some w.heap.size) → wpList P ops Q rest (a.put o.dst v') w') :
    wpList P ops Q (o :: rest) a w := by
  obtain ⟨i, hi, hzz⟩ := Option.map_eq_some_iff.1 hinfo
  simp only [Prod.mk.injEq] at hzz
  obtain ⟨hz0, hz1, hz2⟩ := hzz
  exact wpList_append_own_at w hgd s x t ho base e i z size bytes ht hi hz0 hz1 hz2 hzs hsz v n xs hs hown ad m c news hx hl hnews h1 h63 hbytes hbase fun v' w' h2 h3 _ h5 => h v' w' h2 h3 h5

theorem wpList_make_rowIs {P : Program} {w : World} {ops : Array Oper} {rest : List Oper} {o : Oper} {a : Act} {Q : Exit → Act → World → Prop}
    (hg : o.guard = none) (l c : Operand) (t : TypeId) (hop : o.op = Op.makeSlice t l c)
    (e : TypeId) (z : Value) (bytes : Nat) (ht : P.underlying t = some (.slice e)) (hinfo : (P.info? e).map (fun i => (i.zero, i.size, i.bytes)) = some (some z, 1, bytes)) (hz1 : z.cells = #[z])
    (kl kc : IntKind) (L C : Int) (n : Nat) (hl : a.eval l = .int kl L) (hc : a.eval c = .int kc C) (hL : L = (n : Int)) (hC : C = (n : Int)) (hbytes : bytes * n ≤ 281474976710656) (h63 : n ≤ 9223372036854775807)
    (hK : ∀ w', w'.rowIs w.heap.size e n (fun _ => z) → Below w.heap.size w w' → w'.heap.size = w.heap.size + 1 → wpList P ops Q rest (a.put o.dst (.slice (some ⟨w.heap.size, 0, none⟩) n n)) w') :
    wpList P ops Q (o :: rest) a w := by
  refine wpList_plain hg fun K hK' => ?_
  subst hL
  subst hC
  have hrun := run_make_row' (P := P) t e z bytes ht hinfo hz1 kl kc n hbytes h63 w
  unfold Oper.wp
  simp [execOp, hop, hl, hc, hrun, Result.andThen]
  exact hK' _ _ (hK _ (World.rowIs_made w z n e) ((Below.refl _ _).alloc (Nat.le_refl _) _) (by simp))

/-- A slice of one's own that isn't empty, as a row. -/
theorem own_row {w : World} {base : Nat} {e : TypeId} {v : Value} {n : Nat} {xs : List Value} (h : w.ownsRow base e 1 v n xs) (hn : 0 < n) :
    ∃ g cap V, v = .slice (some ⟨g, 0, none⟩) n cap ∧ base ≤ g ∧ n ≤ cap ∧ cap ≤ maxLen ∧ w.rowIs g e cap V ∧ ∀ j, j < n → xs[j]? = some (V j) := by
  rcases h.2 with ⟨_, h0⟩ | ⟨g, cap, cur, rfl, hb, hg, hc, hm, hs, ht⟩
  · omega
  · refine ⟨g, cap, fun j => cur.getD j (.bool false), rfl, hb, hc, hm, ⟨cur, hg, by omega, fun i hi => ?_⟩, fun j hj => ?_⟩
    · simp [Array.getD, show i < cur.size from by omega]
    · rw [← ht, List.getElem?_take, if_pos (by omega)]
      simp [Array.getD, show j < cur.size from by omega]
end Go.Proofs.Ytmcbmbcfgefocaa

/- Contracts: bits.Mul of 1 and a small number, slices.Repeat of one row, slices.Clone of rows, New. -/
namespace Go.Proofs.Ytmcbmbcfgefocaa
open Go.RowKit

set_option maxRecDepth 100000 in
set_option maxHeartbeats 1000000 in
theorem mul64_one (n : Nat) (w : World) (hn : n < 4294967296) :
    Calls Try.prog 58 #[.int .u64 1, .int .u64 (n : Nat)] w fun e w' => e = .returned (.tuple #[.int .u64 0, .int .u64 (n : Nat)]) ∧ w = w' := by
  have h1 : (n : Int) % 4294967296 = n := by omega
  have h2 : (n : Int) / 4294967296 = 0 := by omega
  have b1 : bits BinOp.and IntKind.u64 1 4294967295 = 1 := by rfl
  have b0 : bits BinOp.and IntKind.u64 0 4294967295 = 0 := by rfl
  have bn : bits BinOp.and IntKind.u64 (n : Int) 4294967295 = n := by
    have := u64_and_nat n 4294967295 (by omega) (by decide)
    rw [Nat.and_two_pow_sub_one_eq_mod n 32, Nat.mod_eq_of_lt (by omega)] at this
    exact this
  go_enter Try.func58, Try.ntmps58
  go_wp2
  go_ret2
  exact ⟨rfl, rfl⟩
theorem mul_one (n : Nat) (w : World) (hn : n < 4294967296) :
    Calls Try.prog 40 #[.int .u64 1, .int .u64 (n : Nat)] w fun e w' => e = .returned (.tuple #[.int .u64 0, .int .u64 (n : Nat)]) ∧ w = w' := by
  go_enter Try.func40, Try.ntmps40
  go_wp2_with (go_at_call 58; refine (mul64_one n _ hn).mono ?_; rintro e w' ⟨rfl, rfl⟩)
  go_ret2
  exact ⟨rfl, rfl⟩

theorem rows_info : (Try.prog.info? 35).map (fun i => (i.zero, i.size, i.bytes)) = some (some (.slice none 0 0), 1, 24) := by kernel_rfl
theorem rows_size : (Try.prog.info? 35).map (·.size) = some 1 := by kernel_rfl
theorem el35 : Try.prog.underlying 33 = some (.slice (Try.prog.elem 33)) := by kernel_rfl
theorem sz35 (w : World) : (sizeOf (Try.prog.elem 33)).run Try.prog w = .ok 1 w := by kernel_rfl
theorem sl35_l (g n c k : Nat) (hk : k < n) (hc : n ≤ c) (w : World) :
    (Instr.slice 33 (.slice (some ⟨g, 0, none⟩) n c) (some (.int .i64 k)) none none).run Try.prog w = .ok (.slice (some ⟨g, k, none⟩) (n - k) (c - k)) w := by
  rw [run_slice_l w 33 (some ⟨g, 0, none⟩) n c el35 .i64 k (by omega) (by omega), sz35]
  simp only [Result.andThen, sliced, Int.toNat_natCast, Nat.mul_one]
  rw [if_neg (by omega)]
  simp only [Option.map_some, add_mk, Nat.zero_add]
theorem sl35_h (g n c k : Nat) (hk : k ≤ c) (h0 : 0 < c) (w : World) :
    (Instr.slice 33 (.slice (some ⟨g, 0, none⟩) n c) none (some (.int .i64 k)) none).run Try.prog w = .ok (.slice (some ⟨g, 0, none⟩) k c) w := by
  rw [run_slice_h w 33 (some ⟨g, 0, none⟩) n c el35 .i64 k (by omega) (by omega), sz35]
  simp only [Result.andThen, sliced, Int.toNat_natCast, Nat.zero_mul, Nat.sub_zero]
  rw [if_neg (by omega)]
  rfl

/-- n times the one row. -/
def RepPost (w w' : World) (e : Ending) (n : Nat) (v0 : Value) : Prop :=
  ∃ g, e = .returned (.slice (some ⟨g, 0, none⟩) n n) ∧ w.heap.size ≤ g ∧ w'.rowIs g 35 n (fun _ => v0) ∧ Below w.heap.size w w'
set_option maxRecDepth 100000 in
set_option maxHeartbeats 1000000 in
theorem repeat_any (g n : Nat) (v0 : Value) (w : World) (h1 : 1 ≤ n) (h2 : n ≤ 512) (hc : w.cell? ⟨g, 0, none⟩ = some v0) (hv : v0.oneCell' = true) :
    Calls Try.prog 21 #[.slice (some ⟨g, 0, none⟩) 1 1, .int .i64 (n : Nat)] w fun e w' => RepPost w w' e n v0 := by
  have HC := Lib.hid hc
  have HV := Lib.hid hv
  have QM := Lib.hid (show 1 = Nat.min 1 n from by show 1 = min 1 n; omega)
  have qf : 0 + 1 ≤ n := by omega
  have QS := Lib.hid (fun (w1 : World) (hb1 : Below w.heap.size w w1) => show ∀ j, j < 1 → w1.cell? ((⟨g, 0, none⟩ : Addr).add j) = some v0 from fun j hj => by
    obtain rfl : j = 0 := by omega
    exact cell_later hb1 hc)
  clear hc hv
  go_enter Try.func21, Try.ntmps21
  go_wp2_with (first
    | (go_at_call 40; refine (mul_one n _ (by omega)).mono ?_; rintro e w' ⟨rfl, rfl⟩)
    | (at_make; refine wpList_make_rowIs rfl _ _ 33 rfl 35 (.slice none 0 0) 24 Try.underlying33 rows_info rfl .i64 .i64 _ _ n rfl rfl rfl rfl (by omega) (by omega) ?_; intro w1 hrow1 hb1 hs1)
    | (with_reducible refine wpList_copy_rowIs rfl (.tmp 31) (.tmp 32) 33 33 rfl 35 Try.underlying33 rows_size _ 0 n n ⟨g, 0, none⟩ 1 1 rfl rfl 35 n _ hrow1 (fun _ => v0) 1 QM.out (QS.out _ hb1) (fun _ _ => HV.out) qf ?_
       intro w2 hrow2 hg2 hs2))
  have HR2 := Lib.hid (show w2.rowIs w.heap.size 35 n (splV (fun _ => .slice none 0 0) 0 1 (fun _ => v0)) from hrow2)
  have HB2 := Lib.hid (show Below w.heap.size w w2 from hb1.grown hg2 (by omega) fun k hk => by cases hk; exact Nat.le_refl _)
  clear hrow1 hrow2 hg2 hs2 hb1 hs1 QS qf QM
  go_loopw [8] (fun v wr => ∃ (k : Nat) (V : Nat → Value), 1 ≤ k ∧ k ≤ n ∧ v = .int .i64 k ∧ wr.rowIs w.heap.size 35 n V ∧ (∀ j, j < k → V j = v0) ∧ Below w.heap.size w wr) (fun v _ => n - (intOf v).toNat)
  case atStart => exact ⟨1, _, Nat.le_refl _, h1, rfl, HR2.out, fun j hj => by
    obtain rfl : j = 0 := by omega
    rfl, HB2.out⟩
  case round =>
    obtain ⟨k, V, hk1, hk, rfl, hrow, hall, hbl⟩ := hrel
    have HROW := Lib.hid hrow
    have HALL := Lib.hid hall
    have HBL := Lib.hid hbl
    have hs := hbl.size
    clear hrow hall hbl HR2 HB2
    by_cases hlt : k < n
    · have hsl1 := sl35_l w.heap.size n n k hlt (Nat.le_refl _)
      have hsl2 := sl35_h w.heap.size n n k hk (by omega)
      obtain ⟨m, hm⟩ : ∃ m, m = Nat.min k (n - k) := ⟨_, rfl⟩
      have hm' : m = min k (n - k) := hm
      have hm1 : 1 ≤ m := by omega
      have hm2 : k + m ≤ n := by omega
      have hm3 : m ≤ k := by omega
      have HWR := Lib.hid (show IntKind.i64.wrap ((k : Int) + (m : Int)) = ((k + m : Nat) : Int) from by rw [IntWalk.i64_in _ (by omega)]; omega)
      have HM := Lib.hid hm
      have QS := Lib.hid (show ∀ j, j < m → wr.drew.cell? ((⟨w.heap.size, 0, none⟩ : Addr).add j) = some (V j) from fun j hj => by
        rw [add_mk, Nat.zero_add]; exact HROW.out.drew.cell (by omega))
      have QV := Lib.hid (show ∀ j, j < m → (V j).oneCell' = true from fun j hj => by rw [HALL.out j (by omega)]; exact HV.out)
      clear hm hm'
      go_wp2
      go_region_law (
        refine step_copy_rowIs rfl (.tmp 41) (.tmp 44) 33 33 rfl 35 Try.underlying33 rows_size w.heap.size k (n - k) (n - k) ⟨w.heap.size, 0, none⟩ k n (by simp [Act.eval, Act.put]) (by simp [Act.eval, Act.put]) 35 n V HROW.out.drew V m HM.out QS.out QV.out hm2 ?_
        intro w3 hrow3 hg3 hs3)
      all_goals
        have HR3 := Lib.hid hrow3
        have HB3 := Lib.hid (show Below w.heap.size w w3 from HBL.out.drew.grown hg3 hs fun k hk => by cases hk; exact Nat.le_refl _)
        clear hrow3 hg3 hs3 hsl1 hsl2
        simp only [Act.put, List.setIfInBounds_toArray, List.set_cons_zero, List.set_cons_succ, List.getElem_toArray, List.getElem_cons_succ, List.getElem_cons_zero]
        rw [HWR.out]
        go_wp2
        go_roundw
        case rel => exact ⟨k + m, _, by omega, hm2, rfl, HR3.out, fun j hj => by
          unfold splV
          split
          · exact HALL.out _ (by omega)
          · exact HALL.out _ (by omega), HB3.out⟩
        case measure => simp [intOf]; omega
    · obtain rfl : k = n := by omega
      go_wp2
      go_ret
      exact ⟨_, rfl, Nat.le_refl _, HROW.out.congr HALL.out, HBL.out⟩
end Go.Proofs.Ytmcbmbcfgefocaa
