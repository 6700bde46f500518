/- SegTorn: what its end needs. -/
import Derived.Test.YteeomidlnijfbaaPPe
namespace Go.Proofs.Yteeomidlnijfbaa
open Go.RowKit Go.Shelf
set_option linter.unusedSimpArgs false
set_option linter.unusedVariables false

/-- The first rows of a list. -/
theorem ListG.first {G : Nat → Prop} {w : World} {base : Nat} {A : Option Addr} {m c : Nat} {NN : Nat → Nat} (h : ListG G w base (.slice A m c) (recZ NN m)) {n : Nat} (hn : n ≤ m) : RowsBy w (.slice A n c) (recZ NN n) := by
  obtain ⟨A', c', e, hr⟩ := h.by_
  rw [recZ_len] at e
  cases e
  refine ⟨A, c, by rw [recZ_len], fun i r hi => ?_⟩
  have hin : i < n := by
    have := (List.getElem?_eq_some_iff.1 hi).1
    rwa [recZ_len] at this
  refine hr i r ?_
  rw [recZ_at hin] at hi
  rw [recZ_at (by omega)]
  exact hi
theorem ListG.cap {G : Nat → Prop} {w : World} {base : Nat} {A : Option Addr} {m c : Nat} {NN : Nat → Nat} (h : ListG G w base (.slice A m c) (recZ NN m)) : (m = 0 ∧ A = none ∧ c = 0) ∨ ∃ g, A = some ⟨g, 0, none⟩ ∧ m ≤ c := by
  obtain ⟨vs, h1, h2, h3⟩ := h
  rw [recZ_len] at h1
  rcases h1.2 with ⟨e, h0⟩ | ⟨g, c', cur, e, _, _, hc, _⟩
  · cases e
    exact .inl ⟨rfl, rfl, rfl⟩
  · cases e
    exact .inr ⟨g, rfl, hc⟩
/-- The first rows, as values. -/
theorem ListG.vals {G : Nat → Prop} {w : World} {base : Nat} {g m c : Nat} {NN : Nat → Nat} (h : ListG G w base (.slice (some ⟨g, 0, none⟩) m c) (recZ NN m)) {n : Nat} (hn : n ≤ m) :
    ∃ news : List Value, news.length = n * 1 ∧ (∀ (j : Nat) (u : Value), news[j]? = some u → w.cell? ((⟨g, 0, none⟩ : Addr).add j) = some u) ∧ (∀ u ∈ news, u.oneCell' = true) ∧ ∀ (i : Nat) (r : Rec), (recZ NN n)[i]? = some r → ∃ u, news[i]? = some u ∧ Byt w u r.1 r.2 ∧ r.1 ≤ 1000000 := by
  obtain ⟨vs, h1, h2, h3⟩ := h
  rw [recZ_len] at h1
  have hlen : vs.length = m := by have := h1.1; simpa using this
  refine ⟨vs.take n, by simp [hlen]; omega, fun j u hu => ?_, fun u hu => ?_, fun i r hi => ?_⟩
  · rw [List.getElem?_take] at hu
    split at hu
    · exact h1.cells rfl j u hu
    · cases hu
  · obtain ⟨j, hj⟩ := List.getElem?_of_mem hu
    rw [List.getElem?_take] at hj
    split at hj
    · rename_i hjn
      obtain ⟨u', e1, ⟨A, c', e2, _⟩, _⟩ := h3 j (NN j, rowZ j) (recZ_at (by omega))
      rw [hj] at e1
      injection e1 with e1
      subst e1
      rw [e2]
      rfl
    · cases hj
  · have hin : i < n := by
      have := (List.getElem?_eq_some_iff.1 hi).1
      rwa [recZ_len] at this
    rw [recZ_at hin] at hi
    injection hi with hi
    subst hi
    obtain ⟨u', e1, e2, _, e3, _⟩ := h3 i (NN i, rowZ i) (recZ_at (by omega))
    exact ⟨u', by rw [List.getElem?_take, if_pos hin]; exact e1, e2, e3⟩
/-- A row of one byte, and a list of it, are laid. -/
abbrev lit1 (w : World) (x : Nat) : World := (w.alloc (.cells #[.int .u8 (x : Nat)] 5)).alloc (.cells #[.slice (some ⟨w.heap.size, 0, none⟩) 1 1] 35)
theorem lit1_below (w : World) (x : Nat) : Below w.heap.size w (lit1 w x) := (below_new _ _).trans ((below_new _ _).mono (by simp))
theorem lit1_rows (w : World) {x : Nat} (hx : x < 256) {u : World} (hu : ∀ k, w.heap.size ≤ k → k < w.heap.size + 2 → u.heap[k]? = (lit1 w x).heap[k]?) : RowsIn u (some ⟨w.heap.size + 1, 0, none⟩) 1 (oneR w.heap.size fun _ => x) := by
  have b1 := (Boxed.new w 5 (.int .u8 (x : Nat))).alloc (.cells #[.slice (some ⟨w.heap.size, 0, none⟩) 1 1] 35)
  have b2 := Boxed.new (w.alloc (.cells #[.int .u8 (x : Nat)] 5)) 35 (.slice (some ⟨w.heap.size, 0, none⟩) 1 1)
  rw [World.size_alloc] at b2
  refine ones_in (fun _ => hx) (fun i hi => ?_) ((hu (w.heap.size + 1) (by omega) (by omega)).trans b2) fun i hi => ?_
  · obtain rfl : i = 0 := by omega
    exact (hu w.heap.size (Nat.le_refl _) (by omega)).trans b1
  · obtain rfl : i = 0 := by omega
    rfl
/-- Rows, and one of one byte behind them: the list that was made of them. -/
theorem torn_two {w5 w10 w12 : World} {v10 v12 : Value} {n : Nat} {NN : Nat → Nat} {news : List Value} {b : Nat} (hb10 : Below w5.heap.size w5 w10) (hnl : news.length = n * 1)
    (hnews : ∀ (i : Nat) (r : Rec), (recZ NN n)[i]? = some r → ∃ u, news[i]? = some u ∧ Byt w5 u r.1 r.2 ∧ r.1 ≤ 1000000) (h10 : w10.ownsRow w5.heap.size 35 1 v10 b news) (h12 : w12.ownsRow w5.heap.size 35 1 v12 (n + 1) (news ++ [.slice (some ⟨w10.heap.size, 0, none⟩) 1 1])) (hg : (lit1 w10 9).grownBy w12 v10.ownBlock) :
    RowsBy w12 v12 (recZ NN n ++ [(1, fun _ => 9)]) ∧ Below w5.heap.size w5 w12 := by
  have hbl : Below w5.heap.size w5 (lit1 w10 9) := hb10.trans ((lit1_below w10 9).mono hb10.size)
  have hb12 : Below w5.heap.size w5 w12 := hbl.grown hg hbl.size fun k hk => (World.ownsRow.lt h10 k hk).1
  refine ⟨?_, hb12⟩
  have hlt10 : ∀ k, v10.ownBlock = some k → k < w10.heap.size := fun k hk => (World.ownsRow.lt h10 k hk).2
  obtain ⟨A, c, e⟩ : ∃ A c, v12 = .slice A (n + 1) c := by
    rcases h12.2 with ⟨_, h0⟩ | ⟨g, c, cur, e, _⟩
    · omega
    · exact ⟨_, c, e⟩
  subst e
  refine ⟨A, c, by simp [recZ_len], fun i r hi => ?_⟩
  obtain ⟨g, rfl⟩ : ∃ g, A = some ⟨g, 0, none⟩ := by
    rcases h12.2 with ⟨_, h0⟩ | ⟨g, c, cur, e, _⟩
    · omega
    · cases e; exact ⟨g, rfl⟩
  have hrl : (recZ NN n).length = n := recZ_len NN n
  by_cases hin : i < n
  · rw [List.getElem?_append_left (by omega)] at hi
    obtain ⟨u, h1, h2, h3⟩ := hnews i r hi
    refine ⟨_, u, rfl, h12.cells rfl i u (by rw [List.getElem?_append_left (by omega)]; exact h1), h2.below hb12, by omega⟩
  · have hil := (List.getElem?_eq_some_iff.1 hi).1
    simp [hrl] at hil
    obtain rfl : i = n := by omega
    rw [List.getElem?_append_right (by omega), hrl, Nat.sub_self] at hi
    have hi : (1, fun _ => 9) = r := by simpa using hi
    subst hi
    refine ⟨_, _, rfl, h12.cells rfl i (.slice (some ⟨w10.heap.size, 0, none⟩) 1 1) (by rw [List.getElem?_append_right (by omega), show i - news.length = 0 from by omega]; rfl), ⟨_, 1, rfl, Nat.le_refl _, fun j hj => ⟨_, rfl, ?_⟩, fun _ _ => by show (9 : Nat) < 256; omega⟩, by show (1 : Nat) ≤ _; omega⟩
    have hj : j < 1 := hj
    obtain rfl : j = 0 := by omega
    have b1 := (Boxed.new w10 5 (.int .u8 ((9 : Nat) : Int))).alloc (.cells #[.slice (some ⟨w10.heap.size, 0, none⟩) 1 1] 35)
    have b2 : Boxed w12 w10.heap.size 5 (.int .u8 ((9 : Nat) : Int)) := (hg.block w10.heap.size (by simp; omega) fun e => by have := hlt10 _ e.symm; omega).trans b1
    exact b2.cell
theorem zero_row {w : World} {g : Nat} (h : w.rowIs g 5 64 fun _ => .int .u8 0) : Byt w (.slice (some ⟨g, 0, none⟩) 64 64) 64 zeroF :=
  ⟨_, 64, rfl, Nat.le_refl _, fun j hj => ⟨_, rfl, by rw [add_mk, Nat.zero_add]; exact h.cell hj⟩, fun _ _ => by show (0 : Nat) < 256; omega⟩
/-- A disk with one sector torn. -/
def TornD (S S2 : DS) (k : Nat) : Prop := S2.gone = false ∧ S2.left = 0 ∧ S2.P = [] ∧ S2.n = 60 ∧ ∀ j, rdS S2 j = if j = k then none else rdS S j
theorem torn_up7 {w u : World} {gd gq : Nat} {S : DS} {Q : QS} {G : Nat → Prop} {k : Nat} {va vi : Value} {rs : List Rec} {m : Nat} {fi : Nat → Nat} (h : HeldG w u gd gq (S.write (k : Nat) zeroF).1 Q G) (hs : S.gone = false ∧ S.left = 0 ∧ S.P = [] ∧ S.n = 60) (hk : k < 60) (hl : ListG G u w.heap.size va rs) (hi : ListI G u w.heap.size vi m fi) :
    Calls Try.prog 18 #[.pointer (some ⟨gd, 0, none⟩), .slice (some ⟨u.heap.size, 0, none⟩) 1 1] (u.alloc (.cells #[.int .u8 2] 5)) fun e w' => e = .returned (.tuple #[]) ∧ ∃ S2, TornD S S2 k ∧ HeldG w w' gd gq S2 Q G ∧ ListG G w' w.heap.size va rs ∧ ListI G w' w.heap.size vi m fi := by
  obtain ⟨h1, h2, h3, h4⟩ := hs
  obtain ⟨t1, t2, t3, t4, t5, t6, t7⟩ := torn_disk h1 h2 h3 (k := k) (by omega) zeroF
  have hbn := below_new u (.cells #[.int .u8 2] 5)
  have hr : Rd .u8 (u.alloc (.cells #[.int .u8 2] 5)) (some ⟨u.heap.size, 0, none⟩) 1 fun _ => 2 := fun j hj => ⟨_, rfl, by
    obtain rfl : j = 0 := by omega
    exact (row_one (K := .u8) (t := 5) u 2).cell (by omega)⟩
  refine ((h.below hbn).dup (by rw [t2]; omega) (some ⟨u.heap.size, 0, none⟩) 1 1 (fun _ => 2) hr (fun _ _ => by omega) (by omega) (by omega)).mono ?_
  rintro e w' ⟨rfl, hh, hkp⟩
  exact ⟨rfl, _, ⟨t3, t4, t5, t6.trans h4, t7⟩, hh, (hl.below hbn).kept hkp, (hi.below hbn).kept hkp⟩
end Go.Proofs.Yteeomidlnijfbaa

/- SegTorn: the calls of its end. -/
namespace Go.Proofs.Yteeomidlnijfbaa
open Go.RowKit Go.Shelf
set_option linter.unusedSimpArgs false
set_option linter.unusedVariables false

theorem lit1_cell (w : World) (x : Nat) : ∀ (j : Nat) (u : Value), [Value.slice (some ⟨w.heap.size, 0, none⟩) 1 1][j]? = some u → (lit1 w x).cell? ((⟨w.heap.size + 1, 0, none⟩ : Addr).add j) = some u := fun j u hu => by
  have b2 := Boxed.new (w.alloc (.cells #[.int .u8 (x : Nat)] 5)) 35 (.slice (some ⟨w.heap.size, 0, none⟩) 1 1)
  rw [World.size_alloc] at b2
  cases j with
  | zero =>
    simp at hu
    subst hu
    exact b2.cell
  | succ j => simp at hu
theorem lit1_one {g : Nat} : ∀ u ∈ [Value.slice (some ⟨g, 0, none⟩) 1 1], u.oneCell' = true := fun u hu => by
  simp at hu
  subst hu
  rfl
theorem lit1_base {w5 w10 : World} {x : Nat} (h : Below w5.heap.size w5 w10) : w5.heap.size ≤ (lit1 w10 x).heap.size := Nat.le_trans h.size (lit1_below w10 x).size
/-- append in a region's guarded operation that is wanted. -/
theorem wpList_want {P : Program} {w : World} {ops : Array Oper} {rest : List Oper} {o : Oper} {a : Act} {Q : Exit → Act → World → Prop} (hw : Region.wanted o (yielded ops a.tmps) = true) (h : o.wp P a w (wpList P ops Q rest) Q) : wpList P ops Q (o :: rest) a w := by
  unfold wpList
  rw [if_pos hw]
  exact .inl h
theorem wpListW_append_at {P : Program} {w : World} {ops : Array Oper} {rest : List Oper} {o : Oper} {a : Act} {Q : Exit → Act → World → Prop} (hw : Region.wanted o (yielded ops a.tmps) = true) (s x : Operand) (t : TypeId)
    (ho : o.op = .call { callee := .builtin .append, args := #[s, x], argTypes := #[t, t] })
    (base : Nat) (e : TypeId) (z : Value) (size bytes : Nat) (ht : P.underlying t = some (.slice e)) (hinfo : (P.info? e).map (fun i => (i.zero, i.size, i.bytes)) = some (some z, size, bytes)) (hzs : z.cells.size = size) (hsz : 0 < size)
    (v : Value) (n : Nat) (xs : List Value) (hs : a.eval s = v) (hown : w.ownsRow base e size v n xs)
    (ad : Addr) (m c : Nat) (news : List Value) (hx : a.eval x = .slice (some ad) m c) (hl : news.length = m * size) (hnews : ∀ j u, news[j]? = some u → w.cell? (ad.add j) = some u) (h1 : ∀ u ∈ news, u.oneCell' = true)
    (h63 : n + m ≤ maxLen) (hbytes : (n + m) * bytes ≤ 140737488355328) (hbase : base ≤ w.heap.size)
    (h : ∀ v' w', w'.ownsRow base e size v' (n + m) (xs ++ news) → w.grownBy w' v.ownBlock → (v'.ownBlock = v.ownBlock ∨ v'.ownBlock = some w.heap.size) → wpList P ops Q rest (a.put o.dst v') w') :
    wpList P ops Q (o :: rest) a w := by
  obtain ⟨i, hi, hzz⟩ := Option.map_eq_some_iff.1 hinfo
  simp only [Prod.mk.injEq] at hzz
  obtain ⟨hz0, hz1, hz2⟩ := hzz
  obtain ⟨v', w', hrun, h2, h3, _, h5⟩ := run_append_own_at (P := P) w base t o.type e i z size bytes ht hi hz0 hz1 hz2 hzs hsz v n xs hown ad m c news hl hnews h1 h63 hbytes hbase
  refine wpList_want hw ?_
  unfold Oper.wp
  simp [execOp, ho, resolve, invoke, builtin, hs, hx, hrun, Result.andThen]
  exact h v' w' h2 h3 h5
theorem wpListW_append_none {P : Program} {w : World} {ops : Array Oper} {rest : List Oper} {o : Oper} {a : Act} {Q : Exit → Act → World → Prop} (hw : Region.wanted o (yielded ops a.tmps) = true) (s x : Operand) (t : TypeId)
    (ho : o.op = .call { callee := .builtin .append, args := #[s, x], argTypes := #[t, t] })
    (base : Nat) (e : TypeId) (z : Value) (size bytes : Nat) (ht : P.underlying t = some (.slice e)) (hinfo : (P.info? e).map (fun i => (i.zero, i.size, i.bytes)) = some (some z, size, bytes))
    (v : Value) (n : Nat) (xs : List Value) (hs : a.eval s = v) (hown : w.ownsRow base e size v n xs) (hx : a.eval x = .slice none 0 0)
    (h : wpList P ops Q rest (a.put o.dst v) w) : wpList P ops Q (o :: rest) a w := by
  obtain ⟨i, hi, _⟩ := Option.map_eq_some_iff.1 hinfo
  have hrun := run_append_owned_none (P := P) (w := w) base t o.type e i size ht hi v n xs hown
  refine wpList_want hw ?_
  unfold Oper.wp
  simp [execOp, ho, resolve, invoke, builtin, hs, hx, hrun, Result.andThen]
  exact h
/-- What is so behind the first scan. -/
structure Sc1 (w w7 u : World) (gd gq : Nat) (S : DS) (NN : Nat → Nat) (m n : Nat) (A : Option Addr) (c : Nat) (v : Value) (rs : List Rec) (Q : QS) (G : Nat → Prop) : Prop where
  recs : RecsAt u w7.heap.size v rs
  same : SameL (recZ NN n) rs
  few : ∀ r ∈ rs, r.1 ≤ 1000
  calm : Calm S Q (recZ NN n)
  held : HeldG w u gd gq S Q G
  list : ListG G u w.heap.size (.slice A m c) (recZ NN m)
  ours : ∀ k, w7.heap.size ≤ k → k < u.heap.size → G k
  beh : Q.behind = 60
  ende : Q.ende ≤ 40
  top : Q.top < 1000
  bel : w7.heap.size ≤ u.heap.size
/-- What is so behind the record that is added. -/
structure Sc2 (w w7 u : World) (gd gq : Nat) (S : DS) (NN : Nat → Nat) (m n : Nat) (A : Option Addr) (c : Nat) (v : Value) (rs : List Rec) (Q : QS) (G : Nat → Prop) : Prop where
  recs : RecsAt u w7.heap.size v rs
  same : SameL (recZ NN n) rs
  few : ∀ r ∈ rs, r.1 ≤ 1000
  calm : Calm S Q (recZ NN n ++ [(1, fun _ => 9)])
  held : HeldG w u gd gq S Q G
  list : ListG G u w.heap.size (.slice A m c) (recZ NN m)
section
variable {w w7 u : World} {gd gq : Nat} {S : DS} {NN : Nat → Nat} {m n : Nat} {A : Option Addr} {c : Nat} {v : Value} {rs : List Rec} {Q : QS} {G : Nat → Prop}
theorem Sc1.add9 (h : Sc1 w w7 u gd gq S NN m n A c v rs Q G) : Calls Try.prog 16 #[.pointer (some ⟨gq, 0, none⟩), .slice (some ⟨u.heap.size + 1, 0, none⟩) 1 1] (lit1 u 9) fun e w' => e = .returned (.int .i64 0) ∧ ∃ S3 Q3 G3, Sc2 w w7 w' gd gq S3 NN m n A c v rs Q3 G3 := by
  have hb := lit1_below u 9
  have hs : (lit1 u 9).heap.size = u.heap.size + 2 := by simp
  have hh : HeldG w (lit1 u 9) gd gq S Q (fun k => G k ∨ (u.heap.size ≤ k ∧ k < u.heap.size + 2)) := h.held.ours (.of_below hb) fun k hk => by rw [hs]; exact hk
  have htk : takesC Q 1 (oneR u.heap.size fun _ => 9) = 0 := by
    rw [takes_ones, if_neg]
    have := h.beh
    have := h.ende
    have := h.top
    omega
  refine (hh.addT (c := 1) (R := oneR u.heap.size fun _ => 9) (fun x hk => lit1_rows u (by omega) fun k h1 h2 => hk.1 k (.inr ⟨h1, h2⟩)) (by omega) (by rw [h.calm.P]; exact Nat.zero_le _)).mono ?_
  rintro e w' ⟨S', Q', k, rfl, ha, h1, h2, h3⟩
  rcases h.calm.add (fun i _ j _ => by show (9 : Nat) < 256; omega) ha with ⟨e, h0, _⟩ | ⟨rfl, _, _, hq, hcc⟩
  · rw [htk] at e
    exact absurd e h0
  · have hl := (h.list.below hb).mono (G' := fun k => G k ∨ (u.heap.size ≤ k ∧ k < u.heap.size + 2)) fun k hk => .inl hk
    refine ⟨rfl, S', Q', _, ⟨(h.recs.below hb).later (fun k hk1 hk2 => h2.1 k ?_) h3, h.same, h.few, hcc, h1, hl.kept h2⟩⟩
    by_cases hlt : k < u.heap.size
    · exact .inl (h.ours k hk1 hlt)
    · exact .inr ⟨by omega, by rw [hs] at hk2; exact hk2⟩
theorem Sc2.scan (h : Sc2 w w7 u gd gq S NN m n A c v rs Q G) : Calls Try.prog 14 #[.pointer (some ⟨gq, 0, none⟩)] u fun e w' => ∃ v3 rs3, e = .returned (.tuple #[v3, .int .i64 0]) ∧ RowsBy w' v3 rs3 ∧ SameL rs3 (recZ NN n ++ [(1, fun _ => 9)]) ∧ RowsBy w' v rs ∧ ListG G w' w.heap.size (.slice A m c) (recZ NN m) ∧ Below w.heap.size w w' := by
  refine (h.held.scanN h.calm.gone).mono ?_
  rintro e w' ⟨rs3, en, v3, l, rfl, hs, hr, hh, hk, ho, hq⟩
  obtain ⟨h1, rfl, _⟩ := h.calm.scan hs
  exact ⟨v3, rs3, rfl, hr.by_ hs.few, h1.symm, (h.recs.scanned hq ho).by_ h.few, h.list.kept hk, hh.bel⟩
end
theorem torn_scan1 {w w7 : World} {gd gq : Nat} {S0 S4 S7 : DS} {NN : Nat → Nat} {m n k en tp : Nat} {A : Option Addr} {c : Nat} {G : Nat → Prop} {R : Nat → RowD} (h : HeldG w w7 gd gq S7 ⟨0, 60, 1, en, tp⟩ G) (hl : ListG G w7 w.heap.size (.slice A m c) (recZ NN m)) (hc : Calm S0 ⟨0, 60, 1, 0, 0⟩ []) (ha : AddS S0 ⟨0, 60, 1, 0, 0⟩ m R S4 ⟨0, 60, 1, en, tp⟩ 0) (ht : TornD S4 S7 k)
    (hm20 : m ≤ 20) (hsm : sumF NN m ≤ 40) (hSN : ∀ n, n ≤ m → sumN R n = sumF NN n) (hRC : ∀ n, n ≤ m → recsOf R n = recZ NN n) (hz : ∀ i, i < m → needF (R i).n ≠ 0) (hf : ∀ i, i < m → ∀ j, j < (R i).n → (R i).f j < 256) (hk : k < 60) (hn : n ≤ m) (h1 : sumF NN n ≤ k) (h2 : n < m → k < sumF NN (n + 1)) :
    Calls Try.prog 14 #[.pointer (some ⟨gq, 0, none⟩)] w7 fun e w' => ∃ v rs Q2 G2, e = .returned (.tuple #[v, .int .i64 0]) ∧ Sc1 w w7 w' gd gq S7 NN m n A c v rs Q2 G2 := by
  obtain ⟨t1, t2, t3, t4, t5⟩ := ht
  refine (h.scanN t1).mono ?_
  rintro e w' ⟨rs, en2, v, l, rfl, hs, hr, hh, hkp, ho, hq⟩
  obtain ⟨c1, c2, c3, c4⟩ := torn_scn (k := k) rfl hc ha hm20 (by rw [hSN m (Nat.le_refl _)]; omega) hz hf t5 t1 t2 t3 (by omega) hk hn (by rw [hSN n hn]; exact h1) (fun hlt => by rw [hSN (n + 1) hlt]; exact h2 hlt) hs
  rw [hRC n hn] at c1 c4
  have hsn : sumF NN n ≤ 40 := Nat.le_trans (sumF_mono NN hn) hsm
  refine ⟨v, rs, _, _, rfl, ⟨hr, c1, hs.few, c4, hh, (hl.kept hkp).mono fun k hk => .inl hk, fun k h1 h2 => .inr ⟨h1, h2⟩, rfl, ?_, ?_, hkp.2⟩⟩
  · show en2 ≤ 40
    rw [c2, hSN n hn]
    exact hsn
  · show topOf (rdS S7) 0 60 < 1000
    omega
end Go.Proofs.Yteeomidlnijfbaa
