/- SegKeeps: appends of a list that may be nil; the first rows of a list. -/
import Derived.Test.YteeomidlnijfbaaPQd
namespace Go.Proofs.Yteeomidlnijfbaa
open Go.RowKit Go.Shelf
set_option linter.unusedSimpArgs false
set_option linter.unusedVariables false

theorem own_new {w : World} {base : Nat} {e : TypeId} (hb : base ≤ w.heap.size) : (w.alloc (.cells #[] e)).ownsRow base e 1 (.slice (some ⟨w.heap.size, 0, none⟩) 0 0) 0 [] :=
  World.ownsRow_made w #[] 0 hb (by simp only [maxLen]; omega) rfl
theorem grown_refl (w : World) (r : Option Nat) : w.grownBy w r := ⟨rfl, rfl, rfl, Nat.le_refl _, fun _ _ _ => rfl⟩
section
variable {P : Program} {w : World} {ops : Array Oper} {o : Oper} {a : Act} {Q : Exit → Act → World → Prop}
theorem step_append_any {KK : Act → World → Prop} {E : Prop} (hgd : o.guard = none) (s x : Operand) (t : TypeId)
    (ho : o.op = .call { callee := .builtin .append, args := #[s, x], argTypes := #[t, t] })
    (base : Nat) (e : TypeId) (z : Value) (size bytes : Nat) (ht : P.underlying t = some (.slice e)) (hinfo : (P.info? e).map (fun i => (i.zero, i.size, i.bytes)) = some (some z, size, bytes)) (hzs : z.cells.size = size) (hsz : 0 < size)
    (v : Value) (n : Nat) (xs : List Value) (hs : a.eval s = v) (hown : w.ownsRow base e size v n xs)
    (A : Option Addr) (m c : Nat) (news : List Value) (hx : a.eval x = .slice A m c) (hA : A = none → m = 0 ∧ c = 0) (hl : news.length = m * size) (hnews : ∀ j u, news[j]? = some u → ∃ ad, A = some ad ∧ w.cell? (ad.add j) = some u) (h1 : ∀ u ∈ news, u.oneCell' = true)
    (h63 : n + m ≤ maxLen) (hbytes : (n + m) * bytes ≤ 140737488355328) (hbase : base ≤ w.heap.size)
    (h : ∀ v' w', w'.ownsRow base e size v' (n + m) (xs ++ news) → w.grownBy w' v.ownBlock → (v'.ownBlock = v.ownBlock ∨ v'.ownBlock = some w.heap.size) → KK (a.put o.dst v') w') :
    if Region.wanted o (yielded ops a.tmps) = true then Oper.wp P o a w KK Q else E := by
  cases A with
  | some ad => exact step_append_at hgd s x t ho base e z size bytes ht hinfo hzs hsz v n xs hs hown ad m c news hx hl (fun j u hu => by obtain ⟨_, e, hc⟩ := hnews j u hu; cases e; exact hc) h1 h63 hbytes hbase h
  | none =>
    obtain ⟨rfl, rfl⟩ := hA rfl
    obtain rfl : news = [] := List.eq_nil_of_length_eq_zero (by omega)
    have hw : Region.wanted o (yielded ops a.tmps) = true := by simp [Region.wanted, hgd]
    rw [if_pos hw]
    obtain ⟨i, hi, _⟩ := Option.map_eq_some_iff.1 hinfo
    have hrun := run_append_owned_none (P := P) (w := w) base t o.type e i size ht hi v n xs hown
    unfold Oper.wp
    simp [execOp, ho, resolve, invoke, builtin, hs, hx, hrun, Result.andThen]
    exact h v w (by rw [Nat.add_zero, List.append_nil]; exact hown) (grown_refl _ _) (.inl rfl)
theorem wpList_append_any {rest : List Oper} (hgd : o.guard = none) (s x : Operand) (t : TypeId)
    (ho : o.op = .call { callee := .builtin .append, args := #[s, x], argTypes := #[t, t] })
    (base : Nat) (e : TypeId) (z : Value) (size bytes : Nat) (ht : P.underlying t = some (.slice e)) (hinfo : (P.info? e).map (fun i => (i.zero, i.size, i.bytes)) = some (some z, size, bytes)) (hzs : z.cells.size = size) (hsz : 0 < size)
    (v : Value) (n : Nat) (xs : List Value) (hs : a.eval s = v) (hown : w.ownsRow base e size v n xs)
    (A : Option Addr) (m c : Nat) (news : List Value) (hx : a.eval x = .slice A m c) (hA : A = none → m = 0 ∧ c = 0) (hl : news.length = m * size) (hnews : ∀ j u, news[j]? = some u → ∃ ad, A = some ad ∧ w.cell? (ad.add j) = some u) (h1 : ∀ u ∈ news, u.oneCell' = true)
    (h63 : n + m ≤ maxLen) (hbytes : (n + m) * bytes ≤ 140737488355328) (hbase : base ≤ w.heap.size)
    (h : ∀ v' w', w'.ownsRow base e size v' (n + m) (xs ++ news) → w.grownBy w' v.ownBlock → (v'.ownBlock = v.ownBlock ∨ v'.ownBlock = some w.heap.size) → wpList P ops Q rest (a.put o.dst v') w') :
    wpList P ops Q (o :: rest) a w := by
  have := step_append_any (E := False) (ops := ops) (Q := Q) (KK := wpList P ops Q rest) hgd s x t ho base e z size bytes ht hinfo hzs hsz v n xs hs hown A m c news hx hA hl hnews h1 h63 hbytes hbase h
  have hw : Region.wanted o (yielded ops a.tmps) = true := by simp [Region.wanted, hgd]
  rw [if_pos hw] at this
  exact wpList_want hw this
end
theorem front35 (A : Option Addr) (n c l : Nat) (hc : n ≤ c) (hl : l ≤ n) (wq : World) (L : Int) (hL : L = l) : (Instr.slice 32 (.slice A n c) none (some (.int .i64 L)) none).run Try.prog wq = .ok (.slice A l c) wq := by
  subst hL
  rw [run_slice_h wq 32 A n c el35 .i64 l (by omega) (by omega), sz35]
  simp only [Result.andThen, sliced, Int.toNat_natCast, Nat.zero_mul, Option.map_some, Nat.sub_zero]
  split
  · rfl
  · cases A <;> rfl
end Go.Proofs.Yteeomidlnijfbaa

/- SegKeeps: what a round carries, and what its calls make of it. -/
namespace Go.Proofs.Yteeomidlnijfbaa
open Go.RowKit Go.Shelf
set_option linter.unusedSimpArgs false
set_option linter.unusedVariables false

theorem wrL_len : ∀ (xs : List CellD) (e : Nat), (wrL e xs).length = xs.length
  | [], _ => rfl
  | x :: l, e => by
    show (wrL (e + 1) l).length + 1 = l.length + 1
    rw [wrL_len l]
theorem KB.few {S : DS} {Q : QS} {rs : List Rec} {m : Nat} {R : Nat → RowD} (h : KB S Q rs m R) : S.P.length ≤ 900000 := by
  obtain ⟨S0, Q0, xs, w1, w2, w3, w4, w5, w6⟩ := h.was
  obtain ⟨f1, f2, f3⟩ := w1.frame
  obtain ⟨t1, t2, t3⟩ := takes_yes w2
  rw [w4, wrL_len]
  omega
theorem need_le {n : Nat} (h : needF n ≠ 0) : n ≤ 392 := by
  unfold needF at h
  split at h
  · exact absurd rfl h
  · omega
theorem own_mono {w : World} {base base' n : Nat} {e : TypeId} {size : Nat} {v : Value} {xs : List Value} (h : w.ownsRow base e size v n xs) (hb : base' ≤ base) : w.ownsRow base' e size v n xs := by
  refine ⟨h.1, ?_⟩
  rcases h.2 with hn | ⟨g, c, cur, rfl, hg, r⟩
  · exact .inl hn
  · exact .inr ⟨g, c, cur, rfl, by omega, r⟩
theorem rows_byt {w : World} {A : Option Addr} {m : Nat} {R : Nat → RowD} (h : RowsIn w A m R) : ∀ i, i < m → ∀ j, j < (R i).n → (R i).f j < 256 := fun i hi j hj => by
  obtain ⟨_, _, _, ⟨A', c', e, _, _, hf⟩, _⟩ := h i hi
  exact hf j hj
theorem AllG.vals {w0 w : World} {G : Nat → Prop} {v : Value} {rs : List Rec} (h : AllG w0 G w v rs) :
    ∃ A c vs, v = .slice A rs.length c ∧ (A = none → rs.length = 0 ∧ c = 0) ∧ vs.length = rs.length * 1 ∧ (∀ (j : Nat) (u : Value), vs[j]? = some u → ∃ ad, A = some ad ∧ w.cell? (ad.add j) = some u) ∧ (∀ u ∈ vs, u.oneCell' = true) ∧ (∀ (i : Nat) (r : Rec), rs[i]? = some r → ∃ u, vs[i]? = some u ∧ Byt w0 u r.1 r.2) ∧ w.ownsRow w0.heap.size 35 1 v rs.length vs ∧ ∀ k, v.ownBlock = some k → G k := by
  obtain ⟨vs, h1, h2, h3⟩ := h
  have hone : ∀ u ∈ vs, u.oneCell' = true := fun u hu => by
    obtain ⟨i, hi, e⟩ := List.mem_iff_getElem.1 hu
    have hlen : vs.length = rs.length := by have := h1.1; simpa using this
    obtain ⟨u', e', ⟨A, c, e2, _⟩⟩ := h3 i rs[i] (List.getElem?_eq_getElem (by omega))
    rw [List.getElem?_eq_getElem hi, e] at e'
    injection e' with e'
    rw [e', e2]
    rfl
  rcases h1.2 with ⟨e, h0⟩ | ⟨g, c, cur, e, _⟩
  · refine ⟨none, 0, vs, by rw [e, h0], fun _ => ⟨h0, rfl⟩, h1.1, fun j u hu => ?_, hone, h3, h1, h2⟩
    have := (List.getElem?_eq_some_iff.1 hu).1
    have hlen : vs.length = rs.length := by have := h1.1; simpa using this
    omega
  · refine ⟨_, c, vs, e, (fun e' => nomatch e'), h1.1, fun j u hu => ⟨_, rfl, ?_⟩, hone, h3, h1, h2⟩
    have h1' := h1
    rw [e] at h1'
    exact h1'.cells rfl j u hu
/-- Rows that came in are added. -/
theorem held_add {w0 w : World} {gd gq : Nat} {S : DS} {Q : QS} {G : Nat → Prop} (h : HeldG w0 w gd gq S Q G) {A : Option Addr} {n c : Nat} {R : Nat → RowD} (hR : RowsIn w0 A n R) (hn : n ≤ 100000) (hP : S.P.length ≤ 900000) :
    Calls Try.prog 16 #[.pointer (some ⟨gq, 0, none⟩), .slice A n c] w fun e w' => ∃ S' Q' k, e = .returned (.int .i64 k) ∧ AddS S Q n R S' Q' k ∧ HeldG w0 w' gd gq S' Q' G ∧ Kept G w w' := by
  obtain ⟨F, h1, h2, h3, h4, h5, h6⟩ := h
  refine (add_any h1 h2 h4.2.1 (fun V hV => hR.below ⟨hV.os.trans h3.os, hV.tape.trans h3.tape, hV.output.trans h3.output, Nat.le_trans h3.size hV.size, fun k hk => (hV.block k (Nat.lt_of_lt_of_le hk h3.size) fun e => by have := (h5 k e).1; omega).trans (h3.block k hk)⟩) hn hP).mono ?_
  rintro e w' ⟨S', Q', k, rfl, ha, hq, ⟨F', g1, g2⟩, ho⟩
  exact ⟨S', Q', k, rfl, ha, HeldG.turn h1 h2 h3 h4 h5 h6 g1 g2 hq ho⟩
structure InvK (w u : World) (gd gq i : Nat) (v7 : Value) (S : DS) (Q : QS) (G : Nat → Prop) (rs : List Rec) (A : Option Addr) (m c : Nat) (R : Nat → RowD) : Prop where
  held : HeldG w u gd gq S Q G
  all : AllG w G u v7 rs
  len : rs.length ≤ 40 * i
  nz : ∀ r ∈ rs, needF r.1 ≠ 0
  ku : (KA S Q rs ∧ m = 0) ∨ KB S Q rs m R
  rows : RowsIn w A m R
  mc : m ≤ c
  m40 : m < 40
  nil : A = none → m = 0 ∧ c = 0
/-- The records were added; they are not in the list yet. -/
structure AddK (w u : World) (gd gq i : Nat) (v7 : Value) (S : DS) (Q : QS) (G : Nat → Prop) (rs : List Rec) (m2 : Nat) (R2 : Nat → RowD) : Prop where
  held : HeldG w u gd gq S Q G
  all : AllG w G u v7 rs
  len : rs.length ≤ 40 * i
  nz : ∀ r ∈ rs, needF r.1 ≠ 0
  ka : KA S Q (rs ++ recsOf R2 m2)
  nz2 : ∀ i, i < m2 → needF (R2 i).n ≠ 0
  m40 : m2 < 40
/-- The power came. -/
structure UpK (w u : World) (gd gq i : Nat) (v7 : Value) (S : DS) (Q : QS) (G : Nat → Prop) (rs : List Rec) (A : Option Addr) (m c : Nat) (R : Nat → RowD) (n : Nat) : Prop where
  held : HeldG w u gd gq S Q G
  gone : S.gone = false
  all : AllG w G u v7 rs
  len : rs.length ≤ 40 * i
  nz : ∀ r ∈ rs, needF r.1 ≠ 0
  rows : RowsIn w A m R
  nz2 : ∀ i, i < n → needF (R i).n ≠ 0
  frame : Q.first = 1 ∧ Q.behind = 41 ∧ Q.gen = 1
  says : ∀ rs2 en l, Scn (rdS S) 41 1 1 0 rs2 en l → SameL (rs ++ recsOf R n) rs2 ∧ KA S { Q with ende := en, top := topOf (rdS S) 1 40 } (rs ++ recsOf R n)
/-- It was scanned. -/
structure ScK (w u : World) (gd gq i : Nat) (v7 : Value) (S : DS) (Q : QS) (G : Nat → Prop) (rs : List Rec) (A : Option Addr) (m c : Nat) (R : Nat → RowD) (n : Nat) (v12 : Value) (rs2 : List Rec) : Prop where
  held : HeldG w u gd gq S Q G
  all : AllG w G u v7 rs
  len : rs.length ≤ 40 * i
  nz : ∀ r ∈ rs ++ recsOf R n, needF r.1 ≠ 0
  rows : RowsIn w A m R
  ka : KA S Q (rs ++ recsOf R n)
  list : RowsBy u v12 rs2
  same : SameL (rs ++ recsOf R n) rs2
section
variable {w u u' : World} {gd gq i : Nat} {v7 : Value} {S : DS} {Q : QS} {G : Nat → Prop} {rs : List Rec} {A : Option Addr} {m c : Nat} {R : Nat → RowD} {A2 : Option Addr} {m2 c2 : Nat} {R2 : Nat → RowD} {n : Nat} {v12 : Value} {rs2 : List Rec}
theorem InvK.few (h : InvK w u gd gq i v7 S Q G rs A m c R) : S.P.length ≤ 900000 := by
  rcases h.ku with ⟨hk, _⟩ | hk
  · rw [hk.P]; exact Nat.zero_le _
  · exact hk.few
theorem InvK.below (h : InvK w u gd gq i v7 S Q G rs A m c R) (hb : Below u.heap.size u u') : InvK w u' gd gq i v7 S Q G rs A m c R :=
  ⟨h.held.below hb, h.all.below hb, h.len, h.nz, h.ku, h.rows, h.mc, h.m40, h.nil⟩
theorem InvK.next (h : InvK w u gd gq i v7 S Q G rs A m c R) : InvK w u gd gq (i + 1) v7 S Q G rs A m c R :=
  ⟨h.held, h.all, by have := h.len; omega, h.nz, h.ku, h.rows, h.mc, h.m40, h.nil⟩
theorem InvK.more {G' : Nat → Prop} (h : InvK w u gd gq i v7 S Q G rs A m c R) (hb : Below u.heap.size u u') (hG : ∀ k, G' k ↔ G k ∨ (u.heap.size ≤ k ∧ k < u'.heap.size)) : InvK w u' gd gq i v7 S Q G' rs A m c R :=
  ⟨h.held.ours (.of_below hb) fun k hk => (hG k).1 hk, (h.all.below hb).mono fun k hk => (hG k).2 (.inl hk), h.len, h.nz, h.ku, h.rows, h.mc, h.m40, h.nil⟩
theorem InvK.add (h : InvK w u gd gq i v7 S Q G rs A m c R) (hR : RowsIn w A2 m2 R2) (hm2 : m2 < 40) (hc2 : m2 ≤ c2) (hn2 : A2 = none → m2 = 0 ∧ c2 = 0) :
    Calls Try.prog 16 #[.pointer (some ⟨gq, 0, none⟩), .slice A2 m2 c2] u fun e w' => ∃ k S' Q', e = .returned (.int .i64 k) ∧ Kept G u w' ∧
      ((k ≠ 0 ∧ k ≠ 4 ∧ InvK w w' gd gq i v7 S' Q' G rs A m c R) ∨ (k = 4 ∧ m ≠ 0 ∧ InvK w w' gd gq i v7 S' Q' G rs A m c R) ∨ (k = 0 ∧ m = 0 ∧ AddK w w' gd gq i v7 S' Q' G rs m2 R2) ∨ (k = 4 ∧ m = 0 ∧ InvK w w' gd gq i v7 S' Q' G rs A2 m2 c2 R2)) := by
  refine (held_add h.held (c := c2) hR (by omega) h.few).mono ?_
  rintro e w' ⟨S', Q', k, rfl, ha, h1, h2⟩
  refine ⟨k, S', Q', rfl, h2, ?_⟩
  have hall := h.all.kept h2
  rcases h.ku with ⟨hk, hm⟩ | hk
  · rcases hk.add (rows_byt hR) ha with ⟨a1, a2, rfl, rfl⟩ | ⟨rfl, a2, a3⟩ | ⟨rfl, a2⟩
    · exact .inl ⟨a1, a2, h1, hall, h.len, h.nz, .inl ⟨hk, hm⟩, h.rows, h.mc, h.m40, h.nil⟩
    · exact .inr (.inr (.inl ⟨rfl, hm, h1, hall, h.len, h.nz, a2, a3, hm2⟩))
    · exact .inr (.inr (.inr ⟨rfl, hm, h1, hall, h.len, h.nz, .inr a2, hR, hc2, hm2, hn2⟩))
  · obtain ⟨rfl, rfl, a3, _⟩ := hk.add ha
    by_cases e4 : k = 4
    · exact .inr (.inl ⟨e4, hk.pos, h1, hall, h.len, h.nz, .inr hk, h.rows, h.mc, h.m40, h.nil⟩)
    · exact .inl ⟨a3, e4, h1, hall, h.len, h.nz, .inr hk, h.rows, h.mc, h.m40, h.nil⟩
theorem InvK.plan (h : InvK w u gd gq i v7 S Q G rs A m c R) (k : Int) (hk : k ≤ 9223372036854775807) :
    Calls Try.prog 17 #[.pointer (some ⟨gd, 0, none⟩), .int .i64 k] u fun e w' => e = .returned (.tuple #[]) ∧ Kept G u w' ∧ InvK w w' gd gq i v7 (S.plan k) Q G rs A m c R :=
  (h.held.dplan k hk).mono fun e w' ⟨e1, h1, h2⟩ => ⟨e1, h2, h1, h.all.kept h2, h.len, h.nz, h.ku.imp (fun x => ⟨x.1.plan k, x.2⟩) fun x => x.plan k, h.rows, h.mc, h.m40, h.nil⟩
theorem InvK.up (h : InvK w u gd gq i v7 S Q G rs A m c R) (C : Option Addr) (q qc : Nat) (cf : Nat → Nat) (hr : Rd .u8 u C q cf) (hf : ∀ j, j < q → cf j < 256) (hq : q ≤ qc) (hq3 : q ≤ 300) :
    Calls Try.prog 18 #[.pointer (some ⟨gd, 0, none⟩), .slice C q qc] u fun e w' => e = .returned (.tuple #[]) ∧ Kept G u w' ∧ ∃ S' n, n ≤ m ∧ UpK w w' gd gq i v7 S' Q G rs A m c R n := by
  refine (h.held.dup (by have := h.few; omega) C q qc cf hr hf hq (by omega)).mono ?_
  rintro e w' ⟨rfl, h1, h2⟩
  refine ⟨rfl, h2, S.up ((List.range q).map cf), ?_⟩
  have hall := h.all.kept h2
  rcases h.ku with ⟨hk, hm⟩ | hk
  · refine ⟨0, Nat.zero_le _, h1, rfl, hall, h.len, h.nz, h.rows, fun j hj => absurd hj (by omega), hk.frame, fun rs2 en l hs => ?_⟩
    have := (hk.up ((List.range q).map cf)).scan hs
    rw [show recsOf R 0 = [] from rfl, List.append_nil]
    exact this
  · obtain ⟨n, hn, hh⟩ := hk.up ((List.range q).map cf)
    exact ⟨n, hn, h1, rfl, hall, h.len, h.nz, h.rows, fun j hj => hk.nz j (by omega), by rw [hk.frame]; exact ⟨rfl, rfl, rfl⟩, hh⟩
theorem nz_app (h : ∀ r ∈ rs, needF r.1 ≠ 0) (h2 : ∀ i, i < n → needF (R i).n ≠ 0) : ∀ r ∈ rs ++ recsOf R n, needF r.1 ≠ 0 := fun r hr => by
  rcases List.mem_append.1 hr with hr | hr
  · exact h r hr
  · obtain ⟨j, hj, rfl⟩ := List.mem_map.1 hr
    exact h2 j (List.mem_range.1 hj)
theorem nz_few (h : ∀ r ∈ rs, needF r.1 ≠ 0) : ∀ r ∈ rs, r.1 ≤ 1000 := fun r hr => by
  have := need_le (h r hr)
  omega
theorem same_few (h : SameL rs rs2) (hf : ∀ r ∈ rs, r.1 ≤ 1000) : ∀ r ∈ rs2, r.1 ≤ 1000 := fun r hr => by
  obtain ⟨j, hj, e⟩ := List.mem_iff_getElem.1 hr
  obtain ⟨r', h1, h2⟩ := h.symm.at_ (List.getElem?_eq_getElem hj)
  rw [e] at h2
  rw [h2.1]
  exact hf r' (List.mem_of_getElem? h1)
theorem UpK.scan (h : UpK w u gd gq i v7 S Q G rs A m c R n) :
    Calls Try.prog 14 #[.pointer (some ⟨gq, 0, none⟩)] u fun e w' => ∃ v rs2 Q', e = .returned (.tuple #[v, .int .i64 0]) ∧ Kept G u w' ∧ ScK w w' gd gq i v7 S Q' G rs A m c R n v rs2 := by
  obtain ⟨f1, f2, f3⟩ := h.frame
  refine (h.held.scan h.gone).mono ?_
  rintro e w' ⟨rs2, en, v, l, rfl, hs, hr, h1, h2⟩
  have et : topOf (rdS S) Q.first (Q.behind - Q.first) = topOf (rdS S) 1 40 := by rw [f1, f2]
  rw [et] at h1
  rw [f1, f2, f3] at hs
  obtain ⟨a1, a2⟩ := h.says rs2 en l hs
  have hnz := nz_app h.nz h.nz2
  exact ⟨v, rs2, _, rfl, h2, h1, h.all.kept h2, h.len, hnz, h.rows, a2, hr.by_ (same_few a1 (nz_few hnz)), a1⟩
end
end Go.Proofs.Yteeomidlnijfbaa

/- SegKeeps: an act's box; appends; the beginning. -/
namespace Go.Proofs.Yteeomidlnijfbaa
open Go.RowKit Go.Shelf
set_option linter.unusedSimpArgs false
set_option linter.unusedVariables false

def Box7 (u : World) (b : Nat) (K : Int) (A : Option Addr) (m c : Nat) (g : Nat) (I : Int) (C : Option Addr) (q qc : Nat) : Prop := u.heap[b]? = some (.cells #[.int .i64 K, .slice A m c, .int .u32 (g : Nat), .int .i64 I, .slice C q qc] 37 (0, 0))
theorem Box7.cells {u : World} {b : Nat} {K : Int} {A : Option Addr} {m c : Nat} {g : Nat} {I : Int} {C : Option Addr} {q qc : Nat} (h : Box7 u b K A m c g I C q qc) : u.cell? ⟨b, 0, none⟩ = some (.int .i64 K) ∧ u.cell? ⟨b, 1, none⟩ = some (.slice A m c) ∧ u.cell? ⟨b, 2, none⟩ = some (.int .u32 (g : Nat)) ∧ u.cell? ⟨b, 3, none⟩ = some (.int .i64 I) ∧ u.cell? ⟨b, 4, none⟩ = some (.slice C q qc) := by
  rw [cell_of_row _ _ 0 _ _ _ h, cell_of_row _ _ 1 _ _ _ h, cell_of_row _ _ 2 _ _ _ h, cell_of_row _ _ 3 _ _ _ h, cell_of_row _ _ 4 _ _ _ h]
  exact ⟨rfl, rfl, rfl, rfl, rfl⟩
theorem AllG.vals2 {w0 w : World} {G : Nat → Prop} {A : Option Addr} {K c : Nat} {rs : List Rec} (h : AllG w0 G w (.slice A K c) rs) :
    K = rs.length ∧ (A = none → K = 0 ∧ c = 0) ∧ ∃ vs, vs.length = K * 1 ∧ (∀ (j : Nat) (u : Value), vs[j]? = some u → ∃ ad, A = some ad ∧ w.cell? (ad.add j) = some u) ∧ (∀ u ∈ vs, u.oneCell' = true) ∧ (∀ (i : Nat) (r : Rec), rs[i]? = some r → ∃ u, vs[i]? = some u ∧ Byt w0 u r.1 r.2) ∧ w.ownsRow w0.heap.size 35 1 (.slice A K c) K vs ∧ ∀ k, (Value.slice A K c).ownBlock = some k → G k := by
  obtain ⟨A', c', vs, e, h1, h2, h3, h4, h5, h6, h7⟩ := h.vals
  cases e
  exact ⟨rfl, h1, vs, h2, h3, h4, h5, h6, h7⟩
/-- The appends of a list's rows to the list of all: what it needs, what is behind it. -/
def FitK (w u : World) (v7 : Value) (K : Nat) (A2 : Option Addr) (m2 : Nat) (Rr : Value → World → Prop) : Prop :=
  ∃ vs news : List Value, u.ownsRow w.heap.size 35 1 v7 K vs ∧ news.length = m2 * 1 ∧ (∀ (j : Nat) (x : Value), news[j]? = some x → ∃ ad, A2 = some ad ∧ u.cell? (ad.add j) = some x) ∧ (∀ x ∈ news, x.oneCell' = true) ∧ w.heap.size ≤ u.heap.size ∧
    ∀ v' u', u'.ownsRow w.heap.size 35 1 v' (K + m2) (vs ++ news) → u.grownBy u' v7.ownBlock → (v'.ownBlock = v7.ownBlock ∨ v'.ownBlock = some u.heap.size) → Rr v' u'
section
variable {w u : World} {gd gq i : Nat} {S : DS} {Q : QS} {G : Nat → Prop} {rs : List Rec} {A : Option Addr} {m c : Nat} {R : Nat → RowD} {A2 : Option Addr} {m2 : Nat} {R2 : Nat → RowD} {A7 : Option Addr} {K c7 : Nat}
theorem AddK.app (h : AddK w u gd gq i (.slice A7 K c7) S Q G rs m2 R2) (hR : RowsIn w A2 m2 R2) (hm : m = 0) (h1 : RowsIn w A m R) (h2 : m ≤ c) (h3 : m < 40) (h4 : A = none → m = 0 ∧ c = 0) :
    FitK w u (.slice A7 K c7) K A2 m2 fun v' u' => ∃ G', InvK w u' gd gq (i + 1) v' S Q G' (rs ++ recsOf R2 m2) A m c R := by
  obtain ⟨hK, _, vs, _, _, _, e5, e6, e7⟩ := h.all.vals2
  obtain ⟨news, n1, n2, n3, n4⟩ := rows_vals hR (Nat.le_refl m2)
  have hb := h.held.bel
  refine ⟨vs, news, e6, n1, fun j x hx => ?_, n3, hb.size, fun v' u' p1 p2 p3 => ?_⟩
  · obtain ⟨ad, e, hc⟩ := n2 j x hx
    exact ⟨ad, e, (hb.cell (block_lt_of_cell hc)).trans hc⟩
  · subst hK
    refine ⟨fun k => G k ∨ (u.heap.size ≤ k ∧ k < u'.heap.size), h.held.ours (only_grown p2 e7) fun k hk => hk, AllG.app e6 e7 e5 (by simp [recsOf]) n4 p1 p3, ?_, nz_app h.nz h.nz2, .inl ⟨h.ka, hm⟩, h1, h2, h3, h4⟩
    have := h.len
    have := h.m40
    rw [List.length_append, show (recsOf R2 m2).length = m2 from by simp [recsOf]]
    omega
/-- What was wanted is laid out. -/
theorem ScK.want {n : Nat} {v12 : Value} {rs2 : List Rec} {ux : World} (h : ScK w u gd gq i (.slice A7 K c7) S Q G rs A m c R n v12 rs2) (hx : Below u.heap.size u ux) (hs : ux.heap.size = u.heap.size) (hn : n ≤ m) (hm : m < 40) :
    (A7 = none → K = 0 ∧ c7 = 0) ∧ ∃ vs news : List Value, vs.length = K * 1 ∧ (∀ (j : Nat) (x : Value), vs[j]? = some x → ∃ ad, A7 = some ad ∧ (ux.alloc (.cells #[] 35)).cell? (ad.add j) = some x) ∧ (∀ x ∈ vs, x.oneCell' = true) ∧
      news.length = n * 1 ∧ (∀ u2, (ux.alloc (.cells #[] 35)).grownBy u2 (some u.heap.size) → ∀ (j : Nat) (x : Value), news[j]? = some x → ∃ ad, A = some ad ∧ u2.cell? (ad.add j) = some x) ∧ (∀ x ∈ news, x.oneCell' = true) ∧
      ∀ v13 u2 v14 u3, u2.ownsRow u.heap.size 35 1 v13 (0 + K) ([] ++ vs) → (ux.alloc (.cells #[] 35)).grownBy u2 (some u.heap.size) → u3.ownsRow u.heap.size 35 1 v14 (0 + K + n) ([] ++ vs ++ news) → u2.grownBy u3 v13.ownBlock →
        ∃ G' A8 c8, v14 = .slice A8 (K + n) c8 ∧ Below u.heap.size u u3 ∧ RowsBy u3 v14 (rs ++ recsOf R n) ∧ InvK w u3 gd gq (i + 1) v14 S Q G' (rs ++ recsOf R n) none 0 0 R := by
  obtain ⟨hK, e0, vs, e2, e3, e4, e5, e6, e7⟩ := h.all.vals2
  obtain ⟨news, n1, n2, n3, n4⟩ := rows_vals h.rows hn
  have hb := h.held.bel
  have hb1 : Below u.heap.size u (ux.alloc (.cells #[] 35)) := hx.alloc (by omega) _
  have hs1 : (ux.alloc (.cells #[] 35)).heap.size = u.heap.size + 1 := by rw [World.size_alloc, hs]
  refine ⟨e0, vs, news, e2, fun j x hj => ?_, e4, n1, fun u2 g2 j x hj => ?_, n3, fun v13 u2 v14 u3 o2 g2 o3 g3 => ?_⟩
  · obtain ⟨ad, e, hc⟩ := e3 j x hj
    exact ⟨ad, e, (hb1.cell (block_lt_of_cell hc)).trans hc⟩
  · obtain ⟨ad, e, hc⟩ := n2 j x hj
    have hb2 : Below u.heap.size u u2 := hb1.grown g2 (by omega) fun k hk => by cases hk; exact Nat.le_refl _
    exact ⟨ad, e, ((bbt hb hb2).cell (block_lt_of_cell hc)).trans hc⟩
  · have hb2 : Below u.heap.size u u2 := hb1.grown g2 (by omega) fun k hk => by cases hk; exact Nat.le_refl _
    have hb3 : Below u.heap.size u u3 := hb2.grown g3 hb2.size fun k hk => (World.ownsRow.lt o2 k hk).1
    have hrl : (recsOf R n).length = n := by simp [recsOf]
    have hlen : (rs ++ recsOf R n).length = 0 + K + n := by rw [List.length_append, hrl]; omega
    have hvs : vs.length = K := by omega
    have hall : AllG w (fun k => G k ∨ (u.heap.size ≤ k ∧ k < u3.heap.size)) u3 v14 (rs ++ recsOf R n) := by
      refine ⟨[] ++ vs ++ news, by rw [hlen]; exact own_mono o3 hb.size, fun k hk => .inr (World.ownsRow.lt o3 k hk), fun j r hj => ?_⟩
      rw [List.nil_append]
      by_cases hjl : j < rs.length
      · rw [List.getElem?_append_left hjl] at hj
        obtain ⟨x, a1, a2⟩ := e5 j r hj
        exact ⟨x, by rw [List.getElem?_append_left (by omega)]; exact a1, a2⟩
      · rw [List.getElem?_append_right (by omega)] at hj
        obtain ⟨x, a1, a2⟩ := n4 _ r hj
        exact ⟨x, by rw [List.getElem?_append_right (by omega), hvs, hK]; exact a1, a2⟩
    have hheld : HeldG w u3 gd gq S Q (fun k => G k ∨ (u.heap.size ≤ k ∧ k < u3.heap.size)) := h.held.ours (.of_below hb3) fun k hk => hk
    obtain ⟨A8, c8, e8, _⟩ := hall.form
    refine ⟨_, A8, c8, by rw [e8, hlen, Nat.zero_add], hb3, hall.by_ hheld.bel (nz_few h.nz), hheld, hall, ?_, h.nz, .inl ⟨h.ka, rfl⟩, fun j hj => absurd hj (by omega), Nat.le_refl _, by omega, fun _ => ⟨rfl, rfl⟩⟩
    have := h.len
    omega
end
theorem start_k {w u : World} {gd gq : Nat} (h : HeldG w u gd gq (DS.new 42) ⟨1, 41, 1, 1, 4294967295⟩ fun _ => False) :
    Calls Try.prog 14 #[.pointer (some ⟨gq, 0, none⟩)] u fun e w' => ∃ v Q, e = .returned (.tuple #[v, .int .i64 0]) ∧ InvK w w' gd gq 0 (.slice none 0 0) (DS.new 42) Q (fun _ => False) [] none 0 0 fun _ => ⟨none, 0, 0, fun _ => 0⟩ := by
  refine (h.scan rfl).mono ?_
  rintro e w' ⟨rs, en, v, l, rfl, hs, hr, hh, _⟩
  obtain ⟨rfl, rfl, ht, hc⟩ := calm_new (Q := ⟨1, 41, 1, 1, 4294967295⟩) rfl rfl rfl h.box.2 (by decide) (fun k _ _ => new_cell 42 k) hs
  have ht' : topOf (rdS (DS.new 42)) 1 40 = 0 := ht
  have hka := ka_at (Q := ⟨1, 41, 1, 1, 4294967295⟩) (S := DS.new 42) rfl rfl rfl ⟨rfl, rfl, rfl⟩ hs (SameL.refl []) (by rw [ht']; omega)
  exact ⟨v, _, rfl, hh, AllG.nil, Nat.zero_le _, (fun r hr => by cases hr), .inl ⟨hka, rfl⟩, fun j hj => absurd hj (by omega), Nat.le_refl _, by omega, fun _ => ⟨rfl, rfl⟩⟩
end Go.Proofs.Yteeomidlnijfbaa
