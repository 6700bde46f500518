/- A segment in memory; what a sector says; contracts: Free, forget, New, at. -/
import Derived.Test.YtmcbmbcfgefocaaPDa
import Derived.Test.YtmcbmbcfgefocaaPDl
namespace Go.Proofs.Ytmcbmbcfgefocaa
open Go.RowKit
set_option linter.unusedSimpArgs false
set_option linter.unusedVariables false

/-- A segment: its sectors, generation, end and top. -/
structure QS where
  first : Nat
  behind : Nat
  gen : Nat
  ende : Nat
  top : Nat
def QS.ok (Q : QS) : Prop := Q.first ≤ Q.ende ∧ Q.ende ≤ Q.behind ∧ Q.behind ≤ 1000 ∧ Q.gen < 4294967296 ∧ Q.top < 4294967296
def sv (gd : Nat) (Q : QS) : Nat → Value
  | 0 => .pointer (some ⟨gd, 0, none⟩)
  | 1 => .int .i64 (Q.first : Nat)
  | 2 => .int .i64 (Q.behind : Nat)
  | 3 => .int .u32 (Q.gen : Nat)
  | 4 => .int .i64 (Q.ende : Nat)
  | _ => .int .u32 (Q.top : Nat)
/-- The segment's block. -/
def SBox (w : World) (gq gd : Nat) (Q : QS) : Prop := w.rowIs gq 86 6 (sv gd Q) ∧ Q.ok
section
variable {w w' : World} {gq gd : Nat} {Q : QS}
theorem SBox.lt (h : SBox w gq gd Q) : gq < w.heap.size := h.1.lt
theorem SBox.of_block (h : SBox w gq gd Q) (e : w'.heap[gq]? = w.heap[gq]?) : SBox w' gq gd Q := ⟨h.1.of_block e, h.2⟩
theorem SBox.below (h : SBox w gq gd Q) (hb : Below w.heap.size w w') : SBox w' gq gd Q := h.of_block (hb.block _ h.lt)
theorem SBox.cells (h : SBox w gq gd Q) : w.cell? ⟨gq, 0, none⟩ = some (.pointer (some ⟨gd, 0, none⟩)) ∧ w.cell? ⟨gq, 1, none⟩ = some (.int .i64 (Q.first : Nat)) ∧ w.cell? ⟨gq, 2, none⟩ = some (.int .i64 (Q.behind : Nat)) ∧
    w.cell? ⟨gq, 3, none⟩ = some (.int .u32 (Q.gen : Nat)) ∧ w.cell? ⟨gq, 4, none⟩ = some (.int .i64 (Q.ende : Nat)) ∧ w.cell? ⟨gq, 5, none⟩ = some (.int .u32 (Q.top : Nat)) :=
  ⟨h.1.cell (i := 0) (by omega), h.1.cell (i := 1) (by omega), h.1.cell (i := 2) (by omega), h.1.cell (i := 3) (by omega), h.1.cell (i := 4) (by omega), h.1.cell (i := 5) (by omega)⟩
/-- Its end and its top have turned. -/
theorem sbox_turned (h : w.rowIs gq 86 6 (sv gd Q)) (hk : Q.behind ≤ 1000 ∧ Q.gen < 4294967296) {E T : Nat} (hE : Q.first ≤ E ∧ E ≤ Q.behind) (hT : T < 4294967296) : SBox ((w.setCell ⟨gq, 4, none⟩ (.int .i64 (E : Nat))).setCell ⟨gq, 5, none⟩ (.int .u32 (T : Nat))) gq gd { Q with ende := E, top := T } := by
  refine ⟨((h.set 4 (.int .i64 (E : Nat))).set 5 (.int .u32 (T : Nat))).congr fun i hi => ?_, hE.1, hE.2, hk.1, hk.2, hT⟩
  rcases (by omega : i = 0 ∨ i = 1 ∨ i = 2 ∨ i = 3 ∨ i = 4 ∨ i = 5) with rfl | rfl | rfl | rfl | rfl | rfl <;> rfl
theorem SBox.turned (h : SBox w gq gd Q) {E T : Nat} (hE : Q.first ≤ E ∧ E ≤ Q.behind) (hT : T < 4294967296) : SBox ((w.setCell ⟨gq, 4, none⟩ (.int .i64 (E : Nat))).setCell ⟨gq, 5, none⟩ (.int .u32 (T : Nat))) gq gd { Q with ende := E, top := T } :=
  sbox_turned h.1 ⟨h.2.2.2.1, h.2.2.2.2.1⟩ hE hT
theorem free_any (h : SBox w gq gd Q) : Calls Try.prog 34 #[.pointer (some ⟨gq, 0, none⟩)] w fun e w' => e = .returned (.int .i64 ((Q.behind - Q.ende : Nat) : Int)) ∧ Below w.heap.size w w' := by
  obtain ⟨c0, c1, c2, c3, c4, c5⟩ := h.cells
  have h2 := h.2
  have HK := Lib.hid (show ((Q.behind : Nat) : Int) - ((Q.ende : Nat) : Int) = ((Q.behind - Q.ende : Nat) : Int) from by have := h.2.2.1; omega)
  have hb : ((Q.behind : Nat) : Int) ≤ 1000 := by have := h2.2.2.1; omega
  have he : ((Q.ende : Nat) : Int) ≤ 1000 := by have := h2.2.1; have := h2.2.2.1; omega
  clear h h2
  go_enter Try.func34, Try.ntmps34
  go_wp2
  go_quiet (fail)
  go_wp2
  go_ret
  rw [HK.out]
  exact ⟨rfl, Below.drewN_ (Below.refl _ _) _⟩
def ForgotPost (w w' : World) (e : Ending) (gq gd : Nat) (Q : QS) : Prop := e = .returned (.tuple #[]) ∧ SBox w' gq gd { Q with ende := Q.first, top := 4294967295 } ∧ Only (· = gq) w w' ∧ w'.heap.size = w.heap.size
theorem forget_raw (h : w.rowIs gq 86 6 (sv gd Q)) (hk : Q.first ≤ Q.behind ∧ Q.behind ≤ 1000 ∧ Q.gen < 4294967296) : Calls Try.prog 56 #[.pointer (some ⟨gq, 0, none⟩)] w fun e w' => ForgotPost w w' e gq gd Q := by
  have c1 : w.cell? ⟨gq, 1, none⟩ = some (.int .i64 (Q.first : Nat)) := h.cell (i := 1) (by omega)
  have c4 : w.cell? ⟨gq, 4, none⟩ = some (.int .i64 (Q.ende : Nat)) := h.cell (i := 4) (by omega)
  have c5 : w.cell? ⟨gq, 5, none⟩ = some (.int .u32 (Q.top : Nat)) := h.cell (i := 5) (by omega)
  have z4 := h.frozen 4
  have z5 := h.frozen 5
  have HB := Lib.hid h
  have HK := Lib.hid hk
  clear h hk
  go_enter Try.func56, Try.ntmps56
  go_wp2
  go_end0
  exact ⟨rfl, sbox_turned HB.out ⟨HK.out.2.1, HK.out.2.2⟩ (E := Q.first) (T := 4294967295) ⟨Nat.le_refl _, HK.out.1⟩ (by omega), only_box (only_box Only.refl 4 _) 5 _, by simp [World.setCell]⟩
theorem forget_any (h : SBox w gq gd Q) : Calls Try.prog 56 #[.pointer (some ⟨gq, 0, none⟩)] w fun e w' => ForgotPost w w' e gq gd Q :=
  forget_raw h.1 ⟨Nat.le_trans h.2.1 h.2.2.1, h.2.2.2.1, h.2.2.2.2.1⟩
end
/-- The cell that bytes are. -/
def decX (f : Nat → Nat) : CellD := ⟨num 256 (fun j => f (4 + j)) 4, num 256 (fun j => f (8 + j)) 4, (f 12 : Nat), (f 13 : Nat), none, f 14, 0, fun j => f (15 + j)⟩
open Classical in
/-- What a sector says, if it is a cell. -/
noncomputable def secD : Option (Nat → Nat) → Option CellD
  | none => none
  | some f => if decP 64 f then some (decX f) else none
theorem secD_yes {f : Nat → Nat} (h : decP 64 f) : secD (some f) = some (decX f) := if_pos h
theorem secD_no {f : Nat → Nat} (h : ¬ decP 64 f) : secD (some f) = none := if_neg h
noncomputable def cellB (s : Option (Nat → Nat)) : Bool := (secD s).isSome
def zeroD : CellD := ⟨0, 0, 0, 0, none, 0, 0, fun _ => 0⟩
noncomputable def cellX (s : Option (Nat → Nat)) : CellD := (secD s).getD zeroD
/-- A cell that was told: D's bytes are there. -/
def HasD (w : World) (D : CellD) : Prop := Rd .u8 w D.A D.n D.f ∧ D.good ∧ D.n ≤ 49 ∧ Typ8 w (.slice D.A D.n D.c)
theorem HasD.below {w w' : World} {D : CellD} (h : HasD w D) (hb : Below w.heap.size w w') : HasD w' D := ⟨h.1.below hb, h.2.1, h.2.2.1, h.2.2.2.below hb⟩
def AtPost (s : Option (Nat → Nat)) (w w' : World) (e : Ending) : Prop := (∃ D : CellD, e = .returned (.tuple #[D.val, .bool (cellB s)]) ∧ HasD w' D ∧ (cellB s = true → D.g = (cellX s).g ∧ D.s = (cellX s).s ∧ D.p = (cellX s).p ∧ D.q = (cellX s).q ∧ D.n = (cellX s).n ∧ D.f = (cellX s).f)) ∧ Below w.heap.size w w'
theorem results_cell45 {fn : Func} (h : fn.results = #[.cell 4 106, .tmp 5]) {tmps : Array Value} {w : World} {b : Nat} {g s : Nat} {p q : Int} {A : Option Addr} {n c : Nat} (hp : tmps.getD 4 undef = .pointer (some ⟨b, 0, none⟩)) (hb : BoxC w b g s p q A n c) :
    (results fn tmps).run Try.prog w = .ok (.tuple #[cellV g s p q A n c, tmps.getD 5 undef]) w := by
  rw [results_cell_tmp h, hp]
  obtain ⟨c0, c1, c2, c3, c4⟩ := hb
  have hl := block_lt_of_cell c0
  go_simp
theorem read_some {S : DS} {i : Int} {f : Nat → Nat} (h : (S.read i).1 = some f) : (S.read i).2 = 0 := by
  unfold DS.read at *
  cases hg : S.gone <;> cases hb : hasB S.n i <;> cases hs : S.seen i.toNat <;> simp [hg, hb, hs] at h ⊢
theorem read_none {S : DS} {i : Int} (h : (S.read i).1 = none) : (S.read i).2 = 1 ∨ (S.read i).2 = 4 ∨ (S.read i).2 = 6 := by
  unfold DS.read at *
  cases hg : S.gone <;> cases hb : hasB S.n i <;> cases hs : S.seen i.toNat <;> simp [hg, hb, hs] at h ⊢
theorem zeroD_has (w : World) : HasD w zeroD := ⟨Rd.zero, ⟨by decide, by decide, by decide, by decide, by decide, by decide, by decide, by decide, fun j hj => absurd hj (by show ¬ j < 0; omega), fun _ => ⟨rfl, rfl⟩⟩, by decide, Typ8.none⟩
section
variable {F : Nat → Prop} {w w' : World} {gq gd : Nat} {Q : QS} {S : DS}
theorem dread_any (h : DskAt F w gd S) (i : Int) : Calls Try.prog 67 #[.pointer (some ⟨gd, 0, none⟩), .int .i64 i] w fun e w' => ReadPost S w w' e i := by
  obtain ⟨_, _, _, _, _, _, _, _, h⟩ := h
  exact read_any h i
set_option maxRecDepth 100000 in
set_option maxHeartbeats 2000000 in
theorem at_any (hd : DskAt F w gd S) (h : SBox w gq gd Q) (i : Int) : Calls Try.prog 72 #[.pointer (some ⟨gq, 0, none⟩), .int .i64 i] w fun e w' => AtPost (S.read i).1 w w' e := by
  have HX := Lib.hid (show BoxH (w.alloc (.cells #[.int .u32 0, .int .u32 0, .int .i64 0, .int .i64 0, .slice none 0 0] 106)) w.heap.size 0 0 0 0 none 0 0 from BoxH.new w 0 0 0 0 none 0 0)
  have hb0 := below_new w (.cells #[.int .u32 0, .int .u32 0, .int .i64 0, .int .i64 0, .slice none 0 0] 106)
  have HD := Lib.hid (hd.keep (w' := w.alloc (.cells #[.int .u32 0, .int .u32 0, .int .i64 0, .int .i64 0, .slice none 0 0] 106)) (fun k hk => hb0.block k (hd.lt k hk)) hb0.size)
  have hq1 := h.below hb0
  obtain ⟨c0, _, _, _, _, _⟩ := hq1.cells
  have HB0 := Lib.hid hb0
  clear hb0 hq1 h hd
  obtain ⟨r1, hr1⟩ : ∃ r, (S.read i).1 = r := ⟨_, rfl⟩
  obtain ⟨r2, hr2⟩ : ∃ r, (S.read i).2 = r := ⟨_, rfl⟩
  have HRD : Hid (∀ u, DskAt F u gd S → Calls Try.prog 67 #[.pointer (some ⟨gd, 0, none⟩), .int .i64 i] u fun e w' => (∃ a n c, e = .returned (.tuple #[.slice a n c, .int .i64 r2]) ∧ SecO Any w' (.slice a n c) r1) ∧ Below u.heap.size u w') := fun u hu => (dread_any hu i).mono fun e w' h => by
    obtain ⟨v, rfl, h1, h2⟩ := h
    rw [hr1] at h1
    rw [hr2]
    obtain ⟨a, n, c, rfl⟩ := h1.form
    exact ⟨⟨a, n, c, rfl, h1.keep (fun _ _ _ => rfl) fun _ _ _ => trivial⟩, h2⟩
  have HN : Hid (r1 = none → r2 = 1 ∨ r2 = 4 ∨ r2 = 6) := fun e => by rw [← hr2]; exact read_none (by rw [hr1, e])
  have HS : Hid (∀ f, r1 = some f → r2 = 0) := fun f e => by rw [← hr2]; exact read_some (f := f) (by rw [hr1, e])
  rw [hr1]
  clear hr1 hr2
  cases r1 with
  | none =>
    have hne : (r2 != 0) = true := by
      rcases HN.out rfl with e | e | e <;> rw [e] <;> rfl
    have hne2 : ¬ r2 = 0 := by
      rcases HN.out rfl with e | e | e <;> rw [e] <;> decide
    go_enter Try.func72, Try.ntmps72
    go_wp2_with (go_at_call 67; refine (HRD.out _ HD.out).mono ?_; rintro e w2 ⟨⟨a, n, c, rfl, hv⟩, hb2⟩; have HX2 := Lib.hid (HX.out.below hb2); have HB2 := Lib.hid (bbt HB0.out hb2); obtain ⟨x0, x1, x2, x3, x4⟩ := HX2.out.boxc; have z0 := HX2.out.frozen 0; have z1 := HX2.out.frozen 1; have z2 := HX2.out.frozen 2; have z3 := HX2.out.frozen 3; have z4 := HX2.out.frozen 4; clear hv hb2)
    refine bodyPost_ret (results_cell45 rfl rfl (HX2.out.set5 0 0 0 0 none 0 0).boxc) rfl ?_
    exact ⟨⟨zeroD, rfl, zeroD_has _, fun h => by cases h⟩, (wr_set5 _ _ _ _ _ _ _).below HB2.out (by have := HB2.out.size; omega) (Nat.le_refl _)⟩
  | some f =>
    obtain rfl := HS.out f rfl
    have HSec : Hid (∀ u a n c, SecO Any u (.slice a n c) (some f) → Byt u (.slice a n c) 64 f) := fun u a n c h => by
      obtain ⟨g, o, c', e, h1, _, h3, h4⟩ := Sec.rd h
      cases e
      exact ⟨_, _, rfl, h1, h3, h4⟩
    have HDE : Hid (∀ u a n c, SecO Any u (.slice a n c) (some f) → Calls Try.prog 68 #[.slice a n c] u fun e w' => (∃ D : CellD, e = .returned (.tuple #[D.val, .int .i64 (if cellB (some f) = true then 0 else 2)]) ∧ HasD w' D ∧ (cellB (some f) = true → D.g = (cellX (some f)).g ∧ D.s = (cellX (some f)).s ∧ D.p = (cellX (some f)).p ∧ D.q = (cellX (some f)).q ∧ D.n = (cellX (some f)).n ∧ D.f = (cellX (some f)).f)) ∧ Below u.heap.size u w') := fun u a n c h => by
      have hby := HSec.out u a n c h
      have hf : ∀ j, j < 64 → f j < 256 := by obtain ⟨_, _, _, _, _, h4⟩ := hby; exact h4
      refine (decode_by hby (by omega)).mono ?_
      rintro e w' ⟨hp, hb⟩
      refine ⟨?_, hb⟩
      rcases hp with ⟨hy, B, c2, rfl, ⟨A', c', h1, h2, h3, h4⟩, hB, hT⟩ | ⟨hno, rfl⟩
      · have hc : cellB (some f) = true := by unfold cellB; rw [secD_yes hy]; rfl
        have hx : cellX (some f) = decX f := by unfold cellX; rw [secD_yes hy]; rfl
        cases h1
        rw [if_pos hc, hx]
        have hg : num 256 (fun j => f (4 + j)) 4 < 4294967296 := num4_lt (fun j hj => hf _ (by omega)) (Nat.le_refl _)
        have hs : num 256 (fun j => f (8 + j)) 4 < 4294967296 := num4_lt (fun j hj => hf _ (by omega)) (Nat.le_refl _)
        have h12 := hf 12 (by omega)
        have h13 := hf 13 (by omega)
        have h14 := hy.2.2.1
        exact ⟨⟨num 256 (fun j => f (4 + j)) 4, num 256 (fun j => f (8 + j)) 4, (f 12 : Nat), (f 13 : Nat), B, f 14, c2, fun j => f (15 + j)⟩, rfl, ⟨h3, ⟨hg, hs, by show _ ≤ ((f 12 : Nat) : Int); omega, by show ((f 12 : Nat) : Int) ≤ _; omega, by show _ ≤ ((f 13 : Nat) : Int); omega, by show ((f 13 : Nat) : Int) ≤ _; omega, h2, by show f 14 ≤ _; omega, h4, fun h => absurd h hB⟩, h14, hT⟩, fun _ => ⟨rfl, rfl, rfl, rfl, rfl, rfl⟩⟩
      · have hc : ¬ cellB (some f) = true := by unfold cellB; rw [secD_no hno]; decide
        rw [if_neg hc]
        exact ⟨zeroD, rfl, zeroD_has _, fun h => absurd h hc⟩
    obtain ⟨bb, hbb⟩ : ∃ b, cellB (some f) = b := ⟨_, rfl⟩
    have HBB := Lib.hid hbb
    have hcode : ((if cellB (some f) = true then (0 : Int) else 2) == 0) = bb := by rw [hbb]; cases bb <;> rfl
    clear hbb
    generalize (if cellB (some f) = true then (0 : Int) else 2) = kc at *
    go_enter Try.func72, Try.ntmps72
    go_wp2_with (first
      | (go_at_call 67; refine (HRD.out _ HD.out).mono ?_; rintro e w2 ⟨⟨a, n, c, rfl, hv⟩, hb2⟩; have HX2 := Lib.hid (HX.out.below hb2); have HB2 := Lib.hid (bbt HB0.out hb2); have HV := Lib.hid hv; clear hv hb2)
      | (go_at_call 68; refine (HDE.out _ _ _ _ HV.out).mono ?_; rintro e w3 ⟨⟨D, rfl, hD, hDX⟩, hb3⟩; have HX3 := Lib.hid ((HX2.out.below hb3).below (below_new w3 (.cells #[.int .u32 (D.g : Nat), .int .u32 (D.s : Nat), .int .i64 D.p, .int .i64 D.q, .slice D.A D.n D.c] 106))); have HB3 := Lib.hid (bbt (bbt HB2.out hb3) (below_new w3 (.cells #[.int .u32 (D.g : Nat), .int .u32 (D.s : Nat), .int .i64 D.p, .int .i64 D.q, .slice D.A D.n D.c] 106))); have HD3 := Lib.hid (hD.below (below_new w3 (.cells #[.int .u32 (D.g : Nat), .int .u32 (D.s : Nat), .int .i64 D.p, .int .i64 D.q, .slice D.A D.n D.c] 106))); have HDX := Lib.hid hDX; clear hb3 hD hDX; obtain ⟨x0, x1, x2, x3, x4⟩ := HX3.out.boxc; have z0 := HX3.out.frozen 0; have z1 := HX3.out.frozen 1; have z2 := HX3.out.frozen 2; have z3 := HX3.out.frozen 3; have z4 := HX3.out.frozen 4))
    refine bodyPost_ret (results_cell45 rfl rfl (HX3.out.set5 D.g D.s D.p D.q D.A D.n D.c).boxc) rfl ?_
    have hlt : w.heap.size < (w3.alloc (.cells #[.int .u32 (D.g : Nat), .int .u32 (D.s : Nat), .int .i64 D.p, .int .i64 D.q, .slice D.A D.n D.c] 106)).heap.size := HX3.out.lt
    refine ⟨⟨D, by rw [HBB.out]; rfl, ⟨?_, HD3.out.2.1, HD3.out.2.2.1, typ8_wr HX3.out HD3.out.2.2.2⟩, HDX.out⟩, (wr_set5 _ _ _ _ _ _ _).below HB3.out (by omega) (Nat.le_refl _)⟩
    by_cases h0 : 0 < D.n
    · exact HD3.out.1.wr (HX3.out.off8 HD3.out.1 h0) (wr_set5 _ _ _ _ _ _ _)
    · rw [show D.n = 0 from by omega]; exact Rd.zero
end
end Go.Proofs.Ytmcbmbcfgefocaa

/- Contracts: New, Gen, greatest. -/
namespace Go.Proofs.Ytmcbmbcfgefocaa
open Go.RowKit
set_option linter.unusedSimpArgs false
set_option linter.unusedVariables false

/-- A sector as reads see it. -/
def rdS (S : DS) (i : Nat) : Option (Nat → Nat) := (S.read (i : Int)).1
/-- The greatest number of any cell of k sectors. -/
noncomputable def topOf (T : Nat → Option (Nat → Nat)) (first : Nat) : Nat → Nat
  | 0 => 0
  | k + 1 => if cellB (T (first + k)) = true then max (topOf T first k) (cellX (T (first + k))).s else topOf T first k
def NewSPost (w w' : World) (e : Ending) (gd : Nat) (Q : QS) : Prop := (∃ gq, e = .returned (.tuple #[.pointer (some ⟨gq, 0, none⟩), .int .i64 0]) ∧ w.heap.size ≤ gq ∧ SBox w' gq gd Q) ∧ Below w.heap.size w w'
section
variable {F : Nat → Prop} {w w' : World} {gq gd : Nat} {Q : QS} {S : DS}
theorem dsectors_any (h : DskAt F w gd S) : Calls Try.prog 42 #[.pointer (some ⟨gd, 0, none⟩)] w fun e w' => e = .returned (.int .i64 (S.n : Nat)) ∧ w = w' := by
  obtain ⟨_, _, _, _, _, _, _, _, h⟩ := h
  exact sectors_any h
theorem DskAt.few (h : DskAt F w gd S) : S.n ≤ 512 := by
  obtain ⟨_, _, _, _, _, _, _, _, h⟩ := h
  exact h.n2
theorem six_row {w : World} {t : TypeId} {a0 a1 a2 a3 a4 a5 : Value} {V : Nat → Value} (h : ∀ i, i < 6 → (match i with | 0 => a0 | 1 => a1 | 2 => a2 | 3 => a3 | 4 => a4 | _ => a5) = V i) : (w.alloc (.cells #[a0, a1, a2, a3, a4, a5] t)).rowIs w.heap.size t 6 V := by
  refine ⟨#[a0, a1, a2, a3, a4, a5], heap_alloc_new w _, rfl, fun i hi => ?_⟩
  have := h i hi
  rcases (by omega : i = 0 ∨ i = 1 ∨ i = 2 ∨ i = 3 ∨ i = 4 ∨ i = 5) with rfl | rfl | rfl | rfl | rfl | rfl <;> exact congrArg some this
set_option maxRecDepth 100000 in
set_option maxHeartbeats 2000000 in
theorem snew_ok (hd : DskAt F w gd S) (a n g : Int) (ha : 0 ≤ a) (hn : 1 ≤ n) (hs : a + n ≤ S.n) (hg : 0 ≤ g ∧ g < 4294967296) :
    Calls Try.prog 46 #[.pointer (some ⟨gd, 0, none⟩), .int .i64 a, .int .i64 n, .int .u32 g] w fun e w' => NewSPost w w' e gd ⟨a.toNat, (a + n).toNat, g.toNat, a.toNat, 4294967295⟩ := by
  have hfew := hd.few
  have HS := Lib.hid (dsectors_any hd)
  have d1 : ¬ (a < 0) := by omega
  have d2 : ¬ (n < 1) := by omega
  have d3 : ¬ (n > (S.n : Int) - a) := by omega
  have e1 : decide (a < 0) = false := decide_eq_false d1
  have e2 : decide (n < 1) = false := decide_eq_false d2
  have e3 : decide (n > (S.n : Int) - a) = false := decide_eq_false d3
  have hw1 : a ≤ 1000 := by omega
  have hw2 : n ≤ 1000 := by omega
  have HQ : Hid ((w.alloc (.cells #[.pointer (some ⟨gd, 0, none⟩), .int .i64 a, .int .i64 (a + n), .int .u32 g, .int .i64 0, .int .u32 0] 86)).rowIs w.heap.size 86 6 (sv gd ⟨a.toNat, (a + n).toNat, g.toNat, 0, 0⟩)) := six_row fun i hi => by
    rcases (by omega : i = 0 ∨ i = 1 ∨ i = 2 ∨ i = 3 ∨ i = 4 ∨ i = 5) with rfl | rfl | rfl | rfl | rfl | rfl
    · rfl
    · show Value.int .i64 a = .int .i64 ((a.toNat : Nat) : Int); congr 1; omega
    · show Value.int .i64 (a + n) = .int .i64 (((a + n).toNat : Nat) : Int); congr 1; omega
    · show Value.int .u32 g = .int .u32 ((g.toNat : Nat) : Int); congr 1; omega
    · rfl
    · rfl
  clear hd
  go_enter Try.func46, Try.ntmps46
  go_wp2_with (first
    | (go_at_call 42; refine HS.out.mono ?_; rintro e w' ⟨rfl, rfl⟩)
    | (go_at_call 56; refine (forget_raw HQ.out ⟨by show a.toNat ≤ (a + n).toNat; omega, by show (a + n).toNat ≤ 1000; omega, by show g.toNat < _; omega⟩).mono ?_; rintro e w2 ⟨rfl, hq2, ho2, hs2⟩))
  go_ret2
  refine ⟨⟨w.heap.size, rfl, Nat.le_refl _, hq2⟩, ?_⟩
  exact (below_new w _).trans (ho2.below (by simp) (fun k e => by omega))
set_option maxRecDepth 100000 in
set_option maxHeartbeats 2000000 in
theorem gen_any (h : SBox w gq gd Q) : Calls Try.prog 32 #[.pointer (some ⟨gq, 0, none⟩)] w fun e w' => e = .returned (.int .u32 (Q.gen : Nat)) ∧ w = w' := by
  obtain ⟨c0, c1, c2, c3, c4, c5⟩ := h.cells
  clear h
  go_enter Try.func32, Try.ntmps32
  go_wp2
  go_ret
  exact ⟨rfl, rfl⟩
set_option maxRecDepth 100000 in
set_option maxHeartbeats 4000000 in
theorem greatest_any (hd : DskAt F w gd S) (h : SBox w gq gd Q) : Calls Try.prog 62 #[.pointer (some ⟨gq, 0, none⟩)] w fun e w' => e = .returned (.int .u32 (topOf (rdS S) Q.first (Q.behind - Q.first) : Nat)) ∧ topOf (rdS S) Q.first (Q.behind - Q.first) < 4294967296 ∧ Below w.heap.size w w' := by
  have HAT : Hid (∀ u, Below w.heap.size w u → ∀ i : Int, Calls Try.prog 72 #[.pointer (some ⟨gq, 0, none⟩), .int .i64 i] u fun e w' => AtPost (S.read i).1 u w' e) := fun u hu i => at_any (hd.keep (fun k hk => hu.block k (hd.lt k hk)) hu.size) (h.below hu) i
  have HQ := Lib.hid h
  obtain ⟨h1, h2, h3, h4, h5⟩ := h.2
  obtain ⟨c0, c1, c2, c3, c4, c5⟩ := h.cells
  clear h hd
  go_enter Try.func62, Try.ntmps62
  go_wp2
  go_loopw [3, 4] (fun v3 v4 wr => ∃ k t : Nat, k ≤ Q.behind - Q.first ∧ v3 = .int .u32 (t : Nat) ∧ t < 4294967296 ∧ t = topOf (rdS S) Q.first k ∧ v4 = .int .i64 ((Q.first + k : Nat) : Int) ∧ Below w.heap.size w wr) (fun _ v4 _ => Q.behind - (intOf v4).toNat)
  case atStart => exact ⟨0, 0, Nat.zero_le _, rfl, by omega, rfl, rfl, Below.refl _ _⟩
  case round =>
    obtain ⟨k, t, hk, rfl, ht, htop, rfl, hbl⟩ := hrel
    have HB := Lib.hid hbl
    have HT := Lib.hid htop
    obtain ⟨c0, c1, c2, c3, c4, c5⟩ := (HQ.out.below hbl).cells
    clear htop hbl
    by_cases hlt : k < Q.behind - Q.first
    · have hlt2 : ((Q.first + k : Nat) : Int) < ((Q.behind : Nat) : Int) := by omega
      obtain ⟨s, hs⟩ : ∃ s, (S.read ((Q.first + k : Nat) : Int)).1 = s := ⟨_, rfl⟩
      have HA2 := Lib.hid (HAT.out wr HB.out ((Q.first + k : Nat) : Int))
      rw [hs] at HA2
      have HT1 := Lib.hid (show topOf (rdS S) Q.first (k + 1) = if cellB s = true then max t (cellX s).s else t from by rw [topOf, show rdS S (Q.first + k) = s from hs, ← HT.out])
      have hsz := HB.out.size
      clear hs
      obtain ⟨i, hi⟩ : ∃ i, Q.first + k = i := ⟨_, rfl⟩
      have HI := Lib.hid hi
      rw [hi] at hlt2
      rw [hi] at HA2
      rw [hi]
      have hib : i < 1000 := by omega
      clear hi
      by_cases hc : cellB s = true
      · have HC := Lib.hid hc
        go_wp2_with (go_at_call 72; refine HA2.out.mono ?_; rintro e w3 ⟨⟨D, rfl, hD, hDX⟩, hb3⟩; rw [HC.out]; have HDX := Lib.hid (hDX HC.out); have hdl := hD.2.1.2.1; have HX3 := Lib.hid (BoxH.new w3 D.g D.s D.p D.q D.A D.n D.c); have HB3 := Lib.hid ((HB.out.trans (hb3.mono hsz)).trans ((below_new w3 (.cells #[.int .u32 (D.g : Nat), .int .u32 (D.s : Nat), .int .i64 D.p, .int .i64 D.q, .slice D.A D.n D.c] 106)).mono (Nat.le_trans hsz hb3.size))); clear hb3 hD hDX; obtain ⟨x0, x1, x2, x3, x4⟩ := HX3.out.boxc)
        go_roundw
        case rel =>
          refine ⟨k + 1, max t D.s, by omega, by go_num, by omega, ?_, by have := HI.out; go_num, HB3.out⟩
          rw [HT1.out, if_pos HC.out, ← HDX.out.2.1]
        case measure => have := HI.out; simp [intOf]; omega
      · have HC := Lib.hid (show cellB s = false from by simpa using hc)
        go_wp2_with (go_at_call 72; refine HA2.out.mono ?_; rintro e w3 ⟨⟨D, rfl, hD, hDX⟩, hb3⟩; rw [HC.out]; have HB3 := Lib.hid ((HB.out.trans (hb3.mono hsz)).trans ((below_new w3 (.cells #[.int .u32 (D.g : Nat), .int .u32 (D.s : Nat), .int .i64 D.p, .int .i64 D.q, .slice D.A D.n D.c] 106)).mono (Nat.le_trans hsz hb3.size))); clear hb3 hD hDX)
        go_roundw
        case rel =>
          refine ⟨k + 1, t, by omega, rfl, ht, ?_, by have := HI.out; go_num, HB3.out⟩
          rw [HT1.out, if_neg (by rw [HC.out]; decide)]
        case measure => have := HI.out; simp [intOf]; omega
    · obtain rfl : k = Q.behind - Q.first := by omega
      have hlt2 : ¬ (((Q.first + (Q.behind - Q.first) : Nat) : Int) < ((Q.behind : Nat) : Int)) := by omega
      go_wp2
      go_ret
      exact ⟨by rw [← HT.out]; rfl, by rw [← HT.out]; exact ht, HB.out⟩
end
end Go.Proofs.Ytmcbmbcfgefocaa
