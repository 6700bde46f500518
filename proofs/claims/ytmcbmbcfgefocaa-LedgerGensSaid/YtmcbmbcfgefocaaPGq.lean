/- Contract: Append. -/
import Derived.Test.YtmcbmbcfgefocaaPGn
import Derived.Deep.RegionHeld3
namespace Go.Proofs.Ytmcbmbcfgefocaa
open Go.RowKit Go.Shelf
set_option linter.unusedSimpArgs false
set_option linter.unusedVariables false

/-- What an append tells, by the sectors alone. -/
inductive AppD (S : DS) (Q : QS) (rs : List Rec) (R : RowD) : Int → DS → QS → List Rec → Prop
  | arg (h : needF R.n = 0) : AppD S Q rs R 1 S Q rs
  | full (h : needF R.n ≠ 0) (hl : 200 ≤ rs.length) : AppD S Q rs R 3 S Q rs
  | bad (h : needF R.n ≠ 0) (hl : rs.length < 200) {S' : DS} {Q' : QS} {k : Int} (ha : AddS S Q 1 (fun _ => R) S' Q' k) (hk : k ≠ 0) : AppD S Q rs R k S' Q' rs
  | ok (h : needF R.n ≠ 0) (hl : rs.length < 200) {S' : DS} {Q' : QS} (ha : AddS S Q 1 (fun _ => R) S' Q' 0) : AppD S Q rs R 0 S' Q' (rs ++ [(R.n, R.f)])
theorem AppC.code {S S' : DS} {Q Q' : QS} {rs rs' : List Rec} {R : RowD} {e : Ending} (h : AppC S Q rs R e S' Q' rs') : ∃ k, e = mustE k ∧ AppD S Q rs R k S' Q' rs' := by
  cases h with
  | arg h => exact ⟨1, rfl, .arg h⟩
  | full h hl => exact ⟨3, rfl, .full h hl⟩
  | bad h hl ha hk => exact ⟨_, rfl, .bad h hl ha hk⟩
  | ok h hl ha => exact ⟨0, rfl, .ok h hl ha⟩
theorem mustE_or (k : Int) : mustE k = .returned (.tuple #[]) ∨ (∃ j, mustE k = refE j) ∨ mustE k = lossE := by
  unfold mustE
  split
  · exact .inl rfl
  · split
    · exact .inr (.inr rfl)
    · exact .inr (.inl ⟨k, rfl⟩)
/-- How a call tells its end. -/
theorem CallQ.code {w w' : World} {gl : Nat} {RF : Ending → World → Prop} {e' : Ending} (h : CallQ w gl RF e' w') (hk : ∀ e w2, RF e w2 → ∃ k, e = mustE k) : ∃ k w2, RF (mustE k) w2 ∧ e' = .returned (.int .i64 k) ∧ ((k ≠ 4 ∧ w' = w2.setCell ⟨w.heap.size + 1, 0, none⟩ (.int .i64 k)) ∨ (k = 4 ∧ LostAt w2 w' (w.heap.size + 1) gl)) := by
  obtain ⟨e, w2, hr, hc⟩ := h
  obtain ⟨k, rfl⟩ := hk e w2 hr
  refine ⟨k, w2, hr, ?_⟩
  by_cases h0 : k = 0
  · subst h0
    rcases hc with ⟨_, h1, h2⟩ | ⟨j, h1, _⟩ | ⟨h1, _⟩
    · exact ⟨h1, .inl ⟨by decide, h2⟩⟩
    · cases h1
    · cases h1
  · by_cases h4 : k = 4
    · subst h4
      rcases hc with ⟨h1, _⟩ | ⟨j, h1, _⟩ | ⟨_, h1, h2⟩
      · cases h1
      · cases h1
      · exact ⟨h1, .inr ⟨rfl, h2⟩⟩
    · have hm : mustE k = refE k := by unfold mustE; rw [if_neg h0, if_neg h4]
      rw [hm] at hc
      rcases hc with ⟨h1, _⟩ | ⟨j, h1, h2, h3⟩ | ⟨h1, _⟩
      · cases h1
      · cases h1
        exact ⟨h2, .inl ⟨h4, h3⟩⟩
      · cases h1
/-- A ledger that is lost: its disk. -/
def LostL (w0 w : World) (gl gd : Nat) (S : DS) (Z : Nat → Prop) : Prop := HeldD w0 w gd S (fun k => Z k ∨ k = gl) ∧ w.rowIs gl 56 4 (lv none none (.slice none 0 0) true)
section
variable {w0 w w' : World} {gl gd gq : Nat} {S S' : DS} {Q Q' : QS} {v : Value} {rs : List Rec} {Z Z' : Nat → Prop}
/-- Behind a call: its boxes go. -/
theorem led_left {w1 w2 : World} {k : Int} (hb : Below w.heap.size w w1) (hZ : ∀ j, Z' j ↔ Z j ∨ (w.heap.size ≤ j ∧ j < w1.heap.size)) (hzw : ∀ j, Z j → j < w.heap.size) {c : Nat} (hc1 : w.heap.size ≤ c) (hc2 : c < w1.heap.size) (hL : Led w0 w2 gl gd gq S Q v rs Z') (hk : Kept Z' w1 w2) {x : Value} (hx : Boxed w1 c 25 x) :
    ((w' = w2.setCell ⟨c, 0, none⟩ (.int .i64 k)) → Led w0 w' gl gd gq S Q v rs Z ∧ Kept Z w w') ∧ (LostAt w2 w' c gl → LostL w0 w' gl gd S Z ∧ Kept Z w w') := by
  have hzc : Z' c := (hZ c).2 (.inr ⟨hc1, hc2⟩)
  have hx2 : Boxed w2 c 25 x := (hk.1 c hzc).trans hx
  have hk2 : Kept Z w w2 := ⟨fun j hj => (hk.1 j ((hZ j).2 (.inl hj))).trans (hb.block j (hzw j hj)), Nat.le_trans hb.size hk.2⟩
  constructor
  · rintro rfl
    refine ⟨(hL.put hzc hx2 (by decide) (by decide) _).new (Below.refl _ _) fun j hj => .inl ((hZ j).2 (.inl hj)), hk2.trans ⟨fun j hj => Below.heap_setCell w2 ⟨c, 0, none⟩ _ j fun e => ?_, by simp [World.setCell]⟩⟩
    have := hzw j hj
    have e : j = c := e
    omega
  · rintro ⟨h1, h2, h3⟩
    have hgl := hL.row.lt
    refine ⟨⟨hL.1.disk.ours (h3.mono fun j hj => ?_) fun j hj => .inl ?_, h1⟩, hk2.trans ⟨fun j hj => h3.block j (Nat.lt_of_lt_of_le (hzw j hj) hk2.2) fun e => ?_, h3.size⟩⟩
    · rcases hj with e | e
      · exact .inl e
      · exact .inr (.inr (e ▸ hzc))
    · rcases hj with e | e
      · exact .inr (.inr ((hZ j).2 (.inl e)))
      · exact .inl e
    · rcases e with e | e
      · exact hL.2.2.2.1 ((hZ gl).2 (.inl (e ▸ hj)))
      · have := hzw j hj
        omega
def AppendPost9 (w0 w w' : World) (e : Ending) (gl gd gq : Nat) (S : DS) (Q : QS) (rs : List Rec) (R : RowD) (Z : Nat → Prop) : Prop :=
  ∃ k S' Q' rs', e = .returned (.int .i64 k) ∧ AppD S Q rs R k S' Q' rs' ∧ Kept Z w w' ∧ ((k ≠ 4 ∧ ∃ v', Led w0 w' gl gd gq S' Q' v' rs' Z) ∨ (k = 4 ∧ LostL w0 w' gl gd S' Z))
set_option maxRecDepth 100000 in
set_option maxHeartbeats 2000000 in
theorem Led.append (hL : Led w0 w gl gd gq S Q v rs Z) (hP : S.P.length ≤ 900000) {A : Option Addr} {n c : Nat} {f : Nat → Nat} (hrec : ∀ V, Kept Z w V → Byt V (.slice A n c) n f) (hn : n ≤ 9223372036854775807) (hlen : rs.length ≤ 1000) :
    Calls Try.prog 19 #[.pointer (some ⟨gl, 0, none⟩), .slice A n c] w fun e w' => AppendPost9 w0 w w' e gl gd gq S Q rs ⟨A, n, c, f⟩ Z := by
  have hzw := fun k hk => (hL.z_lt k hk).2
  obtain ⟨w1, hw1⟩ : ∃ w1, (w.alloc (.cells #[.pointer (some ⟨gl, 0, none⟩)] 28)).alloc (.cells #[.slice A n c] 35) = w1 := ⟨_, rfl⟩
  have hs1 : w1.heap.size = w.heap.size + 2 := by rw [← hw1]; simp
  have hb1 : Below w.heap.size w w1 := by rw [← hw1]; exact (below_new _ _).trans ((below_new _ _).mono (by simp))
  have hx1 : Boxed w1 w.heap.size 28 (.pointer (some ⟨gl, 0, none⟩)) := by rw [← hw1]; exact (Boxed.new w _ _).alloc _
  have hx2 : Boxed w1 (w.heap.size + 1) 35 (.slice A n c) := by
    rw [← hw1]
    have := Boxed.new (w.alloc (.cells #[.pointer (some ⟨gl, 0, none⟩)] 28)) 35 (.slice A n c)
    rw [World.size_alloc] at this
    exact this
  have hbc := callW_below w1 gl
  have hsc := callW_size w1 gl
  have hb := hb1.trans (hbc.mono hb1.size)
  obtain ⟨y1, y2⟩ := callW_boxes w1 gl
  have hLc : Led w0 (callW w1 gl) gl gd gq S Q v rs (fun k => Z k ∨ (w.heap.size ≤ k ∧ k < (callW w1 gl).heap.size)) := hL.new hb fun k hk => hk
  have hz : ∀ k, w.heap.size ≤ k → k < w.heap.size + 4 → (Z k ∨ (w.heap.size ≤ k ∧ k < (callW w1 gl).heap.size)) := fun k h1 h2 => .inr ⟨h1, by omega⟩
  have hr1 := hL.row.of_block (hb1.block gl hL.row.lt)
  have HC : Hid (Calls Try.prog 23 #[.pointer (some ⟨gl, 0, none⟩), .func (.func 37) #[] #[.pointer (some ⟨w.heap.size + 1, 0, none⟩), .pointer (some ⟨w.heap.size, 0, none⟩)]] w1 fun e w' => AppendPost9 w0 w w' e gl gd gq S Q rs ⟨A, n, c, f⟩ Z) := Lib.hid (by
    refine (call_any (RF := fun e w' => AppPost w0 (callW w1 gl) w' e gl gd gq S Q v rs ⟨A, n, c, f⟩ (fun k => Z k ∨ (w.heap.size ≤ k ∧ k < (callW w1 gl).heap.size))) (args := #[.pointer (some ⟨w.heap.size + 1, 0, none⟩), .pointer (some ⟨w.heap.size, 0, none⟩)]) (by simp) cf_append hr1
      (append_any hLc hP (hz _ (by omega) (by omega)) (hz _ (by omega) (by omega)) ((hbc.block _ (by omega)).trans hx2) ((hbc.block _ (by omega)).trans hx1) (fun V hV => hrec V ⟨fun k hk => (hV.1 k (.inl hk)).trans (hb.block k (hzw k hk)), Nat.le_trans hb.size hV.2⟩) hn hlen) fun e w2 h => ?_).mono fun e w' h => ?_
    · obtain ⟨S', Q', v', rs', h1, h2, h3⟩ := h
      obtain ⟨k, rfl, _⟩ := h1.code
      exact ⟨(h3.1 _ (hz _ (by omega) (by omega))).trans y1, ⟨_, (h3.1 _ (hz _ (by omega) (by omega))).trans y2⟩, ⟨_, h2.row⟩, mustE_or k⟩
    · obtain ⟨k, w2, ⟨S', Q', v', rs', h1, h2, h3⟩, rfl, hc⟩ := h.code fun e w2 h => by
        obtain ⟨S', Q', v', rs', h1, _, _⟩ := h
        obtain ⟨k, rfl, _⟩ := h1.code
        exact ⟨k, rfl⟩
      obtain ⟨k', hkk, h1⟩ := h1.code
      have hkk : k = k' := by
        unfold mustE at hkk
        by_cases a0 : k = 0 <;> by_cases b0 : k' = 0 <;> by_cases a4 : k = 4 <;> by_cases b4 : k' = 4 <;> simp [a0, b0, a4, b4] at hkk ⊢ <;> omega
      subst hkk
      obtain ⟨l1, l2⟩ := led_left (w' := w') (k := k) hb (fun _ => Iff.rfl) hzw (c := w1.heap.size + 1) (by omega) (by omega) h2 h3 y2
      refine ⟨k, S', Q', rs', rfl, h1, ?_⟩
      rcases hc with ⟨hk4, hw⟩ | ⟨hk4, hw⟩
      · obtain ⟨m1, m2⟩ := l1 hw
        exact ⟨m2, .inl ⟨hk4, v', m1⟩⟩
      · obtain ⟨m1, m2⟩ := l2 hw
        exact ⟨m2, .inr ⟨hk4, m1⟩⟩)
  have hmf : ∀ (fn : Fn) (first cap : Array Value) (w : World), (Instr.makeFunc fn first cap).run Try.prog w = .ok (.func fn first cap) w := fun _ _ _ _ => rfl
  have HW := Lib.hid hw1
  clear hL hs1 hb1 hx1 hx2 hbc hsc hb y1 y2 hLc hz hr1 hzw hrec hP hlen hw1
  go_enter Try.func19, Try.ntmps19
  go_wp2_with (go_at_call 23; rw [HW.out]; refine HC.out.mono ?_; rintro e w2 ⟨k, S', Q', rs', rfl, hp⟩; have HP := Lib.hid hp; clear hp)
  go_ret
  exact ⟨k, S', Q', rs', rfl, HP.out⟩
end
end Go.Proofs.Ytmcbmbcfgefocaa

/- Contract: fill. -/
namespace Go.Proofs.Ytmcbmbcfgefocaa
open Go.RowKit Go.Shelf
set_option linter.unusedSimpArgs false
set_option linter.unusedVariables false

theorem mk64L : ∃ C : Array Value, (∀ w : World, (Instr.makeSlice 35 (.int .i64 64) (.int .i64 64)).run Try.prog w = .ok (.slice (some ⟨w.heap.size, 0, none⟩) 64 64) (w.alloc (.cells C 5))) ∧ ∀ w : World, (w.alloc (.cells C 5)).rowIs w.heap.size 5 64 fun _ => .int .u8 0 :=
  ⟨madeCells #[.int .u8 0] 64, fun w => run_make_row' (P := Try.prog) 35 5 (.int .u8 0) 1 Try.underlying35 u8_info rfl .i64 .i64 64 (by omega) (by omega) w, fun w => World.rowIs_made w (.int .u8 0) 64 5⟩
theorem zero_byt {w : World} {g : Nat} (h : w.rowIs g 5 64 fun _ => .int .u8 0) : Byt w (.slice (some ⟨g, 0, none⟩) 64 64) 64 (fun _ => 0) :=
  ⟨_, 64, rfl, Nat.le_refl _, fun j hj => ⟨_, rfl, by rw [add_mk, Nat.zero_add]; exact h.cell hj⟩, fun j hj => by show (0 : Nat) < 256; decide⟩
section
variable {w0 w w' : World} {gl gd gq : Nat} {S S' : DS} {Q Q' : QS} {v : Value} {rs : List Rec} {G Z Z' : Nat → Prop}
theorem must0 (u : World) : Calls Try.prog 30 #[.int .i64 0] u fun e w' => e = .returned (.tuple #[]) ∧ u = w' := must_any 0 u
/-- Records that came in, or that are ours, are added. -/
theorem HeldG.addB (h : HeldG w0 w gd gq S Q G) {A : Option Addr} {n c : Nat} {R : Nat → RowD} (hR : ∀ u, Kept G w u → Below w0.heap.size w0 u → RowsIn u A n R) (hn : n ≤ 100000) (hP : S.P.length ≤ 900000) :
    Calls Try.prog 38 #[.pointer (some ⟨gq, 0, none⟩), .slice A n c] w fun e w' => ∃ S' Q' k, e = .returned (.int .i64 k) ∧ AddS S Q n R S' Q' k ∧ HeldG w0 w' gd gq S' Q' G ∧ Kept G w w' := by
  obtain ⟨F, h1, h2, h3, h4, h5, h6⟩ := h
  refine (add_any h1 h2 h4.2.1 (fun V hV => hR V ⟨fun k hk => hV.block k (h6 k hk).2 fun e => (h5 k e).2 hk, hV.size⟩ (bbt' h3 hV fun k hk => (h5 k hk).1)) hn hP).mono ?_
  rintro e w' ⟨S', Q', k, rfl, ha, hq, ⟨F', g1, g2⟩, ho⟩
  exact ⟨S', Q', k, rfl, ha, HeldG.turn h1 h2 h3 h4 h5 h6 g1 g2 hq ho⟩
/-- Records are filled in. -/
def FilledPost (w0 w w' : World) (e : Ending) (gd gq : Nat) (S : DS) (Q : QS) (n : Nat) (R : Nat → RowD) (G : Nat → Prop) : Prop :=
  e = .returned (.tuple #[]) ∧ ∃ S' Q', AddS S { Q with ende := Q.first, top := topOf (rdS S) Q.first (Q.behind - Q.first) } n R S' Q' 0 ∧ HeldG w0 w' gd gq S' Q' G ∧ Kept G w w'
set_option maxRecDepth 100000 in
set_option maxHeartbeats 2000000 in
theorem fill_some (hh : HeldG w0 w gd gq S Q G) (hg : S.gone = false) (hP : S.P.length ≤ 900000) {A : Option Addr} {n c : Nat} {R : Nat → RowD} (hR : ∀ u, Kept G w u → Below w0.heap.size w0 u → RowsIn u A n R) (hn0 : n ≠ 0) (hn : n ≤ 100000) (hz : ∀ S' Q' k, AddS S { Q with ende := Q.first, top := topOf (rdS S) Q.first (Q.behind - Q.first) } n R S' Q' k → k = 0) :
    Calls Try.prog 29 #[.pointer (some ⟨gq, 0, none⟩), .slice A n c] w fun e w' => FilledPost w0 w w' e gd gq S Q n R G := by
  have HBG := Lib.hid (hh.begin_ hg)
  have HM := Lib.hid must0
  have HAD : Hid (∀ u, HeldG w0 u gd gq S { Q with ende := Q.first, top := topOf (rdS S) Q.first (Q.behind - Q.first) } G → Kept G w u → Calls Try.prog 38 #[.pointer (some ⟨gq, 0, none⟩), .slice A n c] u fun e w' => e = .returned (.int .i64 0) ∧ FilledPost w0 w w' (.returned (.tuple #[])) gd gq S Q n R G) := Lib.hid fun u h1 h2 => (h1.addB (c := c) (fun V hV hB => hR V (h2.trans hV) hB) hn hP).mono fun e w' h => by
    obtain ⟨S', Q', k, rfl, ha, b1, b2⟩ := h
    obtain rfl := hz _ _ _ ha
    exact ⟨rfl, rfl, S', Q', ha, b1, h2.trans b2⟩
  have q1 : ((n : Int) == 0) = false := by rw [beq_eq_false_iff_ne]; omega
  clear hh hg hP hR hz hn0
  go_enter Try.func29, Try.ntmps29
  go_wp2_with (first
    | (go_at_call 48; refine HBG.out.mono ?_; rintro e w2 ⟨rfl, h2, k2⟩; have H2 := Lib.hid h2; have K2 := Lib.hid k2; clear h2 k2)
    | (go_at_call 30; refine (HM.out _).mono ?_; rintro e w3 ⟨rfl, hw3⟩; subst hw3)
    | (go_at_call 38; refine (HAD.out _ H2.out K2.out).mono ?_; rintro e w4 ⟨rfl, h4⟩; have H4 := Lib.hid h4; clear h4))
  go_end0
  exact H4.out
set_option maxRecDepth 100000 in
set_option maxHeartbeats 4000000 in
theorem fill_none {N g : Nat} (hn : S.n = N) (hN : 18 ≤ N) (hN2 : N ≤ 512) (hgen : g < 4294967296) (hh : HeldG w0 w gd gq S (segQ N g) G) (hg : S.gone = false) (hP : S.P.length ≤ 900000) {A : Option Addr} {c : Nat} {R : Nat → RowD}
    (h1 : (S.write ((segQ N g).first : Nat) fun _ => 0).2 = 0) (h2 : (S.write ((segQ N g).first : Nat) fun _ => 0).1.P.length ≤ 900000) (h3 : (S.write ((segQ N g).first : Nat) fun _ => 0).1.flush.2 = 0) {S1 : DS} (hS1 : (S.write ((segQ N g).first : Nat) fun _ => 0).1.flush.1 = S1) (h4 : S1.gone = false) (h5 : S1.P.length ≤ 900000) :
    Calls Try.prog 29 #[.pointer (some ⟨gq, 0, none⟩), .slice A 0 c] w fun e w' => e = .returned (.tuple #[]) ∧ HeldG w0 w' gd gq S1 (nextQ N S g) G ∧ Kept G w w' := by
  have HBG := Lib.hid (hh.begin_ hg)
  have HM := Lib.hid must0
  have HGB := Lib.hid (fun (u : World) (h : HeldG w0 u gd gq S (nextQ N S g) G) => (show (∀ V, Below u.heap.size u V → V.cell? ⟨gq, 0, none⟩ = some (.pointer (some ⟨gd, 0, none⟩))) ∧ (∀ V, Below u.heap.size u V → Calls Try.prog 32 #[.pointer (some ⟨gq, 0, none⟩)] V fun e w' => e = .returned (.int .u32 (g : Nat)) ∧ V = w') ∧ (∀ V, Below u.heap.size u V → Calls Try.prog 47 #[.pointer (some ⟨gd, 0, none⟩), .int .u32 (g : Nat)] V fun e w' => e = .returned (.int .i64 (((segQ N g).first : Nat) : Int)) ∧ V = w') from
    ⟨fun V hV => (h.box.below hV).cells.1, fun V hV => gen_any (h.box.below hV), fun V hV => by
      obtain ⟨F, hF⟩ := h.disk.dsk
      have := first_any (hF.keep (fun k hk => hV.block k (hF.lt k hk)) hV.size) (by omega) (by omega) g hgen
      rw [hn] at this
      exact this⟩))
  have HWR : Hid (∀ u V a, HeldG w0 u gd gq S (nextQ N S g) G → Below u.heap.size u V → Byt V (.slice a 64 64) 64 (fun _ => 0) → Calls Try.prog 49 #[.pointer (some ⟨gd, 0, none⟩), .int .i64 (((segQ N g).first : Nat) : Int), .slice a 64 64] V fun e w' => e = .returned (.int .i64 0) ∧ HeldG w0 w' gd gq (S.write ((segQ N g).first : Nat) fun _ => 0).1 (nextQ N S g) G ∧ Kept G V w') := Lib.hid fun u V a h hV hb => by
    have := (h.below hV).dwrite (by omega) (segQ N g).first hb
    rw [h1] at this
    exact this
  have HFL : Hid (∀ u, HeldG w0 u gd gq (S.write ((segQ N g).first : Nat) fun _ => 0).1 (nextQ N S g) G → Calls Try.prog 50 #[.pointer (some ⟨gd, 0, none⟩)] u fun e w' => e = .returned (.int .i64 0) ∧ HeldG w0 w' gd gq S1 (nextQ N S g) G ∧ Kept G u w') := Lib.hid fun u h => by
    have := h.flush_
    rw [h3, hS1] at this
    exact this
  have htk : takesC (nextQ N S g) 0 R = 0 := by
    unfold takesC
    rw [if_neg (by rintro ⟨i, hi, _⟩; omega), if_neg (by have : sumN R 0 = 0 := rfl; omega)]
  have HAD : Hid (∀ u, HeldG w0 u gd gq S1 (nextQ N S g) G → Calls Try.prog 38 #[.pointer (some ⟨gq, 0, none⟩), .slice A 0 c] u fun e w' => e = .returned (.int .i64 0) ∧ HeldG w0 w' gd gq S1 (nextQ N S g) G ∧ Kept G u w') := Lib.hid fun u h => (h.add (A := A) (n := 0) (c := c) (R := R) (fun V hV i hi => absurd hi (by omega)) (by omega) h5).mono fun e w' h => by
    obtain ⟨S', Q', k, rfl, ha, b1, b2⟩ := h
    cases ha with
    | no h => exact absurd htk h
    | gone _ hg => rw [h4] at hg; cases hg
    | none_ _ _ _ => exact ⟨rfl, b1, b2⟩
    | cut _ _ hn => exact absurd rfl hn
    | lost _ _ hn => exact absurd rfl hn
    | kept _ _ hn => exact absurd rfl hn
  obtain ⟨C64, hmk, hc64⟩ := mk64L
  have HC64 := Lib.hid hc64
  have HZW : Hid (∀ u, Kept G w u → ∀ V, Below u.heap.size u V → (∀ k, G k → k < u.heap.size) → Kept G w V) := Lib.hid fun u h1 V h2 h3 => h1.trans (Kept.below h3 h2)
  have HGL : Hid (∀ u S' Q', HeldG w0 u gd gq S' Q' G → ∀ k, G k → k < u.heap.size) := Lib.hid fun u S' Q' h k hk => by
    obtain ⟨F, a1, a2, a3, a4, a5, a6⟩ := h
    exact (a6 k hk).2
  clear hh hg hP h1 h2 h3 hS1 h4 h5 htk hc64 hgen hn
  go_enter Try.func29, Try.ntmps29
  go_upto_region 2 with (first
    | (go_at_call 48; refine HBG.out.mono ?_; rintro e w2 ⟨rfl, h2, k2⟩; have H2 := Lib.hid h2; have K2 := Lib.hid k2; clear h2 k2)
    | (go_at_call 30; refine (HM.out _).mono ?_; rintro e w3 ⟨rfl, hw3⟩; subst hw3))
  have B0 := Lib.hid (show Below w2.heap.size w2 w2.drew from Below.drew_ (Below.refl _ _))
  have B1 := Lib.hid (show Below w2.heap.size w2 (w2.drew.alloc (.cells C64 5)) from B0.out.trans ((below_new _ _).mono (Nat.le_refl _)))
  have C0 := Lib.hid ((HGB.out w2 H2.out).1 _ B0.out)
  have C1 := Lib.hid ((HGB.out w2 H2.out).1 _ B1.out)
  have G0 := Lib.hid ((HGB.out w2 H2.out).2.1 _ B0.out)
  have G1 := Lib.hid ((HGB.out w2 H2.out).2.1 _ B1.out)
  have F0 := Lib.hid ((HGB.out w2 H2.out).2.2 _ B0.out)
  have F1 := Lib.hid ((HGB.out w2 H2.out).2.2 _ B1.out)
  have W1 := Lib.hid (HWR.out w2 _ (some ⟨w2.drew.heap.size, 0, none⟩) H2.out B1.out (zero_byt (HC64.out w2.drew)))
  have KW1 := Lib.hid (HZW.out w2 K2.out _ B1.out (HGL.out _ _ _ H2.out))
  clear HGB HWR HZW HC64
  go_region_held3 (fun w' => w'.cell? ⟨gq, 0, none⟩ = some (.pointer (some ⟨gd, 0, none⟩))) (first | exact C0.out | exact C1.out | exact C5.out)
    (first
      | (go_at_call 32; refine G0.out.mono ?_; rintro e w3 ⟨rfl, rfl⟩)
      | (go_at_call 32; refine G1.out.mono ?_; rintro e w3 ⟨rfl, rfl⟩)
      | (go_at_call 47; refine F0.out.mono ?_; rintro e w3 ⟨rfl, rfl⟩)
      | (go_at_call 47; refine F1.out.mono ?_; rintro e w3 ⟨rfl, rfl⟩)
      | (go_at_call 49; refine W1.out.mono ?_; rintro e w5 ⟨rfl, h5, k5⟩; have H5 := Lib.hid h5; have K5 := Lib.hid (KW1.out.trans k5); have C5 := Lib.hid h5.box.cells.1; clear h5 k5)
      | (go_at_call 30; refine (HM.out _).mono ?_; rintro e w6 ⟨rfl, rfl⟩))
  all_goals
    have c5 := C5.out
    go_wp2_with (first
      | (go_at_call 50; refine (HFL.out _ H5.out).mono ?_; rintro e w7 ⟨rfl, h7, k7⟩; have H7 := Lib.hid h7; have K7 := Lib.hid (K5.out.trans k7); clear h7 k7)
      | (go_at_call 30; refine (HM.out _).mono ?_; rintro e w3 ⟨rfl, hw3⟩; subst hw3)
      | (go_at_call 38; refine (HAD.out _ H7.out).mono ?_; rintro e w8 ⟨rfl, h8, k8⟩; have H8 := Lib.hid h8; have K8 := Lib.hid (K7.out.trans k8); clear h8 k8))
    go_end0
    exact ⟨rfl, H8.out, K8.out⟩
end
end Go.Proofs.Ytmcbmbcfgefocaa
