/- A ledger in memory; Free, Gen, Used, Records. -/
import Derived.Test.YtmcbmbcfgefocaaPOa
import Derived.Test.YtmcbmbcfgefocaaPGh
import Derived.Test.YtmcbmbcfgefocaaPPd
import Derived.BigQuiet
namespace Go.Proofs.Ytmcbmbcfgefocaa
open Go.RowKit Go.Shelf
set_option linter.unusedSimpArgs false
set_option linter.unusedVariables false

/-- A disk, all of it new behind w0; the blocks G are ours, apart from it. -/
def HeldD (w0 w : World) (gd : Nat) (S : DS) (G : Nat → Prop) : Prop :=
  ∃ F : Nat → Prop, DskAt F w gd S ∧ Below w0.heap.size w0 w ∧ (∀ k, F k → w0.heap.size ≤ k ∧ ¬ G k) ∧ ∀ k, G k → w0.heap.size ≤ k ∧ k < w.heap.size
section
variable {w0 w w' : World} {gd gq : Nat} {S S' : DS} {Q Q' : QS} {G G' : Nat → Prop}
theorem HeldD.bel (h : HeldD w0 w gd S G) : Below w0.heap.size w0 w := by
  obtain ⟨F, h1, h2, h3, h4⟩ := h
  exact h2
theorem HeldD.dsk (h : HeldD w0 w gd S G) : ∃ F, DskAt F w gd S := by
  obtain ⟨F, h1, h2, h3, h4⟩ := h
  exact ⟨F, h1⟩
theorem HeldD.ours (h : HeldD w0 w gd S G) (ho : Only G w w') (hG : ∀ k, G' k → G k ∨ (w.heap.size ≤ k ∧ k < w'.heap.size)) : HeldD w0 w' gd S G' := by
  obtain ⟨F, h1, h3, h5, h6⟩ := h
  have hl := h1.lt
  have h0 := h3.size
  have hs := ho.size
  refine ⟨F, h1.keep (fun k hk => ho.block k (hl k hk) (h5 k hk).2) hs, bbt' h3 ho fun k hk => (h6 k hk).1, fun k hk => ⟨(h5 k hk).1, fun e => ?_⟩, fun k hk => ?_⟩
  · rcases hG _ e with e' | e'
    · exact (h5 k hk).2 e'
    · have := hl k hk
      omega
  · rcases hG k hk with e | e
    · have := h6 k e
      omega
    · omega
theorem HeldD.below (h : HeldD w0 w gd S G) (hb : Below w.heap.size w w') : HeldD w0 w' gd S G := h.ours (.of_below hb) fun k hk => .inl hk
theorem HeldG.disk (h : HeldG w0 w gd gq S Q G) : HeldD w0 w gd S G := by
  obtain ⟨F, h1, h2, h3, h4, h5, h6⟩ := h
  exact ⟨F, h1, h3, h5, h6⟩
theorem HeldD.mono (h : HeldD w0 w gd S G) (hg : ∀ k, G' k → G k) : HeldD w0 w gd S G' := h.ours (Only.refl) fun k hk => .inl (hg k hk)
theorem HeldD.seg (h : HeldD w0 w gd S G) (hb : Below w.heap.size w w') (hg : w.heap.size ≤ gq) (hq : SBox w' gq gd Q) : HeldG w0 w' gd gq S Q G := by
  obtain ⟨F, h1, h3, h5, h6⟩ := h
  have hl := h1.lt
  have h0 := h3.size
  have hs := hb.size
  refine ⟨F, h1.keep (fun k hk => hb.block k (hl k hk)) hs, hq, bbt h3 hb, ⟨by omega, fun e => ?_, fun e => ?_⟩, h5, fun k hk => ?_⟩
  · have := hl _ e
    omega
  · have := h6 _ e
    omega
  · have := h6 k hk
    omega
theorem HeldD.post (h : HeldD w0 w gd S G) {f : FuncId} {args : Array Value} {E : Ending → Prop} (hp : ∀ F, DskAt F w gd S → Calls Try.prog f args w fun e w' => E e ∧ DPost F w w' gd S') :
    Calls Try.prog f args w fun e w' => E e ∧ HeldD w0 w' gd S' G ∧ Kept G w w' := by
  obtain ⟨F, h1, h3, h5, h6⟩ := h
  refine (hp F h1).mono ?_
  rintro e w' ⟨hE, F', g1, ho, g2⟩
  have h0 := h3.size
  have hs := ho.size
  refine ⟨hE, ⟨F', g1, bbt' h3 ho fun k hk => (h5 k hk).1, fun k hk => ?_, fun k hk => by have := h6 k hk; omega⟩, fun k hk => ho.block k (h6 k hk).2 fun e => (h5 k e).2 hk, hs⟩
  rcases g2 k hk with e | e
  · exact h5 k e
  · exact ⟨by omega, fun e' => by have := h6 k e'; omega⟩
theorem HeldD.up (h : HeldD w0 w gd S G) (hP : S.P.length ≤ 1000000) : Calls Try.prog 18 #[.pointer (some ⟨gd, 0, none⟩), .slice none 0 0] w fun e w' => e = .returned (.tuple #[]) ∧ HeldD w0 w' gd (S.up []) G ∧ Kept G w w' :=
  h.post (E := fun e => e = .returned (.tuple #[])) fun F hF => by
    obtain ⟨gt, gs, ct, cs, vp, xs, VT, VS, hd⟩ := hF
    exact up_any hd none 0 0 (fun _ => 0) Rd.zero (fun j hj => absurd hj (by omega)) (by omega) (by omega) hP
theorem HeldG.save_ (h : HeldG w0 w gd gq S Q G) (hP : S.P.length ≤ 900000) (g : Nat) (hg : g < 4294967296) : Calls Try.prog 31 #[.pointer (some ⟨gd, 0, none⟩), .int .u32 (g : Nat)] w fun e w' => e = .returned (.int .i64 (S.save g).2) ∧ HeldG w0 w' gd gq (S.save g).1 Q G ∧ Kept G w w' :=
  h.post (E := fun e => e = .returned (.int .i64 (S.save g).2)) fun F hF => save_any hF hP g hg
theorem HeldG.flush_ (h : HeldG w0 w gd gq S Q G) : Calls Try.prog 50 #[.pointer (some ⟨gd, 0, none⟩)] w fun e w' => e = .returned (.int .i64 S.flush.2) ∧ HeldG w0 w' gd gq S.flush.1 Q G ∧ Kept G w w' :=
  h.post (E := fun e => e = .returned (.int .i64 S.flush.2)) fun F hF => oflush_any hF
/-- The segment of a generation. -/
def SegmPost (w w' : World) (e : Ending) (gd N g : Nat) : Prop := ∃ gq, e = .returned (.pointer (some ⟨gq, 0, none⟩)) ∧ w.heap.size ≤ gq ∧ SBox w' gq gd (segQ N g) ∧ Below w.heap.size w w'
set_option maxRecDepth 100000 in
set_option maxHeartbeats 2000000 in
theorem segment_any {F : Nat → Prop} (h : DskAt F w gd S) {N : Nat} (hn : S.n = N) (hN : 18 ≤ N) (hN2 : N ≤ 512) (g : Nat) (hg : g < 4294967296) : Calls Try.prog 28 #[.pointer (some ⟨gd, 0, none⟩), .int .u32 (g : Nat)] w fun e w' => SegmPost w w' e gd N g := by
  have hf := half_fits hN g
  obtain ⟨a, ha⟩ : ∃ a, 2 + g % 2 * halfN N = a := ⟨_, rfl⟩
  obtain ⟨n, hhn⟩ : ∃ n, halfN N = n := ⟨_, rfl⟩
  have HF := Lib.hid (first_any h (by omega) (by omega) g hg)
  have HH := Lib.hid (half_any h (by omega) (by omega))
  have HSN : Hid (Calls Try.prog 46 #[.pointer (some ⟨gd, 0, none⟩), .int .i64 (a : Nat), .int .i64 (n : Nat), .int .u32 (g : Nat)] w fun e w' => NewSPost w w' e gd (segQ N g)) := Lib.hid (by
    have := snew_ok h (a : Nat) (n : Nat) (g : Nat) (by omega) (by omega) (by omega) (by omega)
    have e : (⟨((a : Nat) : Int).toNat, (((a : Nat) : Int) + ((n : Nat) : Int)).toNat, ((g : Nat) : Int).toNat, ((a : Nat) : Int).toNat, 4294967295⟩ : QS) = segQ N g := by
      unfold segQ
      rw [ha, hhn, show (((a : Nat) : Int) + ((n : Nat) : Int)).toNat = a + n from by omega]
      rfl
    rw [e] at this
    exact this)
  have HM := Lib.hid (fun u => must_any 0 u)
  rw [hn, hhn] at HH
  rw [hn, ha] at HF
  clear h hf hhn ha hn
  go_enter Try.func28, Try.ntmps28
  go_wp2_with (first
    | (go_at_call 47; refine HF.out.mono ?_; rintro e w' ⟨rfl, rfl⟩)
    | (go_at_call 27; refine HH.out.mono ?_; rintro e w' ⟨rfl, rfl⟩)
    | (go_at_call 46; refine HSN.out.mono ?_; rintro e w2 ⟨⟨gq, rfl, h1, h2⟩, h3⟩; have H1 := Lib.hid h1; have H2 := Lib.hid h2; have H3 := Lib.hid h3; clear h1 h2 h3)
    | (go_at_call 30; refine (HM.out _).mono ?_; rintro e w3 ⟨rfl, rfl⟩))
  go_ret
  exact ⟨gq, rfl, H1.out, H2.out, H3.out⟩
end
end Go.Proofs.Ytmcbmbcfgefocaa

/- A ledger in memory; Free, Gen, Used, Records. -/
namespace Go.Proofs.Ytmcbmbcfgefocaa
open Go.RowKit Go.Shelf
set_option linter.unusedSimpArgs false
set_option linter.unusedVariables false

/-- What is a ledger's, and what is its caller's. -/
def GLd (gl : Nat) (v : Value) (Z : Nat → Prop) (k : Nat) : Prop := k = gl ∨ v.ownBlock = some k ∨ Z k
/-- A ledger: its disk, segment, block and records; Z lies beside it. -/
def Led (w0 w : World) (gl gd gq : Nat) (S : DS) (Q : QS) (v : Value) (rs : List Rec) (Z : Nat → Prop) : Prop :=
  HeldG w0 w gd gq S Q (GLd gl v Z) ∧ w.rowIs gl 56 4 (lv (some ⟨gd, 0, none⟩) (some ⟨gq, 0, none⟩) v false) ∧ RecsAt w w0.heap.size v rs ∧ ¬ Z gl ∧ ∀ k, v.ownBlock = some k → ¬ Z k
theorem Calm.few {S : DS} {Q : QS} {rs : List Rec} (h : Calm S Q rs) : ∀ r ∈ rs, r.1 ≤ 1000 := by
  obtain ⟨rs', l, h1, h2, h3⟩ := h.scn
  intro r hr
  obtain ⟨i, hi⟩ := List.mem_iff_getElem?.1 hr
  obtain ⟨r', hr', hs⟩ := h1.at_ hi
  rw [hs.1]
  exact h2.few r' (List.mem_of_getElem? hr')
theorem RecsAt.lower {w : World} {b b' : Nat} {v : Value} {rs : List Rec} (h : RecsAt w b v rs) (hb : b' ≤ b) : RecsAt w b' v rs := by
  obtain ⟨vs, h1, h2⟩ := h
  refine ⟨vs, ⟨h1.1, ?_⟩, h2⟩
  rcases h1.2 with hn | ⟨g, c, cur, e, a1, r⟩
  · exact .inl hn
  · exact .inr ⟨g, c, cur, e, Nat.le_trans hb a1, r⟩
section
variable {w0 w w' : World} {gl gd gq : Nat} {S S' : DS} {Q Q' : QS} {v : Value} {rs : List Rec} {Z Z' : Nat → Prop}
theorem Led.bel (h : Led w0 w gl gd gq S Q v rs Z) : Below w0.heap.size w0 w := h.1.bel
theorem Led.row (h : Led w0 w gl gd gq S Q v rs Z) : w.rowIs gl 56 4 (lv (some ⟨gd, 0, none⟩) (some ⟨gq, 0, none⟩) v false) := h.2.1
theorem Led.z_lt (h : Led w0 w gl gd gq S Q v rs Z) : ∀ k, Z k → w0.heap.size ≤ k ∧ k < w.heap.size := fun k hk => by
  obtain ⟨⟨F, h1, h2, h3, h4, h5, h6⟩, _⟩ := h
  exact h6 k (.inr (.inr hk))
/-- Memory has grown beside it; what is new is the caller's, if he likes. -/
theorem Led.new (h : Led w0 w gl gd gq S Q v rs Z) (hb : Below w.heap.size w w') (hZ : ∀ k, Z' k → Z k ∨ (w.heap.size ≤ k ∧ k < w'.heap.size)) : Led w0 w' gl gd gq S Q v rs Z' := by
  obtain ⟨h1, h2, h3, h4, h5⟩ := h
  have hv : ∀ k, v.ownBlock = some k → k < w.heap.size := fun k hk => by
    obtain ⟨F, a1, a2, a3, a4, a5, a6⟩ := h1
    exact (a6 k (.inr (.inl hk))).2
  refine ⟨h1.ours (.of_below hb) fun k hk => ?_, h2.of_block (hb.block gl h2.lt), h3.below hb, fun e => ?_, fun k hk e => ?_⟩
  · rcases hk with e | e | e
    · exact .inl (.inl e)
    · exact .inl (.inr (.inl e))
    · exact (hZ k e).imp (fun x => .inr (.inr x)) id
  · rcases hZ _ e with e' | e'
    · exact h4 e'
    · have := h2.lt
      omega
  · rcases hZ _ e with e' | e'
    · exact h5 k hk e'
    · have := hv k hk
      omega
theorem Led.below (h : Led w0 w gl gd gq S Q v rs Z) (hb : Below w.heap.size w w') : Led w0 w' gl gd gq S Q v rs Z := h.new hb fun k hk => .inl hk
/-- A box of the caller's is set. -/
theorem Led.put (h : Led w0 w gl gd gq S Q v rs Z) {b : Nat} {t : TypeId} {u : Value} (hz : Z b) (hb : Boxed w b t u) (h1 : t ≠ 5) (h2 : t ≠ 35) (x : Value) : Led w0 (w.setCell ⟨b, 0, none⟩ x) gl gd gq S Q v rs Z := by
  obtain ⟨a1, a2, a3, a4, a5⟩ := h
  have hne : b ≠ gl := fun e => a4 (e ▸ hz)
  have ho : Only (GLd gl v Z) w (w.setCell ⟨b, 0, none⟩ x) := (Only.refl).setCell (a := ⟨b, 0, none⟩) (.inl (.inr (.inr hz))) x
  refine ⟨a1.ours ho fun k hk => .inl hk, a2.setOther (a := ⟨b, 0, none⟩) (fun e => hne e.symm) x, ?_, a4, a5⟩
  refine a3.fr (Ts := fun _ => False) (Bs := fun k => k = b) (Fr.set (Ts := fun _ => False) (Bs := fun k => k = b) (w := w) Fr.refl (B := b) (i := 0) rfl x) id id fun g hg c m => ?_
  obtain rfl : g = b := hg
  exact boxed_other hb h1 h2 c m
theorem Led.cells (h : Led w0 w gl gd gq S Q v rs Z) : w.cell? ⟨gl, 0, none⟩ = some (.pointer (some ⟨gd, 0, none⟩)) ∧ w.cell? ⟨gl, 1, none⟩ = some (.pointer (some ⟨gq, 0, none⟩)) ∧ w.cell? ⟨gl, 2, none⟩ = some v ∧ w.cell? ⟨gl, 3, none⟩ = some (.bool false) :=
  ⟨h.2.1.cell (i := 0) (by omega), h.2.1.cell (i := 1) (by omega), h.2.1.cell (i := 2) (by omega), h.2.1.cell (i := 3) (by omega)⟩
set_option maxRecDepth 100000 in
set_option maxHeartbeats 2000000 in
theorem Led.free (h : Led w0 w gl gd gq S Q v rs Z) : Calls Try.prog 15 #[.pointer (some ⟨gl, 0, none⟩)] w fun e w' => e = .returned (.int .i64 ((Q.behind - Q.ende : Nat) : Int)) ∧ Below w.heap.size w w' := by
  obtain ⟨c0, c1, c2, c3⟩ := h.cells
  have HF := Lib.hid (free_any h.1.box)
  clear h
  go_enter Try.func15, Try.ntmps15
  go_wp2_with (go_at_call 34; refine HF.out.mono ?_; rintro e w' ⟨rfl, hb⟩; have HB := Lib.hid hb; clear hb)
  go_ret
  exact ⟨rfl, HB.out⟩
set_option maxRecDepth 100000 in
set_option maxHeartbeats 2000000 in
theorem Led.gen (h : Led w0 w gl gd gq S Q v rs Z) : Calls Try.prog 13 #[.pointer (some ⟨gl, 0, none⟩)] w fun e w' => e = .returned (.int .u32 (Q.gen : Nat)) ∧ w = w' := by
  obtain ⟨c0, c1, c2, c3⟩ := h.cells
  have HF := Lib.hid (gen_any h.1.box)
  clear h
  go_enter Try.func13, Try.ntmps13
  go_wp2_with (go_at_call 32; refine HF.out.mono ?_; rintro e w' ⟨rfl, rfl⟩)
  go_ret
  exact ⟨rfl, rfl⟩
set_option maxRecDepth 100000 in
set_option maxHeartbeats 2000000 in
theorem Led.records (h : Led w0 w gl gd gq S Q v rs Z) (hf : ∀ r ∈ rs, r.1 ≤ 1000) (hn : rs.length ≤ 200) : Calls Try.prog 17 #[.pointer (some ⟨gl, 0, none⟩)] w fun e w' => (∃ v', e = .returned v' ∧ ListG (fun k => w.heap.size ≤ k ∧ k < w'.heap.size) w' w.heap.size v' rs) ∧ Below w.heap.size w w' := by
  obtain ⟨c0, c1, c2, c3⟩ := h.cells
  obtain ⟨A, c, rfl⟩ := h.2.2.1.form
  have HF := Lib.hid (clonesG_any (h.2.2.1.by_ hf) (fun r hr => Nat.le_trans (hf r hr) (by decide)) (by omega))
  clear h
  go_enter Try.func17, Try.ntmps17
  go_wp2_with (go_at_call 33; refine HF.out.mono ?_; rintro e w' ⟨⟨v', rfl, hr⟩, hb⟩; have HB := Lib.hid hb; have HR := Lib.hid hr; clear hb hr)
  go_ret
  exact ⟨⟨v', rfl, HR.out⟩, HB.out⟩
set_option maxRecDepth 100000 in
set_option maxHeartbeats 2000000 in
theorem Led.used (h : Led w0 w gl gd gq S Q v rs Z) (hn : 2 ≤ S.n) (hn2 : S.n ≤ 512) (hb : Q.behind = Q.first + halfN S.n) : Calls Try.prog 14 #[.pointer (some ⟨gl, 0, none⟩)] w fun e w' => e = .returned (.int .i64 ((Q.ende - Q.first : Nat) : Int)) ∧ Below w.heap.size w w' := by
  obtain ⟨c0, c1, c2, c3⟩ := h.cells
  obtain ⟨F, hF⟩ := h.1.disk.dsk
  have hq := h.1.box.2
  have HH : Hid (∀ u, Below w.heap.size w u → Calls Try.prog 27 #[.pointer (some ⟨gd, 0, none⟩)] u fun e w' => e = .returned (.int .i64 (halfN S.n : Nat)) ∧ u = w') := Lib.hid fun u hu => half_any (hF.keep (fun k hk => hu.block k (hF.lt k hk)) hu.size) hn hn2
  have HFR : Hid (∀ u, Below w.heap.size w u → Calls Try.prog 34 #[.pointer (some ⟨gq, 0, none⟩)] u fun e w' => e = .returned (.int .i64 ((Q.behind - Q.ende : Nat) : Int)) ∧ Below u.heap.size u w') := Lib.hid fun u hu => free_any (h.1.box.below hu)
  have HCL : Hid (∀ u, Below w.heap.size w u → u.cell? ⟨gl, 0, none⟩ = some (.pointer (some ⟨gd, 0, none⟩)) ∧ u.cell? ⟨gl, 1, none⟩ = some (.pointer (some ⟨gq, 0, none⟩))) := Lib.hid fun u hu => ⟨(h.below hu).cells.1, (h.below hu).cells.2.1⟩
  have hE : ((halfN S.n : Nat) : Int) - ((Q.behind - Q.ende : Nat) : Int) = ((Q.ende - Q.first : Nat) : Int) := by
    have := hq.1
    have := hq.2.1
    omega
  have HE : Hid (IntKind.i64.wrap (((halfN S.n : Nat) : Int) - ((Q.behind - Q.ende : Nat) : Int)) = ((Q.ende - Q.first : Nat) : Int)) := Lib.hid (by rw [hE, IntWalk.i64_in _ (by have := hq.2.1; have := hq.2.2.1; omega)])
  have b1 : ((halfN S.n : Nat) : Int) ≤ 1000 := by unfold halfN; omega
  have b2 : ((Q.behind - Q.ende : Nat) : Int) ≤ 1000 := by have := hq.2.2.1; omega
  clear h hF hq hb hE
  go_enter Try.func14, Try.ntmps14
  go_wp2
  go_region_with (first
    | (go_at_call 27; refine (HH.out w.drew (Below.drew_ (Below.refl _ _))).mono ?_; rintro e w2 ⟨rfl, rfl⟩)
    | (go_at_call 34; refine (HFR.out w.drew (Below.drew_ (Below.refl _ _))).mono ?_; rintro e w3 ⟨rfl, hb3⟩; have HB3 := Lib.hid (show Below w.heap.size w w3 from (Below.drew_ (Below.refl _ _)).trans hb3); obtain ⟨d0, d1⟩ := HCL.out w3 HB3.out; clear hb3)
    | (go_at_call 27; refine (HH.out w3 HB3.out).mono ?_; rintro e w2 ⟨rfl, rfl⟩))
  all_goals
    clear c0 c1 c2 c3
    (try simp only [Act.put, List.setIfInBounds_toArray, List.set_cons_zero, List.set_cons_succ, List.getElem_toArray, List.getElem_cons_succ, List.getElem_cons_zero])
    go_wp2
    go_ret
    refine ⟨?_, HB3.out⟩
    show Ending.returned (Value.int IntKind.i64 (IntKind.i64.wrap (((halfN S.n : Nat) : Int) - ((Q.behind - Q.ende : Nat) : Int)))) = _
    rw [HE.out]
end
end Go.Proofs.Ytmcbmbcfgefocaa

/- Contract: load. -/
namespace Go.Proofs.Ytmcbmbcfgefocaa
open Go.RowKit Go.Shelf
set_option linter.unusedSimpArgs false
set_option linter.unusedVariables false

theorem frontAll (A : Option Addr) (n c : Nat) (hc : n ≤ c) (wq : World) (L : Int) (hL : L = n) : (Instr.slice 33 (.slice A n c) none (some (.int .i64 L)) none).run Try.prog wq = .ok (.slice A n c) wq := by
  subst hL
  rw [run_slice_h wq 33 A n c el35 .i64 n (by omega) (by omega), sz35]
  simp only [Result.andThen, sliced, Int.toNat_natCast, Nat.zero_mul, Option.map_some, Nat.sub_zero]
  split
  · rfl
  · cases A <;> rfl
theorem RecsAt.cap {w : World} {base : Nat} {v : Value} {rs : List Rec} (h : RecsAt w base v rs) : ∃ A c, v = .slice A rs.length c ∧ rs.length ≤ c := by
  obtain ⟨vs, h1, _⟩ := h
  rcases h1.2 with ⟨e, h0⟩ | ⟨g, c, cur, e, _, _, hc, _⟩
  · exact ⟨none, 0, by rw [e, h0], by omega⟩
  · exact ⟨_, c, e, by simpa using hc⟩
section
variable {w0 w w' : World} {gl gd gq : Nat} {S S' : DS} {Q Q' : QS} {v : Value} {rs : List Rec} {Z Z' : Nat → Prop}
/-- The disk is too small. -/
theorem load_no {F : Nat → Prop} (h : DskAt F w gd S) (hr : w.rowIs gl 56 4 (lv (some ⟨gd, 0, none⟩) none (.slice none 0 0) false)) (hn : S.n < 18) : Calls Try.prog 24 #[.pointer (some ⟨gl, 0, none⟩)] w fun e w' => e = refE 1 ∧ w = w' := by
  have c0 : w.cell? ⟨gl, 0, none⟩ = some (.pointer (some ⟨gd, 0, none⟩)) := hr.cell (i := 0) (by omega)
  have HS := Lib.hid (gsectors_any h)
  have hi : (S.n : Int) < 18 := by omega
  clear h hr hn
  go_enter Try.func24, Try.ntmps24
  go_wp2_with (go_at_call 42; refine HS.out.mono ?_; rintro e w' ⟨rfl, rfl⟩)
  exact ⟨rfl, rfl, rfl⟩
/-- What load leaves. -/
def Loaded (w0 w w' : World) (gl gd : Nat) (S : DS) (N g : Nat) (Z : Nat → Prop) : Prop :=
  ∃ gq rs en l v, Scn (rdS S) (segQ N g).behind (segQ N g).gen (segQ N g).first 0 rs en l ∧ HeldG w0 w' gd gq S { segQ N g with ende := en, top := topOf (rdS S) (segQ N g).first ((segQ N g).behind - (segQ N g).first) } (fun k => Z k ∨ v.ownBlock = some k) ∧ w'.rowIs gl 56 4 (lv (some ⟨gd, 0, none⟩) (some ⟨gq, 0, none⟩) v false) ∧ RecsAt w' w.heap.size v rs ∧ Kept (fun k => Z k ∧ k ≠ gl) w w'
/-- The segment's field is set. -/
theorem led_seg (hh : HeldG w0 w gd gq S Q Z) (hz : Z gl) {v : Value} {q : Option Addr} (hr : w.rowIs gl 56 4 (lv (some ⟨gd, 0, none⟩) q v false)) : HeldG w0 (w.setCell ⟨gl, 1, none⟩ (.pointer (some ⟨gq, 0, none⟩))) gd gq S Q Z ∧ (w.setCell ⟨gl, 1, none⟩ (.pointer (some ⟨gq, 0, none⟩))).rowIs gl 56 4 (lv (some ⟨gd, 0, none⟩) (some ⟨gq, 0, none⟩) v false) ∧ Kept (fun k => Z k ∧ k ≠ gl) w (w.setCell ⟨gl, 1, none⟩ (.pointer (some ⟨gq, 0, none⟩))) := by
  have ho : Only Z w (w.setCell ⟨gl, 1, none⟩ (.pointer (some ⟨gq, 0, none⟩))) := (Only.refl).setCell (a := ⟨gl, 1, none⟩) (.inl hz) _
  refine ⟨hh.ours ho fun k hk => .inl hk, (hr.set 1 _).congr fun i hi => ?_, fun k hk => Below.heap_setCell w ⟨gl, 1, none⟩ _ k hk.2, ho.size⟩
  rcases (by omega : i = 0 ∨ i = 1 ∨ i = 2 ∨ i = 3) with rfl | rfl | rfl | rfl <;> rfl
/-- The records' field is set. -/
theorem led_recs {w1 : Nat} (hh : HeldG w0 w gd gq S Q (fun k => Z k ∨ (w1 ≤ k ∧ k < w.heap.size))) (hz : Z gl) {b : Nat} {v u : Value} (hr : w.rowIs gl 56 4 (lv (some ⟨gd, 0, none⟩) (some ⟨gq, 0, none⟩) u false)) (hl : RecsAt w b v rs) (hb : w1 ≤ b) : HeldG w0 (w.setCell ⟨gl, 2, none⟩ v) gd gq S Q (fun k => Z k ∨ v.ownBlock = some k) ∧ (w.setCell ⟨gl, 2, none⟩ v).rowIs gl 56 4 (lv (some ⟨gd, 0, none⟩) (some ⟨gq, 0, none⟩) v false) ∧ RecsAt (w.setCell ⟨gl, 2, none⟩ v) b v rs ∧ Kept (fun k => Z k ∧ k ≠ gl) w (w.setCell ⟨gl, 2, none⟩ v) := by
  have ho : Only (fun k => Z k ∨ (w1 ≤ k ∧ k < w.heap.size)) w (w.setCell ⟨gl, 2, none⟩ v) := (Only.refl).setCell (a := ⟨gl, 2, none⟩) (.inl (.inl hz)) _
  refine ⟨hh.ours ho fun k hk => .inl ?_, (hr.set 2 _).congr fun i hi => ?_, ?_, fun k hk => Below.heap_setCell w ⟨gl, 2, none⟩ _ k hk.2, ho.size⟩
  · rcases hk with e | e
    · exact .inl e
    · refine .inr ⟨Nat.le_trans hb (hl.base k e), ?_⟩
      obtain ⟨vs, h1, _⟩ := hl
      rcases h1.2 with ⟨e1, _⟩ | ⟨g, c, cur, e1, _, hgb, _⟩
      · rw [e1] at e; cases e
      · rw [e1] at e
        have : g = k := by simpa [Value.ownBlock] using e
        subst this
        exact (Array.getElem?_eq_some_iff.1 hgb).1
  · rcases (by omega : i = 0 ∨ i = 1 ∨ i = 2 ∨ i = 3) with rfl | rfl | rfl | rfl <;> rfl
  · refine hl.fr (Ts := fun _ => False) (Bs := fun k => k = gl) (Fr.set (Ts := fun _ => False) (Bs := fun k => k = gl) (w := w) Fr.refl (B := gl) (i := 2) rfl v) id id fun g hg c m => ?_
    obtain rfl : g = gl := hg
    obtain ⟨cs, hcs, _⟩ := hr
    rw [hcs]
    exact ⟨fun e => by simp at e, fun e => by simp at e⟩
set_option maxRecDepth 100000 in
set_option maxHeartbeats 4000000 in
theorem load_yes (hD : HeldD w0 w gd S Z) (hz : Z gl) (hr : w.rowIs gl 56 4 (lv (some ⟨gd, 0, none⟩) none (.slice none 0 0) false)) {N g : Nat} (hn : S.n = N) (hN : 18 ≤ N) (hN2 : N ≤ 512) (hgone : S.gone = false) (hld : S.load = (g, 0)) (hg : g < 4294967296) (hfew : ∀ rs en l, Scn (rdS S) (segQ N g).behind (segQ N g).gen (segQ N g).first 0 rs en l → rs.length ≤ 200) :
    Calls Try.prog 24 #[.pointer (some ⟨gl, 0, none⟩)] w fun e w' => e = .returned (.tuple #[]) ∧ Loaded w0 w w' gl gd S N g Z := by
  obtain ⟨F, hF⟩ := hD.dsk
  have HS := Lib.hid (gsectors_any hF)
  have HLD : Hid (Calls Try.prog 43 #[.pointer (some ⟨gd, 0, none⟩)] w fun e w' => e = .returned (.tuple #[.int .u32 (g : Nat), .int .i64 0]) ∧ Below w.heap.size w w') := Lib.hid (by
    have := load_any hF
    unfold LoadPost at this
    rw [hld] at this
    exact this)
  have HSG : Hid (∀ u, Below w.heap.size w u → Calls Try.prog 28 #[.pointer (some ⟨gd, 0, none⟩), .int .u32 (g : Nat)] u fun e w' => SegmPost u w' e gd N g) := Lib.hid fun u hu => segment_any (hF.keep (fun k hk => hu.block k (hF.lt k hk)) hu.size) hn hN hN2 g hg
  have hi : ¬ (S.n : Int) < 18 := by omega
  have HM := Lib.hid (fun u => must_any 0 u)
  have HR := Lib.hid hr
  have HD := Lib.hid hD
  have c0 : w.cell? ⟨gl, 0, none⟩ = some (.pointer (some ⟨gd, 0, none⟩)) := hr.cell (i := 0) (by omega)
  clear hF hr hD hn hld
  go_enter Try.func24, Try.ntmps24
  go_wp2_with (first
    | (go_at_call 42; refine HS.out.mono ?_; rintro e w' ⟨rfl, rfl⟩)
    | (go_at_call 43; refine HLD.out.mono ?_; rintro e w1 ⟨rfl, hb1⟩; have HB1 := Lib.hid hb1; have HR1 := Lib.hid (HR.out.of_block (hb1.block gl HR.out.lt)); clear c0; have c0 : w1.cell? ⟨gl, 0, none⟩ = some (.pointer (some ⟨gd, 0, none⟩)) := HR1.out.cell (i := 0) (by omega); clear hb1)
    | (go_at_call 30; refine (HM.out _).mono ?_; rintro e w3 ⟨rfl, rfl⟩)
    | (go_at_call 28; refine (HSG.out _ HB1.out).mono ?_; rintro e w2 ⟨gq, rfl, h1, h2, h3⟩; have HR2 := Lib.hid (HR1.out.of_block (h3.block gl HR1.out.lt)); have H2 := Lib.hid ((HD.out.below HB1.out).seg h3 h1 h2); have HB2 := Lib.hid (bbt HB1.out h3); clear c0; have c1 : w2.cell? ⟨gl, 1, none⟩ = some (.pointer none) := HR2.out.cell (i := 1) (by omega); have z1 := HR2.out.frozen 1; clear h1 h2 h3))
  obtain ⟨k1, k2, k3⟩ := led_seg H2.out hz HR2.out
  generalize w2.setCell ⟨gl, 1, none⟩ (.pointer (some ⟨gq, 0, none⟩)) = w4 at *
  have HSC := Lib.hid (k1.scanN hgone)
  have HR4 := Lib.hid k2
  have HK4 := Lib.hid k3
  have HF := Lib.hid hfew
  clear c1 z1 k1 k2 k3 hfew
  go_at_call 44
  refine HSC.out.mono ?_
  rintro e w5 ⟨rs, en, v, l, rfl, hs, hre, hh, hk, _⟩
  obtain ⟨A, c, rfl, hc⟩ := hre.cap
  have hlen := HF.out rs en l hs
  have HRE := Lib.hid hre
  have HH := Lib.hid hh
  have HSN := Lib.hid hs
  have HR5 := Lib.hid (HR4.out.of_block (hk.1 gl hz))
  have HK5 := Lib.hid hk
  have c2 : w5.cell? ⟨gl, 2, none⟩ = some (.slice none 0 0) := HR5.out.cell (i := 2) (by omega)
  have z2 := HR5.out.frozen 2
  have HFA := Lib.hid (fun wq L => frontAll A rs.length c hc wq L)
  have hl2 : ((rs.length : Nat) : Int) ≤ 200 := by omega
  clear hs hre hh hk hlen
  go_wp2_with (go_at_call 30; refine (HM.out _).mono ?_; rintro e w3 ⟨rfl, rfl⟩)
  have hmin : (min ((rs.length : Nat) : Int) 200).toNat = rs.length := by omega
  rw [hmin]
  go_end0
  obtain ⟨a1, a2, a3, a4⟩ := led_recs HH.out hz HR5.out HRE.out (Nat.le_refl _)
  have hzl : ∀ k, Z k → k < w.heap.size := by
    obtain ⟨F, d1, d2, d3, d4⟩ := HD.out
    exact fun k hk => (d4 k hk).2
  have hk0 : Kept (fun k => Z k ∧ k ≠ gl) w w2 := Kept.below (fun k hk => hzl k hk.1) HB2.out
  have hk5 : Kept (fun k => Z k ∧ k ≠ gl) w4 _ := ⟨fun k hk => HK5.out.1 k hk.1, HK5.out.2⟩
  exact ⟨rfl, gq, rs, en, l, _, HSN.out, a1, a2, a3.lower (Nat.le_trans hk0.2 HK4.out.2), ((hk0.trans HK4.out).trans hk5).trans a4⟩
end
end Go.Proofs.Ytmcbmbcfgefocaa
