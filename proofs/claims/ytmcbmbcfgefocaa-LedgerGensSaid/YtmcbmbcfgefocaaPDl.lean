/- Contract: Up. -/
import Derived.Test.YtmcbmbcfgefocaaPDj
import Derived.Lib.MinMax
namespace Go.Proofs.Ytmcbmbcfgefocaa
open Go.RowKit

theorem next_l (g : Nat) (l : List Nat) (w : World) (h : Chn w g l) (hl : ∀ c ∈ l, c < 256) :
    Calls Try.prog 36 #[.chan (some g)] w fun e w' => e = .returned (.int .i64 ((l.headD 0 % 3 : Nat) : Int)) ∧ Chn w' g l.tail ∧ Only (· = g) w w' := by
  cases l with
  | nil =>
    refine (next_none g w h).mono ?_
    rintro e w' ⟨rfl, rfl⟩
    exact ⟨rfl, h, Only.refl⟩
  | cons c l => exact next_some g c l w h (hl c (by simp))
/-- What one choice makes of one write. -/
def upOne (U : Nat → Option (Nat → Nat)) (p : Nat × (Nat → Nat)) (c : Nat) : Nat → Option (Nat → Nat) := if c % 3 = 1 then setT U p.1 (some p.2) else if c % 3 = 2 then setT U p.1 none else U
theorem upT_snoc (T : Nat → Option (Nat → Nat)) (P : List (Nat × (Nat → Nat))) (p : Nat × (Nat → Nat)) (cs : List Nat) : upT T (P ++ [p]) cs = upOne (upT T P cs) p ((cs.drop P.length).headD 0) := by
  induction P generalizing T cs with
  | nil =>
    cases cs with
    | nil => rfl
    | cons c cs => rfl
  | cons q P ih =>
    cases cs with
    | nil =>
      show upT T (P ++ [p]) [] = _
      rw [ih]; simp [upT]
    | cons c cs =>
      show upT _ (P ++ [p]) cs = _
      rw [ih]; rfl
theorem upT_take (T : Nat → Option (Nat → Nat)) (P : List (Nat × (Nat → Nat))) (cs : List Nat) : upT T P (cs.take P.length) = upT T P cs := by
  induction P generalizing T cs with
  | nil => rfl
  | cons q P ih =>
    cases cs with
    | nil => rfl
    | cons c cs =>
      show upT _ P (cs.take P.length) = _
      rw [ih]; rfl
theorem range_take (n m : Nat) (f : Nat → Nat) : ((List.range n).map f).take m = (List.range (min n m)).map f := by
  apply List.ext_getElem?
  intro j
  rw [List.getElem?_take]
  by_cases h1 : j < m
  · rw [if_pos h1]
    by_cases h2 : j < n
    · simp [h2, show j < min n m from by omega]
    · simp [h2, show ¬ j < min n m from by omega]
  · rw [if_neg h1]
    simp [show ¬ j < min n m from by omega]
section
variable {F : Nat → Prop} {w w' : World} {gd gt gs ct cs : Nat} {vp : Value} {xs : List Value} {VT VS : Nat → Value} {S S' : DS}
theorem el31 : Try.prog.underlying 35 = some (.slice (Try.prog.elem 35)) := by kernel_rfl
theorem sz31 (w : World) : (sizeOf (Try.prog.elem 35)).run Try.prog w = .ok 1 w := by kernel_rfl
theorem add0 (a : Addr) : a.add 0 = a := by unfold Addr.add; rw [if_pos rfl]
theorem sl31_h (A : Option Addr) (n c : Nat) (k : Int) (h0 : 0 ≤ k) (hk : k ≤ c) (w : World) :
    (Instr.slice 35 (.slice A n c) none (some (.int .i64 k)) none).run Try.prog w = .ok (.slice A k.toNat c) w := by
  rw [run_slice_h w 35 A n c el31 .i64 k h0 (by omega), sz31]
  simp only [Result.andThen, sliced, Nat.zero_mul, Nat.sub_zero]
  cases A with
  | none => simp
  | some a => simp [add0]
/-- Where the loop stands: the first k writes have been gone through. -/
def UpRel (F : Nat → Prop) (gd gt gs : Nat) (vp : Value) (ct : Nat) (S : DS) (l : List Nat) (g : Nat) (w1 wr : World) (k : Nat) (V : Nat → Value) : Prop :=
  k ≤ S.P.length ∧ wr.rowIs gt 35 ct V ∧ (∀ i, i < S.n → SecO (Rw F gd gt gs vp) wr (V i) (upT S.T (S.P.take k) l i)) ∧ Chn wr g (l.drop k) ∧ Only (fun j => j = gt ∨ j = g) w1 wr
theorem UpRel.next {l : List Nat} {g k : Nat} {w1 wr w4 : World} {V V' : Nat → Value} (h : UpRel F gd gt gs vp ct S l g w1 wr k V) {p : Nat × (Nat → Nat)} (hp : S.P[k]? = some p) (ho : Only (fun j => j = gt ∨ j = g) wr w4)
    (hch : Chn w4 g (l.drop (k + 1))) (hrow : w4.rowIs gt 35 ct V') (hV : ∀ i, i < S.n → SecO (Rw F gd gt gs vp) w4 (V' i) (upOne (upT S.T (S.P.take k) l) p ((l.drop k).headD 0) i)) : UpRel F gd gt gs vp ct S l g w1 w4 (k + 1) V' := by
  have hk : k < S.P.length := (List.getElem?_eq_some_iff.1 hp).1
  have e : S.P.take (k + 1) = S.P.take k ++ [p] := by rw [List.take_add_one, hp]; rfl
  refine ⟨hk, hrow, fun i hi => ?_, hch, h.2.2.2.2.trans ho⟩
  rw [e, upT_snoc, List.length_take, Nat.min_eq_left (by omega)]
  exact hV i hi
theorem UpRel.old {l : List Nat} {g k : Nat} {w1 wr w4 : World} {V : Nat → Value} (h : UpRel F gd gt gs vp ct S l g w1 wr k V) (hg : ¬ F g) (ho : Only (fun j => j = gt ∨ j = g) wr w4) {i : Nat} (hi : i < S.n) :
    SecO (Rw F gd gt gs vp) w4 (V i) (upT S.T (S.P.take k) l i) :=
  (h.2.2.1 i hi).keep (fun j hj hl => ho.block j hl (by rintro (e | e); exact hj.2.2.1 e; subst e; exact hg hj.1)) fun _ hj _ => hj
theorem chn_keep {w w' : World} {g : Nat} {l : List Nat} (h : Chn w g l) (e : w'.heap[g]? = w.heap[g]?) : Chn w' g l := by
  obtain ⟨cap, s, r, h⟩ := h
  exact ⟨cap, s, r, e.trans h⟩
theorem up_fin {w0 w1 wr w6 : World} {l : List Nat} {g k : Nat} {V : Nat → Value} {m : Nat} (hd : Dk F w1 gd gt gs ct cs vp xs VT VS S) (hb : Below w0.heap.size w0 w1) (hF : ∀ j, F j → j < w0.heap.size) (hg : g = w0.heap.size) (h : UpRel F gd gt gs vp ct S l g w1 wr k V) (hk : k = S.P.length)
    (ho : Only (fun j => j = gd ∨ j = gs) wr w6) (hse : w6.rowIs gs 35 cs (splV VS 0 m V)) (hm : m = S.n) {l' : List Nat} (hl : l = l'.take S.P.length)
    (hbox : w6.rowIs gd 53 5 (dv (.slice (some ⟨gt, 0, none⟩) S.n ct) (.slice (some ⟨gs, 0, none⟩) S.n cs) (.slice none 0 0) (.bool false) (.int .i64 0))) : DPost F w0 w6 gd (S.up l') := by
  subst hm hk hg
  have hgF : ¬ F w0.heap.size := fun e => Nat.lt_irrefl _ (hF _ e)
  have kb : ∀ j, Rw F gd gt gs vp j → j < wr.heap.size → w6.heap[j]? = wr.heap[j]? := fun j hj hl => ho.block j hl (by rintro (e | e); exact hj.2.1 e; exact hj.2.2.2.1 e)
  have hT : ∀ i, i < S.n → SecO (Rw F gd gt gs (.slice none 0 0)) w6 (V i) (upT S.T S.P l' i) := fun i hi => by
    have := (h.2.2.1 i hi).keep (w' := w6) (R' := Rw F gd gt gs (.slice none 0 0)) kb (fun j hj _ => hj.nil)
    rwa [List.take_of_length_le (Nat.le_refl _), hl, upT_take] at this
  refine ⟨F, ⟨gt, gs, ct, cs, .slice none 0 0, [], V, splV VS 0 S.n V, ?_⟩, ?_, fun j hj => .inl hj⟩
  · exact {
      box := hbox
      th := ho.rowIs h.2.1 (by rintro (e | e); exact hd.dt e.symm; exact hd.ts e)
      se := hse
      pe := World.ownsRow_nil _ _ _ _
      hT := hT
      hS := fun i hi => by
        have hi' : i < S.n := hi
        have e : splV VS 0 S.n V i = V i := by unfold splV; rw [if_pos ⟨by omega, by omega⟩, Nat.sub_zero]
        rw [e]
        exact hT i hi'
      hP := rfl
      n1 := hd.n1
      n2 := hd.n2
      nt := hd.nt
      ns := hd.ns
      lf := by simp [DS.up]
      dt := hd.dt
      ds := hd.ds
      ts := hd.ts
      px := fun k hk => by simp [Value.ownBlock] at hk
      fd := hd.fd
      ft := hd.ft
      fs := hd.fs
      lt := fun j hj => Nat.lt_of_lt_of_le (hd.lt j hj) (Nat.le_trans h.2.2.2.2.size ho.size) }
  · refine ⟨(ho.os.trans h.2.2.2.2.os).trans hb.os, (ho.tape.trans h.2.2.2.2.tape).trans hb.tape, (ho.output.trans h.2.2.2.2.output).trans hb.output, Nat.le_trans hb.size (Nat.le_trans h.2.2.2.2.size ho.size), fun j hj hn => ?_⟩
    have h1 := hb.size
    have h2 := h.2.2.2.2.size
    rw [ho.block j (by omega) (by rintro (e | e) <;> subst e; exact hn hd.fd; exact hn hd.fs), h.2.2.2.2.block j (by omega) (by rintro (e | e); subst e; exact hn hd.ft; omega), hb.block j hj]
set_option maxRecDepth 100000 in
set_option maxHeartbeats 400000 in
theorem up_any (h : Dk F w gd gt gs ct cs vp xs VT VS S) (A : Option Addr) (n c : Nat) (f : Nat → Nat) (hr : Rd .u8 w A n f) (hf : ∀ j, j < n → f j < 256) (hnc : n ≤ c) (hn : n ≤ 1000000) (hP : S.P.length ≤ 1000000) :
    Calls Try.prog 18 #[.pointer (some ⟨gd, 0, none⟩), .slice A n c] w fun e w' => e = .returned (.tuple #[]) ∧ DPost F w w' gd (S.up ((List.range n).map f)) := by
  obtain ⟨pa, pc, rfl⟩ : ∃ pa pc, vp = .slice pa S.P.length pc := by
    rcases h.pe.2 with ⟨e, e2⟩ | ⟨g, c, cur, e, _⟩
    · exact ⟨_, _, by rw [e, e2]⟩
    · exact ⟨_, _, e⟩
  obtain ⟨c0, c1, c2, c3, c4⟩ := dvr h.box
  have HH := Lib.hid h
  obtain ⟨m, hm⟩ : ∃ m, m = min n S.P.length := ⟨_, rfl⟩
  have hsl := fun w => sl31_h A n c (m : Int) (by omega) (by omega) w
  rw [Int.toNat_natCast] at hsl
  have HW := Lib.hid (wait_any A m c f w (hr.less (by omega)) (by omega))
  have HM := Lib.hid hm
  have hmin : min (n : Int) (S.P.length : Int) = (m : Int) := by omega
  have hmL : m ≤ S.P.length := by omega
  obtain ⟨L, hL⟩ : ∃ L, L = S.P.length := ⟨_, rfl⟩
  rw [← hL] at hP c2 hmin HH HM hmL
  have HLL := Lib.hid hL
  clear h hr hL hm
  go_enter Try.func18, Try.ntmps18
  go_wp2_with (
    go_at_call 35; refine HW.out.mono ?_; rintro e w1 ⟨rfl, hch, hb1⟩
    obtain ⟨d0, d1, d2, d3, d4⟩ := dvr (HH.out.box.of_block (hb1.block gd HH.out.box.lt)))
  have HD1 := Lib.hid (HH.out.keep (w' := w1) (fun k hk => hb1.block k (HH.out.lt k hk)) hb1.size)
  have HCH := Lib.hid hch
  have HB1 := Lib.hid hb1
  have HRL := Lib.hid (show UpRel F gd gt gs (.slice pa L pc) ct S ((List.range m).map f) w.heap.size w1 w1 0 VT from ⟨Nat.zero_le _, HD1.out.th, HD1.out.hT, hch, Only.refl⟩)
  have HGF := Lib.hid (show ¬ F w.heap.size from fun e => Nat.lt_irrefl _ (HH.out.lt _ e))
  have HLT := Lib.hid (show ∀ c ∈ (List.range m).map f, c < 256 from fun c hc => by
    simp at hc
    obtain ⟨j, hj, rfl⟩ := hc
    have := HM.out
    exact hf j (by omega))
  have hgs : w.heap.size < w1.heap.size := by
    obtain ⟨_, _, _, e⟩ := hch
    exact heap_lt e
  have HLE := Lib.hid (show (List.range m).map f = ((List.range n).map f).take S.P.length from by rw [range_take, HM.out, HLL.out])
  generalize (List.range m).map f = l at *
  clear hch hb1 c0 c1 c2 c3 c4 d0 d1 d2 d3 d4 hsl hmin hmL hf
  go_loopw [23] (fun v wr => ∃ (k : Nat) (V : Nat → Value), v = .int .i64 k ∧ UpRel F gd gt gs (.slice pa L pc) ct S l w.heap.size w1 wr k V) (fun v _ => L - (intOf v).toNat)
  case atStart => exact ⟨0, VT, rfl, HRL.out⟩
  case round =>
    obtain ⟨k, V, rfl, hrel⟩ := hrel
    have HREL := Lib.hid hrel
    have hkL : k ≤ L := by have := hrel.1; rw [← HLL.out] at this; exact this
    have hs1 := hrel.2.2.2.2.size
    clear hrel
    by_cases hlt : k < L
    · have hne : S.P[k]? = some (S.P[k]'(by rw [← HLL.out]; exact hlt)) := List.getElem?_eq_getElem _
      obtain ⟨⟨i, fp⟩, hp⟩ : ∃ p, S.P[k]? = some p := ⟨_, hne⟩
      have HP := Lib.hid hp
      obtain ⟨hpn, hx0, v, hx1, hv⟩ := HD1.out.hP.at_ k (i, fp) hp
      obtain ⟨gp, cp, hvp⟩ := own_some HD1.out.pe (by rw [← HLL.out]; omega)
      injection hvp with ea eb ec
      subst ea ec
      have hgp := (HD1.out.px gp rfl)
      have hpe := own_keep (w' := wr) HD1.out.pe (fun j hj => by
        injection hj with hj
        have hj' : gp = j := hj
        subst hj'
        exact HREL.out.2.2.2.2.block gp (HD1.out.lt gp hgp.2.2.2) (by rintro (e | e); exact hgp.2.1 e; subst e; exact HGF.out hgp.2.2.2))
      rw [← HLL.out] at hpe
      have y0 := World.ownsRow.cellAt hpe (k * 2) (by omega)
      have y1 := World.ownsRow.cellAt hpe (k * 2 + 1) (by omega)
      rw [hx0] at y0
      rw [hx1] at y1
      obtain ⟨va, vn, vc, rfl⟩ := SecO.form (s := some fp) hv
      have HV := Lib.hid (show Sec (Rw F gd gt gs (.slice (some ⟨gp, 0, none⟩) L pc)) w1 (.slice va vn vc) fp from hv)
      have hpn' : i < S.n := hpn
      have HX := Lib.hid (next_l w.heap.size (l.drop k) (wr.alloc (.cells #[.int .i64 (i : Nat), .slice va vn vc] 68)) (chn_keep HREL.out.2.2.2.1 (Below.heap_alloc _ _ _ (by omega))) (fun c hc => HLT.out c (List.mem_of_mem_drop hc)))
      rw [show (l.drop k).tail = l.drop (k + 1) from by simp] at HX
      have hB := dvr (HD1.out.box.of_block (HREL.out.2.2.2.2.block gd HD1.out.box.lt (by rintro (e | e); exact HD1.out.dt e; subst e; exact HGF.out HD1.out.fd)))
      have hgdl := HD1.out.lt gd HD1.out.fd
      have hgtl := HD1.out.lt gt HD1.out.ft
      have HNE := Lib.hid (show gd ≠ w.heap.size ∧ gt ≠ w.heap.size from ⟨fun e => HGF.out (by rw [← e]; exact HD1.out.fd), fun e => HGF.out (by rw [← e]; exact HD1.out.ft)⟩)
      clear hne hp hpe hx0 hx1 eb hgp hv hpn
      have hq : (l.drop k).headD 0 % 3 = 0 ∨ (l.drop k).headD 0 % 3 = 1 ∨ (l.drop k).headD 0 % 3 = 2 := by omega
      generalize hQ : (l.drop k).headD 0 = q at *
      have HQ := Lib.hid hQ
      clear hQ
      have HBW := Lib.hid ((HD1.out.box.of_block (HREL.out.2.2.2.2.block gd HD1.out.box.lt (by rintro (e | e); exact HD1.out.dt e; exact HNE.out.1 e))).alloc (.cells #[.int .i64 (i : Nat), .slice va vn vc] 68))
      have HRW := Lib.hid (HREL.out.2.1.alloc (.cells #[.int .i64 (i : Nat), .slice va vn vc] 68))
      have hgw : wr.heap.size ≠ w.heap.size := by omega
      have HX0 := Lib.hid (show ∀ w3, Only (· = w.heap.size) (wr.alloc (.cells #[.int .i64 (i : Nat), .slice va vn vc] 68)) w3 → w3.cell? ⟨wr.heap.size, 0, none⟩ = some (.int .i64 (i : Nat)) from fun w3 ho => by
        have := new_cells (w := wr) (cs := [.int .i64 (i : Nat), .slice va vn vc]) (t := 68) 0 _ rfl
        rw [add_mk, Nat.zero_add] at this
        exact ho.cell this hgw)
      have HX1 := Lib.hid (show ∀ w3, Only (· = w.heap.size) (wr.alloc (.cells #[.int .i64 (i : Nat), .slice va vn vc] 68)) w3 → w3.cell? ⟨wr.heap.size, 1, none⟩ = some (.slice va vn vc) from fun w3 ho => by
        have := new_cells (w := wr) (cs := [.int .i64 (i : Nat), .slice va vn vc]) (t := 68) 1 _ rfl
        rw [add_mk, Nat.zero_add] at this
        exact ho.cell this hgw)
      have hct := HD1.out.nt
      clear hgw
      rcases hq with hq | hq | hq
      · rw [hq] at HX
        have HQ3 := Lib.hid hq
        clear hq
        go_wp2_with (go_at_call 36; refine HX.out.mono ?_; rintro e w3 ⟨rfl, hch3, ho3⟩)
        have HO3 := Lib.hid (show Only (fun j => j = gt ∨ j = w.heap.size) wr w3 from (Only.refl.alloc _).trans (ho3.mono fun _ e => .inr e))
        have HC3 := Lib.hid hch3
        have HR3 := Lib.hid (HRW.out.of_block (ho3.block gt HRW.out.lt HNE.out.2))
        clear hch3 ho3
        go_roundw
        case rel => exact ⟨k + 1, V, by go_num, HREL.out.next HP.out HO3.out HC3.out HR3.out (fun j hj => by
          rw [HQ.out]
          simp only [upOne, HQ3.out]
          exact HREL.out.old HGF.out HO3.out hj)⟩
        case measure => simp [intOf]; omega
      · rw [hq] at HX
        have HQ3 := Lib.hid hq
        clear hq
        go_wp2_with (go_at_call 36; refine HX.out.mono ?_; rintro e w3 ⟨rfl, hch3, ho3⟩
                     have hb3 := HBW.out.of_block (ho3.block gd HBW.out.lt HNE.out.1)
                     obtain ⟨e0, e1, e2, e3, e4⟩ := dvr hb3
                     have hr3 := HRW.out.of_block (ho3.block gt HRW.out.lt HNE.out.2)
                     have f0 := hr3.cell (i := i) (by omega)
                     have f1 := hr3.frozen i
                     have x0 := HX0.out w3 ho3
                     have x1 := HX1.out w3 ho3)
        have HO3 := Lib.hid (show Only (fun j => j = gt ∨ j = w.heap.size) wr w3 from (Only.refl.alloc _).trans (ho3.mono fun _ e => .inr e))
        have HC3 := Lib.hid hch3
        have HR3 := Lib.hid hr3
        clear hch3 hr3 ho3 hb3
        go_region
        all_goals
          go_wp2
          go_roundw
          case rel => exact ⟨k + 1, _, by go_num, HREL.out.next HP.out (HO3.out.setCell (a := ⟨gt, i, none⟩) (.inl (.inl rfl)) (.slice va vn vc)).drew (chn_keep HC3.out (Below.heap_setCell _ _ _ _ (fun e => HNE.out.2 e.symm))) (HR3.out.set i (.slice va vn vc)).drew (fun j hj => by
            rw [HQ.out]
            simp only [upOne, HQ3.out]
            simp only [setT, if_true]
            by_cases hji : j = i
            · rw [if_pos hji, if_pos hji]
              exact (HV.out.keep (fun y hy hl => HREL.out.2.2.2.2.block y hl (by rintro (e | e); exact hy.2.2.1 e; subst e; exact HGF.out hy.1)) (fun _ hy _ => hy)).keep (fun y hy hl => (HO3.out.setCell (a := ⟨gt, i, none⟩) (.inl (.inl rfl)) (.slice va vn vc)).drew.block y hl (by rintro (e | e); exact hy.2.2.1 e; subst e; exact HGF.out hy.1)) (fun _ hy _ => hy)
            · rw [if_neg hji, if_neg hji]
              exact HREL.out.old HGF.out (HO3.out.setCell (a := ⟨gt, i, none⟩) (.inl (.inl rfl)) (.slice va vn vc)).drew hj)⟩
          case measure => simp [intOf]; omega
      · rw [hq] at HX
        have HQ3 := Lib.hid hq
        clear hq
        go_wp2_with (go_at_call 36; refine HX.out.mono ?_; rintro e w3 ⟨rfl, hch3, ho3⟩
                     have hb3 := HBW.out.of_block (ho3.block gd HBW.out.lt HNE.out.1)
                     obtain ⟨e0, e1, e2, e3, e4⟩ := dvr hb3
                     have hr3 := HRW.out.of_block (ho3.block gt HRW.out.lt HNE.out.2)
                     have f0 := hr3.cell (i := i) (by omega)
                     have f1 := hr3.frozen i
                     have x0 := HX0.out w3 ho3
                     have x1 := HX1.out w3 ho3)
        have HO3 := Lib.hid (show Only (fun j => j = gt ∨ j = w.heap.size) wr w3 from (Only.refl.alloc _).trans (ho3.mono fun _ e => .inr e))
        have HC3 := Lib.hid hch3
        have HR3 := Lib.hid hr3
        clear hch3 hr3 ho3 hb3
        go_region
        all_goals
          go_wp2
          go_roundw
          case rel => exact ⟨k + 1, _, by go_num, HREL.out.next HP.out (HO3.out.setCell (a := ⟨gt, i, none⟩) (.inl (.inl rfl)) (.slice none 0 0)).drew (chn_keep HC3.out (Below.heap_setCell _ _ _ _ (fun e => HNE.out.2 e.symm))) (HR3.out.set i (.slice none 0 0)).drew (fun j hj => by
            rw [HQ.out]
            simp only [upOne, HQ3.out]
            simp only [setT, if_true, reduceIte, show ¬ (2 : Nat) = 1 from by decide, ]
            by_cases hji : j = i
            · rw [if_pos hji, if_pos hji]
              rfl
            · rw [if_neg hji, if_neg hji]
              exact HREL.out.old HGF.out (HO3.out.setCell (a := ⟨gt, i, none⟩) (.inl (.inl rfl)) (.slice none 0 0)).drew hj)⟩
          case measure => simp [intOf]; omega
    · obtain rfl : k = L := by omega
      have hrx : wr.rowIs gd _ 5 _ := HD1.out.box.of_block (HREL.out.2.2.2.2.block gd HD1.out.box.lt (by rintro (e | e); exact HD1.out.dt e; subst e; exact HGF.out HD1.out.fd))
      have HBR := Lib.hid hrx
      obtain ⟨d0, d1, d2, d3, d4⟩ := dvr hrx
      have HSR := Lib.hid (HD1.out.se.of_block (HREL.out.2.2.2.2.block gs HD1.out.se.lt (by rintro (e | e); exact HD1.out.ts e.symm; subst e; exact HGF.out HD1.out.fs)))
      have QM := Lib.hid (show S.n = Nat.min S.n S.n from (Nat.min_self _).symm)
      have QS := Lib.hid (show ∀ j, j < S.n → wr.drew.cell? ((⟨gt, 0, none⟩ : Addr).add j) = some (V j) from fun j hj => by
        rw [add_mk, Nat.zero_add]; exact HREL.out.2.1.drew.cell (by have := HD1.out.nt; omega))
      have QV := Lib.hid (show ∀ j, j < S.n → (V j).oneCell' = true from fun j hj => by
        obtain ⟨a, m, c, e⟩ := (HREL.out.2.2.1 j hj).form
        rw [e]; rfl)
      have QF := Lib.hid (show 0 + S.n ≤ cs from by have := HD1.out.ns; omega)
      clear hrx
      go_wp2
      go_region_law (
        refine step_copy_rowIs rfl (.tmp 53) (.tmp 57) 33 33 rfl 35 Try.underlying33 rows_size gs 0 S.n cs ⟨gt, 0, none⟩ S.n ct (by simp [Act.eval]) (by simp [Act.eval]) 35 cs VS HSR.out.drew V S.n QM.out QS.out QV.out QF.out ?_
        intro w2 hse2 hg2 hs2)
      all_goals
        have hb2 := HBR.out.drew.of_block (hg2.block gd HBR.out.lt (fun e => by injection e with e; exact HD1.out.ds e))
        have HB2 := Lib.hid (dv_set4 (dv_set3 (dv_set2 hb2 (.slice none 0 0)) (.bool false)) (.int .i64 0))
        obtain ⟨e0, e1, e2, e3, e4⟩ := dvr hb2
        have z2 := hb2.frozen 2
        have z3 := hb2.frozen 3
        have z4 := hb2.frozen 4
        have hne : gs ≠ gd := fun e => HD1.out.ds e.symm
        have HSE2 := Lib.hid (((hse2.setOther (a := ⟨gd, 2, none⟩) hne (.slice none 0 0)).setOther (a := ⟨gd, 3, none⟩) hne (.bool false)).setOther (a := ⟨gd, 4, none⟩) hne (.int .i64 0))
        have HO2 := Lib.hid ((((((Only.refl (F := fun k => k = gd ∨ k = gs) (w := wr)).drew).grown hg2 (fun k hk => by injection hk with hk; exact .inl (.inr hk.symm))).setCell (a := ⟨gd, 2, none⟩) (.inl (.inl rfl)) (.slice none 0 0)).setCell (a := ⟨gd, 3, none⟩) (.inl (.inl rfl)) (.bool false)).setCell (a := ⟨gd, 4, none⟩) (.inl (.inl rfl)) (.int .i64 0))
        clear hse2 hg2 hs2 hb2 d0 d1 d2 d3 d4 hne
        go_wp2
        go_end0
        exact ⟨rfl, up_fin HD1.out HB1.out HH.out.lt rfl HREL.out HLL.out HO2.out HSE2.out rfl (HLE.out) HB2.out⟩
end
end Go.Proofs.Ytmcbmbcfgefocaa

/- A disk, and what lies beside it: the contracts in one word. -/
namespace Go.Proofs.Ytmcbmbcfgefocaa
open Go.RowKit

def Any : Nat → Prop := fun _ => True
/-- A disk, all of it new behind w0; and a saying on memory beside it, which stays whatever is done to the disk. -/
def Held (w0 w : World) (gd : Nat) (S : DS) (Φ : World → Prop) : Prop :=
  ∃ F Z : Nat → Prop, DskAt F w gd S ∧ Below w0.heap.size w0 w ∧ (∀ k, F k → w0.heap.size ≤ k ∧ ¬ Z k) ∧ (∀ k, Z k → k < w.heap.size) ∧ ∀ w', (∀ k, Z k → w'.heap[k]? = w.heap[k]?) → w.heap.size ≤ w'.heap.size → Φ w'
def DS.write (S : DS) (i : Int) (f : Nat → Nat) : DS × Int :=
  if S.gone then (S, 4) else if hasB S.n i then if S.ok then (S.begun.wrote i.toNat f, 0) else (S.begun, 4) else (S, 1)
def DS.flush (S : DS) : DS × Int := if S.gone then (S, 4) else if S.ok then (S.begun.flushed, 0) else (S.begun, 4)
section
variable {F : Nat → Prop} {w0 w w' : World} {gd : Nat} {S S' : DS} {Φ Ψ : World → Prop}
theorem DskAt.lt (h : DskAt F w gd S) : ∀ k, F k → k < w.heap.size := by
  obtain ⟨_, _, _, _, _, _, _, _, h⟩ := h
  exact h.lt
theorem DskAt.keep (h : DskAt F w gd S) (hb : ∀ k, F k → w'.heap[k]? = w.heap[k]?) (hs : w.heap.size ≤ w'.heap.size) : DskAt F w' gd S := by
  obtain ⟨_, _, _, _, _, _, _, _, h⟩ := h
  exact ⟨_, _, _, _, _, _, _, _, h.keep hb hs⟩
theorem DPost.stay (h : DskAt F w gd S) : DPost F w w gd S := ⟨F, h, Only.refl, fun _ hk => .inl hk⟩
theorem DPost.box {gt gs ct cs : Nat} {vp : Value} {xs : List Value} {VT VS : Nat → Value} (h : Dk F w' gd gt gs ct cs vp xs VT VS S) (ho : Only (· = gd) w w') : DPost F w w' gd S :=
  ⟨F, ⟨_, _, _, _, _, _, _, _, h⟩, ho.mono (by rintro k rfl; exact h.fd), fun _ hk => .inl hk⟩
theorem held_new (n : Nat) (h1 : 1 ≤ n) (h2 : n ≤ 512) (hb : Below w0.heap.size w0 w) :
    Calls Try.prog 8 #[.int .i64 (n : Nat)] w fun e w' => ∃ gd, e = .returned (.tuple #[.pointer (some ⟨gd, 0, none⟩), .int .i64 0]) ∧ Held w0 w' gd (DS.new n) fun _ => True := by
  refine (new_any n w h1 h2).mono ?_
  rintro e w' ⟨gd, F, rfl, hF, hn, hb2⟩
  exact ⟨gd, rfl, F, fun _ => False, hF, bbt hb hb2, fun k hk => ⟨by have := hn k hk; have := hb.size; omega, id⟩, fun _ h => h.elim, fun _ _ _ => trivial⟩
end
end Go.Proofs.Ytmcbmbcfgefocaa
