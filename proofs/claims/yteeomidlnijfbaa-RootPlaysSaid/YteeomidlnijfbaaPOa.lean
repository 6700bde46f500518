/- A disk, and what lies beside it: the contracts in one word. -/
import Derived.Test.YteeomidlnijfbaaPDk
import Derived.Test.YteeomidlnijfbaaPKx
import Derived.Lib.SlBytesConst
namespace Go.Proofs.Yteeomidlnijfbaa
open Go.RowKit

def Any : Nat → Prop := fun _ => True
/-- A disk, all of it new behind w0; and a saying on memory beside it, which stays whatever is done to the disk. -/
def Held (w0 w : World) (gd : Nat) (S : DS) (Φ : World → Prop) : Prop :=
  ∃ F Z : Nat → Prop, DskAt F w gd S ∧ Below w0.heap.size w0 w ∧ (∀ k, F k → w0.heap.size ≤ k ∧ ¬ Z k) ∧ (∀ k, Z k → k < w.heap.size) ∧ ∀ w', (∀ k, Z k → w'.heap[k]? = w.heap[k]?) → w.heap.size ≤ w'.heap.size → Φ w'
def DS.write (S : DS) (i : Int) (f : Nat → Nat) : DS × Int :=
  if S.gone then (S, 4) else if hasB S.n i then if S.ok then (S.begun.wrote i.toNat f, 0) else (S.begun, 4) else (S, 1)
def DS.flush (S : DS) : DS × Int := if S.gone then (S, 4) else if S.ok then (S.begun.flushed, 0) else (S.begun, 4)
section
variable {F : Nat → Prop} {w0 w w' : World} {gd : Nat} {S S' : DS} {Φ Ψ : World → Prop}
theorem DskAt.lt (h : DskAt F w gd S) : ∀ k, F k → k < w.heap.size := by
  obtain ⟨_, _, _, _, _, _, _, _, h⟩ := h
  exact h.lt
theorem DskAt.keep (h : DskAt F w gd S) (hb : ∀ k, F k → w'.heap[k]? = w.heap[k]?) (hs : w.heap.size ≤ w'.heap.size) : DskAt F w' gd S := by
  obtain ⟨_, _, _, _, _, _, _, _, h⟩ := h
  exact ⟨_, _, _, _, _, _, _, _, h.keep hb hs⟩
theorem Held.bel (h : Held w0 w gd S Φ) : Below w0.heap.size w0 w := by
  obtain ⟨F, Z, h1, h2, h3, h4, h5⟩ := h
  exact h2
/-- Memory has grown beside the disk, and more is known of it. -/
theorem Held.more (h : Held w0 w gd S Φ) (hb : Below w.heap.size w w') (hp : ∀ u, (∀ k, w.heap.size ≤ k → k < w'.heap.size → u.heap[k]? = w'.heap[k]?) → w'.heap.size ≤ u.heap.size → Ψ u) : Held w0 w' gd S fun u => Φ u ∧ Ψ u := by
  obtain ⟨F, Z, h1, h2, h3, h4, h5⟩ := h
  have hl := h1.lt
  have hs := hb.size
  refine ⟨F, fun k => Z k ∨ (w.heap.size ≤ k ∧ k < w'.heap.size), h1.keep (fun k hk => hb.block k (hl k hk)) hs, bbt h2 hb, fun k hk => ⟨(h3 k hk).1, ?_⟩, fun k hk => ?_, fun u hu hsz => ⟨?_, ?_⟩⟩
  · rintro (e | e)
    · exact (h3 k hk).2 e
    · have := hl k hk; omega
  · rcases hk with e | e
    · have := h4 k e; omega
    · exact e.2
  · exact h5 u (fun k hk => (hu k (.inl hk)).trans (hb.block k (h4 k hk))) (by omega)
  · exact hp u (fun k hk hk2 => hu k (.inr ⟨hk, hk2⟩)) hsz
theorem Held.imp (h : Held w0 w gd S Φ) (hp : ∀ u, Φ u → Ψ u) : Held w0 w gd S Ψ := by
  obtain ⟨F, Z, h1, h2, h3, h4, h5⟩ := h
  exact ⟨F, Z, h1, h2, h3, h4, fun u a b => hp u (h5 u a b)⟩
theorem Held.below (h : Held w0 w gd S Φ) (hb : Below w.heap.size w w') : Held w0 w' gd S Φ :=
  (h.more (Ψ := fun _ => True) hb (fun _ _ _ => trivial)).imp fun _ h => h.1
theorem DPost.stay (h : DskAt F w gd S) : DPost F w w gd S := ⟨F, h, Only.refl, fun _ hk => .inl hk⟩
theorem DPost.box {gt gs ct cs : Nat} {vp : Value} {xs : List Value} {VT VS : Nat → Value} (h : Dk F w' gd gt gs ct cs vp xs VT VS S) (ho : Only (· = gd) w w') : DPost F w w' gd S :=
  ⟨F, ⟨_, _, _, _, _, _, _, _, h⟩, ho.mono (by rintro k rfl; exact h.fd), fun _ hk => .inl hk⟩
/-- An operation on the disk. -/
theorem Held.post (h : Held w0 w gd S Φ) {f : FuncId} {args : Array Value} {R : Ending → Prop} (hp : ∀ F, DskAt F w gd S → (∀ w1, Only F w w1 → Φ w1) → Calls Try.prog f args w fun e w' => R e ∧ DPost F w w' gd S') :
    Calls Try.prog f args w fun e w' => R e ∧ Held w0 w' gd S' Φ := by
  obtain ⟨F, Z, h1, h2, h3, h4, h5⟩ := h
  have hl := h1.lt
  have key : ∀ w1, Only F w w1 → ∀ k, Z k → w1.heap[k]? = w.heap[k]? := fun w1 ho k hk => ho.block k (h4 k hk) fun e => (h3 k e).2 hk
  refine (hp F h1 (fun w1 ho => h5 w1 (key w1 ho) ho.size)).mono ?_
  rintro e w' ⟨hR, F', d1, d2, d3⟩
  refine ⟨hR, F', Z, d1, h2.trans (d2.below h2.size fun k hk => (h3 k hk).1), fun k hk => ?_, fun k hk => Nat.lt_of_lt_of_le (h4 k hk) d2.size, fun u hu hs => h5 u (fun k hk => (hu k hk).trans (key w' d2 k hk)) (Nat.le_trans d2.size hs)⟩
  have h2s := h2.size
  rcases d3 k hk with e | e
  · exact h3 k e
  · exact ⟨by omega, fun hz => by have := h4 k hz; omega⟩
theorem Held.up (h : Held w0 w gd S Φ) (hP : S.P.length ≤ 1000000) (A : Option Addr) (n c : Nat) (f : Nat → Nat) (hr : Rd .u8 w A n f) (hf : ∀ j, j < n → f j < 256) (hnc : n ≤ c) (hn : n ≤ 1000000) :
    Calls Try.prog 18 #[.pointer (some ⟨gd, 0, none⟩), .slice A n c] w fun e w' => e = .returned (.tuple #[]) ∧ Held w0 w' gd (S.up ((List.range n).map f)) Φ := by
  refine h.post (R := fun e => e = .returned (.tuple #[])) fun F hF hs => ?_
  obtain ⟨gt, gs, ct, cs, vp, xs, VT, VS, hd⟩ := id hF
  exact up_any hd A n c f hr hf hnc hn hP
theorem Img.any {G : Nat → Prop} {w : World} {v : Value} {n : Nat} {T : Nat → Option (Nat → Nat)} (h : Img G w v n T) : Img Any w v n T := by
  obtain ⟨g, c, V, rfl, h1, h2, h3, h4, h5⟩ := h
  exact ⟨g, c, V, rfl, h1, trivial, h3, h4, fun i hi => (h5 i hi).keep (fun _ _ _ => rfl) fun _ _ _ => trivial⟩
theorem held_new (n : Nat) (h1 : 1 ≤ n) (h2 : n ≤ 512) (hb : Below w0.heap.size w0 w) :
    Calls Try.prog 12 #[.int .i64 (n : Nat)] w fun e w' => ∃ gd, e = .returned (.tuple #[.pointer (some ⟨gd, 0, none⟩), .int .i64 0]) ∧ Held w0 w' gd (DS.new n) fun _ => True := by
  refine (new_any n w h1 h2).mono ?_
  rintro e w' ⟨gd, F, rfl, hF, hn, hb2⟩
  exact ⟨gd, rfl, F, fun _ => False, hF, bbt hb hb2, fun k hk => ⟨by have := hn k hk; have := hb.size; omega, id⟩, fun _ h => h.elim, fun _ _ _ => trivial⟩
end
end Go.Proofs.Yteeomidlnijfbaa

/- Contracts: bytes.Equal of rows of 64 bytes; a root's home; a root as a sector. -/
namespace Go.Proofs.Yteeomidlnijfbaa
open Go.RowKit
set_option linter.unusedSimpArgs false
set_option linter.unusedVariables false

theorem str_same {f h : Nat → Nat} {n : Nat} (hf : ∀ j, j < n → f j < 256) (hh : ∀ j, j < n → h j < 256) : (strOfNums (intsOf f n)).toList = (strOfNums (intsOf h n)).toList ↔ ∀ j, j < n → f j = h j := by
  rw [Lib.strOfNums_toList, Lib.strOfNums_toList]
  unfold Lib.bytesOf intsOf
  constructor
  · intro e j hj
    have e2 := congrArg (fun b : List UInt8 => b[j]?) e
    simp [hj] at e2
    have h3 := congrArg UInt8.toNat e2
    have := hf j hj
    have := hh j hj
    simp at h3
    omega
  · intro e
    apply List.ext_getElem?
    intro j
    by_cases hj : j < n
    · simp [hj, e j hj]
    · rw [List.getElem?_eq_none (by simp; omega), List.getElem?_eq_none (by simp; omega)]
theorem conv_bytes {w : World} {ad : Addr} {n c : Nat} {f : Nat → Nat} (hr : Rd .u8 w (some ad) n f) : (convert 35 9 (.slice (some ad) n c)).run Try.prog w = .ok (.string (strOfNums (intsOf f n))) w := by
  have hl : (loadCells ad n).run Try.prog w = .ok ((intsOf f n).map (Value.int .u8)).toArray w := by
    have := run_loadCells_list (P := Try.prog) w ad ((intsOf f n).map (Value.int .u8)) (fun j v hj => by
      have hjl : j < n := by
        rcases Nat.lt_or_ge j n with h | h
        · exact h
        · rw [List.getElem?_eq_none (by simp [intsOf]; exact h)] at hj; cases hj
      rw [hr.at_ hjl]
      simp [intsOf, hjl] at hj
      subst hj
      rfl)
    simpa [intsOf] using this
  rw [run_convert_bytes_string w 35 9 5 (some ad) n c Try.underlying35 Try.underlying5 Try.underlying9, run_bytesToString w _ n c (intsOf f n) hl, foldl_push_bytes]
  simp [strOfNums]
set_option maxRecDepth 100000 in
theorem equal64 {w : World} {A B : Option Addr} {c d : Nat} {f h : Nat → Nat} (ha : Byt w (.slice A 64 c) 64 f) (hb : Byt w (.slice B 64 d) 64 h) :
    Calls Try.prog 73 #[.slice A 64 c, .slice B 64 d] w fun e w' => (∃ b, e = .returned (.bool b) ∧ (b = true ↔ ∀ j, j < 64 → f j = h j)) ∧ w = w' := by
  obtain ⟨A', c', e, _, hr, hf⟩ := ha
  cases e
  obtain ⟨B', d', e, _, hs, hh⟩ := hb
  cases e
  have HI := Lib.hid (str_same hf hh)
  obtain ⟨ad, rfl, _⟩ := hr 0 (by omega)
  obtain ⟨bd, rfl, _⟩ := hs 0 (by omega)
  have h1 : (convert 35 9 (.slice (some ad) 64 c)).run Try.prog w = .ok (.string (strOfNums (intsOf f 64))) w := conv_bytes hr
  have h2 : (convert 35 9 (.slice (some bd) 64 d)).run Try.prog w = .ok (.string (strOfNums (intsOf h 64))) w := conv_bytes hs
  generalize strOfNums (intsOf f 64) = x at *
  generalize strOfNums (intsOf h 64) = y at *
  clear hr hs hf hh
  go_enter Try.func73, Try.ntmps73
  go_wp2
  go_ret
  refine ⟨⟨_, rfl, ?_⟩, rfl⟩
  rw [← HI.out]
  try simp
def homeP (g : Int) (w w' : World) (e : Ending) : Prop := e = .returned (.int .i64 (g % 2)) ∧ w = w'
theorem home_any {g : Int} (w : World) (hg : u32I g) : Calls Try.prog 52 #[.int .u32 g] w fun e w' => homeP g w w' e := by
  unfold u32I at hg
  have h1 : g.tmod 2 = g % 2 := by rw [Int.tmod_eq_emod_of_nonneg hg.1]
  have h0 : 0 ≤ g % 2 ∧ g % 2 < 2 := by omega
  obtain ⟨h2, h3⟩ := hg
  go_enter Try.func52, Try.ntmps52
  go_wp2
  go_ret
  exact ⟨rfl, rfl⟩
/-- A root's data, and its sector. -/
def rootW : Nat → Nat := fun j => if j = 0 then 114 else if j = 1 then 111 else if j = 2 then 111 else 116
def rootF (g : Nat) : Nat → Nat := sectF g 0 0 1 4 rootW
theorem rootW_lt : ∀ j, j < 4 → rootW j < 256 := fun j _ => by unfold rootW; split <;> (try split) <;> (try split) <;> omega
theorem root_may : mayP 0 1 4 := by unfold mayP; omega
set_option maxRecDepth 100000 in
theorem encode_root {g : Int} (w : World) (hg : u32I g) : Calls Try.prog 51 #[.int .u32 g] w fun e w' => (∃ v, e = .returned (.tuple #[v, .int .i64 0]) ∧ Byt w' v 64 (rootF g.toNat)) ∧ Below w.heap.size w w' := by
  have HB := Lib.hid (below_new w (.cells #[.int .u8 114, .int .u8 111, .int .u8 111, .int .u8 116] 5 (4, 5)))
  have HR : Hid (Rd .u8 (w.alloc (.cells #[.int .u8 114, .int .u8 111, .int .u8 111, .int .u8 116] 5 (4, 5))) (some ⟨w.heap.size, 0, none⟩) 4 rootW) := fun j hj => ⟨_, rfl, by
    rw [add_mk, Nat.zero_add, World.cell?_alloc_mark]
    rcases (by omega : j = 0 ∨ j = 1 ∨ j = 2 ∨ j = 3) with rfl | rfl | rfl | rfl <;> rfl⟩
  have HE : Hid (Calls Try.prog 68 #[cellI g 0 0 1 (some ⟨w.heap.size, 0, none⟩) 4 4] (w.alloc (.cells #[.int .u8 114, .int .u8 111, .int .u8 111, .int .u8 116] 5 (4, 5))) fun e w' => (∃ v, e = .returned (.tuple #[v, .int .i64 0]) ∧ Byt w' v 64 (rootF g.toNat)) ∧ Below (w.alloc (.cells #[.int .u8 114, .int .u8 111, .int .u8 111, .int .u8 116] 5 (4, 5))).heap.size (w.alloc (.cells #[.int .u8 114, .int .u8 111, .int .u8 111, .int .u8 116] 5 (4, 5))) w') := encode_i hg (by unfold u32I; omega) HR.out rootW_lt root_may
  have kc := fun (w : World) (C : Array Value) (n c : Nat) => Lib.run_convert_bytes_const (P := Try.prog) w 35 5 C n c Try.underlying35 Try.underlying5
  go_enter Try.func51, Try.ntmps51
  go_wp2_with (go_at_call 68; refine HE.out.mono ?_; rintro e w2 ⟨⟨v, rfl, hv⟩, hb⟩; have HV := Lib.hid hv; have HB2 := Lib.hid hb; clear hv hb)
  go_ret2
  exact ⟨⟨_, rfl, HV.out⟩, bbt HB.out HB2.out⟩
end Go.Proofs.Yteeomidlnijfbaa
