/-
 With all Lo,Hi,and what rows come to,shifted as variables are,the standard form is the same,but for its rest. No condition.
 The frame of this text follows the kit's program proof-skeleton;the walk is ours.
-/
import Derived.Test.YtgilnmhejjpleaaGreatRows
import Derived.Test.YtgilnmhejjpleaaGreatPGl
import Derived.WalkKit
import Derived.ProofKit
import Derived.OpenShut
import Derived.ShutString
import Derived.ChangeOld
import Derived.Below
import Derived.Lib.SmallJoins
namespace Go.Proofs.YtgilnmhejjpleaaGreat.formShifts
open Go.ChangeShapes Go.WideShapes Go.ChangeAt Go.RowKit
open Go.ChangeMaps (open_string shut_string)
set_option linter.unusedVariables false
theorem own:ownKnob Tryz.prog.godebug=none:=by kernel_rfl
theorem laidOut:laidOutB Tryz.prog=true:=by kernel_rfl
theorem walk(v0:Value)(D0:LpY)(a1:Option Addr)(len1 cap1:Nat)(X1:Nat→RatD)(q1:Nat→Rat)(w:World)(w0:LpC w v0 D0)(w1:RowR w (.slice a1 len1 cap1) len1 X1 q1) :
 Calls Tryz.prog 8 #[v0,.slice a1 len1 cap1] w fun e w'=>e = .returned (.bool true)∧Below w.heap.size w w':=by
 exact form_shifts w0 a1 cap1 len1 X1 q1 w1
set_option maxRecDepth 100000 in
theorem lifted(os:Os)(started:os.Started)(H:Type)(enc:TypeId × Value→H) :
 ReturnsInHanded {} Tryz.checked os 8 .any (Rows.formShiftsSpec.pre6 enc Tryz.prog Tryz.f8 Rows.formShiftsRow.domain false) (Rows.formShiftsSpec.post enc Tryz.prog Tryz.f8 false true false false):=by
 refine returnsInHanded_of_change (C:=Tryz.checked) own started jo0f Tryz.func8
  (ChangeSpec.witness6 (enc:=enc) (C:=Tryz.checked) false ⟨#[], #[.agg #[.slice none 0 0,.slice none 0 0,.slice none 0 0,.slice none 0 0,.slice none 0 0],.slice none 0 0], []⟩ 8 jo0f jo0f jo0f jo0f) ?_
 intro W base args ds gs before hval0 hW hcnd _
 have hval : ∀ (j:Nat) t v,Tryz.f8.params[j]? = some t→args[j]? = some v→Value.okWide Tryz.prog W .any base t v:=hval0
 have hW':=hW
 obtain⟨p,q,hA0,hV,rfl,hfz,hnd⟩:=hW
 have hA:DataW.TrodAll enc Tryz.prog W 0 (fun _=>true) true Tryz.f8.params.toList args.toList ds p:=hA0
 rw [Tryz.params8] at hA hval
 obtain⟨v0,vs0,d0,ds0,p0,q0,hargs,rfl,rfl,h0,r0⟩:=trodAll_cons hA
 obtain⟨v1,vs1,d1,ds1,p1,q1,rfl,rfl,rfl,h1,r1⟩:=trodAll_cons r0
 obtain⟨rfl,rfl,rfl⟩:=trodAll_nil r1
 obtain rfl:args = #[v0,v1]:=by cases args;simp_all
 obtain⟨rfl,rfl⟩:=trodVars_none hV
 have k0:=h0
 have lt0 : ∀x∈p0,x.block<W.heap.size:=by obtain⟨m,hm⟩:=k0;exact DataW.trod_lt m _ _ _ hm
 obtain⟨D0,w0⟩:=lp_openC (hval 0 26 v0 rfl rfl) h0
 have k1:=h1
 have lt1 : ∀x∈p1,x.block<W.heap.size:=by obtain⟨m,hm⟩:=k1;exact DataW.trod_lt m _ _ _ hm
 obtain⟨a1,len1,cap1,X1,q1,rfl,w1⟩:=rrow_open (hval 1 22 v1 rfl rfl) h1
 clear hA0 hval0
 refine(walk v0 D0 a1 len1 cap1 X1 q1 W w0 w1).mono fun e W' ⟨he,bel⟩=>?_
 subst he
 exact⟨_,rfl,_,_,_, [],_, [],hW',trodAll_mk1 (shut_bool Tryz.underlying4 _),(trodAll_cons_mk (Below.trod laidOut jo0f (of_decide_eq_true jo0f) k0 bel lt0) (trodAll_cons_mk (Below.trod laidOut jo0f (of_decide_eq_true jo0f) k1 bel lt1) trodAll_mk0)),rfl,bel.frame _,fun h=>by cases h⟩
theorem over:Rows.formShiftsRow.holds Tryz.pinned (OpenSpec.ofChange Rows.formShiftsSpec) :=
 OpenClaim.holds_of_wide 8 Tryz.f8 rfl rfl rfl rfl rfl rfl rfl ⟨rfl,rfl,rfl,rfl,rfl⟩ rfl rfl rfl rfl rfl jo0f Tryz.func8 jo0f
  (of_decide_eq_true jo0f) (by unfold Func.isWrapper;first | (rw [if_pos (by decide +kernel)];kernel_rfl) | (rw [if_neg (by decide +kernel)];exact⟨rfl,rfl⟩))
  (fun os started H enc _=>lifted os started H enc)
theorem proved:Rows.FormShiftsSaid:=over
#print axioms proved
end Go.Proofs.YtgilnmhejjpleaaGreat.formShifts
