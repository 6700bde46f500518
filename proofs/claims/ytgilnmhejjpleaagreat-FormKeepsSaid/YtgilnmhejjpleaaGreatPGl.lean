/- A problem that came in. -/
import Derived.Test.YtgilnmhejjpleaaGreatPGa
namespace Go.Proofs.YtgilnmhejjpleaaGreat
open Go.RowKit
set_option maxRecDepth 100000
theorem lp_openC {H:Type} {enc:TypeId × Value→H} {W:World} {base b0:Nat} {held:Bool} {r:Reach} {v:Value} {d:DataW H} {p:List MemPlace}(hv:Value.okWide Tryz.prog W r b0 26 v)(h:DataW.Trod enc Tryz.prog W base (fun _=>true) held 26 v d p) : ∃D,LpC W v D:=by
 obtain⟨vc,vr,vl,vh,vo,nc,Xc,ac,bc,m,Y,X,a,b,ha,hb,nl,Xl,al,bl,nh,Xh,ah,bh,no,f,e,h1,h2,h3,h4,h5⟩:=lp_open hv h
 exact⟨⟨⟨nc,Xc,ac,bc⟩,m,Y,X,a,b,ha,hb,⟨nl,Xl,al,bl⟩,⟨nh,Xh,ah,bh⟩,no,f⟩,vc,vr,vl,vh,vo,e,h1,h2,h3,h4,h5⟩
end Go.Proofs.YtgilnmhejjpleaaGreat
