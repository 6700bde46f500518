/- Merged of Co,Cp,De. -/
import Derived.Test.YtgilnmhejjpleaaGreatPNat0
import Derived.Test.YtgilnmhejjpleaaGreatPNatA
namespace Go.Proofs.YtgilnmhejjpleaaGreat
open Go.RowKit
theorem trimmed_of_low {f:Nat→Nat} {n:Nat}(hf : ∀j,j<n→f j<4294967296)(h:n=0∨4294967296 ^ (n - 1)≤num 4294967296 f n):Trimmed f n:=by
 rcases h with h | h
 ·exact .inl h
 ·by_cases hn:n=0
  ·exact .inl hn
  ·right
   intro h0
   obtain⟨k,rfl⟩ : ∃k,n=k+1:=⟨n - 1,by omega⟩
   simp only [Nat.add_sub_cancel] at h h0
   rw [num_succ,h0] at h
   have:=num_lt (B:=4294967296) (f:=f) j0a k fun j hj=>hf j j0a
   omega
theorem u32_info':(Tryz.prog.info? 117).map (fun i=>(i.zero,i.size,i.bytes))=some (some (.int .u32 0),1,4):=by kernel_rfl
end Go.Proofs.YtgilnmhejjpleaaGreat
namespace Go.Proofs.YtgilnmhejjpleaaGreat
open Go.RowKit
end Go.Proofs.YtgilnmhejjpleaaGreat
namespace Go.Proofs.YtgilnmhejjpleaaGreat
open Go.RowKit
end Go.Proofs.YtgilnmhejjpleaaGreat
