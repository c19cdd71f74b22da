/- The document's Same: are two lists the same? -/
import Derived.Test.YtaaoamkagppodaaGreatDoorK3
set_option maxHeartbeats 1600000
set_option maxRecDepth 100000
set_option linter.unusedVariables false
namespace Go.Proofs.YtaaoamkagppodaaGreatDoor
open Go Go.RowKit
theorem Jyw (v u:Value) (l k:List (Int × Int)) (w:World) (h:Rgs w v l) (g:Rgs w u k) :
  Calls Tryz.prog 18 #[v,u] w (JyH (l=k) w):=by
 obtain⟨a,c,rfl,h2,h3,h4,h5,h6⟩:=h;obtain⟨a',c',rfl,g2,g3,g4,g5,g6⟩:=g;have hlen:l.length≤9223372036854775807:=by unfold maxLen at h3;omega
 have hlen':k.length≤9223372036854775807:=by unfold maxLen at g3;omega
 have H5:=Hd h5;have G5:=Hd g5;clear h5 h6 h4 h2 h3 g5 g6 g4 g2 g3
 go_enter Tryz.func18,Tryz.ntmps18
 by_cases hk:l.length=k.length
 ·have HK:=Hd hk;rw[←hk];clear hk
  go_wp2
  go_loopw [5] (fun i wr=>∃m:Nat,m≤l.length∧i=.int .i64 m∧(∃q,wr=w.drewN q)∧l.take m=k.take m) (fun i _=>l.length-(intOf i).toNat)
  case atStart=>exact⟨0,Nat.zero_le _,rfl,⟨0,rfl⟩,rfl⟩
  case round =>
   obtain⟨m,hm,rfl,⟨q,rfl⟩,hR⟩:=hrel;have HR:=Hd hR;clear hR
   by_cases hlt:m<l.length
   ·have hltk:m<k.length:=by rw[←HK.out];exact hlt
    rcases H5.out with h5|⟨b,o,rfl,hc⟩
    ·rw[h5]at hlt
     simp at hlt
    rcases G5.out with g5|⟨b',o',rfl,hc'⟩
    ·rw[g5]at hltk
     simp at hltk
    obtain⟨y1,y2,hy,hsp,c1,c2⟩:=JjE hc m hlt;obtain⟨z1,z2,hz,hsk,d1,d2⟩:=JjE hc' m hltk;have hne:(y1,y2)≠(z1,z2)→l≠k:=fun h e=>h (by rw[e,hz]at hy;exact(Option.some.inj hy).symm)
    have HS:=Hd hsp;have HT:=Hd hsk;have HN:=Hd hne;clear hsp hsk hne hc hc' hy hz hltk;have hltz:(m:Int)<(l.length:Int):=by omega
    by_cases q1:y1=z1
    ·subst q1
     by_cases q2:y2=z2
     ·subst q2;go_wp2_with fail
      go_big_quiet (fail)
      go_wp2
      go_roundw
      case rel=>exact⟨m+1,by omega,by go_num,⟨_,by first|with_reducible rfl|exact World.drewN_drewN _ _ _⟩,by rw[HS.out,HT.out,HR.out]⟩
      case measure=>simp[intOf];omega
     ·go_wp2_with fail
      go_big_quiet (fail)
      go_wp2
      go_ret;refine⟨false,rfl,?_,⟨_,World.drewN_drewN _ _ _⟩⟩;have:=HN.out (by simp[q2])
      simp[this]
    ·go_wp2_with fail
     go_big_quiet (fail)
     go_wp2
     go_ret;refine⟨false,rfl,?_,⟨_,World.drewN_drewN _ _ _⟩⟩;have:=HN.out (by simp[q1])
     simp[this]
   ·have e:l.take m=l:=List.take_of_length_le (by omega);have e':k.take m=k:=List.take_of_length_le (by rw[←HK.out];omega);have hr:=HR.out;rw[e,e']at hr;have HRR:=Hd hr;clear hr e e'
    go_wp2
    go_ret;exact⟨true,rfl,by simp[HRR.out],q,rfl⟩
 ·have hkz:((l.length:Int) != (k.length:Int))=true:=by simp;omega
  have hkn:(l.length != k.length)=true:=by simp;exact hk
  have hkb:(l.length==k.length)=false:=by simp;exact hk
  have hkd:decide (l.length=k.length)=false:=decide_eq_false hk
  go_wp2
  go_ret;exact⟨false,rfl,by simp;intro e;exact hk (by rw[e]),0,rfl⟩
end Go.Proofs.YtaaoamkagppodaaGreatDoor
