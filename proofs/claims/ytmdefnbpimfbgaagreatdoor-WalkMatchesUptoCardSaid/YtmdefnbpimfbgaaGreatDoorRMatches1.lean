/-
  Lemmas on automata, dictionaries and the walk over them, the program's calls and the given ones.
-/
import Derived.Test.YtmdefnbpimfbgaaGreatDoorS20
set_option maxRecDepth 100000
set_option maxHeartbeats 16000000
namespace Go.Proofs.YtmdefnbpimfbgaaGreatDoor
section
open Go.RowKit
theorem stepR_any (F:Nat→Prop) (w:World) (v:Value) (d:List Au.St) (s c:Int) (hv:StS F w v d):
  Calls Tryz.prog 54 #[v,.int .i64 s,.int .i64 c] w fun e w'=>e=.returned (.int .i64 (Au.step d s c))∧Below w.heap.size w w':=by
 obtain ⟨a,cap,rfl,hc1,hc2,hc⟩:=hv
 by_cases hs:s<0
 ·have hr:Au.step d s c = -1:=by unfold Au.step;rw [if_pos (.inl hs)]
  rw [hr]
  clear hr hc
  go_enter Tryz.func54,Tryz.ntmps54
  go_wp2_with fail
  go_ret
  exact ⟨rfl,Below.refl _ _⟩
 by_cases hs2:(d.length:Int)≤s
 ·have hr:Au.step d s c = -1:=by unfold Au.step;rw [if_pos (.inr hs2)]
  rw [hr]
  clear hr hc
  go_enter Tryz.func54,Tryz.ntmps54
  go_wp2_with fail
  go_ret
  exact ⟨rfl,Below.refl _ _⟩
 obtain ⟨i,rfl⟩:∃i:Nat,s=(i:Int):=⟨s.toNat,by omega⟩
 have hi:i<d.length:=by omega
 obtain ⟨g,o,rfl,hg,hF,hcl⟩:=hc (by omega)
 obtain ⟨_,va,c1,hva⟩:=hcl i hi
 have hr:Au.step d i c=(Au.look d[i].arcs c).getD (-1):=by
  unfold Au.step
  rw [if_neg (by omega),Int.toNat_natCast,List.getElem?_eq_getElem hi]
 rw [hr]
 generalize d[i].arcs=l at *
 obtain ⟨a2,cap2,rfl,hd1,hd2,hd⟩:=hva
 obtain ⟨m,hm⟩:∃m,m=l.length:=⟨_,rfl⟩
 obtain ⟨r,hr2⟩:∃r,(Au.look l c).getD (-1)=r:=⟨_,rfl⟩
 have HM:=lh hm
 have HR:=lh hr2
 have HD:=lh hd
 rw [hr2]
 rw [←hm] at c1
 have m2:m≤9223372036854775807:=by omega
 have i1:(i:Int)<(d.length:Int):=by omega
 clear hr hr2 hcl hc hm hd hd1 hd2
 go_enter Tryz.func54,Tryz.ntmps54
 go_wp2_with fail
 go_loopg [7] m (fun gg vk wx=>∃k:Nat,k≤m∧gg=m-k∧vk=.int .i64 k∧Hid ((Au.look (l.drop k) c).getD (-1)=r)∧Below w.heap.size w wx)
 case atStart=>exact ⟨0,Nat.zero_le _,rfl,rfl,HR.out,Below.refl _ _⟩
 case round=>
  obtain ⟨k,hk,rfl,rfl,hS,hbel⟩:=hrel
  have c2:=(hbel.cell (p:=⟨g,o+i*2+1,none⟩) hg).trans c1
  by_cases hkm:k<m
  ·have kl:k<l.length:=by rw [←HM.out];exact hkm
   obtain ⟨g2,o2,rfl,hg2,_,hcl2⟩:=HD.out (by omega)
   obtain ⟨d1,d2,d3⟩:=hcl2 k kl
   have e1:=(hbel.cell (p:=⟨g2,o2+k*3,none⟩) hg2).trans d1
   have e2:=(hbel.cell (p:=⟨g2,o2+k*3+1,none⟩) hg2).trans d2
   have e3:=(hbel.cell (p:=⟨g2,o2+k*3+2,none⟩) hg2).trans d3
   have hL:=hS.out
   rw [Au.look_drop l k kl] at hL
   have HL:=lh hL
   have j1:(k:Int)<(m:Int):=by omega
   clear hL hcl2 d1 d2 d3 hS
   generalize l[k]=x at *
   obtain ⟨lo,hi,tz⟩:=x
   dsimp only at e1 e2 e3 HL
   have HBE:=lh hbel
   clear hbel
   by_cases l1:lo≤c
   ·by_cases l2:c≤hi
    ·have hr:tz=r:=by
      have h:=HL.out
      rw [if_pos ⟨l1,l2⟩] at h
      exact h
     subst hr
     go_wp2_with fail
     go_ret
     exact ⟨rfl,HBE.out.alloc HBE.out.size _⟩
    ·have hst:Hid ((Au.look (l.drop (k+1)) c).getD (-1)=r):=by
      have h:=HL.out
      rw [if_neg (fun e=>l2 e.2)] at h
      exact h
     clear HL
     go_wp2_with fail
     go_roundg (m-(k+1))
     case rel=>exact ⟨k+1,by omega,rfl,by go_num,hst,HBE.out.alloc HBE.out.size _⟩
     case measure=>omega
   ·have hst:Hid ((Au.look (l.drop (k+1)) c).getD (-1)=r):=by
     have h:=HL.out
     rw [if_neg (fun e=>l1 e.1)] at h
     exact h
    clear HL
    go_wp2_with fail
    go_roundg (m-(k+1))
    case rel=>exact ⟨k+1,by omega,rfl,by go_num,hst,HBE.out.alloc HBE.out.size _⟩
    case measure=>omega
  ·obtain rfl:k=m:=by omega
   have hr:-1=r:=by
    have h:=hS.out
    rw [List.drop_of_length_le (by rw [←HM.out];exact Nat.le_refl _)] at h
    exact h
   subst hr
   have HBE:=lh hbel
   clear hS hbel
   go_wp2_with fail
   go_ret
   exact ⟨rfl,HBE.out⟩
end
section
open Go.RowKit
namespace Au
end Au
theorem checkR_any (F:Nat→Prop) (w:World) (v:Value) (d:List Au.St) (hv:StS F w v d):
  Calls Tryz.prog 17 #[v] w fun e w'=>e=.returned (.int .i64 (Au.check d))∧Below w.heap.size w w':=by
 obtain ⟨a,cap,rfl,hc1,hc2,hc⟩:=hv
 by_cases h0:d.length=0
 ·have hr:Au.check d=1:=by unfold Au.check;rw [if_pos h0]
  rw [hr]
  have i0:((d.length:Int)==0)=true:=beq_iff_eq.2 (by omega)
  clear hr hc h0
  go_enter Tryz.func17,Tryz.ntmps17
  go_wp2_with fail
  go_ret
  exact ⟨rfl,Below.refl _ _⟩
 have i0:((d.length:Int)==0)=false:=beq_eq_false_iff_ne.2 (by omega)
 by_cases h1:20000<d.length
 ·have hr:Au.check d=8:=by unfold Au.check;rw [if_neg h0,if_pos h1]
  rw [hr]
  have i1:(20000:Int)<(d.length:Int):=by omega
  clear hr hc h0 h1
  go_enter Tryz.func17,Tryz.ntmps17
  go_wp2_with fail
  go_ret
  exact ⟨rfl,Below.refl _ _⟩
 have i1:¬(20000:Int)<(d.length:Int):=by omega
 obtain ⟨g,o,rfl,hg,hF,hcl⟩:=hc (by omega)
 have hgood:(∀i,i<d.length→Au.okAt d.length d i)→Au.check d=0:=fun h=>by unfold Au.check;rw [if_neg h0,if_neg h1,if_pos h]
 have hbad:∀i,i<d.length→¬Au.okAt d.length d i→Au.check d=3:=fun i hi h=>by unfold Au.check;rw [if_neg h0,if_neg h1,if_neg (fun e=>h (e i hi))]
 generalize Au.check d=r at *
 obtain ⟨n,hn⟩:∃n,n=d.length:=⟨_,rfl⟩
 have hn2:n≤20000:=by omega
 rw [←hn] at hgood hbad
 have HN:=lh hn
 have HC:=lh hcl
 have HG:=lh hgood
 have HB:=lh hbad
 rw [←hn] at i0 i1 ⊢
 clear hc hcl hgood hbad h0 h1 hn hc1
 go_enter Tryz.func17,Tryz.ntmps17
 go_wp2_with fail
 go_loopg [3] n (fun gg vi wx=>∃i:Nat,i≤n∧gg=n-i∧vi=.int .i64 i∧Hid (∀j,j<i→Au.okAt n d j)∧Below w.heap.size w wx)
 case atStart=>exact ⟨0,Nat.zero_le _,rfl,rfl,fun j h=>by omega,Below.refl _ _⟩
 case round=>
  obtain ⟨i,hi,rfl,rfl,hS,hbel⟩:=hrel
  by_cases hin:i<n
  ·have j1:(i:Int)<(n:Int):=by omega
   have hid:i<d.length:=by rw [←HN.out];exact hin
   obtain ⟨_,va,c1,hva⟩:=HC.out i hid
   have HBi:Hid (∀k,¬Au.okArc n d[i].arcs k→r=3):=fun k h=>HB.out i hin (fun e=>h ((Au.okAt_of hid).1 e k))
   have hst:Hid ((∀k,Au.okArc n d[i].arcs k)→∀j,j<i+1→Au.okAt n d j):=fun h j hji=>by
    by_cases e:j=i
    ·subst e;exact (Au.okAt_of hid).2 h
    ·exact hS.out j (by omega)
   clear hS
   generalize d[i].arcs=l at *
   obtain ⟨a2,cap2,rfl,hd1,hd2,hd⟩:=hva
   obtain ⟨m,hm⟩:∃m,m=l.length:=⟨_,rfl⟩
   have HM:=lh hm
   have HD:=lh hd
   have HBE:=lh hbel
   rw [←hm] at c1
   have m2:m≤9223372036854775807:=by omega
   clear hd hd1 hm hbel
   go_wp2_with fail
   go_loopg [4] m (fun gg vk wx=>∃k:Nat,k≤m∧gg=m-k∧vk=.int .i64 k∧Hid (∀j,j<k→Au.okArc n l j)∧Below w.heap.size w wx)
   case atStart=>exact ⟨0,Nat.zero_le _,rfl,rfl,fun j h=>by omega,HBE.out⟩
   case round=>
    obtain ⟨k,hk,rfl,rfl,hS,hbel⟩:=hrel
    have c2:=(hbel.cell (p:=⟨g,o+i*2+1,none⟩) hg).trans c1
    by_cases hkm:k<m
    ·have kl:k<l.length:=by rw [←HM.out];exact hkm
     obtain ⟨g2,o2,rfl,hg2,_,hcl2⟩:=HD.out (by omega)
     obtain ⟨d1,d2,d3⟩:=hcl2 k kl
     have e1:=(hbel.cell (p:=⟨g2,o2+k*3,none⟩) hg2).trans d1
     have e2:=(hbel.cell (p:=⟨g2,o2+k*3+1,none⟩) hg2).trans d2
     have e3:=(hbel.cell (p:=⟨g2,o2+k*3+2,none⟩) hg2).trans d3
     have e4:∀j (h:j<l.length),wr.cell? ⟨g2,o2+j*3+1,none⟩=some (.int .i64 l[j].hi):=fun j hj=>(hbel.cell (p:=⟨g2,o2+j*3+1,none⟩) hg2).trans (hcl2 j hj).2.1
     have hA:Hid (Au.okArc n l k↔0≤l[k].lo∧l[k].hi≤255∧l[k].lo≤l[k].hi∧0≤l[k].to∧l[k].to<n∧(0<k→l[k-1].hi<l[k].lo)):=⟨fun h=>h kl,fun h _=>h⟩
     have j2:(k:Int)<(m:Int):=by omega
     have HBE2:=lh hbel
     have E4:=lh e4
     have hst2:Hid (Au.okArc n l k→∀j,j<k+1→Au.okArc n l j):=fun h j hj=>by
      by_cases e:j=k
      ·subst e;exact h
      ·exact hS.out j (by omega)
     clear hcl2 d1 d2 d3 hS hbel e4
     have hE1:l[k].lo=l[k].lo:=rfl
     generalize hx:l[k]=x at *
     obtain ⟨lo,hi',tz⟩:=x
     dsimp only at e1 e2 e3 hA
     clear hx hE1
     by_cases q1:lo<0
     ·have f1:decide (lo<0)=true:=decide_eq_true q1
      obtain rfl:r=3:=HBi.out k (fun h=>by have:=hA.out.1 h;omega)
      clear hA hst2 hst HBi HG HB
      go_wp2_with fail
      go_quiet (fail)
      go_wp2_with fail
      go_ret
      exact ⟨rfl,by first | exact belowN (HBE2.out.alloc HBE2.out.size _) _ | exact HBE2.out.alloc HBE2.out.size _⟩
     have f1:decide (lo<0)=false:=decide_eq_false q1
     by_cases q2:255<hi'
     ·have f2:decide ((255:Int)<hi')=true:=decide_eq_true q2
      obtain rfl:r=3:=HBi.out k (fun h=>by have:=hA.out.1 h;omega)
      clear hA hst2 hst HBi HG HB
      go_wp2_with fail
      go_quiet (fail)
      go_wp2_with fail
      go_ret
      exact ⟨rfl,by first | exact belowN (HBE2.out.alloc HBE2.out.size _) _ | exact HBE2.out.alloc HBE2.out.size _⟩
     have f2:decide ((255:Int)<hi')=false:=decide_eq_false q2
     by_cases q3:hi'<lo
     ·have f3:decide (hi'<lo)=true:=decide_eq_true q3
      obtain rfl:r=3:=HBi.out k (fun h=>by have:=hA.out.1 h;omega)
      clear hA hst2 hst HBi HG HB
      go_wp2_with fail
      go_quiet (fail)
      go_wp2_with fail
      go_ret
      exact ⟨rfl,by first | exact belowN (HBE2.out.alloc HBE2.out.size _) _ | exact HBE2.out.alloc HBE2.out.size _⟩
     have f3:decide (hi'<lo)=false:=decide_eq_false q3
     by_cases q4:tz<0
     ·have f4:decide (tz<0)=true:=decide_eq_true q4
      obtain rfl:r=3:=HBi.out k (fun h=>by have:=hA.out.1 h;omega)
      clear hA hst2 hst HBi HG HB
      go_wp2_with fail
      go_quiet (fail)
      go_wp2_with fail
      go_ret
      exact ⟨rfl,by first | exact belowN (HBE2.out.alloc HBE2.out.size _) _ | exact HBE2.out.alloc HBE2.out.size _⟩
     have f4:decide (tz<0)=false:=decide_eq_false q4
     by_cases q5:(n:Int)≤tz
     ·have f5:decide ((n:Int)≤tz)=true:=decide_eq_true q5
      obtain rfl:r=3:=HBi.out k (fun h=>by have:=hA.out.1 h;omega)
      clear hA hst2 hst HBi HG HB
      go_wp2_with fail
      go_quiet (fail)
      go_wp2_with fail
      go_ret
      exact ⟨rfl,by first | exact belowN (HBE2.out.alloc HBE2.out.size _) _ | exact HBE2.out.alloc HBE2.out.size _⟩
     have f5:decide ((n:Int)≤tz)=false:=decide_eq_false q5
     by_cases q6:k=0
     ·have f6:decide ((0:Int)<(k:Int))=false:=decide_eq_false (by omega)
      have f6n:decide (0<k)=false:=decide_eq_false (by omega)
      have H2:=lh (hst2.out (hA.out.2 ⟨by omega,by omega,by omega,by omega,by omega,fun h=>by omega⟩))
      clear q6
      clear hA hst2
      go_wp2_with fail
      go_quiet (fail)
      go_wp2_with fail
      go_roundg (m-(k+1))
      case rel=>exact ⟨k+1,by omega,rfl,by go_num,H2.out,by first | exact belowN (HBE2.out.alloc HBE2.out.size _) _ | exact HBE2.out.alloc HBE2.out.size _⟩
      case measure=>omega
     have q7:(0:Int)<(k:Int):=by omega
     have f6:decide ((0:Int)<(k:Int))=true:=decide_eq_true q7
     have f6n:decide (0<k)=true:=decide_eq_true (by omega)
     have kz:0<k:=by omega
     have kp:k-1<l.length:=by omega
     have e5:=E4.out (k-1) kp
     have q8:(k:Int)-1<(m:Int):=by omega
     have q9:(0:Int)≤(k:Int)-1:=by omega
     generalize l[k-1].hi=ph at *
     have gl:g<wr.heap.size:=Nat.lt_of_lt_of_le hg HBE2.out.size
     have gl2:g2<wr.heap.size:=Nat.lt_of_lt_of_le hg2 HBE2.out.size
     have c6:(wr.alloc (.cells #[.int .i64 lo,.int .i64 hi',.int .i64 tz] 71)).cell? ⟨g,o+i*2+1,none⟩=some (.slice (some ⟨g2,o2,none⟩) m cap2):=(cell_same (Go.Deep.blk_alloc_lt _ _ _ gl)).trans c2
     have c7:(wr.alloc (.cells #[.int .i64 lo,.int .i64 hi',.int .i64 tz] 71)).cell? ⟨g2,o2+(k-1)*3+1,none⟩=some (.int .i64 ph):=(cell_same (Go.Deep.blk_alloc_lt _ _ _ gl2)).trans e5
     by_cases q10:lo≤ph
     ·have f7:decide (lo≤ph)=true:=decide_eq_true q10
      obtain rfl:r=3:=HBi.out k (fun h=>by have:=(hA.out.1 h).2.2.2.2.2 (by omega);omega)
      clear hA hst2 hst HBi HG HB
      go_wp2_with fail
      go_quiet (fail)
      go_wp2_with fail
      go_ret
      exact ⟨rfl,by first | exact belowN (HBE2.out.alloc HBE2.out.size _) _ | exact HBE2.out.alloc HBE2.out.size _⟩
     ·have f7:decide (lo≤ph)=false:=decide_eq_false q10
      have H2:=lh (hst2.out (hA.out.2 ⟨by omega,by omega,by omega,by omega,by omega,fun h=>by omega⟩))
      clear hA hst2
      go_wp2_with fail
      go_quiet (fail)
      go_wp2_with fail
      go_roundg (m-(k+1))
      case rel=>exact ⟨k+1,by omega,rfl,by go_num,H2.out,by first | exact belowN (HBE2.out.alloc HBE2.out.size _) _ | exact HBE2.out.alloc HBE2.out.size _⟩
      case measure=>omega
    ·obtain rfl:k=m:=by omega
     have hall:∀j,Au.okArc n l j:=fun j=>by
      by_cases h:j<k
      ·exact hS.out j h
      ·intro hl
       rw [←HM.out] at hl
       exact absurd hl h
     have H2:=lh (hst.out hall)
     have HBE2:=lh hbel
     clear hS hst hall hbel HBi
     go_wp2_with fail
     go_roundg (n-(i+1))
     case rel=>exact ⟨i+1,by omega,rfl,by go_num,H2.out,HBE2.out⟩
     case measure=>omega
  ·obtain rfl:i=n:=by omega
   obtain rfl:r=0:=HG.out (fun j hj=>hS.out j hj)
   have HBE:=lh hbel
   clear hS hbel HG HB
   go_wp2_with fail
   go_ret
   exact ⟨rfl,HBE.out⟩
end
section
open Go.RowKit
namespace Au
end Au
theorem acceptsR_any (F:Nat→Prop) (w:World) (v:Value) (d:List Au.St) (s:ByteArray) (hs:s.size≤9223372036854775806) (hv:StS F w v d):
  Calls Tryz.prog 34 #[v,.string s] w fun e w'=>e=.returned (.bool (Au.takesL d s.data.toList))∧Below w.heap.size w w':=by
 have hK:=lh (checkR_any F w v d hv)
 by_cases hf:Au.Fits d
 ·rw [(Au.check_iff d).2 hf] at hK
  have hr:Au.takesL d s.data.toList=(Au.ofL d).acc (some 0) (s.data.toList.map UInt8.toNat):=by unfold Au.takesL;simp [hf]
  have hP:Hid (∀W,Below w.heap.size w W→∀(x:Option Nat) (c:Nat),Calls Tryz.prog 54 #[v,.int .i64 (Au.code x),.int .i64 c] W fun e w'=>e=.returned (.int .i64 (Au.code (x.bind fun k=>(Au.ofL d).step k c)))∧Below W.heap.size W w'):=fun W hb x c=>by
   have h:=stepR_any F W v d (Au.code x) c (hv.below hb)
   rw [Au.step_code hf] at h
   exact h
  have hlen:s.data.toList.length=s.size:=Array.length_toList
  rw [hr]
  obtain ⟨r,hr2⟩:∃r,(Au.ofL d).acc (some 0) (s.data.toList.map UInt8.toNat)=r:=⟨_,rfl⟩
  rw [hr2]
  have hE:Hid (∀k,k<d.length→∃g o cap,v=.slice (some ⟨g,o,none⟩) d.length cap∧g<w.heap.size∧w.cell? ⟨g,o+k*2,none⟩=some (.bool ((Au.ofL d).fin k))):=fun k hk=>by
   obtain ⟨a,cap,rfl,_,_,hc⟩:=hv
   obtain ⟨g,o,rfl,hg,_,hcl⟩:=hc (by omega)
   refine ⟨g,o,cap,rfl,hg,?_⟩
   rw [(hcl k hk).1]
   simp only [Au.ofL,List.getElem?_eq_getElem hk]
  obtain ⟨a,cap,rfl,hc1,hc2,_⟩:=hv
  obtain ⟨n,hn⟩:∃n,n=d.length:=⟨_,rfl⟩
  have hn0:0<n:=by have:=hf.pos;omega
  have hn2:n≤20000:=by have:=hf.top;omega
  have HF:=lh hf
  have HL:=lh hlen
  have hS0:Hid ((Au.ofL d).acc (some 0) ((s.data.toList.drop 0).map UInt8.toNat)=r):=hr2
  rw [←hn] at hE ⊢
  rw [←hn] at hP hK
  have HN:=lh hn
  clear hr hr2 hf hlen hn hc1
  go_enter Tryz.func34,Tryz.ntmps34
  go_wp2_with fail
  refine hK.out.mono ?_
  rintro e w1 ⟨rfl,hb⟩
  have HB1:=lh hb
  clear hb
  go_wp2_with fail
  go_loopg [5,6] s.size (fun gg va vi wx=>∃(i:Nat) (x:Option Nat),i≤s.size∧gg=s.size-i∧va=.int .i64 (Au.code x)∧vi=.int .i64 i∧Hid ((Au.ofL d).acc x ((s.data.toList.drop i).map UInt8.toNat)=r)∧Below w.heap.size w wx)
  case atStart=>exact ⟨0,some 0,Nat.zero_le _,rfl,rfl,rfl,hS0,HB1.out⟩
  case round=>
   obtain ⟨i,x,hi,rfl,rfl,rfl,hS,hbel⟩:=hrel
   have HBE:=lh hbel
   by_cases his:i<s.size
   ·have j1:(i:Int)<(s.size:Int):=by omega
    have hst:Hid ((Au.ofL d).acc (x.bind fun k=>(Au.ofL d).step k s[i].toNat) ((s.data.toList.drop (i+1)).map UInt8.toNat)=r):=by
     have h:=hS.out
     rw [List.drop_eq_getElem_cons (by rw [HL.out];exact his),List.map_cons,Au.acc_step] at h
     exact h
    have hQ:=lh (hP.out wr hbel x s[i].toNat)
    have hby:s[i].toNat<256:=s[i].toNat_lt
    have hwr:wrap64 ((s[i].toNat:Nat):Int)=((s[i].toNat:Nat):Int):=IntWalk.wrap64_in _ (by omega)
    clear hS hbel
    generalize Au.code x=cx at *
    go_wp2_with fail
    refine hQ.out.mono ?_
    rintro e w2 ⟨rfl,hb⟩
    have HB2:Hid (Below w.heap.size w w2):=chain HBE.out hb
    clear hb
    go_wp2_with fail
    go_roundg (s.size-(i+1))
    case rel=>exact ⟨i+1,_,by omega,rfl,rfl,by go_num,hst,HB2.out⟩
    case measure=>omega
   ·obtain rfl:i=s.size:=by omega
    have hfin:(Au.ofL d).acc x []=r:=by
     have h:=hS.out
     rw [List.drop_of_length_le (by rw [HL.out];exact Nat.le_refl _)] at h
     exact h
    clear hS hbel
    cases x with
    | none=>
     obtain rfl:false=r:=by rw [Au.acc_none] at hfin;exact hfin
     have e1:Au.code none = -1:=rfl
     rw [e1]
     clear hfin
     go_wp2_with fail
     go_ret
     exact ⟨rfl,HBE.out⟩
    | some k=>
     have e1:Au.code (some k)=(k:Int):=rfl
     rw [e1]
     rw [Au.acc_nil] at hfin
     by_cases hk:k<n
     ·obtain ⟨g,o,cap',hv,hg,hcl⟩:=hE.out k hk
      simp only [Value.slice.injEq] at hv
      obtain ⟨rfl,_,_⟩:=hv
      have c1:=(HBE.out.cell (p:=⟨g,o+k*2,none⟩) hg).trans hcl
      have j1:(k:Int)<(n:Int):=by omega
      have j2:(0:Int)≤(k:Int):=by omega
      generalize (Au.ofL d).fin k=b at *
      subst hfin
      clear hcl
      go_wp2_with fail
      go_ret
      exact ⟨rfl,HBE.out⟩
     ·have hff:(Au.ofL d).fin k=false:=by
       rw [HN.out] at hk
       simp only [Au.ofL,List.getElem?_eq_none (by omega:d.length≤k)]
      obtain rfl:false=r:=by rw [←hfin,hff]
      have j1:¬(k:Int)<(n:Int):=by omega
      have j2:(0:Int)≤(k:Int):=by omega
      clear hfin hff
      go_wp2_with fail
      go_ret
      exact ⟨rfl,HBE.out⟩
 ·have hne:¬Au.check d=0:=fun h=>hf ((Au.check_iff d).1 h)
  have hr:Au.takesL d s.data.toList=false:=by unfold Au.takesL;simp [hf]
  rw [hr]
  have hne':(Au.check d != 0)=true:=bne_iff_ne.2 hne
  clear hv hr hf hne
  generalize Au.check d=ck at *
  go_enter Tryz.func34,Tryz.ntmps34
  go_wp2_with fail
  refine hK.out.mono ?_
  rintro e w1 ⟨rfl,hb⟩
  have HB1:=lh hb
  clear hb
  go_wp2_with fail
  go_ret
  exact ⟨rfl,HB1.out⟩
end
end Go.Proofs.YtmdefnbpimfbgaaGreatDoor
