/-
  Lemmas on automata, dictionaries and the walk over them, the program's calls and the given ones.
-/
import Derived.Test.YtmdefnbpimfbgaaGreatDoorRFrom1
import Derived.Deep.SlicePairs
set_option maxRecDepth 100000
set_option maxHeartbeats 16000000
namespace Go.Proofs.YtmdefnbpimfbgaaGreatDoor
namespace F12
open Go.RowKit Go.Maps
section
variable {P:Program} (w:World)
end
namespace Ap
end Ap
section
variable (w:World) {ops:Array Oper} {rest:List Oper} {o:Oper} {a:Act} {Q:Exit→Act→World→Prop}
end
theorem bs_of (s:ByteArray):bs s.data.toList=s:=by cases s;simp [bs]
theorem entV_length (l:List Fs.En):(entV l).length=l.length*2:=by
 induction l with
 | nil=>rfl
 | cons x t ih=>
  show (_ :: _ :: entV t).length=_
  simp only [List.length_cons,ih]
  omega
end F12
namespace F12
open Go.RowKit
theorem takeE_snoc {xs ys:List Fs.En} {k:Nat} (h1:k<xs.length) (h2:k<ys.length) (h:xs.take k=ys.take k) (e:xs[k]=ys[k]):xs.take (k+1)=ys.take (k+1):=by
 rw [List.take_succ_eq_append_getElem h1,List.take_succ_eq_append_getElem h2,h,e]
theorem same_any (w:World) (u v:Value) (xs ys:List Fs.En) (hu:EnS w u xs) (hv:EnS w v ys):
  Calls Tryz.prog 28 #[u,v] w fun e' w'=>e'=.returned (.bool (decide (xs=ys)))∧Below w.heap.size w w':=by
 obtain ⟨a,cap,rfl,hx,hx',hu⟩:=hu
 obtain ⟨a',cap',rfl,hy,hy',hv⟩:=hv
 have hx2:xs.length≤9223372036854775807:=by omega
 have HU:=lh hu
 have HV:=lh hv
 clear hu hv hx hx' hy hy'
 by_cases hl:xs.length=ys.length
 ·obtain ⟨n,hn⟩:∃n,n=xs.length:=⟨_,rfl⟩
  have hn2:ys.length=n:=by omega
  have HN:=lh hn
  have HN2:=lh hn2
  rw [←hn] at hx2 ⊢
  rw [hn2]
  clear hl hn hn2
  go_enter Tryz.func28,Tryz.ntmps28
  go_wp2_with fail
  go_loopg [5] n (fun g i wx=>∃k:Nat,k≤n∧g=n-k∧i=.int .i64 k∧Hid (xs.take k=ys.take k)∧Below w.heap.size w wx)
  case atStart=>exact ⟨0,Nat.zero_le _,rfl,rfl,by show _=_;rw [List.take_zero,List.take_zero],Below.refl _ _⟩
  case round=>
   obtain ⟨k,hk,rfl,rfl,hS,hbel⟩:=hrel
   by_cases hkn:k<n
   ·have i1:(k:Int)<(n:Int):=by omega
    have kx:k<xs.length:=by rw [←HN.out];exact hkn
    have ky:k<ys.length:=by rw [HN2.out];exact hkn
    obtain ⟨g,o,rfl,hg,hcu⟩:=HU.out (by omega)
    obtain ⟨g',o',rfl,hg',hcv⟩:=HV.out (by omega)
    obtain ⟨c1,c2⟩:=(hcu.below hbel hg) k kx
    obtain ⟨c3,c4⟩:=(hcv.below hbel hg') k ky
    have HBE:=lh hbel
    by_cases he:xs[k]=ys[k]
    ·have hst:Hid (xs.take (k+1)=ys.take (k+1)):=takeE_snoc kx ky hS.out he
     rw [←he] at c3 c4
     clear hS he hcu hcv hbel
     generalize bs xs[k].1=x at *
     generalize xs[k].2=xn at *
     go_wp2_with fail
     go_quiet (fail)
     go_wp2_with fail
     go_roundg (n-(k+1))
     case rel=>exact ⟨k+1,by omega,rfl,by go_num,hst,by first | exact HBE.out | exact belowN HBE.out _⟩
     case measure=>omega
    ·have hfin:Hid (decide (xs=ys)=false):=decide_eq_false (fun h=>he (by subst h;rfl))
     clear hS hcu hcv hbel
     generalize xs[k]=x at *
     generalize ys[k]=y at *
     obtain ⟨xs',xn⟩:=x
     obtain ⟨ys',yn⟩:=y
     dsimp only at c1 c2 c3 c4
     by_cases h1:xs'=ys'
     ·subst h1
      have he':(xn==yn)=false:=by
       simp only [Prod.mk.injEq,true_and] at he
       simpa using he
      clear he
      generalize bs xs'=x at *
      go_wp2_with fail
      go_quiet (fail)
      go_wp2_with fail
      go_ret
      exact ⟨by rw [hfin.out];rfl,by first | exact HBE.out | exact belowN HBE.out _⟩
     ·have he':((bs xs').toList==(bs ys').toList)=false:=by
       rw [bs_list,bs_list,beq_eq_false_iff_ne]
       exact h1
      clear he h1
      generalize bs xs'=x at *
      generalize bs ys'=y at *
      go_wp2_with fail
      go_quiet (fail)
      go_wp2_with fail
      go_ret
      exact ⟨by rw [hfin.out];rfl,by first | exact HBE.out | exact belowN HBE.out _⟩
   ·have hfin:Hid (decide (xs=ys)=true):=by
     obtain rfl:k=n:=by omega
     have h:=hS.out
     rw [List.take_of_length_le (by rw [←HN.out];exact Nat.le_refl _),List.take_of_length_le (by rw [HN2.out];exact Nat.le_refl _)] at h
     exact decide_eq_true h
    have HBE:=lh hbel
    clear hS hbel
    go_wp2_with fail
    go_ret
    exact ⟨by rw [hfin.out];rfl,HBE.out⟩
 ·have hfin:Hid (decide (xs=ys)=false):=decide_eq_false (fun h=>hl (by rw [h]))
  have hl':((xs.length:Int) != (ys.length:Int))=true:=by simp;omega
  go_enter Tryz.func28,Tryz.ntmps28
  go_wp2_with fail
  go_ret
  exact ⟨by rw [hfin.out];rfl,Below.refl _ _⟩
end F12
namespace F12
open Go.RowKit
section
variable {ops:Array Oper} {rest:List Oper} {o:Oper} {a:Act}
end
theorem OwnE.lt {w:World} {B:Nat} {v:Value} {l:List Fs.En} (h:OwnE w B v l):∀k,v.ownBlock=some k→B≤k∧k<w.heap.size:=fun k hk=>World.ownsRow.lt h k hk
end F12
namespace F12
open Go.RowKit Go.Maps
theorem ent_news {w:World} {g o:Nat} {l:List Fs.En} (h:EnC w g o l):∀j u,(entV l)[j]?=some u→w.cell? ((⟨g,o,none⟩:Addr).add j)=some u:=by
 intro j u hu
 have hj:j<(entV l).length:=(List.getElem?_eq_some_iff.1 hu).1
 rw [entV_length] at hj
 have hk:j/2<l.length:=by omega
 obtain ⟨b1,b2⟩:=h (j/2) hk
 have a1:=entV_s l (j/2) hk
 have a2:=entV_n l (j/2) hk
 have hadd:(⟨g,o,none⟩:Addr).add j=⟨g,o+j,none⟩:=by unfold Addr.add;split <;> simp_all
 rw [hadd]
 have hm:j%2=0∨j%2=1:=by omega
 rcases hm with hm | hm
 ·rw [show j=j/2*2 by omega,a1] at hu
  rw [←hu,←b1]
  congr 2
  omega
 ·rw [show j=j/2*2+1 by omega,a2] at hu
  rw [←hu,←b2]
  congr 2
  omega
def EnX (w:World) (v:Value) (l:List Fs.En):Prop:=v=.slice none 0 0∧l=[]∨∃x cap,v=.slice (some x) l.length cap∧∀j u,(entV l)[j]?=some u→w.cell? (x.add j)=some u∧(x.add j).block<w.heap.size
end F12
namespace F12.frame
open Go.Proofs.YtmdefnbpimfbgaaGreatDoor.frame
open Go.ChangeShapes Go.WideShapes Go.ChangeAt Go.RowKit
open Go.ChangeMaps (open_string shut_string)
theorem part_le {H:Type} {l:List (DataW H)} {x:DataW H} (h:x∈l):Rows.uptoBulk x≤Rows.uptoBulkAll l:=by
 induction l with
 | nil=>cases h
 | cons y t ih=>
  simp only [Rows.uptoBulkAll]
  rcases List.mem_cons.1 h with rfl | h
  ·omega
  ·have:=ih h;omega
theorem parts_le {H:Type} (l:List (DataW H)):Rows.uptoBulkAll l+1≤Rows.uptoBulk (.agg l):=by
 simp only [Rows.uptoBulk]
 omega
section
variable {H:Type} {enc:TypeId × Value→H} {W:World}
theorem spot_of {x:Addr} {v:Value} (h:W.cell? (x.add 0)=some v):∃b o,x=⟨b,o,none⟩∧b<W.heap.size∧∀j,x.add j=⟨b,o+j,none⟩:=by
 obtain ⟨b,off,spot⟩:=x
 have hspot:spot=none:=by
  have h1:=World.cell?_spot h
  simpa [Addr.add] using h1
 subst hspot
 have hadd:∀j,(⟨b,off,none⟩:Addr).add j=⟨b,off+j,none⟩:=fun j=>by
  unfold Addr.add
  split <;> simp_all
 rw [hadd] at h
 exact ⟨b,off,rfl,World.block_lt_of_cell? W _ h,hadd⟩
theorem ents_of {a:Option Addr} {len cap:Nat} {d:DataW H} {p:List MemPlace} (h:DataW.Trod enc Tryz.prog W 0 (fun _=>true) true 22 (.slice a len cap) d p):
  ∃l:List Fs.En,EnS W (.slice a len cap) l∧EnX W (.slice a len cap) l∧(∀e∈l,e.2≤9223372036854775807)∧∀e∈l,e.1.length≤Rows.uptoBulk d:=by
 obtain ⟨fuel,hf⟩:=h
 have ce:Tryz.prog.cellsOf 29=2:=by kernel_rfl
 have c3:Tryz.prog.cellsOf 3=1:=by kernel_rfl
 have c9:Tryz.prog.cellsOf 9=1:=by kernel_rfl
 rcases Go.Deep.open_slice_pairs Tryz.underlying22 Tryz.underlying29 ce rfl rfl c9 c3 hf with ⟨hcs,hx⟩ | ⟨x,l,c,m,n,V0,V1,D0,D1,P0,P1,hcs,_,hl,hm,hmm,hx,hall⟩
 ·simp [Value.cells] at hcs
  obtain ⟨rfl,rfl,rfl⟩:=hcs
  exact ⟨[],⟨none,0,rfl,Nat.le_refl _,by omega,fun h=>by simp at h⟩,.inl ⟨rfl,rfl⟩,fun e q=>absurd q List.not_mem_nil,fun e q=>absurd q List.not_mem_nil⟩
 ·simp [Value.cells] at hcs
  obtain ⟨rfl,rfl,rfl⟩:=hcs
  simp only [if_true] at hmm
  subst hmm
  have hd:d=.slice ((List.range len).map fun i=>.agg [D0 i,D1 i]) ((List.range (m-len)).map fun j=>.agg [D0 (len+j),D1 (len+j)]):=congrArg Prod.fst hx
  have each:∀i,i<len→∃q:Fs.En,(W.cell? (x.add (i*2))=some (.string (bs q.1))∧W.cell? (x.add (i*2+1))=some (.int .i64 q.2))∧q.2≤9223372036854775807∧q.1.length≤Rows.uptoBulk d:=by
   intro i hi
   obtain ⟨h0,h1,t0,t1⟩:=hall i (by omega)
   obtain ⟨s,f0,x0,_⟩:=DataW.trod_string Tryz.underlying9 t0
   obtain ⟨z,f1,x1,wf⟩:=DataW.trod_int Tryz.underlying3 t1
   injection f0 with f0 _
   injection f1 with f1 _
   rw [f0] at h0
   rw [f1] at h1
   refine ⟨(s.data.toList,z),⟨by rw [bs_of];exact h0,h1⟩,?_,?_⟩
   ·have hw:IntKind.i64.min≤z∧z≤IntKind.i64.max:=by simpa [Lit.wf] using wf
    exact hw.2
   ·have hD:D0 i=.lit (.string s.data.toList):=congrArg Prod.fst x0
    have hmem:(DataW.agg [D0 i,D1 i])∈(List.range len).map fun i=>DataW.agg [D0 i,D1 i]:=List.mem_map.2 ⟨i,List.mem_range.2 hi,rfl⟩
    have q1:=part_le hmem
    have q2:=slice_elems ((List.range len).map fun i=>DataW.agg [D0 i,D1 i]) ((List.range (m-len)).map fun j=>DataW.agg [D0 (len+j),D1 (len+j)])
    have q3:=parts_le [D0 i,D1 i]
    have q4:Rows.uptoBulk (D0 i)≤Rows.uptoBulkAll [D0 i,D1 i]:=part_le (List.mem_cons_self ..)
    rw [hD,string_bulk] at q4
    rw [hD] at q3
    have q5:s.data.toList.length=s.size:=Array.length_toList
    rw [hd]
    rw [hD] at q1
    show s.data.toList.length≤_
    omega
  obtain ⟨q,hq⟩:=Go.Deep.choose_lt (p:=fun i (q:Fs.En)=>(W.cell? (x.add (i*2))=some (.string (bs q.1))∧W.cell? (x.add (i*2+1))=some (.int .i64 q.2))∧q.2≤9223372036854775807∧q.1.length≤Rows.uptoBulk d) each
  have hlq:((List.range len).map q).length=len:=by simp
  have hmem:∀e∈(List.range len).map q,∃i,i<len∧e=q i:=fun e he=>by
   obtain ⟨i,hi,rfl⟩:=List.mem_map.1 he
   exact ⟨i,List.mem_range.1 hi,rfl⟩
  have hsp:0<len→∃b o,x=⟨b,o,none⟩∧b<W.heap.size∧∀j,x.add j=⟨b,o+j,none⟩:=fun h0=>spot_of (by simpa using (hq 0 h0).1.1)
  have hen:EnS W (.slice (some x) len m) ((List.range len).map q):=by
   refine ⟨some x,m,by rw [hlq],by rw [hlq];exact hl,by unfold maxLen at hm;omega,fun h0=>?_⟩
   rw [hlq] at h0
   obtain ⟨b,o,rfl,hb,hadd⟩:=hsp h0
   refine ⟨b,o,rfl,hb,fun i hi=>?_⟩
   have hi':i<len:=by rw [hlq] at hi;exact hi
   obtain ⟨⟨t0,t1⟩,_⟩:=hq i hi'
   rw [hadd] at t0 t1
   rw [List.getElem_map,List.getElem_range]
   exact ⟨t0,t1⟩
  refine ⟨(List.range len).map q,hen,.inr ⟨x,m,by rw [hlq],fun j u hj=>?_⟩,fun e he=>?_,fun e he=>?_⟩
  ·have hj2:j<(entV ((List.range len).map q)).length:=(List.getElem?_eq_some_iff.1 hj).1
   rw [entV_length,hlq] at hj2
   obtain ⟨b,o,rfl,hb,hadd⟩:=hsp (by omega)
   obtain ⟨a',c',e1,_,_,e4⟩:=hen
   obtain ⟨g,o',e5,e6,e7⟩:=e4 (by rw [hlq];omega)
   rw [e5] at e1
   injection e1 with e8 _ _
   injection e8 with e8
   injection e8 with e9 e10 _
   subst e9 e10
   exact ⟨ent_news e7 j u hj,by rw [hadd];exact hb⟩
  ·obtain ⟨i,hi,rfl⟩:=hmem e he
   exact (hq i hi).2.1
  ·obtain ⟨i,hi,rfl⟩:=hmem e he
   exact (hq i hi).2.2
end
end F12.frame
namespace F12
open Go.RowKit Go.Maps
theorem refFrom_any (w:World) (v:Value) (l:List Fs.En) (s:List UInt8) (h:EnS w v l) (hlen:l.length≤65536):
  Calls Tryz.prog 9 #[v,.string (bs s)] w fun e w'=>∃v',e=.returned v'∧OwnE w' w.heap.size v' (l.filter fun e=>!Fs.lt e.1 s)∧Below w.heap.size w w':=by
 obtain ⟨a,cap,rfl,hx,hx',hu⟩:=h
 have HU:=lh hu
 obtain ⟨n,hn⟩:∃n,n=l.length:=⟨_,rfl⟩
 have HN:=lh hn
 rw [←hn] at hx hlen ⊢
 clear hu hn
 obtain ⟨ii,hi,hz0,hz1,hz2⟩:=info_parts Tryz.infoE
 obtain ⟨S,hS⟩:∃S,S=bs s:=⟨_,rfl⟩
 have HS:=lh hS
 rw [←hS]
 clear hS
 go_enter Tryz.func9,Tryz.ntmps9
 go_wp2_with fail
 go_loopg [5,6] n (fun gg ov i wx=>∃(k:Nat),k≤n∧gg=n-k∧i=.int .i64 k∧OwnE wx w.heap.size ov ((l.take k).filter fun e=>!Fs.lt e.1 s)∧Below w.heap.size w wx)
 case atStart=>exact ⟨0,Nat.zero_le _,rfl,rfl,ownE_nil _ _,Below.refl _ _⟩
 case round=>
  obtain ⟨k,hk,rfl,rfl,hown,hbel⟩:=hrel
  have hsl:((l.take k).filter fun e=>!Fs.lt e.1 s).length≤k:=Nat.le_trans (List.length_filter_le _ _) (List.length_take_le _ _)
  by_cases hkn:k<n
  ·have i2:(k:Int)<(n:Int):=by omega
   have kx:k<l.length:=by rw [←HN.out];exact hkn
   obtain ⟨g,o,rfl,hg,hcu⟩:=HU.out (by omega)
   obtain ⟨c1,c2⟩:=(hcu.below hbel hg) k kx
   have HBE:=lh hbel
   have HSZ:=lh hbel.size
   have HO:=lh hown
   have hst:l.take (k+1)=l.take k++[l[k]]:=List.take_succ_eq_append_getElem kx
   obtain ⟨t,x,htx⟩:∃t x,l[k]=(t,x):=⟨_,_,rfl⟩
   rw [htx] at hst c1 c2
   dsimp only at c1 c2
   have hcA:Op.bytesLess (bs t).toList S.toList=Fs.lt t s:=by rw [HS.out,bs_list,bs_list,less_lt]
   have hcB:(Op.bytesLess S.toList (bs t).toList||S.toList==(bs t).toList) = !Fs.lt t s:=by rw [HS.out,bs_list,bs_list,leq_lt]
   have hfil:((l.take (k+1)).filter fun e=>!Fs.lt e.1 s)=((l.take k).filter fun e=>!Fs.lt e.1 s)++if Fs.lt t s=true then [] else [(t,x)]:=by
    rw [hst,List.filter_append]
    congr 1
    by_cases q:Fs.lt t s=true
    ·rw [if_pos q,List.filter_cons_of_neg (by simp [q])]
     rfl
    ·rw [if_neg q,List.filter_cons_of_pos (by simpa using q)]
     rfl
   have HFI:=lh hfil
   clear hcu hbel hst hown htx hfil
   cases hlt:Fs.lt t s with
   | true=>
    rw [hlt] at hcA hcB
    have HR:Hid (OwnE wr w.heap.size u5 ((l.take (k+1)).filter fun e=>!Fs.lt e.1 s)):=by
     show OwnE _ _ _ _
     rw [HFI.out,if_pos hlt,List.append_nil]
     exact HO.out
    clear HO HFI hlt
    generalize bs t=T at *
    go_wp2_with fail
    go_roundg (n-(k+1))
    case rel=>exact ⟨k+1,by omega,rfl,by go_num,HR.out,HBE.out⟩
    case measure=>omega
   | false=>
    rw [hlt] at hcA hcB
    have HR:Hid (((l.take (k+1)).filter fun e=>!Fs.lt e.1 s)=((l.take k).filter fun e=>!Fs.lt e.1 s)++[(t,x)]):=by
     show _=_
     rw [HFI.out,if_neg (by simp [hlt])]
    clear HFI hlt
    generalize ((l.take k).filter fun e=>!Fs.lt e.1 s)=acc at *
    obtain ⟨a6,c6,hv6⟩:=HO.out.form
    subst hv6
    go_wp2_with (at_builtin;go_loud ((refine wpList_pushR rfl _ _ 22 29 rfl ii _ 2 24 Tryz.underlying22 hi hz0 hz1 hz2 rfl (by decide) w.heap.size HSZ.out (.slice a6 acc.length c6) acc.length (entV acc) rfl HO.out [.string (bs t),.int .i64 x] rfl (one_of rfl) rfl (by omega) (by omega) ?_;intro g5 cap5 w5 hown5 hgr5)))
    have HO5:Hid (OwnE w5 w.heap.size (.slice (some ⟨g5,0,none⟩) (acc.length+1) cap5) ((l.take (k+1)).filter fun e=>!Fs.lt e.1 s)):=by show OwnE _ _ _ _;rw [HR.out];exact OwnE.push (x:=(t,x)) hown5
    have HB5:Hid (Below w.heap.size w w5):=hgr5.below HBE.out HSZ.out fun k hk=>(HO.out.lt k hk).1
    clear hown5 hgr5
    go_wp2_with fail
    go_roundg (n-(k+1))
    case rel=>exact ⟨k+1,by omega,rfl,by go_num,HO5.out,HB5.out⟩
    case measure=>omega
  ·obtain rfl:k=n:=by omega
   have i2:¬(k:Int)<(k:Int):=by omega
   rw [List.take_of_length_le (by rw [←HN.out];exact Nat.le_refl _)] at hown
   have HO:=lh hown
   have HBE:=lh hbel
   obtain ⟨a6,c6,hv6⟩:=hown.form
   subst hv6
   clear hown hbel
   go_wp2_with fail
   go_ret
   exact ⟨_,rfl,HO.out,HBE.out⟩
theorem bs_self2 (s:ByteArray):bs s.data.toList=s:=by
 obtain ⟨⟨l⟩⟩:=s
 rfl
theorem sameS_any (w:World) (u v:Value) (xs ys:List Fs.En) (hu:EnS w u xs) (hv:EnS w v ys):
  Calls Tryz.prog 13 #[u,v] w fun e' w'=>e'=.returned (.bool (decide (xs=ys)))∧Below w.heap.size w w':=by
 have H:=lh (same_any w u v xs ys hu hv)
 obtain ⟨a,c,rfl,-⟩:=hu
 obtain ⟨a',c',rfl,-⟩:=hv
 go_enter Tryz.func13,Tryz.ntmps13
 go_wp2_with (go_at_call 28;refine H.out.mono ?_;rintro e1 w1 ⟨rfl,hb1⟩;have HB1:=lh hb1;clear hb1)
 go_ret
 exact ⟨rfl,HB1.out⟩
namespace Wk
def yF (stop:Int) (s:List Fs.En) (e:Fs.En):List Fs.En × Bool:=(s++[e],!decide (((s.length+1:Nat):Int)=stop))
theorem feed_from (stop:Int):∀(M acc:List Fs.En),(feed (yF stop) acc M).1=if (acc.length:Int)<stop then acc++M.take (stop.toNat-acc.length) else acc++M
 | [],acc=>by
  show acc=_
  split <;> simp
 | e :: M,acc=>by
  show (if (yF stop acc e).2=true then feed (yF stop) (yF stop acc e).1 M else ((yF stop acc e).1,false)).1=_
  unfold yF
  by_cases h:((acc.length+1:Nat):Int)=stop
  ·rw [decide_eq_true h,if_neg (by simp)]
   show acc++[e]=_
   rw [if_pos (by omega),show stop.toNat-acc.length=1 by omega]
   rfl
  ·rw [decide_eq_false h,if_pos (by rfl)]
   show (feed (yF stop) (acc++[e]) M).1=_
   rw [feed_from stop M (acc++[e]),List.length_append,List.length_singleton,List.append_assoc,List.append_assoc]
   by_cases h2:(acc.length:Int)<stop
   ·rw [if_pos h2,if_pos (by omega),show stop.toNat-acc.length=(stop.toNat-(acc.length+1))+1 by omega,List.take_succ_cons]
    rfl
   ·rw [if_neg h2,if_neg (by omega)]
    rfl
end Wk
structure FroJ (B gb kb:Nat) (stop:Int) (W:World) (s:List Fs.En):Prop where
 box:∃lv,RowT 22 W gb #[lv]∧OwnE W B lv s
 lim:RowT 3 W kb #[.int .i64 stop]
theorem fromTold_any (B gb kb:Nat) (stop:Int) (W:World) (acc:List Fs.En) (hl:B≤gb) (hBW:B≤W.heap.size) (h:FroJ B gb kb stop W acc) (hn:acc.length<65536) (t:List UInt8) (x:Int):
  Calls Tryz.prog 11 #[.agg #[.string (bs t),.int .i64 x],.pointer (some ⟨gb,0,none⟩),.pointer (some ⟨kb,0,none⟩)] W fun e w'=>e=.returned (.bool (Wk.yF stop acc (t,x)).2)∧FroJ B gb kb stop w' (Wk.yF stop acc (t,x)).1∧KeptT (5 :: Wk.TW) B W w':=by
 obtain ⟨⟨lv,h1,hown⟩,h2⟩:=h
 obtain ⟨al,cl,rfl⟩:=hown.form
 have hba:=(Below.refl W.heap.size W).alloc (Nat.le_refl _) (.cells #[.string (bs t),.int .i64 x] 29)
 have HQ:=lh (And.intro (h1.keep (hba.block _ h1.lt)) (And.intro (h2.keep (hba.block _ h2.lt)) (And.intro (show OwnE (W.alloc (.cells #[.string (bs t),.int .i64 x] 29)) B (.slice al acc.length cl) acc from World.ownsRow.alloc hown _) (show RowT 29 (W.alloc (.cells #[.string (bs t),.int .i64 x] 29)) W.heap.size #[.string (bs t),.int .i64 x] from Go.Deep.blk_alloc_new _ _))))
 have HSZ:Hid (B≤(W.alloc (.cells #[.string (bs t),.int .i64 x] 29)).heap.size):=Nat.le_trans hBW hba.size
 have HK0:Hid (KeptT (5 :: Wk.TW) B W (W.alloc (.cells #[.string (bs t),.int .i64 x] 29))):=KeptT.of_below hba
 clear h1 h2 hown hba
 unfold Wk.yF
 obtain ⟨rb,hrb⟩:∃rb,rb = !decide (((acc.length+1:Nat):Int)=stop):=⟨_,rfl⟩
 have HRB:=lh hrb
 rw [←hrb]
 clear hrb
 go_enter Tryz.func11,Tryz.ntmps11
 go_upto_region 1 with (fail)
 generalize W.alloc (.cells #[.string (bs t),.int .i64 x] 29)=W2 at *
 generalize W.heap.size=xb at *
 have m1:=HQ.out.1.cell 0
 have m2:=HQ.out.2.2.2.cell 0
 have m3:=HQ.out.2.2.2.cell 1
 obtain ⟨ii,hii,hz0,hz1,hz2⟩:=info_parts Tryz.infoE
 have HPU:Hid (∀g5 cap5 w5,w5.ownsRow B 29 2 (.slice (some ⟨g5,0,none⟩) (acc.length+1) cap5) (acc.length+1) (entV acc++[.string (bs t),.int .i64 x])→Grew W2 w5 (.slice al acc.length cl) (.slice (some ⟨g5,0,none⟩) (acc.length+1) cap5)→(w5.cell? ⟨gb,0,none⟩=some (.slice al acc.length cl)∧w5.frozen? ⟨gb,0,none⟩=false)∧FroJ B gb kb stop (w5.setCell ⟨gb,0,none⟩ (.slice (some ⟨g5,0,none⟩) (acc.length+1) cap5)) (acc++[(t,x)])∧KeptT (5 :: Wk.TW) B W (w5.setCell ⟨gb,0,none⟩ (.slice (some ⟨g5,0,none⟩) (acc.length+1) cap5))∧(w5.setCell ⟨gb,0,none⟩ (.slice (some ⟨g5,0,none⟩) (acc.length+1) cap5)).cell? ⟨gb,0,none⟩=some (.slice (some ⟨g5,0,none⟩) (acc.length+1) cap5)∧(w5.setCell ⟨gb,0,none⟩ (.slice (some ⟨g5,0,none⟩) (acc.length+1) cap5)).cell? ⟨kb,0,none⟩=some (.int .i64 stop)):=fun g5 cap5 w5 h5 hg5=>by
  obtain ⟨q1,q2,qo,_⟩:=HQ.out
  obtain ⟨a1,a2,a3,a4⟩:=push_to q1 hl qo h5 hg5
  have r2:=q2.keep (a4.kind _ _ _ _ q2 (by decide))
  exact ⟨a1,⟨⟨_,a2,a3⟩,r2⟩,HK0.out.trans (a4.less (by decide)),a2.cell 0,r2.cell 0⟩
 go_upto_region 2 with (at_builtin;go_loud ((refine wpList_pushR rfl _ _ 22 29 rfl ii _ 2 24 Tryz.underlying22 hii hz0 hz1 hz2 rfl (by decide) B HSZ.out (.slice al acc.length cl) acc.length (entV acc) rfl HQ.out.2.2.1 [.string (bs t),.int .i64 x] rfl (one_of rfl) rfl (by omega) (by omega) ?_;intro g5 cap5 w5 hown5 hgr5;obtain ⟨⟨m5,m6⟩,hj5,hk5,m7,m8⟩:=HPU.out g5 cap5 w5 hown5 hgr5;have HJ5:=lh hj5;have HK5:=lh hk5;clear hown5 hgr5 hj5 hk5)))
 by_cases hst:((acc.length+1:Nat):Int)=stop
 ·have hr:Hid (rb=false):=by show _=_;rw [HRB.out,decide_eq_true hst];rfl
  subst hst
  go_wp2_with fail
  go_ret
  exact ⟨by rw [hr.out];rfl,HJ5.out,HK5.out⟩
 ·have hr:Hid (rb=true):=by show _=_;rw [HRB.out,decide_eq_false hst];rfl
  have h3:((acc.length:Int)+1 != stop)=true:=by rw [bne_iff_ne];omega
  go_wp2_with fail
  go_ret
  exact ⟨by rw [hr.out];first | rfl | exact congrArg (fun b=>Ending.returned (.bool b)) h3,HJ5.out,HK5.out⟩
theorem from_told (w0:World) (gb kb:Nat) (hl:w0.heap.size≤gb) (stop:Int):Told Tryz.prog w0 11 #[.pointer (some ⟨gb,0,none⟩),.pointer (some ⟨kb,0,none⟩)] (Wk.yF stop) (fun s=>s.length) (FroJ w0.heap.size gb kb stop) where
 ey:=enters_of Tryz.func11 (by kernel_rfl) rfl
 less:=fun s e=>by
  show (s++[e]).length≤_
  rw [List.length_append,List.length_singleton]
  omega
 jkeep:=fun W W' s h k=>by
  obtain ⟨⟨lv,h1,h2⟩,h3⟩:=h
  exact ⟨⟨lv,h1.keep (k.kind _ _ _ _ h1 (by decide)),ownsRow_kt h2 k (by decide)⟩,h3.keep (k.kind _ _ _ _ h3 (by decide))⟩
 yield:=fun W s t x hc h hb=>(fromTold_any _ gb kb stop W s hl hb.size h hc t x).mono fun e w' ⟨h1,h2,h3⟩=>⟨h1,h2,h3.below hb hb.size,h3⟩
theorem openL_yes {w w1:World} {v:Value} {l:List Fs.En} (h:Calls Tryz.prog 7 #[v] w fun e w'=>∃dv,e=.returned dv∧Below w1.heap.size w1 w'∧((Fs.fitO l=true∧∃db,dv=.pointer (some ⟨db,0,none⟩)∧Dt w' dv l)∨(Fs.fitO l=false∧dv=.pointer none))) (hf:Fs.fitO l=true):
  Calls Tryz.prog 7 #[v] w fun e w'=>∃db,e=.returned (.pointer (some ⟨db,0,none⟩))∧Below w1.heap.size w1 w'∧Dt w' (.pointer (some ⟨db,0,none⟩)) l:=by
 refine h.mono ?_
 rintro e w' ⟨dv,rfl,h1,⟨_,db,rfl,h3⟩ | ⟨h2,_⟩⟩
 ·exact ⟨db,rfl,h1,h3⟩
 ·rw [hf] at h2
  cases h2
theorem openL_no {w w1:World} {v:Value} {l:List Fs.En} (h:Calls Tryz.prog 7 #[v] w fun e w'=>∃dv,e=.returned dv∧Below w1.heap.size w1 w'∧((Fs.fitO l=true∧∃db,dv=.pointer (some ⟨db,0,none⟩)∧Dt w' dv l)∨(Fs.fitO l=false∧dv=.pointer none))) (hf:Fs.fitO l=false):
  Calls Tryz.prog 7 #[v] w fun e w'=>e=.returned (.pointer none)∧Below w1.heap.size w1 w':=by
 refine h.mono ?_
 rintro e w' ⟨dv,rfl,h1,⟨h2,_⟩ | ⟨_,rfl⟩⟩
 ·rw [hf] at h2
  cases h2
 ·exact ⟨rfl,h1⟩
end F12
namespace F12
open Go.RowKit Go.Maps
namespace Wk
def cutF (stop:Int) (M:List Fs.En):List Fs.En:=if 0<stop then M.take stop.toNat else M
theorem cutF_feed (stop:Int) (M:List Fs.En):(feed (yF stop) [] M).1=cutF stop M:=by
 rw [feed_from]
 unfold cutF
 simp only [List.length_nil,List.nil_append,Nat.sub_zero]
 rfl
theorem cutF_some {stop:Int} {M:List Fs.En} (h:M≠[]):cutF stop M≠[]∧(cutF stop M).head?=M.head?:=by
 cases M with
 | nil=>exact absurd rfl h
 | cons e M=>
  unfold cutF
  split
  ·rw [show stop.toNat=(stop.toNat-1)+1 by omega,List.take_succ_cons]
   exact ⟨by simp,rfl⟩
  ·exact ⟨by simp,rfl⟩
theorem cutF_nil (stop:Int):cutF stop []=[]:=by unfold cutF;split <;> simp
end Wk
theorem EnS.part {w:World} {a:Option Addr} {c:Nat} {l:List Fs.En} (k:Nat) (hk:k≤l.length) (h:EnS w (.slice a l.length c) l):EnS w (.slice a (l.take k).length c) (l.take k):=by
 obtain ⟨a',c',q,h1,h2,h3⟩:=h
 obtain ⟨q1,_,q3⟩:=Value.slice.inj q
 subst q1 q3
 have hl:(l.take k).length=k:=by rw [List.length_take];omega
 refine ⟨a,c,rfl,by omega,h2,fun h0=>?_⟩
 obtain ⟨g,o,h4,h5,h6⟩:=h3 (by omega)
 refine ⟨g,o,h4,h5,fun i hi=>?_⟩
 have:=h6 i (by omega)
 rw [List.getElem_take]
 exact this
theorem from_walk (w:World) (v:Value) (l:List Fs.En) (s:ByteArray) (stop:Int) (h:EnS w v l) (hb:∀e∈l,e.1.length≤140737488355328) (hm:∀e∈l,e.2≤9223372036854775807) (hs:s.size≤9223372036854775806) (hT:Tabs w):
  Calls Tryz.prog 3 #[v,.string s,.int .i64 stop] w fun e w'=>e=.returned (.bool true)∧Below w.heap.size w w':=by
 have hs2:s.data.toList.length≤9223372036854775806:=by
  rw [Array.length_toList]
  exact hs
 have b0:Below w.heap.size w (w.alloc (.cells #[.int .i64 stop] 3)):=(Below.refl _ _).alloc (Nat.le_refl _) _
 have r0:RowT 3 (w.alloc (.cells #[.int .i64 stop] 3)) w.heap.size #[.int .i64 stop]:=Go.Deep.blk_alloc_new _ _
 obtain ⟨W0,hW0⟩:∃W0,W0=w.alloc (.cells #[.int .i64 stop] 3):=⟨_,rfl⟩
 rw [←hW0] at b0 r0
 have hop:=openL_any W0 v l (h.below b0 (Nat.le_refl _)) hb hm
 have HAW:Hid (∀W,Below W0.heap.size W0 W→Calls Tryz.prog 8 #[] W fun e w'=>e=.returned (.bool true)∧Below W.heap.size W w'):=fun W hb=>awake_any W (hT.below (b0.trans (hb.mono b0.size)))
 have HBB:Hid (∀W,Below W0.heap.size W0 W→Below w.heap.size w W):=fun W hb=>b0.trans (hb.mono b0.size)
 cases hfit:Fs.fitO l with
 | false=>
  have HOP:=lh (openL_no hop hfit)
  clear hop
  obtain ⟨a,c,rfl,-⟩:=h
  subst hW0
  clear b0 r0 hT hfit hb hm hs hs2
  go_enter Tryz.func3,Tryz.ntmps3
  go_upto_region 2 with (go_at_call 7;go_loud ((refine HOP.out.mono ?_;rintro e1 w1 ⟨rfl,hb1⟩;have HB1:=lh hb1;clear hb1)))
  go_upto_region 3 with (go_at_call 8;go_loud ((refine (HAW.out w1 HB1.out).mono ?_;rintro e2 w2 ⟨rfl,hb2⟩;have HB2:=lh (HB1.out.trans (hb2.mono HB1.out.size));clear hb2)))
  go_wp2_with (go_at_call 8;go_loud ((refine (HAW.out w2 HB2.out).mono ?_;rintro e3 w3 ⟨rfl,hb3⟩;have HB3:=lh (HB2.out.trans (hb3.mono HB2.out.size));clear hb3)))
  go_ret
  exact ⟨rfl,HBB.out _ HB3.out⟩
 | true=>
  have HOP:=lh (openL_yes hop hfit)
  clear hop
  have hlen:l.length≤65536:=by have:=(Fs.fitO_iff.1 hfit).1;omega
  have HRF:Hid (∀W,Below W0.heap.size W0 W→Calls Tryz.prog 9 #[v,.string s] W fun e w'=>∃v',e=.returned v'∧OwnE w' W.heap.size v' (l.filter fun e=>!Fs.lt e.1 s.data.toList)∧Below W.heap.size W w'):=fun W hb=>by
   have:=refFrom_any W v l s.data.toList (h.below (b0.trans (hb.mono b0.size)) (Nat.le_refl _)) hlen
   rw [bs_self2] at this
   exact this
  have HFR:Hid (∀W p,Below W0.heap.size W0 W→Dt W (.pointer p) l→Calls Tryz.prog 10 #[.pointer p,.string s,.func (.func 11) #[] #[.pointer (some ⟨W.heap.size,0,none⟩),.pointer (some ⟨w.heap.size,0,none⟩)]] (W.alloc (.cells #[.slice none 0 0] 22)) fun e w'=>e=.returned (.tuple #[])∧FroJ W.heap.size W.heap.size w.heap.size stop w' (Wk.cutF stop (l.filter fun e=>!Fs.lt e.1 s.data.toList))∧Below W.heap.size W w'):=fun W p hb hd=>by
   have a1:Below W.heap.size W (W.alloc (.cells #[.slice none 0 0] 22)):=(Below.refl _ _).alloc (Nat.le_refl _) _
   have q1:RowT 22 (W.alloc (.cells #[.slice none 0 0] 22)) W.heap.size #[.slice none 0 0]:=Go.Deep.blk_alloc_new _ _
   have q2:=r0.keep (hb.block _ r0.lt)
   have:=from_any W _ (.pointer p) l hd s.data.toList hs2 _ _ _ _ _ (from_told W W.heap.size w.heap.size (Nat.le_refl _) stop) [] (by simp only [List.length_nil];omega) a1 ⟨⟨_,q1,ownE_nil _ _⟩,q2.keep (a1.block _ q2.lt)⟩
   rw [bs_self2,Wk.cutF_feed] at this
   exact this
  have HCE:Hid (∀W p,Dt W (.pointer p) l→Calls Tryz.prog 12 #[.pointer p,.string s] W fun e w'=>e=.returned (.tuple #[.agg (entC (l.filter fun e=>!Fs.lt e.1 s.data.toList).head?),.bool (l.filter fun e=>!Fs.lt e.1 s.data.toList).head?.isSome])∧Below W.heap.size W w'):=fun W p h=>by
   have:=ceil_any W _ l h s.data.toList hs2
   rw [bs_self2] at this
   exact this
  obtain ⟨a,c,rfl,-⟩:=h
  generalize l.filter (fun e=>!Fs.lt e.1 s.data.toList)=M at *
  have HK0:=lh r0
  subst hW0
  clear b0 r0 hT hfit hb hm hs hs2
  go_enter Tryz.func3,Tryz.ntmps3
  go_upto_region 2 with (go_at_call 7;go_loud ((refine HOP.out.mono ?_;rintro e1 w1 ⟨db,rfl,hb1,hd1⟩;have HB1:=lh hb1;have HD1:=lh hd1;clear hb1 hd1)))
  go_upto_region 4 with (go_at_call 8;go_loud ((refine (HAW.out w1 HB1.out).mono ?_;rintro e2 w2 ⟨rfl,hb2⟩;have HB2:=lh (HB1.out.trans (hb2.mono HB1.out.size));have HD2:=lh (HD1.out.below hb2);clear hb2)))
  go_upto_region 5 with (go_at_call 9;go_loud ((refine (HRF.out w2 HB2.out).mono ?_;rintro e4 w4 ⟨v4,rfl,ho4,hb4⟩;obtain ⟨a8,c8,rfl⟩:=ho4.form;have HO4:=lh ho4;have HB4:=lh (HB2.out.trans (hb4.mono HB2.out.size));have HD4:=lh (HD2.out.below hb4);clear ho4 hb4)))
  go_upto_region 7 with (go_at_call 10;go_loud ((refine (HFR.out w4 _ HB4.out HD4.out).mono ?_;rintro e6 w6 ⟨rfl,hj6,hb6⟩;have HJ6:=lh hj6;have k6:=hj6.lim.cell 0;have HB6:=lh hb6;clear hj6 hb6)))
  obtain ⟨K,hK⟩:∃K,K=Wk.cutF stop M:=⟨_,rfl⟩
  have HK:=lh hK
  rw [←hK] at HJ6
  clear hK
  obtain ⟨lv6,hg6,ho6⟩:=HJ6.out.box
  obtain ⟨al6,cl6,rfl⟩:=ho6.form
  have hens4:=HO4.out.ens
  obtain ⟨hc8,hm8⟩:M.length≤c8∧c8≤9223372036854775807:=by
   obtain ⟨_,_,q,q1,q2,_⟩:=hens4
   have:=(Value.slice.inj q).2.2
   omega
  have HEK:Hid (∀W,Below w4.heap.size w4 W→EnS W (.slice a8 K.length c8) K):=fun W hb=>by
   refine EnS.below ?_ hb (Nat.le_refl _)
   rw [HK.out]
   unfold Wk.cutF
   by_cases h0:0<stop
   ·rw [if_pos h0]
    by_cases h1:stop.toNat≤M.length
    ·exact EnS.part _ h1 hens4
    ·rw [List.take_of_length_le (by omega)]
     exact hens4
   ·rw [if_neg h0]
    exact hens4
  have HG6:=lh hg6
  have HO6:=lh ho6
  clear hg6 ho6 hens4
  obtain ⟨bb,hbb⟩:∃bb,bb=decide (0<stop∧stop<(M.length:Int)):=⟨_,rfl⟩
  have HBC:=lh hbb
  clear hbb
  go_cut [35] (fun s35 wx=>s35=.bool bb∧w6=wx)
  case first=>
   by_cases h0:0<stop
   ·by_cases h1:stop<(M.length:Int)
    ·have hb1:Hid (bb=true):=by show _=_;rw [HBC.out];exact decide_eq_true ⟨h0,h1⟩
     go_wp2_with fail
     go_meet
     exact ⟨by rw [hb1.out],rfl⟩
    ·have hb1:Hid (bb=false):=by show _=_;rw [HBC.out];exact decide_eq_false fun q=>h1 q.2
     go_wp2_with fail
     go_meet
     exact ⟨by rw [hb1.out],rfl⟩
   ·have hb1:Hid (bb=false):=by show _=_;rw [HBC.out];exact decide_eq_false fun q=>h0 q.1
    go_wp2_with fail
    go_meet
    exact ⟨by rw [hb1.out],rfl⟩
  obtain ⟨rfl,rfl⟩:=hcut
  go_upto_if 35 with (fail)
  go_cut [8] (fun s8 wx=>s8=.slice a8 K.length c8∧w6=wx)
  case first=>
   cases bb with
   | true=>
    have hh:=of_decide_eq_true HBC.out.symm
    obtain ⟨k,rfl⟩:∃k:Nat,(k:Int)=stop:=⟨stop.toNat,Int.toNat_of_nonneg (by omega)⟩
    have hkl:Hid (K.length=k):=by
     show _=_
     rw [HK.out]
     unfold Wk.cutF
     rw [if_pos hh.1,List.length_take,Int.toNat_natCast]
     omega
    have i1:(k:Int)≤(c8:Int):=by omega
    have i2:(0:Int)≤(k:Int):=by omega
    have i3:¬(k:Int)<0:=by omega
    have i6:k≤c8:=by omega
    clear hh
    go_wp2_with fail
    go_meet
    exact ⟨by rw [hkl.out],rfl⟩
   | false=>
    have hkl:Hid (K.length=M.length):=by
     show _=_
     rw [HK.out]
     unfold Wk.cutF
     split
     ·rename_i h0
      rw [List.length_take]
      have h1:¬stop<(M.length:Int):=fun q=>by
       have:=HBC.out
       rw [decide_eq_true ⟨h0,q⟩] at this
       cases this
      omega
     ·rfl
    go_wp2_with fail
    go_meet
    exact ⟨by rw [hkl.out],rfl⟩
  case rest=>
   obtain ⟨rfl,rfl⟩:=hcut
   have HXB:Hid (∀w7 cs,Below w6.heap.size w6 w7→Below w6.heap.size w6 (w7.alloc (.cells cs 29))∧RowT 29 (w7.alloc (.cells cs 29)) w7.heap.size cs):=fun w7 cs hb=>⟨hb.alloc hb.size _,Go.Deep.blk_alloc_new _ _⟩
   have HC7:=lh (HCE.out w6 _ (HD4.out.below HB6.out))
   cases M with
   | nil=>
    have hk0:K=[]:=by rw [HK.out];exact Wk.cutF_nil stop
    have hc0:Calls Tryz.prog 12 #[.pointer (some ⟨db,0,none⟩),.string s] w6 fun e w'=>e=.returned (.tuple #[.agg #[.string ByteArray.empty,.int .i64 0],.bool false])∧Below w6.heap.size w6 w':=HC7.out
    have HC0:=lh hc0
    subst hk0
    clear HC7 hc0
    go_upto_region 10 with (go_at_call 12;go_loud ((refine HC0.out.mono ?_;rintro e7 w7 ⟨rfl,hb7⟩;have HB7:=lh hb7;clear hb7)))
    obtain ⟨hb8,hr8⟩:=HXB.out w7 #[.string ByteArray.empty,.int .i64 0] HB7.out
    generalize w7.alloc (.cells #[.string ByteArray.empty,.int .i64 0] 29)=W8 at *
    generalize w7.heap.size=xb at *
    have m0:=(HG6.out.keep (hb8.block _ HG6.out.lt)).cell 0
    have m1:=hr8.cell 0
    have m2:=hr8.cell 1
    have HB8:=lh (HB6.out.trans (hb8.mono HB6.out.size))
    clear hb8 hr8 k6
    go_wp2_with fail
    go_ret
    exact ⟨rfl,HBB.out _ (HB4.out.trans (HB8.out.mono HB4.out.size))⟩
   | cons e M=>
    obtain ⟨t0,x0⟩:=e
    have hk1:=Wk.cutF_some (stop:=stop) (M:=(t0,x0) :: M) (by simp)
    rw [←HK.out] at hk1
    obtain ⟨K',rfl⟩:∃K',K=(t0,x0) :: K':=by
     cases K with
     | nil=>exact absurd rfl hk1.1
     | cons y K'=>exact ⟨K',by have:=hk1.2;simp only [List.head?_cons,Option.some.injEq] at this;rw [this]⟩
    have hc0:Calls Tryz.prog 12 #[.pointer (some ⟨db,0,none⟩),.string s] w6 fun e w'=>e=.returned (.tuple #[.agg #[.string (bs t0),.int .i64 x0],.bool true])∧Below w6.heap.size w6 w':=HC7.out
    have HC0:=lh hc0
    clear HC7 hc0 hk1 HK
    have HSA:Hid (∀W,Below w4.heap.size w4 W→OwnE W w4.heap.size (.slice al6 ((t0,x0) :: K').length cl6) ((t0,x0) :: K')→Calls Tryz.prog 13 #[.slice al6 ((t0,x0) :: K').length cl6,.slice a8 ((t0,x0) :: K').length c8] W fun e w'=>e=.returned (.bool true)∧Below W.heap.size W w'):=fun W hb ho=>by
     have:=sameS_any W _ _ _ _ ho.ens (HEK.out W hb)
     rw [decide_eq_true rfl] at this
     exact this
    have hn0:0<((t0,x0) :: K').length:=by simp
    have HW0:Hid (∀W,Below w4.heap.size w4 W→∃g o,a8=some ⟨g,o,none⟩∧W.cell? ⟨g,o,none⟩=some (.string (bs t0))∧W.cell? ⟨g,o+1,none⟩=some (.int .i64 x0)):=fun W hb=>by
     obtain ⟨a',c',q,_,_,hc⟩:=HEK.out W hb
     obtain ⟨g,o,q2,hg,hcell⟩:=hc hn0
     have h1:=hcell 0 hn0
     exact ⟨g,o,(Value.slice.inj q).1.trans q2,by simpa using h1.1,by simpa using h1.2⟩
    obtain ⟨g8,o8,rfl,_,_⟩:=HW0.out w6 HB6.out
    generalize ((t0,x0) :: K')=K at *
    have HO7:Hid (∀W,Below w6.heap.size w6 W→OwnE W w4.heap.size (.slice al6 K.length cl6) K):=fun W hb=>ownsRow_keep HO6.out fun k hk=>hb.block k (own_kind HO6.out k hk).2.1
    have hkl:((K.length:Int)==0)=false:=by rw [beq_eq_false_iff_ne];omega
    have hk2:(0:Int)<(K.length:Int):=by omega
    go_upto_region 10 with (go_at_call 12;go_loud ((refine HC0.out.mono ?_;rintro e7 w7 ⟨rfl,hb7⟩;have HB7:=lh hb7;clear hb7)))
    obtain ⟨hb8,hr8⟩:=HXB.out w7 #[.string (bs t0),.int .i64 x0] HB7.out
    generalize w7.alloc (.cells #[.string (bs t0),.int .i64 x0] 29)=W8 at *
    generalize w7.heap.size=xb at *
    have HB8:=lh (HB6.out.trans (hb8.mono HB6.out.size))
    have hbd:Below W8.heap.size W8 W8.drew:=(Below.refl _ _).drew
    have hbe:Below w6.heap.size w6 W8.drew:=hb8.trans (hbd.mono hb8.size)
    obtain ⟨g9,o9,q9,y0,y1⟩:=HW0.out W8.drew (HB6.out.trans (hbe.mono HB6.out.size))
    simp only [Option.some.injEq,Addr.mk.injEq,and_true] at q9
    obtain ⟨rfl,rfl⟩:=q9
    have hg8:=HG6.out.keep (hbe.block _ HG6.out.lt)
    have S0:=And.intro (hg8.cell 0) (And.intro (hr8.keep (hbd.block _ hr8.lt) |>.cell 0) (And.intro (hr8.keep (hbd.block _ hr8.lt) |>.cell 1) (And.intro y0 y1)))
    have HSQ:=lh (HSA.out W8.drew (HB6.out.trans (hbe.mono HB6.out.size)) (HO7.out _ hbe))
    have HS6:Hid (∀w9,Below W8.drew.heap.size W8.drew w9→(w9.cell? ⟨w4.heap.size,0,none⟩=some (.slice al6 K.length cl6)∧w9.cell? ⟨xb,0,none⟩=some (.string (bs t0))∧w9.cell? ⟨xb,1,none⟩=some (.int .i64 x0)∧w9.cell? ⟨g8,o8,none⟩=some (.string (bs t0))∧w9.cell? ⟨g8,o8+1,none⟩=some (.int .i64 x0))∧Below w.heap.size w w9):=fun w9 hb9=>by
     have hx:=hr8.keep (hbd.block _ hr8.lt)
     have hx9:=hx.keep (hb9.block _ hx.lt)
     have hg9:=hg8.keep (hb9.block _ hg8.lt)
     have hbw:=hbe.trans (hb9.mono hbe.size)
     obtain ⟨g9,o9,q9,y0,y1⟩:=HW0.out w9 (HB6.out.trans (hbw.mono HB6.out.size))
     simp only [Option.some.injEq,Addr.mk.injEq,and_true] at q9
     obtain ⟨rfl,rfl⟩:=q9
     have hbz:=HB6.out.trans (hbw.mono HB6.out.size)
     exact ⟨⟨hg9.cell 0,hx9.cell 0,hx9.cell 1,y0,y1⟩,HBB.out _ (HB4.out.trans (hbz.mono HB4.out.size))⟩
    clear hb8 hr8 hbd hbe y0 y1 hg8 k6
    generalize bs t0=T0 at *
    generalize K.length=kl at *
    go_upto_region 12 with (fail)
    go_region_held3 (fun wx=>wx.cell? ⟨w4.heap.size,0,none⟩=some (.slice al6 kl cl6)∧wx.cell? ⟨xb,0,none⟩=some (.string T0)∧wx.cell? ⟨xb,1,none⟩=some (.int .i64 x0)∧wx.cell? ⟨g8,o8,none⟩=some (.string T0)∧wx.cell? ⟨g8,o8+1,none⟩=some (.int .i64 x0)) (first | exact S0 | exact S9.1) (first | (go_at_call 13;refine HSQ.out.mono ?_;rintro e9 w9 ⟨rfl,hb9⟩;have S9:=HS6.out w9 hb9;clear hb9))
    all_goals go_wp2_with fail
    all_goals go_ret
    all_goals exact ⟨rfl,S9.2⟩
end F12
end Go.Proofs.YtmdefnbpimfbgaaGreatDoor
