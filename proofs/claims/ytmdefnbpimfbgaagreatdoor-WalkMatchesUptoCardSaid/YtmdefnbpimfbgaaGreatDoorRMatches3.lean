/-
  Lemmas on automata, dictionaries and the walk over them, the program's calls and the given ones.
-/
import Derived.Test.YtmdefnbpimfbgaaGreatDoorRMatches2
import Derived.Deep.SlicePairs
set_option maxRecDepth 100000
set_option maxHeartbeats 16000000
namespace Go.Proofs.YtmdefnbpimfbgaaGreatDoor
namespace F12
open Go.RowKit Go.Maps
section
variable {P:Program} (w:World)
end
namespace Ap
end Ap
section
variable (w:World) {ops:Array Oper} {rest:List Oper} {o:Oper} {a:Act} {Q:Exit→Act→World→Prop}
end
theorem bs_of (s:ByteArray):bs s.data.toList=s:=by cases s;simp [bs]
theorem entV_length (l:List Fs.En):(entV l).length=l.length*2:=by
 induction l with
 | nil=>rfl
 | cons x t ih=>
  show (_ :: _ :: entV t).length=_
  simp only [List.length_cons,ih]
  omega
end F12
namespace F12
open Go.RowKit
theorem takeE_snoc {xs ys:List Fs.En} {k:Nat} (h1:k<xs.length) (h2:k<ys.length) (h:xs.take k=ys.take k) (e:xs[k]=ys[k]):xs.take (k+1)=ys.take (k+1):=by
 rw [List.take_succ_eq_append_getElem h1,List.take_succ_eq_append_getElem h2,h,e]
theorem same_any (w:World) (u v:Value) (xs ys:List Fs.En) (hu:EnS w u xs) (hv:EnS w v ys):
  Calls Tryz.prog 28 #[u,v] w fun e' w'=>e'=.returned (.bool (decide (xs=ys)))∧Below w.heap.size w w':=by
 obtain ⟨a,cap,rfl,hx,hx',hu⟩:=hu
 obtain ⟨a',cap',rfl,hy,hy',hv⟩:=hv
 have hx2:xs.length≤9223372036854775807:=by omega
 have HU:=lh hu
 have HV:=lh hv
 clear hu hv hx hx' hy hy'
 by_cases hl:xs.length=ys.length
 ·obtain ⟨n,hn⟩:∃n,n=xs.length:=⟨_,rfl⟩
  have hn2:ys.length=n:=by omega
  have HN:=lh hn
  have HN2:=lh hn2
  rw [←hn] at hx2 ⊢
  rw [hn2]
  clear hl hn hn2
  go_enter Tryz.func28,Tryz.ntmps28
  go_wp2_with fail
  go_loopg [5] n (fun g i wx=>∃k:Nat,k≤n∧g=n-k∧i=.int .i64 k∧Hid (xs.take k=ys.take k)∧Below w.heap.size w wx)
  case atStart=>exact ⟨0,Nat.zero_le _,rfl,rfl,by show _=_;rw [List.take_zero,List.take_zero],Below.refl _ _⟩
  case round=>
   obtain ⟨k,hk,rfl,rfl,hS,hbel⟩:=hrel
   by_cases hkn:k<n
   ·have i1:(k:Int)<(n:Int):=by omega
    have kx:k<xs.length:=by rw [←HN.out];exact hkn
    have ky:k<ys.length:=by rw [HN2.out];exact hkn
    obtain ⟨g,o,rfl,hg,hcu⟩:=HU.out (by omega)
    obtain ⟨g',o',rfl,hg',hcv⟩:=HV.out (by omega)
    obtain ⟨c1,c2⟩:=(hcu.below hbel hg) k kx
    obtain ⟨c3,c4⟩:=(hcv.below hbel hg') k ky
    have HBE:=lh hbel
    by_cases he:xs[k]=ys[k]
    ·have hst:Hid (xs.take (k+1)=ys.take (k+1)):=takeE_snoc kx ky hS.out he
     rw [←he] at c3 c4
     clear hS he hcu hcv hbel
     generalize bs xs[k].1=x at *
     generalize xs[k].2=xn at *
     go_wp2_with fail
     go_quiet (fail)
     go_wp2_with fail
     go_roundg (n-(k+1))
     case rel=>exact ⟨k+1,by omega,rfl,by go_num,hst,by first | exact HBE.out | exact belowN HBE.out _⟩
     case measure=>omega
    ·have hfin:Hid (decide (xs=ys)=false):=decide_eq_false (fun h=>he (by subst h;rfl))
     clear hS hcu hcv hbel
     generalize xs[k]=x at *
     generalize ys[k]=y at *
     obtain ⟨xs',xn⟩:=x
     obtain ⟨ys',yn⟩:=y
     dsimp only at c1 c2 c3 c4
     by_cases h1:xs'=ys'
     ·subst h1
      have he':(xn==yn)=false:=by
       simp only [Prod.mk.injEq,true_and] at he
       simpa using he
      clear he
      generalize bs xs'=x at *
      go_wp2_with fail
      go_quiet (fail)
      go_wp2_with fail
      go_ret
      exact ⟨by rw [hfin.out];rfl,by first | exact HBE.out | exact belowN HBE.out _⟩
     ·have he':((bs xs').toList==(bs ys').toList)=false:=by
       rw [bs_list,bs_list,beq_eq_false_iff_ne]
       exact h1
      clear he h1
      generalize bs xs'=x at *
      generalize bs ys'=y at *
      go_wp2_with fail
      go_quiet (fail)
      go_wp2_with fail
      go_ret
      exact ⟨by rw [hfin.out];rfl,by first | exact HBE.out | exact belowN HBE.out _⟩
   ·have hfin:Hid (decide (xs=ys)=true):=by
     obtain rfl:k=n:=by omega
     have h:=hS.out
     rw [List.take_of_length_le (by rw [←HN.out];exact Nat.le_refl _),List.take_of_length_le (by rw [HN2.out];exact Nat.le_refl _)] at h
     exact decide_eq_true h
    have HBE:=lh hbel
    clear hS hbel
    go_wp2_with fail
    go_ret
    exact ⟨by rw [hfin.out];rfl,HBE.out⟩
 ·have hfin:Hid (decide (xs=ys)=false):=decide_eq_false (fun h=>hl (by rw [h]))
  have hl':((xs.length:Int) != (ys.length:Int))=true:=by simp;omega
  go_enter Tryz.func28,Tryz.ntmps28
  go_wp2_with fail
  go_ret
  exact ⟨by rw [hfin.out];rfl,Below.refl _ _⟩
end F12
namespace F12
open Go.RowKit
section
variable {ops:Array Oper} {rest:List Oper} {o:Oper} {a:Act}
end
theorem OwnE.lt {w:World} {B:Nat} {v:Value} {l:List Fs.En} (h:OwnE w B v l):∀k,v.ownBlock=some k→B≤k∧k<w.heap.size:=fun k hk=>World.ownsRow.lt h k hk
end F12
namespace F12
open Go.RowKit Go.Maps
theorem ent_news {w:World} {g o:Nat} {l:List Fs.En} (h:EnC w g o l):∀j u,(entV l)[j]?=some u→w.cell? ((⟨g,o,none⟩:Addr).add j)=some u:=by
 intro j u hu
 have hj:j<(entV l).length:=(List.getElem?_eq_some_iff.1 hu).1
 rw [entV_length] at hj
 have hk:j/2<l.length:=by omega
 obtain ⟨b1,b2⟩:=h (j/2) hk
 have a1:=entV_s l (j/2) hk
 have a2:=entV_n l (j/2) hk
 have hadd:(⟨g,o,none⟩:Addr).add j=⟨g,o+j,none⟩:=by unfold Addr.add;split <;> simp_all
 rw [hadd]
 have hm:j%2=0∨j%2=1:=by omega
 rcases hm with hm | hm
 ·rw [show j=j/2*2 by omega,a1] at hu
  rw [←hu,←b1]
  congr 2
  omega
 ·rw [show j=j/2*2+1 by omega,a2] at hu
  rw [←hu,←b2]
  congr 2
  omega
def EnX (w:World) (v:Value) (l:List Fs.En):Prop:=v=.slice none 0 0∧l=[]∨∃x cap,v=.slice (some x) l.length cap∧∀j u,(entV l)[j]?=some u→w.cell? (x.add j)=some u∧(x.add j).block<w.heap.size
end F12
namespace F12.frame
open Go.Proofs.YtmdefnbpimfbgaaGreatDoor.frame
open Go.ChangeShapes Go.WideShapes Go.ChangeAt Go.RowKit
open Go.ChangeMaps (open_string shut_string)
theorem part_le {H:Type} {l:List (DataW H)} {x:DataW H} (h:x∈l):Rows.uptoBulk x≤Rows.uptoBulkAll l:=by
 induction l with
 | nil=>cases h
 | cons y t ih=>
  simp only [Rows.uptoBulkAll]
  rcases List.mem_cons.1 h with rfl | h
  ·omega
  ·have:=ih h;omega
theorem parts_le {H:Type} (l:List (DataW H)):Rows.uptoBulkAll l+1≤Rows.uptoBulk (.agg l):=by
 simp only [Rows.uptoBulk]
 omega
section
variable {H:Type} {enc:TypeId × Value→H} {W:World}
theorem spot_of {x:Addr} {v:Value} (h:W.cell? (x.add 0)=some v):∃b o,x=⟨b,o,none⟩∧b<W.heap.size∧∀j,x.add j=⟨b,o+j,none⟩:=by
 obtain ⟨b,off,spot⟩:=x
 have hspot:spot=none:=by
  have h1:=World.cell?_spot h
  simpa [Addr.add] using h1
 subst hspot
 have hadd:∀j,(⟨b,off,none⟩:Addr).add j=⟨b,off+j,none⟩:=fun j=>by
  unfold Addr.add
  split <;> simp_all
 rw [hadd] at h
 exact ⟨b,off,rfl,World.block_lt_of_cell? W _ h,hadd⟩
theorem ents_of {a:Option Addr} {len cap:Nat} {d:DataW H} {p:List MemPlace} (h:DataW.Trod enc Tryz.prog W 0 (fun _=>true) true 22 (.slice a len cap) d p):
  ∃l:List Fs.En,EnS W (.slice a len cap) l∧EnX W (.slice a len cap) l∧(∀e∈l,e.2≤9223372036854775807)∧∀e∈l,e.1.length≤Rows.uptoBulk d:=by
 obtain ⟨fuel,hf⟩:=h
 have ce:Tryz.prog.cellsOf 29=2:=by kernel_rfl
 have c3:Tryz.prog.cellsOf 3=1:=by kernel_rfl
 have c9:Tryz.prog.cellsOf 9=1:=by kernel_rfl
 rcases Go.Deep.open_slice_pairs Tryz.underlying22 Tryz.underlying29 ce rfl rfl c9 c3 hf with ⟨hcs,hx⟩ | ⟨x,l,c,m,n,V0,V1,D0,D1,P0,P1,hcs,_,hl,hm,hmm,hx,hall⟩
 ·simp [Value.cells] at hcs
  obtain ⟨rfl,rfl,rfl⟩:=hcs
  exact ⟨[],⟨none,0,rfl,Nat.le_refl _,by omega,fun h=>by simp at h⟩,.inl ⟨rfl,rfl⟩,fun e q=>absurd q List.not_mem_nil,fun e q=>absurd q List.not_mem_nil⟩
 ·simp [Value.cells] at hcs
  obtain ⟨rfl,rfl,rfl⟩:=hcs
  simp only [if_true] at hmm
  subst hmm
  have hd:d=.slice ((List.range len).map fun i=>.agg [D0 i,D1 i]) ((List.range (m-len)).map fun j=>.agg [D0 (len+j),D1 (len+j)]):=congrArg Prod.fst hx
  have each:∀i,i<len→∃q:Fs.En,(W.cell? (x.add (i*2))=some (.string (bs q.1))∧W.cell? (x.add (i*2+1))=some (.int .i64 q.2))∧q.2≤9223372036854775807∧q.1.length≤Rows.uptoBulk d:=by
   intro i hi
   obtain ⟨h0,h1,t0,t1⟩:=hall i (by omega)
   obtain ⟨s,f0,x0,_⟩:=DataW.trod_string Tryz.underlying9 t0
   obtain ⟨z,f1,x1,wf⟩:=DataW.trod_int Tryz.underlying3 t1
   injection f0 with f0 _
   injection f1 with f1 _
   rw [f0] at h0
   rw [f1] at h1
   refine ⟨(s.data.toList,z),⟨by rw [bs_of];exact h0,h1⟩,?_,?_⟩
   ·have hw:IntKind.i64.min≤z∧z≤IntKind.i64.max:=by simpa [Lit.wf] using wf
    exact hw.2
   ·have hD:D0 i=.lit (.string s.data.toList):=congrArg Prod.fst x0
    have hmem:(DataW.agg [D0 i,D1 i])∈(List.range len).map fun i=>DataW.agg [D0 i,D1 i]:=List.mem_map.2 ⟨i,List.mem_range.2 hi,rfl⟩
    have q1:=part_le hmem
    have q2:=slice_elems ((List.range len).map fun i=>DataW.agg [D0 i,D1 i]) ((List.range (m-len)).map fun j=>DataW.agg [D0 (len+j),D1 (len+j)])
    have q3:=parts_le [D0 i,D1 i]
    have q4:Rows.uptoBulk (D0 i)≤Rows.uptoBulkAll [D0 i,D1 i]:=part_le (List.mem_cons_self ..)
    rw [hD,string_bulk] at q4
    rw [hD] at q3
    have q5:s.data.toList.length=s.size:=Array.length_toList
    rw [hd]
    rw [hD] at q1
    show s.data.toList.length≤_
    omega
  obtain ⟨q,hq⟩:=Go.Deep.choose_lt (p:=fun i (q:Fs.En)=>(W.cell? (x.add (i*2))=some (.string (bs q.1))∧W.cell? (x.add (i*2+1))=some (.int .i64 q.2))∧q.2≤9223372036854775807∧q.1.length≤Rows.uptoBulk d) each
  have hlq:((List.range len).map q).length=len:=by simp
  have hmem:∀e∈(List.range len).map q,∃i,i<len∧e=q i:=fun e he=>by
   obtain ⟨i,hi,rfl⟩:=List.mem_map.1 he
   exact ⟨i,List.mem_range.1 hi,rfl⟩
  have hsp:0<len→∃b o,x=⟨b,o,none⟩∧b<W.heap.size∧∀j,x.add j=⟨b,o+j,none⟩:=fun h0=>spot_of (by simpa using (hq 0 h0).1.1)
  have hen:EnS W (.slice (some x) len m) ((List.range len).map q):=by
   refine ⟨some x,m,by rw [hlq],by rw [hlq];exact hl,by unfold maxLen at hm;omega,fun h0=>?_⟩
   rw [hlq] at h0
   obtain ⟨b,o,rfl,hb,hadd⟩:=hsp h0
   refine ⟨b,o,rfl,hb,fun i hi=>?_⟩
   have hi':i<len:=by rw [hlq] at hi;exact hi
   obtain ⟨⟨t0,t1⟩,_⟩:=hq i hi'
   rw [hadd] at t0 t1
   rw [List.getElem_map,List.getElem_range]
   exact ⟨t0,t1⟩
  refine ⟨(List.range len).map q,hen,.inr ⟨x,m,by rw [hlq],fun j u hj=>?_⟩,fun e he=>?_,fun e he=>?_⟩
  ·have hj2:j<(entV ((List.range len).map q)).length:=(List.getElem?_eq_some_iff.1 hj).1
   rw [entV_length,hlq] at hj2
   obtain ⟨b,o,rfl,hb,hadd⟩:=hsp (by omega)
   obtain ⟨a',c',e1,_,_,e4⟩:=hen
   obtain ⟨g,o',e5,e6,e7⟩:=e4 (by rw [hlq];omega)
   rw [e5] at e1
   injection e1 with e8 _ _
   injection e8 with e8
   injection e8 with e9 e10 _
   subst e9 e10
   exact ⟨ent_news e7 j u hj,by rw [hadd];exact hb⟩
  ·obtain ⟨i,hi,rfl⟩:=hmem e he
   exact (hq i hi).2.1
  ·obtain ⟨i,hi,rfl⟩:=hmem e he
   exact (hq i hi).2.2
end
end F12.frame
namespace F12
open Go.RowKit Go.Maps
theorem sameS_any (w:World) (u v:Value) (xs ys:List Fs.En) (hu:EnS w u xs) (hv:EnS w v ys):
  Calls Tryz.prog 13 #[u,v] w fun e' w'=>e'=.returned (.bool (decide (xs=ys)))∧Below w.heap.size w w':=by
 have H:=lh (same_any w u v xs ys hu hv)
 obtain ⟨a,c,rfl,-⟩:=hu
 obtain ⟨a',c',rfl,-⟩:=hv
 go_enter Tryz.func13,Tryz.ntmps13
 go_wp2_with (go_at_call 28;refine H.out.mono ?_;rintro e1 w1 ⟨rfl,hb1⟩;have HB1:=lh hb1;clear hb1)
 go_ret
 exact ⟨rfl,HB1.out⟩
namespace Wk
end Wk
theorem openL_yes {w w1:World} {v:Value} {l:List Fs.En} (h:Calls Tryz.prog 7 #[v] w fun e w'=>∃dv,e=.returned dv∧Below w1.heap.size w1 w'∧((Fs.fitO l=true∧∃db,dv=.pointer (some ⟨db,0,none⟩)∧Dt w' dv l)∨(Fs.fitO l=false∧dv=.pointer none))) (hf:Fs.fitO l=true):
  Calls Tryz.prog 7 #[v] w fun e w'=>∃db,e=.returned (.pointer (some ⟨db,0,none⟩))∧Below w1.heap.size w1 w'∧Dt w' (.pointer (some ⟨db,0,none⟩)) l:=by
 refine h.mono ?_
 rintro e w' ⟨dv,rfl,h1,⟨_,db,rfl,h3⟩ | ⟨h2,_⟩⟩
 ·exact ⟨db,rfl,h1,h3⟩
 ·rw [hf] at h2
  cases h2
theorem openL_no {w w1:World} {v:Value} {l:List Fs.En} (h:Calls Tryz.prog 7 #[v] w fun e w'=>∃dv,e=.returned dv∧Below w1.heap.size w1 w'∧((Fs.fitO l=true∧∃db,dv=.pointer (some ⟨db,0,none⟩)∧Dt w' dv l)∨(Fs.fitO l=false∧dv=.pointer none))) (hf:Fs.fitO l=false):
  Calls Tryz.prog 7 #[v] w fun e w'=>e=.returned (.pointer none)∧Below w1.heap.size w1 w':=by
 refine h.mono ?_
 rintro e w' ⟨dv,rfl,h1,⟨h2,_⟩ | ⟨_,rfl⟩⟩
 ·rw [hf] at h2
  cases h2
 ·exact ⟨rfl,h1⟩
end F12
namespace F12
open Go.RowKit Go.Maps
namespace Wk
theorem mat_split (l:List Fs.En) (d:List Au.St) (k:Nat):mat l d=mat (l.take k) d++mat (l.drop k) d:=by
 unfold mat
 rw [←List.filter_append,List.take_append_drop]
theorem mat_snoc {l:List Fs.En} {d:List Au.St} {k:Nat} {e:Fs.En} (h:l.take (k+1)=l.take k++[e]):mat (l.take (k+1)) d=mat (l.take k) d++if Au.takesL d e.1=true then [e] else []:=by
 unfold mat
 rw [h,List.filter_append]
 congr 1
 by_cases q:Au.takesL d e.1=true
 ·rw [if_pos q,List.filter_cons_of_pos (by exact q)]
  rfl
 ·rw [if_neg q,List.filter_cons_of_neg (by exact q)]
  rfl
theorem mat_few (l:List Fs.En) (d:List Au.St):(mat l d).length≤l.length:=List.length_filter_le _ _
end Wk
theorem refMatch_any (w:World) (v av:Value) (l:List Fs.En) (d:List Au.St) (m:Nat) (h:EnS w v l) (hv:StS (fun _=>True) w av d) (hlen:l.length≤65536) (hlt:∀e∈l,e.1.length≤9223372036854775806):
  Calls Tryz.prog 15 #[v,av,.int .i64 (m:Int)] w fun e w'=>∃v',e=.returned (.tuple #[v',.bool (decide (m<(Wk.mat l d).length))])∧OwnE w' w.heap.size v' ((Wk.mat l d).take m)∧Below w.heap.size w w':=by
 have HAC:Hid (∀W k (h:k<l.length),Below w.heap.size w W→Calls Tryz.prog 34 #[av,.string (bs l[k].1)] W fun e w'=>e=.returned (.bool (Au.takesL d l[k].1))∧Below W.heap.size W w'):=fun W k hk hb=>by
  have:=acceptsR_any _ W av d (bs l[k].1) (by rw [bs_size];exact hlt _ (List.getElem_mem hk)) (hv.below hb)
  rw [show (bs l[k].1).data.toList=l[k].1 from rfl] at this
  exact this
 obtain ⟨a,cap,rfl,hx,hx',hu⟩:=h
 have HU:=lh hu
 obtain ⟨n,hn⟩:∃n,n=l.length:=⟨_,rfl⟩
 have HN:=lh hn
 rw [←hn] at hx hlen ⊢
 obtain ⟨a2,cap2,rfl,-⟩:=hv
 clear hu hn hlt
 obtain ⟨ii,hi,hz0,hz1,hz2⟩:=info_parts Tryz.infoE
 go_enter Tryz.func15,Tryz.ntmps15
 go_wp2_with fail
 go_loopg [8,9] n (fun gg ov i wx=>∃(k:Nat),k≤n∧gg=n-k∧i=.int .i64 k∧OwnE wx w.heap.size ov (Wk.mat (l.take k) d)∧(Wk.mat (l.take k) d).length≤m∧Below w.heap.size w wx)
 case atStart=>exact ⟨0,Nat.zero_le _,rfl,rfl,ownE_nil _ _,Nat.zero_le _,Below.refl _ _⟩
 case round=>
  obtain ⟨k,hk,rfl,rfl,hown,hml,hbel⟩:=hrel
  have hsl:(Wk.mat (l.take k) d).length≤k:=Nat.le_trans (Wk.mat_few _ _) (List.length_take_le _ _)
  by_cases hkn:k<n
  ·have i2:(k:Int)<(n:Int):=by omega
   have kx:k<l.length:=by rw [←HN.out];exact hkn
   obtain ⟨g,o,rfl,hg,hcu⟩:=HU.out (by omega)
   obtain ⟨c1,c2⟩:=(hcu.below hbel hg) k kx
   have HC:Hid (∀W,Below wr.heap.size wr W→W.cell? ⟨g,o+k*2,none⟩=some (.string (bs l[k].1))∧W.cell? ⟨g,o+k*2+1,none⟩=some (.int .i64 l[k].2)):=fun W hb=>(hcu.below (hbel.trans (hb.mono hbel.size)) hg) k kx
   have HBE:=lh hbel
   have HO:=lh hown
   have HAK:=lh (HAC.out wr k kx hbel)
   have hst:l.take (k+1)=l.take k++[l[k]]:=List.take_succ_eq_append_getElem kx
   have HSN:=lh (Wk.mat_snoc (d:=d) hst)
   have HSP:Hid (Au.takesL d l[k].1=true→(Wk.mat (l.take k) d).length<(Wk.mat l d).length∧(Wk.mat l d).take (Wk.mat (l.take k) d).length=Wk.mat (l.take k) d):=fun q=>by
    have h1:=Wk.mat_split l d (k+1)
    rw [HSN.out,if_pos q] at h1
    rw [h1]
    constructor
    ·simp only [List.length_append,List.length_cons,List.length_nil]
     omega
    ·rw [List.append_assoc,List.take_left']
     rfl
   obtain ⟨t,x,htx⟩:∃t x,l[k]=(t,x):=⟨_,_,rfl⟩
   rw [htx] at c1 c2 HC HAK HSN HSP
   dsimp only at c1 c2 HC HAK HSN HSP
   clear hcu hbel hst hown htx
   cases htk:Au.takesL d t with
   | false=>
    rw [htk] at HAK HSN
    have HR:Hid (Wk.mat (l.take (k+1)) d=Wk.mat (l.take k) d):=by show _=_;rw [HSN.out,if_neg (by simp),List.append_nil]
    clear HSN HSP htk
    go_wp2_with (go_at_call 34;go_loud ((refine HAK.out.mono ?_;rintro e1 w1 ⟨rfl,hb1⟩;have HB1:=lh hb1;clear hb1)))
    go_roundg (n-(k+1))
    case rel=>exact ⟨k+1,by omega,rfl,by go_num,by rw [HR.out];exact ownsRow_keep HO.out fun b hb=>HB1.out.block b (own_kind HO.out b hb).2.1,by rw [HR.out];exact hml,HBE.out.trans (HB1.out.mono HBE.out.size)⟩
    case measure=>omega
   | true=>
    rw [htk] at HAK HSN
    have HR:Hid (Wk.mat (l.take (k+1)) d=Wk.mat (l.take k) d++[(t,x)]):=by show _=_;rw [HSN.out,if_pos rfl]
    have HS2:=lh (HSP.out htk)
    clear HSN HSP htk
    obtain ⟨acc,hacc⟩:∃acc,acc=Wk.mat (l.take k) d:=⟨_,rfl⟩
    rw [←hacc] at HO HR HS2 hml hsl
    clear hacc
    obtain ⟨a6,c6,hv6⟩:=HO.out.form
    subst hv6
    by_cases hfull:(m:Int)≤(acc.length:Int)
    ·have hmm:acc.length=m:=by omega
     have HEQ:Hid (m<(Wk.mat l d).length∧(Wk.mat l d).take m=acc):=by
      rw [←hmm]
      exact HS2.out
     clear hmm HS2 HR
     go_wp2_with (go_at_call 34;go_loud ((refine HAK.out.mono ?_;rintro e1 w1 ⟨rfl,hb1⟩;have HB1:=lh hb1;clear hb1)))
     go_ret2
     exact ⟨_,by rw [decide_eq_true HEQ.out.1];rfl,by rw [HEQ.out.2];exact ownsRow_keep HO.out fun b hb=>HB1.out.block b (own_kind HO.out b hb).2.1,HBE.out.trans (HB1.out.mono HBE.out.size)⟩
    ·have HS1:Hid (∀w1,Below wr.heap.size wr w1→OwnE w1 w.heap.size (.slice a6 acc.length c6) acc∧w.heap.size≤w1.heap.size∧Below w.heap.size w w1):=fun w1 hb=>⟨ownsRow_keep HO.out fun b hk=>hb.block b (own_kind HO.out b hk).2.1,Nat.le_trans HBE.out.size hb.size,HBE.out.trans (hb.mono HBE.out.size)⟩
     clear HS2
     go_upto_region 8 with (go_at_call 34;go_loud ((refine HAK.out.mono ?_;rintro e1 w1 ⟨rfl,hb1⟩;obtain ⟨d1,d2⟩:=HC.out w1 hb1;have HQ1:=lh (HS1.out w1 hb1);clear hb1)))
     clear c1 c2
     go_wp2_with (at_builtin;go_loud ((refine wpList_pushR rfl _ _ 22 29 rfl ii _ 2 24 Tryz.underlying22 hi hz0 hz1 hz2 rfl (by decide) w.heap.size HQ1.out.2.1 (.slice a6 acc.length c6) acc.length (entV acc) rfl HQ1.out.1 [.string (bs t),.int .i64 x] rfl (one_of rfl) rfl (by omega) (by omega) ?_;intro g5 cap5 w5 hown5 hgr5)))
     have HO5:Hid (OwnE w5 w.heap.size (.slice (some ⟨g5,0,none⟩) (acc.length+1) cap5) (Wk.mat (l.take (k+1)) d)):=by show OwnE _ _ _ _;rw [HR.out];exact OwnE.push (x:=(t,x)) hown5
     have HB5:Hid (Below w.heap.size w w5):=hgr5.below HQ1.out.2.2 HQ1.out.2.1 fun k hk=>(HQ1.out.1.lt k hk).1
     clear hown5 hgr5
     go_wp2_with fail
     go_roundg (n-(k+1))
     case rel=>exact ⟨k+1,by omega,rfl,by go_num,HO5.out,by rw [HR.out,List.length_append,List.length_singleton];omega,HB5.out⟩
     case measure=>omega
  ·obtain rfl:k=n:=by omega
   have i2:¬(k:Int)<(k:Int):=by omega
   rw [List.take_of_length_le (by rw [←HN.out];exact Nat.le_refl _)] at hown hml
   have HO:=lh hown
   have HBE:=lh hbel
   have HML:=lh hml
   obtain ⟨a6,c6,hv6⟩:=hown.form
   subst hv6
   clear hown hbel hml hsl
   go_wp2_with fail
   go_ret2
   exact ⟨_,by rw [decide_eq_false (by have:=HML.out;omega)];rfl,by rw [List.take_of_length_le HML.out];exact HO.out,HBE.out⟩
end F12
namespace F12
open Go.RowKit Go.Maps
theorem max_nat (a:Int):max a 0=((a.toNat:Nat):Int):=by omega
theorem matches_walk (w:World) (v av:Value) (l:List Fs.En) (d:List Au.St) (most:Int) (h:EnS w v l) (hb:∀e∈l,e.1.length≤140737488355328) (hm:∀e∈l,e.2≤9223372036854775807) (hv:StS (fun _=>True) w av d) (hT:Tabs w):
  Calls Tryz.prog 4 #[v,av,.int .i64 most] w fun e w'=>e=.returned (.bool true)∧Below w.heap.size w w':=by
 have hop:=openL_any w v l h hb hm
 have HAW:Hid (∀W,Below w.heap.size w W→Calls Tryz.prog 8 #[] W fun e w'=>e=.returned (.bool true)∧Below W.heap.size W w'):=fun W hb=>awake_any W (hT.below hb)
 cases hfit:Fs.fitO l with
 | false=>
  have HOP:=lh (openL_no hop hfit)
  obtain ⟨a,c,rfl,-⟩:=h
  obtain ⟨a2,c2,rfl,-⟩:=hv
  clear hop hT hfit hb hm
  go_enter Tryz.func4,Tryz.ntmps4
  go_upto_region 2 with (go_at_call 7;go_loud ((refine HOP.out.mono ?_;rintro e1 w1 ⟨rfl,hb1⟩;have HB1:=lh hb1;clear hb1)))
  go_upto_region 3 with (go_at_call 8;go_loud ((refine (HAW.out w1 HB1.out).mono ?_;rintro e2 w2 ⟨rfl,hb2⟩;have HB2:=lh (HB1.out.trans (hb2.mono HB1.out.size));clear hb2)))
  go_wp2_with (go_at_call 8;go_loud ((refine (HAW.out w2 HB2.out).mono ?_;rintro e3 w3 ⟨rfl,hb3⟩;have HB3:=lh (HB2.out.trans (hb3.mono HB2.out.size));clear hb3)))
  go_ret
  exact ⟨rfl,HB3.out⟩
 | true=>
  have HOP:=lh (openL_yes hop hfit)
  have hlen:l.length≤65536:=by have:=(Fs.fitO_iff.1 hfit).1;omega
  clear hop
  by_cases hbig:200<d.length
  ·obtain ⟨a,c,rfl,-⟩:=h
   obtain ⟨a2,c2,rfl,-⟩:=hv
   have i1:(200:Int)<(d.length:Int):=by omega
   clear hT hfit hb hm hlen hbig
   generalize d.length=dl at *
   go_enter Tryz.func4,Tryz.ntmps4
   go_upto_region 2 with (go_at_call 7;go_loud ((refine HOP.out.mono ?_;rintro e1 w1 ⟨db,rfl,hb1,_⟩;have HB1:=lh hb1;clear hb1)))
   go_upto_region 3 with (go_at_call 8;go_loud ((refine (HAW.out w1 HB1.out).mono ?_;rintro e2 w2 ⟨rfl,hb2⟩;have HB2:=lh (HB1.out.trans (hb2.mono HB1.out.size));clear hb2)))
   go_wp2_with (go_at_call 8;go_loud ((refine (HAW.out w2 HB2.out).mono ?_;rintro e3 w3 ⟨rfl,hb3⟩;have HB3:=lh (HB2.out.trans (hb3.mono HB2.out.size));clear hb3)))
   go_ret
   exact ⟨rfl,HB3.out⟩
  ·have HMA:Hid (∀W p,Below w.heap.size w W→Dt W (.pointer p) l→Calls Tryz.prog 14 #[.pointer p,av,.int .i64 most] W fun e w'=>∃v,e=.returned (.tuple #[v,.bool (decide (most.toNat<(Wk.mat l d).length))])∧OwnE w' W.heap.size v ((Wk.mat l d).take most.toNat)∧Below W.heap.size W w'):=fun W p hb hd=>match_any W _ av l d most hd (hv.below hb)
   have HRM:Hid (∀W,Below w.heap.size w W→Calls Tryz.prog 15 #[v,av,.int .i64 ((most.toNat:Nat):Int)] W fun e w'=>∃v,e=.returned (.tuple #[v,.bool (decide (most.toNat<(Wk.mat l d).length))])∧OwnE w' W.heap.size v ((Wk.mat l d).take most.toNat)∧Below W.heap.size W w'):=fun W hbw=>refMatch_any W v av l d most.toNat (h.below hbw (Nat.le_refl _)) (hv.below hbw) hlen fun e he=>by have:=hb e he;omega
   have hmax:=max_nat most
   obtain ⟨mn,hmn⟩:∃mn,mn=((most.toNat:Nat):Int):=⟨_,rfl⟩
   rw [←hmn] at hmax HRM
   have HMX:Hid ((Wk.mat l d).take most.toNat=(Wk.mat l d).take most.toNat):=rfl
   have hXl:((Wk.mat l d).take most.toNat).length≤65536:=by
    rw [List.length_take]
    have:=Wk.mat_few l d
    omega
   generalize decide (most.toNat<(Wk.mat l d).length)=mr at *
   generalize (Wk.mat l d).take most.toNat=X at *
   have i1:¬(200:Int)<(d.length:Int):=by omega
   obtain ⟨a,c,rfl,-⟩:=h
   obtain ⟨a2,c2,rfl,-⟩:=hv
   clear hT hfit hb hm hlen hbig hmn HMX
   generalize d.length=dl at *
   go_enter Tryz.func4,Tryz.ntmps4
   go_upto_region 2 with (go_at_call 7;go_loud ((refine HOP.out.mono ?_;rintro e1 w1 ⟨db,rfl,hb1,hd1⟩;have HB1:=lh hb1;have HD1:=lh hd1;clear hb1 hd1)))
   go_upto_region 4 with (go_at_call 8;go_loud ((refine (HAW.out w1 HB1.out).mono ?_;rintro e2 w2 ⟨rfl,hb2⟩;have HB2:=lh (HB1.out.trans (hb2.mono HB1.out.size));have HD2:=lh (HD1.out.below hb2);clear hb2)))
   go_upto_region 5 with (go_at_call 14;go_loud ((refine (HMA.out w2 _ HB2.out HD2.out).mono ?_;rintro e3 w3 ⟨v3,rfl,ho3,hb3⟩;obtain ⟨a3,c3,rfl⟩:=ho3.form;have HO3:=lh ho3;have HB3:=lh (HB2.out.trans (hb3.mono HB2.out.size));have HD3:=lh (HD2.out.below hb3);clear ho3 hb3)))
   go_upto_region 6 with (go_at_call 15;go_loud ((refine (HRM.out w3 HB3.out).mono ?_;rintro e4 w4 ⟨v4,rfl,ho4,hb4⟩;obtain ⟨a4,c4,rfl⟩:=ho4.form;have HO4:=lh ho4;have HX4:Hid (OwnE w4 w2.heap.size (.slice a3 X.length c3) X):=ownsRow_keep HO3.out fun b hb=>hb4.block b (own_kind HO3.out b hb).2.1;have HZ4:=lh (And.intro HB3.out hb4.size);have HB4:=lh (HB3.out.trans (hb4.mono HB3.out.size));have HD4:=lh (HD3.out.below hb4);clear ho4 hb4)))
   go_upto_region 7 with (go_at_call 14;go_loud ((refine (HMA.out w4 _ HB4.out HD4.out).mono ?_;rintro e5 w5 ⟨v5,rfl,ho5,hb5⟩;obtain ⟨a5,c5,rfl⟩:=ho5.form;have HO5:=lh ho5;have HX5:Hid (OwnE w5 w2.heap.size (.slice a3 X.length c3) X):=ownsRow_keep HX4.out fun b hb=>hb5.block b (own_kind HX4.out b hb).2.1;have HY5:Hid (OwnE w5 w3.heap.size (.slice a4 X.length c4) X):=ownsRow_keep HO4.out fun b hb=>hb5.block b (own_kind HO4.out b hb).2.1;have HB5:=lh (HB4.out.trans (hb5.mono HB4.out.size));clear ho5 hb5)))
   have HS1:Hid (Calls Tryz.prog 13 #[.slice a3 X.length c3,.slice a4 X.length c4] w5 fun e w'=>e=.returned (.bool true)∧Below w5.heap.size w5 w'):=by
    have:=sameS_any w5 _ _ _ _ HX5.out.ens HY5.out.ens
    rw [decide_eq_true rfl] at this
    exact this
   have hmr:(mr != mr)=false:=by cases mr <;> rfl
   go_upto_region 9 with (go_at_call 13;go_loud ((refine HS1.out.mono ?_;rintro e6 w6 ⟨rfl,hb6⟩;have HB6:=lh hb6;clear hb6)))
   have HX6:OwnE w6 w2.heap.size (.slice a3 X.length c3) X:=ownsRow_keep HX5.out fun b hb=>HB6.out.block b (own_kind HX5.out b hb).2.1
   have HY6:Hid (OwnE w6 w3.heap.size (.slice a4 X.length c4) X):=ownsRow_keep HY5.out fun b hb=>HB6.out.block b (own_kind HY5.out b hb).2.1
   have HO6:Hid (OwnE w6 w4.heap.size (.slice a5 X.length c5) X):=ownsRow_keep HO5.out fun b hb=>HB6.out.block b (own_kind HO5.out b hb).2.1
   have HZ6:Hid (Below w.heap.size w w6):=HB5.out.trans (HB6.out.mono HB5.out.size)
   have HG:Hid (∀g,(Value.slice a3 X.length c3).ownBlock=some g→w2.heap.size≤g∧g<w3.heap.size):=fun g hg=>by
    have:=own_kind HO3.out g hg
    exact ⟨this.1,this.2.1⟩
   have HSA:Hid (∀wx,KeptF (fun b=>(Value.slice a3 X.length c3).ownBlock=some b) w6 wx→Calls Tryz.prog 13 #[.slice a5 X.length c5,.slice a4 X.length c4] wx fun e w'=>e=.returned (.bool true)∧Below w.heap.size w w'):=fun wx hk=>by
    have e1:OwnE wx w4.heap.size (.slice a5 X.length c5) X:=ownsRow_keep HO6.out fun b hb=>hk.block b (own_kind HO6.out b hb).2.1 fun q=>by
     have h1:=(own_kind HO6.out b hb).1
     have h2:=(HG.out b q).2
     have h3:=HZ4.out.2
     omega
    have e2:OwnE wx w3.heap.size (.slice a4 X.length c4) X:=ownsRow_keep HY6.out fun b hb=>hk.block b (own_kind HY6.out b hb).2.1 fun q=>by
     have h1:=(own_kind HY6.out b hb).1
     have h2:=(HG.out b q).2
     omega
    have:=sameS_any wx _ _ _ _ e1.ens e2.ens
    rw [decide_eq_true rfl] at this
    have hbx:Below w.heap.size w wx:=hk.below HZ6.out (fun b hb=>by have:=(HG.out b hb).1;have:=HB2.out.size;omega) HZ6.out.size
    refine this.mono ?_
    rintro e w' ⟨rfl,hb⟩
    exact ⟨rfl,hbx.trans (hb.mono hbx.size)⟩
   have HRW:Hid (∀g,(Value.slice a3 X.length c3).ownBlock=some g→∃cur,RowT 29 w6 g cur∧X.length*2≤cur.size):=fun g hg=>by
    rcases HX6.2 with ⟨q,_⟩ | ⟨g',cap,cur,q,_,hrow,hnc,_,hcs,_⟩
    ·rw [q] at hg
     cases hg
    ·rw [q] at hg
     simp only [Value.ownBlock,Option.some.injEq] at hg
     subst hg
     exact ⟨cur,hrow,by rw [hcs];exact Nat.mul_le_mul_right _ hnc⟩
   have HFO:Hid (0<X.length→∃g,a3=some ⟨g,0,none⟩):=fun h0=>by
    rcases HX6.2 with ⟨_,h1⟩ | ⟨g',cap,cur,q,_⟩
    ·omega
    ·exact ⟨g',(Value.slice.inj q).1⟩
   clear hmr HX6
   generalize X.length=n at *
   go_wp2_with fail
   go_loopg [14] n (fun gg s14 wx=>∃k:Nat,k≤n∧gg=n-k∧s14=.int .i64 (k:Int)∧Hid (KeptF (fun b=>(Value.slice a3 n c3).ownBlock=some b) w6 wx)∧Hid (∀g,(Value.slice a3 n c3).ownBlock=some g→∃cur,RowT 29 wx g cur∧n*2≤cur.size))
   case atStart=>exact ⟨0,Nat.zero_le _,rfl,rfl,KeptF.refl _ _,HRW⟩
   case round=>
    obtain ⟨k,hk,rfl,rfl,hkp,hrw⟩:=hrel
    by_cases hkn:k<n
    ·have i2:(k:Int)<(n:Int):=by omega
     obtain ⟨g,rfl⟩:=HFO.out (by omega)
     obtain ⟨cur,hrow,hsz⟩:=hrw.out g rfl
     obtain ⟨x1,c1⟩:∃x1,wr.cell? ⟨g,k*2,none⟩=some x1:=⟨_,(hrow.cell (k*2)).trans (Array.getElem?_eq_getElem (by omega))⟩
     obtain ⟨x2,c2⟩:∃x2,wr.cell? ⟨g,k*2+1,none⟩=some x2:=⟨_,(hrow.cell (k*2+1)).trans (Array.getElem?_eq_getElem (by omega))⟩
     have f1:=hrow.frozen (k*2)
     have f2:=hrow.frozen (k*2+1)
     have HN:Hid (KeptF (fun b=>(Value.slice (some ⟨g,0,none⟩) n c3).ownBlock=some b) w6 ((wr.setCell ⟨g,k*2,none⟩ (.string ByteArray.empty)).setCell ⟨g,k*2+1,none⟩ (.int .i64 (-1)))∧∀g',(Value.slice (some ⟨g,0,none⟩) n c3).ownBlock=some g'→∃cur,RowT 29 ((wr.setCell ⟨g,k*2,none⟩ (.string ByteArray.empty)).setCell ⟨g,k*2+1,none⟩ (.int .i64 (-1))) g' cur∧n*2≤cur.size):=by
      refine ⟨(hkp.out.set g (k*2) rfl _).set g (k*2+1) rfl _,fun g' hg'=>?_⟩
      obtain rfl:g=g':=by simpa [Value.ownBlock] using hg'
      exact ⟨_,(hrow.set (k*2) _).set (k*2+1) _,by simpa using hsz⟩
     clear hkp hrw hrow hsz
     go_wp2_with fail
     go_roundg (n-(k+1))
     case rel=>exact ⟨k+1,by omega,rfl,by go_num,HN.out.1,HN.out.2⟩
     case measure=>omega
    ·obtain rfl:k=n:=by omega
     have i2:¬(k:Int)<(k:Int):=by omega
     have HKP:=lh (HSA.out wr hkp.out)
     clear hkp hrw
     go_wp2_with (go_at_call 13;go_loud ((refine HKP.out.mono ?_;rintro e7 w7 ⟨rfl,hb7⟩;have HB7:=lh hb7;clear hb7)))
     go_ret
     exact ⟨rfl,HB7.out⟩
end F12
end Go.Proofs.YtmdefnbpimfbgaaGreatDoor
