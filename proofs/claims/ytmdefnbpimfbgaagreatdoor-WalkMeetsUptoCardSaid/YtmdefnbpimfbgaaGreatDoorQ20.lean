/-
  Lemmas on automata, dictionaries and the walk over them, the program's calls and the given ones.
-/
import Derived.Test.YtmdefnbpimfbgaaGreatDoorQ19
set_option maxRecDepth 100000
set_option maxHeartbeats 16000000
namespace Go.Proofs.YtmdefnbpimfbgaaGreatDoor
namespace F12
open Go.RowKit Go.Maps
namespace Fs
theorem cnt_or {α:Type} (p q:α→Bool):∀l:List α,(l.filter fun x=>p x||q x).length≤(l.filter p).length+(l.filter q).length
 | []=>Nat.le_refl _
 | x :: l=>by
  have ih:=cnt_or p q l
  simp only [List.filter_cons]
  cases p x <;> cases q x <;> simp <;> omega
theorem one_byte:∀c:Fin 256,((List.range 256).filter fun n=>decide (n=c.val)).length≤1:=by decide +kernel
theorem ways_le:∀l:List En,(ways l).length≤l.length:=by
 have e:∀l:List En,(ways l).length=((List.range 256).filter fun n=>!(behind l n.toUInt8).isEmpty).length:=fun l=>by
  unfold ways
  generalize List.range 256=R
  induction R with
  | nil=>rfl
  | cons n R ih=>
   rw [List.filterMap_cons,List.filter_cons]
   by_cases h:behind l n.toUInt8=[]
   ·rw [if_pos h,h]
    exact ih
   ·rw [if_neg h]
    have h2:(!(behind l n.toUInt8).isEmpty)=true:=by cases hb:behind l n.toUInt8 with | nil=>exact absurd hb h | cons _ _=>rfl
    rw [if_pos h2,List.length_cons,List.length_cons,ih]
 intro l
 rw [e]
 induction l with
 | nil=>
  have:((List.range 256).filter fun n=>!(behind [] n.toUInt8).isEmpty)=[]:=List.filter_eq_nil_iff.2 fun n _=>by simp [behind]
  rw [this]
  exact Nat.le_refl _
 | cons x l ih=>
  have h0:=cnt_or (fun n:Nat=>!(behind [x] n.toUInt8).isEmpty) (fun n:Nat=>!(behind l n.toUInt8).isEmpty) (List.range 256)
  have h1:((List.range 256).filter fun n=>!(behind (x :: l) n.toUInt8).isEmpty)=(List.range 256).filter fun n=>!(behind [x] n.toUInt8).isEmpty || !(behind l n.toUInt8).isEmpty:=List.filter_congr fun n _=>by
   rw [show x :: l=[x]++l from rfl,behind_append]
   cases behind [x] n.toUInt8 <;> cases behind l n.toUInt8 <;> rfl
  have h2:((List.range 256).filter fun n=>!(behind [x] n.toUInt8).isEmpty).length≤1:=by
   obtain ⟨t,o⟩:=x
   cases t with
   | nil=>
    have:((List.range 256).filter fun n=>!(behind [([],o)] n.toUInt8).isEmpty)=[]:=List.filter_eq_nil_iff.2 fun n _=>by simp [behind]
    rw [this]
    exact Nat.zero_le _
   | cons c t=>
    have:((List.range 256).filter fun n=>!(behind [(c :: t,o)] n.toUInt8).isEmpty)=(List.range 256).filter fun n=>decide (n=c.toNat):=List.filter_congr fun n hn=>by
     have hn:=List.mem_range.1 hn
     by_cases h:c=n.toUInt8
     ·subst h
      have h2:(n.toUInt8).toNat=n:=by
       rw [show n.toUInt8=UInt8.ofNat n from rfl,UInt8.toNat_ofNat']
       omega
      rw [h2]
      simp [behind]
     ·have h2:¬n=c.toNat:=fun q=>h (by subst q;exact (byte_nat c).1.symm)
      rw [decide_eq_false h2]
      have h3:behind [(c :: t,o)] n.toUInt8=[]:=by
       show List.filterMap _ [_]=[]
       rw [List.filterMap_cons]
       dsimp only
       rw [if_neg h]
       rfl
      rw [h3]
      rfl
    rw [this]
    exact one_byte ⟨c.toNat,c.toNat_lt⟩
  rw [h1,List.length_cons]
  omega
theorem bytesN_le (n:Nd):(bytesN n).length≤18+27*n.2.length:=by
 have key:∀l:List (UInt8 × Int × Nat),(l.flatMap wayB).length≤27*l.length:=by
  intro l
  induction l with
  | nil=>exact Nat.le_refl _
  | cons w l ih=>
   have hwl:(wayB w).length=(Pl.numB (w.1.toNat:Nat)).length+((Pl.numB w.2.1).length+(Pl.numB (w.2.2:Nat)).length):=by
    unfold wayB
    rw [List.length_append,List.length_append]
   rw [List.flatMap_cons,List.length_append,List.length_cons,hwl]
   have h1:=numB_len (w.1.toNat:Nat)
   have h2:=numB_len w.2.1
   have h3:=numB_len (w.2.2:Nat)
   omega
 unfold bytesN
 rw [List.length_append,List.length_append]
 have h1:=numB_len (headN n:Nat)
 have h2:=key n.2
 have h3:(finB n.1).length≤9:=by
  cases n.1 with
  | none=>exact Nat.zero_le _
  | some v=>exact numB_len v
 omega
theorem bytes_few2 {l:List En} (h:Fine l) (hl:l.length≤120) (ht:total l≤800):(bytes l).length≤4194304:=by
 have h1:=nodes_length h.rise
 have hw:∀k∈nodes l,(ways k).length≤120:=fun k hk=>by
  have:=(nodes_size k hk).1
  have:=ways_le k
  omega
 have key:∀K:List (List En),(∀k∈K,(ways k).length≤120)→((K.map (nodeB (nodes l))).flatMap id).length≤3258*K.length:=by
  intro K
  induction K with
  | nil=>intro _;exact Nat.le_refl _
  | cons k K ih=>
   intro hK
   rw [List.map_cons,List.flatMap_cons,List.length_append,List.length_cons]
   have:=ih fun x hx=>hK x (List.mem_cons_of_mem _ hx)
   have e:(id (nodeB (nodes l) k)).length≤3258:=by
    have hk:=hK k (by simp)
    have h9:(node (nodes l) k).2.length≤120:=by show ((ways k).map _).length≤120;rw [List.length_map];exact hk
    have:=bytesN_le (node (nodes l) k)
    show (bytesN (node (nodes l) k)).length≤3258
    omega
   omega
 have h2:=key (nodes l) hw
 have h3:=numB_len ((nodes l).length:Nat)
 have h4:=numB_len (least l)
 have h5:(txt (nodes l)).flatMap id=((nodes l).map (nodeB (nodes l))).flatMap id:=rfl
 unfold bytes
 rw [List.length_append,List.length_append,h5]
 omega
def fitO (l:List En):Bool:=decide (l.length≤120)&&(decide (((l.take 200).map fun e=>e.1.length).sum≤800)&&decide (right l=0))
theorem fitO_iff {l:List En}:fitO l=true↔l.length≤120∧total l≤800∧right l=0:=by
 unfold fitO
 rw [Bool.and_eq_true,Bool.and_eq_true,decide_eq_true_iff,decide_eq_true_iff,decide_eq_true_iff]
 constructor
 ·rintro ⟨h1,h2,h3⟩
  rw [List.take_of_length_le (by omega)] at h2
  exact ⟨h1,h2,h3⟩
 ·rintro ⟨h1,h2,h3⟩
  refine ⟨h1,?_,h3⟩
  rw [List.take_of_length_le (by omega)]
  exact h2
end Fs
def Dt (w:World) (dv:Value) (l:List Fs.En):Prop:=(∃db,dv=.pointer (some ⟨db,0,none⟩)∧Dc w db l∧Fs.right l=0∧∀e∈l,e.2≤Fs.mx)∨(dv=.pointer none∧l=[])
theorem Dt.below {w w':World} {dv:Value} {l:List Fs.En} (h:Dt w dv l) (hb:Below w.heap.size w w'):Dt w' dv l:=h.imp (fun ⟨db,h1,h2,h3⟩=>⟨db,h1,h2.below hb,h3⟩) id
theorem Dt.form {w:World} {dv:Value} {l:List Fs.En} (h:Dt w dv l):∃p,dv=.pointer p:=by
 rcases h with ⟨db,h,_⟩ | ⟨h,_⟩
 ·exact ⟨_,h⟩
 ·exact ⟨_,h⟩
theorem Dt.few {w:World} {dv:Value} {l:List Fs.En} (h:Dt w dv l):l.length≤65536:=by
 rcases h with ⟨_,_,_,h,_⟩ | ⟨_,rfl⟩
 ·exact (Fs.right_ok h).few
 ·exact Nat.zero_le _
theorem open_built2 (l:List Fs.En) (w:World) (h:Fs.right l=0) (hm:∀e∈l,e.2≤Fs.mx) (hl:l.length≤120) (ht:Fs.total l≤800):
  Calls Tryz.prog 21 #[.string (bs (Fs.built l))] w fun e w'=>∃db,e=.returned (.tuple #[.pointer (some ⟨db,0,none⟩),.int .i64 0])∧Below w.heap.size w w'∧Dc w' db l:=by
 have hf:=Fs.right_ok h
 have hb:Fs.built l=Fs.bytes l:=by unfold Fs.built;exact if_pos h
 rw [hb]
 have ho:=Fs.open_bytes h hm
 obtain ⟨h1,h2⟩:=Fs.rd_bytes hf hm
 have hq:=open_any (Fs.bytes l) w (Fs.bytes_few2 hf hl ht)
 unfold OpenPost at hq
 rw [h1,h2,ho] at hq
 dsimp only at hq
 rw [Fs.last_length] at hq
 refine hq.mono ?_
 rintro e w' ⟨hb,⟨h0,_⟩ | ⟨_,db,rfl,hdb,hd,hR⟩⟩
 ·exact absurd rfl h0
 ·exact ⟨db,rfl,hb,hd,hR⟩
theorem openL_any (w:World) (v:Value) (l:List Fs.En) (h:EnS w v l) (hb:∀e∈l,e.1.length≤140737488355328) (hm:∀e∈l,e.2≤9223372036854775807):
  Calls Tryz.prog 7 #[v] w fun e w'=>∃dv,e=.returned dv∧Below w.heap.size w w'∧((Fs.fitO l=true∧∃db,dv=.pointer (some ⟨db,0,none⟩)∧Dt w' dv l)∨(Fs.fitO l=false∧dv=.pointer none)):=by
 have HBU:Hid (∀W,Below w.heap.size w W→Calls Tryz.prog 20 #[v] W (BuildPost W l)):=fun W hW=>build_any W v l (h.below hW (Nat.le_refl _)) hm
 have HRI:Hid (∀W,Below w.heap.size w W→Calls Tryz.prog 19 #[v] W fun e w'=>e=.returned (.int .i64 (Fs.right l))∧Below W.heap.size W w'):=fun W hW=>right_any W v l (h.below hW (Nat.le_refl _))
 have HOP:=lh (open_built2 l)
 have HMX:Hid (∀e∈l,e.2≤Fs.mx):=hm
 unfold BuildPost at HBU
 obtain ⟨a,cap,rfl,hc,hcap,hcell⟩:=h
 obtain ⟨n,hn⟩:∃n,n=l.length:=⟨_,rfl⟩
 have HN:=lh hn
 have HL:=lh hb
 have HC:Hid (∀wx,Below w.heap.size w wx→0<l.length→∃g o,a=some ⟨g,o,none⟩∧EnC wx g o l):=fun wx hb h0=>by
  obtain ⟨g,o,h1,h2,h3⟩:=hcell h0
  exact ⟨g,o,h1,h3.below hb h2⟩
 have hc2:n≤9223372036854775807:=by omega
 rw [←hn] at hc HBU HRI ⊢
 clear hn hcell hb hm
 go_enter Tryz.func7,Tryz.ntmps7
 go_wp2_with fail
 go_loopg [3,4] (min n 200) (fun gg s3 s4 wx=>∃(k t:Nat),k≤n∧k≤200∧gg=min n 200-k∧s3=.int .i64 (t:Int)∧s4=.int .i64 (k:Int)∧t≤k*140737488355328∧Hid (t=((l.take k).map fun e=>e.1.length).sum)∧Hid (Below w.heap.size w wx))
 case atStart=>exact ⟨0,0,by omega,by omega,rfl,rfl,rfl,by omega,rfl,Below.refl _ _⟩
 case round=>
  obtain ⟨k,t,hk,hk4,rfl,rfl,rfl,ht,hS,hB⟩:=hrel
  by_cases hgo:k<n∧k<200
  ·obtain ⟨hkn,hk5⟩:=hgo
   have i1:(k:Int)<(n:Int):=by omega
   have i2:(k:Int)<200:=by omega
   have kx:k<l.length:=by rw [←HN.out];exact hkn
   obtain ⟨g,o,rfl,hec⟩:=HC.out wr hB.out (by omega)
   have c1:=(hec k kx).1
   have hlen:=HL.out _ (List.getElem_mem kx)
   have hsz:=bs_size l[k].1
   have htk:l.take (k+1)=l.take k++[l[k]]:=List.take_succ_eq_append_getElem kx
   have hS2:Hid (t+l[k].1.length=((l.take (k+1)).map fun e=>e.1.length).sum):=by
    show _=_
    rw [htk,List.map_append,List.sum_append,←hS.out]
    simp
   have HBB:=lh hB.out
   clear hec htk hS hB
   generalize bs l[k].1=S at *
   generalize l[k].1.length=q at *
   have hw:IntKind.i64.wrap ((t:Int)+(q:Int))=((t+q:Nat):Int):=by rw [IntWalk.i64_in _ (by omega)];omega
   go_wp2_with fail
   try go_quiet (fail)
   try go_wp2_with fail
   go_roundg (min n 200-(k+1))
   case rel=>exact ⟨k+1,t+q,by omega,by omega,rfl,by go_num,by go_num,by omega,hS2,by show Below _ _ _;first | exact HBB.out | exact belowN HBB.out _ | exact belowN (belowN HBB.out _) _⟩
   case measure=>omega
  ·have HBB:=lh hB.out
   by_cases h1:k<n
   ·have i1:(k:Int)<(n:Int):=by omega
    have i2:¬(k:Int)<200:=by omega
    have i3:(120:Int)<(n:Int):=by omega
    have hno:Hid (Fs.fitO l=false):=by show _=_;unfold Fs.fitO;rw [←HN.out,decide_eq_false (by omega)];rfl
    clear hS hB
    go_wp2_with fail
    go_ret
    exact ⟨_,rfl,HBB.out,.inr ⟨hno.out,rfl⟩⟩
   ·obtain rfl:k=n:=by omega
    have i1:¬(k:Int)<(k:Int):=by omega
    have hs:Hid (t=((l.take 200).map fun e=>e.1.length).sum):=by
     have h1:=hS.out
     rw [List.take_of_length_le (by rw [←HN.out];exact Nat.le_refl _)] at h1
     show _=_
     rw [List.take_of_length_le (by rw [←HN.out];exact hk4),←h1]
    clear hS hB
    by_cases h2:120<k
    ·have i3:(120:Int)<(k:Int):=by omega
     have hno:Hid (Fs.fitO l=false):=by show _=_;unfold Fs.fitO;rw [←HN.out,decide_eq_false (by omega)];rfl
     go_wp2_with fail
     go_ret
     exact ⟨_,rfl,HBB.out,.inr ⟨hno.out,rfl⟩⟩
    ·have i3:¬(120:Int)<(k:Int):=by omega
     by_cases h3:800<t
     ·have i4:(800:Int)<(t:Int):=by omega
      have hno:Hid (Fs.fitO l=false):=by show _=_;unfold Fs.fitO;rw [←hs.out,decide_eq_false (by omega:¬t≤800),Bool.false_and,Bool.and_false]
      go_wp2_with fail
      go_ret
      exact ⟨_,rfl,HBB.out,.inr ⟨hno.out,rfl⟩⟩
     ·have i4:¬(800:Int)<(t:Int):=by omega
      have HR:=lh (HRI.out wr HBB.out)
      by_cases h4:Fs.right l=0
      ·have hyes:Hid (Fs.fitO l=true):=by
        show _=_
        unfold Fs.fitO
        rw [←hs.out,←HN.out,decide_eq_true (by omega),decide_eq_true (by omega),decide_eq_true h4]
        rfl
       have HOP2:Hid (∀W,Calls Tryz.prog 21 #[.string (bs (Fs.built l))] W fun e w'=>∃db,e=.returned (.tuple #[.pointer (some ⟨db,0,none⟩),.int .i64 0])∧Below W.heap.size W w'∧Dc w' db l):=fun W=>HOP.out W h4 HMX.out (by rw [←HN.out];omega) (Fs.fitO_iff.1 hyes.out).2.1
       have H4:=lh h4
       rw [h4] at HR HBU
       clear h1 h2 h3 h4 hs
       go_wp2_with (first | (go_at_call 19;go_loud ((refine HR.out.mono ?_;rintro e1 w1 ⟨rfl,hb1⟩;have HB1:Hid (Below w.heap.size w w1):=HBB.out.trans (hb1.mono HBB.out.size);clear hb1))) | (go_at_call 20;go_loud ((refine (HBU.out w1 HB1.out).mono ?_;rintro e2 w2 ⟨rfl,hb2⟩;have HB2:Hid (Below w.heap.size w w2):=HB1.out.trans (hb2.mono HB1.out.size);clear hb2))) | (go_at_call 21;go_loud ((refine (HOP2.out w2).mono ?_;rintro e3 w3 ⟨db,rfl,hb3,hd3⟩;have HB3:Hid (Below w.heap.size w w3):=HB2.out.trans (hb3.mono HB2.out.size);have HD3:=lh hd3;clear hb3 hd3))))
       go_ret
       exact ⟨_,rfl,HB3.out,.inl ⟨hyes.out,db,rfl,.inl ⟨db,rfl,HD3.out,H4.out,HMX.out⟩⟩⟩
      ·have hno:Hid (Fs.fitO l=false):=by show _=_;unfold Fs.fitO;rw [decide_eq_false h4,Bool.and_false,Bool.and_false]
       have h5:(Fs.right l==0)=false:=by rw [beq_eq_false_iff_ne];exact h4
       generalize Fs.right l=R at *
       clear h1 h2 h3 hs
       go_wp2_with (go_at_call 19;go_loud ((refine HR.out.mono ?_;rintro e1 w1 ⟨rfl,hb1⟩;have HB1:Hid (Below w.heap.size w w1):=HBB.out.trans (hb1.mono HBB.out.size);clear hb1)))
       go_ret
       exact ⟨_,rfl,HB1.out,.inr ⟨hno.out,rfl⟩⟩
end F12
namespace F12
open Go.RowKit Go.Maps
theorem behind_none (w0 w:World) (cb:Nat) (p:Option Addr) (i st out:Int) (f1 f2 f3:Value) (hrow:RowT 56 w cb #[.pointer p,f1,f2,f3]) (hb:Below w0.heap.size w0 w)
  (hNO:∀W,Below w0.heap.size w0 W→Calls Tryz.prog 81 #[.pointer p,.int .i64 i] W fun e w'=>e=.returned (.tuple #[.agg #[.bool false,.int .i64 0,.slice none 0 0],.bool false])∧Below W.heap.size W w'):
  Calls Tryz.prog 50 #[.pointer (some ⟨cb,0,none⟩),.int .i64 i,.int .i64 st,.slice none 0 0,.int .i64 out] w fun e w'=>e=.returned (.bool true)∧Below w.heap.size w w':=by
 have H:=lh (hNO w hb)
 have c0:w.cell? ⟨cb,0,none⟩=some (.pointer p):=hrow.cell 0
 clear hNO hrow hb
 go_enter Tryz.func50,Tryz.ntmps50
 go_upto_region 2 with (go_at_call 81;refine H.out.mono ?_;rintro e1 w1 ⟨rfl,hb1⟩;have HB1:=lh hb1;clear hb1)
 have r1:RowT 115 (w1.alloc (.cells #[.bool false,.int .i64 0,.slice none 0 0] 115)) w1.heap.size #[.bool false,.int .i64 0,.slice none 0 0]:=Go.Deep.blk_alloc_new _ _
 have HB2:Hid (Below w.heap.size w (w1.alloc (.cells #[.bool false,.int .i64 0,.slice none 0 0] 115))):=HB1.out.alloc HB1.out.size _
 generalize w1.alloc (.cells #[.bool false,.int .i64 0,.slice none 0 0] 115)=W at *
 generalize w1.heap.size=nb at *
 have m0:W.cell? ⟨nb,0,none⟩=some (.bool false):=r1.cell 0
 have m2:∀n,(W.drewN n).cell? ⟨nb,2,none⟩=some (.slice none 0 0):=fun n=>r1.cell 2
 clear c0
 go_quiet (fail)
 have n2:(W.drewN nq).cell? ⟨nb,2,none⟩=some (.slice none 0 0):=m2 nq
 have HB3:Hid (Below w.heap.size w (W.drewN nq)):=belowN HB2.out _
 generalize W.drewN nq=W3 at *
 clear m0 m2 r1 HB2
 go_wp2_with fail
 go_loopg [54] 0 (fun gg s54 wx=>gg=0∧s54=.int .i64 0∧Hid (Below w.heap.size w wx))
 case atStart=>exact ⟨rfl,rfl,HB3⟩
 case round=>
  obtain ⟨rfl,rfl,hb⟩:=hrel
  clear n2 HB3
  go_wp2_with fail
  go_ret
  exact ⟨rfl,hb.out⟩
theorem sel_all {stp:Int→UInt8→Int} {fin:Int→Bool} (l:List Fs.En) (n:Nat) (h:n<(Fs.nodes l).length) (hn:(Fs.nodes l).length=n+1) (hr:Fs.right l=0) (hm:∀e∈l,e.2≤Fs.mx) (q:Int):Wk.sel stp fin q [] (Fs.least l) (Fs.nodes l)[n]=l.filter fun e=>Wk.ok stp fin q e.1:=by
 have hf:=Fs.right_ok hr
 obtain ⟨h1,h2⟩:=Fs.rd_bytes hf hm
 have h3:=Fs.all_bytes hf hm
 unfold Fs.allOf at h3
 rw [h1,h2] at h3
 dsimp only at h3
 rw [List.getLast?_eq_getElem?,show (Fs.nodes l).length-1=n by omega,List.getElem?_eq_getElem h] at h3
 rw [Wk.sel_root]
 exact congrArg (List.filter _) h3
theorem course_any {σ:Type} (w0 w:World) (cb:Nat) (dv:Value) (l:List Fs.En) (hd:Dt w0 dv l) (fs ff fy:FuncId) (Cs Cf Cy:Array Value) (stp:Int→UInt8→Int) (fin:Int→Bool) (y:σ→Fs.En→σ × Bool) (cnt:σ→Nat) (okq:Int→Prop) (I:World→Prop) (J:World→σ→Prop) (hM:Mach Tryz.prog w0 fs ff fy Cs Cf Cy stp fin y cnt okq I J) (h0:okq 0) (s:σ) (hcnt:cnt s+l.length≤65536) (hC:CoS w0 w cb dv fs ff fy Cs Cf Cy I J s):
  Calls Tryz.prog 26 #[.pointer (some ⟨cb,0,none⟩)] w fun e w'=>e=.returned (.tuple #[])∧J w' (Wk.feed y s (l.filter fun e=>Wk.ok stp fin 0 e.1)).1∧Below w0.heap.size w0 w':=by
 have key:∃(p:Option Addr) (i o:Int),dv=.pointer p∧(∀W,Below w0.heap.size w0 W→Calls Tryz.prog 49 #[.pointer p] W fun e w'=>e=.returned (.tuple #[.int .i64 i,.int .i64 o])∧Below W.heap.size W w')∧∀W,CoS w0 W cb dv fs ff fy Cs Cf Cy I J s→Calls Tryz.prog 50 #[.pointer (some ⟨cb,0,none⟩),.int .i64 i,.int .i64 0,.slice none 0 0,.int .i64 o] W fun e w'=>(∃r,e=.returned (.bool r))∧J w' (Wk.feed y s (l.filter fun e=>Wk.ok stp fin 0 e.1)).1∧Below w0.heap.size w0 w':=by
  rcases hd with ⟨db,rfl,hD,hr,hm⟩ | ⟨rfl,rfl⟩
  ·by_cases hl:(Fs.nodes l).length=0
   ·refine ⟨_,(((Fs.nodes l).length:Nat):Int)-1,Fs.least l,rfl,fun W hb=>root_dc l W db (hD.below hb),fun W hC=>?_⟩
    have hl0:l=[]:=by
     have h3:=Fs.all_bytes (Fs.right_ok hr) hm
     obtain ⟨h1,h2⟩:=Fs.rd_bytes (Fs.right_ok hr) hm
     unfold Fs.allOf at h3
     rw [h1,h2,List.length_eq_zero_iff.1 hl] at h3
     exact h3.symm
    refine (behind_none w0 W cb _ _ 0 _ _ _ _ hC.row hC.bel fun W' hb=>node_out W' db _ _ _ (hD.below hb).dic _ (.inl (by omega))).mono ?_
    rintro e w' ⟨rfl,hb⟩
    subst hl0
    exact ⟨⟨_,rfl⟩,(hC.keep hM hb).st,(hC.keep hM hb).bel⟩
   ·obtain ⟨n,hn⟩:∃n:Nat,(Fs.nodes l).length=n+1:=⟨(Fs.nodes l).length-1,by omega⟩
    have hi:n<(Fs.nodes l).length:=by omega
    refine ⟨_,(n:Int),Fs.least l,rfl,fun W hb=>?_,fun W hC=>?_⟩
    ·have:=root_dc l W db (hD.below hb)
     rw [hn,show (((n+1:Nat):Int)-1)=(n:Int) by omega] at this
     exact this
    ·have hlw:=Fs.fine_lw (Fs.right_ok hr) hm
     have hbd:=Fs.least_bd hlw
     have hmx:Fs.mx=9223372036854775807:=rfl
     have hq:=behind_any w0 cb db _ _ _ _ hD.dic hD.rel (fun x hx=>by
      obtain ⟨k,_,rfl⟩:=List.mem_map.1 hx
      show ((Fs.ways k).map _).length≤256
      rw [List.length_map]
      exact Fs.ways_few k) fs ff fy Cs Cf Cy stp fin y cnt okq I J hM (n+1) n hi W (.slice none 0 0) [] (Fs.least l) 0 s (Nat.lt_succ_self n) h0 hC (World.ownsRow_nil _ _ _ _) (by have h9:=(Fs.nodes_size _ (List.getElem_mem hi)).1;omega) (by have:=(hD.rel.size _ (List.getElem_mem hi)).2;simp only [List.length_nil];omega) (by omega)
     rw [sel_all l n hi hn hr hm] at hq
     refine hq.mono ?_
     rintro e w' ⟨rfl,h1,_,_⟩
     exact ⟨⟨_,rfl⟩,h1.st,h1.bel⟩
  ·refine ⟨_,-1,0,rfl,fun W hb=>(root_nil W).mono ?_,fun W hC=>?_⟩
   ·rintro e w' ⟨rfl,rfl⟩
    exact ⟨rfl,Below.refl _ _⟩
   ·refine (behind_none w0 W cb _ _ 0 _ _ _ _ hC.row hC.bel fun W' hb=>node_nil _ W').mono ?_
    rintro e w' ⟨rfl,hb⟩
    exact ⟨⟨_,rfl⟩,(hC.keep hM hb).st,(hC.keep hM hb).bel⟩
 obtain ⟨p,i,o,rfl,HRO,HBE⟩:=key
 have HRO:=lh HRO
 have HBE:=lh HBE
 have HC:=lh hC
 have HM:=lh hM
 have c0:w.cell? ⟨cb,0,none⟩=some (.pointer p):=hC.row.cell 0
 obtain ⟨rr,hrr⟩:∃rr,rr=(Wk.feed y s (l.filter fun e=>Wk.ok stp fin 0 e.1)).1:=⟨_,rfl⟩
 rw [←hrr] at HBE ⊢
 clear hC hM hd hrr
 go_enter Tryz.func26,Tryz.ntmps26
 go_wp2_with (first | (go_at_call 49;go_loud ((refine (HRO.out w HC.out.bel).mono ?_;rintro e1 w1 ⟨rfl,hb1⟩;have HC1:=lh (HC.out.keep HM.out hb1);clear hb1))) | (go_at_call 50;go_loud ((refine (HBE.out w1 HC1.out).mono ?_;rintro e2 w2 ⟨⟨r2,rfl⟩,hj2,hb2⟩;have HJ2:=lh (And.intro hj2 hb2);clear hj2 hb2))))
 go_end0
 exact ⟨rfl,HJ2.out⟩
end F12
namespace F12
open Go.RowKit Go.Maps
structure Told (P:Program) (w0:World) (fy:FuncId) (Cy:Array Value) {σ:Type} (y:σ→Fs.En→σ × Bool) (cnt:σ→Nat) (J:World→σ→Prop):Prop where
 less:∀s e,cnt (y s e).1≤cnt s+1
 ey:∀args w,(callFunc fy args).run P w=.ok (.enter fy args) w
 jkeep:∀W W' s,J W s→KeptT Wk.TJ w0.heap.size W W'→J W' s
 yield:∀W s t o,cnt s<65536→J W s→Below w0.heap.size w0 W→Calls P fy (#[.agg #[.string (bs t),.int .i64 o]]++Cy) W fun e w'=>e=.returned (.bool (y s (t,o)).2)∧J w' (y s (t,o)).1∧Below w0.heap.size w0 w'∧KeptT (5 :: Wk.TW) w0.heap.size W w'
theorem from_mach {σ:Type} {w0:World} {fy:FuncId} {Cy:Array Value} {y:σ→Fs.En→σ × Bool} {cnt:σ→Nat} {J:World→σ→Prop} (ht:Told Tryz.prog w0 fy Cy y cnt J) (s:List UInt8) (hs:s.length≤9223372036854775806) (sb:Nat):
  Mach Tryz.prog w0 23 25 fy #[.pointer (some ⟨sb,0,none⟩)] #[.pointer (some ⟨sb,0,none⟩)] Cy (Wk.stpF s) (Wk.finF s) y cnt (Wk.okF s) (fun W=>RowT 9 W sb #[.string (bs s)]) J where
 es:=enters_of Tryz.func23 (by kernel_rfl) rfl
 ef:=enters_of Tryz.func25 (by kernel_rfl) rfl
 ey:=ht.ey
 ikeep:=fun W W' h k=>h.keep (k.kind _ _ _ _ h (by decide))
 jkeep:=ht.jkeep
 less:=ht.less
 next:=fun q c h=>Wk.stpF_ok c h
 step:=fun W q c h _ hq=>(fromStep_any W sb s q c hq hs h).mono fun e w' ⟨h1,h2⟩=>⟨h1,by rw [←h2];exact Below.refl _ _⟩
 final:=fun W q h _ _=>(fromFinal_any W sb s q h).mono fun e w' ⟨h1,h2⟩=>⟨h1,h2.symm⟩
 yield:=ht.yield
theorem func_nilIn (w:World) (d:Nat) (F:Fn) (A C:Array Value):(Op.equalIn (d+1) 30 (.func F A C) .nilFunc).run Tryz.prog w=.ok false w:=by
 simp [Op.equalIn,run_underlying Tryz.underlying30]
theorem func_nil (w:World) (F:Fn) (A C:Array Value):(binOp .eql 30 (.func F A C) .nilFunc).run Tryz.prog w=.ok (.bool false) w:=by
 simp only [binOp]
 simp [Op.equal,Op.maxDepth,func_nilIn w 9999]
theorem from_any {σ:Type} (w0 w:World) (dv:Value) (l:List Fs.En) (hd:Dt w0 dv l) (s:List UInt8) (hs:s.length≤9223372036854775806) (fy:FuncId) (Cy:Array Value) (y:σ→Fs.En→σ × Bool) (cnt:σ→Nat) (J:World→σ→Prop) (ht:Told Tryz.prog w0 fy Cy y cnt J) (s0:σ) (hcnt:cnt s0+l.length≤65536) (hb:Below w0.heap.size w0 w) (hJ:J w s0):
  Calls Tryz.prog 10 #[dv,.string (bs s),.func (.func fy) #[] Cy] w fun e w'=>e=.returned (.tuple #[])∧J w' (Wk.feed y s0 (l.filter fun e=>!Fs.lt e.1 s)).1∧Below w0.heap.size w0 w':=by
 have hb1:=hb.alloc hb.size (.cells #[.string (bs s)] 9)
 have hb2:=hb1.alloc hb1.size (.cells #[dv,.func (.func 23) #[] #[.pointer (some ⟨w.heap.size,0,none⟩)],.func (.func 25) #[] #[.pointer (some ⟨w.heap.size,0,none⟩)],.func (.func fy) #[] Cy] 56)
 have r1:RowT 9 (w.alloc (.cells #[.string (bs s)] 9)) w.heap.size #[.string (bs s)]:=Go.Deep.blk_alloc_new _ _
 have b1:Below w.heap.size w (w.alloc (.cells #[.string (bs s)] 9)):=(Below.refl _ _).alloc (Nat.le_refl _) _
 have b2:=b1.alloc b1.size (.cells #[dv,.func (.func 23) #[] #[.pointer (some ⟨w.heap.size,0,none⟩)],.func (.func 25) #[] #[.pointer (some ⟨w.heap.size,0,none⟩)],.func (.func fy) #[] Cy] 56)
 have r2:RowT 56 ((w.alloc (.cells #[.string (bs s)] 9)).alloc (.cells #[dv,.func (.func 23) #[] #[.pointer (some ⟨w.heap.size,0,none⟩)],.func (.func 25) #[] #[.pointer (some ⟨w.heap.size,0,none⟩)],.func (.func fy) #[] Cy] 56)) (w.heap.size+1) #[dv,.func (.func 23) #[] #[.pointer (some ⟨w.heap.size,0,none⟩)],.func (.func 25) #[] #[.pointer (some ⟨w.heap.size,0,none⟩)],.func (.func fy) #[] Cy]:=by
  show _=_
  rw [show w.heap.size+1=(w.alloc (.cells #[.string (bs s)] 9)).heap.size from (World.size_alloc _ _).symm]
  exact Go.Deep.blk_alloc_new _ _
 have HQ:=lh (course_any w0 _ (w.heap.size+1) dv l hd _ _ fy _ _ Cy _ _ y cnt _ _ J (from_mach ht s hs w.heap.size) ⟨Int.le_refl _,by omega⟩ s0 hcnt ⟨r2,r1.keep (Go.Deep.blk_alloc_lt _ _ _ r1.lt),ht.jkeep _ _ _ hJ (KeptT.of_below b2),hb2⟩)
 rw [Wk.sel_from] at HQ
 obtain ⟨rr,hrr⟩:∃rr,rr=(Wk.feed y s0 (l.filter fun e=>!Fs.lt e.1 s)).1:=⟨_,rfl⟩
 rw [←hrr] at HQ ⊢
 obtain ⟨p,rfl⟩:=hd.form
 clear hcnt hrr r1 r2 b1 b2 hb1 hb2 hJ hb ht hd
 generalize bs s=S at *
 have hfn:=fun W=>func_nil W (.func fy) #[] Cy
 have hsf:∀(a:Addr) (F:Fn) (T:Array Value) (C:Array Value) (m:Mode) (w:World),(store a (.func F T C) m).run Tryz.prog w=stored Tryz.prog w a (.func F T C) m:=fun a F T C m w=>run_store Tryz.prog w a (.func F T C) m rfl
 go_enter Tryz.func10,Tryz.ntmps10
 go_wp2_with (go_at_call 26;go_loud ((refine HQ.out.mono ?_;rintro e1 w1 ⟨rfl,hj1,hb1⟩;have HJ1:=lh (And.intro hj1 hb1);clear hj1 hb1)))
 go_end0
 exact ⟨rfl,HJ1.out⟩
def entC:Option Fs.En→Array Value
 | some e=>#[.string (bs e.1),.int .i64 e.2]
 | none=>#[.string ByteArray.empty,.int .i64 0]
def CeilJ (fb tb:Nat) (W:World) (o:Option Fs.En):Prop:=RowT 29 W fb (entC o)∧RowT 4 W tb #[.bool o.isSome]
theorem ceilTold_any (W:World) (fb tb:Nat) (o:Option Fs.En) (t:List UInt8) (x:Int) (h:CeilJ fb tb W o):
  Calls Tryz.prog 27 #[.agg #[.string (bs t),.int .i64 x],.pointer (some ⟨fb,0,none⟩),.pointer (some ⟨tb,0,none⟩)] W fun e w'=>e=.returned (.bool false)∧w'=(((W.alloc (.cells #[.string (bs t),.int .i64 x] 29)).setCell ⟨fb,0,none⟩ (.string (bs t))).setCell ⟨fb,1,none⟩ (.int .i64 x)).setCell ⟨tb,0,none⟩ (.bool true):=by
 obtain ⟨c1,c2,hC⟩:∃c1 c2,entC o=#[c1,c2]:=by cases o <;> exact ⟨_,_,rfl⟩
 have h1:RowT 29 W fb #[c1,c2]:=hC ▸ h.1
 have h2:=h.2
 have hne:fb≠tb:=fun e=>by
  subst e
  have:=kind_inj h1 h2
  revert this
  decide
 have hb:=(Below.refl W.heap.size W).alloc (Nat.le_refl _) (.cells #[.string (bs t),.int .i64 x] 29)
 have r1:=h1.keep (hb.block _ h1.lt)
 have r2:=h2.keep (hb.block _ h2.lt)
 have r3:RowT 29 (W.alloc (.cells #[.string (bs t),.int .i64 x] 29)) W.heap.size #[.string (bs t),.int .i64 x]:=Go.Deep.blk_alloc_new _ _
 generalize bs t=T at *
 have a1:=r1.cell 0
 have a2:=r1.frozen 0
 have a3:=r3.cell 0
 have a4:=r3.cell 1
 have b0:RowT 29 ((W.alloc (.cells #[.string T,.int .i64 x] 29)).setCell ⟨fb,0,none⟩ (.string T)) fb #[.string T,c2]:=r1.set 0 _
 have b1:=b0.cell 1
 have b2:=b0.frozen 1
 have d0:=(r2.keep (heap_other (W.alloc (.cells #[.string T,.int .i64 x] 29)) fb 0 tb (.string T) (by omega))).keep (heap_other ((W.alloc (.cells #[.string T,.int .i64 x] 29)).setCell ⟨fb,0,none⟩ (.string T)) fb 1 tb (.int .i64 x) (by omega))
 have d1:=d0.cell 0
 have d2:=d0.frozen 0
 clear h h1 h2 hC hb r1 r2 r3 b0 d0
 go_enter Tryz.func27,Tryz.ntmps27
 go_wp2_with fail
 go_ret
 exact ⟨rfl,rfl⟩
end F12
namespace F12
open Go.RowKit Go.Maps
theorem ceil_told (w0:World) (fb tb:Nat) (hf:w0.heap.size≤fb) (ht:w0.heap.size≤tb):Told Tryz.prog w0 27 #[.pointer (some ⟨fb,0,none⟩),.pointer (some ⟨tb,0,none⟩)] (fun (_:Option Fs.En) e=>(some e,false)) (fun _=>0) (CeilJ fb tb) where
 less:=fun _ _=>Nat.zero_le _
 ey:=enters_of Tryz.func27 (by kernel_rfl) rfl
 jkeep:=fun W W' s h k=>⟨h.1.keep (k.kind _ _ _ _ h.1 (by decide)),h.2.keep (k.kind _ _ _ _ h.2 (by decide))⟩
 yield:=fun W o t x _ h hb=>by
  refine (ceilTold_any W fb tb o t x h).mono ?_
  rintro e w' ⟨rfl,rfl⟩
  obtain ⟨c1,c2,hC⟩:∃c1 c2,entC o=#[c1,c2]:=by cases o <;> exact ⟨_,_,rfl⟩
  have h1:RowT 29 W fb #[c1,c2]:=hC ▸ h.1
  have h2:=h.2
  have hne:fb≠tb:=fun e=>by
   subst e
   have:=kind_inj h1 h2
   revert this
   decide
  have hba:=(Below.refl W.heap.size W).alloc (Nat.le_refl _) (.cells #[.string (bs t),.int .i64 x] 29)
  have r1:=h1.keep (hba.block _ h1.lt)
  have r2:=h2.keep (hba.block _ h2.lt)
  have k0:KeptT (5 :: Wk.TW) w0.heap.size W (W.alloc (.cells #[.string (bs t),.int .i64 x] 29)):=KeptT.of_below hba
  generalize W.alloc (.cells #[.string (bs t),.int .i64 x] 29)=W1 at *
  have s1:=r1.set 0 (.string (bs t))
  have s2:=r2.keep (heap_other W1 fb 0 tb (.string (bs t)) (by omega))
  have k1:KeptT (5 :: Wk.TW) w0.heap.size W1 (W1.setCell ⟨fb,0,none⟩ (.string (bs t))):=KeptT.set fb 0 _ hf fun c ty fz hc=>by
   rw [kind_inj hc r1]
   decide
  generalize W1.setCell ⟨fb,0,none⟩ (.string (bs t))=W2 at *
  have u1:=s1.set 1 (.int .i64 x)
  have u2:=s2.keep (heap_other W2 fb 1 tb (.int .i64 x) (by omega))
  have k2:KeptT (5 :: Wk.TW) w0.heap.size W2 (W2.setCell ⟨fb,1,none⟩ (.int .i64 x)):=KeptT.set fb 1 _ hf fun c ty fz hc=>by
   rw [kind_inj hc s1]
   decide
  generalize W2.setCell ⟨fb,1,none⟩ (.int .i64 x)=W3 at *
  have v2:=u2.set 0 (.bool true)
  have v1:=u1.keep (heap_other W3 tb 0 fb (.bool true) (by omega))
  have k3:KeptT (5 :: Wk.TW) w0.heap.size W3 (W3.setCell ⟨tb,0,none⟩ (.bool true)):=KeptT.set tb 0 _ ht fun c ty fz hc=>by
   rw [kind_inj hc u2]
   decide
  have kk:=k0.trans (k1.trans (k2.trans k3))
  exact ⟨rfl,⟨v1,v2⟩,kk.below hb hb.size,kk⟩
theorem aggE (w:World):(isAgg 29).run Tryz.prog w=.ok true w:=by kernel_rfl
theorem sizeE (w:World):(sizeOf 29).run Tryz.prog w=.ok 2 w:=by kernel_rfl
theorem loadE (w:World) (b:Nat) (c0 c1:Value) (h:RowT 29 w b #[c0,c1]):(loadVar 29 ⟨b,0,none⟩).run Tryz.prog w=.ok (.agg #[c0,c1]) w:=by
 unfold loadVar
 rw [Sem.run_bind,aggE]
 simp only [Result.andThen_ok,if_true,Sem.run_bind,sizeE]
 have h:=run_loadCells_list (P:=Tryz.prog) w ⟨b,0,none⟩ [c0,c1] (fun j v hj=>by
  match j,hj with
  | 0,hj=>simp at hj;subst hj;simpa [Addr.add] using h.cell 0
  | 1,hj=>simp at hj;subst hj;simpa [Addr.add] using h.cell 1)
 rw [show [c0,c1].length=2 from rfl] at h
 rw [h]
 rfl
theorem feed_ceil (M:List Fs.En):(Wk.feed (fun (_:Option Fs.En) e=>(some e,false)) none M).1=M.head?:=by cases M <;> rfl
theorem ceil_any (w:World) (dv:Value) (l:List Fs.En) (hd:Dt w dv l) (s:List UInt8) (hs:s.length≤9223372036854775806):
  Calls Tryz.prog 12 #[dv,.string (bs s)] w fun e w'=>e=.returned (.tuple #[.agg (entC (l.filter fun e=>!Fs.lt e.1 s).head?),.bool (l.filter fun e=>!Fs.lt e.1 s).head?.isSome])∧Below w.heap.size w w':=by
 have hb0:Below w.heap.size w (w.alloc (.cells #[.string ByteArray.empty,.int .i64 0] 29)):=(Below.refl _ _).alloc (Nat.le_refl _) _
 have e0:(w.alloc (.cells #[.string ByteArray.empty,.int .i64 0] 29)).heap.size=w.heap.size+1:=World.size_alloc _ _
 have r0:RowT 29 (w.alloc (.cells #[.string ByteArray.empty,.int .i64 0] 29)) w.heap.size #[.string ByteArray.empty,.int .i64 0]:=Go.Deep.blk_alloc_new _ _
 have hd0:=hd.below hb0
 obtain ⟨W0,hW0⟩:∃W0,W0=w.alloc (.cells #[.string ByteArray.empty,.int .i64 0] 29):=⟨_,rfl⟩
 rw [←hW0] at hb0 e0 r0 hd0
 have e1:(W0.alloc (.cells #[.string ByteArray.empty,.int .i64 0] 29)).heap.size=w.heap.size+1+1:=by rw [World.size_alloc,e0]
 have r1:RowT 29 (W0.alloc (.cells #[.string ByteArray.empty,.int .i64 0] 29)) (w.heap.size+1) #[.string ByteArray.empty,.int .i64 0]:=by
  show _=_
  rw [←e0]
  exact Go.Deep.blk_alloc_new _ _
 have b1:Below W0.heap.size W0 (W0.alloc (.cells #[.string ByteArray.empty,.int .i64 0] 29)):=(Below.refl _ _).alloc (Nat.le_refl _) _
 obtain ⟨W1,hW1⟩:∃W1,W1=W0.alloc (.cells #[.string ByteArray.empty,.int .i64 0] 29):=⟨_,rfl⟩
 rw [←hW1] at e1 r1 b1
 have r2:RowT 4 (W1.alloc (.cells #[.bool false] 4)) (w.heap.size+1+1) #[.bool false]:=by
  show _=_
  rw [←e1]
  exact Go.Deep.blk_alloc_new _ _
 have b2:=b1.alloc b1.size (.cells #[.bool false] 4)
 have r3:RowT 29 (W1.alloc (.cells #[.bool false] 4)) (w.heap.size+1) #[.string ByteArray.empty,.int .i64 0]:=r1.keep (Go.Deep.blk_alloc_lt _ _ _ (by omega))
 have HQ:=lh (from_any W0 _ dv l hd0 s hs _ _ _ _ _ (ceil_told W0 (w.heap.size+1) (w.heap.size+1+1) (by omega) (by omega)) none (by have:=hd.few;omega) b2 ⟨r3,r2⟩)
 rw [feed_ceil] at HQ
 obtain ⟨p,rfl⟩:=hd.form
 obtain ⟨o,ho⟩:∃o,o=(l.filter fun e=>!Fs.lt e.1 s).head?:=⟨_,rfl⟩
 rw [←ho] at HQ ⊢
 obtain ⟨T,x,hC⟩:∃T x,entC o=#[.string T,.int .i64 x]:=by cases o <;> exact ⟨_,_,rfl⟩
 rw [hC]
 have HFA:Hid (∀w1,CeilJ (w.heap.size+1) (w.heap.size+1+1) w1 o→Below W0.heap.size W0 w1→RowT 29 w1 w.heap.size #[.string ByteArray.empty,.int .i64 0]∧RowT 29 w1 (w.heap.size+1) #[.string T,.int .i64 x]∧RowT 4 w1 (w.heap.size+1+1) #[.bool o.isSome]∧Below w.heap.size w w1):=fun w1 hj hb=>⟨r0.keep (hb.block _ (by omega)),hC ▸ hj.1,hj.2,hb0.trans (hb.mono (by omega))⟩
 generalize bs s=S at *
 subst hW1 hW0
 clear ho hd hd0 hb0 e0 r0 e1 r1 b1 r2 b2 r3 hC
 generalize o.isSome=bo at *
 go_enter Tryz.func12,Tryz.ntmps12
 go_wp2_with (go_at_call 10;go_loud ((refine HQ.out.mono ?_;rintro e1 w1 ⟨rfl,hj1,hb1⟩;obtain ⟨q0,q1,q2,hbb⟩:=HFA.out w1 hj1 hb1;have m0:=q1.cell 0;have m1:=q1.cell 1;have m2:=q2.cell 0;have HB1:=lh hbb;have HQ0:=lh q0;clear hj1 hb1 q1 q2 hbb q0)))
 have f0:=HQ0.out.frozen 0
 have p0:=HQ0.out.cell 0
 have f1:=HQ0.out.frozen 1
 have p1:=HQ0.out.cell 1
 have HG1:=lh ((HQ0.out.set 0 (.string T)).set 1 (.int .i64 x))
 have HB2:Hid (Below w.heap.size w ((w1.setCell ⟨w.heap.size,0,none⟩ (.string T)).setCell ⟨w.heap.size,1,none⟩ (.int .i64 x))):=(HB1.out.setCell (p:=⟨w.heap.size,0,none⟩) (Nat.le_refl _) _).setCell (p:=⟨w.heap.size,1,none⟩) (Nat.le_refl _) _
 clear HQ0 HQ HFA
 go_region
 all_goals go_wp2_with fail
 all_goals refine bodyPost_ret (results_cell_tmp rfl _ _ ⟨w.heap.size,0,none⟩ (.agg #[.string T,.int .i64 x]) rfl (loadE _ _ _ _ HG1.out)) rfl ?_
 all_goals exact ⟨rfl,HB2.out.drew⟩
end F12
namespace F12
open Go.RowKit Go.Maps
namespace Wk
def stpA (d:List Au.St) (q:Int) (c:UInt8):Int:=Au.step d q (c.toNat:Nat)
def finA (d:List Au.St) (q:Int):Bool:=match d[q.toNat]? with
 | some s=>s.fin
 | none=>false
def okA (d:List Au.St) (q:Int):Prop:=0≤q∧q<(d.length:Int)
theorem stpA_code {d:List Au.St} (h:Au.Fits d) (k:Nat) (c:UInt8):stpA d (k:Int) c=Au.code ((Au.ofL d).step k c.toNat):=Au.step_code h (some k) c.toNat
theorem ofL_at {d:List Au.St} (h:Au.Fits d) {k c j:Nat} (e:(Au.ofL d).step k c=some j):j<d.length:=Au.ofL_in h.row e
theorem stpA_ok {d:List Au.St} (h:Au.Fits d) (q:Int) (c:UInt8) (hq:okA d q):stpA d q c = -1∨okA d (stpA d q c):=by
 obtain ⟨k,rfl⟩:∃k:Nat,(k:Int)=q:=⟨q.toNat,Int.toNat_of_nonneg hq.1⟩
 rw [stpA_code h]
 cases e:(Au.ofL d).step k c.toNat with
 | none=>left;rfl
 | some j=>
  have:=ofL_at h e
  right
  exact ⟨by show (0:Int)≤(j:Int);omega,by show (j:Int)<_;omega⟩
theorem okA_acc {d:List Au.St} (h:Au.Fits d):∀(t:List UInt8) (k:Nat),k<d.length→ok (stpA d) (finA d) (k:Int) t=(Au.ofL d).acc (some k) (t.map UInt8.toNat)
 | [],k,hk=>by
  show finA d (k:Int)=(Au.ofL d).fin k
  unfold finA Au.ofL
  rw [Int.toNat_natCast]
  dsimp only
  cases d[k]? <;> rfl
 | c :: t,k,hk=>by
  rw [List.map_cons,Au.acc_step]
  show (if stpA d (k:Int) c = -1 then false else ok (stpA d) (finA d) (stpA d (k:Int) c) t)=Au.Auto.acc _ ((Au.ofL d).step k c.toNat) _
  rw [stpA_code h]
  cases e:(Au.ofL d).step k c.toNat with
  | none=>
   rw [Au.acc_none]
   rfl
  | some j=>
   have hj:=ofL_at h e
   show (if (j:Int) = -1 then false else ok (stpA d) (finA d) (j:Int) t)=_
   rw [if_neg (by omega)]
   exact okA_acc h t j hj
theorem okA_takes {d:List Au.St} (h:Au.Fits d) (t:List UInt8):ok (stpA d) (finA d) 0 t=Au.takesL d t:=by
 unfold Au.takesL
 simp only [h,decide_true,Bool.true_and]
 exact okA_acc h t 0 h.pos
def yM (most:Int) (s:List Fs.En × Bool) (e:Fs.En):(List Fs.En × Bool) × Bool:=if most≤(s.1.length:Int) then ((s.1,true),false) else ((s.1++[e],false),true)
theorem feed_match (most:Int):∀(M L:List Fs.En),L.length≤most.toNat→(feed (yM most) (L,false) M).1=(L++M.take (most.toNat-L.length),decide (most.toNat<L.length+M.length))
 | [],L,h=>by
  show (L,false)=_
  rw [List.take_nil,List.append_nil,decide_eq_false (by simp;omega)]
 | e :: M,L,h=>by
  show (if (yM most (L,false) e).2=true then feed (yM most) (yM most (L,false) e).1 M else ((yM most (L,false) e).1,false)).1=_
  unfold yM
  by_cases h1:most≤(L.length:Int)
  ·rw [if_pos h1]
   show (L,true)=_
   rw [show most.toNat-L.length=0 by omega,List.take_zero,List.append_nil,decide_eq_true (by simp only [List.length_cons];omega)]
  ·rw [if_neg h1,if_pos rfl]
   show (feed (yM most) (L++[e],false) M).1=_
   rw [feed_match most M (L++[e]) (by rw [List.length_append,List.length_singleton];omega),List.length_append,List.length_singleton,List.append_assoc,List.length_cons,show most.toNat-L.length=(most.toNat-(L.length+1))+1 by omega,List.take_succ_cons,show L.length+1+M.length=L.length+(M.length+1) by omega]
   rfl
noncomputable def mat (l:List Fs.En) (d:List Au.St):List Fs.En:=l.filter fun e=>Au.takesL d e.1
theorem mat_bad {l:List Fs.En} {d:List Au.St} (h:¬Au.Fits d):mat l d=[]:=by
 unfold mat
 rw [List.filter_eq_nil_iff]
 intro e _ q
 unfold Au.takesL at q
 simp [h] at q
theorem mat_ok {l:List Fs.En} {d:List Au.St} (h:Au.Fits d):(l.filter fun e=>ok (stpA d) (finA d) 0 e.1)=mat l d:=List.filter_congr fun e _=>okA_takes h e.1
end Wk
theorem matchStep_any (F:Nat→Prop) (W:World) (ab:Nat) (av:Value) (d:List Au.St) (q:Int) (c:UInt8) (h:RowT 35 W ab #[av]) (hv:StS F W av d):
  Calls Tryz.prog 30 #[.int .i64 q,.int .u8 (c.toNat:Nat),.pointer (some ⟨ab,0,none⟩)] W fun e w'=>e=.returned (.int .i64 (Wk.stpA d q c))∧Below W.heap.size W w':=by
 have H:=lh (stepP_any F W av d q c.toNat c.toNat_lt hv)
 have c0:W.cell? ⟨ab,0,none⟩=some av:=h.cell 0
 obtain ⟨a,cap,rfl,-⟩:=hv
 clear h
 go_enter Tryz.func30,Tryz.ntmps30
 go_wp2_with (go_at_call 31;refine H.out.mono ?_;rintro e1 w1 ⟨rfl,hb1⟩;have HB1:=lh hb1;clear hb1)
 go_ret
 exact ⟨rfl,HB1.out⟩
theorem matchFinal_any (F:Nat→Prop) (W:World) (ab:Nat) (av:Value) (d:List Au.St) (q:Int) (hq:Wk.okA d q) (h:RowT 35 W ab #[av]) (hv:StS F W av d):
  Calls Tryz.prog 32 #[.int .i64 q,.pointer (some ⟨ab,0,none⟩)] W fun e w'=>e=.returned (.bool (Wk.finA d q))∧w'=W:=by
 obtain ⟨k,rfl⟩:∃k:Nat,(k:Int)=q:=⟨q.toNat,Int.toNat_of_nonneg hq.1⟩
 have hk:k<d.length:=by have:=hq.2;omega
 have hf:Wk.finA d (k:Int)=d[k].fin:=by
  unfold Wk.finA
  rw [Int.toNat_natCast,List.getElem?_eq_getElem hk]
 rw [hf]
 have c0:W.cell? ⟨ab,0,none⟩=some av:=h.cell 0
 obtain ⟨a,cap,rfl,hc1,hc2,hc⟩:=hv
 obtain ⟨g,o,rfl,-,-,hcell⟩:=hc (by omega)
 have c1:=(hcell k hk).1
 generalize d[k].fin=fb at *
 have i1:(k:Int)<(d.length:Int):=by omega
 clear h hq hcell hc hf hk
 generalize d.length=n at *
 go_enter Tryz.func32,Tryz.ntmps32
 go_wp2_with fail
 go_ret
 exact ⟨rfl,rfl⟩
end F12
namespace F12
open Go.RowKit Go.Maps
namespace Wk
abbrev TP:List TypeId:=[5,115,118,56,9,35,4,3]
end Wk
theorem push_to {W w5:World} {B lb g cap:Nat} {lv:Value} {acc:List Fs.En} {t:List UInt8} {x:Int} (hbox:RowT 22 W lb #[lv]) (hB:B≤lb) (hown:OwnE W B lv acc)
  (h5:w5.ownsRow B 29 2 (.slice (some ⟨g,0,none⟩) (acc.length+1) cap) (acc.length+1) (entV acc++[.string (bs t),.int .i64 x])) (hg:Grew W w5 lv (.slice (some ⟨g,0,none⟩) (acc.length+1) cap)):
  (w5.cell? ⟨lb,0,none⟩=some lv∧w5.frozen? ⟨lb,0,none⟩=false)∧RowT 22 (w5.setCell ⟨lb,0,none⟩ (.slice (some ⟨g,0,none⟩) (acc.length+1) cap)) lb #[.slice (some ⟨g,0,none⟩) (acc.length+1) cap] ∧
  OwnE (w5.setCell ⟨lb,0,none⟩ (.slice (some ⟨g,0,none⟩) (acc.length+1) cap)) B (.slice (some ⟨g,0,none⟩) (acc.length+1) cap) (acc++[(t,x)])∧KeptT Wk.TP B W (w5.setCell ⟨lb,0,none⟩ (.slice (some ⟨g,0,none⟩) (acc.length+1) cap)):=by
 have k1:KeptT (22 :: Wk.TP) B W w5:=hg.keptT hown (by decide)
 have b5:RowT 22 w5 lb #[lv]:=hbox.keep (k1.kind _ _ _ _ hbox (by decide))
 have k2:KeptT (29 :: Wk.TP) B w5 (w5.setCell ⟨lb,0,none⟩ (.slice (some ⟨g,0,none⟩) (acc.length+1) cap)):=KeptT.set lb 0 _ hB fun c ty fz hc=>by
  rw [kind_inj hc b5]
  decide
 refine ⟨⟨b5.cell 0,b5.frozen 0⟩,b5.set 0 _,?_,(k1.less (by decide)).trans (k2.less (by decide))⟩
 have h6:=OwnE.push (x:=(t,x)) h5
 exact ownsRow_kt h6 k2 (by decide)
structure MatJ (B lb kb tb:Nat) (most:Int) (W:World) (s:List Fs.En × Bool):Prop where
 box:∃lv,RowT 22 W lb #[lv]∧OwnE W B lv s.1
 lim:RowT 3 W kb #[.int .i64 most]
 more:RowT 4 W tb #[.bool s.2]
theorem matchTold_any (B lb kb tb:Nat) (most:Int) (W:World) (s:List Fs.En × Bool) (hl:B≤lb) (ht:B≤tb) (hBW:B≤W.heap.size) (h:MatJ B lb kb tb most W s) (hn:s.1.length<65536) (t:List UInt8) (x:Int):
  Calls Tryz.prog 33 #[.agg #[.string (bs t),.int .i64 x],.pointer (some ⟨lb,0,none⟩),.pointer (some ⟨kb,0,none⟩),.pointer (some ⟨tb,0,none⟩)] W fun e w'=>e=.returned (.bool (Wk.yM most s (t,x)).2)∧MatJ B lb kb tb most w' (Wk.yM most s (t,x)).1∧KeptT (5 :: Wk.TW) B W w':=by
 obtain ⟨⟨lv,h1,hown⟩,h2,h3⟩:=h
 obtain ⟨acc,mr⟩:=s
 dsimp only at hown h3 hn
 obtain ⟨al,cl,rfl⟩:=hown.form
 have hba:=(Below.refl W.heap.size W).alloc (Nat.le_refl _) (.cells #[.string (bs t),.int .i64 x] 29)
 have r1:=h1.keep (hba.block _ h1.lt)
 have r2:=h2.keep (hba.block _ h2.lt)
 have r3:=h3.keep (hba.block _ h3.lt)
 have ro:OwnE (W.alloc (.cells #[.string (bs t),.int .i64 x] 29)) B (.slice al acc.length cl) acc:=World.ownsRow.alloc hown _
 have rx:RowT 29 (W.alloc (.cells #[.string (bs t),.int .i64 x] 29)) W.heap.size #[.string (bs t),.int .i64 x]:=Go.Deep.blk_alloc_new _ _
 have c1:=r1.cell 0
 have c2:=r2.cell 0
 have c3:=r3.cell 0
 have f3:=r3.frozen 0
 by_cases hm:most≤(acc.length:Int)
 ·have hy:Wk.yM most (acc,mr) (t,x)=((acc,true),false):=by unfold Wk.yM;exact if_pos hm
  rw [hy]
  have k1:KeptT (5 :: 22 :: 29 :: 3 :: Wk.TW) B W ((W.alloc (.cells #[.string (bs t),.int .i64 x] 29)).setCell ⟨tb,0,none⟩ (.bool true)):=(KeptT.of_below hba).trans (KeptT.set tb 0 _ ht fun c ty fz hc=>by
   rw [kind_inj hc r3]
   decide)
  have HJ:Hid (MatJ B lb kb tb most ((W.alloc (.cells #[.string (bs t),.int .i64 x] 29)).setCell ⟨tb,0,none⟩ (.bool true)) (acc,true)):=⟨⟨_,h1.keep (k1.kind _ _ _ _ h1 (by decide)),ownsRow_kt hown k1 (by decide)⟩,h2.keep (k1.kind _ _ _ _ h2 (by decide)),r3.set 0 _⟩
  have HK:=lh (k1.less (S:=5 :: Wk.TW) (by decide))
  clear h1 h2 h3 hown hba r1 r2 r3 ro rx k1 hy
  generalize acc.length=n at *
  generalize bs t=T at *
  go_enter Tryz.func33,Tryz.ntmps33
  go_wp2_with fail
  go_ret
  exact ⟨rfl,HJ.out,HK.out⟩
 ·have hy:Wk.yM most (acc,mr) (t,x)=((acc++[(t,x)],false),true):=by unfold Wk.yM;exact if_neg hm
  rw [hy]
  have k1:KeptT (5 :: 22 :: 29 :: 3 :: Wk.TW) B (W.alloc (.cells #[.string (bs t),.int .i64 x] 29)) ((W.alloc (.cells #[.string (bs t),.int .i64 x] 29)).setCell ⟨tb,0,none⟩ (.bool false)):=KeptT.set tb 0 _ ht fun c ty fz hc=>by
   rw [kind_inj hc r3]
   decide
  have q1:=r1.keep (k1.kind _ _ _ _ r1 (by decide))
  have q2:=r2.keep (k1.kind _ _ _ _ r2 (by decide))
  have q3:=r3.set 0 (.bool false)
  have qo:OwnE ((W.alloc (.cells #[.string (bs t),.int .i64 x] 29)).setCell ⟨tb,0,none⟩ (.bool false)) B (.slice al acc.length cl) acc:=ownsRow_kt ro k1 (by decide)
  have qx:=rx.keep (k1.kind _ _ _ _ rx (by decide))
  have hsz:B≤((W.alloc (.cells #[.string (bs t),.int .i64 x] 29)).setCell ⟨tb,0,none⟩ (.bool false)).heap.size:=Nat.le_trans hBW (Nat.le_trans (KeptT.of_below (T:=[]) (B:=0) hba).size k1.size)
  have HK0:Hid (KeptT (5 :: Wk.TW) B W ((W.alloc (.cells #[.string (bs t),.int .i64 x] 29)).setCell ⟨tb,0,none⟩ (.bool false))):=(KeptT.of_below hba).trans (k1.less (by decide))
  have HQ:=lh (And.intro q1 (And.intro q2 (And.intro q3 (And.intro qo qx))))
  have HSZ:=lh hsz
  clear h1 h2 h3 hown hba r1 r2 r3 ro rx k1 hy q1 q2 q3 qo qx hsz
  go_enter Tryz.func33,Tryz.ntmps33
  go_upto_region 3 with (fail)
  generalize (W.alloc (.cells #[.string (bs t),.int .i64 x] 29)).setCell ⟨tb,0,none⟩ (.bool false)=W2 at *
  generalize W.heap.size=xb at *
  clear c1 c2 c3 f3
  have m1:=HQ.out.1.cell 0
  have m2:=HQ.out.2.2.2.2.cell 0
  have m3:=HQ.out.2.2.2.2.cell 1
  obtain ⟨ii,hii,hz0,hz1,hz2⟩:=info_parts Tryz.infoE
  have HPU:Hid (∀g5 cap5 w5,w5.ownsRow B 29 2 (.slice (some ⟨g5,0,none⟩) (acc.length+1) cap5) (acc.length+1) (entV acc++[.string (bs t),.int .i64 x])→Grew W2 w5 (.slice al acc.length cl) (.slice (some ⟨g5,0,none⟩) (acc.length+1) cap5)→(w5.cell? ⟨lb,0,none⟩=some (.slice al acc.length cl)∧w5.frozen? ⟨lb,0,none⟩=false)∧MatJ B lb kb tb most (w5.setCell ⟨lb,0,none⟩ (.slice (some ⟨g5,0,none⟩) (acc.length+1) cap5)) (acc++[(t,x)],false)∧KeptT (5 :: Wk.TW) B W (w5.setCell ⟨lb,0,none⟩ (.slice (some ⟨g5,0,none⟩) (acc.length+1) cap5))∧(w5.setCell ⟨lb,0,none⟩ (.slice (some ⟨g5,0,none⟩) (acc.length+1) cap5)).cell? ⟨tb,0,none⟩=some (.bool false)):=fun g5 cap5 w5 h5 hg5=>by
   obtain ⟨q1,q2,q3,qo,_⟩:=HQ.out
   obtain ⟨a1,a2,a3,a4⟩:=push_to q1 hl qo h5 hg5
   have r3:=q3.keep (a4.kind _ _ _ _ q3 (by decide))
   exact ⟨a1,⟨⟨_,a2,a3⟩,q2.keep (a4.kind _ _ _ _ q2 (by decide)),r3⟩,HK0.out.trans (a4.less (by decide)),r3.cell 0⟩
  go_wp2_with (at_builtin;go_loud ((refine wpList_pushR rfl _ _ 22 29 rfl ii _ 2 24 Tryz.underlying22 hii hz0 hz1 hz2 rfl (by decide) B HSZ.out (.slice al acc.length cl) acc.length (entV acc) rfl HQ.out.2.2.2.1 [.string (bs t),.int .i64 x] rfl (one_of rfl) rfl (by omega) (by omega) ?_;intro g5 cap5 w5 hown5 hgr5;obtain ⟨⟨m5,m6⟩,hj5,hk5,m7⟩:=HPU.out g5 cap5 w5 hown5 hgr5;have HJ5:=lh hj5;have HK5:=lh hk5;clear hown5 hgr5 hj5 hk5)))
  go_ret
  exact ⟨rfl,HJ5.out,HK5.out⟩
end F12
namespace F12
open Go.RowKit Go.Maps
theorem match_told (w0:World) (lb kb tb:Nat) (hl:w0.heap.size≤lb) (ht:w0.heap.size≤tb) (most:Int):Told Tryz.prog w0 33 #[.pointer (some ⟨lb,0,none⟩),.pointer (some ⟨kb,0,none⟩),.pointer (some ⟨tb,0,none⟩)] (Wk.yM most) (fun s=>s.1.length) (MatJ w0.heap.size lb kb tb most) where
 ey:=enters_of Tryz.func33 (by kernel_rfl) rfl
 less:=fun s e=>by
  unfold Wk.yM
  split
  ·show s.1.length≤_
   omega
  ·show (s.1++[e]).length≤_
   rw [List.length_append,List.length_singleton]
   omega
 jkeep:=fun W W' s h k=>by
  obtain ⟨⟨lv,h1,h2⟩,h3,h4⟩:=h
  exact ⟨⟨lv,h1.keep (k.kind _ _ _ _ h1 (by decide)),ownsRow_kt h2 k (by decide)⟩,h3.keep (k.kind _ _ _ _ h3 (by decide)),h4.keep (k.kind _ _ _ _ h4 (by decide))⟩
 yield:=fun W s t x hc h hb=>(matchTold_any _ lb kb tb most W s hl ht hb.size h hc t x).mono fun e w' ⟨h1,h2,h3⟩=>⟨h1,h2,h3.below hb hb.size,h3⟩
theorem match_mach {σ:Type} {w0:World} {fy:FuncId} {Cy:Array Value} {y:σ→Fs.En→σ × Bool} {cnt:σ→Nat} {J:World→σ→Prop} (ht:Told Tryz.prog w0 fy Cy y cnt J) {d:List Au.St} (hf:Au.Fits d) (av:Value) (ab:Nat):
  Mach Tryz.prog w0 30 32 fy #[.pointer (some ⟨ab,0,none⟩)] #[.pointer (some ⟨ab,0,none⟩)] Cy (Wk.stpA d) (Wk.finA d) y cnt (Wk.okA d) (fun W=>RowT 35 W ab #[av]∧StS (fun g=>g<w0.heap.size) W av d) J where
 es:=enters_of Tryz.func30 (by kernel_rfl) rfl
 ef:=enters_of Tryz.func32 (by kernel_rfl) rfl
 ey:=ht.ey
 ikeep:=fun W W' h k=>⟨h.1.keep (k.kind _ _ _ _ h.1 (by decide)),h.2.keep k.size fun g hg hw=>k.old g hg hw⟩
 jkeep:=ht.jkeep
 less:=ht.less
 next:=fun q c h=>Wk.stpA_ok hf q c h
 step:=fun W q c h _ _=>matchStep_any _ W ab av d q c h.1 h.2
 final:=fun W q h _ hq=>matchFinal_any _ W ab av d q hq h.1 h.2
 yield:=ht.yield
theorem match_any (w:World) (dv av:Value) (l:List Fs.En) (d:List Au.St) (most:Int) (hd:Dt w dv l) (hv:StS (fun _=>True) w av d):
  Calls Tryz.prog 14 #[dv,av,.int .i64 most] w fun e w'=>∃v,e=.returned (.tuple #[v,.bool (decide (most.toNat<(Wk.mat l d).length))])∧OwnE w' w.heap.size v ((Wk.mat l d).take most.toNat)∧Below w.heap.size w w':=by
 have b1:Below w.heap.size w (w.alloc (.cells #[av] 35)):=(Below.refl _ _).alloc (Nat.le_refl _) _
 have s1:(w.alloc (.cells #[av] 35)).heap.size=w.heap.size+1:=World.size_alloc _ _
 have r1:RowT 35 (w.alloc (.cells #[av] 35)) w.heap.size #[av]:=Go.Deep.blk_alloc_new _ _
 have b2:=b1.alloc b1.size (.cells #[.int .i64 most] 3)
 have r2:=r1.keep (Go.Deep.blk_alloc_lt _ (.cells #[.int .i64 most] 3) _ r1.lt)
 have r3:RowT 3 ((w.alloc (.cells #[av] 35)).alloc (.cells #[.int .i64 most] 3)) (w.heap.size+1) #[.int .i64 most]:=by
  show _=_
  rw [←s1]
  exact Go.Deep.blk_alloc_new _ _
 have hv2:=hv.below b2
 obtain ⟨W2,hW2⟩:∃W2,W2=(w.alloc (.cells #[av] 35)).alloc (.cells #[.int .i64 most] 3):=⟨_,rfl⟩
 rw [←hW2] at b2 r2 r3 hv2
 have HC:=lh (checkP_any _ W2 av d hv2)
 have c0:=r2.cell 0
 obtain ⟨p,rfl⟩:=hd.form
 by_cases hf:Au.Fits d
 ·rw [(Au.check_iff d).2 hf] at HC
  have HALL:Hid (∀w3,Below W2.heap.size W2 w3→Calls Tryz.prog 26 #[.pointer (some ⟨w3.heap.size+1+1,0,none⟩)] (((w3.alloc (.cells #[.slice none 0 0] 22)).alloc (.cells #[.bool false] 4)).alloc (.cells #[.pointer p,.func (.func 30) #[] #[.pointer (some ⟨w.heap.size,0,none⟩)],.func (.func 32) #[] #[.pointer (some ⟨w.heap.size,0,none⟩)],.func (.func 33) #[] #[.pointer (some ⟨w3.heap.size,0,none⟩),.pointer (some ⟨w.heap.size+1,0,none⟩),.pointer (some ⟨w3.heap.size+1,0,none⟩)]] 56)) fun e w'=>e=.returned (.tuple #[])∧∃v,RowT 22 w' w3.heap.size #[v]∧RowT 4 w' (w3.heap.size+1) #[.bool (decide (most.toNat<(Wk.mat l d).length))]∧OwnE w' w.heap.size v ((Wk.mat l d).take most.toNat)∧Below w.heap.size w w'):=fun w3 hb3=>by
   have hb23:=b2.trans (hb3.mono b2.size)
   have a1:Below w3.heap.size w3 (w3.alloc (.cells #[.slice none 0 0] 22)):=(Below.refl _ _).alloc (Nat.le_refl _) _
   have z1:(w3.alloc (.cells #[.slice none 0 0] 22)).heap.size=w3.heap.size+1:=World.size_alloc _ _
   have q1:RowT 22 (w3.alloc (.cells #[.slice none 0 0] 22)) w3.heap.size #[.slice none 0 0]:=Go.Deep.blk_alloc_new _ _
   obtain ⟨V1,hV1⟩:∃V1,V1=w3.alloc (.cells #[.slice none 0 0] 22):=⟨_,rfl⟩
   rw [←hV1] at a1 z1 q1 ⊢
   have a2:=a1.alloc a1.size (.cells #[.bool false] 4)
   have z2:(V1.alloc (.cells #[.bool false] 4)).heap.size=w3.heap.size+1+1:=by rw [World.size_alloc,z1]
   have q2:RowT 4 (V1.alloc (.cells #[.bool false] 4)) (w3.heap.size+1) #[.bool false]:=by
    show _=_
    rw [←z1]
    exact Go.Deep.blk_alloc_new _ _
   have q3:=q1.keep (Go.Deep.blk_alloc_lt _ (.cells #[.bool false] 4) _ q1.lt)
   obtain ⟨V2,hV2⟩:∃V2,V2=V1.alloc (.cells #[.bool false] 4):=⟨_,rfl⟩
   rw [←hV2] at a2 z2 q2 q3 ⊢
   obtain ⟨cc,hcc⟩:∃cc,cc=(Obj.cells #[.pointer p,.func (.func 30) #[] #[.pointer (some ⟨w.heap.size,0,none⟩)],.func (.func 32) #[] #[.pointer (some ⟨w.heap.size,0,none⟩)],.func (.func 33) #[] #[.pointer (some ⟨w3.heap.size,0,none⟩),.pointer (some ⟨w.heap.size+1,0,none⟩),.pointer (some ⟨w3.heap.size+1,0,none⟩)]] 56):=⟨_,rfl⟩
   rw [←hcc]
   have a3:=a2.alloc a2.size cc
   have q4:=q2.keep (Go.Deep.blk_alloc_lt _ cc _ q2.lt)
   have q5:=q3.keep (Go.Deep.blk_alloc_lt _ cc _ q3.lt)
   have q6:RowT 56 (V2.alloc cc) (w3.heap.size+1+1) #[.pointer p,.func (.func 30) #[] #[.pointer (some ⟨w.heap.size,0,none⟩)],.func (.func 32) #[] #[.pointer (some ⟨w.heap.size,0,none⟩)],.func (.func 33) #[] #[.pointer (some ⟨w3.heap.size,0,none⟩),.pointer (some ⟨w.heap.size+1,0,none⟩),.pointer (some ⟨w3.heap.size+1,0,none⟩)]]:=by
    show _=_
    rw [←z2,hcc]
    exact Go.Deep.blk_alloc_new _ _
   have hI:RowT 35 (V2.alloc cc) w.heap.size #[av]:=(r2.keep (hb3.block _ r2.lt)).keep (a3.block _ (r2.keep (hb3.block _ r2.lt)).lt)
   have hS3:StS (fun g=>g<w3.heap.size) w3 av d:=(hv2.below hb3).wide fun g hg _=>hg
   have hS5:StS (fun g=>g<w3.heap.size) (V2.alloc cc) av d:=hS3.keep a3.size fun g hg _=>a3.block g hg
   have hK:RowT 3 (V2.alloc cc) (w.heap.size+1) #[.int .i64 most]:=(r3.keep (hb3.block _ r3.lt)).keep (a3.block _ (r3.keep (hb3.block _ r3.lt)).lt)
   have ht:=match_told w3 w3.heap.size (w.heap.size+1) (w3.heap.size+1) (Nat.le_refl _) (by omega) most
   have hq:=course_any w3 (V2.alloc cc) (w3.heap.size+1+1) (.pointer p) l (hd.below hb23) _ _ _ _ _ _ _ _ _ _ _ _ _ (match_mach ht hf av w.heap.size) ⟨Int.le_refl _,by have:=hf.pos;omega⟩ ([],false) (by have:=hd.few;simp only [List.length_nil];omega) ⟨q6,⟨hI,hS5⟩,⟨⟨_,q5,ownE_nil _ _⟩,hK,q4⟩,a3⟩
   rw [Wk.mat_ok hf,Wk.feed_match most _ [] (Nat.zero_le _)] at hq
   refine hq.mono ?_
   rintro e w' ⟨rfl,⟨⟨v,h1,h2⟩,_,h3⟩,h4⟩
   have h5:=OwnE.base (C:=w.heap.size) h2 hb23.size
   simp only [List.nil_append,List.length_nil,Nat.sub_zero,Nat.zero_add] at h3 h5
   exact ⟨rfl,v,h1,h3,h5,hb23.trans (h4.mono hb23.size)⟩
  generalize decide (most.toNat<(Wk.mat l d).length)=mr at *
  generalize (Wk.mat l d).take most.toNat=M at *
  have hsf:∀(a:Addr) (F:Fn) (T:Array Value) (C:Array Value) (m:Mode) (w:World),(store a (.func F T C) m).run Tryz.prog w=stored Tryz.prog w a (.func F T C) m:=fun a F T C m w=>run_store Tryz.prog w a (.func F T C) m rfl
  obtain ⟨aa,ca,rfl,-⟩:=hv
  subst hW2
  clear b1 s1 r1 b2 r2 r3 hv2 hf hd
  go_enter Tryz.func14,Tryz.ntmps14
  go_wp2_with (first | (go_at_call 29;go_loud ((refine HC.out.mono ?_;rintro e3 w3 ⟨rfl,hb3⟩;have HB3:=lh hb3;clear hb3))) | (go_at_call 26;go_loud ((refine (HALL.out w3 HB3.out).mono ?_;rintro e4 w4 ⟨rfl,v4,h1,h2,h3,h4⟩;have m1:=h1.cell 0;have m2:=h2.cell 0;obtain ⟨a4,k4,rfl⟩:=h3.form;have HO4:=lh h3;have HB4:=lh h4;clear h1 h2 h3 h4))))
  go_region
  all_goals go_wp2_with fail
  all_goals go_ret2
  all_goals exact ⟨_,rfl,ownsRow_keep HO4.out fun k hk=>rfl,HB4.out.drew⟩
 ·have hne:¬Au.check d=0:=fun q=>hf ((Au.check_iff d).1 q)
  have hn2:(Au.check d==0)=false:=by rw [beq_eq_false_iff_ne];exact hne
  rw [Wk.mat_bad hf,List.take_nil]
  obtain ⟨aa,ca,rfl,-⟩:=hv
  generalize Au.check d=E at *
  have HB2:=lh b2
  subst hW2
  clear b1 s1 r1 r2 r3 hv2 hf hd b2
  go_enter Tryz.func14,Tryz.ntmps14
  go_wp2_with (go_at_call 29;go_loud ((refine HC.out.mono ?_;rintro e3 w3 ⟨rfl,hb3⟩;have HB3:Hid (Below w.heap.size w w3):=HB2.out.trans (hb3.mono HB2.out.size);clear hb3)))
  go_ret2
  exact ⟨_,rfl,ownE_nil _ _,HB3.out⟩
end F12
section
open Go.RowKit
namespace Wl
theorem at_let:letE [63,97,116] [42,63]=0∧letS [63,97,116] [42,63]=[63,97,116]∧wide [63,97,116]=false:=by decide +kernel
end Wl
theorem wild_at (w:World) (hT:Tabs w) {d:List Au.St} (he:Au.tightE (Wl.auto [63,97,116]) 20000=0) (hdl:Au.tightL (Wl.auto [63,97,116]) 20000=d):
  Calls Tryz.prog 22 #[.string ⟨#[63,97,116]⟩] w fun e w'=>∃v,e=.returned (.tuple #[v,.int .i64 0])∧StO w.heap.size w' v d∧Below w.heap.size w w':=by
 have hl:Calls Tryz.prog 46 #[.string ⟨#[63,97,116]⟩,.string ⟨#[42,63]⟩] w fun e w'=>∃v,e=.returned (.tuple #[v,.int .i64 (Wl.letE [63,97,116] [42,63])])∧OwnI w' w.heap.size v (Wl.letS [63,97,116] [42,63])∧Below w.heap.size w w':=letters_any w ⟨#[63,97,116]⟩ ⟨#[42,63]⟩ hT (by decide)
 obtain ⟨h,hx,hwd⟩:=Wl.at_let
 rw [h,hx] at hl
 have hlen:([63,97,116]:List Int).length≤3:=Nat.le_refl _
 generalize ([63,97,116]:List Int)=S at *
 have HTM:Hid (∀W u,IntS W u S→Calls Tryz.prog 47 #[u] W fun e w'=>e=.returned (.bool false)∧W=w'):=fun W u hu=>by
  have:=tooMany_any u S W hu (by omega)
  rw [hwd] at this
  exact this
 have HAU:Hid (∀W u,IntS W u S→Calls Tryz.prog 48 #[u] W fun e w'=>∃v',e=.returned (.tuple #[v',.int .i64 0])∧StO W.heap.size w' v' d∧Below W.heap.size W w'):=fun W u hu=>by
  have:=auto_any W u S hu (by omega)
  rw [he,hdl] at this
  exact this
 have HL:=lh hl
 clear hl h hx he hdl hT hwd
 go_enter Tryz.func22,Tryz.ntmps22
 go_wp2_with fail
 refine HL.out.mono ?_
 rintro e w1 ⟨v,rfl,hown,hb⟩
 have HI:=lh (hown.ints (by omega))
 have HB:=lh hb
 clear hown hb
 go_wp2_with fail
 refine (HTM.out w1 v HI.out).mono ?_
 rintro e w2 ⟨rfl,rfl⟩
 go_wp2_with fail
 refine (HAU.out w1 v HI.out).mono ?_
 rintro e w6 ⟨v6,rfl,hs6,hb6⟩
 have HS6:Hid (StO w.heap.size w6 v6 d):=hs6.lower HB.out.size
 have HB6:Hid (Below w.heap.size w w6):=HB.out.trans (hb6.mono HB.out.size)
 clear hs6 hb6
 go_wp2_with fail
 go_ret2
 exact ⟨_,rfl,HS6.out,HB6.out⟩
end
namespace F12
open Go.RowKit Go.Maps
namespace Wk
def catL:List Fs.En:=[([99,97,116],5),([100,111,103],7),([104,97,116],3)]
theorem cat_fit:Fs.fitO catL=true:=by decide +kernel
theorem cat_ceil:(catL.filter fun e=>!Fs.lt e.1 [100]).head?=some ([100,111,103],7):=by decide
theorem at_mat {d:List Au.St} (e1:Au.takesL d [99,97,116]=true) (e2:Au.takesL d [100,111,103]=false) (e3:Au.takesL d [104,97,116]=true):mat catL d=[([99,97,116],5),([104,97,116],3)]:=by
 unfold mat catL
 rw [List.filter_cons_of_pos (by exact e1),List.filter_cons_of_neg (by rw [e2];simp),List.filter_cons_of_pos (by exact e3)]
 rfl
end Wk
theorem awake_any (w:World) (hT:Tabs w):Calls Tryz.prog 8 #[] w fun e w'=>e=.returned (.bool true)∧Below w.heap.size w w':=by
 obtain ⟨d,te,tl,e1,e2,e3⟩:=Wl.at_out
 have hmat:=Wk.at_mat e1 e2 e3
 have HOP:Hid (Calls Tryz.prog 7 #[.slice (some ⟨w.heap.size,0,none⟩) 3 3] (w.alloc (.cells #[.string ⟨#[99,97,116]⟩,.int .i64 5,.string ⟨#[100,111,103]⟩,.int .i64 7,.string ⟨#[104,97,116]⟩,.int .i64 3] 29)) fun e w'=>∃db,e=.returned (.pointer (some ⟨db,0,none⟩))∧Dt w' (.pointer (some ⟨db,0,none⟩)) Wk.catL∧Below w.heap.size w w'):=by
  have ho:OwnE (w.alloc (.cells #[.string ⟨#[99,97,116]⟩,.int .i64 5,.string ⟨#[100,111,103]⟩,.int .i64 7,.string ⟨#[104,97,116]⟩,.int .i64 3] 29)) w.heap.size (.slice (some ⟨w.heap.size,0,none⟩) 3 3) Wk.catL:=⟨rfl,.inr ⟨w.heap.size,3,_,rfl,Nat.le_refl _,Go.Deep.blk_alloc_new _ _,Nat.le_refl _,by decide,rfl,rfl⟩⟩
  have hb:Below w.heap.size w (w.alloc (.cells #[.string ⟨#[99,97,116]⟩,.int .i64 5,.string ⟨#[100,111,103]⟩,.int .i64 7,.string ⟨#[104,97,116]⟩,.int .i64 3] 29)):=(Below.refl _ _).alloc (Nat.le_refl _) _
  refine (openL_any _ _ Wk.catL ho.ens (by decide) (by decide)).mono ?_
  rintro e w' ⟨dv,rfl,h1,⟨h2,db,rfl,h3⟩ | ⟨h2,_⟩⟩
  ·exact ⟨db,rfl,h3,hb.trans (h1.mono hb.size)⟩
  ·rw [Wk.cat_fit] at h2
   cases h2
 have HCE:Hid (∀W p,Dt W (.pointer p) Wk.catL→Calls Tryz.prog 12 #[.pointer p,.string ⟨#[100]⟩] W fun e w'=>e=.returned (.tuple #[.agg #[.string ⟨#[100,111,103]⟩,.int .i64 7],.bool true])∧Below W.heap.size W w'):=fun W p h=>by
  have:=ceil_any W _ Wk.catL h [100] (by decide)
  rw [Wk.cat_ceil] at this
  exact this
 have HWI:Hid (∀w2,Below w.heap.size w w2→Calls Tryz.prog 22 #[.string ⟨#[63,97,116]⟩] (w2.alloc (.cells #[.string ⟨#[100,111,103]⟩,.int .i64 7] 29)) fun e w'=>∃a c,e=.returned (.tuple #[.slice a d.length c,.int .i64 0])∧StS (fun _=>True) w' (.slice a d.length c) d∧Below w2.heap.size w2 w'∧RowT 29 w' w2.heap.size #[.string ⟨#[100,111,103]⟩,.int .i64 7]):=fun w2 hb=>by
  have hb1:Below w2.heap.size w2 (w2.alloc (.cells #[.string ⟨#[100,111,103]⟩,.int .i64 7] 29)):=(Below.refl _ _).alloc (Nat.le_refl _) _
  have r1:RowT 29 (w2.alloc (.cells #[.string ⟨#[100,111,103]⟩,.int .i64 7] 29)) w2.heap.size #[.string ⟨#[100,111,103]⟩,.int .i64 7]:=Go.Deep.blk_alloc_new _ _
  refine (wild_at _ (hT.below (hb.trans (hb1.mono hb.size))) te tl).mono ?_
  rintro e w' ⟨v,rfl,hs,hb2⟩
  have hs2:StS (fun _=>True) w' v d:=hs.sts.wide fun _ _ _=>trivial
  obtain ⟨a,c,rfl,_⟩:=hs.sts
  exact ⟨a,c,rfl,hs2,hb1.trans (hb2.mono hb1.size),r1.keep (hb2.block _ r1.lt)⟩
 have HMA:Hid (∀W p v,Dt W (.pointer p) Wk.catL→StS (fun _=>True) W v d→Calls Tryz.prog 14 #[.pointer p,v,.int .i64 9] W fun e w'=>∃g c,e=.returned (.tuple #[.slice (some ⟨g,0,none⟩) 2 c,.bool false])∧(w'.cell? ⟨g,2,none⟩=some (.string ⟨#[104,97,116]⟩)∧w'.cell? ⟨g,3,none⟩=some (.int .i64 3))∧Below W.heap.size W w'):=fun W p v h1 h2=>by
  have hq:=match_any W _ v Wk.catL d 9 h1 h2
  rw [hmat] at hq
  refine hq.mono ?_
  rintro e w' ⟨v',rfl,ho,hb⟩
  have hens:=ho.ens
  rcases ho.2 with ⟨_,h0⟩ | ⟨g3,cap3,_,rfl,_⟩
  ·exact absurd h0 (by decide)
  ·obtain ⟨a,c,q,_,_,hc⟩:=hens
   obtain ⟨g,o,rfl,hg,hcell⟩:=hc (by decide)
   have q1:=(Value.slice.inj q).1
   simp only [Option.some.injEq,Addr.mk.injEq,and_true] at q1
   obtain ⟨rfl,rfl⟩:=q1
   exact ⟨g3,cap3,rfl,hcell 1 (by decide),hb⟩
 clear te tl e1 e2 e3 hmat hT
 go_enter Tryz.func8,Tryz.ntmps8
 go_wp2_with (first | (go_at_call 7;go_loud ((refine HOP.out.mono ?_;rintro e1 w1 ⟨db,rfl,hd1,hb1⟩;have HD1:=lh hd1;have HB1:=lh hb1;clear hd1 hb1))) | (go_at_call 12;go_loud ((refine (HCE.out w1 _ HD1.out).mono ?_;rintro e2 w2 ⟨rfl,hb2⟩;have HD2:=lh (HD1.out.below hb2);have HB2:=lh (HB1.out.trans (hb2.mono HB1.out.size));clear hb2))) | (go_at_call 22;go_loud ((refine (HWI.out w2 HB2.out).mono ?_;rintro e3 w3 ⟨a3,c3,rfl,hs3,hb3,hr3⟩;have HD3:=lh (HD2.out.below hb3);have HB3:=lh (HB2.out.trans (hb3.mono HB2.out.size));have HS3:=lh hs3;have HR3:=lh hr3;clear hs3 hb3 hr3))) | (go_at_call 14;go_loud ((refine (HMA.out w3 _ _ HD3.out HS3.out).mono ?_;rintro e4 w4 ⟨g4,c4,rfl,⟨m2,m3⟩,hb4⟩;have hr4:=HR3.out.keep (hb4.block _ HR3.out.lt);have x0:=hr4.cell 0;have x1:=hr4.cell 1;have HB4:=lh (HB3.out.trans (hb4.mono HB3.out.size));clear hb4 hr4))))
 go_ret
 exact ⟨rfl,HB4.out⟩
end F12
namespace F12
open Go.RowKit Go.Maps
theorem sameS_any (w:World) (u v:Value) (xs ys:List Fs.En) (hu:EnS w u xs) (hv:EnS w v ys):
  Calls Tryz.prog 13 #[u,v] w fun e' w'=>e'=.returned (.bool (decide (xs=ys)))∧Below w.heap.size w w':=by
 have H:=lh (same_any w u v xs ys hu hv)
 obtain ⟨a,c,rfl,-⟩:=hu
 obtain ⟨a',c',rfl,-⟩:=hv
 go_enter Tryz.func13,Tryz.ntmps13
 go_wp2_with (go_at_call 28;refine H.out.mono ?_;rintro e1 w1 ⟨rfl,hb1⟩;have HB1:=lh hb1;clear hb1)
 go_ret
 exact ⟨rfl,HB1.out⟩
namespace Wk
end Wk
theorem openL_yes {w w1:World} {v:Value} {l:List Fs.En} (h:Calls Tryz.prog 7 #[v] w fun e w'=>∃dv,e=.returned dv∧Below w1.heap.size w1 w'∧((Fs.fitO l=true∧∃db,dv=.pointer (some ⟨db,0,none⟩)∧Dt w' dv l)∨(Fs.fitO l=false∧dv=.pointer none))) (hf:Fs.fitO l=true):
  Calls Tryz.prog 7 #[v] w fun e w'=>∃db,e=.returned (.pointer (some ⟨db,0,none⟩))∧Below w1.heap.size w1 w'∧Dt w' (.pointer (some ⟨db,0,none⟩)) l:=by
 refine h.mono ?_
 rintro e w' ⟨dv,rfl,h1,⟨_,db,rfl,h3⟩ | ⟨h2,_⟩⟩
 ·exact ⟨db,rfl,h1,h3⟩
 ·rw [hf] at h2
  cases h2
end F12
namespace F12
open Go.RowKit Go.Maps
namespace Wk
end Wk
theorem EnS.part {w:World} {a:Option Addr} {c:Nat} {l:List Fs.En} (k:Nat) (hk:k≤l.length) (h:EnS w (.slice a l.length c) l):EnS w (.slice a (l.take k).length c) (l.take k):=by
 obtain ⟨a',c',q,h1,h2,h3⟩:=h
 obtain ⟨q1,_,q3⟩:=Value.slice.inj q
 subst q1 q3
 have hl:(l.take k).length=k:=by rw [List.length_take];omega
 refine ⟨a,c,rfl,by omega,h2,fun h0=>?_⟩
 obtain ⟨g,o,h4,h5,h6⟩:=h3 (by omega)
 refine ⟨g,o,h4,h5,fun i hi=>?_⟩
 have:=h6 i (by omega)
 rw [List.getElem_take]
 exact this
end F12
namespace F12
open Go.RowKit Go.Maps
namespace Wk
def inn (x:Fs.En) (Y:List Fs.En):List Fs.En:=Y.filter fun y=>decide (x=y)
def met (X Y:List Fs.En):List Fs.En:=X.flatMap fun x=>inn x Y
theorem inn_few (x:Fs.En) (Y:List Fs.En):(inn x Y).length≤Y.length:=List.length_filter_le _ _
theorem met_few (X Y:List Fs.En):(met X Y).length≤X.length*Y.length:=by
 induction X with
 | nil=>exact Nat.zero_le _
 | cons x X ih=>
  show (inn x Y++met X Y).length≤_
  rw [List.length_append,List.length_cons,Nat.succ_mul]
  have:=inn_few x Y
  omega
theorem met_snoc (X Y:List Fs.En) (x:Fs.En):met (X++[x]) Y=met X Y++inn x Y:=by
 unfold met
 rw [List.flatMap_append]
 simp
theorem inn_snoc (x y:Fs.En) (Y:List Fs.En):inn x (Y++[y])=inn x Y++if x=y then [y] else []:=by
 unfold inn
 rw [List.filter_append]
 congr 1
 by_cases e:x=y
 ·rw [if_pos e,List.filter_cons_of_pos (by simpa using e)]
  rfl
 ·rw [if_neg e,List.filter_cons_of_neg (by simpa using e)]
  rfl
theorem inn_nodup {Y:List Fs.En} (h:Y.Nodup) (x:Fs.En):inn x Y=if x∈Y then [x] else []:=by
 induction Y with
 | nil=>rfl
 | cons y Y ih=>
  obtain ⟨h1,h2⟩:=List.nodup_cons.1 h
  unfold inn at ih ⊢
  by_cases e:x=y
  ·subst e
   rw [List.filter_cons_of_pos (by simp),ih h2,if_neg h1,if_pos (by simp)]
  ·rw [List.filter_cons_of_neg (by simpa using e),ih h2]
   by_cases q:x∈Y
   ·rw [if_pos q,if_pos (by simp [q])]
   ·rw [if_neg q,if_neg (by simp [q,e])]
theorem rise_nodup {l:List Fs.En} (h:Fs.Rise l):l.Nodup:=by
 unfold Fs.Rise at h
 refine h.imp fun {a b} hab e=>?_
 subst e
 rw [Fs.lt_irrefl] at hab
 cases hab
theorem met_mat {l:List Fs.En} (hl:l.Nodup) {a b c:List Au.St} (hc:∀s,Au.takesL c s=(Au.takesL a s&&Au.takesL b s)):met (mat l a) (mat l b)=mat l c:=by
 have hb:(mat l b).Nodup:=hl.filter _
 have hm:∀x,x∈mat l b↔x∈l∧Au.takesL b x.1=true:=fun x=>List.mem_filter
 have key:∀k:List Fs.En,(∀x∈k,x∈l)→met (mat k a) (mat l b)=mat k c:=by
  intro k
  induction k with
  | nil=>intro _;rfl
  | cons x k ih=>
   intro hk
   have ih:=ih fun y hy=>hk y (List.mem_cons_of_mem _ hy)
   have hx:=hk x (by simp)
   by_cases ha:Au.takesL a x.1=true
   ·have e1:mat (x :: k) a=x :: mat k a:=List.filter_cons_of_pos (by exact ha)
    rw [e1]
    show inn x (mat l b)++met (mat k a) (mat l b)=_
    rw [ih,inn_nodup hb]
    by_cases hbx:Au.takesL b x.1=true
    ·have e2:mat (x :: k) c=x :: mat k c:=List.filter_cons_of_pos (by rw [hc,ha,hbx];rfl)
     rw [if_pos ((hm x).2 ⟨hx,hbx⟩),e2]
     rfl
    ·have e2:mat (x :: k) c=mat k c:=List.filter_cons_of_neg (by rw [hc,ha];simpa using hbx)
     rw [if_neg (fun q=>hbx ((hm x).1 q).2),e2]
     rfl
   ·have e1:mat (x :: k) a=mat k a:=List.filter_cons_of_neg (by exact ha)
    have e2:mat (x :: k) c=mat k c:=List.filter_cons_of_neg (by
     have ha2:Au.takesL a x.1=false:=by simpa using ha
     rw [hc,ha2]
     simp)
    rw [e1,e2]
    exact ih
 exact key l fun _ h=>h
end Wk
theorem bothW_any (w:World) (u v:Value) (a b:List Au.St) (hu:StS (fun _=>True) w u a) (hv:StS (fun _=>True) w v b) (ha:a.length≤20) (hb:b.length≤20):
  Calls Tryz.prog 16 #[u,v,.int .i64 20000] w fun e w'=>∃r c,Below w.heap.size w w'∧((Au.Fits a∧Au.Fits b∧e=.returned (.tuple #[r,.int .i64 0])∧StS (fun _=>True) w' r c∧∀s,Au.takesL c s=(Au.takesL a s&&Au.takesL b s))∨(¬(Au.check a=0∧Au.check b=0)∧e=.returned (.tuple #[r,.int .i64 3])∧c=[]∧∃x y z,r=.slice x y z)):=by
 have hs:a.length*b.length≤20000:=by
  have:=Nat.mul_le_mul ha hb
  omega
 have hq:=bothP_any _ _ w u v a b 20000 hu hv hs
 by_cases hf:Au.Fits a∧Au.Fits b
 ·obtain ⟨fa,fb⟩:=hf
  have hp:(Au.pairs a b:Int)≤20000:=by
   have:=Au.pair_few fa.row fb.row fa.pos fb.pos (a.length*b.length)
   unfold Au.pairs
   omega
  obtain ⟨e1,e2⟩:=Au.both_out_few (most:=20000) ⟨(Au.check_iff a).2 fa,(Au.check_iff b).2 fb⟩ hp
  rw [e1,e2] at hq
  have hfm:Au.Fits (Au.meets a b):=by
   obtain ⟨r1,r2⟩:=Au.meets_rows fa fb
   have r3:=Au.meets_len a b
   exact ⟨r1,by omega,r2⟩
  have hfl:=Au.least_fits hfm
  refine hq.mono ?_
  rintro e w' ⟨r,rfl,h1,h2⟩
  refine ⟨r,Au.least (Au.meets a b),h2,.inl ⟨fa,fb,rfl,h1.wide fun _ _ _=>trivial,fun s=>?_⟩⟩
  rw [Au.takesL_of hfl,Au.takesL_of fa,Au.takesL_of fb]
  exact Au.both_takes fa fb _
 ·have hck:¬(Au.check a=0∧Au.check b=0):=fun q=>hf ⟨(Au.check_iff a).1 q.1,(Au.check_iff b).1 q.2⟩
  have e1:Au.bothE a b 20000=3:=by unfold Au.bothE;rw [if_neg hck]
  rw [e1] at hq
  refine hq.mono ?_
  rintro e w' ⟨r,rfl,h1,h2⟩
  obtain ⟨x,z,rfl,_⟩:=h1
  exact ⟨_,[],h2,.inr ⟨hck,rfl,rfl,_,_,_,rfl⟩⟩
end F12
namespace F12
open Go.RowKit Go.Maps
theorem max_nat2 (a:Int):max a 0=((a.toNat:Nat):Int):=by omega
theorem nodup_fit {l:List Fs.En} (h:Fs.fitO l=true):l.Nodup:=Wk.rise_nodup (Fs.right_ok (Fs.fitO_iff.1 h).2.2).rise
theorem meets_walk (w:World) (v ua ub:Value) (l:List Fs.En) (a b:List Au.St) (most:Int) (h:EnS w v l) (hb:∀e∈l,e.1.length≤140737488355328) (hm:∀e∈l,e.2≤9223372036854775807) (hva:StS (fun _=>True) w ua a) (hvb:StS (fun _=>True) w ub b) (hT:Tabs w):
  Calls Tryz.prog 5 #[v,ua,ub,.int .i64 most] w fun e w'=>e=.returned (.bool true)∧Below w.heap.size w w':=by
 have hop:=openL_any w v l h hb hm
 have HAW:Hid (∀W,Below w.heap.size w W→Calls Tryz.prog 8 #[] W fun e w'=>e=.returned (.bool true)∧Below W.heap.size W w'):=fun W hb=>awake_any W (hT.below hb)
 by_cases hgo:Fs.fitO l=true∧a.length≤20∧b.length≤20
 rotate_left
 ·have HOP:Hid (Calls Tryz.prog 7 #[v] w fun e w'=>∃p:Option Addr,e=.returned (.pointer p)∧Below w.heap.size w w'∧(p=none∨20<a.length∨20<b.length)):=hop.mono fun e w' ⟨dv,h1,h2,h3⟩=>by
   rcases h3 with ⟨q,db,rfl,_⟩ | ⟨_,rfl⟩
   ·refine ⟨_,h1,h2,.inr ?_⟩
    by_cases q1:a.length≤20
    ·by_cases q2:b.length≤20
     ·exact absurd ⟨q,q1,q2⟩ hgo
     ·right;omega
    ·left;omega
   ·exact ⟨_,h1,h2,.inl rfl⟩
  obtain ⟨x0,y0,rfl,-⟩:=h
  obtain ⟨x1,y1,rfl,-⟩:=hva
  obtain ⟨x2,y2,rfl,-⟩:=hvb
  clear hop hT hb hm hgo
  generalize a.length=la at *
  generalize b.length=lb at *
  have HFIN:Hid (∀w2,Below w.heap.size w w2→Calls Tryz.prog 8 #[] w2 fun e w'=>e=.returned (.bool true)∧Below w.heap.size w w'):=fun w2 hb=>(HAW.out w2 hb).mono fun e w' ⟨h1,h2⟩=>⟨h1,hb.trans (h2.mono hb.size)⟩
  go_enter Tryz.func5,Tryz.ntmps5
  go_upto_region 2 with (go_at_call 7;go_loud ((refine HOP.out.mono ?_;rintro e1 w1 ⟨p,rfl,hb1,hc⟩;have HB1:=lh hb1;have HC1:=lh hc;clear hb1 hc)))
  rcases HC1.out with rfl | hbig | hbig
  ·go_upto_region 3 with (go_at_call 8;go_loud ((refine (HFIN.out w1 HB1.out).mono ?_;rintro e2 w2 ⟨rfl,hb2⟩;have HB2:=lh hb2;clear hb2)))
   go_wp2_with (go_at_call 8;go_loud ((refine (HFIN.out w2 HB2.out).mono ?_;rintro e3 w3 ⟨rfl,hb3⟩;have HB3:=lh hb3;clear hb3)))
   go_ret
   exact ⟨rfl,HB3.out⟩
  ·have i1:(20:Int)<(la:Int):=by omega
   cases p with
   | none=>
    go_upto_region 3 with (go_at_call 8;go_loud ((refine (HFIN.out w1 HB1.out).mono ?_;rintro e2 w2 ⟨rfl,hb2⟩;have HB2:=lh hb2;clear hb2)))
    go_wp2_with (go_at_call 8;go_loud ((refine (HFIN.out w2 HB2.out).mono ?_;rintro e3 w3 ⟨rfl,hb3⟩;have HB3:=lh hb3;clear hb3)))
    go_ret
    exact ⟨rfl,HB3.out⟩
   | some p=>
    go_upto_region 3 with (go_at_call 8;go_loud ((refine (HFIN.out w1 HB1.out).mono ?_;rintro e2 w2 ⟨rfl,hb2⟩;have HB2:=lh hb2;clear hb2)))
    go_wp2_with (go_at_call 8;go_loud ((refine (HFIN.out w2 HB2.out).mono ?_;rintro e3 w3 ⟨rfl,hb3⟩;have HB3:=lh hb3;clear hb3)))
    go_ret
    exact ⟨rfl,HB3.out⟩
  ·have i1:(20:Int)<(lb:Int):=by omega
   cases p with
   | none=>
    go_upto_region 3 with (go_at_call 8;go_loud ((refine (HFIN.out w1 HB1.out).mono ?_;rintro e2 w2 ⟨rfl,hb2⟩;have HB2:=lh hb2;clear hb2)))
    go_wp2_with (go_at_call 8;go_loud ((refine (HFIN.out w2 HB2.out).mono ?_;rintro e3 w3 ⟨rfl,hb3⟩;have HB3:=lh hb3;clear hb3)))
    go_ret
    exact ⟨rfl,HB3.out⟩
   | some p=>
    by_cases hla:20<la
    ·have i2:(20:Int)<(la:Int):=by omega
     go_upto_region 3 with (go_at_call 8;go_loud ((refine (HFIN.out w1 HB1.out).mono ?_;rintro e2 w2 ⟨rfl,hb2⟩;have HB2:=lh hb2;clear hb2)))
     go_wp2_with (go_at_call 8;go_loud ((refine (HFIN.out w2 HB2.out).mono ?_;rintro e3 w3 ⟨rfl,hb3⟩;have HB3:=lh hb3;clear hb3)))
     go_ret
     exact ⟨rfl,HB3.out⟩
    ·have i2:¬(20:Int)<(la:Int):=by omega
     go_upto_region 3 with (go_at_call 8;go_loud ((refine (HFIN.out w1 HB1.out).mono ?_;rintro e2 w2 ⟨rfl,hb2⟩;have HB2:=lh hb2;clear hb2)))
     go_wp2_with (go_at_call 8;go_loud ((refine (HFIN.out w2 HB2.out).mono ?_;rintro e3 w3 ⟨rfl,hb3⟩;have HB3:=lh hb3;clear hb3)))
     go_ret
     exact ⟨rfl,HB3.out⟩
 ·obtain ⟨hfit,hla,hlb⟩:=hgo
  have HOP:=lh (openL_yes hop hfit)
  have HBO:Hid (∀W,Below w.heap.size w W→_):=fun W hbw=>bothW_any W ua ub a b (hva.below hbw) (hvb.below hbw) hla hlb
  have HCA:Hid (∀W,Below w.heap.size w W→Calls Tryz.prog 17 #[ua] W fun e w'=>e=.returned (.int .i64 (Au.check a))∧Below W.heap.size W w'):=fun W hbw=>checkR_any _ W ua a (hva.below hbw)
  have HCB:Hid (∀W,Below w.heap.size w W→Calls Tryz.prog 17 #[ub] W fun e w'=>e=.returned (.int .i64 (Au.check b))∧Below W.heap.size W w'):=fun W hbw=>checkR_any _ W ub b (hvb.below hbw)
  have HMA:Hid (∀W p (u:Value) (d:List Au.St) (m:Int),Dt W (.pointer p) l→StS (fun _=>True) W u d→Calls Tryz.prog 14 #[.pointer p,u,.int .i64 m] W fun e w'=>∃v,e=.returned (.tuple #[v,.bool (decide (m.toNat<(Wk.mat l d).length))])∧OwnE w' W.heap.size v ((Wk.mat l d).take m.toNat)∧Below W.heap.size W w'):=fun W p u d m hd hs=>match_any W _ u l d m hd hs
  have HVA:Hid (∀W,Below w.heap.size w W→StS (fun _=>True) W ua a):=fun W hb=>hva.below hb
  have HVB:Hid (∀W,Below w.heap.size w W→StS (fun _=>True) W ub b):=fun W hb=>hvb.below hb
  have HND:=lh (nodup_fit hfit)
  have HL:Hid (l.length≤120):=(Fs.fitO_iff.1 hfit).1
  have HAL:Hid (∀d,(Wk.mat l d).take (1000:Int).toNat=Wk.mat l d):=fun d=>List.take_of_length_le (by
   have h1:(Wk.mat l d).length≤l.length:=List.length_filter_le _ _
   have h2:=HL.out
   show _≤1000
   omega)
  obtain ⟨x0,y0,rfl,-⟩:=h
  obtain ⟨x1,y1,rfl,-⟩:=hva
  obtain ⟨x2,y2,rfl,-⟩:=hvb
  have i1:¬(20:Int)<(a.length:Int):=by omega
  have i2:¬(20:Int)<(b.length:Int):=by omega
  have j1:decide ((20:Int)<(a.length:Int))=false:=decide_eq_false i1
  have j2:decide ((20:Int)<(b.length:Int))=false:=decide_eq_false i2
  clear hop hT hb hm hfit hla hlb
  go_enter Tryz.func5,Tryz.ntmps5
  go_upto_region 2 with (go_at_call 7;go_loud ((refine HOP.out.mono ?_;rintro e1 w1 ⟨db,rfl,hb1,hd1⟩;have HB1:=lh hb1;have HD1:=lh hd1;clear hb1 hd1)))
  go_upto_region 4 with (go_at_call 8;go_loud ((refine (HAW.out w1 HB1.out).mono ?_;rintro e2 w2 ⟨rfl,hb2⟩;have HB2:=lh (HB1.out.trans (hb2.mono HB1.out.size));have HD2:=lh (HD1.out.below hb2);clear hb2)))
  by_cases hck:Au.check a=0∧Au.check b=0
  rotate_left
  ·have HBN:Hid (∀W,Below w.heap.size w W→Calls Tryz.prog 16 #[.slice x1 a.length y1,.slice x2 b.length y2,.int .i64 20000] W fun e w'=>∃x y z,e=.returned (.tuple #[.slice x y z,.int .i64 3])∧Below W.heap.size W w'):=fun W hb=>(HBO.out W hb).mono fun e w' ⟨r,c,h1,h2⟩=>by
    rcases h2 with ⟨fa,fb,_⟩ | ⟨_,rfl,_,x,y,z,rfl⟩
    ·exact absurd ⟨(Au.check_iff a).2 fa,(Au.check_iff b).2 fb⟩ hck
    ·exact ⟨x,y,z,rfl,h1⟩
   clear HBO
   by_cases hca:Au.check a=0
   ·have hcb:(Au.check b==0)=false:=by rw [beq_eq_false_iff_ne];exact fun q=>hck ⟨hca,q⟩
    have hcb2:¬Au.check b=0:=fun q=>hck ⟨hca,q⟩
    rw [hca] at HCA
    clear hck hca
    generalize Au.check b=E at *
    go_wp2_with (first | (go_at_call 16;go_loud ((refine (HBN.out w2 HB2.out).mono ?_;rintro e3 w3 ⟨x3,y3,z3,rfl,hb3⟩;have HB3:=lh (HB2.out.trans (hb3.mono HB2.out.size));clear hb3))) | (go_at_call 17;go_loud ((refine (HCB.out w4 HB4.out).mono ?_;rintro e5 w5 ⟨rfl,hb5⟩;have HB5:=lh (HB4.out.trans (hb5.mono HB4.out.size));clear hb5))) | (go_at_call 17;go_loud ((refine (HCA.out w3 HB3.out).mono ?_;rintro e4 w4 ⟨rfl,hb4⟩;have HB4:=lh (HB3.out.trans (hb4.mono HB3.out.size));clear hb4))))
    go_ret
    exact ⟨by first | rfl | exact congrArg (fun b=>Ending.returned (.bool b)) (bne_iff_ne.2 hcb2),HB5.out⟩
   ·have hca1:(Au.check a==0)=false:=by rw [beq_eq_false_iff_ne];exact hca
    clear hck HCB
    generalize Au.check a=E at *
    go_wp2_with (first | (go_at_call 16;go_loud ((refine (HBN.out w2 HB2.out).mono ?_;rintro e3 w3 ⟨x3,y3,z3,rfl,hb3⟩;have HB3:=lh (HB2.out.trans (hb3.mono HB2.out.size));clear hb3))) | (go_at_call 17;go_loud ((refine (HCA.out w3 HB3.out).mono ?_;rintro e4 w4 ⟨rfl,hb4⟩;have HB4:=lh (HB3.out.trans (hb4.mono HB3.out.size));clear hb4))))
    go_ret
    exact ⟨by first | rfl | exact congrArg (fun b=>Ending.returned (.bool b)) (bne_iff_ne.2 hca),HB4.out⟩
  ·have HBY:Hid (∀W,Below w.heap.size w W→Calls Tryz.prog 16 #[.slice x1 a.length y1,.slice x2 b.length y2,.int .i64 20000] W fun e w'=>∃x y z c,e=.returned (.tuple #[.slice x y z,.int .i64 0])∧StS (fun _=>True) w' (.slice x y z) c∧(∀s,Au.takesL c s=(Au.takesL a s&&Au.takesL b s))∧Below W.heap.size W w'):=fun W hb=>(HBO.out W hb).mono fun e w' ⟨r,c,h1,h2⟩=>by
    rcases h2 with ⟨_,_,rfl,h3,h4⟩ | ⟨q,_⟩
    ·obtain ⟨x,z,rfl,_⟩:=id h3
     exact ⟨_,_,_,c,rfl,h3,h4,h1⟩
    ·exact absurd hck q
   clear HBO HCA HCB hck
   go_upto_region 7 with (go_at_call 16;go_loud ((refine (HBY.out w2 HB2.out).mono ?_;rintro e3 w3 ⟨x3,y3,z3,cd,rfl,hs3,hc3,hb3⟩;have HS3:=lh hs3;have HC3:=lh hc3;have HB3:=lh (HB2.out.trans (hb3.mono HB2.out.size));have HD3:=lh (HD2.out.below hb3);clear hs3 hc3 hb3)))
   have hM1:=HMA.out w3 _ _ a 1000 HD3.out (HVA.out w3 HB3.out)
   rw [HAL.out] at hM1
   have HM1:=lh hM1
   clear hM1
   go_upto_region 8 with (go_at_call 14;go_loud ((refine HM1.out.mono ?_;rintro e4 w4 ⟨v4,rfl,ho4,hb4⟩;obtain ⟨a4,c4,rfl⟩:=ho4.form;have HO4:=lh ho4;have HS4:=lh (HS3.out.below hb4);have HB4:=lh (HB3.out.trans (hb4.mono HB3.out.size));have HD4:=lh (HD3.out.below hb4);clear ho4 hb4)))
   have hM2:=HMA.out w4 _ _ b 1000 HD4.out (HVB.out w4 HB4.out)
   rw [HAL.out] at hM2
   have HM2:=lh hM2
   clear hM2
   go_upto_region 9 with (go_at_call 14;go_loud ((refine HM2.out.mono ?_;rintro e5 w5 ⟨v5,rfl,ho5,hb5⟩;obtain ⟨a5,c5,rfl⟩:=ho5.form;have HX5:=lh (HO4.out.ens.below hb5 (Nat.le_refl _));have HO5:=lh ho5;have HS5:=lh (HS4.out.below hb5);have HB5:=lh (HB4.out.trans (hb5.mono HB4.out.size));have HD5:=lh (HD4.out.below hb5);clear ho5 hb5)))
   have hM3:=HMA.out w5 _ _ cd 1000 HD5.out HS5.out
   rw [HAL.out] at hM3
   have HM3:=lh hM3
   clear hM3
   go_upto_region 10 with (go_at_call 14;go_loud ((refine HM3.out.mono ?_;rintro e6 w6 ⟨v6,rfl,ho6,hb6⟩;obtain ⟨a6,c6,rfl⟩:=ho6.form;have HX6:=lh (HX5.out.below hb6 (Nat.le_refl _));have HY6:=lh (HO5.out.ens.below hb6 (Nat.le_refl _));have HZ6:=lh ho6.ens;have HB6:=lh (HB5.out.trans (hb6.mono HB5.out.size));have HD6:=lh (HD5.out.below hb6);clear ho6 hb6)))
   have HMM:Hid (Wk.met (Wk.mat l a) (Wk.mat l b)=Wk.mat l cd):=Wk.met_mat HND.out HC3.out
   have hx1:(Wk.mat l a).length≤120:=Nat.le_trans (List.length_filter_le _ _) HL.out
   have hx2:(Wk.mat l b).length≤120:=Nat.le_trans (List.length_filter_le _ _) HL.out
   clear HM1 HM2 HM3 HAL HO4 HO5 HS3 HS4 HS5 HC3 HVB HBY HND HL
   obtain ⟨X,hX⟩:∃X,X=Wk.mat l a:=⟨_,rfl⟩
   obtain ⟨Y,hY⟩:∃Y,Y=Wk.mat l b:=⟨_,rfl⟩
   obtain ⟨Z,hZ⟩:∃Z,Z=Wk.mat l cd:=⟨_,rfl⟩
   have HMA2:Hid (∀W,Below w.heap.size w W→Dt W (.pointer (some ⟨db,0,none⟩)) l→Calls Tryz.prog 14 #[.pointer (some ⟨db,0,none⟩),.slice x1 a.length y1,.int .i64 most] W fun e w'=>∃v,e=.returned (.tuple #[v,.bool (decide (most.toNat<X.length))])∧OwnE w' W.heap.size v (X.take most.toNat)∧Below W.heap.size W w'):=fun W hb hd=>by
    rw [hX]
    exact HMA.out W _ _ a most hd (HVA.out W hb)
   rw [←hX] at HX6 hx1 HMM ⊢
   rw [←hY] at HY6 hx2 HMM ⊢
   rw [←hZ] at HZ6 HMM ⊢
   clear HMA HVA hX hY hZ
   obtain ⟨nx,hnx⟩:∃nx,nx=X.length:=⟨_,rfl⟩
   obtain ⟨ny,hny⟩:∃ny,ny=Y.length:=⟨_,rfl⟩
   have HNX:=lh hnx
   have HNY:=lh hny
   have HXC:Hid (∀W,Below w6.heap.size w6 W→∀i (h:i<X.length),∃g o,a4=some ⟨g,o,none⟩∧W.cell? ⟨g,o+i*2,none⟩=some (.string (bs X[i].1))∧W.cell? ⟨g,o+i*2+1,none⟩=some (.int .i64 X[i].2)):=fun W hb i hi=>by
    obtain ⟨a',c',q,_,_,hc⟩:=HX6.out.below hb (Nat.le_refl _)
    obtain ⟨g,o,q2,_,hcell⟩:=hc (by omega)
    exact ⟨g,o,(Value.slice.inj q).1.trans q2,hcell i hi⟩
   have HYC:Hid (∀W,Below w6.heap.size w6 W→∀i (h:i<Y.length),∃g o,a5=some ⟨g,o,none⟩∧W.cell? ⟨g,o+i*2,none⟩=some (.string (bs Y[i].1))∧W.cell? ⟨g,o+i*2+1,none⟩=some (.int .i64 Y[i].2)):=fun W hb i hi=>by
    obtain ⟨a',c',q,_,_,hc⟩:=HY6.out.below hb (Nat.le_refl _)
    obtain ⟨g,o,q2,_,hcell⟩:=hc (by omega)
    exact ⟨g,o,(Value.slice.inj q).1.trans q2,hcell i hi⟩
   rw [←hnx] at hx1 ⊢
   rw [←hny] at hx2 ⊢
   clear hnx hny
   obtain ⟨ii,hi,hz0,hz1,hz2⟩:=info_parts Tryz.infoE
   generalize decide ((1000:Int).toNat<nx)=q1 at *
   generalize decide ((1000:Int).toNat<ny)=q2 at *
   generalize decide ((1000:Int).toNat<Z.length)=q3 at *
   go_wp2_with fail
   go_loopg [18,19] nx (fun gg s18 s19 wx=>∃i:Nat,i≤nx∧gg=nx-i∧s19=.int .i64 (i:Int)∧Hid (OwnE wx w6.heap.size s18 (Wk.met (X.take i) Y))∧Hid (Below w6.heap.size w6 wx))
   case atStart=>exact ⟨0,Nat.zero_le _,rfl,rfl,ownE_nil _ _,Below.refl _ _⟩
   case round=>
    obtain ⟨i,hin,rfl,rfl,hown,hbel⟩:=hrel
    by_cases hinx:i<nx
    ·have i3:(i:Int)<(nx:Int):=by omega
     have ix:i<X.length:=by rw [←HNX.out];exact hinx
     obtain ⟨g4,o4,rfl,-⟩:=HXC.out wr hbel.out i ix
     have hmf:(Wk.met (X.take i) Y).length≤14400:=by
      refine Nat.le_trans (Wk.met_few _ _) ?_
      have h1:(X.take i).length≤120:=by rw [List.length_take];omega
      have h2:Y.length≤120:=by rw [←HNY.out];exact hx2
      exact Nat.le_trans (Nat.mul_le_mul h1 h2) (by decide)
     have HST:Hid (Wk.met (X.take (i+1)) Y=Wk.met (X.take i) Y++Wk.inn X[i] Y):=by
      show _=_
      rw [List.take_succ_eq_append_getElem ix,Wk.met_snoc]
     have HXI:Hid (∀W,Below w6.heap.size w6 W→W.cell? ⟨g4,o4+i*2,none⟩=some (.string (bs X[i].1))∧W.cell? ⟨g4,o4+i*2+1,none⟩=some (.int .i64 X[i].2)):=fun W hb=>by
      obtain ⟨g,o,q,h1⟩:=HXC.out W hb i ix
      simp only [Option.some.injEq,Addr.mk.injEq,and_true] at q
      obtain ⟨rfl,rfl⟩:=q
      exact h1
     obtain ⟨acc,hacc⟩:∃acc,acc=Wk.met (X.take i) Y:=⟨_,rfl⟩
     rw [←hacc] at hown hmf HST
     obtain ⟨x,hx⟩:∃x,x=X[i]:=⟨_,rfl⟩
     rw [←hx] at HST HXI
     have HO:=hown
     have HBE:=hbel
     clear hacc hx hown hbel
     go_wp2_with fail
     go_loopg [18,20] ny (fun g2 s18 s20 wy=>∃k:Nat,k≤ny∧g2=ny-k∧s20=.int .i64 (k:Int)∧Hid (OwnE wy w6.heap.size s18 (acc++Wk.inn x (Y.take k)))∧Hid (Below w6.heap.size w6 wy))
     case atStart=>exact ⟨0,Nat.zero_le _,rfl,rfl,by rw [List.take_zero];show OwnE _ _ _ (acc++[]);rw [List.append_nil];exact HO.out,HBE⟩
     case round=>
      clear HO HBE
      obtain ⟨k,hkn,rfl,rfl,hown,hbel⟩:=hrel
      by_cases hknx:k<ny
      ·have i4:(k:Int)<(ny:Int):=by omega
       have kx:k<Y.length:=by rw [←HNY.out];exact hknx
       obtain ⟨g5,o5,rfl,d1,d2⟩:=HYC.out _ hbel.out k kx
       obtain ⟨c1,c2⟩:=HXI.out _ hbel.out
       have hif:(Wk.inn x (Y.take k)).length≤120:=by
        refine Nat.le_trans (Wk.inn_few _ _) ?_
        rw [List.length_take]
        omega
       have HIS:Hid (Wk.inn x (Y.take (k+1))=Wk.inn x (Y.take k)++if x=Y[k] then [Y[k]] else []):=by
        show _=_
        rw [List.take_succ_eq_append_getElem kx,Wk.inn_snoc]
       obtain ⟨yy,hyy⟩:∃yy,yy=Y[k]:=⟨_,rfl⟩
       rw [←hyy] at d1 d2 HIS
       clear hyy
       have hal:(acc++Wk.inn x (Y.take k)).length≤14520:=by rw [List.length_append];omega
       obtain ⟨A,hA⟩:∃A,A=acc++Wk.inn x (Y.take k):=⟨_,rfl⟩
       have HIA:Hid (acc++Wk.inn x (Y.take (k+1))=A++if x=yy then [yy] else []):=by
        show _=_
        rw [HIS.out,hA,List.append_assoc]
       rw [←hA] at hown hal
       have hown2:=hown.out
       have hbel2:=hbel.out
       obtain ⟨a7,c7,hv7⟩:=hown2.form
       subst hv7
       have HN:Hid (∀n,OwnE (wr.drewN n) w6.heap.size (.slice a7 A.length c7) A∧w6.heap.size≤(wr.drewN n).heap.size∧Below w6.heap.size w6 (wr.drewN n)∧(wr.drewN n).cell? ⟨g4,o4+i*2,none⟩=some (.string (bs x.1))∧(wr.drewN n).cell? ⟨g4,o4+i*2+1,none⟩=some (.int .i64 x.2)):=fun n=>⟨ownsRow_keep hown2 fun _ _=>rfl,hbel2.size,belowN hbel2 n,c1,c2⟩
       clear hA hown hown2 hbel hbel2 HIS
       by_cases he:x=yy
       ·have HR:Hid (acc++Wk.inn x (Y.take (k+1))=A++[x]):=by show _=_;rw [HIA.out,if_pos he,he]
        subst he
        obtain ⟨t0,x0⟩:=x
        dsimp only at c1 c2 d1 d2 HN
        clear HIA
        go_wp2_with fail
        go_quiet (fail)
        obtain ⟨k1,k2,k3,k4,k5⟩:=HN.out nq
        have HQ:=lh (And.intro k1 (And.intro k2 k3))
        generalize wr.drewN nq=W5 at *
        clear c1 c2 d1 d2 k1 k2 k3 HN
        go_wp2_with (at_builtin;go_loud ((refine wpList_pushR rfl _ _ 22 29 rfl ii _ 2 24 Tryz.underlying22 hi hz0 hz1 hz2 rfl (by decide) w6.heap.size HQ.out.2.1 (.slice a7 A.length c7) A.length (entV A) rfl HQ.out.1 [.string (bs t0),.int .i64 x0] rfl (one_of rfl) rfl (by omega) (by omega) ?_;intro g8 cap8 w8 hown8 hgr8)))
        have HO8:Hid (OwnE w8 w6.heap.size (.slice (some ⟨g8,0,none⟩) (A.length+1) cap8) (acc++Wk.inn (t0,x0) (Y.take (k+1)))):=by show OwnE _ _ _ _;rw [HR.out];exact OwnE.push (x:=(t0,x0)) hown8
        have HB8:Hid (Below w6.heap.size w6 w8):=hgr8.below HQ.out.2.2 HQ.out.2.1 fun k hk=>(HQ.out.1.lt k hk).1
        clear hown8 hgr8
        go_wp2_with fail
        go_roundg (ny-(k+1))
        case rel=>exact ⟨k+1,by omega,rfl,by go_num,HO8,HB8⟩
        case measure=>omega
       ·have HR:Hid (∀n,OwnE (wr.drewN n) w6.heap.size (.slice a7 A.length c7) (acc++Wk.inn x (Y.take (k+1)))∧Below w6.heap.size w6 (wr.drewN n)):=fun n=>by
         rw [HIA.out,if_neg he,List.append_nil]
         exact ⟨(HN.out n).1,(HN.out n).2.2.1⟩
        obtain ⟨t0,x0⟩:=x
        obtain ⟨t1,x1'⟩:=yy
        dsimp only at c1 c2 d1 d2
        clear HIA HN
        by_cases h1:t0=t1
        ·have he':(x0==x1')=false:=by
          rw [beq_eq_false_iff_ne]
          intro q
          exact he (by rw [h1,q])
         subst h1
         clear he
         generalize bs t0=T0 at *
         go_wp2_with fail
         go_quiet (fail)
         go_wp2_with fail
         go_roundg (ny-(k+1))
         case rel=>exact ⟨k+1,by omega,rfl,by go_num,(HR.out nq).1,(HR.out nq).2⟩
         case measure=>omega
        ·have he':((bs t0).toList==(bs t1).toList)=false:=by
          rw [bs_list,bs_list,beq_eq_false_iff_ne]
          exact h1
         clear he h1
         generalize bs t0=T0 at *
         generalize bs t1=T1 at *
         go_wp2_with fail
         go_quiet (fail)
         go_wp2_with fail
         go_roundg (ny-(k+1))
         case rel=>exact ⟨k+1,by omega,rfl,by go_num,(HR.out nq).1,(HR.out nq).2⟩
         case measure=>omega
      ·obtain rfl:k=ny:=by omega
       have i4:¬(k:Int)<(k:Int):=by omega
       have HR:Hid (OwnE wr w6.heap.size u18 (Wk.met (X.take (i+1)) Y)):=by
        show OwnE _ _ _ _
        have h1:=hown.out
        rw [List.take_of_length_le (by rw [←HNY.out];exact Nat.le_refl _)] at h1
        rw [HST.out]
        exact h1
       have HBE:=lh hbel.out
       clear hown hbel
       go_wp2_with fail
       go_roundg (nx-(i+1))
       case rel=>exact ⟨i+1,by omega,rfl,by go_num,HR,HBE⟩
       case measure=>omega
    ·obtain rfl:i=nx:=by omega
     have i3:¬(i:Int)<(i:Int):=by omega
     have hown2:=hown.out
     have hbel2:=hbel.out
     rw [List.take_of_length_le (by rw [←HNX.out];exact Nat.le_refl _),HMM.out] at hown2
     obtain ⟨a7,c7,hv7⟩:=hown2.form
     subst hv7
     have HBE:Hid (Below w.heap.size w wr):=HB6.out.trans (hbel2.mono HB6.out.size)
     have HM9:=lh (HMA2.out wr HBE.out (HD6.out.below hbel2))
     have HZ9:=lh (HZ6.out.below hbel2 (Nat.le_refl _))
     have HX9:=lh (HX6.out.below hbel2 (Nat.le_refl _))
     have HO9:=lh hown2.ens
     have HBR:=lh hbel2
     clear hown hbel hown2 hbel2
     have hc4:i≤c4:=by
      obtain ⟨_,_,q,q1,_⟩:=HX9.out
      have:=(Value.slice.inj q).2.2
      rw [HNX.out]
      omega
     have hmax:=max_nat2 most
     obtain ⟨mm,hmm⟩:∃mm,mm=((most.toNat:Nat):Int):=⟨_,rfl⟩
     rw [←hmm] at hmax
     obtain ⟨S,hS⟩:∃S,S=X.take most.toNat:=⟨_,rfl⟩
     have hsl:S.length=min most.toNat i:=by rw [hS,List.length_take,←HNX.out]
     have HSP:Hid (S=X.take S.length):=by
      show _=_
      rw [hsl,hS,HNX.out,List.take_eq_take_iff]
      omega
     rw [←hS] at HM9
     rw [←HNX.out] at HM9
     have HSM:Hid (∀W a9 c9,Below w6.heap.size w6 W→EnS W (.slice a9 S.length c9) S→Calls Tryz.prog 13 #[.slice a9 S.length c9,.slice a4 S.length c4] W fun e w'=>e=.returned (.bool true)∧Below W.heap.size W w'):=fun W a9 c9 hb hs=>by
      have h1:=EnS.part S.length (by rw [hsl,←HNX.out];omega) (HX6.out.below hb (Nat.le_refl _))
      rw [←HSP.out] at h1
      have:=sameS_any W _ _ _ _ hs h1
      rw [decide_eq_true rfl] at this
      exact this
     have HSZ:Hid (∀W,Below w6.heap.size w6 W→EnS W (.slice a7 Z.length c7) Z→Calls Tryz.prog 13 #[.slice a7 Z.length c7,.slice a6 Z.length c6] W fun e w'=>e=.returned (.bool true)∧Below W.heap.size W w'):=fun W hb hs=>by
      have:=sameS_any W _ _ _ _ hs (HZ6.out.below hb (Nat.le_refl _))
      rw [decide_eq_true rfl] at this
      exact this
     have HB66:Hid (Below w6.heap.size w6 wr):=HBR.out
     have f3:¬mm<(S.length:Int):=by omega
     have f1:¬(i:Int)<(S.length:Int):=by omega
     have f5:¬i<S.length:=by omega
     have f6:S.length≤c4:=by omega
     by_cases hmi:most.toNat<i
     ·have f2:(S.length:Int)<(i:Int):=by omega
      have f4:S.length<i:=by omega
      rw [decide_eq_true hmi] at HM9
      clear hmm hS hsl hmi HSP HNX HNY
      go_wp2_with (first | (go_at_call 13;go_loud ((refine (HSM.out w10 a9 c9 HB10.out (HS9.out.below HB910.out (Nat.le_refl _))).mono ?_;rintro e11 w11 ⟨rfl,hb11⟩;have HB11:=lh (HB10.out.trans (hb11.mono HB10.out.size));clear hb11))) | (go_at_call 13;go_loud ((refine (HSZ.out w9 HB9.out (HO9.out.below HBR9.out (Nat.le_refl _))).mono ?_;rintro e10 w10 ⟨rfl,hb10⟩;have HB910:=lh hb10;have HB10:=lh (HB9.out.trans (hb10.mono HB9.out.size));clear hb10))) | (go_at_call 14;go_loud ((refine HM9.out.mono ?_;rintro e9 w9 ⟨v9,rfl,ho9,hb9⟩;obtain ⟨a9,c9,rfl⟩:=ho9.form;have HS9:=lh ho9.ens;have HBR9:=lh hb9;have HB9:=lh (HBR.out.trans (hb9.mono HBR.out.size));clear ho9 hb9))))
      go_ret
      exact ⟨rfl,HB6.out.trans (HB11.out.mono HB6.out.size)⟩
     ·have f2:¬(S.length:Int)<(i:Int):=by omega
      have f4:¬S.length<i:=by omega
      rw [decide_eq_false hmi] at HM9
      clear hmm hS hsl hmi HSP HNX HNY
      go_wp2_with (first | (go_at_call 13;go_loud ((refine (HSM.out w10 a9 c9 HB10.out (HS9.out.below HB910.out (Nat.le_refl _))).mono ?_;rintro e11 w11 ⟨rfl,hb11⟩;have HB11:=lh (HB10.out.trans (hb11.mono HB10.out.size));clear hb11))) | (go_at_call 13;go_loud ((refine (HSZ.out w9 HB9.out (HO9.out.below HBR9.out (Nat.le_refl _))).mono ?_;rintro e10 w10 ⟨rfl,hb10⟩;have HB910:=lh hb10;have HB10:=lh (HB9.out.trans (hb10.mono HB9.out.size));clear hb10))) | (go_at_call 14;go_loud ((refine HM9.out.mono ?_;rintro e9 w9 ⟨v9,rfl,ho9,hb9⟩;obtain ⟨a9,c9,rfl⟩:=ho9.form;have HS9:=lh ho9.ens;have HBR9:=lh hb9;have HB9:=lh (HBR.out.trans (hb9.mono HBR.out.size));clear ho9 hb9))))
      go_ret
      exact ⟨rfl,HB6.out.trans (HB11.out.mono HB6.out.size)⟩
end F12
end Go.Proofs.YtmdefnbpimfbgaaGreatDoor
