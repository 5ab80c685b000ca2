/-
  Lemmas on automata, dictionaries and the walk over them, the program's calls and the given ones.
-/
import Derived.Test.YtmdefnbpimfbgaaGreatDoorQ16
set_option maxRecDepth 100000
set_option maxHeartbeats 16000000
namespace Go.Proofs.YtmdefnbpimfbgaaGreatDoor
namespace F12
open Go.RowKit Go.Maps
theorem ownsRow_kt2 {T:List TypeId} {B C:Nat} {w w':World} {e:TypeId} {z n:Nat} {v:Value} {xs:List Value} (h:w.ownsRow C e z v n xs) (k:KeptT T B w w') (he:e∈T):w'.ownsRow C e z v n xs:=
 ownsRow_keep h fun g hg=>by
  obtain ⟨_,_,c,fz,hc⟩:=own_kind h g hg
  exact k.kind g c e fz hc he
theorem KeptT.grewN {w W w':World} {B:Nat} {T:List TypeId} {v v':Value} (h:KeptT T B w W) (hg:Grew W w' v v') (hv:∀k,v.ownBlock=some k→w.heap.size≤k):KeptT T B w w':=
 ⟨hg.kept.os.trans h.os,hg.kept.tape.trans h.tape,hg.kept.output.trans h.output,Nat.le_trans h.size hg.kept.size,fun k h1 h2=>(hg.far (Nat.lt_of_lt_of_le h2 h.size) (fun q=>by have:=hv k q;omega)).trans (h.old k h1 h2),fun k c t fz hc ht=>by
  have hk:=(Array.getElem?_eq_some_iff.1 hc).1
  exact (hg.far (Nat.lt_of_lt_of_le hk h.size) (fun q=>by have:=hv k q;omega)).trans (h.kind k c t fz hc ht)⟩
structure WkI (w wx:World) (B tb pb mb wb nb:Nat) (L:List Fs.En) (k:Nat) (M:List (List Fs.En)) (n p:Nat) (lst:Int) (done:List (UInt8 × Int × List Fs.En)) (nv tv:Value):Prop where
 pk:PkA wx B tb pb mb wb tv (Fs.fold n done M)
 kept:KeptT [115,118,29] B w wx
 node:RowT 115 wx nb #[.bool (Fs.last (Fs.cut k L)).isSome,.int .i64 ((Fs.last (Fs.cut k L)).getD 0),nv]
 nbase:w.heap.size≤nb
 ways:OwnY wx w.heap.size nv (Fs.wys (Fs.fold n done M) done)
 all:done++Fs.ways (Fs.cut k (L.drop p))=Fs.ways (Fs.cut k L)
 len:∀e∈L.drop p,k<e.1.length
 rise:Fs.Rise (Fs.cut k (L.drop p))
 none:L.drop p=[]→lst=Fs.least (Fs.cut k L)
 some:L.drop p≠[]→min lst (Fs.least (Fs.cut k (L.drop p)))=Fs.least (Fs.cut k L)
 bd:Fs.least (Fs.cut k L)≤lst∧lst≤9223372036854775807
def WalkPost (w:World) (B tb pb mb wb:Nat) (l:List Fs.En) (M':List (List Fs.En)) (e:Ending) (w':World):Prop:=
 e=.returned (.tuple #[.int .i64 (Fs.at_ M' (Fs.low l):Nat),.int .i64 (Fs.least l)])∧(∃tv,PkA w' B tb pb mb wb tv M')∧KeptT [115,118,29] B w w'
theorem PkA.far {w w':World} {B tb pb mb wb b:Nat} {tv:Value} {M:List (List Fs.En)} (h:PkA w B tb pb mb wb tv M) (hb:∀(c:Array Value) (t:TypeId) (fz:Nat × Nat),w.heap[b]?=some (Obj.cells c t fz)→t∉[9,73,95,112]) (hm:∃(c:Array Value) (t:TypeId) (fz:Nat × Nat),w.heap[b]?=some (Obj.cells c t fz)) (e:∀k,k<w.heap.size→k≠b→w'.heap[k]?=w.heap[k]?):PkA w' B tb pb mb wb tv M:=by
 have key:∀(k:Nat) (c:Array Value) (t:TypeId) (fz:Nat × Nat),w.heap[k]?=some (Obj.cells c t fz)→t∈[9,73,95,112]→w'.heap[k]?=w.heap[k]?:=fun k c t fz hc ht=>
  e k (Array.getElem?_eq_some_iff.1 hc).1 fun q=>by subst q;exact hb c t fz hc ht
 refine ⟨h.tbox.keep (key _ _ _ _ h.tbox (by decide)),h.pbox.keep (key _ _ _ _ h.pbox (by decide)),h.wbox.keep (key _ _ _ _ h.wbox (by decide)),h.tbase,h.mbase,ownsRow_keep h.text fun k hk=>?_,h.map.kt (e _ h.map.lt fun q=>?_)⟩
 ·obtain ⟨_,_,c,fz,hc⟩:=own_kind h.text k hk
  exact key k c _ fz hc (by decide)
 ·subst q
  obtain ⟨c,t,fz,hc⟩:=hm
  exact h.map.kindT c t fz hc
theorem PkA.setN {w:World} {B tb pb mb wb b:Nat} {tv:Value} {M:List (List Fs.En)} {cs:Array Value} (h:PkA w B tb pb mb wb tv M) (hn:RowT 115 w b cs) (i:Nat) (v:Value):PkA (w.setCell ⟨b,i,none⟩ v) B tb pb mb wb tv M:=
 h.far (b:=b) (fun c t fz hc=>by rw [kind_inj hc hn];decide) ⟨_,_,_,hn⟩ fun k _ hk=>heap_other _ _ _ _ _ hk
theorem PkA.grew {w w':World} {B tb pb mb wb:Nat} {tv:Value} {M:List (List Fs.En)} {e:TypeId} {z n:Nat} {v v':Value} {xs:List Value} (h:PkA w B tb pb mb wb tv M) (hg:Grew w w' v v') (hown:w.ownsRow B e z v n xs) (he:e∉[9,73,95,112]):PkA w' B tb pb mb wb tv M:=by
 have k:=hg.keptT hown he
 refine ⟨h.tbox.keep (k.kind _ _ _ _ h.tbox (by decide)),h.pbox.keep (k.kind _ _ _ _ h.pbox (by decide)),h.wbox.keep (k.kind _ _ _ _ h.wbox (by decide)),h.tbase,h.mbase,ownsRow_kt h.text k (by decide),h.map.kt (hg.far h.map.lt fun q=>?_)⟩
 obtain ⟨_,_,c,fz,hc⟩:=own_kind hown mb q
 exact h.map.kindT c _ fz hc
theorem KeptT.setN {w W:World} {B b:Nat} {T:List TypeId} (h:KeptT T B w W) (hb:w.heap.size≤b) (i:Nat) (v:Value):KeptT T B w (W.setCell ⟨b,i,none⟩ v):=
 ⟨h.os,h.tape,h.output,by have:=h.size;simpa [World.setCell] using this,fun k h1 h2=>(heap_other _ _ _ _ _ (by omega)).trans (h.old k h1 h2),fun k c t fz hc ht=>(heap_other _ _ _ _ _ (by have:=(Array.getElem?_eq_some_iff.1 hc).1;omega)).trans (h.kind k c t fz hc ht)⟩
namespace Fs
theorem fold_low (n:Nat) (l:List En) (M:List (List En)):fold n (ways (low l)) M=fold n (ways l) M:=by
 unfold fold
 rw [low_add_eq,ways_add,List.foldl_map]
theorem low_ways {l:List En}:∀w∈ways (low l),∃v∈ways l,w.2.2=v.2.2:=fun w hw=>by
 rw [low_add_eq,ways_add] at hw
 obtain ⟨v,h1,rfl⟩:=List.mem_map.1 hw
 exact ⟨v,h1,rfl⟩
theorem wys_bd {l:List En} {M:List (List En)} (h:Lw l) (hM:M.length≤8388608):∀y∈wys M (ways l),least l≤y.2.1∧y.2.1≤9223372036854775807∧(y.2.2:Int)≤9223372036854775807:=fun y hy=>by
 obtain ⟨v,h1,rfl⟩:=List.mem_map.1 hy
 obtain ⟨c,m,r⟩:=v
 obtain ⟨h2,rfl,rfl⟩:=mem_ways.1 h1
 have h3:=(least_bd (behind_lw h c)).2
 unfold mx at h3
 obtain ⟨e,h4,h5⟩:=least_mem h2
 have h6:=least_le (mem_behind.1 h4)
 dsimp only at h6 ⊢
 have h7:at_ M (low (behind l c))≤M.length:=List.findIdx_le_length
 omega
theorem last_le {l:List En} (h:Lw l) {x:Int} (hx:last l=some x):least l≤x∧x≤9223372036854775807:=by
 have h1:=(last_bd h hx).2
 unfold mx at h1
 refine ⟨?_,h1⟩
 cases l with
 | nil=>cases hx
 | cons e l=>
  obtain ⟨t,o⟩:=e
  cases t with
  | nil=>
   obtain rfl:o=x:=by injection hx
   exact least_le (e:=([],o)) (by simp)
  | cons b t=>cases hx
end Fs
theorem cut_first {k:Nat} {e:Fs.En} {L:List Fs.En}:Fs.last (Fs.cut k (e :: L))=if e.1.drop k=[] then some e.2 else none:=by
 show Fs.last ((e.1.drop k,e.2) :: Fs.cut k L)=_
 cases e.1.drop k <;> simp [Fs.last]
theorem walkI_final {w wx:World} {B tb pb mb wb nb:Nat} {L:List Fs.En} {k:Nat} {M:List (List Fs.En)} {n:Nat} {x:Int} {tv:Value} (h0:0<L.length) (hk:L[0].1.length=k) (hx:L[0].2=x) (hr:Fs.Rise (Fs.cut k L)) (hlw:Fs.Lw (Fs.cut k L))
  (pk:PkA wx B tb pb mb wb tv M) (kept:KeptT [115,118,29] B w wx) (node:RowT 115 wx nb #[.bool true,.int .i64 x,.slice none 0 0]) (nbase:w.heap.size≤nb):WkI w wx B tb pb mb wb nb L k M n 1 x [] (.slice none 0 0) tv:=by
 obtain ⟨e,L',rfl⟩:∃e L',L=e :: L':=by
  cases L with
  | nil=>simp at h0
  | cons e L'=>exact ⟨e,L',rfl⟩
 have hk':e.1.length=k:=hk
 have hx':e.2=x:=hx
 have hd:e.1.drop k=[]:=List.drop_of_length_le (by omega)
 have hl:Fs.last (Fs.cut k (e :: L'))=some x:=by rw [cut_first,if_pos hd,hx']
 have hc:Fs.cut k (e :: L')=([],x) :: Fs.cut k L':=by
  show (e.1.drop k,e.2) :: Fs.cut k L'=_
  rw [hd,hx']
 obtain ⟨h1,h2⟩:=List.pairwise_cons.1 (by rw [hc] at hr;exact hr)
 have hbd:=Fs.least_bd hlw
 unfold Fs.mx at hbd
 have hxb:Fs.least (Fs.cut k (e :: L'))≤x:=by rw [hc];exact Fs.least_le (e:=([],x)) (by simp)
 have hxm:x≤9223372036854775807:=by
  have:=(hlw ([],x) (by rw [hc];simp)).2
  unfold Fs.mx at this
  exact this
 refine ⟨pk,kept,by rw [hl];exact node,nbase,World.ownsRow_nil _ _ _ _,?_,fun y hy=>?_,?_,fun h=>?_,fun h=>?_,hxb,hxm⟩
 ·rw [hc]
  show []++Fs.ways (Fs.cut k L')=Fs.ways (([],x) :: Fs.cut k L')
  rw [Fs.ways_end]
  rfl
 ·have hy':y∈L':=hy
  have h3:=h1 (y.1.drop k,y.2) (List.mem_map.2 ⟨y,hy',rfl⟩)
  rcases Nat.lt_or_ge k y.1.length with q | q
  ·exact q
  ·rw [List.drop_of_length_le q] at h3
   simp [Fs.lt] at h3
 ·exact h2
 ·have h':L'=[]:=h
  subst h'
  rw [hc]
  rfl
 ·have h':L'≠[]:=h
  rw [hc]
  show min x (Fs.least (Fs.cut k L'))=Fs.least (([],x) :: Fs.cut k L')
  exact (Fs.least_cons ([],x) (Fs.cut k L') (fun q=>h' (List.map_eq_nil_iff.1 q))).symm
theorem walkI_more {w wx:World} {B tb pb mb wb nb:Nat} {L:List Fs.En} {k:Nat} {M:List (List Fs.En)} {n:Nat} {tv:Value} (h0:0<L.length) (hk:k<L[0].1.length) (hr:Fs.Rise (Fs.cut k L)) (hlw:Fs.Lw (Fs.cut k L))
  (pk:PkA wx B tb pb mb wb tv M) (kept:KeptT [115,118,29] B w wx) (node:RowT 115 wx nb #[.bool false,.int .i64 0,.slice none 0 0]) (nbase:w.heap.size≤nb):WkI w wx B tb pb mb wb nb L k M n 0 9223372036854775807 [] (.slice none 0 0) tv:=by
 obtain ⟨e,L',rfl⟩:∃e L',L=e :: L':=by
  cases L with
  | nil=>simp at h0
  | cons e L'=>exact ⟨e,L',rfl⟩
 have hk':k<e.1.length:=hk
 have hc:Fs.cut k (e :: L')=(e.1.drop k,e.2) :: Fs.cut k L':=rfl
 have hd:e.1.drop k≠[]:=fun q=>by
  have:=congrArg List.length q
  rw [List.length_drop,List.length_nil] at this
  omega
 have hl:Fs.last (Fs.cut k (e :: L'))=none:=by rw [cut_first,if_neg hd]
 have hbd:=Fs.least_bd hlw
 unfold Fs.mx at hbd
 refine ⟨pk,kept,by rw [hl];exact node,nbase,World.ownsRow_nil _ _ _ _,rfl,fun y hy=>?_,hr,fun h=>by simp at h,fun _=>?_,hbd.2,Int.le_refl _⟩
 ·have hy':y∈e :: L':=hy
  rcases List.mem_cons.1 hy' with rfl | hy'
  ·exact hk'
  ·have h1:=(List.pairwise_cons.1 (by rw [hc] at hr;exact hr)).1 (y.1.drop k,y.2) (List.mem_map.2 ⟨y,hy',rfl⟩)
   rcases Nat.lt_or_ge k y.1.length with q | q
   ·exact q
   ·rw [List.drop_of_length_le q] at h1
    cases hdd:e.1.drop k with
    | nil=>exact absurd hdd hd
    | cons b s=>simp [hdd,Fs.lt] at h1
 ·show min 9223372036854775807 (Fs.least (Fs.cut k (e :: L')))=_
  omega
theorem WkI.keep {w wx w':World} {B tb pb mb wb nb:Nat} {L:List Fs.En} {k:Nat} {M:List (List Fs.En)} {n p:Nat} {lst:Int} {done:List (UInt8 × Int × List Fs.En)} {nv tv:Value} (h:WkI w wx B tb pb mb wb nb L k M n p lst done nv tv) (hb:Below wx.heap.size wx w'):WkI w w' B tb pb mb wb nb L k M n p lst done nv tv:=
 ⟨h.pk.keep hb,h.kept.trans (KeptT.of_below hb),h.node.keep (hb.block _ h.node.lt),h.nbase,ownsRow_keep h.ways fun k hk=>hb.block k (own_kind h.ways k hk).2.1,h.all,h.len,h.rise,h.none,h.some,h.bd⟩
theorem WkI.next {w wr w4:World} {B tb pb mb wb nb size:Nat} {L:List Fs.En} {k:Nat} {M:List (List Fs.En)} {n p:Nat} {lst m:Int} {c:UInt8} {done:List (UInt8 × Int × List Fs.En)} {nv nv' tv tv3:Value} {Q:List Fs.En} (H:WkI w wr B tb pb mb wb nb L k M n p lst done nv tv) (G:Fs.Group k c (L.drop p) size)
  (hm:m=Fs.least (Fs.behind (Fs.cut k (L.drop p)) c)) (hQ:Q=Fs.low (Fs.behind (Fs.cut k (L.drop p)) c)) (hp:PkA w4 B tb pb mb wb tv3 (Fs.go n Q (Fs.fold n done M))) (k4:KeptT [115,118,29] B w w4)
  (n4:RowT 115 w4 nb #[.bool (Fs.last (Fs.cut k L)).isSome,.int .i64 ((Fs.last (Fs.cut k L)).getD 0),nv']) (y4:OwnY w4 w.heap.size nv' (Fs.wys (Fs.go n Q (Fs.fold n done M)) (done++[(c,m,Q)]))):WkI w w4 B tb pb mb wb nb L k M n (p+size) (min lst m) (done++[(c,m,Q)]) nv' tv3:=by
 have hsn:Fs.fold n (done++[(c,m,Q)]) M=Fs.go n Q (Fs.fold n done M):=Fs.fold_snoc _ _ _ _
 have hdd:L.drop (p+size)=(L.drop p).drop size:=by rw [List.drop_drop]
 have hne:L.drop p≠[]:=fun e=>by
  have:=G.le
  have:=G.pos
  rw [e] at *
  simp at *
  omega
 have h1:=H.some hne
 have hlb:Fs.least (Fs.cut k (L.drop p))≤m:=by
  by_cases e:(L.drop p).drop size=[]
  ·rw [G.least e,hm];exact Int.le_refl _
  ·rw [G.more e,hm];omega
 refine ⟨by rw [hsn];exact hp,k4,n4,H.nbase,by rw [hsn];exact y4,?_,fun e he=>H.len e ?_,by rw [hdd];exact G.rise,fun e=>?_,fun e=>?_,?_⟩
 ·rw [hdd,List.append_assoc,←H.all,G.ways,hm,hQ]
  rfl
 ·rw [hdd] at he
  exact List.mem_of_mem_drop he
 ·rw [hdd] at e
  rw [←h1,G.least e,hm]
 ·rw [hdd] at e ⊢
  rw [←h1,G.more e,hm]
  omega
 ·have:=H.bd
  omega
theorem walkP_any:∀(n:Nat) (L:List Fs.En) (k:Nat) (M:List (List Fs.En)) (w:World) (B tb pb mb wb:Nat) (tv:Value) (g o cap:Nat),PkA w B tb pb mb wb tv M→EnC w g o L→g<B→B≤w.heap.size→0<L.length→L.length≤cap→cap≤9223372036854775807→(∀e∈L,k≤e.1.length)→Fs.Rise (Fs.cut k L)→Fs.Lw (Fs.cut k L)→Fs.deep (Fs.cut k L)<n→L.length≤65536→Fs.Net M→(∀x∈M,Fs.Lw x)→M.length+1+Fs.total (Fs.cut k L)≤8388608→k+n≤1000 →
  Calls Tryz.prog 62 #[.slice (some ⟨g,o,none⟩) L.length cap,.int .i64 (k:Int),.pointer (some ⟨wb,0,none⟩),.pointer (some ⟨pb,0,none⟩),.pointer (some ⟨tb,0,none⟩)] w (WalkPost w B tb pb mb wb (Fs.cut k L) (Fs.go n (Fs.low (Fs.cut k L)) M))
 | 0,L,k,M,w,B,tb,pb,mb,wb,tv,g,o,cap,_,_,_,_,_,_,_,_,_,_,hd,_,_,_,_,_=>absurd hd (Nat.not_lt_zero _)
 | n+1,L,k,M,w,B,tb,pb,mb,wb,tv,g,o,cap,hA,hC,hgB,hB,h0,hcap,hcap2,hk,hr,hlw,hd,hlen,hN,hML,htot,hkn=>by
  have ih:=lh (walkP_any n)
  have HA:=lh hA
  have HC:=lh hC
  have HK:=lh hk
  have HR:=lh hr
  have HLW:=lh hlw
  have HN:=lh hN
  have HML:=lh hML
  obtain ⟨q,hq⟩:∃q,q=L.length:=⟨_,rfl⟩
  have HQ:=lh hq
  have hgw:g<w.heap.size:=by omega
  have c0:w.cell? ⟨g,o,none⟩=some (.string (bs L[0].1)):=by
   have:=(hC 0 h0).1
   rw [Nat.zero_mul,Nat.add_zero] at this
   exact this
  have c1:w.cell? ⟨g,o+1,none⟩=some (.int .i64 L[0].2):=by
   have:=(hC 0 h0).2
   rw [Nat.zero_mul,Nat.add_zero] at this
   exact this
  have hk0:=hk _ (List.getElem_mem h0)
  have hz0:=bs_size L[0].1
  have HFI:Hid (∀wx nb tv,L[0].1.length=k→PkA wx B tb pb mb wb tv M→KeptT [115,118,29] B w wx→RowT 115 wx nb #[.bool true,.int .i64 L[0].2,.slice none 0 0]→w.heap.size≤nb→WkI w wx B tb pb mb wb nb L k M n 1 L[0].2 [] (.slice none 0 0) tv):=fun wx nb tv h1 h2 h3 h4 h5=>walkI_final h0 h1 rfl hr hlw h2 h3 h4 h5
  have HMO:Hid (∀wx nb tv,k<L[0].1.length→PkA wx B tb pb mb wb tv M→KeptT [115,118,29] B w wx→RowT 115 wx nb #[.bool false,.int .i64 0,.slice none 0 0]→w.heap.size≤nb→WkI w wx B tb pb mb wb nb L k M n 0 9223372036854775807 [] (.slice none 0 0) tv):=fun wx nb tv h1 h2 h3 h4 h5=>walkI_more h0 h1 hr hlw h2 h3 h4 h5
  rw [←hq] at h0 hcap hlen ⊢
  have i0:(0:Int)<(q:Int):=by omega
  clear hA hC hk hr hlw hN hML hq
  generalize L[0].1=t0 at *
  generalize L[0].2=x0 at *
  go_enter Tryz.func62,Tryz.ntmps62
  go_upto_if 23 with (fail)
  go_cut [0,8] (fun s0 s8 wx=>∃(p r c:Nat) (a:Option Addr) (lst:Int) (tv2:Value),s0=.slice a r c∧s8=.int .i64 lst∧p+r=q∧(0<r→a=some ⟨g,o+p*2,none⟩)∧r≤c∧c≤9223372036854775807∧Hid (WkI w wx B tb pb mb wb w.heap.size L k M n p lst [] (.slice none 0 0) tv2))
  case first=>
   have HA2:Hid (∀X Y,PkA ((w.alloc X).alloc Y) B tb pb mb wb tv M):=fun X Y=>HA.out.keep (((Below.refl _ _).alloc (Nat.le_refl _) _).alloc (by simp) _)
   by_cases hfin:t0.length=k
   ·have hz:((bs t0).size:Int)=(k:Int):=by rw [hz0,hfin]
    have hF:=HFI.out
    clear hz0
    generalize bs t0=T0 at *
    go_wp2_with fail
    have hN0:RowT 115 ((w.alloc (.cells #[.bool false,.int .i64 0,.slice none 0 0] 115)).alloc (.cells #[.string T0,.int .i64 x0] 29)) w.heap.size #[.bool false,.int .i64 0,.slice none 0 0]:=(Go.Deep.blk_alloc_lt _ _ _ (by simp)).trans (Go.Deep.blk_alloc_new _ _)
    have hN1:RowT 29 ((w.alloc (.cells #[.bool false,.int .i64 0,.slice none 0 0] 115)).alloc (.cells #[.string T0,.int .i64 x0] 29)) (w.heap.size+1) #[.string T0,.int .i64 x0]:=by
     have:=Go.Deep.blk_alloc_new (w.alloc (.cells #[.bool false,.int .i64 0,.slice none 0 0] 115)) (.cells #[.string T0,.int .i64 x0] 29)
     unfold RowT
     rw [World.size_alloc] at this
     exact this
    have hP0:=HA2.out (.cells #[.bool false,.int .i64 0,.slice none 0 0] 115) (.cells #[.string T0,.int .i64 x0] 29)
    have hK0:KeptT [115,118,29] B w ((w.alloc (.cells #[.bool false,.int .i64 0,.slice none 0 0] 115)).alloc (.cells #[.string T0,.int .i64 x0] 29)):=KeptT.of_below (((Below.refl _ _).alloc (Nat.le_refl _) _).alloc (by simp) _)
    generalize (w.alloc (.cells #[.bool false,.int .i64 0,.slice none 0 0] 115)).alloc (.cells #[.string T0,.int .i64 x0] 29)=W at *
    have d0:W.drew.cell? ⟨w.heap.size,0,none⟩=some (.bool false):=hN0.cell 0
    have d1:W.drew.cell? ⟨w.heap.size,1,none⟩=some (.int .i64 0):=hN0.cell 1
    have d2:W.drew.frozen? ⟨w.heap.size,0,none⟩=false:=hN0.frozen 0
    have d3:W.drew.frozen? ⟨w.heap.size,1,none⟩=false:=hN0.frozen 1
    have d4:W.drew.cell? ⟨w.heap.size+1,1,none⟩=some (.int .i64 x0):=hN1.cell 1
    have e0:W.cell? ⟨w.heap.size,0,none⟩=some (.bool false):=hN0.cell 0
    have e1:W.cell? ⟨w.heap.size,1,none⟩=some (.int .i64 0):=hN0.cell 1
    have e2:W.frozen? ⟨w.heap.size,0,none⟩=false:=hN0.frozen 0
    have e3:W.frozen? ⟨w.heap.size,1,none⟩=false:=hN0.frozen 1
    have e4:W.cell? ⟨w.heap.size+1,1,none⟩=some (.int .i64 x0):=hN1.cell 1
    go_region
    all_goals
     go_wp2_with fail
     all_goals go_meet
     all_goals
      have hP1:=(hP0.setN hN0 0 (.bool true)).setN (hN0.set 0 (.bool true)) 1 (.int .i64 x0)
      have hK1:=(hK0.setN (Nat.le_refl _) 0 (.bool true)).setN (Nat.le_refl _) 1 (.int .i64 x0)
      have hR1:RowT 115 ((W.setCell ⟨w.heap.size,0,none⟩ (.bool true)).setCell ⟨w.heap.size,1,none⟩ (.int .i64 x0)) w.heap.size #[.bool true,.int .i64 x0,.slice none 0 0]:=(hN0.set 0 (.bool true)).set 1 (.int .i64 x0)
      have hW:=hF ((W.setCell ⟨w.heap.size,0,none⟩ (.bool true)).setCell ⟨w.heap.size,1,none⟩ (.int .i64 x0)).drew w.heap.size tv hfin (hP1.keep (Below.refl _ _).drew) hK1.drew hR1 (Nat.le_refl _)
     ·exact ⟨1,q-1,0,_,x0,tv,rfl,rfl,by omega,fun h=>by omega,by omega,by omega,hW⟩
     ·exact ⟨1,q-1,cap-1,_,x0,tv,rfl,rfl,by omega,fun _=>by rw [Nat.one_mul],by omega,by omega,hW⟩
   ·have hlt:k<t0.length:=by omega
    have hz:(((bs t0).size:Int)==(k:Int))=false:=by rw [hz0,beq_eq_false_iff_ne];omega
    have hM:=HMO.out
    clear hz0
    generalize bs t0=T0 at *
    go_wp2_with fail
    go_meet
    have hN0:RowT 115 ((w.alloc (.cells #[.bool false,.int .i64 0,.slice none 0 0] 115)).alloc (.cells #[.string T0,.int .i64 x0] 29)) w.heap.size #[.bool false,.int .i64 0,.slice none 0 0]:=(Go.Deep.blk_alloc_lt _ _ _ (by simp)).trans (Go.Deep.blk_alloc_new _ _)
    exact ⟨0,q,cap,_,9223372036854775807,tv,rfl,rfl,by omega,fun _=>by rw [Nat.zero_mul,Nat.add_zero],hcap,hcap2,hM _ _ tv hlt (HA2.out _ _) (KeptT.of_below (((Below.refl _ _).alloc (Nat.le_refl _) _).alloc (by simp) _)) hN0 (Nat.le_refl _)⟩
  case rest=>
   obtain ⟨p0,r0,cc0,a0,lst0,tv0,rfl,rfl,hpr,ha0,hrc,hcc,hW0⟩:=hcut
   clear c0 c1 HFI HMO HA hz0 hk0
   go_wp2_with fail
   go_loopg [0,8] r0 (fun gg s0 s8 wx=>∃(p c:Nat) (a:Option Addr) (lst:Int),s0=.slice a gg c∧s8=.int .i64 lst∧p+gg=q∧(0<gg→a=some ⟨g,o+p*2,none⟩)∧gg≤c∧c≤9223372036854775807∧Hid (∃done nv tv2,WkI w wx B tb pb mb wb w.heap.size L k M n p lst done nv tv2))
   case atStart=>exact ⟨p0,cc0,a0,lst0,rfl,rfl,hpr,ha0,hrc,hcc,⟨[],_,tv0,hW0.out⟩⟩
   case round=>
    clear hW0
    obtain ⟨p,c,a,lst,rfl,rfl,hpg,ha,hgc,hc2,hW⟩:=hrel
    by_cases hg0:0<gk
    ·obtain rfl:=ha hg0
     clear ha
     have i1:(0:Int)<(gk:Int):=by omega
     obtain ⟨done,nv,tv2,H⟩:=hW.out
     have hRl:(L.drop p).length=gk:=by rw [List.length_drop,←HQ.out];omega
     have HRL:=lh hRl
     have hEC:Hid (∀wx,KeptT [115,118,29] B w wx→EnC wx g (o+p*2) (L.drop p)):=fun wx hk=>(HC.out.same (hk.old g hgB hgw)).drop p
     have hR0:0<(L.drop p).length:=by omega
     have hkt:=H.len _ (List.getElem_mem hR0)
     obtain ⟨b,hb⟩:∃b,b=(L.drop p)[0].1[k]:=⟨_,rfl⟩
     have hgr:=Fs.group (c:=b) H.rise hR0 H.len (fun _=>hb.symm)
     have hal:=alike_any wr (.slice (some ⟨g,o+p*2,none⟩) gk c) (L.drop p) k b ⟨_,c,by rw [hRl],by omega,hc2,fun _=>⟨g,o+p*2,rfl,by have:=H.kept.size;omega,hEC.out wr H.kept⟩⟩ hR0 (by omega) H.len (fun _=>hb.symm)
     obtain ⟨size,hsize⟩:∃size,size=(Fs.grp b (Fs.cut k (L.drop p))).length:=⟨_,rfl⟩
     rw [←hsize] at hgr hal
     have hs1:=hgr.pos
     have hs2:=hgr.le
     rw [hRl] at hs2
     have HAL:=lh hal
     have HGR:=lh hgr
     have HH:=lh H
     have hways:=hgr.ways
     have hmem:∀x∈done++[(b,Fs.least (Fs.behind (Fs.cut k (L.drop p)) b),Fs.low (Fs.behind (Fs.cut k (L.drop p)) b))],x∈Fs.ways (Fs.cut k L):=fun x hx=>by
      rw [←H.all,hways]
      rcases List.mem_append.1 hx with q1 | q1
      ·exact List.mem_append_left _ q1
      ·rw [List.mem_singleton.1 q1];exact List.mem_append_right _ (by simp)
     have hwm:=hmem (b,Fs.least (Fs.behind (Fs.cut k (L.drop p)) b),Fs.low (Fs.behind (Fs.cut k (L.drop p)) b)) (by simp)
     have hlwR:Fs.Lw (Fs.cut k (L.drop p)):=fun e he=>by
      rw [Fs.cut_drop] at he
      exact HLW.out e (List.mem_of_mem_drop he)
     have hlwb:=Fs.behind_lw hlwR b
     have hbd:=Fs.least_bd hlwb
     unfold Fs.mx at hbd
     obtain ⟨a1,a2,a3,a4⟩:=Fs.fold_net (n:=n) (l:=Fs.cut k L) (ws:=done) (M:=M) HR.out hd HN.out (fun x hx=>hmem x (List.mem_append_left _ hx))
     have hfl:=Fs.fold_length n done M (fun x hx=>(Fs.good_way HR.out (hmem x (List.mem_append_left _ hx))).rise)
     have htw:=Fs.total_ways HR.out
     rw [←H.all,hways,List.map_append,List.map_cons,List.sum_append,List.sum_cons] at htw
     have hdw:=Fs.deep_way hwm
     have hgw2:=Fs.good_way HR.out hwm
     have hFL:=Fs.fold_lw (n:=n) (ws:=done) HML.out (fun x hx=>Fs.way_lw HLW.out (hmem x (List.mem_append_left _ hx)))
     dsimp only at hdw hgw2 htw
     have hbr:=Fs.behind_rise H.rise b
     have hcutb:=hgr.cut
     have hQt:Fs.total (Fs.low (Fs.behind (Fs.cut k (L.drop p)) b))=Fs.total (Fs.behind (Fs.cut k (L.drop p)) b):=by
      unfold Fs.total Fs.low
      rw [List.map_map]
      rfl
     have IHC:Hid (∀(W:World) (s:Value) (j:Int) (tvx:Value),PkA W B tb pb mb wb tvx (Fs.fold n done M)→KeptT [115,118,29] B w W→s=.slice (some ⟨g,o+p*2,none⟩) size c→j=(k:Int)+1→Calls Tryz.prog 62 #[s,.int .i64 j,.pointer (some ⟨wb,0,none⟩),.pointer (some ⟨pb,0,none⟩),.pointer (some ⟨tb,0,none⟩)] W (WalkPost W B tb pb mb wb (Fs.behind (Fs.cut k (L.drop p)) b) (Fs.go n (Fs.low (Fs.behind (Fs.cut k (L.drop p)) b)) (Fs.fold n done M)))):=fun W s j tvx hpx hkx hs hj=>by
      have hl2:((L.drop p).take size).length=size:=by rw [List.length_take,HRL.out];omega
      have h1:=ih.out ((L.drop p).take size) (k+1) (Fs.fold n done M) W B tb pb mb wb tvx g (o+p*2) c hpx ((hEC.out W hkx).take size) hgB (by have:=hkx.size;omega) (by omega) (by omega) hc2 hgr.len (by rw [hcutb];exact hbr) (by rw [hcutb];exact hlwb) (by rw [hcutb];rw [Fs.deep_low] at hdw;omega) (by omega) a1 hFL (by rw [hcutb,←hQt];omega) (by omega)
      rw [hcutb,hl2] at h1
      rw [hs,hj]
      have e:(((k+1:Nat)):Int)=(k:Int)+1:=by omega
      rw [e] at h1
      exact h1
     obtain ⟨Q,hQ⟩:∃Q,Q=Fs.low (Fs.behind (Fs.cut k (L.drop p)) b):=⟨_,rfl⟩
     obtain ⟨m,hm⟩:∃m,m=Fs.least (Fs.behind (Fs.cut k (L.drop p)) b):=⟨_,rfl⟩
     have hin:Q∈Fs.go n Q (Fs.fold n done M):=(Fs.go_net n Q _ a1 (by rw [hQ];exact hgw2) (by rw [hQ];omega)).2.2
     have hgl:=Fs.go_length n Q (Fs.fold n done M) (by rw [hQ];exact hgw2.rise)
     have hpre:Hid (∃K,Fs.go n Q (Fs.fold n done M)=Fs.fold n done M++K):=(Fs.go_net n Q _ a1 (by rw [hQ];exact hgw2) (by rw [hQ];omega)).2.1
     have hatl:=Fs.at_lt hin
     have hFl2:(Fs.go n Q (Fs.fold n done M)).length≤8388608:=by
      rw [←hQ] at htw
      omega
     unfold WalkPost at IHC
     rw [←hQ,←hm] at IHC
     rw [←hm] at hbd
     have HNEXT:=lh (fun w4 nv' tv3=>WkI.next (w4:=w4) (nv':=nv') (tv3:=tv3) (m:=m) (Q:=Q) H hgr hm hQ)
     have A3:=lh a3
     clear hways hmem hwm hlwR hlwb a1 a2 a3 a4 hfl htw hdw hgw2 hFL hbr hcutb hQt hin hgl hQ hm
     obtain ⟨F,hF⟩:∃F,F=Fs.fold n done M:=⟨_,rfl⟩
     rw [←hF] at IHC hatl hpre hFl2 HNEXT A3
     have HF:=lh hF
     obtain ⟨at2,hat2⟩:∃at2,at2=Fs.at_ (Fs.go n Q F) Q:=⟨_,rfl⟩
     rw [←hat2] at IHC hatl
     have HAT:=lh hat2
     clear hat2
     have hdl:done.length≤256:=by
      have h1:=Fs.ways_few (Fs.cut k L)
      rw [←H.all,List.length_append] at h1
      omega
     clear hal hgr hsize H hW hRl hF
     go_upto_region 9 with (go_at_call 63;refine HAL.out.mono ?_;rintro e1 w1 ⟨rfl,hb1⟩;have HB1:=lh hb1;clear hb1)
     have H1:=HH.out.keep HB1.out
     have hwb:w1.cell? ⟨wb,0,none⟩=some (.func (.func 62) #[] #[.pointer (some ⟨wb,0,none⟩),.pointer (some ⟨pb,0,none⟩),.pointer (some ⟨tb,0,none⟩)]):=H1.pk.wbox.cell 0
     have hwb2:w1.drew.cell? ⟨wb,0,none⟩=some (.func (.func 62) #[] #[.pointer (some ⟨wb,0,none⟩),.pointer (some ⟨pb,0,none⟩),.pointer (some ⟨tb,0,none⟩)]):=H1.pk.wbox.cell 0
     have HK1:=lh H1.kept
     have HN1:=lh H1.node
     have hy1:=H1.ways
     have hp1:=H1.pk
     rw [←HF.out] at hy1 hp1
     have HY1:=lh hy1
     have HP1:=lh hp1
     have i2:(size:Int)≤(c:Int):=by omega
     have i3:(0:Int)≤(size:Int):=by omega
     clear H1 HB1 HAL hy1 hp1
     generalize (Fs.last (Fs.cut k L)).isSome=fl at *
     generalize (Fs.last (Fs.cut k L)).getD 0=fo at *
     go_cut [12,13] (fun s12 s13 wx=>s12=.int .i64 (at2:Int)∧s13=.int .i64 m∧Hid (∃tv3,PkA wx B tb pb mb wb tv3 (Fs.go n Q F))∧Hid (KeptT [115,118,29] B w wx)∧Hid (RowT 115 wx w.heap.size #[.bool fl,.int .i64 fo,nv])∧Hid (OwnY wx w.heap.size nv (Fs.wys F done)))
     case first=>
      have HCL:Hid (∀(W:World) (s:Value) (j:Int),Below w1.heap.size w1 W→s=.slice (some ⟨g,o+p*2,none⟩) size c→j=(k:Int)+1→Calls Tryz.prog 62 #[s,.int .i64 j,.pointer (some ⟨wb,0,none⟩),.pointer (some ⟨pb,0,none⟩),.pointer (some ⟨tb,0,none⟩)] W fun e w'=>e=.returned (.tuple #[.int .i64 (at2:Int),.int .i64 m])∧(∃tv3,PkA w' B tb pb mb wb tv3 (Fs.go n Q F))∧KeptT [115,118,29] B w w'∧RowT 115 w' w.heap.size #[.bool fl,.int .i64 fo,nv]∧OwnY w' w.heap.size nv (Fs.wys F done)):=fun W s j hb hs hj=>by
       have hkW:KeptT [115,118,29] B w1 W:=KeptT.of_below hb
       refine (IHC.out W s j tv2 (by rw [HF.out];have:=HP1.out.keep hb;rw [HF.out] at this;exact this) (HK1.out.trans hkW) hs hj).mono ?_
       rintro e w' ⟨h1,h2,h3⟩
       have h4:=hkW.trans h3
       exact ⟨h1,h2,HK1.out.trans h4,HN1.out.keep (h4.kind _ _ _ _ HN1.out (by decide)),ownsRow_kt2 HY1.out h4 (by decide)⟩
      clear IHC
      have hwk:IntKind.i64.wrap ((k:Int)+1)=(k:Int)+1:=IntWalk.i64_in _ (by omega)
      go_region_with (go_at_call 62;refine (HCL.out _ _ _ (by first | exact Below.refl _ _ | exact (Below.refl _ _).drew) rfl (by first | rfl | omega)).mono ?_;rintro e2 w2 ⟨rfl,hp2,hk2,hn2,hy2⟩;have HP2:=lh hp2;have HK2:=lh hk2;have HN2:=lh hn2;have HY2:=lh hy2;clear hp2 hk2 hn2 hy2)
      all_goals
       go_wp2_with fail
       go_meet
       exact ⟨rfl,rfl,HP2,HK2,HN2,HY2⟩
     case rest=>
      obtain ⟨rfl,rfl,hp3,hk3,hn3,hy3⟩:=hcut
      obtain ⟨tv3,hp3⟩:=hp3.out
      have HP3:=lh hp3
      have hyl:(Fs.wys F done).length=done.length:=List.length_map _
      obtain ⟨an,cn,hnv,_,_⟩:=own_form hy3.out
      rw [hyl] at hnv
      subst hnv
      obtain ⟨iW,hiW,hyW0,hyW1,hyW2⟩:=info_parts Tryz.infoW
      have hBc:B≤wc.heap.size:=by have:=hk3.out.size;omega
      have hst3:=(hEC.out wc hk3.out 0 hR0).1
      rw [Nat.zero_mul,Nat.add_zero] at hst3
      have hgc:g<wc.heap.size:=by omega
      have hNc:=hn3.out.lt
      have hbx:k<(bs (L.drop p)[0].1).size:=by rw [bs_size];exact hkt
      have hbyte:(bs (L.drop p)[0].1)[k]=b:=(bs_get _ k hbx hkt).trans hb.symm
      have hbl:=b.toNat_lt
      have hwb8:IntKind.i64.wrap ((b.toNat:Nat):Int)=((b.toNat:Nat):Int):=IntWalk.i64_in _ (by omega)
      have HFI2:Hid (∀g5 cap5 w5,w5.ownsRow w.heap.size 118 3 (.slice (some ⟨g5,0,none⟩) (done.length+1) cap5) (done.length+1) (wyV (Fs.wys F done)++[.int .i64 (b.toNat:Nat),.int .i64 m,.int .i64 (at2:Nat)])→Grew wc w5 (.slice an done.length cn) (.slice (some ⟨g5,0,none⟩) (done.length+1) cap5)→(w5.cell? ⟨w.heap.size,2,none⟩=some (.slice an done.length cn)∧w5.frozen? ⟨w.heap.size,2,none⟩=false)∧WkI w (w5.setCell ⟨w.heap.size,2,none⟩ (.slice (some ⟨g5,0,none⟩) (done.length+1) cap5)) B tb pb mb wb w.heap.size L k M n (p+size) (min lst m) (done++[(b,m,Q)]) (.slice (some ⟨g5,0,none⟩) (done.length+1) cap5) tv3):=fun g5 cap5 w5 h5 hg5=>by
       have hyo:wc.ownsRow w.heap.size 118 3 (.slice an done.length cn) done.length (wyV (Fs.wys F done)):=by
        have:=hy3.out
        unfold OwnY at this
        rw [hyl] at this
        exact this
       have hn5:RowT 115 w5 w.heap.size #[.bool fl,.int .i64 fo,.slice an done.length cn]:=hn3.out.keep (hg5.far hn3.out.lt fun q1=>by obtain ⟨_,_,cc,ff,hh⟩:=own_kind hyo _ q1;have:=kind_inj hh hn3.out;revert this;decide)
       have hp5:=HP3.out.grew hg5 (ownsRow_base hyo hB) (by decide)
       have hk5:KeptT [115,118,29] B w w5:=hk3.out.grewN hg5 fun k1 hk1=>(own_kind hyo k1 hk1).1
       refine ⟨⟨hn5.cell 2,hn5.frozen 2⟩,HNEXT.out _ _ _ (hp5.setN hn5 2 _) (hk5.setN (Nat.le_refl _) 2 _) (hn5.set 2 _) ?_⟩
       have hw5:Fs.wys (Fs.go n Q F) (done++[(b,m,Q)])=Fs.wys F done++[(b,m,at2)]:=by
        obtain ⟨K,hK⟩:=hpre.out
        rw [Fs.wys_snoc,HAT.out]
        congr 1
        rw [hK]
        exact Fs.wys_same A3.out
       unfold OwnY
       rw [hw5,List.length_append,hyl,List.length_singleton,←wyV_snoc]
       exact ownsRow_keep h5 fun k1 hk1=>heap_other _ _ _ _ _ (fun q1=>by
        subst q1
        obtain ⟨_,_,cc,ff,hh⟩:=own_kind h5 _ hk1
        have:=kind_inj hh hn5
        revert this
        decide)
      have HY3:Hid (wc.ownsRow w.heap.size 118 3 (.slice an done.length cn) done.length (wyV (Fs.wys F done))):=by
       have:=hy3.out
       unfold OwnY at this
       rw [hyl] at this
       exact this
      have HSW:=lh hk3.out.size
      clear HNEXT hyl hy3 IHC hb
      obtain ⟨T1,hT1⟩:∃T1,T1=bs (L.drop p)[0].1:=⟨_,rfl⟩
      have hst4:wc.cell? ⟨g,o+p*2,none⟩=some (.string T1):=by rw [hT1];exact hst3
      have hbx2:k<T1.size:=by rw [hT1];exact hbx
      have hbyte2:T1[k]=b:=by subst hT1;exact hbyte
      clear hT1 hst3 hbx hbyte
      have d0:wc.drew.cell? ⟨g,o+p*2,none⟩=some (.string T1):=hst4
      have d1:wc.drew.cell? ⟨w.heap.size,2,none⟩=some (.slice an done.length cn):=hn3.out.cell 2
      have d2:wc.cell? ⟨w.heap.size,2,none⟩=some (.slice an done.length cn):=hn3.out.cell 2
      have e0:(wc.alloc (.cells #[.int .i64 (b.toNat:Nat),.int .i64 m,.int .i64 (at2:Int)] 118)).cell? ⟨g,o+p*2,none⟩=some (.string T1):=(((Below.refl wc.heap.size wc).alloc (Nat.le_refl _) _).cell (p:=⟨g,o+p*2,none⟩) hgc).trans hst4
      have e1:(wc.alloc (.cells #[.int .i64 (b.toNat:Nat),.int .i64 m,.int .i64 (at2:Int)] 118)).cell? ⟨w.heap.size,2,none⟩=some (.slice an done.length cn):=(((Below.refl wc.heap.size wc).alloc (Nat.le_refl _) _).cell (p:=⟨w.heap.size,2,none⟩) hNc).trans d2
      have f0:(wc.alloc (.cells #[.int .i64 (b.toNat:Nat),.int .i64 m,.int .i64 (at2:Int)] 118)).drew.cell? ⟨g,o+p*2,none⟩=some (.string T1):=e0
      have f1:(wc.alloc (.cells #[.int .i64 (b.toNat:Nat),.int .i64 m,.int .i64 (at2:Int)] 118)).drew.cell? ⟨w.heap.size,2,none⟩=some (.slice an done.length cn):=e1
      go_wp2_with fail
      go_region_law ((refine step_pushR (w:=wc) rfl _ _ 113 118 (by rfl) iW _ 3 24 Tryz.underlying113 hiW hyW0 hyW1 hyW2 rfl (by decide) w.heap.size HSW.out (.slice an done.length cn) done.length (wyV (Fs.wys F done)) (by rfl) HY3.out (by first | exact ((Below.refl _ _).drew).alloc (Nat.le_refl _) _ | exact ((Below.refl _ _).alloc (Nat.le_refl _) _).drew | exact (Below.refl _ _).alloc (Nat.le_refl _) _) [.int .i64 (b.toNat:Nat),.int .i64 m,.int .i64 (at2:Nat)] rfl (one_of rfl) ⟨wc.heap.size,0,none⟩ (by first | exact new_cells wc _ _ | exact new_cells wc.drew _ _) (by rfl) (by omega) (by omega) ?_;intro g5 cap5 w5 hown5 hgr5;obtain ⟨⟨m5,m6⟩,hw5⟩:=HFI2.out g5 cap5 w5 hown5 hgr5;have HW5:=lh hw5;clear hown5 hgr5 hw5))
      all_goals
       generalize w5.setCell ⟨w.heap.size,2,none⟩ (.slice (some ⟨g5,0,none⟩) (done.length+1) cap5)=w6 at *
       clear m5 m6
       go_wp2_with fail
       all_goals go_roundg (gk-size)
       all_goals first
        | omega
        | exact ⟨p+size,_,_,min lst m,rfl,rfl,by omega,fun h=>by first | omega | (congr 2;omega),by omega,by omega,⟨_,_,_,HW5.out⟩⟩
    ·obtain rfl:gk=0:=by omega
     obtain ⟨done,nv,tv2,H⟩:=hW.out
     have hdr:L.drop p=[]:=List.drop_of_length_le (by rw [←HQ.out];omega)
     have hdone:done=Fs.ways (Fs.cut k L):=by
      have:=H.all
      rw [hdr] at this
      rw [←this,show Fs.cut k []=[] from rfl,Fs.ways_nil,List.append_nil]
     have hlst:=H.none hdr
     subst hdone
     obtain ⟨a1,a2,a3,a4⟩:=Fs.fold_net (n:=n) (l:=Fs.cut k L) (ws:=Fs.ways (Fs.cut k L)) (M:=M) HR.out hd HN.out (fun x hx=>hx)
     have hgf:=Fs.go_fold (n:=n) HN.out (Fs.low_rise HR.out) (by rw [Fs.deep_low];exact hd)
     have hfl:=Fs.fold_length n (Fs.ways (Fs.cut k L)) M (fun x hx=>(Fs.good_way HR.out hx).rise)
     have htw:=Fs.total_ways HR.out
     have hFL:=Fs.fold_lw (n:=n) (ws:=Fs.ways (Fs.cut k L)) HML.out (fun x hx=>Fs.way_lw HLW.out hx)
     have hbd:=Fs.least_bd HLW.out
     unfold Fs.mx at hbd
     rw [Fs.fold_low] at hgf
     have hF8:(Fs.fold n (Fs.ways (Fs.cut k L)) M).length≤8388608:=by omega
     have hFm:((Fs.fold n (Fs.ways (Fs.cut k L)) M).length:Int)≤Fs.mx:=by unfold Fs.mx;omega
     have hlw2:∀x∈Fs.ways (Fs.low (Fs.cut k L)),x.2.2∈Fs.fold n (Fs.ways (Fs.cut k L)) M:=fun x hx=>by
      obtain ⟨v,h1,h2⟩:=Fs.low_ways x hx
      rw [h2]
      exact a3 v h1
     have hpl:=Fs.place_node a1 hFm hFL (Fs.low_rise HR.out) (Fs.low_lw HLW.out) hlw2
     have hmt:=Fs.mem_txt a1 hFm hFL (Fs.low_rise HR.out) (Fs.low_lw HLW.out) hlw2
     have hTX:=textOf_any wr nv (Fs.last (Fs.cut k L)) ((Fs.last (Fs.cut k L)).getD 0) (Fs.least (Fs.cut k L)) (Fs.wys (Fs.fold n (Fs.ways (Fs.cut k L)) M) (Fs.ways (Fs.cut k L))) H.ways.ways (by unfold Fs.wys;rw [List.length_map];have:=Fs.ways_few (Fs.cut k L);omega) (fun x hx=>by rw [hx];rfl) hbd (fun x hx=>Fs.last_le HLW.out hx) (Fs.wys_bd HLW.out hF8)
     have hnb:Fs.bytesN (lessN (Fs.last (Fs.cut k L)) (Fs.wys (Fs.fold n (Fs.ways (Fs.cut k L)) M) (Fs.ways (Fs.cut k L))) (Fs.least (Fs.cut k L)))=Fs.nodeB (Fs.fold n (Fs.ways (Fs.cut k L)) M) (Fs.low (Fs.cut k L)):=by
      unfold Fs.nodeB
      rw [Fs.node_low]
     rw [hnb] at hTX
     have hbl:(Fs.nodeB (Fs.fold n (Fs.ways (Fs.cut k L)) M) (Fs.low (Fs.cut k L))).length≤6930:=Fs.bytesN_length (by show (List.map _ (Fs.ways (Fs.low (Fs.cut k L)))).length≤256;rw [List.length_map];exact Fs.ways_few _)
     have HTX:=lh hTX
     have HPL:=lh hpl
     have HMT:=lh hmt
     have HGF:=lh hgf
     have A1:=lh a1
     have HLW2:=lh hlw2
     have HKE:=lh H.kept
     have HPK:=lh H.pk
     have nc0:=H.node.cell 0
     have nc1:=H.node.cell 1
     have nc2:=H.node.cell 2
     obtain ⟨an,cn,hnv,_,_⟩:=own_form H.ways
     have hdr2:=lh hlst
     subst hnv
     simp only [List.getElem?_toArray,List.getElem?_cons_zero,List.getElem?_cons_succ] at nc0 nc1 nc2
     clear hgf hfl htw hFL hFm hlw2 hpl hmt hTX hnb a1 a2 a3 a4 H hW hdr ha hlst
     obtain ⟨F,hF⟩:∃F,F=Fs.fold n (Fs.ways (Fs.cut k L)) M:=⟨_,rfl⟩
     rw [←hF] at HTX HPL HMT HGF A1 HLW2 HPK hF8 hbl nc2
     obtain ⟨wl,hwl⟩:∃wl,wl=(Fs.wys F (Fs.ways (Fs.cut k L))).length:=⟨_,rfl⟩
     rw [←hwl] at HTX nc2
     obtain ⟨l,hl⟩:∃l,l=Fs.cut k L:=⟨_,rfl⟩
     rw [←hl] at HTX HPL HMT HGF HLW2 hbl hbd nc0 nc1 hdr2 ⊢
     clear hF hwl
     obtain ⟨t,ht⟩:∃t,t=Fs.nodeB F (Fs.low l):=⟨_,rfl⟩
     rw [←ht] at HTX HPL HMT hbl
     have HT:=lh ht
     obtain ⟨m,hm⟩:∃m,m=Fs.least l:=⟨_,rfl⟩
     have hlm:lst=m:=by rw [hm];exact hdr2.out
     subst hlm
     have HM:=lh hm
     rw [←hm] at HTX hbd
     have HL:=lh hl
     clear ht hm hdr2 hl
     generalize (Fs.last l).isSome=fl at *
     generalize (Fs.last l).getD 0=fo at *
     go_wp2_with fail
     refine HTX.out.mono ?_
     rintro e1 w1 ⟨rfl,hb1⟩
     have HP1:=lh (HPK.out.keep hb1)
     have HK1:Hid (KeptT [115,118,29] B w w1):=HKE.out.trans (KeptT.of_below hb1)
     obtain ⟨at3,ct3,htv,_,_⟩:=own_form HP1.out.text
     subst htv
     have g0:w1.cell? ⟨pb,0,none⟩=some (.map (some mb)):=HP1.out.pbox.cell 0
     have g1:w1.cell? ⟨tb,0,none⟩=some (.slice at3 F.length ct3):=HP1.out.tbox.cell 0
     have hkey:=keyS_of t (by unfold maxLen;omega)
     have HKEY:=lh hkey
     clear hb1 hkey
     by_cases hmem:Fs.low l∈F
     ·have HLK:Hid (plcF F (.string t)=some (.int .i64 (Fs.at_ F (Fs.low l):Nat))):=by
       show (Fs.place F t).map _=_
       rw [HPL.out,if_pos hmem]
       rfl
      have HGO:Hid (Fs.go (n+1) (Fs.low l) M=F):=by
       show _=_
       have:=HGF.out.1
       rw [if_pos hmem] at this
       exact this
      clear HPL HMT HGF
      obtain ⟨at9,hat9⟩:∃at9,at9=Fs.at_ F (Fs.low l):=⟨_,rfl⟩
      rw [←hat9] at HLK
      have HAT9:=lh hat9
      clear hat9
      go_wp2_with (at_lookup;go_loud ((refine wpList_lookOkG _ rfl _ _ 95 9 3 rfl lawS Tryz.underlying95 (.int .i64 0) zeroI mb F.length (plcF F) rfl HP1.out.map (.string (bs t)) (.string t) rfl HKEY.out ?_;rw [HLK.out])))
      go_ret2
      unfold WalkPost
      rw [←HL.out,HGO.out]
      exact ⟨by rw [←HAT9.out,←HM.out];rfl,⟨_,HP1.out⟩,HK1.out⟩
     ·have HLK:Hid (plcF F (.string t)=none):=by
       show (Fs.place F t).map _=_
       rw [HPL.out,if_neg hmem]
       rfl
      have HGO:Hid (Fs.go (n+1) (Fs.low l) M=F++[Fs.low l]):=by
       show _=_
       have:=HGF.out.1
       rw [if_neg hmem] at this
       exact this
      have hnt:t∉Fs.txt F:=fun q1=>hmem (HMT.out.1 q1)
      rw [HT.out] at hnt
      have HNT:=lh hnt
      have hatl:=Fs.at_last hmem
      have HATL:=lh hatl
      obtain ⟨iS,hiS,hyS0,hyS1,hyS2⟩:=info_parts Tryz.infoS
      have HT2:Hid (∀w2,w1.grownBy w2 (some mb)→w2.cell? ⟨tb,0,none⟩=some (.slice at3 F.length ct3)∧w2.ownsRow B 9 1 (.slice at3 F.length ct3) F.length (strV (Fs.txt F))∧B≤w2.heap.size):=fun w2 hg=>by
       have hp:=HP1.out
       have hne:∀(k:Nat) (cc:Array Value) (t:TypeId) (fz:Nat × Nat),w1.heap[k]?=some (Obj.cells cc t fz)→w2.heap[k]?=w1.heap[k]?:=fun k cc t fz hc=>hg.block k (Array.getElem?_eq_some_iff.1 hc).1 (fun e=>by
        injection e with e
        subst e
        exact hp.map.kindT cc t fz hc)
       refine ⟨(hp.tbox.keep (hne _ _ _ _ hp.tbox)).cell 0,ownsRow_keep hp.text fun k hk=>?_,?_⟩
       ·obtain ⟨_,_,cc,fz,hc⟩:=own_kind hp.text k hk
        exact hne k cc _ fz hc
       ·have:=hg.size
        have:=HK1.out.size
        omega
      have HPUT:Hid (∀w2 g5 cap5 w5,MapG 9 w2 mb (F.length+1) (updG (plcF F) (.string t) (some (.int .i64 (F.length:Int))))→w1.grownBy w2 (some mb)→w5.ownsRow B 9 1 (.slice (some ⟨g5,0,none⟩) (F.length+1) cap5) (F.length+1) (strV (Fs.txt F)++[.string (bs t)])→Grew w2 w5 (.slice at3 F.length ct3) (.slice (some ⟨g5,0,none⟩) (F.length+1) cap5)→_):=fun w2 g5 cap5 w5 h1 h2 h3 h4=>by
       rw [HT.out] at h1 h3
       exact PkA.put (l:=Fs.low l) HP1.out A1.out HLW2.out HNT.out h1 h2 h3 h4
      have hB1:B≤w1.heap.size:=by have:=HK1.out.size;omega
      clear HPL HMT HGF hnt hatl
      go_wp2_with (first | (at_lookup;go_loud ((refine wpList_lookOkG _ rfl _ _ 95 9 3 rfl lawS Tryz.underlying95 (.int .i64 0) zeroI mb F.length (plcF F) rfl HP1.out.map (.string (bs t)) (.string t) rfl HKEY.out ?_;rw [HLK.out]))) | (at_mapUpdate;go_loud ((refine wpList_storeG _ rfl _ _ _ 95 9 3 rfl lawS Tryz.underlying95 mb F.length (plcF F) rfl HP1.out.map (by unfold maxLen;omega) (.string (bs t)) (.string t) rfl HKEY.out (.int .i64 (F.length:Int)) rfl ?_;intro w2 hm2 hg2;have HM2:=lh hm2;have HG2:=lh hg2;obtain ⟨g2,_,_⟩:=HT2.out w2 hg2;clear hm2 hg2))) | (at_builtin;go_loud ((refine wpList_pushR rfl _ _ 73 9 rfl iS _ 1 16 Tryz.underlying73 hiS hyS0 hyS1 hyS2 rfl (by decide) B (HT2.out w2 HG2.out).2.2 (.slice at3 F.length ct3) F.length (strV (Fs.txt F)) rfl (HT2.out w2 HG2.out).2.1 [.string (bs t)] rfl (one_of rfl) rfl (by omega) (by omega) ?_;intro g5 cap5 w5 hown5 hgr5;obtain ⟨⟨m5,m6⟩,hq5⟩:=HPUT.out w2 g5 cap5 w5 HM2.out HG2.out hown5 hgr5;have HQ5:=lh hq5;clear hown5 hgr5 hq5))))
      go_ret2
      unfold WalkPost
      rw [←HL.out,HGO.out]
      exact ⟨by rw [HATL.out,←HM.out];rfl,⟨_,HQ5.out.1⟩,HK1.out.trans HQ5.out.2⟩
end F12
namespace F12
open Go.RowKit Go.Maps
theorem results_cell_tmp {P:Program} {fn:Func} {a u:Tmp} {t:TypeId} (h:fn.results=#[.cell a t,.tmp u]) (tmps:Array Value) (w:World) (p:Addr) (v:Value) (ha:tmps.getD a undef=.pointer (some p)) (hl:(loadVar t p).run P w=.ok v w):
  (results fn tmps).run P w=.ok (.tuple #[v,tmps.getD u undef]) w:=by
 have h2:(asAddr (tmps.getD a undef)).run P w=.ok p w:=by rw [ha];rfl
 unfold results
 rw [h]
 simp only [Sem.run_bind,List.mapM_toArray,List.mapM_cons,List.mapM_nil,h2,Result.andThen_ok,hl,Sem.run_pure,Sem.run_map]
 simp
theorem aggS (w:World):(isAgg 73).run Tryz.prog w=.ok false w:=by kernel_rfl
theorem aggN (w:World):(isAgg 115).run Tryz.prog w=.ok true w:=by kernel_rfl
theorem sizeN (w:World):(sizeOf 115).run Tryz.prog w=.ok 3 w:=by kernel_rfl
theorem loadS (w:World) (p:Addr) (v:Value) (h:w.cell? p=some v):(loadVar 73 p).run Tryz.prog w=.ok v w:=by
 unfold loadVar
 rw [Sem.run_bind,aggS]
 simp [go_sem,h]
theorem loadN (w:World) (b:Nat) (c0 c1 c2:Value) (h0:w.cell? ⟨b,0,none⟩=some c0) (h1:w.cell? ⟨b,1,none⟩=some c1) (h2:w.cell? ⟨b,2,none⟩=some c2):(loadVar 115 ⟨b,0,none⟩).run Tryz.prog w=.ok (.agg #[c0,c1,c2]) w:=by
 unfold loadVar
 rw [Sem.run_bind,aggN]
 simp only [Result.andThen_ok,if_true,Sem.run_bind,sizeN]
 have h:=run_loadCells_list (P:=Tryz.prog) w ⟨b,0,none⟩ [c0,c1,c2] (fun j v hj=>by
  match j,hj with
  | 0,hj=>simp at hj;subst hj;simpa [Addr.add] using h0
  | 1,hj=>simp at hj;subst hj;simpa [Addr.add] using h1
  | 2,hj=>simp at hj;subst hj;simpa [Addr.add] using h2)
 rw [show [c0,c1,c2].length=3 from rfl] at h
 rw [h]
 rfl
end F12
namespace F12
open Go.RowKit Go.Maps
namespace Fs
theorem cut_zero (l:List En):cut 0 l=l:=by
 unfold cut
 rw [show (fun e:En=>(e.1.drop 0,e.2))=id from funext fun e=>by simp]
 exact List.map_id l
theorem fine_deep {l:List En} (h:Fine l):deep l≤64:=deep_of fun e he=>(h.some e he).2
theorem join_flat (S:List (List UInt8)):Lib.join S []=S.flatMap id:=by
 cases S with
 | nil=>rfl
 | cons x r=>
  rw [Lib.join_cons,List.flatMap_cons]
  show x++Lib.joinTail [] r=x++r.flatMap id
  unfold Lib.joinTail
  simp [List.flatMap]
end Fs
theorem pkA_made (w:World):PkA ((((w.alloc (.cells #[.slice none 0 0] 73)).alloc (.map #[] 0)).alloc (.cells #[.map (some (w.heap.size+1))] 95)).alloc (.cells #[.func (.func 62) #[] #[.pointer (some ⟨w.heap.size+1+1+1,0,none⟩),.pointer (some ⟨w.heap.size+1+1,0,none⟩),.pointer (some ⟨w.heap.size,0,none⟩)]] 112)) w.heap.size w.heap.size (w.heap.size+1+1) (w.heap.size+1) (w.heap.size+1+1+1) (.slice none 0 0) []:=by
 have s1:(w.alloc (.cells #[.slice none 0 0] 73)).heap.size=w.heap.size+1:=World.size_alloc _ _
 have s2:((w.alloc (.cells #[.slice none 0 0] 73)).alloc (.map #[] 0)).heap.size=w.heap.size+1+1:=by rw [World.size_alloc,s1]
 have s3:(((w.alloc (.cells #[.slice none 0 0] 73)).alloc (.map #[] 0)).alloc (.cells #[.map (some (w.heap.size+1))] 95)).heap.size=w.heap.size+1+1+1:=by rw [World.size_alloc,s2]
 refine ⟨?_,?_,?_,Nat.le_refl _,by omega,World.ownsRow_nil _ _ _ _,?_⟩
 ·unfold RowT
  rw [Go.Deep.blk_alloc_lt _ _ _ (by omega),Go.Deep.blk_alloc_lt _ _ _ (by omega),Go.Deep.blk_alloc_lt _ _ _ (by omega)]
  exact Go.Deep.blk_alloc_new _ _
 ·unfold RowT
  rw [Go.Deep.blk_alloc_lt _ _ _ (by omega),←s2]
  exact Go.Deep.blk_alloc_new _ _
 ·unfold RowT
  rw [←s3]
  exact Go.Deep.blk_alloc_new _ _
 ·have h:=mapG_made 9 (w.alloc (.cells #[.slice none 0 0] 73))
  rw [s1] at h
  have h2:=(h.keep (w':=(((w.alloc (.cells #[.slice none 0 0] 73)).alloc (.map #[] 0)).alloc (.cells #[.map (some (w.heap.size+1))] 95)).alloc (.cells #[.func (.func 62) #[] #[.pointer (some ⟨w.heap.size+1+1+1,0,none⟩),.pointer (some ⟨w.heap.size+1+1,0,none⟩),.pointer (some ⟨w.heap.size,0,none⟩)]] 112)) (by rw [Go.Deep.blk_alloc_lt _ _ _ (by omega),Go.Deep.blk_alloc_lt _ _ _ (by omega)]))
  refine h2.congr fun kl _=>?_
  cases kl <;> rfl
def NetPost (w:World) (N:List (List Fs.En)) (m:Int) (e:Ending) (w':World):Prop:=
 ∃v,e=.returned (.tuple #[v,.int .i64 m])∧w'.ownsRow w.heap.size 9 1 v N.length (strV (Fs.txt N))∧Below w.heap.size w w'
theorem network_any (w:World) (v:Value) (l:List Fs.En) (h:EnS w v l) (hr:Fs.right l=0) (hmx:∀e∈l,e.2≤9223372036854775807):
  Calls Tryz.prog 40 #[v] w (NetPost w (Fs.nodes l) (Fs.least l)):=by
 have hf:=Fs.right_ok hr
 have hLw:=Fs.fine_lw hf hmx
 obtain ⟨a,cap,rfl,hx,hx',hu⟩:=h
 have hmm:=@run_makeMap Tryz.prog
 have hsf:∀(a:Addr) (F:Fn) (T:Array Value) (C:Array Value) (m:Mode) (w:World),(store a (.func F T C) m).run Tryz.prog w=stored Tryz.prog w a (.func F T C) m:=fun a F T C m w=>run_store Tryz.prog w a (.func F T C) m rfl
 rcases Nat.eq_zero_or_pos l.length with h0 | h0
 ·obtain rfl:l=[]:=List.length_eq_zero_iff.1 h0
  have HN:Hid (Fs.nodes []=[]):=if_pos rfl
  have HL:Hid (Fs.least []=0):=rfl
  rw [h0]
  clear hu hf hLw h0 hr hmx
  go_enter Tryz.func40,Tryz.ntmps40
  go_wp2_with fail
  try simp only [Exit.inBlock,Exit.then]
  refine bodyPost_ret (results_cell_tmp rfl _ _ ⟨w.heap.size,0,none⟩ (.slice none 0 0) rfl (loadS _ _ _ (by rw [World.cell?_alloc_at _ _ _ _ rfl];rfl))) rfl ?_
  refine ⟨_,by rw [HL.out];rfl,?_,(Below.refl _ _).alloc (Nat.le_refl _) _⟩
  rw [HN.out]
  exact World.ownsRow_nil _ _ _ _
 ·obtain ⟨g,o,rfl,hg,hC⟩:=hu h0
  have hne:l≠[]:=List.length_pos_iff.1 h0
  have hlw0:∀B tb pb mb wb tv W,PkA W B tb pb mb wb tv []→EnC W g o l→g<B→B≤W.heap.size→Calls Tryz.prog 62 #[.slice (some ⟨g,o,none⟩) l.length cap,.int .i64 0,.pointer (some ⟨wb,0,none⟩),.pointer (some ⟨pb,0,none⟩),.pointer (some ⟨tb,0,none⟩)] W (WalkPost W B tb pb mb wb l (Fs.nodes l)):=fun B tb pb mb wb tv W h1 h2 h3 h4=>by
   have hd:=Fs.fine_deep hf
   have ht:=Fs.fine_total hf
   have h5:=walkP_any (Fs.deep l+1) l 0 [] W B tb pb mb wb tv g o cap h1 h2 h3 h4 h0 hx hx' (fun e _=>Nat.zero_le _) (by rw [Fs.cut_zero];exact hf.rise) (by rw [Fs.cut_zero];exact hLw) (by rw [Fs.cut_zero];omega) hf.few Fs.net_nil (fun _ q=>by cases q) (by rw [Fs.cut_zero];show 0+1+Fs.total l≤_;omega) (by omega)
   rw [Fs.cut_zero] at h5
   have e:Fs.nodes l=Fs.go (Fs.deep l+1) (Fs.low l) []:=by unfold Fs.nodes;rw [if_neg hne]
   rw [e]
   exact h5
  have HCALL:=lh hlw0
  have HC:=lh hC
  obtain ⟨n0,hn0⟩:∃n0,n0=l.length:=⟨_,rfl⟩
  rw [←hn0] at HCALL h0 hx ⊢
  have i0:((n0:Int)==0)=false:=by rw [beq_eq_false_iff_ne];omega
  clear hlw0 hC hu hf hLw hr hmx hne hn0
  go_enter Tryz.func40,Tryz.ntmps40
  go_wp2_with fail
  refine (HCALL.out w.heap.size w.heap.size (w.heap.size+1+1) (w.heap.size+1) (w.heap.size+1+1+1) (.slice none 0 0) _ (pkA_made w) (HC.out.below (((((Below.refl w.heap.size w).alloc (Nat.le_refl _) _).alloc (by simp) _).alloc (by simp;omega) _).alloc (by simp;omega) _) hg) hg (by simp;omega)).mono ?_
  rintro e1 w1 ⟨rfl,hp1,hk1⟩
  obtain ⟨tv1,hp1⟩:=hp1
  have HK1:Hid (Below w.heap.size w w1):=hk1.below (((((Below.refl w.heap.size w).alloc (Nat.le_refl _) _).alloc (by simp) _).alloc (by simp;omega) _).alloc (by simp;omega) _) (by simp;omega)
  have HT1:=lh hp1.text
  have hb1:=hp1.tbox
  obtain ⟨at1,ct1,htv,_,_⟩:=own_form hp1.text
  subst htv
  have c1:w1.cell? ⟨w.heap.size,0,none⟩=some (.slice at1 (Fs.nodes l).length ct1):=hb1.cell 0
  have f1:w1.frozen? ⟨w.heap.size,0,none⟩=false:=hb1.frozen 0
  have HSET:Hid (Below w.heap.size w (w1.setCell ⟨w.heap.size,0,none⟩ (.slice at1 (Fs.nodes l).length ct1))):=HK1.out.setCell (by exact Nat.le_refl _) _
  have HT2:Hid ((w1.setCell ⟨w.heap.size,0,none⟩ (.slice at1 (Fs.nodes l).length ct1)).ownsRow w.heap.size 9 1 (.slice at1 (Fs.nodes l).length ct1) (Fs.nodes l).length (strV (Fs.txt (Fs.nodes l)))):=ownsRow_keep HT1.out fun k hk=>heap_other _ _ _ _ _ (fun e=>by
   subst e
   obtain ⟨_,_,cc,ff,hh⟩:=own_kind HT1.out _ hk
   have:=kind_inj hh hb1
   revert this
   decide)
  have c2:(w1.setCell ⟨w.heap.size,0,none⟩ (.slice at1 (Fs.nodes l).length ct1)).cell? ⟨w.heap.size,0,none⟩=some (.slice at1 (Fs.nodes l).length ct1):=(hb1.set 0 _).cell 0
  clear hp1 hk1 hb1 HT1 HK1 HCALL HC
  obtain ⟨nl,hnl⟩:∃nl,nl=(Fs.nodes l).length:=⟨_,rfl⟩
  rw [←hnl] at c1 HSET HT2 c2
  have HNL:=lh hnl
  clear hnl
  go_wp2_with fail
  generalize w1.setCell ⟨w.heap.size,0,none⟩ (.slice at1 nl ct1)=w2 at *
  try simp only [Exit.inBlock,Exit.then]
  refine bodyPost_ret (results_cell_tmp rfl _ _ ⟨w.heap.size,0,none⟩ (.slice at1 nl ct1) rfl (loadS _ _ _ c2)) rfl ?_
  exact ⟨_,rfl,by rw [←HNL.out];exact HT2.out,HSET.out⟩
theorem join_any (w:World) (B:Nat) (v:Value) (n:Nat) (S:List (List UInt8)) (h:w.ownsRow B 9 1 v n (strV S)) (hn:n=S.length) (hS:S.length≤8388608) (hf:(S.flatMap id).length≤140737488355328):
  Calls Tryz.prog 41 #[v,.string ⟨#[]⟩] w fun e w'=>e=.returned (.string (bs (S.flatMap id)))∧Below w.heap.size w w':=by
 rcases h.2 with ⟨rfl,h0⟩ | ⟨g,cap,cur,rfl,hg,hh,hnc,hcp,hcs,htake⟩
 ·have hS0:S=[]:=List.length_eq_zero_iff.1 (by omega)
  subst hS0
  refine (Tryz.strings_Join_none none 0 ⟨#[]⟩ w).mono ?_
  rintro e w' ⟨rfl,rfl⟩
  exact ⟨rfl,Below.refl _ _⟩
 ·have hmap:(S.map bs).map (fun x=>x.data.toList)=S:=by
   rw [List.map_map,show (fun x:ByteArray=>x.data.toList) ∘ bs=id from funext fun t=>bs_data t]
   exact List.map_id S
  have hlen:(S.map bs).length=n:=by rw [List.length_map,hn]
  have h1:=Tryz.strings_Join g 0 cap (S.map bs) ⟨#[]⟩ w (fun j x hx=>by
   have:=h.cells (g:=g) rfl j (.string x) (by
    unfold strV
    rw [List.getElem?_map] at hx ⊢
    cases hj:S[j]? with
    | none=>rw [hj] at hx;cases hx
    | some t=>
     rw [hj] at hx
     simp only [Option.map_some,Option.some.injEq] at hx ⊢
     rw [hx])
   rw [Addr.add_lit,Nat.zero_add] at this
   rw [Nat.zero_add]
   exact this) (h.lt g rfl).2 (by omega) (by omega) (by rw [hmap];show (Lib.join S []).length≤_;rw [Fs.join_flat];exact hf)
  rw [hmap,hlen] at h1
  refine h1.mono ?_
  rintro e w' ⟨rfl,hb⟩
  refine ⟨?_,hb⟩
  show Ending.returned (Value.string ⟨(Lib.join S []).toArray⟩)=_
  rw [Fs.join_flat]
  rfl
theorem build_any (w:World) (v:Value) (l:List Fs.En) (h:EnS w v l) (hmx:∀e∈l,e.2≤9223372036854775807):
  Calls Tryz.prog 20 #[v] w (BuildPost w l):=by
 have hc:=check_any w v l h
 have HS:=lh h
 unfold BuildPost
 obtain ⟨av,cv,hv,_,_,_⟩:=h
 by_cases he:Fs.right l=0
 ·have hf:=Fs.right_ok he
  have HB:=lh (Fs.built_yes he)
  have HE:=lh he
  have hn:=Fs.nodes_mx hf
  have hLw:=Fs.fine_lw hf hmx
  have hbd:=Fs.least_bd hLw
  unfold Fs.mx at hbd
  have HNW:Hid (∀wx,Below w.heap.size w wx→Calls Tryz.prog 40 #[v] wx (NetPost wx (Fs.nodes l) (Fs.least l))):=fun wx hb=>network_any wx v l (HS.out.below hb (Nat.le_refl _)) he hmx
  rw [he] at hc
  have HC:=lh hc
  obtain ⟨N,hN⟩:∃N,N=Fs.nodes l:=⟨_,rfl⟩
  obtain ⟨m,hm⟩:∃m,m=Fs.least l:=⟨_,rfl⟩
  rw [←hN] at HNW hn
  rw [←hm] at HNW hbd
  have HTL:=lh (Fs.txt_len N)
  have hfl:=Fs.flat_len (Fs.txt N) HTL.out
  have htl:=Fs.txt_length N
  have HBY:Hid (Fs.built l=(Pl.numB (N.length:Int)++Pl.numB m)++(Fs.txt N).flatMap id):=by
   show _=_
   rw [HB.out]
   unfold Fs.bytes
   rw [←hN,←hm,List.append_assoc]
  have n1:=numB_length (N.length:Int)
  have n2:=numB_length m
  unfold NetPost at HNW
  obtain ⟨n,hnn⟩:∃n,n=N.length:=⟨_,rfl⟩
  rw [←hnn] at HNW hn htl HBY n1
  rw [htl] at hfl
  obtain ⟨b1,hb1⟩:∃b1,b1=Pl.numB (n:Int)++Pl.numB m:=⟨_,rfl⟩
  rw [←hb1] at HBY
  have hb1l:b1.length≤18:=by rw [hb1,List.length_append];omega
  have HNUM:Hid (∀wx g,wx.cell? ⟨g,0,none⟩=some (.int .i64 (n:Int))→wx.cell? ⟨g,1,none⟩=some (.int .i64 m)→g<wx.heap.size→Calls Tryz.prog 36 #[.slice (some ⟨g,0,none⟩) 2 2] wx fun e w'=>e=.returned (.string (bs b1))∧Below wx.heap.size wx w'):=fun wx g h0 h1 hg=>by
   have h5:=nums_any wx [(n:Int),m] 2 2 g 0 (by omega) rfl hg (fun j hj=>by
    match j,hj with
    | 0,_=>exact h0
    | 1,_=>exact h1) (fun x hx=>by
    simp only [List.mem_cons,List.mem_nil_iff,or_false] at hx
    rcases hx with rfl | rfl <;> omega)
   have e:Pl.numsB [(n:Int),m]=b1:=by rw [hb1];simp [Pl.numsB]
   rw [e] at h5
   exact h5
  have HNN:=lh hnn
  have HTLN:=lh htl
  clear hc hf hLw he hN hm hmx hb1 hnn HB n1 n2
  subst hv
  have HJ:Hid (∀wx B v,wx.ownsRow B 9 1 v n (strV (Fs.txt N))→Calls Tryz.prog 41 #[v,.string ⟨#[]⟩] wx fun e w'=>e=.returned (.string (bs ((Fs.txt N).flatMap id)))∧Below wx.heap.size wx w'):=fun wx B v h=>join_any wx B v n (Fs.txt N) h HTLN.out.symm (by rw [HTLN.out];omega) (by omega)
  obtain ⟨b2,hb2⟩:∃b2,b2=(Fs.txt N).flatMap id:=⟨_,rfl⟩
  rw [←hb2] at HJ HBY hfl
  have HCAT:Hid (bs b1++bs b2=bs (Fs.built l)):=by show _=_;rw [bs_append,HBY.out]
  have p1:¬9223372036854775807<(bs b1).size+(bs b2).size:=by rw [bs_size,bs_size];omega
  clear hb2 htl hfl hb1l
  generalize bs b1=S1 at *
  generalize bs b2=S2 at *
  obtain ⟨lv,hlv⟩:∃lv,lv=l.length:=⟨_,rfl⟩
  rw [←hlv] at HC HNW ⊢
  clear hlv
  go_enter Tryz.func20,Tryz.ntmps20
  go_wp2_with (first | (go_at_call 39;go_loud ((refine HC.out.mono ?_;rintro e1 w1 ⟨rfl,hb1⟩;have HB1:=lh hb1;clear hb1))) | (go_at_call 40;go_loud ((refine (HNW.out w1 HB1.out).mono ?_;rintro e2 w2 ⟨v2,rfl,ho2,hb2⟩;obtain ⟨a2,c2,hv2,_,_⟩:=own_form ho2;subst hv2;have HO2:=lh ho2;have HB2:Hid (Below w.heap.size w w2):=HB1.out.trans (hb2.mono HB1.out.size);clear ho2 hb2))) | (go_at_call 36;go_loud ((refine (HNUM.out (w2.alloc (.cells #[.int .i64 (n:Int),.int .i64 m] 3)) w2.heap.size (by simp) (by simp) (by simp)).mono ?_;rintro e3 w3 ⟨rfl,hb3⟩;have HB3:Hid (Below w2.heap.size w2 w3):=((Below.refl _ _).alloc (Nat.le_refl _) _).trans (hb3.mono (by simp));clear hb3))) | (go_at_call 41;go_loud ((refine (HJ.out w3 _ _ (ownsRow_keep HO2.out fun k hk=>HB3.out.block k (own_kind HO2.out k hk).2.1)).mono ?_;rintro e4 w4 ⟨rfl,hb4⟩;have HB4:Hid (Below w.heap.size w w4):=HB2.out.trans ((HB3.out.trans (hb4.mono HB3.out.size)).mono HB2.out.size);clear hb4))))
  go_ret2
  exact ⟨by rw [HE.out,←HCAT.out];rfl,HB4.out⟩
 ·have HB:=lh (Fs.built_no he)
  have hne:(Fs.right l==0)=false:=by rw [beq_eq_false_iff_ne];exact he
  have HC:=lh hc
  clear he hc HS hv hmx
  generalize Fs.right l=r at *
  go_enter Tryz.func20,Tryz.ntmps20
  go_wp2_with (go_at_call 39;refine HC.out.mono ?_;rintro e1 w1 ⟨rfl,hb1⟩;have HB1:=lh hb1;clear hb1)
  go_ret2
  exact ⟨by rw [HB.out];rfl,HB1.out⟩
end F12
namespace F12
open Go.RowKit Go.Maps
section
variable {P:Program} (w:World)
theorem run_append_keep (base:Nat) (t ty e:TypeId) (i:TypeInfo) (z:Value) (size bytes:Nat) (ht:P.underlying t=some (.slice e)) (hi:P.info? e=some i) (hz:i.zero=some z)
  (hsize:i.size=size) (hby:i.bytes=bytes) (hzs:z.cells.size=size) (hsz:0<size)
  (v:Value) (n:Nat) (xs:List Value) (hown:w.ownsRow base e size v n xs)
  (a:Addr) (m c:Nat) (news:List Value) (hm:0<m) (hl:news.length=m*size) (hnews:∀j u,news[j]?=some u→w.cell? (a.add j)=some u) (h1:∀u∈news,u.oneCell'=true)
  (h63:n+m≤maxLen) (hbytes:(n+m)*bytes≤140737488355328) (hbase:base≤w.heap.size):
  ∃g cap w',(Builtin.append_ #[t,t] ty #[v,.slice (some a) m c]).run P w=.ok (.slice (some ⟨g,0,none⟩) (n+m) cap) w'∧w'.ownsRow base e size (.slice (some ⟨g,0,none⟩) (n+m) cap) (n+m) (xs++news)∧w'.ownsRow base e size v n xs∧Grew w w' v (.slice (some ⟨g,0,none⟩) (n+m) cap):=by
 obtain ⟨v',w',hr,h2,h3⟩:=run_append_two (P:=P) w base t ty e i z size bytes ht hi hz hsize hby hzs hsz v n xs hown a m c news hl hnews h1 h63 hbytes hbase
 have hv':∃g cap,v'=.slice (some ⟨g,0,none⟩) (n+m) cap:=by
  rcases h2.2 with ⟨_,h0⟩ | ⟨g,cap,cur,h4,_⟩
  ·omega
  ·exact ⟨g,cap,h4⟩
 obtain ⟨g',cap',rfl⟩:=hv'
 refine ⟨g',cap',w',hr,h2,?_,?_⟩
 ·rcases hown.2 with ⟨rfl,h0⟩ | ⟨g,cap,cur,rfl,hbg,hg,hnc,hcm,hcs,htake⟩
  ·exact ⟨hown.1,.inl ⟨rfl,h0⟩⟩
  ·by_cases hroom:n+m≤cap
   ·have hfit:n*i.size+news.length≤cur.size:=by rw [hl,hcs,hsize,←Nat.add_mul];exact Nat.mul_le_mul_right _ hroom
    have hr2:=run_append_room (P:=P) w t ty e i ht hi g n cap cur hg a m c news (by rw [hsize];exact hl) hnews h1 hroom hfit
    rw [hr] at hr2
    injection hr2 with _ e2
    subst e2
    refine ⟨hown.1,.inr ⟨g,cap,_,rfl,hbg,setRow_heap w g cur _ _ _ hg,hnc,hcm,?_,?_⟩⟩
    ·rw [←hcs]
     simp only [List.size_toArray,List.length_append,List.length_take,List.length_drop,Array.length_toList]
     omega
    ·have hxl:(cur.toList.take (n*i.size)).length=n*size:=by
      rw [List.length_take,Array.length_toList,hsize]
      have:n*size≤cap*size:=Nat.mul_le_mul_right _ hnc
      omega
     rw [List.append_assoc,List.toList_toArray]
     rw [List.take_append_of_le_length (by omega),←hxl,List.take_length,hsize]
     exact htake
   ·rcases h3 with ⟨h3,h4⟩ | ⟨h3,h4⟩
    ·
     have holds:∀j u,xs[j]?=some u→w.cell? ((⟨g,0,none⟩:Addr).add j)=some u:=hown.cells (g:=g) rfl
     obtain ⟨v2,w2,hr2,h6,h7⟩:=run_append_arg_grows (P:=P) w t ty e i z size bytes ht hi hz hsize hby hzs hsz ⟨g,0,none⟩ n cap xs hown.1 holds a m c news hl hnews (by omega) h63 hbytes
     rw [hr] at hr2
     injection hr2 with _ e2
     subst e2
     exact ownsRow_keep hown fun k hk=>h7.block k (hown.lt k hk).2 (fun e=>by cases e)
    ·exact ownsRow_keep hown fun k hk=>h4.block k (hown.lt k hk).2 (fun e=>by cases e)
 ·rcases h3 with ⟨h3,h4⟩ | ⟨h3,h4⟩
  ·exact ⟨⟨h4.os,h4.tape,h4.output,h4.size,fun k hk hf=>h4.block k hk (fun q=>hf q.symm)⟩,fun b hb=>.inl (h3 ▸ hb)⟩
  ·exact ⟨⟨h4.os,h4.tape,h4.output,h4.size,fun k hk _=>h4.block k hk (fun q=>by cases q)⟩,fun b hb=>.inr (h3 b hb)⟩
theorem wp_push_keep {ops:Array Oper} {o:Oper} {a:Act} {K:Act→World→Prop} {Q:Exit→Act→World→Prop} {E:Prop} (hgd:o.guard=none) (s x:Operand) (t:TypeId)
  (ho:o.op=.call { callee:=.builtin .append,args:=#[s,x],argTypes:=#[t,t]})
  (base:Nat) (e:TypeId) (i:TypeInfo) (z:Value) (size bytes:Nat) (ht:P.underlying t=some (.slice e)) (hi:P.info? e=some i) (hz:i.zero=some z)
  (hsize:i.size=size) (hby:i.bytes=bytes) (hzs:z.cells.size=size) (hsz:0<size)
  (v:Value) (n:Nat) (xs:List Value) (hs:a.eval s=v) (hown:w.ownsRow base e size v n xs)
  (ad:Addr) (m c:Nat) (news:List Value) (hx:a.eval x=.slice (some ad) m c) (hm:0<m) (hl:news.length=m*size) (hnews:∀j u,news[j]?=some u→w.cell? (ad.add j)=some u) (h1:∀u∈news,u.oneCell'=true)
  (h63:n+m≤maxLen) (hbytes:(n+m)*bytes≤140737488355328) (hbase:base≤w.heap.size)
  (h:∀g cap w',w'.ownsRow base e size (.slice (some ⟨g,0,none⟩) (n+m) cap) (n+m) (xs++news)→w'.ownsRow base e size v n xs→Grew w w' v (.slice (some ⟨g,0,none⟩) (n+m) cap)→K (a.put o.dst (.slice (some ⟨g,0,none⟩) (n+m) cap)) w'):
  if Region.wanted o (yielded ops a.tmps)=true then Oper.wp P o a w K Q else E:=by
 have hw:Region.wanted o (yielded ops a.tmps)=true:=by simp [Region.wanted,hgd]
 rw [if_pos hw]
 obtain ⟨g,cap,w',hr,h2,h3,h4⟩:=run_append_keep (P:=P) w base t o.type e i z size bytes ht hi hz hsize hby hzs hsz v n xs hown ad m c news hm hl hnews h1 h63 hbytes hbase
 unfold Oper.wp execOp
 simp only [ho,resolve,invoke,builtin,Sem.run_bind,Sem.run_pure,Result.andThen_ok,List.map_toArray,List.map_cons,List.map_nil,hs,hx,hr]
 exact h g cap w' h2 h3 h4
end
def NodS (w:World) (v:Value) (N:List Fs.Nd):Prop:=
 ∃a cap,v=.slice a N.length cap∧N.length≤cap∧cap≤9223372036854775807∧(0<N.length→∃g,a=some ⟨g,0,none⟩∧g<w.heap.size∧∀i (_:i<N.length),∃wv,WayS w wv N[i].2∧w.cell? ⟨g,i*3,none⟩=some (.bool N[i].1.isSome)∧w.cell? ⟨g,i*3+1,none⟩=some (.int .i64 (N[i].1.getD 0))∧w.cell? ⟨g,i*3+2,none⟩=some wv)
theorem NodS.below {w w':World} {v:Value} {N:List Fs.Nd} (h:NodS w v N) (hb:Below w.heap.size w w'):NodS w' v N:=by
 obtain ⟨a,cap,h1,h2,h3,h4⟩:=h
 refine ⟨a,cap,h1,h2,h3,fun h0=>?_⟩
 obtain ⟨g,h5,h6,h7⟩:=h4 h0
 refine ⟨g,h5,Nat.lt_of_lt_of_le h6 hb.size,fun i hi=>?_⟩
 obtain ⟨wv,k1,k2,k3,k4⟩:=h7 i hi
 exact ⟨wv,k1.below hb (Nat.le_refl _),(hb.cell (p:=⟨g,i*3,none⟩) h6).trans k2,(hb.cell (p:=⟨g,i*3+1,none⟩) h6).trans k3,(hb.cell (p:=⟨g,i*3+2,none⟩) h6).trans k4⟩
def DicS (w:World) (db:Nat) (N:List Fs.Nd) (least:Int) (terms:Nat):Prop:=∃nv,RowT 135 w db #[nv,.int .i64 least,.int .i64 (terms:Int)]∧NodS w nv N
theorem DicS.below {w w':World} {db:Nat} {N:List Fs.Nd} {least:Int} {terms:Nat} (h:DicS w db N least terms) (hb:Below w.heap.size w w'):DicS w' db N least terms:=by
 obtain ⟨nv,h1,h2⟩:=h
 exact ⟨nv,h1.keep (hb.block _ h1.lt),h2.below hb⟩
namespace Fs
structure Rel (N:List Nd) (T:List (List En)):Prop where
 len:T.length=N.length
 ent:∀i (h:i<N.length) (h':i<T.length),T[i]=ent (T.take i) N[i]
 ahead:∀i (h:i<N.length),∀w∈N[i].2,w.2.2<i
 size:∀t∈T,t.length≤65536∧deep t≤64
 full:∀t∈T,t≠[]
def off (b:List UInt8) (out:Int) (l:List En):List En:=l.map fun e=>(b++e.1,wrap64 (e.2+out))
theorem wrap_wrap (a b:Int):wrap64 (wrap64 a+b)=wrap64 (a+b):=by unfold wrap64;omega
theorem off_up (b:List UInt8) (out:Int) (c:UInt8) (m:Int) (l:List En):off b out (upW c m l)=off (b++[c]) (wrap64 (out+m)) l:=by
 unfold off upW
 rw [List.map_map]
 refine List.map_congr_left fun e _=>?_
 show (b++c :: e.1,wrap64 (wrap64 (e.2+m)+out))=(b++[c]++e.1,wrap64 (e.2+wrap64 (out+m)))
 rw [wrap_wrap,Int.add_comm e.2 (wrap64 (out+m)),wrap_wrap]
 congr 1
 ·simp
 ·congr 1;omega
theorem off_end (b:List UInt8) (out:Int) (o:Option Int):off b out (ofEnd o)=match o with
 | some v=>[(b,wrap64 (out+v))]
 | none=>[]:=by
 cases o with
 | none=>rfl
 | some v=>
  show [(b++[],wrap64 (v+out))]=_
  rw [List.append_nil,Int.add_comm]
end Fs
end F12
namespace F12
open Go.RowKit Go.Maps
theorem wrapEq (x:Int):IntKind.i64.wrap x=wrap64 x:=by rw [IntKind.wrap_i64];simp only [wrap64]
structure AlS (w0 wx:World) (d1 lb wb db:Nat) (N:List Fs.Nd) (least:Int) (terms:Nat) (lv:Value) (acc:List Fs.En):Prop where
 dbox:RowT 23 wx d1 #[.pointer (some ⟨db,0,none⟩)]
 lbox:RowT 22 wx lb #[lv]
 wbox:RowT 172 wx wb #[.func (.func 93) #[] #[.pointer (some ⟨d1,0,none⟩),.pointer (some ⟨lb,0,none⟩),.pointer (some ⟨wb,0,none⟩)]]
 list:OwnE wx w0.heap.size lv acc
 base:w0.heap.size≤lb
 bel:Below w0.heap.size w0 wx
structure KeptX (bv:Value) (B:Nat) (w w':World):Prop where
 kept:KeptT [115,118,23,172] B w w'
 bytes:∀(k:Nat) (c:Array Value) (fz:Nat × Nat),w.heap[k]?=some (Obj.cells c 5 fz)→bv.ownBlock≠some k→w'.heap[k]?=w.heap[k]?
theorem KeptX.of_below {bv:Value} {B:Nat} {w w':World} (h:Below w.heap.size w w'):KeptX bv B w w':=⟨KeptT.of_below h,fun k _ _ hc _=>h.block k (Array.getElem?_eq_some_iff.1 hc).1⟩
theorem KeptX.trans {bv:Value} {B:Nat} {w w' w'':World} (h:KeptX bv B w w') (k:KeptX bv B w' w''):KeptX bv B w w'':=
 ⟨h.kept.trans k.kept,fun i c fz hc hb=>by
  have e:=h.bytes i c fz hc hb
  exact (k.bytes i c fz (e.trans hc) hb).trans e⟩
def AllPost (w0 w:World) (d1 lb wb db:Nat) (N:List Fs.Nd) (least:Int) (terms:Nat) (bv:Value) (b:List UInt8) (acc:List Fs.En) (e:Ending) (w':World):Prop:=
 e=.returned (.tuple #[])∧(∃lv,AlS w0 w' d1 lb wb db N least terms lv acc)∧OwnB w' w0.heap.size bv b∧KeptX bv w0.heap.size w w'
theorem AlS.keep {w0 wx w':World} {d1 lb wb db:Nat} {N:List Fs.Nd} {least:Int} {terms:Nat} {lv:Value} {acc:List Fs.En} (h:AlS w0 wx d1 lb wb db N least terms lv acc) (hb:Below wx.heap.size wx w'):AlS w0 w' d1 lb wb db N least terms lv acc:=
 ⟨h.dbox.keep (hb.block _ h.dbox.lt),h.lbox.keep (hb.block _ h.lbox.lt),h.wbox.keep (hb.block _ h.wbox.lt),ownsRow_keep h.list fun k hk=>hb.block k (own_kind h.list k hk).2.1,h.base,h.bel.trans (hb.mono h.bel.size)⟩
theorem AlS.grew {w0 wx w':World} {d1 lb wb db:Nat} {N:List Fs.Nd} {least:Int} {terms n:Nat} {lv bv bv':Value} {acc:List Fs.En} {xs:List Value} (h:AlS w0 wx d1 lb wb db N least terms lv acc) (hg:Grew wx w' bv bv') (ho:wx.ownsRow w0.heap.size 5 1 bv n xs):AlS w0 w' d1 lb wb db N least terms lv acc:=by
 have k:=hg.keptT (T:=[23,22,172,29]) ho (by decide)
 exact ⟨h.dbox.keep (k.kind _ _ _ _ h.dbox (by decide)),h.lbox.keep (k.kind _ _ _ _ h.lbox (by decide)),h.wbox.keep (k.kind _ _ _ _ h.wbox (by decide)),ownsRow_kt h.list k (by decide),h.base,hg.below h.bel h.bel.size fun q hq=>(own_kind ho q hq).1⟩
theorem KeptX.grew {w w':World} {B n:Nat} {bv bv':Value} {xs:List Value} (hg:Grew w w' bv bv') (ho:w.ownsRow B 5 1 bv n xs):KeptX bv B w w':=
 ⟨hg.keptT ho (by decide),fun k _ _ hc hb=>hg.far (Array.getElem?_eq_some_iff.1 hc).1 hb⟩
theorem own_after {W w2:World} {B n g cap:Nat} {bv:Value} {xs:List Value} {x:Value} (hW:W.ownsRow B 5 1 bv n xs) (hW':W.ownsRow B 5 1 (.slice (some ⟨g,0,none⟩) (n+1) cap) (n+1) (xs++[x])) (h2:w2.ownsRow B 5 1 (.slice (some ⟨g,0,none⟩) (n+1) cap) (n+1) (xs++[x]))
  (hk:∀(k:Nat) (c:Array Value) (fz:Nat × Nat),W.heap[k]?=some (Obj.cells c 5 fz)→g≠k→w2.heap[k]?=W.heap[k]?):w2.ownsRow B 5 1 bv n xs:=by
 rcases hW.2 with ⟨rfl,h0⟩ | ⟨g1,cap1,cur1,rfl,hbg,hh,hnc,hcm,hcs,htake⟩
 ·exact ⟨hW.1,.inl ⟨rfl,h0⟩⟩
 ·by_cases e:g=g1
  ·subst e
   rcases hW'.2 with ⟨q,_⟩ | ⟨g3,cap3,cur3,q3,_,hh3,_,_,hcs3,_⟩
   ·cases q
   ·simp only [Value.slice.injEq,Option.some.injEq,Addr.mk.injEq,and_true,true_and] at q3
    obtain ⟨rfl,rfl⟩:=q3
    rcases h2.2 with ⟨q,_⟩ | ⟨g4,cap4,cur4,q4,_,hh4,_,_,hcs4,ht4⟩
    ·cases q
    ·simp only [Value.slice.injEq,Option.some.injEq,Addr.mk.injEq,and_true,true_and] at q4
     obtain ⟨rfl,rfl⟩:=q4
     have e1:cur1=cur3:=by
      rw [hh] at hh3
      injection hh3 with hh3
      injection hh3
     subst e1
     have hc:cap1=cap:=by omega
     refine ⟨hW.1,.inr ⟨g,cap1,cur4,rfl,hbg,hh4,hnc,hcm,by omega,?_⟩⟩
     have h5:=congrArg (List.take (n*1)) ht4
     rw [List.take_take,Nat.min_eq_left (by omega),List.take_append_of_le_length (by rw [hW.1];exact Nat.le_refl _)] at h5
     rw [h5]
     exact List.take_of_length_le (by rw [hW.1];exact Nat.le_refl _)
  ·exact ⟨hW.1,.inr ⟨g1,cap1,cur1,rfl,hbg,(hk g1 _ _ hh e).trans hh,hnc,hcm,hcs,htake⟩⟩
end F12
namespace F12
open Go.RowKit Go.Maps
namespace Fs
theorem off_append (b:List UInt8) (out:Int) (l k:List En):off b out (l++k)=off b out l++off b out k:=by unfold off;rw [List.map_append]
theorem off_length (b:List UInt8) (out:Int) (l:List En):(off b out l).length=l.length:=List.length_map _
theorem deep_append (l k:List En):deep (l++k)=max (deep l) (deep k):=by
 induction l with
 | nil=>show deep k=max 0 (deep k);omega
 | cons e l ih=>
  show max e.1.length (deep (l++k))=max (max e.1.length (deep l)) (deep k)
  rw [ih];omega
theorem upW_length (c:UInt8) (m:Int) (l:List En):(upW c m l).length=l.length:=List.length_map _
theorem deep_upW {c:UInt8} {m:Int} {l:List En} (h:l≠[]):deep (upW c m l)=deep l+1:=by
 induction l with
 | nil=>exact absurd rfl h
 | cons e l ih=>
  by_cases hl:l=[]
  ·subst hl
   show max (e.1.length+1) 0=max e.1.length 0+1
   omega
  ·show max (e.1.length+1) (deep (upW c m l))=max e.1.length (deep l)+1
   rw [ih hl];omega
theorem flat_drop {α:Type} {f:α→List En} {l:List α} {j:Nat} (h:j<l.length):(l.drop j).flatMap f=f l[j]++(l.drop (j+1)).flatMap f:=by
 rw [List.drop_eq_getElem_cons h,List.flatMap_cons]
theorem flat_part {α:Type} {f:α→List En} {l:List α} {x:α} (h:x∈l):(f x).length≤(l.flatMap f).length∧deep (f x)≤deep (l.flatMap f):=by
 induction l with
 | nil=>cases h
 | cons y l ih=>
  rw [List.flatMap_cons,List.length_append,deep_append]
  rcases List.mem_cons.1 h with rfl | h
  ·omega
  ·have:=ih h;omega
end Fs
theorem step_pushK {ops:Array Oper} {o:Oper} {a:Act} {K:Act→World→Prop} {Q:Exit→Act→World→Prop} {E:Prop} {w W0:World} (hgd:o.guard=none) (s x:Operand) (t e:TypeId)
  (ho:o.op=.call { callee:=.builtin .append,args:=#[s,x],argTypes:=#[t,t]}) (i:TypeInfo) (zv:Value) (z bytes:Nat) (ht:Tryz.prog.underlying t=some (.slice e)) (hi:Tryz.prog.info? e=some i) (hz:i.zero=some zv)
  (hsize:i.size=z) (hby:i.bytes=bytes) (hzs:zv.cells.size=z) (hz0:0<z) (B:Nat) (hB:B≤w.heap.size) (v:Value) (n:Nat) (xs:List Value) (hs:a.eval s=v) (h:w.ownsRow B e z v n xs) (hW:Below w.heap.size w W0) (cs:List Value) (hcs:cs.length=z) (h1:∀u∈cs,u.oneCell'=true)
  (ad:Addr) (hnews:∀j u,cs[j]?=some u→W0.cell? (ad.add j)=some u) (hx:a.eval x=.slice (some ad) 1 1) (hb:(n+1)*bytes≤140737488355328) (hb2:n+1≤140737488355328)
  (hk:∀g cap w',w'.ownsRow B e z (.slice (some ⟨g,0,none⟩) (n+1) cap) (n+1) (xs++cs)→w'.ownsRow B e z v n xs→Grew w w' v (.slice (some ⟨g,0,none⟩) (n+1) cap)→K (a.put o.dst (.slice (some ⟨g,0,none⟩) (n+1) cap)) w'):
  if Region.wanted o (yielded ops a.tmps)=true then Oper.wp Tryz.prog o a W0 K Q else E:=by
 refine wp_push_keep W0 hgd s x t ho B e i zv z bytes ht hi hz hsize hby hzs hz0 v n xs hs (ownsRow_keep h fun k hk=>hW.block k (h.lt k hk).2) ad 1 1 cs hx (by omega) (by rw [hcs,Nat.one_mul]) hnews h1 (by unfold maxLen;omega) hb (Nat.le_trans hB hW.size) ?_
 intro g cap w' h2 h3 h4
 have hws:=hW.size
 exact hk g cap w' h2 h3 ⟨⟨h4.kept.os.trans hW.os,h4.kept.tape.trans hW.tape,h4.kept.output.trans hW.output,Nat.le_trans hws h4.kept.size,fun k hk hf=>(h4.kept.block k (by omega) hf).trans (hW.block k hk)⟩,fun b hb=>(h4.at' b hb).imp id (fun q=>by omega)⟩
theorem AlS.push {w0 W w5:World} {d1 lb wb db:Nat} {N:List Fs.Nd} {least x:Int} {terms g cap:Nat} {lv:Value} {acc:List Fs.En} {t:List UInt8} (h:AlS w0 W d1 lb wb db N least terms lv acc)
  (h5:w5.ownsRow w0.heap.size 29 2 (.slice (some ⟨g,0,none⟩) (acc.length+1) cap) (acc.length+1) (entV acc++[.string (bs t),.int .i64 x])) (hg:Grew W w5 lv (.slice (some ⟨g,0,none⟩) (acc.length+1) cap)):
  (w5.cell? ⟨lb,0,none⟩=some lv∧w5.frozen? ⟨lb,0,none⟩=false)∧AlS w0 (w5.setCell ⟨lb,0,none⟩ (.slice (some ⟨g,0,none⟩) (acc.length+1) cap)) d1 lb wb db N least terms (.slice (some ⟨g,0,none⟩) (acc.length+1) cap) (acc++[(t,x)]) ∧
  KeptT [115,118,23,172,5] w0.heap.size W (w5.setCell ⟨lb,0,none⟩ (.slice (some ⟨g,0,none⟩) (acc.length+1) cap)):=by
 have k1:KeptT [115,118,23,172,5,22] w0.heap.size W w5:=hg.keptT h.list (by decide)
 have b5:RowT 22 w5 lb #[lv]:=h.lbox.keep (k1.kind _ _ _ _ h.lbox (by decide))
 have k2:KeptT [115,118,23,172,5,29] w0.heap.size w5 (w5.setCell ⟨lb,0,none⟩ (.slice (some ⟨g,0,none⟩) (acc.length+1) cap)):=KeptT.set lb 0 _ h.base fun c t fz hc=>by
  rw [kind_inj hc b5]
  decide
 have k3:KeptT [115,118,23,172,5] w0.heap.size W (w5.setCell ⟨lb,0,none⟩ (.slice (some ⟨g,0,none⟩) (acc.length+1) cap)):=(k1.less (by decide)).trans (k2.less (by decide))
 refine ⟨⟨b5.cell 0,b5.frozen 0⟩,⟨h.dbox.keep (k3.kind _ _ _ _ h.dbox (by decide)),b5.set 0 _,h.wbox.keep (k3.kind _ _ _ _ h.wbox (by decide)),?_,h.base,k3.below h.bel h.bel.size⟩,k3⟩
 have h6:=OwnE.push (x:=(t,x)) h5
 exact ownsRow_kt h6 k2 (by decide)
theorem KeptX.of_kt {bv:Value} {B:Nat} {w w':World} (h:KeptT [115,118,23,172,5] B w w'):KeptX bv B w w':=⟨h.less (by decide),fun k c fz hc _=>h.kind k c _ fz hc (by decide)⟩
theorem allW_any (w0:World) (d1 lb wb db:Nat) (N:List Fs.Nd) (T:List (List Fs.En)) (least:Int) (terms:Nat) (hD:DicS w0 db N least terms) (hR:Fs.Rel N T):
  ∀(q i:Nat) (hi:i<T.length) (w:World) (bv lv:Value) (b:List UInt8) (out:Int) (acc:List Fs.En),i<q→AlS w0 w d1 lb wb db N least terms lv acc→OwnB w w0.heap.size bv b→acc.length+T[i].length≤65536→b.length+Fs.deep T[i]≤1000→-9223372036854775808≤out∧out≤9223372036854775807 →
  Calls Tryz.prog 93 #[.int .i64 (i:Int),bv,.int .i64 out,.pointer (some ⟨d1,0,none⟩),.pointer (some ⟨lb,0,none⟩),.pointer (some ⟨wb,0,none⟩)] w (AllPost w0 w d1 lb wb db N least terms bv b (acc++Fs.off b out T[i]))
 | 0,_,_,_,_,_,_,_,_,h,_,_,_,_,_=>absurd h (Nat.not_lt_zero _)
 | q+1,i,hi,w,bv,lv,b,out,acc,hq,hA,hB,hcount,hdeep,hout=>by
  have ih:=lh (allW_any w0 d1 lb wb db N T least terms hD hR q)
  have HR:=lh hR
  have hiN:i<N.length:=by rw [←hR.len];exact hi
  have hent:=hR.ent i hiN hi
  have hahead:=hR.ahead i hiN
  obtain ⟨nv,hrow,an,cn,hnv,hcn,hcn2,hnc⟩:=hD
  obtain ⟨gn,rfl,hgn,hcell⟩:=hnc (by omega)
  obtain ⟨wv,hws,n0,n1,n2⟩:=hcell i hiN
  obtain ⟨nd,hnd⟩:∃nd,nd=N[i]:=⟨_,rfl⟩
  rw [←hnd] at hent hahead hws n0 n1
  obtain ⟨fin,ws⟩:=nd
  dsimp only at hahead hws n0 n1
  clear hnd
  subst hnv
  have HA:=lh hA
  have HB:=lh hB
  have hbel:=hA.bel
  have c0:w.cell? ⟨d1,0,none⟩=some (.pointer (some ⟨db,0,none⟩)):=hA.dbox.cell 0
  have c1:w.cell? ⟨db,0,none⟩=some (.slice (some ⟨gn,0,none⟩) N.length cn):=(hbel.cell (p:=⟨db,0,none⟩) hrow.lt).trans (hrow.cell 0)
  have c2:=(hbel.cell (p:=⟨gn,i*3,none⟩) hgn).trans n0
  have c3:=(hbel.cell (p:=⟨gn,i*3+1,none⟩) hgn).trans n1
  have c4:=(hbel.cell (p:=⟨gn,i*3+2,none⟩) hgn).trans n2
  obtain ⟨aw,cw,hwv,hcw1,hcw2,hwc⟩:=hws
  subst hwv
  have HWC:Hid (∀wx,Below w0.heap.size w0 wx→0<ws.length→∃g,aw=some ⟨g,0,none⟩∧g<w0.heap.size∧∀j (_:j<ws.length),wx.cell? ⟨g,j*3,none⟩=some (.int .i64 (ws[j].1.toNat:Nat))∧wx.cell? ⟨g,j*3+1,none⟩=some (.int .i64 ws[j].2.1)∧wx.cell? ⟨g,j*3+2,none⟩=some (.int .i64 (ws[j].2.2:Nat))):=fun wx hb h0=>by
   obtain ⟨g,h1,h2,h3⟩:=hwc h0
   exact ⟨g,h1,h2,fun j hj=>⟨(hb.cell (p:=⟨g,j*3,none⟩) h2).trans (h3 j hj).1,(hb.cell (p:=⟨g,j*3+1,none⟩) h2).trans (h3 j hj).2.1,(hb.cell (p:=⟨g,j*3+2,none⟩) h2).trans (h3 j hj).2.2⟩⟩
  obtain ⟨nl,hnl⟩:∃nl,nl=N.length:=⟨_,rfl⟩
  rw [←hnl] at c1 hiN
  have i0:(i:Int)<(nl:Int):=by omega
  obtain ⟨nw,hnw⟩:∃nw,nw=ws.length:=⟨_,rfl⟩
  rw [←hnw] at c4 hcw1
  have HNW:=lh hnw
  clear hA hB hbel hcell hwc hnc hrow n0 n1 n2 hcn hcn2 hR hnw hnl
  go_enter Tryz.func93,Tryz.ntmps93
  go_upto_if 20 with (fail)
  have hA1:=HA.out.keep (w':=w.alloc (.cells #[.bool fin.isSome,.int .i64 (fin.getD 0),.slice aw nw cw] 115)) ((Below.refl _ _).alloc (Nat.le_refl _) _)
  have hb1:OwnB (w.alloc (.cells #[.bool fin.isSome,.int .i64 (fin.getD 0),.slice aw nw cw] 115)) w0.heap.size bv b:=World.ownsRow.alloc HB.out _
  have hx1:KeptX bv w0.heap.size w (w.alloc (.cells #[.bool fin.isSome,.int .i64 (fin.getD 0),.slice aw nw cw] 115)):=KeptX.of_below ((Below.refl _ _).alloc (Nat.le_refl _) _)
  have hn1:RowT 115 (w.alloc (.cells #[.bool fin.isSome,.int .i64 (fin.getD 0),.slice aw nw cw] 115)) w.heap.size #[.bool fin.isSome,.int .i64 (fin.getD 0),.slice aw nw cw]:=Go.Deep.blk_alloc_new _ _
  generalize w.alloc (.cells #[.bool fin.isSome,.int .i64 (fin.getD 0),.slice aw nw cw] 115)=W at *
  have HA1:=lh hA1
  have HB1:=lh hb1
  have HX1:=lh hx1
  have HN1:=lh hn1
  have hl1:(Fs.ofEnd fin).length≤T[i].length:=by rw [hent];show _≤(Fs.ofEnd fin++_).length;rw [List.length_append];omega
  clear hA1 hb1 hx1 HA HB c0 c1 c2 c3 c4
  go_cut [9] (fun s9 wx=>s9=.pointer (some ⟨w.heap.size,0,none⟩)∧Hid (∃lv1,AlS w0 wx d1 lb wb db N least terms lv1 (acc++Fs.off b out (Fs.ofEnd fin)))∧Hid (OwnB wx w0.heap.size bv b)∧Hid (KeptX bv w0.heap.size w wx)∧Hid (RowT 115 wx w.heap.size #[.bool fin.isSome,.int .i64 (fin.getD 0),.slice aw nw cw]))
  case first=>
   cases fin with
   | none=>
    have m0:W.cell? ⟨w.heap.size,0,none⟩=some (.bool false):=hn1.cell 0
    clear hn1
    go_wp2_with fail
    go_meet
    exact ⟨rfl,⟨lv,by rw [Fs.off_end];rw [List.append_nil];exact HA1.out⟩,HB1,HX1,HN1⟩
   | some v=>
    have m0:W.cell? ⟨w.heap.size,0,none⟩=some (.bool true):=hn1.cell 0
    have m1:W.cell? ⟨w.heap.size,1,none⟩=some (.int .i64 v):=hn1.cell 1
    have hcv:=own_conv HB1.out
    have hl2:(Fs.ofEnd (some v)).length=1:=rfl
    obtain ⟨al,cl,hlv⟩:=HA1.out.list.form
    subst hlv
    have m2:W.cell? ⟨lb,0,none⟩=some (.slice al acc.length cl):=HA1.out.lbox.cell 0
    obtain ⟨ii,hii,hz0,hz1,hz2⟩:=info_parts Tryz.infoE
    have hSZ:=HA1.out.bel.size
    have HPU:Hid (∀g5 cap5 w5,w5.ownsRow w0.heap.size 29 2 (.slice (some ⟨g5,0,none⟩) (acc.length+1) cap5) (acc.length+1) (entV acc++[.string (bs b),.int .i64 (wrap64 (out+v))])→Grew W w5 (.slice al acc.length cl) (.slice (some ⟨g5,0,none⟩) (acc.length+1) cap5)→_):=fun g5 cap5 w5 h5 hg5=>AlS.push HA1.out h5 hg5
    have hcv2:(convert 102 9 bv).run Tryz.prog W=.ok (.string (bs b)) W:=hcv
    clear hn1 hcv
    go_wp2_with (at_builtin;go_loud ((refine wpList_pushR rfl _ _ 22 29 rfl ii _ 2 24 Tryz.underlying22 hii hz0 hz1 hz2 rfl (by decide) w0.heap.size hSZ (.slice al acc.length cl) acc.length (entV acc) rfl HA1.out.list [.string (bs b),.int .i64 (wrap64 (out+v))] rfl (one_of rfl) rfl (by omega) (by omega) ?_;intro g5 cap5 w5 hown5 hgr5;obtain ⟨⟨m5,m6⟩,hq5⟩:=HPU.out g5 cap5 w5 hown5 hgr5;have HQ5:=lh hq5;clear hown5 hgr5 hq5)))
    go_meet
    refine ⟨rfl,⟨_,by rw [Fs.off_end];exact HQ5.out.1⟩,ownsRow_kt HB1.out HQ5.out.2 (by decide),HX1.out.trans (KeptX.of_kt HQ5.out.2),HN1.out.keep (HQ5.out.2.kind _ _ _ _ HN1.out (by decide))⟩
  case rest=>
   obtain ⟨rfl,hA2,hB2,hX2,hN2⟩:=hcut
   obtain ⟨lv2,hA2⟩:=hA2.out
   have m2:wc.cell? ⟨w.heap.size,2,none⟩=some (.slice aw nw cw):=hN2.out.cell 2
   have hT:T[i]=Fs.ofEnd fin++ws.flatMap fun w=>Fs.upW w.1 w.2.1 ((T.take i).getD w.2.2 []):=hent
   have HT:=lh hT
   have HAH:=lh hahead
   have HA2:=lh hA2
   have hlen2:(Fs.ofEnd fin).length+(ws.flatMap fun w=>Fs.upW w.1 w.2.1 ((T.take i).getD w.2.2 [])).length=T[i].length:=by rw [hT,List.length_append]
   have hdp2:Fs.deep (ws.flatMap fun w=>Fs.upW w.1 w.2.1 ((T.take i).getD w.2.2 []))≤Fs.deep T[i]:=by rw [hT,Fs.deep_append];omega
   have HLEN:=lh (And.intro hlen2 hdp2)
   clear HA1 HB1 HX1 HN1 hl1 hent hahead hN2 hT hA2 hlen2 hdp2
   go_wp2_with fail
   go_loopg [34] nw (fun gg s34 wx=>∃j:Nat,j≤nw∧gg=nw-j∧s34=.int .i64 (j:Int)∧Hid (∃lv acc',AlS w0 wx d1 lb wb db N least terms lv acc'∧acc'++Fs.off b out ((ws.drop j).flatMap fun w=>Fs.upW w.1 w.2.1 ((T.take i).getD w.2.2 []))=acc++Fs.off b out T[i])∧Hid (OwnB wx w0.heap.size bv b)∧Hid (KeptX bv w0.heap.size w wx))
   case atStart=>
    exact ⟨0,Nat.zero_le _,rfl,rfl,⟨lv2,_,HA2.out,by rw [List.drop_zero,List.append_assoc,←Fs.off_append,←HT.out]⟩,hB2,hX2⟩
   case round=>
    clear HA2 hB2 hX2 m2
    obtain ⟨j,hj,rfl,rfl,hA3,hB3,hX3⟩:=hrel
    by_cases hjn:j<nw
    ·have i1:(j:Int)<(nw:Int):=by omega
     have jx:j<ws.length:=by rw [←HNW.out];exact hjn
     obtain ⟨lv3,acc3,hA3,hacc⟩:=hA3.out
     obtain ⟨gw,rfl,hgw,hcw⟩:=HWC.out wr hA3.bel (by rw [←HNW.out];omega)
     obtain ⟨w1,w2,w3⟩:=hcw j jx
     have hto:=HAH.out _ (List.getElem_mem jx)
     rw [Fs.flat_drop jx] at hacc
     have hpart:=Fs.flat_part (f:=fun w:UInt8 × Int × Nat=>Fs.upW w.1 w.2.1 ((T.take i).getD w.2.2 [])) (List.getElem_mem jx)
     obtain ⟨c,o,tt,hway⟩:∃c o tt,ws[j]=(c,o,tt):=⟨_,_,_,rfl⟩
     rw [hway] at w1 w2 w3 hto hacc hpart
     dsimp only at w1 w2 w3 hto hacc hpart
     have hto2:tt<T.length:=by omega
     have hget:(T.take i).getD tt []=T[tt]:=by
      rw [List.getD_eq_getElem?_getD,List.getElem?_take_of_lt hto,List.getElem?_eq_getElem hto2]
      rfl
     rw [hget] at hacc hpart
     rw [Fs.off_append,Fs.off_up,←List.append_assoc] at hacc
     have hal:=congrArg List.length hacc
     rw [List.length_append,List.length_append,List.length_append,Fs.off_length,Fs.off_length,Fs.off_length] at hal
     rw [Fs.upW_length] at hpart
     have hdt:b.length+1+Fs.deep T[tt]≤1000:=by
      have h1:=HLEN.out.2
      have h2:=hpart.2
      rw [Fs.deep_upW (HR.out.full _ (List.getElem_mem hto2))] at h2
      omega
     have hal2:acc3.length+T[tt].length≤65536:=by omega
     have hcl:=c.toNat_lt
     have hbo:-9223372036854775808≤wrap64 (out+o)∧wrap64 (out+o)≤9223372036854775807:=by unfold wrap64;omega
     have HCL:Hid (∀W s o' lvx,o'=wrap64 (out+o)→AlS w0 W d1 lb wb db N least terms lvx acc3→OwnB W w0.heap.size s (b++[c])→Calls Tryz.prog 93 #[.int .i64 (tt:Int),s,.int .i64 o',.pointer (some ⟨d1,0,none⟩),.pointer (some ⟨lb,0,none⟩),.pointer (some ⟨wb,0,none⟩)] W (AllPost w0 W d1 lb wb db N least terms s (b++[c]) (acc3++Fs.off (b++[c]) (wrap64 (out+o)) T[tt]))):=fun W s o' lvx ho h1 h2=>by
      rw [ho]
      exact ih.out tt hto2 W s lvx (b++[c]) (wrap64 (out+o)) acc3 (by omega) h1 h2 hal2 (by rw [List.length_append,List.length_singleton];omega) hbo
     unfold AllPost at HCL
     have HACC:=lh hacc
     obtain ⟨rest,hrest⟩:∃rest,rest=acc3++Fs.off (b++[c]) (wrap64 (out+o)) T[tt]:=⟨_,rfl⟩
     rw [←hrest] at HCL HACC
     have hB4:=hB3.out
     have HA3:=lh hA3
     have hblen:b.length≤1000:=by omega
     clear hacc hrest hpart hal hcw hway hget hA3
     go_upto_region 6 with (fail)
     have hA4:=HA3.out.keep (w':=wr.alloc (.cells #[.int .i64 (c.toNat:Nat),.int .i64 o,.int .i64 (tt:Nat)] 118)) ((Below.refl _ _).alloc (Nat.le_refl _) _)
     have hB5:OwnB (wr.alloc (.cells #[.int .i64 (c.toNat:Nat),.int .i64 o,.int .i64 (tt:Nat)] 118)) w0.heap.size bv b:=World.ownsRow.alloc hB4 _
     have hX5:KeptX bv w0.heap.size w (wr.alloc (.cells #[.int .i64 (c.toNat:Nat),.int .i64 o,.int .i64 (tt:Nat)] 118)):=hX3.out.trans (KeptX.of_below ((Below.refl _ _).alloc (Nat.le_refl _) _))
     have hn5:RowT 118 (wr.alloc (.cells #[.int .i64 (c.toNat:Nat),.int .i64 o,.int .i64 (tt:Nat)] 118)) wr.heap.size #[.int .i64 (c.toNat:Nat),.int .i64 o,.int .i64 (tt:Nat)]:=Go.Deep.blk_alloc_new _ _
     generalize wr.alloc (.cells #[.int .i64 (c.toNat:Nat),.int .i64 o,.int .i64 (tt:Nat)] 118)=W at *
     generalize wr.heap.size=vb at *
     have HA4:=lh hA4
     have HB5:=lh hB5
     have HX5:=lh hX5
     obtain ⟨iB,hiB,hyB0,hyB1,hyB2⟩:=info_parts Tryz.infoB
     have hu8:IntKind.u8.wrap ((c.toNat:Nat):Int)=((c.toNat:Nat):Int):=by rw [IntKind.wrap_u8];omega
     have hwb0:=hA4.wbox
     have hWB:Below W.heap.size W (W.alloc (.cells #[.int .u8 (c.toNat:Nat)] 5)):=(Below.refl _ _).alloc (Nat.le_refl _) _
     have e0:W.drew.cell? ⟨wb,0,none⟩=some (.func (.func 93) #[] #[.pointer (some ⟨d1,0,none⟩),.pointer (some ⟨lb,0,none⟩),.pointer (some ⟨wb,0,none⟩)]):=hwb0.cell 0
     have e1:W.drew.cell? ⟨vb,0,none⟩=some (.int .i64 (c.toNat:Nat)):=hn5.cell 0
     have e2:W.drew.cell? ⟨vb,1,none⟩=some (.int .i64 o):=hn5.cell 1
     have e3:W.drew.cell? ⟨vb,2,none⟩=some (.int .i64 (tt:Nat)):=hn5.cell 2
     have f0:(W.alloc (.cells #[.int .u8 (c.toNat:Nat)] 5)).drew.cell? ⟨wb,0,none⟩=some (.func (.func 93) #[] #[.pointer (some ⟨d1,0,none⟩),.pointer (some ⟨lb,0,none⟩),.pointer (some ⟨wb,0,none⟩)]):=(hwb0.keep (hWB.block _ hwb0.lt)).cell 0
     have f1:(W.alloc (.cells #[.int .u8 (c.toNat:Nat)] 5)).drew.cell? ⟨vb,0,none⟩=some (.int .i64 (c.toNat:Nat)):=(hn5.keep (hWB.block _ hn5.lt)).cell 0
     have f2:(W.alloc (.cells #[.int .u8 (c.toNat:Nat)] 5)).drew.cell? ⟨vb,1,none⟩=some (.int .i64 o):=(hn5.keep (hWB.block _ hn5.lt)).cell 1
     have f3:(W.alloc (.cells #[.int .u8 (c.toNat:Nat)] 5)).drew.cell? ⟨vb,2,none⟩=some (.int .i64 (tt:Nat)):=(hn5.keep (hWB.block _ hn5.lt)).cell 2
     have hbB:W.ownsRow w0.heap.size 5 1 bv b.length (bytesV b):=hB5
     have HW6:Hid (∀g5 cap5 w5,Grew W w5 bv (.slice (some ⟨g5,0,none⟩) (b.length+1) cap5)→(w5.cell? ⟨wb,0,none⟩=some (.func (.func 93) #[] #[.pointer (some ⟨d1,0,none⟩),.pointer (some ⟨lb,0,none⟩),.pointer (some ⟨wb,0,none⟩)])∧w5.cell? ⟨vb,0,none⟩=some (.int .i64 (c.toNat:Nat))∧w5.cell? ⟨vb,1,none⟩=some (.int .i64 o)∧w5.cell? ⟨vb,2,none⟩=some (.int .i64 (tt:Nat)))∧AlS w0 w5 d1 lb wb db N least terms lv3 acc3∧KeptX bv w0.heap.size w w5):=fun g5 cap5 w5 hg=>by
      have k:=KeptX.grew hg hbB
      have r1:=hwb0.keep (k.kept.kind _ _ _ _ hwb0 (by decide))
      have r2:=hn5.keep (k.kept.kind _ _ _ _ hn5 (by decide))
      exact ⟨⟨r1.cell 0,r2.cell 0,r2.cell 1,r2.cell 2⟩,hA4.grew hg hbB,hX5.trans k⟩
     have HS6:Hid (∀g5 cap5 w5 w6,Grew W w5 bv (.slice (some ⟨g5,0,none⟩) (b.length+1) cap5)→KeptX (.slice (some ⟨g5,0,none⟩) (b.length+1) cap5) w0.heap.size w5 w6→w6.cell? ⟨wb,0,none⟩=some (.func (.func 93) #[] #[.pointer (some ⟨d1,0,none⟩),.pointer (some ⟨lb,0,none⟩),.pointer (some ⟨wb,0,none⟩)])∧w6.cell? ⟨vb,0,none⟩=some (.int .i64 (c.toNat:Nat))∧w6.cell? ⟨vb,1,none⟩=some (.int .i64 o)∧w6.cell? ⟨vb,2,none⟩=some (.int .i64 (tt:Nat))):=fun g5 cap5 w5 w6 hg h6=>by
      have k:=KeptX.grew hg hbB
      have r1:=hwb0.keep (k.kept.kind _ _ _ _ hwb0 (by decide))
      have r2:=hn5.keep (k.kept.kind _ _ _ _ hn5 (by decide))
      have r3:=r1.keep (h6.kept.kind _ _ _ _ r1 (by decide))
      have r4:=r2.keep (h6.kept.kind _ _ _ _ r2 (by decide))
      exact ⟨r3.cell 0,r4.cell 0,r4.cell 1,r4.cell 2⟩
     have HEND:Hid (∀g5 cap5 w5 w6,w5.ownsRow w0.heap.size 5 1 (.slice (some ⟨g5,0,none⟩) (b.length+1) cap5) (b.length+1) (bytesV b++[.int .u8 (c.toNat:Nat)])→w5.ownsRow w0.heap.size 5 1 bv b.length (bytesV b)→Grew W w5 bv (.slice (some ⟨g5,0,none⟩) (b.length+1) cap5)→OwnB w6 w0.heap.size (.slice (some ⟨g5,0,none⟩) (b.length+1) cap5) (b++[c])→KeptX (.slice (some ⟨g5,0,none⟩) (b.length+1) cap5) w0.heap.size w5 w6→OwnB w6 w0.heap.size bv b∧KeptX bv w0.heap.size w w6):=fun g5 cap5 w5 w6 h1 h2 hg h3 h4=>by
      have h5:w6.ownsRow w0.heap.size 5 1 (.slice (some ⟨g5,0,none⟩) (b.length+1) cap5) (b.length+1) (bytesV b++[.int .u8 (c.toNat:Nat)]):=by
       have h3':=h3
       unfold OwnB at h3'
       rw [←bytesV_snoc,List.length_append,List.length_singleton] at h3'
       exact h3'
      refine ⟨own_after h2 h1 h5 fun k cc fz hc hne=>h4.bytes k cc fz hc (fun q=>hne (by simpa [Value.ownBlock] using q)),?_⟩
      have k:=hX5.trans (KeptX.grew hg hbB)
      refine ⟨k.kept.trans h4.kept,fun kk cc fz hc hne=>?_⟩
      have e:=k.bytes kk cc fz hc hne
      refine (h4.bytes kk cc fz (e.trans hc) (fun q=>?_)).trans e
      rcases hg.at' kk q with q1 | q1
      ·exact hne q1
      ·have:=(Array.getElem?_eq_some_iff.1 hc).1
       have:=hX5.kept.size
       omega
     have HBB:=lh hbB
     clear hA4 hB5 hX5 hn5 hwb0 hWB hB4 hbB hbo hdt hal2 hto hto2
     have S0:=And.intro e0 (And.intro e1 (And.intro e2 e3))
     have S1:=And.intro f0 (And.intro f1 (And.intro f2 f3))
     go_region_held3 (fun wx=>wx.cell? ⟨wb,0,none⟩=some (.func (.func 93) #[] #[.pointer (some ⟨d1,0,none⟩),.pointer (some ⟨lb,0,none⟩),.pointer (some ⟨wb,0,none⟩)])∧wx.cell? ⟨vb,0,none⟩=some (.int .i64 (c.toNat:Nat))∧wx.cell? ⟨vb,1,none⟩=some (.int .i64 o)∧wx.cell? ⟨vb,2,none⟩=some (.int .i64 (tt:Nat))) (first | exact S0 | exact S1 | exact S6 | exact q0) (first | (refine step_pushK (w:=W) rfl _ _ 102 5 (by rfl) iB _ 1 1 Tryz.underlying102 hiB hyB0 hyB1 hyB2 rfl (by decide) w0.heap.size HA4.out.bel.size bv b.length (bytesV b) (by rfl) HBB.out (by first | exact ((Below.refl _ _).drew).alloc (Nat.le_refl _) _ | exact ((Below.refl _ _).alloc (Nat.le_refl _) _).drew | exact (Below.refl _ _).alloc (Nat.le_refl _) _) [.int .u8 (c.toNat:Nat)] rfl (one_of rfl) ⟨W.heap.size,0,none⟩ (by first | exact new_cells W _ _ | exact new_cells W.drew _ _) (by rfl) (by omega) (by omega) ?_;intro g5 cap5 w5 hown5 hold5 hgr5;obtain ⟨q0,q3,q4⟩:=HW6.out g5 cap5 w5 hgr5;have HO5:=lh (And.intro hown5 (And.intro hold5 hgr5));have HA5:=lh q3;clear q3 q4 hown5 hold5 hgr5) | (go_at_call 93;refine (HCL.out w5 _ _ lv3 (by first | (with_reducible exact wrapEq _) | (with_reducible rfl)) HA5.out (by unfold OwnB;rw [←bytesV_snoc,List.length_append,List.length_singleton];exact HO5.out.1)).mono ?_;rintro e6 w6 ⟨rfl,h1,h2,h3⟩;have S6:=HS6.out g5 cap5 w5 w6 HO5.out.2.2 h3;have HQ6:=lh (HEND.out g5 cap5 w5 w6 HO5.out.1 HO5.out.2.1 HO5.out.2.2 h2 h3);have HQ7:=lh h1;clear h1 h2 h3))
     all_goals go_wp2_with fail
     all_goals go_roundg (nw-(j+1))
     all_goals first
      | omega
      | exact ⟨j+1,by omega,rfl,by go_num,⟨HQ7.out.choose,rest,HQ7.out.choose_spec,HACC.out⟩,HQ6.out.1,HQ6.out.2⟩
    ·obtain rfl:j=nw:=by omega
     have hdr:ws.drop j=[]:=List.drop_of_length_le (by rw [←HNW.out];exact Nat.le_refl _)
     obtain ⟨lv3,acc3,hA3,hacc⟩:=hA3.out
     rw [hdr] at hacc
     have hacc2:acc3=acc++Fs.off b out T[i]:=by
      rw [←hacc]
      show acc3=acc3++Fs.off b out []
      unfold Fs.off
      rw [List.map_nil,List.append_nil]
     have HA3:Hid (∃lv,AlS w0 wr d1 lb wb db N least terms lv (acc++Fs.off b out T[i])):=⟨lv3,by rw [←hacc2];exact hA3⟩
     clear hacc hacc2 hdr hA3
     go_wp2_with fail
     go_end0
     exact ⟨rfl,HA3.out,hB3.out,hX3.out⟩
end F12
namespace F12
open Go.RowKit Go.Maps
theorem root_nil (w:World):Calls Tryz.prog 49 #[.pointer none] w fun e w'=>e=.returned (.tuple #[.int .i64 (-1),.int .i64 0])∧w'=w:=by
 go_enter Tryz.func49,Tryz.ntmps49
 go_wp2_with fail
 go_ret2
 exact ⟨rfl,rfl⟩
theorem root_any (w:World) (db:Nat) (N:List Fs.Nd) (least:Int) (terms:Nat) (h:DicS w db N least terms):Calls Tryz.prog 49 #[.pointer (some ⟨db,0,none⟩)] w fun e w'=>e=.returned (.tuple #[.int .i64 ((N.length:Int)-1),.int .i64 least])∧Drew w w':=by
 obtain ⟨nv,hrow,an,cn,hnv,h1,h2,-⟩:=h
 subst hnv
 have c0:w.cell? ⟨db,0,none⟩=some (.slice an N.length cn):=hrow.cell 0
 have c1:w.cell? ⟨db,1,none⟩=some (.int .i64 least):=hrow.cell 1
 have d0:w.drew.cell? ⟨db,0,none⟩=some (.slice an N.length cn):=hrow.cell 0
 have d1:w.drew.cell? ⟨db,1,none⟩=some (.int .i64 least):=hrow.cell 1
 have hwr:IntKind.i64.wrap ((N.length:Int)-1)=(N.length:Int)-1:=IntWalk.i64_in _ (by omega)
 clear hrow
 generalize N.length=n at *
 go_enter Tryz.func49,Tryz.ntmps49
 go_wp2_with fail
 go_quiet (fail)
 go_wp2_with fail
 go_ret2
 exact ⟨rfl,⟨_,rfl⟩⟩
def AllPostE (w:World) (T:List (List Fs.En)) (least:Int) (e:Ending) (w':World):Prop:=
 ∃v,e=.returned v∧OwnE w' w.heap.size v (Fs.addW least (T.getLast?.getD []))∧Below w.heap.size w w'
theorem alS_made {w w1 w2:World} {db m terms:Nat} {N:List Fs.Nd} {least:Int} (hd:Drew (w.alloc (.cells #[.pointer (some ⟨db,0,none⟩)] 23)) w1) (ho:w2.ownsRow w.heap.size 29 2 (.slice (some ⟨w1.heap.size,0,none⟩) 0 m) 0 []) (hg:w1.grownBy w2 none):
  AlS w ((w2.alloc (.cells #[.slice (some ⟨w1.heap.size,0,none⟩) 0 m] 22)).alloc (.cells #[.func (.func 93) #[] #[.pointer (some ⟨w.heap.size,0,none⟩),.pointer (some ⟨w2.heap.size,0,none⟩),.pointer (some ⟨w2.heap.size+1,0,none⟩)]] 172)) w.heap.size w2.heap.size (w2.heap.size+1) db N least terms (.slice (some ⟨w1.heap.size,0,none⟩) 0 m) []:=by
 have hb1:=hd.below
 have s1:=hb1.size
 rw [World.size_alloc] at s1
 have s2:=hg.size
 have s3:(w2.alloc (.cells #[.slice (some ⟨w1.heap.size,0,none⟩) 0 m] 22)).heap.size=w2.heap.size+1:=World.size_alloc _ _
 have hb2:Below w1.heap.size w1 w2:=⟨hg.os,hg.tape,hg.output,hg.size,fun k hk=>hg.block k hk (fun q=>by cases q)⟩
 have hbel:Below w.heap.size w w2:=(((Below.refl _ _).alloc (Nat.le_refl _) _).trans (hb1.mono (by simp))).trans (hb2.mono (by omega))
 refine ⟨?_,?_,?_,?_,by omega,(hbel.alloc hbel.size _).alloc (by rw [s3];omega) _⟩
 ·show _=_
  rw [Go.Deep.blk_alloc_lt _ _ _ (by omega),Go.Deep.blk_alloc_lt _ _ _ (by omega),hb2.block _ (by omega),hb1.block _ (by simp)]
  exact Go.Deep.blk_alloc_new _ _
 ·show _=_
  rw [Go.Deep.blk_alloc_lt _ _ _ (by omega)]
  exact Go.Deep.blk_alloc_new _ _
 ·show _=_
  rw [←s3]
  exact Go.Deep.blk_alloc_new _ _
 ·have h1:=ownsRow_keep ho (w':=w2.alloc (.cells #[.slice (some ⟨w1.heap.size,0,none⟩) 0 m] 22)) fun k hk=>Go.Deep.blk_alloc_lt _ _ _ (ho.lt k hk).2
  exact ownsRow_keep h1 fun k hk=>Go.Deep.blk_alloc_lt _ _ _ (h1.lt k hk).2
theorem all_any (w:World) (db:Nat) (N:List Fs.Nd) (T:List (List Fs.En)) (least:Int) (terms:Nat) (h:DicS w db N least terms) (hR:Fs.Rel N T) (ht:terms≤65536) (hl:-9223372036854775808≤least∧least≤9223372036854775807):
  Calls Tryz.prog 71 #[.pointer (some ⟨db,0,none⟩)] w (AllPostE w T least):=by
 have hro:=root_any (w.alloc (.cells #[.pointer (some ⟨db,0,none⟩)] 23)) db N least terms (h.below ((Below.refl _ _).alloc (Nat.le_refl _) _))
 have HRO:=lh hro
 have HD:=lh h
 have HR:=lh hR
 have hlen:=hR.len
 rcases Nat.eq_zero_or_pos N.length with h0 | h0
 ·have hT:T=[]:=List.length_eq_zero_iff.1 (by omega)
  subst hT
  rw [h0] at HRO
  clear h hR hro h0 hlen
  go_enter Tryz.func71,Tryz.ntmps71
  go_wp2_with (go_at_call 49;refine HRO.out.mono ?_;rintro e1 w1 ⟨rfl,hd1⟩;have HB1:Hid (Below w.heap.size w w1):=((Below.refl _ _).alloc (Nat.le_refl _) _).trans (hd1.below.mono (by simp));clear hd1)
  go_ret
  exact ⟨_,rfl,ownE_nil _ _,HB1.out⟩
 ·obtain ⟨nv,hrow,hns⟩:=h
  obtain ⟨n,hn⟩:∃n:Nat,N.length=n+1:=⟨N.length-1,by omega⟩
  have hi0:n<T.length:=by omega
  have HGL:Hid (∀hh:n<T.length,T.getLast?.getD []=T[n]'hh):=fun hh=>by
   rw [List.getLast?_eq_getElem?,show T.length-1=n by omega,List.getElem?_eq_getElem hh]
   rfl
  have HI0:=lh hi0
  have HNN:=lh hn
  have HSZ:Hid (∀hh:n<T.length,(T[n]'hh).length≤65536∧Fs.deep (T[n]'hh)≤64):=fun hh=>hR.size _ (List.getElem_mem hh)
  rw [hn,show ((n+1:Nat):Int)-1=(n:Int) by omega] at HRO
  have hlt:=hrow.lt
  have i0:¬(n:Int)<0:=by omega
  have HC3:Hid (∀wx,Below w.heap.size w wx→wx.cell? ⟨db,2,none⟩=some (.int .i64 (terms:Int))):=fun wx hb=>(hb.cell (p:=⟨db,2,none⟩) hlt).trans (hrow.cell 2)
  obtain ⟨iE,hiE,hz0,hz1,hz2⟩:=info_parts Tryz.infoE
  have hsf:∀(a:Addr) (F:Fn) (T:Array Value) (C:Array Value) (m:Mode) (w:World),(store a (.func F T C) m).run Tryz.prog w=stored Tryz.prog w a (.func F T C) m:=fun a F T C m w=>run_store Tryz.prog w a (.func F T C) m rfl
  clear hR hro h0 hlen hns hrow hi0 hn
  go_enter Tryz.func71,Tryz.ntmps71
  go_wp2_with (first | (go_at_call 49;go_loud ((refine HRO.out.mono ?_;rintro e1 w1 ⟨rfl,hd1⟩;have hb1:Below w.heap.size w w1:=((Below.refl _ _).alloc (Nat.le_refl _) _).trans (hd1.below.mono (by simp));have c3:=HC3.out w1 hb1;have c4:w1.cell? ⟨w.heap.size,0,none⟩=some (.pointer (some ⟨db,0,none⟩)):=(hd1.below.cell (p:=⟨w.heap.size,0,none⟩) (by simp)).trans (by rw [World.cell?_alloc_at _ _ _ _ rfl];rfl);have HB1:=lh hb1;have HDR:=lh hd1;clear hd1 hb1))) | (at_make;go_loud ((refine wpList_make_own _ rfl _ _ 22 rfl w.heap.size 29 iE (.agg #[.string ByteArray.empty,.int .i64 0]) 2 Tryz.underlying22 hiE hz0 hz1 .i64 .i64 _ terms rfl rfl (by omega) (by rw [hz2];omega) (by unfold maxLen;omega) HB1.out.size ?_;intro w2 hown2 hgrow2;have HM2:=lh (And.intro hown2 hgrow2);clear hown2 hgrow2))))
  refine (allW_any w w.heap.size w2.heap.size (w2.heap.size+1) db N T least terms HD.out HR.out (n+1) n HI0.out _ (.slice none 0 0) _ [] least [] (Nat.lt_succ_self n) (alS_made HDR.out HM2.out.1 HM2.out.2) (World.ownsRow_nil _ _ _ _) (by have:=(HSZ.out HI0.out).1;simp only [List.length_nil];omega) (by have:=(HSZ.out HI0.out).2;simp only [List.length_nil];omega) hl).mono ?_
  rintro e3 w3 ⟨rfl,⟨lv,h3⟩,_,_⟩
  have c5:w3.cell? ⟨w2.heap.size,0,none⟩=some lv:=h3.lbox.cell 0
  have HL3:=lh h3.list
  have HB3:=lh h3.bel
  clear h3
  go_wp2_with fail
  go_ret
  exact ⟨_,rfl,by rw [HGL.out HI0.out];exact HL3.out,HB3.out⟩
end F12
namespace F12
open Go.RowKit Go.Maps
def CurT (w:World) (b:Nat) (s:List UInt8):Prop:=RowT 130 w b #[.string (bs s)]
theorem CurT.set {w:World} {b:Nat} {s:List UInt8} (h:CurT w b s) (r:List UInt8):CurT (w.setCell ⟨b,0,none⟩ (.string (bs r))) b r:=RowT.set h 0 _
theorem rest_bs (s:List UInt8) (z:Int):rest (bs s) z=bs (s.drop z.toNat):=by
 apply ByteArray.ext
 apply Array.ext'
 rw [rest_data,bs_data,bs_data]
theorem readCount_any (s:ByteArray) (w:World) (hsz:s.size≤9223372036854775807) (n z e:Int) (hr:Pl.rdCount s.data.toList=(n,z,e)):
  Calls Tryz.prog 91 #[.string s] w fun e' w'=>e'=.returned (.tuple #[.int .i64 n,.int .i64 z,.int .i64 e])∧w=w':=by
 obtain ⟨n',z',e',hw⟩:∃n z e,Pl.rdNum s.data.toList=(n,z,e):=⟨_,_,_,rfl⟩
 have hk:=readNum_any s w hsz n' z' e' hw
 have HC:=lh hk
 unfold Pl.rdCount at hr
 rw [hw] at hr
 clear hw hk hsz
 by_cases h0:n'<0
 ·rw [if_pos h0] at hr
  obtain ⟨rfl,rfl,rfl⟩:0=n∧0=z∧3=e:=by simpa using hr
  clear hr
  go_enter Tryz.func91,Tryz.ntmps91
  go_wp2_with (first | (go_at_call 107;refine HC.out.mono ?_;rintro e w' ⟨rfl,rfl⟩) | go_in)
  go_ret3
  exact ⟨rfl,rfl⟩
 ·rw [if_neg h0] at hr
  obtain ⟨rfl,rfl,rfl⟩:n'=n∧z'=z∧e'=e:=by simpa using hr
  clear hr
  go_enter Tryz.func91,Tryz.ntmps91
  go_wp2_with (first | (go_at_call 107;refine HC.out.mono ?_;rintro e w' ⟨rfl,rfl⟩) | go_in)
  go_ret3
  exact ⟨rfl,rfl⟩
theorem count_c (s:List UInt8) (b:Nat) (w:World) (hc:CurT w b s) (hs:s.length≤140737488355328):
  Calls Tryz.prog 68 #[.pointer (some ⟨b,0,none⟩)] w fun e' w'=>e'=.returned (.tuple #[.int .i64 (Fs.cN s),.int .i64 (Fs.cE s)])∧w'=w.setCell ⟨b,0,none⟩ (.string (bs (Fs.past s))):=by
 obtain ⟨n,z,e,hr⟩:∃n z e,Pl.rdCount s=(n,z,e):=⟨_,_,_,rfl⟩
 have hlen:(bs s).size=s.length:=bs_size s
 have hk:=readCount_any (bs s) w (by rw [hlen];omega) n z e (by rw [bs_data];exact hr)
 have hb:=rdCount_bd _ _ _ _ hr
 have HC:=lh hk
 have h1:w.cell? ⟨b,0,none⟩=some (.string (bs s)):=RowT.cell hc 0
 have h2:w.frozen? ⟨b,0,none⟩=false:=RowT.frozen hc 0
 have e1:Fs.cN s=n:=by unfold Fs.cN;rw [hr]
 have e2:Fs.cE s=e:=by unfold Fs.cE;rw [hr]
 have e3:bs (Fs.past s)=rest (bs s) z:=by rw [rest_bs];unfold Fs.past;rw [hr]
 rw [e1,e2,e3]
 have hz:0≤z∧z≤((bs s).size:Int):=by rw [hlen];exact hb.2.1
 have hz2:(bs s).size≤140737488355328:=by rw [hlen];exact hs
 obtain ⟨b3,b4⟩:=hz
 generalize bs s=S at *
 clear hr hk e1 e2 e3 hb hc hlen hs
 go_enter Tryz.func68,Tryz.ntmps68
 go_wp2_with (first | (go_at_call 91;refine HC.out.mono ?_;rintro e w' ⟨rfl,rfl⟩) | go_in)
 go_ret2
 exact ⟨rfl,rfl⟩
theorem end_c (s:List UInt8) (b:Nat) (w:World) (hc:CurT w b s):
  Calls Tryz.prog 44 #[.pointer (some ⟨b,0,none⟩)] w fun e' w'=>e'=.returned (.int .i64 (if s≠[] then 5 else 0))∧w'=w:=by
 have h1:w.cell? ⟨b,0,none⟩=some (.string (bs s)):=RowT.cell hc 0
 have h2:w.drew.cell? ⟨b,0,none⟩=some (.string (bs s)):=RowT.cell hc 0
 by_cases h0:s=[]
 ·subst h0
  have e0:((bs ([]:List UInt8)).toList==[])=true:=by rw [ByteArray.toList_eq,bs_data];rfl
  go_enter Tryz.func44,Tryz.ntmps44
  go_wp2_with fail
  go_ret
  exact ⟨rfl,rfl⟩
 ·rw [if_pos h0]
  have e0:((bs s).toList==[])=false:=by
   rw [ByteArray.toList_eq,bs_data,beq_eq_false_iff_ne]
   exact h0
  generalize bs s=S at *
  clear hc h0
  go_enter Tryz.func44,Tryz.ntmps44
  go_wp2_with fail
  go_ret
  exact ⟨rfl,rfl⟩
end F12
end Go.Proofs.YtmdefnbpimfbgaaGreatDoor
