/-
  Lemmas on automata, dictionaries and the walk over them, the program's calls and the given ones.
-/
import Derived.Test.YtmdefnbpimfbgaaGreatDoorQ11
import Derived.Shelf.Unicode.ValidAny
set_option maxRecDepth 100000
set_option maxHeartbeats 16000000
namespace Go.Proofs.YtmdefnbpimfbgaaGreatDoor
section
open Go.RowKit Go.Maps
namespace Au
theorem trs_hi (C:Cls) (l:List Arc) (h:∀a∈l,0≤a.hi∧a.hi<256):∀x∈trs C l,x.hi<256:=fun x hx=>by
 unfold trs at hx
 obtain ⟨a,ha,e⟩:=List.mem_filterMap.1 hx
 split at e
 ·cases e
 ·cases e
  have:=h a ha
  show a.hi.toNat<256
  omega
theorem lp_len (W:Walk Nat) (C:Cls) (m:List Nat) (l:List Arc):(lp W C m l).1.length≤m.length+l.length∧(lp W C m l).2.length≤l.length:=by
 rw [lp_leads]
 have h1:=leads_len W m (trs C l) (trs C l).length
 have h2:=leads_arcs W m (trs C l) (trs C l).length
 have h3:=trs_len C l
 exact ⟨by omega,by omega⟩
theorem lp_hi (W:Walk Nat) (C:Cls) (m:List Nat) (l:List Arc) (h:∀a∈l,0≤a.hi∧a.hi<256):∀a∈(lp W C m l).2,0≤a.hi∧a.hi≤1000:=by
 rw [lp_leads]
 exact leads_hi W m (trs C l) (trs_hi C l h) _
def Has (n:Nat) (C:Cls) (c:Nat):Prop:=∃s,s<n∧C.of s=(c:Int)
theorem has_go {d:List St} {C:Cls} (hr:∀i (h:i<d.length),Row d.length 256 d[i].arcs) (hm:∀s,s<d.length→-1≤C.of s) (s b t:Nat) (_:Has d.length C s) (h:(quo d C).go s b=some t):Has d.length C t:=by
 unfold quo at h
 dsimp only at h
 cases hs:(ofL d).step ((C.row s).getD 0 0) b with
 | none=>rw [hs] at h;cases h
 | some x=>
  rw [hs] at h
  dsimp only at h
  have hx:=ofL_in hr hs
  have:=hm x hx
  split at h
  ·cases h
  ·rename_i hne
   cases h
   exact ⟨x,hx,by omega⟩
end Au
theorem no_start (w W:World) (mb g c0:Nat) (hm:MapN W mb [c0]) (hb:Below w.heap.size w W) (hg:W.heap[g]?=some (.cells #[.int .i64 (c0:Int)] 3 (0,0))) (h1:w.heap.size≤mb) (h2:w.heap.size≤g) (hne:mb≠g):
  No w W mb (fun k=>if k=mb then 3 else if k=g then 2 else 0) (.slice (some ⟨g,0,none⟩) 1 1) (.slice none 0 0) [c0] [] []:=by
 refine ⟨⟨hb,fun k hk=>?_⟩,⟨⟨⟨rfl,.inr ⟨g,1,_,rfl,Nat.zero_le _,hg,Nat.le_refl _,by unfold maxLen;omega,rfl,rfl⟩⟩,fun b hbb=>?_⟩,hm,if_pos rfl⟩,⟨RowC.nil _ _ _ _ _,rfl,fun j h=>by simp at h⟩,fun j k h=>by simp at h⟩
 ·show (if _ then _ else _)=_
  rw [if_neg (by omega),if_neg (by omega)]
 ·obtain rfl:b=g:=by simpa [Value.ownBlock] using hbb.symm
  show (if _ then _ else _)=_
  rw [if_neg (fun e=>hne e.symm),if_pos rfl]
theorem told_any (F:Nat→Prop) (w:World) (u:Value) (d:List Au.St) (n p:Nat) (κ0:Nat→Nat) (C:Au.Cls) (O:Option Nat→Prop) (hd:d.length=n) (hf:Au.Fits d) (h0:¬Au.Dead (Au.ofL d) (some 0)) (hu:StS F w u d) (hC:ClsM n w p κ0 C) (hI:Au.HInv d O (fun _=>False) C) (hq:C.wq=[]):
  Calls Tryz.prog 60 #[u,.pointer (some ⟨p,0,none⟩)] w fun e w'=>∃v,e=.returned v∧StO w.heap.size w' v (Au.least d)∧Below w.heap.size w w':=by
 have hn2:n≤20000:=by have:=hf.top;omega
 have hn0:0<n:=by have:=hf.pos;omega
 obtain ⟨ad,cd,rfl,_,_,hdc⟩:=hu
 obtain ⟨gd,od,rfl,lgd,_,hdc⟩:=hdc (by omega)
 have HDC:=lh hdc
 have HDN:=lh hd
 have HROW:=lh (Au.arcsOf_row hf.row)
 have hmin:∀s,s<d.length→-1≤C.of s:=fun s hs=>by
  rcases hI.lt hs with h | h
  ·omega
  ·omega
 obtain ⟨c0,hc0⟩:∃c0:Nat,C.of 0=(c0:Int):=by
  rcases hI.lt (s:=0) (by omega) with h | h
  ·exact absurd ((hI.dead 0 (by omega)).1 h) h0
  ·exact ⟨(C.of 0).toNat,by omega⟩
 obtain ⟨W,hW⟩:∃W,W=Au.quo d C:=⟨_,rfl⟩
 obtain ⟨_,_,hmetn⟩:=Au.quo_least hf hI hq c0 hc0
 have hend:=fun i=>Au.quo_end hf hI hq c0 hc0 i
 have hql:=fun c=>Au.quo_leads d C hf.row c
 have hrefl:∀s,W.same s s=true:=fun s=>by rw [hW];exact Au.quo_refl d C s
 have hhas:∀i,∀x∈W.met c0 i,Au.Has d.length C x:=fun i=>by
  rw [hW]
  exact Au.met_all (Au.quo d C) (Au.Has d.length C) (fun s b t h1 h2=>Au.has_go hf.row hmin s b t h1 h2) c0 ⟨0,hf.pos,hc0⟩ i
 have hfin:∀c,W.fin c=(Au.ofL d).fin ((C.row c).getD 0 0):=fun c=>by rw [hW];rfl
 have hsame:W.same=fun a b=>decide (a=b):=by rw [hW];rfl
 rw [←hW] at hmetn hend hql
 obtain ⟨X,bo,ba,vm,vw,vq,hS⟩:=hC
 obtain ⟨b0,_,b2,_,_,_⟩:=hS.cells
 obtain ⟨am,cm,rfl,_,_,hm4⟩:=hS.mem.form
 have hX0:0<X.length:=by
  obtain ⟨_,_,hz⟩:=hI.rep (s:=0) (c:=c0) (by omega) hc0
  obtain ⟨x,hx⟩:=List.exists_mem_of_length_pos hz
  obtain ⟨j,hj,e⟩:=List.getElem_of_mem hx
  have:=Au.row_lt (C:=C) (c:=c0) (i:=j) (s:=x) (by rw [List.getElem?_eq_getElem hj,e])
  rw [hS.lenX]
  omega
 obtain ⟨gm,rfl,lgm,_,_,hmc⟩:=hm4 hX0
 have hXn:X.length≤n+1:=by
  have:=Au.few_classes hI.ok hI.ne
  rw [hS.lenX]
  omega
 have hplt:=hS.plt
 have hbolt:=hS.of.lt
 have HCW:Hid (∀W,Below w.heap.size w W→W.cell? ⟨p,0,none⟩=some (.slice (some ⟨bo,0,none⟩) n n)∧W.cell? ⟨p,2,none⟩=some (.slice (some ⟨gm,0,none⟩) X.length cm)∧∀s,s<n→W.cell? ⟨bo,s,none⟩=some (.int .i64 (C.of s))):=fun W hb=>
  ⟨(cell_same (a:=⟨p,0,none⟩) (hb.block p hplt)).trans b0,(cell_same (a:=⟨p,2,none⟩) (hb.block p hplt)).trans b2,fun s hs=>(cell_same (a:=⟨bo,s,none⟩) (hb.block bo hbolt)).trans (hS.of.cell hs)⟩
 have HRW:Hid (∀c,Au.Has d.length C c→∃gr len cp rep,c<X.length∧0<len∧rep<n∧rep=(C.row c).getD 0 0∧∀W,Below w.heap.size w W→W.cell? ⟨gm,c,none⟩=some (.slice (some ⟨gr,0,none⟩) len cp)∧W.cell? ⟨gr,0,none⟩=some (.int .i64 (rep:Int))):=by
  rintro c ⟨s,hs,hcs⟩
  obtain ⟨hr1,hr2,hr3⟩:=hI.rep hs hcs
  have hcX:c<X.length:=by
   obtain ⟨x,hx⟩:=List.exists_mem_of_length_pos hr3
   obtain ⟨j,hj,e⟩:=List.getElem_of_mem hx
   rw [hS.lenX]
   exact Au.row_lt (C:=C) (c:=c) (i:=j) (s:=x) (by rw [List.getElem?_eq_getElem hj,e])
  obtain ⟨ar,cp,hx,_,_,hr4⟩:=(hS.each c hcX).form
  obtain ⟨gr,rfl,lgr,_,_,hrx⟩:=hr4 hr3
  refine ⟨gr,(C.row c).length,cp,(C.row c).getD 0 0,hcX,hr3,by omega,rfl,fun W hb=>⟨?_,?_⟩⟩
  ·rw [←hx]
   exact (cell_same (a:=⟨gm,c,none⟩) (hb.block gm lgm)).trans (hmc c X[c] (List.getElem?_eq_getElem hcX))
  ·exact (cell_same (a:=⟨gr,0,none⟩) (hb.block gr lgr)).trans (hrx 0 _ (by
    cases hrow:C.row c with
    | nil=>rw [hrow] at hr3;simp at hr3
    | cons x r=>rfl))
 have HEND:=lh hend
 have HQL:=lh hql
 have HREFL:=lh hrefl
 have HHAS:=lh hhas
 have HFIN:=lh hfin
 have HSAME:=lh hsame
 have HMETN:=lh hmetn
 have HOF:=lh hmin
 rw [hd]
 clear hdc hd hf h0 hS b0 b2 hm4 hmc hI hq hend hql hrefl hhas hfin hsame hmetn hW hmin
 have hc0X:c0<X.length:=by
  obtain ⟨_,_,_,_,h,_⟩:=HRW.out c0 ⟨0,by rw [HDN.out];exact hn0,hc0⟩
  exact h
 have k0:=keyN_of (c:=c0) (by omega)
 have hmm:=@run_makeMap Tryz.prog
 have hbA0:Below w.heap.size w (w.alloc (.map #[] 0)).drew:=((Below.refl _ _).alloc (Nat.le_refl _) _).drew
 have hbB0:Below w.heap.size w ((w.alloc (.map #[] 0)).alloc (.cells #[.int .i64 (c0:Int)] 3)).drew:=(((Below.refl _ _).alloc (Nat.le_refl _) _).alloc (by simp) _).drew
 have hbC0:Below w.heap.size w ((w.alloc (.cells #[.int .i64 (c0:Int)] 3)).alloc (.map #[] 0)).drew:=(((Below.refl _ _).alloc (Nat.le_refl _) _).alloc (by simp) _).drew
 have hbD0:Below w.heap.size w (w.alloc (.cells #[.int .i64 (c0:Int)] 3)).drew:=((Below.refl _ _).alloc (Nat.le_refl _) _).drew
 obtain ⟨wA,rA,hmA,hgA⟩:=run_updG (w.alloc (.map #[] 0)).drew lawIn Tryz.underlying161 ((mapG_made 3 w).keep rfl) (by decide) k0 (.int .i64 0)
 obtain ⟨wB,rB,hmB,hgB⟩:=run_updG ((w.alloc (.map #[] 0)).alloc (.cells #[.int .i64 (c0:Int)] 3)).drew lawIn Tryz.underlying161 ((mapG_made 3 w).keep (Go.Deep.blk_alloc_lt _ _ _ (by simp))) (by decide) k0 (.int .i64 0)
 obtain ⟨wC,rC,hmC,hgC⟩:=run_updG ((w.alloc (.cells #[.int .i64 (c0:Int)] 3)).alloc (.map #[] 0)).drew lawIn Tryz.underlying161 ((mapG_made 3 (w.alloc (.cells #[.int .i64 (c0:Int)] 3))).keep rfl) (by decide) k0 (.int .i64 0)
 have mapS:∀ {W:World} {mb:Nat},MapG 3 W mb 1 (updG (fun _=>none) (keyN c0) (some (.int .i64 0)))→MapN W mb [c0]:=fun {W mb} h=>by
  refine mapN_new (E:=[]) (F:=fun _=>none) (b:=c0) h (fun s=>rfl) rfl
 have hszA:w.heap.size+1≤wA.heap.size:=by have:=hgA.size;simp at this;omega
 have hbA:Below w.heap.size w wA:=hbA0.grown hgA (by simp) (fun k hk=>by cases hk;exact Nat.le_refl _)
 have hbB:Below w.heap.size w wB:=hbB0.grown hgB (by simp;omega) (fun k hk=>by cases hk;exact Nat.le_refl _)
 have hbC:Below w.heap.size w wC:=hbC0.grown hgC (by simp;omega) (fun k hk=>by cases hk;simp)
 have hbA2:Below w.heap.size w (wA.alloc (.cells #[.int .i64 (c0:Int)] 3)):=hbA.alloc hbA.size _
 have HNA:Hid (No w (wA.alloc (.cells #[.int .i64 (c0:Int)] 3)) w.heap.size (fun k=>if k=w.heap.size then 3 else if k=wA.heap.size then 2 else 0) (.slice (some ⟨wA.heap.size,0,none⟩) 1 1) (.slice none 0 0) [c0] [] []):=by
  obtain ⟨F',hm',hF'⟩:=mapS hmA
  exact no_start w _ _ _ c0 ⟨F',hm'.keep (Go.Deep.blk_alloc_lt _ _ _ (by omega)),hF'⟩ hbA2 (Go.Deep.blk_alloc_new _ _) (Nat.le_refl _) (by omega) (by omega)
 have HNB:Hid (No w wB w.heap.size (fun k=>if k=w.heap.size then 3 else if k=w.heap.size+1 then 2 else 0) (.slice (some ⟨w.heap.size+1,0,none⟩) 1 1) (.slice none 0 0) [c0] [] []):=by
  refine no_start w _ _ _ c0 (mapS hmB) hbB ?_ (Nat.le_refl _) (by omega) (by omega)
  have h1:=Go.Deep.blk_alloc_new (w.alloc (.map #[] 0)) (.cells #[.int .i64 (c0:Int)] 3)
  have h2:(w.alloc (.map #[] 0)).heap.size=w.heap.size+1:=by simp
  rw [h2] at h1
  exact (hgB.block (w.heap.size+1) (by simp) (fun e=>by simp at e)).trans h1
 have HNC:Hid (No w wC (w.heap.size+1) (fun k=>if k=w.heap.size+1 then 3 else if k=w.heap.size then 2 else 0) (.slice (some ⟨w.heap.size,0,none⟩) 1 1) (.slice none 0 0) [c0] [] []):=by
  have h2:(w.alloc (.cells #[.int .i64 (c0:Int)] 3)).heap.size=w.heap.size+1:=by simp
  rw [h2] at hmC hgC
  refine no_start w _ _ _ c0 (mapS hmC) hbC ?_ (by omega) (Nat.le_refl _) (by omega)
  have h1:=(Go.Deep.blk_alloc_lt (w.alloc (.cells #[.int .i64 (c0:Int)] 3)) (.map #[] 0) w.heap.size (by simp)).trans (Go.Deep.blk_alloc_new w (.cells #[.int .i64 (c0:Int)] 3))
  exact (hgC.block w.heap.size (by simp;omega) (fun e=>by simp at e)).trans h1
 have HK:Hid (∀W,Below w.heap.size w W→W.cell? ⟨p,0,none⟩=some (.slice (some ⟨bo,0,none⟩) n n)∧W.cell? ⟨bo,0,none⟩=some (.int .i64 (c0:Int))):=fun W hb=>by
  obtain ⟨h1,_,h3⟩:=HCW.out W hb
  exact ⟨h1,by rw [h3 0 hn0,hc0]⟩
 have h2C:(w.alloc (.cells #[.int .i64 (c0:Int)] 3)).heap.size=w.heap.size+1:=by simp
 rw [h2C] at rC
 clear hmA hgA hmB hgB hmC hgC mapS h2C
 go_enter Tryz.func60,Tryz.ntmps60
 go_upto_region 1 with (fail)
 go_cut [5,6] (fun s5 s6 wx=>∃mb g κ,s5=.map (some mb)∧s6=.slice (some ⟨g,0,none⟩) 1 1∧Hid (No w wx mb κ s6 (.slice none 0 0) [c0] [] []))
 case first=>
  go_region_held3 (fun wx=>wx.cell? ⟨p,0,none⟩=some (.slice (some ⟨bo,0,none⟩) n n)∧wx.cell? ⟨bo,0,none⟩=some (.int .i64 (c0:Int))) (first | exact HK.out _ (Below.refl _ _).drew | exact HK.out _ hbA0 | exact HK.out _ hbB0 | exact HK.out _ hbC0 | exact HK.out _ hbD0 | exact HK.out _ hbA | exact HK.out _ hbB | exact HK.out _ hbC | exact HK.out _ hbA2) (fail)
  all_goals
   go_wp2_with fail
   go_meet
   first
    | exact ⟨_,_,_,rfl,rfl,HNA⟩
    | exact ⟨_,_,_,rfl,rfl,HNB⟩
    | exact ⟨_,_,_,rfl,rfl,HNC⟩
 case rest=>
  obtain ⟨mb,g,κ,rfl,rfl,H0⟩:=hcut
  have H1:Hid (No w wc mb κ (.slice (some ⟨g,0,none⟩) 1 1) (.slice none 0 0) (W.met c0 0) [] (W.out c0 0)):=H0
  clear rA rB rC hbA0 hbB0 hbC0 hbD0 hbA hbB hbC hbA2 HNA HNB HNC HK hszA H0 hmm k0 hc0X
  go_wp2_with fail
  go_loopg [6,7] (n+1) (fun gg s6 s7 wx=>∃(i:Nat) (κ:Nat→Nat) (L:List (Bool × Value)),i≤n∧gg=n+1-i∧i≤(W.met c0 i).length∧Hid (No w wx mb κ s6 s7 (W.met c0 i) L (W.out c0 i)))
  case atStart=>exact ⟨0,_,[],Nat.zero_le _,rfl,Nat.zero_le _,H1⟩
  case round=>
   clear H1
   obtain ⟨i,κ,L,hi,rfl,hil,hNo⟩:=hrel
   have hLi:L.length=i:=by rw [hNo.out.ot.len,Au.out_length];omega
   have hF1:=hNo.out.tm.texts.form
   have hF2:=hNo.out.ot.outs.form
   rw [hLi] at hF2
   obtain ⟨a6,cp6,rfl,_,_,ht3⟩:=hF1
   obtain ⟨a7,cp7,rfl,_,_,_⟩:=hF2
   have hmn:(W.met c0 i).length≤n:=by
    have:=HMETN.out i
    rw [HDN.out] at this
    exact this
   by_cases him:i<(W.met c0 i).length
   ·have j1:(i:Int)<(((W.met c0 i).length:Nat):Int):=by omega
    obtain ⟨g6,rfl,_,_,_,hc6⟩:=ht3 (by omega)
    have r1:=hc6 i (.int .i64 ((W.met c0 i)[i]:Int)) (by simp [natsV,him])
    have hai:Hid ((W.met c0 i)[i]?=some (W.met c0 i)[i]):=List.getElem?_eq_getElem him
    have hSL:=lh (fun Z h=>Au.states_leads W HREFL.out c0 _ i hai.out Z h)
    obtain ⟨gr,len,cpr,rep,hcX,hlen,hrn,hrep,hcells⟩:=HRW.out _ (HHAS.out i _ (List.getElem_mem him))
    have hfr:Hid (W.fin (W.met c0 i)[i]=(Au.ofL d).fin rep):=by rw [hrep];exact HFIN.out _
    have hqr:Hid (Au.Leads W (W.met c0 i)[i] 0 (Au.trs C (Au.arcsOf d rep))):=by rw [hrep];exact HQL.out _
    have hgl:Hid (i+1≤(W.met c0 (i+1)).length):=by
     obtain ⟨r,hr⟩:=Au.met_grows W c0 i
     show _≤_
     rw [hr,List.length_append]
     omega
    have hrd:rep<d.length:=by rw [HDN.out];exact hrn
    obtain ⟨e1,va,e2,hA⟩:=HDC.out rep hrd
    have hao:Au.arcsOf d rep=d[rep].arcs:=by simp [Au.arcsOf,List.getElem?_eq_getElem hrd]
    have hfo:(Au.ofL d).fin rep=d[rep].fin:=by simp [Au.ofL,List.getElem?_eq_getElem hrd]
    rw [←hao] at hA
    rw [hfo] at hfr
    have hrw:Hid (Au.Row n 256 (Au.arcsOf d rep)):=by
     have h:=HROW.out rep
     rw [HDN.out] at h
     exact h
    have hm2:(Au.arcsOf d rep).length≤256:=by have:=Au.row_few hrw.out;omega
    obtain ⟨aa,ca,rfl,_,_,hac⟩:=hA
    obtain ⟨m,hm⟩:∃m,m=(Au.arcsOf d rep).length:=⟨_,rfl⟩
    have HM:=lh hm
    have HAC:=lh hac
    rw [←hm] at hm2 e2
    generalize d[rep].fin=fin at *
    have HS:Hid (∀W',Below wr.heap.size wr W'→W'.cell? ⟨p,2,none⟩=some (.slice (some ⟨gm,0,none⟩) X.length cm)∧W'.cell? ⟨g6,i,none⟩=some (.int .i64 ((W.met c0 i)[i]:Int))∧W'.cell? ⟨gm,(W.met c0 i)[i],none⟩=some (.slice (some ⟨gr,0,none⟩) len cpr)∧W'.cell? ⟨gr,0,none⟩=some (.int .i64 (rep:Int))∧W'.cell? ⟨gd,od+rep*2,none⟩=some (.bool fin)∧W'.cell? ⟨gd,od+rep*2+1,none⟩=some (.slice aa m ca)):=fun W' hb=>by
     have hbw:Below w.heap.size w W':=chain hNo.out.bs.below hb
     obtain ⟨q1,q2⟩:=hcells W' hbw
     obtain ⟨_,q3,_⟩:=HCW.out W' hbw
     exact ⟨q3,(cell_same (a:=⟨g6,i,none⟩) (hb.block g6 (by assumption))).trans r1,q1,q2,(cell_same (a:=⟨gd,od+rep*2,none⟩) (hbw.block gd lgd)).trans e1,(cell_same (a:=⟨gd,od+rep*2+1,none⟩) (hbw.block gd lgd)).trans e2⟩
    have hMl:Hid ((W.met c0 i).length≤n):=hmn
    have hLd0:=lh hLi
    have j2:((W.met c0 i)[i]:Int)<(X.length:Int):=by omega
    have j3:(0:Int)<(len:Int):=by omega
    have j4:(rep:Int)<(n:Int):=by omega
    clear hc6 ht3 hai hcells e1 e2 hac hao hfo hrep hm r1
    generalize (W.met c0 i)[i]=cc at *
    go_upto_region 4 with (fail)
    go_region_held3 (fun W'=>W'.cell? ⟨p,2,none⟩=some (.slice (some ⟨gm,0,none⟩) X.length cm)∧W'.cell? ⟨g6,i,none⟩=some (.int .i64 (cc:Int))∧W'.cell? ⟨gm,cc,none⟩=some (.slice (some ⟨gr,0,none⟩) len cpr)∧W'.cell? ⟨gr,0,none⟩=some (.int .i64 (rep:Int))∧W'.cell? ⟨gd,od+rep*2,none⟩=some (.bool fin)∧W'.cell? ⟨gd,od+rep*2+1,none⟩=some (.slice aa m ca)) (first | exact HS.out _ (Below.refl _ _).drew | exact HS.out _ ((Below.refl _ _).alloc (Nat.le_refl _) _).drew) (fail)
    have HO1:Hid (No w (wr.alloc (.cells #[.bool fin,.slice aa m ca] 61)).drew mb (paint κ wr.heap.size 9) (.slice (some ⟨g6,0,none⟩) (W.met c0 i).length cp6) (.slice a7 i cp7) (W.met c0 i) L (W.out c0 i)):=(hNo.out.step (Step.of_alloc wr _) (by decide)).drew
    have hDb:Hid ((wr.alloc (.cells #[.bool fin,.slice aa m ca] 61)).drew.heap[wr.heap.size]?=some (.cells #[.bool fin,.slice aa m ca] 61 (0,0))):=Go.Deep.blk_alloc_new _ _
    clear hNo HS
    generalize (wr.alloc (.cells #[.bool fin,.slice aa m ca] 61)).drew=w2 at *
    generalize wr.heap.size=D at *
    generalize paint κ D 9=κ2 at *
    have d0:w2.cell? ⟨D,0,none⟩=some (.bool fin):=by have h:=hDb.out;simp [World.cell?,h]
    have d1:w2.cell? ⟨D,1,none⟩=some (.slice aa m ca):=by have h:=hDb.out;simp [World.cell?,h]
    have hDl:D<w2.heap.size:=(Array.getElem?_eq_some_iff.1 hDb.out).1
    have d2:(w2.alloc (.cells #[.bool fin,.slice none 0 0] 61)).cell? ⟨D,1,none⟩=some (.slice aa m ca):=(World.cell?_alloc_past _ _ _ hDl).trans d1
    have HI1:Hid (Ni w (w2.alloc (.cells #[.bool fin,.slice none 0 0] 61)) mb w2.heap.size (paint κ2 w2.heap.size 7) (.slice (some ⟨g6,0,none⟩) (W.met c0 i).length cp6) (.slice a7 i cp7) (.slice none 0 0) (Au.lp W C (W.met c0 i) ((Au.arcsOf d rep).take 0)).1 L (W.out c0 i) fin (Au.lp W C (W.met c0 i) ((Au.arcsOf d rep).take 0)).2):=HO1.out.open fin
    clear HO1 hDb
    go_wp2_with fail
    clear d0 d1 d2
    generalize w2.alloc (.cells #[.bool fin,.slice none 0 0] 61)=w3 at *
    generalize w2.heap.size=sb at *
    go_loopg [6,57] m (fun gg s6 s57 wx=>∃(k:Nat) (κ:Nat→Nat) (va:Value),k≤m∧gg=m-k∧s57=.int .i64 k∧Hid (Ni w wx mb sb κ s6 (.slice a7 i cp7) va (Au.lp W C (W.met c0 i) ((Au.arcsOf d rep).take k)).1 L (W.out c0 i) fin (Au.lp W C (W.met c0 i) ((Au.arcsOf d rep).take k)).2))
    case atStart=>exact ⟨0,_,_,Nat.zero_le _,rfl,rfl,HI1⟩
    case round=>
     clear HI1
     obtain ⟨k,κ,va,hk,rfl,rfl,hNi⟩:=hrel
     by_cases hkm:k<m
     ·have j5:(k:Int)<(m:Int):=by omega
      have hkl:k<(Au.arcsOf d rep).length:=by rw [←HM.out];exact hkm
      obtain ⟨g2,o2,rfl,lg2,_,hcc⟩:=HAC.out (by omega)
      obtain ⟨x1,x2,x3⟩:=hcc k hkl
      have hbl:=hNi.out.bs.below
      have y1:=(cell_same (a:=⟨g2,o2+k*3,none⟩) (hbl.block g2 lg2)).trans x1
      have y2:=(cell_same (a:=⟨g2,o2+k*3+1,none⟩) (hbl.block g2 lg2)).trans x2
      have y3:=(cell_same (a:=⟨g2,o2+k*3+2,none⟩) (hbl.block g2 lg2)).trans x3
      obtain ⟨z1,z2,z3,z4,z5⟩:=hrw.out.1 k hkl
      have hnx:=lh (Au.lp_snoc W C (W.met c0 i) ((Au.arcsOf d rep).take k) (Au.arcsOf d rep)[k])
      rw [←List.take_succ_eq_append_getElem hkl] at hnx
      obtain ⟨l1,l2⟩:=Au.lp_len W C (W.met c0 i) ((Au.arcsOf d rep).take k)
      have l3:=List.length_take_le k (Au.arcsOf d rep)
      have hah:=lh (Au.lp_hi W C (W.met c0 i) ((Au.arcsOf d rep).take k) (fun a ha=>by
       obtain ⟨j,hj,rfl⟩:=List.getElem_of_mem (List.mem_of_mem_take ha)
       have:=hrw.out.1 j hj
       omega))
      clear x1 x2 x3 hcc hbl
      generalize (Au.arcsOf d rep)[k]=arc at *
      obtain ⟨alo,ahi,ato⟩:=arc
      dsimp only at y1 y2 y3 hnx z1 z2 z3 z4 z5
      obtain ⟨lo,rfl⟩:∃x:Nat,alo=(x:Int):=⟨alo.toNat,by omega⟩
      obtain ⟨hi',rfl⟩:∃x:Nat,ahi=(x:Int):=⟨ahi.toNat,by omega⟩
      obtain ⟨tt,rfl⟩:∃x:Nat,ato=(x:Int):=⟨ato.toNat,by omega⟩
      simp only [Int.toNat_natCast] at hnx
      have htn:tt<n:=by omega
      have hof:=HOF.out tt (by rw [HDN.out];exact htn)
      have hbd:∀b:Nat,C.of tt=(b:Int)→b≤20000:=fun b hb=>by
       obtain ⟨_,_,_,_,h,_⟩:=HRW.out b ⟨tt,by rw [HDN.out];exact htn,hb⟩
       omega
      obtain ⟨x,hx⟩:∃x,C.of tt=x:=⟨_,rfl⟩
      rw [hx] at hof hbd hnx
      have HI2:=lh (hNi.out.step (Step.of_alloc wr (.cells #[.int .i64 (lo:Int),.int .i64 (hi':Int),.int .i64 (tt:Int)] 71)) (Nat.le_refl 9)).drew
      have hDb:Hid ((wr.alloc (.cells #[.int .i64 (lo:Int),.int .i64 (hi':Int),.int .i64 (tt:Int)] 71)).heap[wr.heap.size]?=some (.cells #[.int .i64 (lo:Int),.int .i64 (hi':Int),.int .i64 (tt:Int)] 71 (0,0))):=Go.Deep.blk_alloc_new _ _
      have hkD:Hid (paint κ wr.heap.size 9 wr.heap.size=9):=paint_new _ _ _ _ (Nat.le_refl _)
      have HS2:Hid (∀W',Below (wr.alloc (.cells #[.int .i64 (lo:Int),.int .i64 (hi':Int),.int .i64 (tt:Int)] 71)).heap.size (wr.alloc (.cells #[.int .i64 (lo:Int),.int .i64 (hi':Int),.int .i64 (tt:Int)] 71)) W'→W'.cell? ⟨p,0,none⟩=some (.slice (some ⟨bo,0,none⟩) n n)∧W'.cell? ⟨wr.heap.size,2,none⟩=some (.int .i64 (tt:Int))∧W'.cell? ⟨bo,tt,none⟩=some (.int .i64 x)):=fun W' hb=>by
       have hbw:Below w.heap.size w W':=chain hNi.out.bs.below (chain ((Below.refl _ _).alloc (Nat.le_refl _) _) hb)
       obtain ⟨q1,_,q3⟩:=HCW.out W' hbw
       have h:=(hb.block wr.heap.size (by simp)).trans hDb.out
       exact ⟨q1,by simp [World.cell?,h],by rw [q3 tt htn,hx]⟩
      have j6:(tt:Int)<(n:Int):=by omega
      clear hNi hx
      go_upto_region 9 with (fail)
      generalize wr.alloc (.cells #[.int .i64 (lo:Int),.int .i64 (hi':Int),.int .i64 (tt:Int)] 71)=w4 at *
      generalize wr.heap.size=D2 at *
      generalize paint κ D2 9=κ4 at *
      go_region_held3 (fun W'=>W'.cell? ⟨p,0,none⟩=some (.slice (some ⟨bo,0,none⟩) n n)∧W'.cell? ⟨D2,2,none⟩=some (.int .i64 (tt:Int))∧W'.cell? ⟨bo,tt,none⟩=some (.int .i64 x)) (first | exact HS2.out _ (Below.refl _ _).drew) (fail)
      have hDb2:Hid (w4.drew.heap[D2]?=some (.cells #[.int .i64 (lo:Int),.int .i64 (hi':Int),.int .i64 (tt:Int)] 71 (0,0))):=hDb.out
      clear HS2 hDb y1 y2 y3
      generalize w4.drew=w5 at *
      by_cases hx1:x = -1
      ·subst hx1
       rw [if_pos rfl] at hnx
       clear hDb2 hkD
       go_wp2_with fail
       go_roundg (m-(k+1))
       case rel=>exact ⟨k+1,_,_,by omega,rfl,by go_num,by rw [hnx.out];exact HI2⟩
       case measure=>omega
      ·rw [if_neg hx1] at hnx
       obtain ⟨b,rfl⟩:∃b:Nat,x=(b:Int):=⟨x.toNat,by omega⟩
       have hb2:=hbd b rfl
       have hk2:=keyN_of (c:=b) (by omega)
       rw [Int.toNat_natCast] at hnx
       have hnx1:Hid ((Au.lp W C (W.met c0 i) ((Au.arcsOf d rep).take (k+1))).1=if Au.idxN (Au.lp W C (W.met c0 i) ((Au.arcsOf d rep).take k)).1 b=(Au.lp W C (W.met c0 i) ((Au.arcsOf d rep).take k)).1.length then (Au.lp W C (W.met c0 i) ((Au.arcsOf d rep).take k)).1++[b] else (Au.lp W C (W.met c0 i) ((Au.arcsOf d rep).take k)).1):=by
        show _=_
        rw [hnx.out]
        unfold Au.Walk.lead
        rw [HSAME.out]
        rfl
       have hnx2:Hid ((Au.lp W C (W.met c0 i) ((Au.arcsOf d rep).take (k+1))).2=Au.joined (Au.lp W C (W.met c0 i) ((Au.arcsOf d rep).take k)).2 lo hi' (Au.idxN (Au.lp W C (W.met c0 i) ((Au.arcsOf d rep).take k)).1 b)):=by
        show _=_
        rw [hnx.out]
        unfold Au.Walk.lead
        rw [HSAME.out]
        rfl
       have hidl:=Au.idxN_le (Au.lp W C (W.met c0 i) ((Au.arcsOf d rep).take k)).1 b
       obtain ⟨a6',cp6',rfl,_,_,_⟩:=HI2.out.tm.texts.form
       have hElen:(Au.lp W C (W.met c0 i) ((Au.arcsOf d rep).take k)).1.length≤20512:=by omega
       have harl:(Au.lp W C (W.met c0 i) ((Au.arcsOf d rep).take k)).2.length≤1000:=by omega
       clear hnx hbd hof l1 l2 l3
       generalize (Au.lp W C (W.met c0 i) ((Au.arcsOf d rep).take k)).1=E at *
       generalize (Au.lp W C (W.met c0 i) ((Au.arcsOf d rep).take k)).2=ar at *
       obtain ⟨F',hMF,hFE⟩:=HI2.out.tm.map
       have hF1:=hFE b
       have HFE:=lh hFE
       have HMF:=lh hMF
       have hq:Hid (D2<w5.heap.size∧κ4 D2=9):=⟨(Array.getElem?_eq_some_iff.1 hDb2.out).1,hkD.out⟩
       have d0:w5.cell? ⟨D2,0,none⟩=some (.int .i64 (lo:Int)):=by have h:=hDb2.out;simp [World.cell?,h]
       have d1:w5.cell? ⟨D2,1,none⟩=some (.int .i64 (hi':Int)):=by have h:=hDb2.out;simp [World.cell?,h]
       have HLE:Hid (∀wx κx wy κy,Step κ4 3 w5 wx κx→Step κx 2 wx wy κy→wy.cell? ⟨D2,0,none⟩=some (.int .i64 (lo:Int))∧wy.cell? ⟨D2,1,none⟩=some (.int .i64 (hi':Int))):=fun wx κx wy κy h h'=>by
        have hb1:=h.block D2 hq.out.1 (by rw [hq.out.2];decide)
        have hc1:=(h.col D2 hq.out.1).trans hq.out.2
        have hb2:=h'.block D2 (Nat.lt_of_lt_of_le hq.out.1 h.size) (by rw [hc1];decide)
        exact ⟨(cell_same (a:=⟨D2,0,none⟩) (hb2.trans hb1)).trans d0,(cell_same (a:=⟨D2,1,none⟩) (hb2.trans hb1)).trans d1⟩
       have HJO:Hid (∀wx vt' κ' E' (k':Nat),Ni w wx mb sb κ' vt' (.slice a7 i cp7) va E' L (W.out c0 i) fin ar →
        (wx.cell? ⟨sb,1,none⟩=some va)∧Calls Tryz.prog 55 #[va,.agg #[.int .i64 (lo:Int),.int .i64 (hi':Int),.int .i64 (k':Int)]] wx fun e w'=>∃a8 n8 cp8,e=.returned (.slice a8 n8 cp8)∧w'.cell? ⟨sb,1,none⟩=some va∧w'.frozen? ⟨sb,1,none⟩=false ∧
         Hid (Ni w (w'.setCell ⟨sb,1,none⟩ (.slice a8 n8 cp8)) mb sb (paint κ' wx.heap.size 6) vt' (.slice a7 i cp7) (.slice a8 n8 cp8) E' L (W.out c0 i) fin (Au.joined ar lo hi' k'))):=fun wx vt' κ' E' k' h=>by
        refine ⟨h.cs.cells.2.1,(joined_any wx 0 va ar lo hi' k' h.cs.arcs.own (Nat.zero_le _) harl hah.out ⟨by omega,by omega⟩).mono fun e w' hh=>?_⟩
        obtain ⟨v',rfl,ho,ht⟩:=hh
        obtain ⟨a8,cp8,rfl,_⟩:=ho.opened
        obtain ⟨⟨s1,s2⟩,s3⟩:=h.grow ht ho
        exact ⟨a8,_,cp8,rfl,s1,s2,s3⟩
       clear hFE hMF
       by_cases hix:Au.idxN E b=E.length
       ·unfold plN at hF1
        rw [if_pos hix] at hF1
        have HPL:=lh (fun wx (h5:w5.grownBy wx (some mb))=>HI2.out.place h5)
        have HPU:=lh (fun wx h5 κ' h5s wy vt' hr6 hs6=>HI2.out.push (b:=b) (w':=wx) (κ':=κ') (w2:=wy) (vt':=vt') (mapN_new h5 HFE.out hix) h5s hr6 hs6)
        rw [hix,if_pos rfl] at hnx1
        rw [hix] at hnx2
        clear hix HI2 hDb2 d0 d1
        obtain ⟨ii,hi1,hz0,hz1,hz2⟩:=info_parts Tryz.infoN
        go_wp2_with (first | (at_lookup;refine wpList_lookOkG _ rfl _ _ 161 3 3 rfl lawIn Tryz.underlying161 (.int .i64 0) zeroInt mb _ F' rfl HMF.out (.int .i64 (b:Int)) (keyN b) rfl hk2 ?_;rw [hF1];dsimp only [Option.getD,Option.isSome]) | (at_mapUpdate;refine wpList_storeG _ rfl _ _ _ 161 3 3 rfl lawIn Tryz.underlying161 mb E.length F' rfl HMF.out (by unfold maxLen;omega) (.int .i64 (b:Int)) (keyN b) rfl hk2 _ rfl ?_;intro wx hm5 hg5;have HM5:=lh hm5;have HS5:=lh (HPL.out wx hg5);clear hm5 hg5) | (at_builtin;refine wpList_pushC rfl _ _ 82 3 rfl ii _ 1 8 Tryz.underlying82 hi1 hz0 hz1 hz2 rfl (by decide) _ 2 _ E.length (natsV E) rfl HS5.out.2 [.int .i64 (b:Int)] rfl (one_of rfl) rfl (by omega) (by omega) ?_;intro g9 cp9 wy hr6 hs6;have HM6:=lh (HPU.out wx HM5.out _ HS5.out.1 wy _ hr6 hs6);obtain ⟨y0,y1⟩:=HLE.out wx _ wy _ HS5.out.1 hs6;obtain ⟨y2,hjo⟩:=HJO.out wy _ _ _ E.length HM6.out;have HJ6:=lh hjo;clear hr6 hs6 hjo) | (go_at_call 55;refine HJ6.out.mono ?_;rintro e w7 ⟨a8,n8,cp8,rfl,s1,s2,HM7⟩))
        go_roundg (m-(k+1))
        case rel=>exact ⟨k+1,_,_,by omega,rfl,by go_num,by rw [hnx1.out,hnx2.out];exact HM7⟩
        case measure=>omega
       ·unfold plN at hF1
        rw [if_neg hix] at hF1
        rw [if_neg hix] at hnx1
        obtain ⟨y2,hjo⟩:=HJO.out _ _ _ E (Au.idxN E b) HI2.out
        have HJ6:=lh hjo
        clear hix hjo hidl
        generalize Au.idxN E b=j at *
        go_wp2_with (first | (at_lookup;refine wpList_lookOkG _ rfl _ _ 161 3 3 rfl lawIn Tryz.underlying161 (.int .i64 0) zeroInt mb _ F' rfl HMF.out (.int .i64 (b:Int)) (keyN b) rfl hk2 ?_;rw [hF1];dsimp only [Option.getD,Option.isSome]) | (go_at_call 55;refine HJ6.out.mono ?_;rintro e w7 ⟨a8,n8,cp8,rfl,s1,s2,HM7⟩))
        go_roundg (m-(k+1))
        case rel=>exact ⟨k+1,_,_,by omega,rfl,by go_num,by rw [hnx1.out,hnx2.out];exact HM7⟩
        case measure=>omega
     ·obtain rfl:k=m:=by omega
      have hsl:=hSL.out _ hqr.out
      rw [←Au.lp_leads] at hsl
      obtain ⟨m1,m2⟩:=hsl
      rw [hfr.out] at m2
      have htk:(Au.arcsOf d rep).take k=Au.arcsOf d rep:=List.take_of_length_le (by rw [HM.out];exact Nat.le_refl _)
      rw [htk,m1] at hNi
      have HN2:=lh m2
      clear m1 m2 htk
      generalize (Au.lp W C (W.met c0 i) (Au.arcsOf d rep)).2=ar' at *
      have hcs:=hNi.out.cs.cells
      obtain ⟨a9,cp9,rfl,_⟩:=hNi.out.cs.arcs.form
      obtain ⟨s0,s1,_⟩:=hcs
      obtain ⟨a6',cp6',rfl,_,_,_⟩:=hNi.out.tm.texts.form
      have HRO:Hid (RowC κ 4 wr 61 2 (.slice a7 i cp7) i (stsV L)):=by
       have h:=hNi.out.ot.outs
       rw [hLd0.out] at h
       exact h
      have HCL:=lh (fun vo' w' h1 h2=>hNi.out.close (vo':=vo') (w':=w') (by rw [hLd0.out];exact h1) h2)
      obtain ⟨ii,hi1,hz0,hz1,hz2⟩:=info_parts Tryz.infoSt
      clear hNi
      go_wp2_with (at_builtin;refine wpList_pushC rfl _ _ 35 61 rfl ii _ 2 32 Tryz.underlying35 hi1 hz0 hz1 hz2 rfl (by decide) _ 4 _ i (stsV L) rfl HRO.out [.bool fin,.slice a9 _ cp9] rfl (one_of rfl) rfl (by omega) (by omega) ?_;intro g9 cp10 w6 hr6 hs6;have HM6:=lh (HCL.out _ w6 hr6 hs6);clear hr6 hs6)
      go_roundg (n+1-(i+1))
      case rel=>exact ⟨i+1,_,_,by omega,by omega,hgl.out,by rw [←HN2.out];exact HM6⟩
      case measure=>omega
   ·have hdn:=HEND.out i (by omega)
    have HO:=lh (hNo.out.ot.sto (B:=w.heap.size) hNo.out.ap fun g _ hg=>by
     apply Classical.byContradiction
     intro h
     have:=hNo.out.bs.old g (by omega)
     omega)
    rw [hdn] at HO
    have HB:=lh hNo.out.bs.below
    clear hNo ht3 hdn
    go_wp2_with fail
    go_ret
    exact ⟨_,rfl,HO.out,HB.out⟩
end
section
open Go.RowKit
theorem run_make_one (w:World):(Instr.makeSlice 35 (.int .i64 1) (.int .i64 1)).run Tryz.prog w=.ok (.slice (some ⟨w.heap.size,0,none⟩) 1 1) (w.alloc (.cells #[.bool false,.slice none 0 0] 61)):=by kernel_rfl
theorem leastP_any (F:Nat→Prop) (w:World) (u:Value) (d:List Au.St) (hf:Au.Fits d) (hu:StS F w u d):
  Calls Tryz.prog 38 #[u] w fun e w'=>∃v,e=.returned v∧StO w.heap.size w' v (Au.least d)∧Below w.heap.size w w':=by
 obtain ⟨n,hn⟩:∃n,d.length=n:=⟨_,rfl⟩
 have hn0:0<n:=by have:=hf.pos;omega
 have HU:=lh hu
 have HBK:=lh (backward_any F w u d n hn hf hu)
 have HAL:Hid (∀W vb,Below w.heap.size w W→RowsS (fun g=>w.heap.size≤g) W vb ((List.range n).map (Au.back d))→_):=fun W vb hb hr=>aliveOf_any (fun _=>True) W u vb d n hn hf ((HU.out.below hb).wide fun _ _ _=>trivial) (hr.wide fun _ _ _=>trivial)
 have HCL:Hid (∀W vb ga,Below w.heap.size w W→RowsS (fun g=>w.heap.size≤g) W vb ((List.range n).map (Au.back d))→W.rowIs ga 4 n (fun j=>.bool (Au.aliveB d j))→¬Au.Dead (Au.ofL d) (some 0)→_):=fun W vb ga hb hr hal h0=>classesOf_any (fun _=>True) W u vb ga d n hn hf h0 ((HU.out.below hb).wide fun _ _ _=>trivial) (hr.wide fun _ _ _=>trivial) hal
 have HTD:Hid (∀W p κ C O,Below w.heap.size w W→¬Au.Dead (Au.ofL d) (some 0)→ClsM n W p κ C→Au.HInv d O (fun _=>False) C→C.wq=[]→_):=fun W p κ C O hb h0 hC hI hq=>told_any (fun _=>True) W u d n p κ C O hn hf h0 ((HU.out.below hb).wide fun _ _ _=>trivial) hC hI hq
 obtain ⟨ad,cd,rfl,hjunk⟩:=hu
 have HDD:=lh (fun h=>Au.least_dead hf h)
 clear hjunk hf hn
 go_enter Tryz.func38,Tryz.ntmps38
 go_wp2_with fail
 refine HBK.out.mono ?_
 rintro e w1 ⟨vb,rfl,hr1,hb1⟩
 have hln:((List.range n).map (Au.back d)).length=n:=by simp
 have hr2:=hr1
 obtain ⟨ab,cb,hvb,hjunk⟩:=hr1
 rw [hln] at hvb
 subst hvb
 have HR1:=lh hr2
 have HB1:=lh hb1
 clear hjunk hb1 hr2 hln
 have H2:=lh (HAL.out w1 _ HB1.out HR1.out)
 go_wp2_with fail
 refine H2.out.mono ?_
 rintro e w2 ⟨ga,rfl,hga,hal,hb2⟩
 have HB2:Hid (Below w.heap.size w w2):=chain HB1.out hb2
 have HR2:=lh (HR1.out.below hb2)
 have HA2:=lh hal
 have r1:=hal.cell hn0
 clear hb2 hal H2
 cases ha:Au.aliveB d 0 with
 | false=>
  rw [ha] at r1
  have hdead:Au.Dead (Au.ofL d) (some 0):=by
   apply Classical.byContradiction
   intro h
   rw [(Au.aliveB_true d 0).2 h] at ha
   cases ha
  have HE:=lh (HDD.out hdead)
  have hmk:=run_make_one
  go_wp2_with fail
  go_ret
  refine ⟨_,rfl,?_,HB2.out.alloc HB2.out.size _⟩
  rw [HE.out]
  refine ⟨[.slice none 0 0],some ⟨w2.heap.size,0,none⟩,1,rfl,rfl,Nat.le_refl _,by omega,fun _=>⟨w2.heap.size,rfl,by simp,HB2.out.size,⟨_,_,Go.Deep.blk_alloc_new _ _⟩,fun j hj hj2=>?_⟩,fun j hj hj2=>?_,fun j k hj hk hne=>?_⟩
  ·obtain rfl:j=0:=by simp at hj;omega
   exact ⟨cell_at w2 [.bool false,.slice none 0 0] 61 0 _ rfl,cell_at w2 [.bool false,.slice none 0 0] 61 1 _ rfl⟩
  ·obtain rfl:j=0:=by simp at hj;omega
   exact OwnA.nil0 _ _
  ·simp at hj hk;omega
 | true=>
  rw [ha] at r1
  have h0:=(Au.aliveB_true d 0).1 ha
  have H3:=lh (HCL.out w2 _ ga HB2.out HR2.out HA2.out h0)
  clear HBK HAL HCL
  go_wp2_with fail
  refine H3.out.mono ?_
  rintro e w3 ⟨p,κ,C,O,rfl,hC,hq⟩
  have HB3:Hid (Below w.heap.size w w3):=chain HB2.out hC.base.below
  have H4:=lh (HTD.out w3 p κ C O HB3.out h0 hC.cls hC.inv hq)
  clear hC hq HTD H3
  go_wp2_with fail
  refine H4.out.mono ?_
  rintro e w4 ⟨v,rfl,hv,hb4⟩
  have H5:=lh (And.intro hv hb4)
  clear hv hb4 H4
  go_wp2_with fail
  go_ret
  exact ⟨v,rfl,H5.out.1.lower HB3.out.size,chain HB3.out H5.out.2⟩
end
section
open Go.RowKit
namespace Au
theorem sub_go_len {n:List Lo} (s:List Bool) (c:Nat) (t:List Bool) (h:(sub n).plain.go s c=some t):t.length=n.length:=by
 change (if _ then _ else _)=_ at h
 split at h
 ·cases h
 ·cases h
  exact over_length n s c
end Au
theorem encS_size (S:List Bool):(encS S).size≤9*S.length:=by
 unfold encS
 refine Nat.le_trans (encI_size_le _) (Nat.mul_le_mul_left _ ?_)
 rw [dl_length,List.length_map]
 unfold Au.idx
 have:=List.length_filter_le (fun i=>S[i]? == some true) (List.range S.length)
 rw [List.length_range] at this
 exact this
theorem LoS.wide {F G:Nat→Prop} {w:World} {v:Value} {n:List Au.Lo} (h:LoS F w v n) (hm:∀g,g<w.heap.size→F g→G g):LoS G w v n:=by
 obtain ⟨a,cap,h1,h2,h3,h4⟩:=h
 refine ⟨a,cap,h1,h2,h3,fun h0=>?_⟩
 obtain ⟨g,o,h5,h6,h7,h8⟩:=h4 h0
 refine ⟨g,o,h5,h6,hm g h6 h7,fun j hj=>?_⟩
 obtain ⟨c1,⟨va,c2,hA⟩,vf,c3,hN⟩:=h8 j hj
 exact ⟨c1,⟨va,c2,hA.wide hm⟩,vf,c3,hN.wide hm⟩
structure TInv (B p bi n:Nat) (u:Value) (d:List Au.Lo) (W:World):Prop where
 prow:W.heap[p]?=some (.cells #[u,.slice (some ⟨bi,0,none⟩) n n] 184 (0,0))
 brow:W.rowIs bi 4 n (fun _=>.bool false)
 lo:LoS (fun g=>g<B) W u d
theorem TInv.kept {B p bi n:Nat} {u:Value} {d:List Au.Lo} {W W':World} (h:TInv B p bi n u d W) (hb:KeptF (fun b=>b=bi) W W') (hp:p≠bi) (hB:B≤bi) (hr:W'.rowIs bi 4 n (fun _=>.bool false)):TInv B p bi n u d W':=
 ⟨(hb.block p (Array.getElem?_eq_some_iff.1 h.prow).1 hp).trans h.prow,hr,h.lo.keep hb.size fun g hg hl=>hb.block g hl (by omega)⟩
theorem TInv.below {B p bi n:Nat} {u:Value} {d:List Au.Lo} {W W':World} {C:Nat} (h:TInv B p bi n u d W) (hb:Below C W W') (hp:p<C) (hbi:bi<C) (hB:B≤C):TInv B p bi n u d W':=
 ⟨(hb.block p hp).trans h.prow,h.brow.of_block (hb.block bi hbi),h.lo.keep hb.size fun g hg _=>hb.block g (by omega)⟩
theorem meets_sets (B p bi n:Nat) (u:Value) (d:List Au.Lo) (w:World) (most:Int) (hdn:d.length=n) (hn:n≤1048576) (hmay:Au.May d) (hbig:∀S,(Au.rowsOf d S).flatten.length≤1099511627776) (hm:most≤20000) (h:TInv B p bi n u d w) (hp:p≠bi) (hB:B≤bi):
  Calls Tryz.prog 35 #[.string (encS (Au.first d)),.int .i64 most,.func (.func 104) #[.pointer (some ⟨p,0,none⟩)] #[]] w (MeetP (Au.sub d).plain (Au.first d) most bi w):=by
 have hpl:p<w.heap.size:=(Array.getElem?_eq_some_iff.1 h.prow).1
 refine meet_any (Au.sub d).plain encS (fun s=>s.length=n) (TInv B p bi n u d) bi w 104 (.pointer (some ⟨p,0,none⟩)) (Au.first d) most 20000 (fun s=>decide_eq_true rfl) (fun s c t _ hg=>(Au.sub_go_len s c t hg).trans hdn) ((Au.first_length d).trans hdn) (fun s t hs ht=>?_) (fun s hs=>?_) (by omega) (.inl hm) h.brow.lt h (fun W W' hW hb=>hW.below hb hpl h.brow.lt (by have:=h.brow.lt;omega)) (fun args w=>rfl) (fun w2 s hw2 hi hs=>?_)
 ·show decide (s=t)=decide (encS s=encS t)
  by_cases e:s=t
  ·subst e;rw [decide_eq_true rfl,decide_eq_true rfl]
  ·rw [decide_eq_false e,decide_eq_false fun e2=>e (encS_inj (hs.trans ht.symm) (by omega) e2)]
 ·have:=encS_size s
  rw [hs] at this
  omega
 ·refine (look_any w2 p bi n u d s hdn hi.prow hi.brow (hi.lo.wide fun g _ hg=>by omega) hmay hs (by omega) (hbig s)).mono ?_
  rintro e w' ⟨v,Z,rfl,hcut,hlds,hk,hr⟩
  refine ⟨v,Z.map fun g=>(⟨g.lo,g.hi,Au.toSet d g.to⟩:Au.Trail (List Bool)),rfl,Au.sub_leads hmay s Z hcut,?_,hk,hi.kept hk hp hB hr⟩
  rw [List.map_map]
  exact hlds
theorem tightP_any (F:Nat→Prop) (w:World) (u:Value) (d:List Au.Lo) (most:Int) (hu:LoS F w u d) (hn:d.length≤1048576) (hbig:∀S,(Au.rowsOf d S).flatten.length≤1099511627776) (hm:most≤20000):
  Calls Tryz.prog 80 #[u,.int .i64 most] w fun e w'=>∃v,e=.returned (.tuple #[v,.int .i64 (Au.tightE d most)])∧StO w.heap.size w' v (Au.tightL d most)∧Below w.heap.size w w':=by
 have HIL:=lh (isLoose_any F w u d hu)
 obtain ⟨n,hdn⟩:∃n,d.length=n:=⟨_,rfl⟩
 have hu2:=hu
 obtain ⟨ad,cd,rfl,hjunk⟩:=hu
 rw [hdn] at hu2 HIL hn ⊢
 have HU:=lh hu2
 have HDN:=lh hdn
 have HBIG:=lh hbig
 have HOB:=lh (fun h=>Au.tight_out_bad (d:=d) (most:=most) h)
 have HOO:=lh (fun h=>Au.tight_outs (d:=d) (most:=most) h)
 have hmk:=run_make_row' (P:=Tryz.prog) 107 4 (.bool false) 1 Tryz.underlying107 Tryz.infoBo rfl .i64 .i64 n (by omega) (by omega)
 clear hjunk hu2 hdn hbig
 go_enter Tryz.func80,Tryz.ntmps80
 go_wp2_with fail
 refine HIL.out.mono ?_
 rintro e w1 ⟨rfl,hb⟩
 have HB1:=lh hb
 clear hb HIL
 cases hmay:Au.may d with
 | false=>
  have HE:=lh (HOB.out (by rw [hmay];decide))
  go_wp2_with fail
  go_ret2
  refine ⟨.slice none 0 0,?_,?_,HB1.out⟩
  ·rw [HE.out.1];rfl
  ·rw [HE.out.2];exact StO.nil _ _
 | true=>
  have hM:=(Au.may_true d).1 hmay
  have HE:=lh (HOO.out hmay)
  have HMAY:=lh hM
  have hn0:0<n:=by have:=hM.pos;rw [HDN.out] at this;exact this
  have HT:Hid (TInv w.heap.size (w1.heap.size+1) w1.heap.size n (.slice ad n cd) d (((w1.alloc (.cells (madeCells #[.bool false] n) 4)).alloc (.cells #[.slice ad n cd,.slice (some ⟨w1.heap.size,0,none⟩) n n] 184)).alloc (.cells #[.int .i64 0] 3))):=by
   have r1:(w1.alloc (.cells (madeCells #[.bool false] n) 4)).rowIs w1.heap.size 4 n (fun _=>.bool false):=World.rowIs_made w1 _ n _
   have hb3:Below w.heap.size w (((w1.alloc (.cells (madeCells #[.bool false] n) 4)).alloc (.cells #[.slice ad n cd,.slice (some ⟨w1.heap.size,0,none⟩) n n] 184)).alloc (.cells #[.int .i64 0] 3)):=by
    have:=HB1.out.size
    exact ((HB1.out.alloc this _).alloc (by simp;omega) _).alloc (by simp;omega) _
   refine ⟨?_,(r1.alloc _).alloc _,(HU.out.wide (G:=fun g=>g<w.heap.size) fun g hg _=>hg).below hb3⟩
   have h1:=Go.Deep.blk_alloc_new (w1.alloc (.cells (madeCells #[.bool false] n) 4)) (.cells #[.slice ad n cd,.slice (some ⟨w1.heap.size,0,none⟩) n n] 184)
   have h2:(w1.alloc (.cells (madeCells #[.bool false] n) 4)).heap.size=w1.heap.size+1:=by simp
   rw [h2] at h1
   exact (Go.Deep.blk_alloc_lt _ _ _ (by simp)).trans h1
  have hb3:Hid (Below w.heap.size w (((w1.alloc (.cells (madeCells #[.bool false] n) 4)).alloc (.cells #[.slice ad n cd,.slice (some ⟨w1.heap.size,0,none⟩) n n] 184)).alloc (.cells #[.int .i64 0] 3))):=by
   have:=HB1.out.size
   exact ((HB1.out.alloc this _).alloc (by simp;omega) _).alloc (by simp;omega) _
  have hnum:Hid (NumS (fun g=>g≠w1.heap.size) (((w1.alloc (.cells (madeCells #[.bool false] n) 4)).alloc (.cells #[.slice ad n cd,.slice (some ⟨w1.heap.size,0,none⟩) n n] 184)).alloc (.cells #[.int .i64 0] 3)) (.slice (some ⟨w1.heap.size+2,0,none⟩) 1 1) ([0].map fun (i:Nat)=>(i:Int))):=by
   refine ⟨some ⟨w1.heap.size+2,0,none⟩,1,rfl,Nat.le_refl _,by omega,fun _=>⟨w1.heap.size+2,0,rfl,by simp,by show _≠_;omega,fun j hj=>?_⟩⟩
   obtain rfl:j=0:=by simp at hj;omega
   have h2:((w1.alloc (.cells (madeCells #[.bool false] n) 4)).alloc (.cells #[.slice ad n cd,.slice (some ⟨w1.heap.size,0,none⟩) n n] 184)).heap.size=w1.heap.size+2:=by simp
   have:=cell_at ((w1.alloc (.cells (madeCells #[.bool false] n) 4)).alloc (.cells #[.slice ad n cd,.slice (some ⟨w1.heap.size,0,none⟩) n n] 184)) [.int .i64 0] 3 0 _ rfl
   rw [h2] at this
   exact this
  have HLE:Hid (w.heap.size≤w1.heap.size):=HB1.out.size
  clear hM HB1 hmay HU
  go_wp2_with fail
  generalize ((w1.alloc (.cells (madeCells #[.bool false] n) 4)).alloc (.cells #[.slice ad n cd,.slice (some ⟨w1.heap.size,0,none⟩) n n] 184)).alloc (.cells #[.int .i64 0] 3)=w3 at *
  generalize w1.heap.size=bi at *
  have HTX:=lh (textOf_any w3 (bi+1) bi n (.slice ad n cd) d _ [0] HDN.out HT.out.prow HT.out.brow (HT.out.lo.wide fun g _ hg=>by have:=HLE.out;omega) hnum.out (fun x hx=>by simp at hx;omega) (by simp) HMAY.out (by omega))
  have hfe:Au.spread d (Au.setOf n (fun j=>j∈[0]))=Au.first d:=by
   unfold Au.first
   rw [HDN.out]
   congr 2
   funext j
   simp
  rw [hfe] at HTX
  refine HTX.out.mono ?_
  rintro e w4 ⟨rfl,hk4,hr4⟩
  have HT4:=lh (HT.out.kept hk4 (by omega) HLE.out hr4)
  have HB4:Hid (Below w.heap.size w w4):=KeptF.below hb3.out hk4 (fun k hk=>by rw [hk];exact HLE.out) hb3.out.size
  clear hk4 hr4 HTX hfe hnum hb3 HT
  have HME:=lh (meets_sets w.heap.size (bi+1) bi n (.slice ad n cd) d w4 most HDN.out hn HMAY.out HBIG.out hm HT4.out (by omega) HLE.out)
  have HLS:Hid (∀i,Au.Few d most i→∀W v,StS (fun g=>w4.heap.size≤g) W v ((Au.sub d).plain.out (Au.first d) i)→Calls Tryz.prog 38 #[v] W fun e w'=>∃r,e=.returned r∧StO W.heap.size w' r (Au.tightL d most)∧Au.tightE d most=0∧Below W.heap.size W w'):=fun i hf W v hv=>by
   obtain ⟨r1,r2⟩:=Au.few_rows HMAY.out hf
   have r3:=Au.few_len hf
   refine (leastP_any _ W v _ ⟨r1,by omega,r2⟩ hv).mono ?_
   rintro e w' ⟨r,rfl,h1,h2⟩
   obtain ⟨e1,e2⟩:=HE.out.2 _ (Au.tight_some hf)
   exact ⟨r,rfl,by rw [e2];exact h1,e1,h2⟩
  go_wp2_with fail
  refine HME.out.mono ?_
  rintro e w5 ⟨v,er,rfl,hk5,h5⟩
  have HB5:Hid (Below w.heap.size w w5):=KeptF.below HB4.out hk5 (fun k hk=>by rw [hk];exact HLE.out) HB4.out.size
  clear hk5 HME
  rcases h5 with ⟨rfl,i,hdn,hle,hst⟩ | ⟨rfl,rfl,i,hgt⟩
  ·have H6:=lh (HLS.out i ⟨hdn,hle⟩ w5 v hst)
   obtain ⟨av,cv,rfl,hjunk⟩:=hst
   clear hjunk hdn hle
   go_wp2_with fail
   refine H6.out.mono ?_
   rintro e w6 ⟨r,rfl,h1,h2,h3⟩
   have H7:=lh (And.intro h1 (And.intro h2 h3))
   clear h1 h2 h3
   go_wp2_with fail
   go_ret2
   exact ⟨r,by rw [H7.out.2.1];rfl,H7.out.1.lower HB5.out.size,chain HB5.out H7.out.2.2⟩
  ·obtain ⟨e1,e2⟩:=HE.out.1 (Au.tight_none i hgt)
   have E1:=lh e1
   have E2:=lh e2
   clear e1 e2
   go_wp2_with fail
   go_ret2
   exact ⟨.slice none 0 0,by rw [E1.out];rfl,by rw [E2.out];exact StO.nil _ _,HB5.out⟩
end
section
open Go.RowKit
namespace Au
theorem takesL_of {d:List St} (h:Fits d) (s:List UInt8):takesL d s=(ofL d).acc (some 0) (s.map UInt8.toNat):=by simp [takesL,h]
end Au
end
section
open Go.RowKit
namespace Au
theorem filter_sum {α:Type} (l:List α) (p:α→Bool) (f:α→Nat):((l.filter p).map f).sum≤(l.map f).sum:=by
 induction l with
 | nil=>exact Nat.le_refl _
 | cons y t ih=>
  by_cases h:p y=true
  ·rw [List.filter_cons_of_pos h]
   simp only [List.map_cons,List.sum_cons]
   omega
  ·rw [List.filter_cons_of_neg h]
   simp only [List.map_cons,List.sum_cons]
   omega
theorem range_rows (d:List Lo):∀m,((List.range m).map fun k=>(rowOf d k).length).sum≤(d.map fun s=>s.arcs.length).sum:=by
 induction d with
 | nil=>
  intro m
  have:((List.range m).map fun k=>(rowOf [] k).length)=(List.range m).map fun _=>0:=List.map_congr_left fun k _=>by simp [rowOf]
  rw [this]
  have h0:∀l:List Nat,(l.map fun _=>0).sum=0:=fun l=>by
   induction l with
   | nil=>rfl
   | cons y t ih=>simp only [List.map_cons,List.sum_cons,ih]
  rw [h0]
  exact Nat.zero_le _
 | cons s d ih=>
  intro m
  cases m with
  | zero=>simp
  | succ m=>
   rw [List.range_succ_eq_map,List.map_cons,List.sum_cons,List.map_map]
   simp only [List.map_cons,List.sum_cons]
   have h1:(rowOf (s :: d) 0).length=s.arcs.length:=rfl
   have h2:((List.range m).map ((fun k=>(rowOf (s :: d) k).length) ∘ Nat.succ))=(List.range m).map fun k=>(rowOf d k).length:=List.map_congr_left fun k _=>by simp [rowOf]
   rw [h1,h2]
   have:=ih m
   omega
theorem rows_sum (d:List Lo) (S:List Bool):(rowsOf d S).flatten.length≤(d.map fun s=>s.arcs.length).sum:=by
 rw [List.length_flatten]
 unfold rowsOf idx
 rw [List.map_map]
 exact Nat.le_trans (filter_sum _ _ _) (range_rows d S.length)
end Au
end
end Go.Proofs.YtmdefnbpimfbgaaGreatDoor
namespace Go.Proofs
open Go.Shelf
def Tryz.lays196_ren:Go.Shelf.Ren:=⟨fun | 196=>112 | 259=>128 | n=>n,fun | 9=>9 | 4=>4 | 3=>3 | 5=>5 | 12=>12 | 119=>214 | 0=>0 | 46=>206 | 139=>217 | 138=>216 | 53=>156 | n=>n,fun | 3=>1 | 4=>2 | n=>n⟩
theorem Tryz.lays196:Go.Proofs.Lays.n196 Tryz.prog Tryz.lays196_ren:={
 mixed:=by kernel_rfl
 f196:=Tryz.func112.trans (congrArg some (by kernel_rfl))
 f259:=Tryz.func128.trans (congrArg some (by kernel_rfl))
 t0:=Tryz.underlying0
 a0:=Tryz.isAgg0
 z0:=Tryz.sizeOf0
 v0:=Tryz.zeroValue0
 t3:=Tryz.underlying3
 a3:=Tryz.isAgg3
 z3:=Tryz.sizeOf3
 v3:=Tryz.zeroValue3
 t4:=Tryz.underlying4
 a4:=Tryz.isAgg4
 z4:=Tryz.sizeOf4
 v4:=Tryz.zeroValue4
 t5:=Tryz.underlying5
 a5:=Tryz.isAgg5
 z5:=Tryz.sizeOf5
 v5:=Tryz.zeroValue5
 t9:=Tryz.underlying9
 a9:=Tryz.isAgg9
 z9:=Tryz.sizeOf9
 v9:=Tryz.zeroValue9
 t12:=Tryz.underlying12
 a12:=Tryz.isAgg12
 z12:=Tryz.sizeOf12
 v12:=Tryz.zeroValue12
 t46:=Tryz.underlying206
 a46:=Tryz.isAgg206
 z46:=Tryz.sizeOf206
 v46:=Tryz.zeroValue206
 t53:=Tryz.underlying156
 a53:=Tryz.isAgg156
 z53:=Tryz.sizeOf156
 v53:=Tryz.zeroValue156
 t119:=Tryz.underlying214
 a119:=Tryz.isAgg214
 z119:=Tryz.sizeOf214
 t138:=Tryz.underlying216
 a138:=Tryz.isAgg216
 z138:=Tryz.sizeOf216
 v138:=Tryz.zeroValue216
 t139:=Tryz.underlying217
 a139:=Tryz.isAgg217
 z139:=Tryz.sizeOf217
 v139:=Tryz.zeroValue217
 g3:=by kernel_rfl
 g4:=by kernel_rfl}
open Go.RowKit in
theorem Tryz.utf8_ValidString (s:ByteArray) (w:World) (hs:s.size≤9223372036854775807) (hT:Lib.Utf8Tabs 1 2 w):
  Calls Tryz.prog 112 #[.string s] w fun e w'=>e=.returned (.bool (Lib.validD s.data.toList))∧Below w.heap.size w w':=Any.utf8_ValidString Tryz.lays196 s w hs hT
end Go.Proofs
