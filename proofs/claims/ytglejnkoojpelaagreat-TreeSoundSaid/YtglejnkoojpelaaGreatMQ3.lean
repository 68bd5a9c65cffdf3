import Derived.Test.YtglejnkoojpelaaGreatMQ2
import Derived.Test.YtglejnkoojpelaaGreatMA1
import Derived.RangeFuncBox
import Derived.RangeFuncNested
set_option maxRecDepth 100000
set_option maxHeartbeats 32000000
namespace Go.Proofs.YtglejnkoojpelaaGreat.Pool
open Go.RowKit Go.Shelf Gen
open Lib (hid)
attribute [local go_sem] Oper.semAt_some
theorem g0i {P:Program} {ops:Array Oper} {o:Oper} {a:Act} {K:Act->World->Prop} {Q:Exit->Act->World->Prop} {X:Prop} {w w':World} {v u v':Value} (hgd:o.guard=none) (s x:Operand) (t t':TypeId)
 (ho:o.op=.call {callee:=.builtin .append,args:=#[s,x],argTypes:=#[t,t']}) (hs:a.eval s=v) (hx:a.eval x=u) (hrun:(Builtin.append_ #[t,t'] o.type #[v,u]).run P w=.ok v' w')
 (h:K (a.put o.dst v') w'):if Region.wanted o (yielded ops a.tmps)=true then Oper.wp P o a w K Q else X:=by
 have hw:Region.wanted o (yielded ops a.tmps)=true:=by simp [Region.wanted,hgd]
 rw [if_pos hw];unfold Oper.wp;simp [execOp,ho,resolve,invoke,builtin,hs,hx,hrun,Result.andThen];exact h
theorem KeepsOthers.of_below' {W W':World} (h:Below W.heap.size W W'):KeepsOthers W W':=⟨h.size,fun k _ hk _=>(h.block k (Array.getElem?_eq_some_iff.1 hk).1).trans hk⟩
theorem j1w {α:Type} {enc:α->Value} {e:TypeId} {w w':World} {row:Option Nat} {B:Nat} {v:Value} {l:List α} (h:OwnG w e enc B v l) (g:w.grownBy w' row) (hne:∀ k,v.ownBlock=some k->some k≠row):OwnG w' e enc B v l:=by
 obtain ⟨hl,h | ⟨k,cap,cur,rfl,hg,hh,h4,h5,h6,h7⟩⟩:=h
 ·exact ⟨hl,.inl h⟩
 ·exact ⟨hl,.inr ⟨k,cap,cur,rfl,hg,by rw [g.block k (Array.getElem?_eq_some_iff.1 hh).1 (hne k rfl)];exact hh,h4,h5,h6,h7⟩⟩
theorem j0g {w w':World} {A:Option Addr} {n c:Nat} {l:List Int} {row:Option Nat} (h:NAt w A n c l) (g:w.grownBy w' row) (hA:l≠[]->∀ a,A=some a->some a.block≠row):NAt w' A n c l :=
 ⟨h.len,h.cap,h.max,h.nil,g3z h.row g hA⟩
theorem k4y {w:World} {A:Option Addr} {n c:Nat} {l:List Int} (h:NAt w A n c l) (hne:l≠[]) {a:Addr} (e:A=some a) {o:Obj} (ho:w.heap[a.block]?=some o):o.isCells=true:=by
 obtain ⟨b,off,e2,hlt,hc⟩:=h.row hne;rw [e] at e2;cases e2;have h0:=hc 0 (List.length_pos_iff.2 hne);unfold World.cell? at h0;simp only at ho;rw [ho] at h0;cases o <;> simp_all [Obj.isCells]
def Got (n₁ Lb:Nat) (W:World) (v:Value) (xs:List Part):Prop:=Boxed W Lb 119 v/\OwnL W n₁ v xs/\(∀ x∈xs,Lies W v.ownBlock x/\∀ a,x.1=some a->n₁<=a.block)
theorem Got.other {n₁ Lb:Nat} {W W':World} {v:Value} {xs:List Part} {row:Option Nat} (h:Got n₁ Lb W v xs) (g:W.grownBy W' row) (hr:∀ r,row=some r->∃ o:Obj,W.heap[r]?=some o/\o.isCells=false):Got n₁ Lb W' v xs:=by
 obtain ⟨h1,h2,h3⟩:=h;refine ⟨h1.kept g (fun e=>?_),j1w h2 g (fun k hk e=>?_),fun x hx=>⟨⟨j0g (h3 x hx).1.at_ g (fun hne a ea e=>?_),fun hne a ea=>?_⟩,(h3 x hx).2⟩⟩
 ·obtain ⟨o,ho,hc⟩:=hr Lb e.symm;rw [show W.heap[Lb]?=_ from h1] at ho;cases ho;cases hc
 ·obtain ⟨o,ho,hc⟩:=hr k e.symm;obtain ⟨_,h2 | ⟨g',cap,cur,rfl,_,hh,_⟩⟩:=h2
  ·rw [h2.1] at hk;cases hk
  ·cases hk;rw [hh] at ho;cases ho;cases hc
 ·obtain ⟨o,ho,hc⟩:=hr _ e.symm;rw [k4y (h3 x hx).1.at_ hne ea ho] at hc;cases hc
 ·have:=(h3 x hx).1.apart hne a ea;exact ⟨Nat.lt_of_lt_of_le this.1 g.size,this.2⟩
theorem Got.below {n₁ Lb:Nat} {W W':World} {v:Value} {xs:List Part} (h:Got n₁ Lb W v xs) (hb:Below W.heap.size W W'):Got n₁ Lb W' v xs :=
 ⟨(hb.block Lb h.1.lt).trans h.1,OwnG.kept h.2.1 hb,fun x hx=>⟨⟨(h.2.2 x hx).1.at_.below hb,fun hne a ea=>by
  have:=(h.2.2 x hx).1.apart hne a ea;exact ⟨Nat.lt_of_lt_of_le this.1 hb.size,this.2⟩⟩,(h.2.2 x hx).2⟩⟩
theorem Got.more {n₀ n₁ Lb:Nat} {w:World} {v:Value} {xs:List Part} (h:Got n₁ Lb w v xs) (y:Part) (hy:Lies w v.ownBlock y) (hyb:∀ a,y.1=some a->n₁<=a.block) (h0:n₀<=Lb) (h1:Lb<n₁) (h2:n₁<=w.heap.size) (hn:xs.length<=900000) :
 ∃ g cap W',(Builtin.append_ #[119,119] 119 #[v,.slice (some ⟨w.heap.size,0,none⟩) 1 1]).run Tryz.prog (w.alloc (.cells #[encS y] 66))=.ok (.slice (some ⟨g,0,none⟩) (xs.length+1) cap) W' /\
  W'.cell? ⟨Lb,0,none⟩=some v/\W'.frozen? ⟨Lb,0,none⟩=false/\Got n₁ Lb (W'.setCell ⟨Lb,0,none⟩ (.slice (some ⟨g,0,none⟩) (xs.length+1) cap)) (.slice (some ⟨g,0,none⟩) (xs.length+1) cap) (xs++[y]) /\
  KeepsOthers w (W'.setCell ⟨Lb,0,none⟩ (.slice (some ⟨g,0,none⟩) (xs.length+1) cap))/\Below n₀ w (W'.setCell ⟨Lb,0,none⟩ (.slice (some ⟨g,0,none⟩) (xs.length+1) cap))/\g4z n₁ Lb w (W'.setCell ⟨Lb,0,none⟩ (.slice (some ⟨g,0,none⟩) (xs.length+1) cap)):=by
 obtain ⟨hv,ho,hp⟩:=h;have hb1:=g0a w (.cells #[encS y] 66);have hrow:RowG (w.alloc (.cells #[encS y] 66)) encS (some ⟨w.heap.size,0,none⟩) [y]:=fun _=>⟨w.heap.size,0,rfl,by simp,fun k hk=>by
  obtain rfl:k=0:=by simp at hk;omega
  simp⟩
 obtain ⟨v',W',hrun,ho',hg,hv'⟩:=g1x h6k (w.alloc (.cells #[encS y] 66)) n₁ v xs (OwnG.kept ho hb1) (some ⟨w.heap.size,0,none⟩) 1 1 [y] rfl (fun e=>by cases e) hrow (by omega) (Nat.le_trans h2 hb1.size);have ho2:W'.ownsRow n₁ 66 1 v' (xs.length+1) ((xs++[y]).map encS):=by
  have:=ho';unfold OwnG at this;rw [List.length_append] at this;exact this
 obtain ⟨g,cap,rfl⟩:=ownsRow_succ ho2;have hrow0:w.ownsRow n₀ 66 1 v xs.length (xs.map encS):=g2g ho (by omega);obtain ⟨k1,k2,-,k4,k5⟩:=hv.appended (by decide) hrow0 (by omega) h0 (g2g (show OwnL W' n₁ _ (xs++[y]) from ho') (show n₀<=n₁ by omega)) hg;have hgs:=g0r W' Lb 0 (.slice (some ⟨g,0,none⟩) (xs.length+1) cap);have hbn:=below_grown ((Below.refl n₁ w).alloc h2 (.cells #[encS y] 66)) (OwnG.kept ho hb1) hg (Nat.le_trans h2 hb1.size)
 refine ⟨g,cap,W',hrun,k1.cell,k1.frozen,⟨k2,j1w ho' hgs (fun k hk e=>?_),fun x hx=>?_⟩,k4,k5,⟨Nat.le_trans hbn.size hgs.size,fun k hk hne=>(hgs.block k (Nat.lt_of_lt_of_le hk (Nat.le_trans h2 hbn.size)) (fun e=>hne (Option.some.inj e))).trans (hbn.block k hk)⟩⟩
 ·have:=(World.ownsRow.lt ho' k hk).1;have:=Option.some.inj e;omega
 ·have hx1:Lies W' (Value.ownBlock (.slice (some ⟨g,0,none⟩) (xs.length+1) cap)) x/\∀ a,x.1=some a->n₁<=a.block:=by
   rcases List.mem_append.1 hx with hx | hx
   ·exact ⟨((hp x hx).1.alloc _).grown hg hv',(hp x hx).2⟩
   ·rw [List.mem_singleton.1 hx];exact ⟨(hy.alloc _).grown hg hv',hyb⟩
  refine ⟨⟨j0g hx1.1.at_ hgs (fun _ a ea e=>?_),fun hne a ea=>?_⟩,hx1.2⟩
  ·have:=hx1.2 a ea;have:=Option.some.inj e;omega
  ·have:=hx1.1.apart hne a ea;exact ⟨Nat.lt_of_lt_of_le this.1 hgs.size,this.2⟩
def p3o (ls:List (List Int)) (w:World) (e:Ending) (w':World):Prop:=∃ v xs,e=.returned v/\OwnL w' w.heap.size v xs/\g1z w' xs/\xs.map (·.2.2)=ls/\Below w.heap.size w w'/\∀ x∈xs,∀ a,x.1=some a->w.heap.size<=a.block
def LI (w w2:World) (Lb:Nat) (pre:List (GP w2 Lb)) (W:World):Prop:=(∃ v xs,Got w2.heap.size Lb W v xs/\xs.map (·.2.2)=pre.map (·.1.2.2))/\Below w.heap.size w W/\g4z w2.heap.size Lb w2 W
theorem LI.own {w w2:World} {Lb:Nat} (hw:w.heap.size<=w2.heap.size):OwnFrom w2.heap.size (LI w w2 Lb):=fun s W W' row hs hg hr=>by
 obtain ⟨⟨v,xs,h1,h2⟩,h3,h4⟩:=hs;exact ⟨⟨v,xs,h1.other hg (fun r e=>(hr r e).2),h2⟩,h3.grown hg h3.size (fun k e=>Nat.le_trans hw (hr k e).1),Nat.le_trans h4.1 hg.size,fun k hk hne=>(hg.block k (Nat.lt_of_lt_of_le hk h4.1) (fun e=>by have:=(hr k e.symm).1;omega)).trans (h4.2 k hk hne)⟩
theorem k1v {w2:World} {Lb:Nat} (W:World) (l:Nat) (o o':Obj) (hl:w2.heap.size<=l) (_:W.heap[l]?=some o) (_:o.isCells=false) (_:o.isWalk=false):g4z w2.heap.size Lb W (W.putObj l o') :=
 ⟨by simp,fun k hk _=>World.putObj_heap_other (by omega)⟩
theorem j1f (p:Po) (a:La) (w:World) (h:PoAt w p a) (hf:p.free.length<=100000) (hl:p.limbo.length<=100000) :
 Calls Tryz.prog 156 #[poV p a] w (p3o (chunks (layAll p.free p.limbo)) w):=by
 refine (callsIn_wide (n:=5)).1 ?_;have b1:=g0a w (.cells (poC p a) 70);have hat:=j0h w p a;have b2:=b1.alloc b1.size (.cells #[.slice none 0 0] 119);have bx:=Boxed.new (w.alloc (.cells (poC p a) 70)) 119 (.slice none 0 0);rw [World.size_alloc] at bx;have hat2:=hat.below (n:=w.heap.size+1) (show Below (w.heap.size+1) _ ((w.alloc (.cells (poC p a) 70)).alloc (.cells #[.slice none 0 0] 119)) from (Below.refl _ _).alloc (by simp) _) (by omega)
 have sz:((w.alloc (.cells (poC p a) 70)).alloc (.cells #[.slice none 0 0] 119)).heap.size=w.heap.size+2:=by simp
 obtain ⟨W0,hW0⟩:∃ W0,(w.alloc (.cells (poC p a) 70)).alloc (.cells #[.slice none 0 0] 119)=W0:=⟨_,rfl⟩;rw [hW0] at b2 bx hat2 sz;obtain ⟨c0,c1,c2⟩:=g2i hat2;have cT:=k6e p a W0 (h.below b2) hf hl;have BB:=hid b2;have SZ:=hid sz;have BX:=hid bx;have HL:=hid (show (layAll p.free p.limbo).length<=200000 by rw [g8w];omega);clear b1 b2 bx sz hat hat2 h hf hl;unfold poV at cT;unfold poV
 refine callsIn_of_wp_marks Tryz.func156 rfl trivial ?_ rfl;simp only [Tryz.ntmps156,List.size_toArray,List.length_cons,List.length_nil,Nat.reduceAdd,Nat.reduceSub,Array.replicate_succ,Array.replicate_zero,List.push_toArray,List.append_toArray,List.nil_append,List.cons_append]
 gi_wp2_with (refine ⟨trivial,?_⟩;gi_at_call 111;refine (callsIn_wide.2 cT).mono ?_;rintro e w1 ⟨b,rfl,hp,hb,hbl⟩;clear cT)
 unfold poV;unfold poC;generalize layAll p.free p.limbo=R at *;have qf:=k3c p.high b.A1 b.A2 R.length 0 b.c1 b.c2;have HP:=hid hp.f;have HB1:=hid hb;have HBL:=hid hbl;clear hp hb hbl hW0 c0 c1 c2
 gi_wp2_with (refine ⟨trivial,?_⟩;gi_at_call 195;refine (k7g Fence.wide _ trivial rfl _ _ _ _).mono ?_;rintro e w2 ⟨rfl,rfl⟩)
 have hb2:Below w1.heap.size w1 ((w1.alloc (.cells #[.slice b.A1 R.length b.c1] 66)).alloc (.cells #[.int .i64 200] 3)):=(g0a w1 _).alloc (by simp) _;have hsz:((w1.alloc (.cells #[.slice b.A1 R.length b.c1] 66)).alloc (.cells #[.int .i64 200] 3)).heap.size=w1.heap.size+2:=by simp
 have hc1:((w1.alloc (.cells #[.slice b.A1 R.length b.c1] 66)).alloc (.cells #[.int .i64 200] 3)).cell? ⟨w1.heap.size,0,none⟩=some (.slice b.A1 R.length b.c1):=((g0a _ _).cell (p:=⟨w1.heap.size,0,none⟩) (by simp)).trans (cell1 w1 _ _).1;have hc2:((w1.alloc (.cells #[.slice b.A1 R.length b.c1] 66)).alloc (.cells #[.int .i64 200] 3)).cell? ⟨w1.heap.size+1,0,none⟩=some (.int .i64 200):=by
  have:=(cell1 (w1.alloc (.cells #[.slice b.A1 R.length b.c1] 66)) (.int .i64 200) 3).1;rw [World.size_alloc] at this;exact this
 obtain ⟨W2,hW2⟩:∃ W2,(w1.alloc (.cells #[.slice b.A1 R.length b.c1] 66)).alloc (.cells #[.int .i64 200] 3)=W2:=⟨_,rfl⟩;rw [hW2] at hb2 hsz hc1 hc2 ⊢;have hs1:=HB1.out.size;have hs0:=SZ.out;have hBW:Below w.heap.size w W2:=(BB.out.trans (HB1.out.mono BB.out.size)).trans (hb2.mono (Nat.le_trans BB.out.size hs1));have hbx:Boxed W2 (w.heap.size+1) 119 (.slice none 0 0):=((hb2.block _ (by omega)).trans (HB1.out.block _ (by omega))).trans BX.out
 clear hW2 qf;refine wpIn_rangeFunc_ownG rfl (by omega) (gf:=234) (lb:=#[.pointer (some ⟨w1.heap.size,0,none⟩),.pointer (some ⟨w1.heap.size+1,0,none⟩)]) rfl trivial (enters_of Tryz.func234 (by kernel_rfl) rfl)
  (j2v Fence.wide _ trivial rfl (by omega) w1.heap.size (w1.heap.size+1) (w.heap.size+1) b.A1 R.length b.c1 R W2 (HP.out.below hb2) (fun _ x e e2=>by have:=HBL.out x e;omega) (by omega) (by omega) (by omega) (by omega) (by have:=HL.out;omega) hc1 hc2)
  g4z.trans k1v (Below.refl _ _) (fun _=>rfl)
  (LI w W2 (w.heap.size+1)) (fun _ _ _=>False) (LI.own hBW.size) (fun _ _ _ _ _ hs _ _=>hs)
  ⟨⟨_,[],⟨hbx,OwnG.nil _ _ _ _,fun x hx=>by simp at hx⟩,rfl⟩,hBW,g4z.refl _ _ _⟩
  (fun x=>{tmps:=#[.agg #[.int .i64 p.high,.slice a.A1 p.free.length a.c1,.slice a.A2 p.limbo.length a.c2],.pointer (some ⟨w.heap.size,0,none⟩),.slice none 0 0,.pointer (some ⟨w.heap.size+1,0,none⟩),encS x.1,.agg #[.int .i64 p.high,.slice a.A1 p.free.length a.c1,.slice a.A2 p.limbo.length a.c2],.agg #[.int .i64 p.high,.slice b.A1 R.length b.c1,.slice b.A2 0 b.c2],.slice b.A1 R.length b.c1,.func (.func 234) #[] #[.pointer (some ⟨w1.heap.size,0,none⟩),.pointer (some ⟨w1.heap.size+1,0,none⟩)],encS x.1,undef,undef,undef,undef,undef,undef,undef],defers:=[]}) ?assign ?body ?done ?stop
 case assign =>
  intro l x W K hK
  gi_wp2
  exact hK
 case body =>
  rintro l pre ⟨⟨A4,c4,l4⟩,hx1,hx2,hx3⟩ W ⟨⟨v,xs,hg,hm⟩,hB,hKB⟩ hlen;refine wpIn_block ?_;refine h6a (S:=fun w'=>w'.cell? ⟨w.heap.size+1,0,none⟩=some v) 6 (by kernel_rfl) (by rintro ⟨_,_,h⟩;exact h) (by kernel_rfl) rfl rfl rfl rfl (by kernel_rfl) (by kernel_rfl) ?_;intro w3 hw3;have hwd:Below W.heap.size W w3:=by rw [hw3];exact (Below.refl _ _).drew
  have hko:KeepsOthers W w3:=by rw [hw3];exact KeepsOthers.drew _
  have hgg:=hg.below hwd;have hn3:NAt w3 A4 l4.length c4 l4:=(g4z.at hx1 hKB hx2).below hwd;clear hw3 hg;have hsz3:W2.heap.size<=w3.heap.size:=Nat.le_trans hKB.1 hwd.size;have hb4:=g0a w3 (.cells #[.slice A4 l4.length c4] 66);have cJ:=h2i (A4,c4,l4) (w3.alloc (.cells #[.slice A4 l4.length c4] 66)) w3.heap.size (cell1 w3 (.slice A4 l4.length c4) 66).1 (cell1 w3 (.slice A4 l4.length c4) 66).2 (hn3.below hb4) (by show l4.length<=1000000;have:l4.length<=200:=hx3;omega)
  have hSR:w3.cell? ⟨w.heap.size+1,0,none⟩=some v:=hgg.1.cell;have S2:(w3.alloc (.cells #[.slice A4 l4.length c4] 66)).cell? ⟨w.heap.size+1,0,none⟩=some v:=(hgg.below hb4).1.cell;have hxl:xs.length<=200000:=by
   have h1:=congrArg List.length hm;rw [List.length_map,List.length_map] at h1;have:=j8a R;have:=HL.out;omega
  have HG:=hid hgg;have HM:=hid hm;have HB:=hid hB;have HKB:=hid hKB;have HWD:=hid hwd;have HKO:=hid hko;have HB4:=hid hb4;have HX1:=hid hx1;clear hgg hm hB hKB hwd hko hb4 hn3 hlen;simp only [List.set_cons_zero,List.set_cons_succ];refine Gen.tk 0 hSR ?_;simp only [Act.put];refine Gen.tk 1 hSR ?_;simp only [Act.put];refine wpAnyH_ready (rs:=[2]) (by kernel_rfl) (by simp) (AllReadyH.cons rfl (fun K hK=>?_) AllReadyH.nil)
  go_simp
  refine hK.out _ _ S2 (fun hSR=>?_);clear hK K;refine wpAnyH_ready (rs:=[3]) (by kernel_rfl) (by simp) (AllReadyH.cons rfl (fun K hK=>?_) AllReadyH.nil);go_simp
  refine cJ.mono ?_;rintro e w4 ⟨v4,rfl,ho4,hb4⟩;clear cJ;have hgb:Got W2.heap.size (w.heap.size+1) w4 v xs:=(HG.out.below HB4.out).below hb4;obtain ⟨A5,n5,c5,rfl,hn5,hbl5⟩:=g3v ho4;obtain rfl:=hn5.len;have hbl:∀ x,A5=some x->w3.heap.size<x.block:=fun x e=>by have:=hbl5 x e;rw [World.size_alloc] at this;omega
  have hly:Lies w4 v.ownBlock (A5,c5,l4):=⟨hn5,fun hne x e=>by
   obtain ⟨b',o',e',hlt',-⟩:=hn5.row hne;have e4:some x=some ⟨b',o',none⟩:=e.symm.trans e';cases e4;refine ⟨hlt',fun e5=>?_⟩;have h1:=(World.ownsRow.lt HG.out.2.1 _ e5.symm).2;have h2:=hbl _ e;omega⟩
  obtain ⟨g,cap,W',hrun,k1,k2,k3,k4,k5,k6⟩:=hgb.more (n₀:=w.heap.size) (A5,c5,l4) hly (fun x e=>by have:=hbl x e;omega) (by omega) (by omega) (Nat.le_trans hsz3 (Nat.le_trans HB4.out.size hb4.size)) (by omega);have S4:w4.cell? ⟨w.heap.size+1,0,none⟩=some v:=hgb.1.cell;have S5:(w4.alloc (.cells #[.slice A5 l4.length c5] 66)).cell? ⟨w.heap.size+1,0,none⟩=some v:=(hgb.below (g0a w4 _)).1.cell;have Q:=hid hrun
  have K3:=hid k3;have K4:=hid k4;have K5:=hid k5;have K6:=hid k6;have HB5:=hid (HB4.out.trans (hb4.mono HB4.out.size));clear ho4 hgb hn5 hbl5 hbl hly hrun k3 k4 k5 k6 hb4;refine hK.out _ _ S4 (fun hSR=>?_);clear hK K;refine wpAnyH_ready (rs:=[4]) (by kernel_rfl) (by simp) (AllReadyH.cons rfl (fun K hK=>?_) AllReadyH.nil);go_simp
  refine hK.out _ _ S5 (fun hSR=>?_);clear hK K;refine wpAnyH_ready (rs:=[5]) (by kernel_rfl) (by simp) (AllReadyH.cons rfl (fun K hK=>?_) AllReadyH.nil);refine g0i (by rfl) (.tmp 10) (.tmp 14) _ _ (by rfl) (by rfl) (by rfl) Q.out ?_;refine hK.out _ _ k1 (fun hSR=>?_);clear hK K;simp only [Act.put];refine Gen.tk 6 hSR ?_;simp only [Act.put];refine wpAnyH_done (by kernel_rfl) ?_ _;show Oper.wp _ _ _ _ _ _
  unfold Oper.wp;go_simp
  refine ⟨((HKO.out.trans (KeepsOthers.of_below' HB5.out)).trans K4.out).from _,?_,⟨⟨_,_,K3.out,?_⟩,?_,?_⟩⟩
  ·have h:=(g4z.of_below (Lb:=w.heap.size+1) (HWD.out.mono HKB.out.1)).trans ((g4z.of_below (HB5.out.mono hsz3)).trans K6.out);rw [hsz] at h;exact h
  ·rw [List.map_append,List.map_append,HM.out];rfl
  ·exact (HB.out.trans ((HWD.out.mono HB.out.size).trans (HB5.out.mono (Nat.le_trans HB.out.size HWD.out.size)))).trans K5.out
  ·exact HKB.out.trans ((g4z.of_below (HWD.out.mono HKB.out.1)).trans ((g4z.of_below (HB5.out.mono hsz3)).trans K6.out))
 case done =>
  rintro D ys W hD hys hI hK;have hI2:=OwnFrom.putObj (LI.own hBW.size) (.deferred none) hI hD hK rfl;obtain ⟨⟨v,xs,⟨hv,-,-⟩,-⟩,-,-⟩:=hI;have hvc:=hv.cell
  gi_wp2
  refine ⟨by simp,.inl ⟨_,_,rfl,run_takeDeferred hK,?_⟩⟩;obtain ⟨⟨v',xs',⟨hv',ho',hp'⟩,hm'⟩,hB',-⟩:=hI2;have:v'=v:=by
   have h1:=hv'.cell;have h2:=(Boxed.kept hv (grownBy_putObj' W D (.deferred none)) (fun e=>by
    have:=Option.some.inj e;subst this;rw [show W.heap[w.heap.size+1]?=_ from hv] at hK;cases hK)).cell
   rw [h1] at h2;exact Option.some.inj h2
  subst this;exact ⟨_,results_tmp rfl _ _ _,_,xs',rfl,g2g ho' hBW.size,fun x hx=>(hp' x hx).1.at_,hm'.trans hys,hB',fun x hx a e=>Nat.le_trans hBW.size ((hp' x hx).2 a e)⟩
 case stop =>
  rintro D c pre W _ _ h _;exact h.elim
end Go.Proofs.YtglejnkoojpelaaGreat.Pool
