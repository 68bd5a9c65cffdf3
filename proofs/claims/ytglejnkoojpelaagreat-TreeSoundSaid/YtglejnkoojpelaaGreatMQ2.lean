import Derived.Test.YtglejnkoojpelaaGreatMQ1
import Derived.IntWalk
import Derived.RegionIn
set_option maxRecDepth 100000
set_option maxHeartbeats 32000000
namespace Go.Proofs.YtglejnkoojpelaaGreat.Pool
open Go.RowKit Gen
open Lib (hid)
instance (high n:Int):Decidable (j2k high n):=inferInstanceAs (Decidable (_/\_))
instance (p:Po) (most:Int):Decidable (g0g p most):=decidable_of_iff _ (h7z p most).symm
def May (p:Po) (n:Int):Prop:=j2k p.high n/\n∉p.free/\n∉p.limbo
instance (p:Po) (n:Int):Decidable (May p n):=inferInstanceAs (Decidable (_/\_))
theorem j5r (p:Po) (a:La) (n:Int) (w:World) (h:PoAt w p a):Calls Tryz.prog 170 #[poV p a,.int .i64 n] w (h4j (May p n) w):=by
 have hb:=g0a w (.cells (poC p a) 70);have hat:=j0h w p a;have cV:=j7s p a n (w.alloc (.cells (poC p a) 70));have HP:=hid (h.below hb);have HB:=hid hb;have AT:=hid hat;obtain ⟨c0,c1,c2⟩:=g2i hat;clear h hb hat;obtain ⟨W0,hW0⟩:∃ W0,w.alloc (.cells (poC p a) 70)=W0:=⟨_,rfl⟩;rw [hW0] at HP HB AT cV c0 c1 c2;unfold poV;go_enter Tryz.func170,Tryz.ntmps170
 go_wp2_with fail
 refine cV.mono ?_;rintro e w1 ⟨r,rfl,hr,hb⟩;clear hW0 c0 c1 c2 cV;rcases r with _ | _
 ·have HN:Hid (¬ May p n):=hid (fun g=>by cases (hr.2 g.1));have HB1:=hid (HB.out.trans (hb.mono HB.out.size));clear hr hb;go_wp2_with fail
  go_ret
  exact ⟨_,rfl,⟨fun h=>(by cases h),fun h=>absurd h HN.out⟩,HB1.out⟩
 have HC:=hid (hr.1 rfl);have HP1:=hid (HP.out.below hb);obtain ⟨c0,c1,c2⟩:=g2i (AT.out.below hb AT.out.1);have cF:=h3b a.A1 _ a.c1 p.free n w1 HP1.out.f;have cL:=h3b a.A2 _ a.c2 p.limbo n w1 HP1.out.l;have HB1:=hid (HB.out.trans (hb.mono HB.out.size));clear hr hb;go_wp2_with fail
 refine cF.mono ?_;rintro e w2 ⟨r,rfl,hr,rfl⟩;clear cF;rcases r with _ | _
 rotate_left
 ·have HN:Hid (¬ May p n):=hid (fun g=>g.2.1 (hr.1 rfl));clear hr cL;go_wp2_with fail
  go_ret
  exact ⟨_,rfl,⟨fun h=>(by cases h),fun h=>absurd h HN.out⟩,HB1.out⟩
 have HF:Hid (n∉p.free):=hid (fun g=>by cases (hr.2 g));clear hr;go_wp2_with fail
 refine cL.mono ?_;rintro e w2 ⟨r,rfl,hr,rfl⟩;clear cL;have HR:Hid ((!r)=true↔May p n):=hid ⟨fun e=>⟨HC.out,HF.out,fun g=>by rw [hr.2 g] at e;cases e⟩,fun g=>by
  rcases r with _ | _
  ·rfl
  ·exact absurd (hr.1 rfl) g.2.2⟩
 clear hr;go_wp2_with fail
 go_ret
 exact ⟨_,rfl,HR.out,HB1.out⟩
theorem k3c (h:Int) (A1 A2:Option Addr) (n1 n2 c1 c2:Nat) (W:World):(Instr.field 70 (.agg #[.int .i64 h,.slice A1 n1 c1,.slice A2 n2 c2]) 1).run Tryz.prog W=.ok (.slice A1 n1 c1) W:=by
 kernel_rfl
theorem h2i (x:Part) (W:World) (b:Nat) (hc:W.cell? ⟨b,0,none⟩=some (encS x)) (hb:b<W.heap.size) (h:NAt W x.1 x.2.2.length x.2.1 x.2.2) (hn:x.2.2.length<=1000000) :
 Calls Tryz.prog 118 #[.slice (some ⟨b,0,none⟩) 1 1] W (Owns x.2.2 W):=by
 have e:g0t [x]=x.2.2:=by simp [g0t]
 rw [<- e];exact g1h (some ⟨b,0,none⟩) 1 1 [x] W rfl (by omega) (fun _=>⟨b,0,rfl,hb,fun k hk=>by
  obtain rfl:k=0:=by simp at hk;omega
  exact hc⟩) (fun y hy=>by rw [List.mem_singleton.1 hy];exact h) (by rw [e];omega)
theorem k2a (A:Option Addr) (n c:Nat) (l:List Int) (p:Int) (W:World) (b:Nat) (hc:W.cell? ⟨b,0,none⟩=some (.int .i64 p)) (hb:b<W.heap.size) (h:NAt W A n c l) (hn:n<=100000) :
 Calls Tryz.prog 162 #[.slice A n c,.slice (some ⟨b,0,none⟩) 1 1] W (Owns (lay1 p l) W) :=
 h1o A (some ⟨b,0,none⟩) n c 1 1 l [p] W h ⟨rfl,Nat.le_refl _,by unfold maxLen;omega,fun e=>(by cases e),fun _=>⟨b,0,rfl,hb,fun k hk=>by
  obtain rfl:k=0:=by simp at hk;omega
  exact hc⟩⟩ hn (by omega)
theorem cell1 (W:World) (x:Value) (t:TypeId):(W.alloc (.cells #[x] t)).cell? ⟨W.heap.size,0,none⟩=some x/\W.heap.size<(W.alloc (.cells #[x] t)).heap.size:=⟨by simp,by simp⟩
theorem h4i (W:World) (x:Value) (t:TypeId):(W.drew.alloc (.cells #[x] t)).cell? ⟨W.heap.size,0,none⟩=some x/\W.heap.size<(W.drew.alloc (.cells #[x] t)).heap.size:=cell1 W.drew x t
theorem g3f (W:World) (x:Value) (t:TypeId) (y:Value) (s:TypeId):((W.drew.alloc (.cells #[x] t)).alloc (.cells #[y] s)).cell? ⟨W.heap.size,0,none⟩=some x/\((W.drew.alloc (.cells #[x] t)).alloc (.cells #[y] s)).cell? ⟨W.heap.size+1,0,none⟩=some y /\
 W.heap.size+1<((W.drew.alloc (.cells #[x] t)).alloc (.cells #[y] s)).heap.size/\W.heap.size<((W.drew.alloc (.cells #[x] t)).alloc (.cells #[y] s)).heap.size:=by
 have h1:=h4i W x t;have h2:=cell1 (W.drew.alloc (.cells #[x] t)) y s;have e:(W.drew.alloc (.cells #[x] t)).heap.size=W.heap.size+1:=World.size_alloc _ _;rw [e] at h2;exact ⟨((g0a _ _).cell (p:=⟨W.heap.size,0,none⟩) h1.2).trans h1.1,h2.1,h2.2,by omega⟩
def g0k (p:Po) (most:Int):Po×Int×Int:=match p.free with
 | x :: fs=>({high:=p.high,free:=fs,limbo:=p.limbo},x,0)
 | []=>if most<=p.high then ({high:=0},0,60) else ({high:=p.high+1,limbo:=p.limbo},p.high,0)
def g1g (p:Po) (n:Int):Po×Int:=if May p n then ({high:=p.high,free:=p.free,limbo:=lay1 n p.limbo},0) else ({high:=0},1)
def g1k (p:Po) (n:Int):Po×Int:=if May p n then ({high:=p.high,free:=lay1 n p.free,limbo:=p.limbo},0) else ({high:=0},1)
def g2m (n:Nat) (a:La):Prop:=(∀ x,a.A1=some x->n<=x.block)/\∀ x,a.A2=some x->n<=x.block
theorem g2m.nil (n:Nat):g2m n {}:=⟨fun x e=>(by cases e),fun x e=>(by cases e)⟩
def p1d (r:Po×Int) (w:World) (e:Ending) (w':World):Prop:=∃ a,e=.returned (.tuple #[poV r.1 a,numV r.2])/\PoAt w' r.1 a/\Below w.heap.size w w'/\g2m w.heap.size a
def p2s (r:Po×Int×Int) (w:World) (e:Ending) (w':World):Prop:=∃ a,e=.returned (.tuple #[poV r.1 a,numV r.2.1,numV r.2.2])/\PoAt w' r.1 a/\Below w.heap.size w w'/\g2m w.heap.size a
theorem j4n (w:World):PoAt w {high:=0} {}:=⟨NAt.none w,NAt.none w⟩
theorem k8e (p:Po) (a:La) (n:Int) (w:World) (h:PoAt w p a) (hf:p.free.length<=100000) (hl:p.limbo.length<=100000):Calls Tryz.prog 121 #[poV p a,.int .i64 n] w (p1d (g1g p n) w):=by
 obtain ⟨t1,t2,t3,t4⟩:=h0w w p a;have h0:=h.below t3;have AT:=hid t1;have AZ:=hid t2;have BB:=hid t3;unfold poV;obtain ⟨W0,hW0⟩:∃ W0,(w.alloc (.cells (poC p a) 70)).alloc (.cells #[.int .i64 0,.slice none 0 0,.slice none 0 0] 70)=W0:=⟨_,rfl⟩;have e0:poC {high:=0} {}=#[.int .i64 0,.slice none 0 0,.slice none 0 0]:=rfl;rw [e0] at t4 h0 AT AZ BB;rw [hW0] at AT AZ BB t4 h0;have HP:=hid h0;have HS:=hid (Nat.le_of_eq t4.symm)
 obtain ⟨c0,c1,c2⟩:=g2i AT.out;clear t1 t2 t3 t4 h0 h e0;have cM:=j5r p a n W0 HP.out;have hh0:W0.cell? ⟨w.heap.size+1,0,none⟩=some (.int .i64 0):=AZ.out.2.2 0 _ rfl;unfold poV at cM;go_enter Tryz.func121,Tryz.ntmps121
 go_wp2_with fail
 refine cM.mono ?_;rintro e W1 ⟨r,rfl,hr,hb⟩;clear hW0 c0 c1 c2 cM hh0
 replace AT:=hid (AT.out.below hb AT.out.1)
 replace AZ:=hid (AZ.out.below hb (by have:=HS.out;omega))
 replace BB:=hid (BB.out.trans (hb.mono BB.out.size))
 replace HP:=hid (HP.out.below hb)
 replace HS:=hid (Nat.le_trans HS.out hb.size)
 clear hb;rcases r with _ | _
 ·have HN:Hid (g1g p n=({high:=0},1)):=hid (by unfold g1g;rw [if_neg (fun g=>by cases hr.2 g)]);have r0:W1.cell? ⟨w.heap.size+1,0,none⟩=some (.int .i64 0):=AZ.out.2.2 0 _ rfl;have r1:W1.cell? ⟨w.heap.size+1,1,none⟩=some (.slice none 0 0):=AZ.out.2.2 1 _ rfl;have r2:W1.cell? ⟨w.heap.size+1,2,none⟩=some (.slice none 0 0):=AZ.out.2.2 2 _ rfl;have fz:=AZ.out.2.1;have A3:=hid (g6v AZ.out rfl (.int .i64 0) (.slice none 0 0) (.slice none 0 0))
  have B3:=hid (g2t BB.out (Nat.le_succ _) (.int .i64 0) (.slice none 0 0) (.slice none 0 0));clear hr;go_wp2_with fail
  change bodyPost _ _ _ _ _ (set3 W1 (w.heap.size+1) (.int .i64 0) (.slice none 0 0) (.slice none 0 0));generalize set3 W1 (w.heap.size+1) (.int .i64 0) (.slice none 0 0) (.slice none 0 0)=W9 at *;clear r0 r1 r2 fz;have c0:=A3.out.2.2 0 _ rfl;have c1:=A3.out.2.2 1 _ rfl;have c2:=A3.out.2.2 2 _ rfl;refine bodyPost_ret (v:=.tuple #[poV {high:=0} {},numV 1]) (by simp [results,Tryz.results121,go_sem, *]) rfl ?_
  rw [HN.out];exact ⟨{},rfl,j4n _,B3.out,g2m.nil _⟩
 have HN:Hid (g1g p n=({high:=p.high,free:=p.free,limbo:=(lay1 n p.limbo)},0)):=hid (by unfold g1g;rw [if_pos (hr.1 rfl)]);clear hr;go_wp2_with fail
 have KS:=hid (show ∀ w',Below W1.heap.size W1 w'->w'.cell? ⟨w.heap.size,0,none⟩=some (.int .i64 p.high)/\w'.cell? ⟨w.heap.size,1,none⟩=some (.slice a.A1 p.free.length a.c1)/\w'.cell? ⟨w.heap.size,2,none⟩=some (.slice a.A2 p.limbo.length a.c2) from fun w' hB=>g2i (AT.out.below hB AT.out.1));have KX:=hid (show ∀ w',Below W1.heap.size W1 w'->∀ v1 v2,(fun w'=>w'.cell? ⟨w.heap.size,0,none⟩=some (.int .i64 p.high)/\w'.cell? ⟨w.heap.size,1,none⟩=some (.slice a.A1 p.free.length a.c1)/\w'.cell? ⟨w.heap.size,2,none⟩=some (.slice a.A2 p.limbo.length a.c2)) (set3 w' (w.heap.size+1) (.int .i64 p.high) v1 v2) from fun w' hB v1 v2=>g2i (g7b (AT.out.below hB AT.out.1) (Nat.succ_ne_self _) _ v1 v2))
 have J1:=hid (show ∀ W b,Below W1.heap.size W1 W->W.cell? ⟨b,0,none⟩=some (.slice a.A1 p.free.length a.c1)->b<W.heap.size->Calls Tryz.prog 118 #[.slice (some ⟨b,0,none⟩) 1 1] W (Owns p.free W) from fun W b hB hc hb=>h2i (a.A1,a.c1,p.free) W b hc hb (HP.out.f.below hB) (by simp only;omega));have J2:=hid (show ∀ W b,Below W1.heap.size W1 W->W.cell? ⟨b,0,none⟩=some (.int .i64 n)->b<W.heap.size->Calls Tryz.prog 162 #[.slice a.A2 p.limbo.length a.c2,.slice (some ⟨b,0,none⟩) 1 1] W (Owns (lay1 n p.limbo) W) from fun W b hB hc hb=>k2a a.A2 _ a.c2 p.limbo n W b hc hb (HP.out.l.below hB) hl)
 have BD:=hid (show Below W1.heap.size W1 W1.drew from (Below.refl _ _).drew);have Ba:=hid (show Below W1.heap.size W1 (W1.alloc (.cells #[.slice a.A1 p.free.length a.c1] 66)).drew from (g0a W1 _).drew);have Bb:=hid (show Below W1.heap.size W1 (W1.alloc (.cells #[.int .i64 n] 3)).drew from (g0a W1 _).drew);have Bab:=hid (show Below W1.heap.size W1 ((W1.alloc (.cells #[.slice a.A1 p.free.length a.c1] 66)).alloc (.cells #[.int .i64 n] 3)).drew from ((g0a W1 _).alloc (g0a W1 _).size _).drew)
 have Bba:=hid (show Below W1.heap.size W1 ((W1.alloc (.cells #[.int .i64 n] 3)).alloc (.cells #[.slice a.A1 p.free.length a.c1] 66)).drew from ((g0a W1 _).alloc (g0a W1 _).size _).drew);have K0:=hid (KS.out _ BD.out);have Ka:=hid (KS.out _ Ba.out);have Kb:=hid (KS.out _ Bb.out);have Kab:=hid (KS.out _ Bab.out);have Kba:=hid (KS.out _ Bba.out);have cA:=J1.out (W1.alloc (.cells #[.slice a.A1 p.free.length a.c1] 66)).drew W1.heap.size Ba.out (h4i W1 (.slice a.A1 p.free.length a.c1) 66).1 (h4i W1 (.slice a.A1 p.free.length a.c1) 66).2
 have cB:=J1.out ((W1.alloc (.cells #[.slice a.A1 p.free.length a.c1] 66)).alloc (.cells #[.int .i64 n] 3)).drew W1.heap.size Bab.out (g3f W1 (.slice a.A1 p.free.length a.c1) 66 (.int .i64 n) 3).1 (g3f W1 (.slice a.A1 p.free.length a.c1) 66 (.int .i64 n) 3).2.2.2;have cC:=J1.out ((W1.alloc (.cells #[.int .i64 n] 3)).alloc (.cells #[.slice a.A1 p.free.length a.c1] 66)).drew (W1.heap.size+1) Bba.out (g3f W1 (.int .i64 n) 3 (.slice a.A1 p.free.length a.c1) 66).2.1 (g3f W1 (.int .i64 n) 3 (.slice a.A1 p.free.length a.c1) 66).2.2.1
 have xb:=hid (g3f W1 (.slice a.A1 p.free.length a.c1) 66 (.int .i64 n) 3).2.1;have xc:=hid (g3f W1 (.int .i64 n) 3 (.slice a.A1 p.free.length a.c1) 66).1;have sb:=hid (g3f W1 (.slice a.A1 p.free.length a.c1) 66 (.int .i64 n) 3).2.2.1;have sc:=hid (g3f W1 (.int .i64 n) 3 (.slice a.A1 p.free.length a.c1) 66).2.2.2;clear J1;go_region_held3 (fun w'=>w'.cell? ⟨w.heap.size,0,none⟩=some (.int .i64 p.high)/\w'.cell? ⟨w.heap.size,1,none⟩=some (.slice a.A1 p.free.length a.c1)/\w'.cell? ⟨w.heap.size,2,none⟩=some (.slice a.A2 p.limbo.length a.c2))
  (with_reducible (first | exact K0.out | exact Ka.out | exact Kb.out | exact Kab.out | exact Kba.out | exact K1.out | exact K1b.out | exact K2.out | exact K3.out))
  (first
    | (go_at_call 118;(with_reducible refine cA.mono ?_);rintro e w1 ⟨v1,rfl,ho,hb⟩
       have hB:Below W1.heap.size W1 w1:=Ba.out.trans (hb.mono Ba.out.size);have ho':=g2g ho Ba.out.size;have K1:=hid (KS.out _ hB);have hB2:=hB.alloc hB.size (.cells #[.int .i64 n] 3);have K1b:=hid (KS.out _ hB2);have HBc:=hid hB2;have HO1:=hid (OwnG.kept ho' (g0a w1 (.cells #[.int .i64 n] 3)));have cD:=J2.out _ w1.heap.size hB2 (cell1 w1 (.int .i64 n) 3).1 (cell1 w1 (.int .i64 n) 3).2;clear hB2;clear ho hb hB ho')
    | (go_at_call 118;(with_reducible refine cB.mono ?_);rintro e w1 ⟨v1,rfl,ho,hb⟩
       have hB:Below W1.heap.size W1 w1:=Bab.out.trans (hb.mono Bab.out.size);have ho':=g2g ho Bab.out.size;have K1:=hid (KS.out _ hB);have HBc:=hid hB;have HO1:=hid ho';have cD:=J2.out w1 (W1.heap.size+1) hB ((hb.cell (p:=⟨W1.heap.size+1,0,none⟩) sb.out).trans xb.out) (Nat.lt_of_lt_of_le sb.out hb.size);clear ho hb hB ho')
    | (go_at_call 118;(with_reducible refine cC.mono ?_);rintro e w1 ⟨v1,rfl,ho,hb⟩
       have hB:Below W1.heap.size W1 w1:=Bba.out.trans (hb.mono Bba.out.size);have ho':=g2g ho Bba.out.size;have K1:=hid (KS.out _ hB);have HBc:=hid hB;have HO1:=hid ho';have cD:=J2.out w1 W1.heap.size hB ((hb.cell (p:=⟨W1.heap.size,0,none⟩) sc.out).trans xc.out) (Nat.lt_of_lt_of_le sc.out hb.size);clear ho hb hB ho')
    | (go_at_call 162;(with_reducible refine cD.mono ?_);rintro e w2 ⟨v2,rfl,ho2,hb2⟩
       have hB3:=HBc.out.trans (hb2.mono HBc.out.size);have K2:=hid (KS.out _ hB3);have HO1':=g6p (OwnG.kept HO1.out hb2) (b:=w.heap.size+1) (show w.heap.size+1<W1.heap.size by have:=HS.out;omega) (.int .i64 p.high) v1 v2;have HO2':=g6p (g2g ho2 HBc.out.size) (b:=w.heap.size+1) (show w.heap.size+1<W1.heap.size by have:=HS.out;omega) (.int .i64 p.high) v1 v2;have AZ2:=hid (AZ.out.below hB3 (by have:=HS.out;omega))
       have A3:=hid (g6v AZ2.out rfl (.int .i64 p.high) v1 v2);have B3:=hid (g2t (BB.out.trans (hB3.mono BB.out.size)) (Nat.le_succ _) (.int .i64 p.high) v1 v2);have K3:=hid (KX.out _ hB3 v1 v2);have r0:w2.cell? ⟨w.heap.size+1,0,none⟩=some (.int .i64 0):=AZ2.out.2.2 0 _ rfl;have r1:w2.cell? ⟨w.heap.size+1,1,none⟩=some (.slice none 0 0):=AZ2.out.2.2 1 _ rfl;have r2:w2.cell? ⟨w.heap.size+1,2,none⟩=some (.slice none 0 0):=AZ2.out.2.2 2 _ rfl
       have fz:=AZ2.out.2.1;obtain ⟨X1',n1',d1',rfl,hN1,hf1⟩:=g3v HO1';obtain ⟨X2',n2',d2',rfl,hN2,hf2⟩:=g3v HO2';have HN1:=hid hN1;have HN2:=hid hN2;have HF1:=hid hf1;have HF2:=hid hf2;unfold set3 at K3;clear ho2 hb2 hB3 hN1 hN2 hf1 hf2 HO1' HO2' HO1 cD))
 all_goals
  go_wp2_with fail
  change bodyPost _ _ _ _ _ (set3 w2 (w.heap.size+1) (.int .i64 p.high) (.slice X1' n1' d1') (.slice X2' n2' d2'));generalize set3 w2 (w.heap.size+1) (.int .i64 p.high) (.slice X1' n1' d1') (.slice X2' n2' d2')=W9 at *;clear r0 r1 r2 fz K0 Ka Kb Kab Kba K2 K3;have c0:=A3.out.2.2 0 _ rfl;have c1:=A3.out.2.2 1 _ rfl;have c2:=A3.out.2.2 2 _ rfl;obtain rfl:=HN1.out.len;obtain rfl:=HN2.out.len;refine bodyPost_ret (v:=.tuple #[poV {high:=p.high,free:=p.free,limbo:=(lay1 n p.limbo)} {A1:=X1',c1:=d1',A2:=X2',c2:=d2'},numV 0]) (by simp [results,Tryz.results121,go_sem, *]) rfl ?_
  exact ⟨{A1:=X1',c1:=d1',A2:=X2',c2:=d2'},by rw [HN.out],by rw [HN.out];exact ⟨HN1.out,HN2.out⟩,B3.out,fun x e=>Nat.le_trans BB.out.size (HF1.out x e),fun x e=>Nat.le_trans BB.out.size (HF2.out x e)⟩
theorem k5y (p:Po) (a:La) (n:Int) (w:World) (h:PoAt w p a) (hf:p.free.length<=100000) (hl:p.limbo.length<=100000):Calls Tryz.prog 155 #[poV p a,.int .i64 n] w (p1d (g1k p n) w):=by
 obtain ⟨t1,t2,t3,t4⟩:=h0w w p a;have h0:=h.below t3;have AT:=hid t1;have AZ:=hid t2;have BB:=hid t3;unfold poV;obtain ⟨W0,hW0⟩:∃ W0,(w.alloc (.cells (poC p a) 70)).alloc (.cells #[.int .i64 0,.slice none 0 0,.slice none 0 0] 70)=W0:=⟨_,rfl⟩;have e0:poC {high:=0} {}=#[.int .i64 0,.slice none 0 0,.slice none 0 0]:=rfl;rw [e0] at t4 h0 AT AZ BB;rw [hW0] at AT AZ BB t4 h0;have HP:=hid h0;have HS:=hid (Nat.le_of_eq t4.symm)
 obtain ⟨c0,c1,c2⟩:=g2i AT.out;clear t1 t2 t3 t4 h0 h e0;have cM:=j5r p a n W0 HP.out;have hh0:W0.cell? ⟨w.heap.size+1,0,none⟩=some (.int .i64 0):=AZ.out.2.2 0 _ rfl;unfold poV at cM;go_enter Tryz.func155,Tryz.ntmps155
 go_wp2_with fail
 refine cM.mono ?_;rintro e W1 ⟨r,rfl,hr,hb⟩;clear hW0 c0 c1 c2 cM hh0
 replace AT:=hid (AT.out.below hb AT.out.1)
 replace AZ:=hid (AZ.out.below hb (by have:=HS.out;omega))
 replace BB:=hid (BB.out.trans (hb.mono BB.out.size))
 replace HP:=hid (HP.out.below hb)
 replace HS:=hid (Nat.le_trans HS.out hb.size)
 clear hb;rcases r with _ | _
 ·have HN:Hid (g1k p n=({high:=0},1)):=hid (by unfold g1k;rw [if_neg (fun g=>by cases hr.2 g)]);have r0:W1.cell? ⟨w.heap.size+1,0,none⟩=some (.int .i64 0):=AZ.out.2.2 0 _ rfl;have r1:W1.cell? ⟨w.heap.size+1,1,none⟩=some (.slice none 0 0):=AZ.out.2.2 1 _ rfl;have r2:W1.cell? ⟨w.heap.size+1,2,none⟩=some (.slice none 0 0):=AZ.out.2.2 2 _ rfl;have fz:=AZ.out.2.1;have A3:=hid (g6v AZ.out rfl (.int .i64 0) (.slice none 0 0) (.slice none 0 0))
  have B3:=hid (g2t BB.out (Nat.le_succ _) (.int .i64 0) (.slice none 0 0) (.slice none 0 0));clear hr;go_wp2_with fail
  change bodyPost _ _ _ _ _ (set3 W1 (w.heap.size+1) (.int .i64 0) (.slice none 0 0) (.slice none 0 0));generalize set3 W1 (w.heap.size+1) (.int .i64 0) (.slice none 0 0) (.slice none 0 0)=W9 at *;clear r0 r1 r2 fz;have c0:=A3.out.2.2 0 _ rfl;have c1:=A3.out.2.2 1 _ rfl;have c2:=A3.out.2.2 2 _ rfl;refine bodyPost_ret (v:=.tuple #[poV {high:=0} {},numV 1]) (by simp [results,Tryz.results155,go_sem, *]) rfl ?_
  rw [HN.out];exact ⟨{},rfl,j4n _,B3.out,g2m.nil _⟩
 have HN:Hid (g1k p n=({high:=p.high,free:=(lay1 n p.free),limbo:=p.limbo},0)):=hid (by unfold g1k;rw [if_pos (hr.1 rfl)]);clear hr;go_wp2_with fail
 have KS:=hid (show ∀ w',Below W1.heap.size W1 w'->w'.cell? ⟨w.heap.size,0,none⟩=some (.int .i64 p.high)/\w'.cell? ⟨w.heap.size,1,none⟩=some (.slice a.A1 p.free.length a.c1)/\w'.cell? ⟨w.heap.size,2,none⟩=some (.slice a.A2 p.limbo.length a.c2) from fun w' hB=>g2i (AT.out.below hB AT.out.1));have KX:=hid (show ∀ w',Below W1.heap.size W1 w'->∀ v1 v2,(fun w'=>w'.cell? ⟨w.heap.size,0,none⟩=some (.int .i64 p.high)/\w'.cell? ⟨w.heap.size,1,none⟩=some (.slice a.A1 p.free.length a.c1)/\w'.cell? ⟨w.heap.size,2,none⟩=some (.slice a.A2 p.limbo.length a.c2)) (set3 w' (w.heap.size+1) (.int .i64 p.high) v1 v2) from fun w' hB v1 v2=>g2i (g7b (AT.out.below hB AT.out.1) (Nat.succ_ne_self _) _ v1 v2))
 have J1:=hid (show ∀ W b,Below W1.heap.size W1 W->W.cell? ⟨b,0,none⟩=some (.int .i64 n)->b<W.heap.size->Calls Tryz.prog 162 #[.slice a.A1 p.free.length a.c1,.slice (some ⟨b,0,none⟩) 1 1] W (Owns (lay1 n p.free) W) from fun W b hB hc hb=>k2a a.A1 _ a.c1 p.free n W b hc hb (HP.out.f.below hB) hf);have J2:=hid (show ∀ W b,Below W1.heap.size W1 W->W.cell? ⟨b,0,none⟩=some (.slice a.A2 p.limbo.length a.c2)->b<W.heap.size->Calls Tryz.prog 118 #[.slice (some ⟨b,0,none⟩) 1 1] W (Owns p.limbo W) from fun W b hB hc hb=>h2i (a.A2,a.c2,p.limbo) W b hc hb (HP.out.l.below hB) (by simp only;omega))
 have BD:=hid (show Below W1.heap.size W1 W1.drew from (Below.refl _ _).drew);have Ba:=hid (show Below W1.heap.size W1 (W1.alloc (.cells #[.int .i64 n] 3)).drew from (g0a W1 _).drew);have Bb:=hid (show Below W1.heap.size W1 (W1.alloc (.cells #[.slice a.A2 p.limbo.length a.c2] 66)).drew from (g0a W1 _).drew);have Bab:=hid (show Below W1.heap.size W1 ((W1.alloc (.cells #[.int .i64 n] 3)).alloc (.cells #[.slice a.A2 p.limbo.length a.c2] 66)).drew from ((g0a W1 _).alloc (g0a W1 _).size _).drew)
 have Bba:=hid (show Below W1.heap.size W1 ((W1.alloc (.cells #[.slice a.A2 p.limbo.length a.c2] 66)).alloc (.cells #[.int .i64 n] 3)).drew from ((g0a W1 _).alloc (g0a W1 _).size _).drew);have K0:=hid (KS.out _ BD.out);have Ka:=hid (KS.out _ Ba.out);have Kb:=hid (KS.out _ Bb.out);have Kab:=hid (KS.out _ Bab.out);have Kba:=hid (KS.out _ Bba.out);have cA:=J1.out (W1.alloc (.cells #[.int .i64 n] 3)).drew W1.heap.size Ba.out (h4i W1 (.int .i64 n) 3).1 (h4i W1 (.int .i64 n) 3).2
 have cB:=J1.out ((W1.alloc (.cells #[.int .i64 n] 3)).alloc (.cells #[.slice a.A2 p.limbo.length a.c2] 66)).drew W1.heap.size Bab.out (g3f W1 (.int .i64 n) 3 (.slice a.A2 p.limbo.length a.c2) 66).1 (g3f W1 (.int .i64 n) 3 (.slice a.A2 p.limbo.length a.c2) 66).2.2.2;have cC:=J1.out ((W1.alloc (.cells #[.slice a.A2 p.limbo.length a.c2] 66)).alloc (.cells #[.int .i64 n] 3)).drew (W1.heap.size+1) Bba.out (g3f W1 (.slice a.A2 p.limbo.length a.c2) 66 (.int .i64 n) 3).2.1 (g3f W1 (.slice a.A2 p.limbo.length a.c2) 66 (.int .i64 n) 3).2.2.1
 have xb:=hid (g3f W1 (.int .i64 n) 3 (.slice a.A2 p.limbo.length a.c2) 66).2.1;have xc:=hid (g3f W1 (.slice a.A2 p.limbo.length a.c2) 66 (.int .i64 n) 3).1;have sb:=hid (g3f W1 (.int .i64 n) 3 (.slice a.A2 p.limbo.length a.c2) 66).2.2.1;have sc:=hid (g3f W1 (.slice a.A2 p.limbo.length a.c2) 66 (.int .i64 n) 3).2.2.2;clear J1;go_region_held3 (fun w'=>w'.cell? ⟨w.heap.size,0,none⟩=some (.int .i64 p.high)/\w'.cell? ⟨w.heap.size,1,none⟩=some (.slice a.A1 p.free.length a.c1)/\w'.cell? ⟨w.heap.size,2,none⟩=some (.slice a.A2 p.limbo.length a.c2))
  (with_reducible (first | exact K0.out | exact Ka.out | exact Kb.out | exact Kab.out | exact Kba.out | exact K1.out | exact K1b.out | exact K2.out | exact K3.out))
  (first
    | (go_at_call 162;(with_reducible refine cA.mono ?_);rintro e w1 ⟨v1,rfl,ho,hb⟩
       have hB:Below W1.heap.size W1 w1:=Ba.out.trans (hb.mono Ba.out.size);have ho':=g2g ho Ba.out.size;have K1:=hid (KS.out _ hB);have hB2:=hB.alloc hB.size (.cells #[.slice a.A2 p.limbo.length a.c2] 66);have K1b:=hid (KS.out _ hB2);have HBc:=hid hB2;have HO1:=hid (OwnG.kept ho' (g0a w1 (.cells #[.slice a.A2 p.limbo.length a.c2] 66)));have cD:=J2.out _ w1.heap.size hB2 (cell1 w1 (.slice a.A2 p.limbo.length a.c2) 66).1 (cell1 w1 (.slice a.A2 p.limbo.length a.c2) 66).2;clear hB2;clear ho hb hB ho')
    | (go_at_call 162;(with_reducible refine cB.mono ?_);rintro e w1 ⟨v1,rfl,ho,hb⟩
       have hB:Below W1.heap.size W1 w1:=Bab.out.trans (hb.mono Bab.out.size);have ho':=g2g ho Bab.out.size;have K1:=hid (KS.out _ hB);have HBc:=hid hB;have HO1:=hid ho';have cD:=J2.out w1 (W1.heap.size+1) hB ((hb.cell (p:=⟨W1.heap.size+1,0,none⟩) sb.out).trans xb.out) (Nat.lt_of_lt_of_le sb.out hb.size);clear ho hb hB ho')
    | (go_at_call 162;(with_reducible refine cC.mono ?_);rintro e w1 ⟨v1,rfl,ho,hb⟩
       have hB:Below W1.heap.size W1 w1:=Bba.out.trans (hb.mono Bba.out.size);have ho':=g2g ho Bba.out.size;have K1:=hid (KS.out _ hB);have HBc:=hid hB;have HO1:=hid ho';have cD:=J2.out w1 W1.heap.size hB ((hb.cell (p:=⟨W1.heap.size,0,none⟩) sc.out).trans xc.out) (Nat.lt_of_lt_of_le sc.out hb.size);clear ho hb hB ho')
    | (go_at_call 118;(with_reducible refine cD.mono ?_);rintro e w2 ⟨v2,rfl,ho2,hb2⟩
       have hB3:=HBc.out.trans (hb2.mono HBc.out.size);have K2:=hid (KS.out _ hB3);have HO1':=g6p (OwnG.kept HO1.out hb2) (b:=w.heap.size+1) (show w.heap.size+1<W1.heap.size by have:=HS.out;omega) (.int .i64 p.high) v1 v2;have HO2':=g6p (g2g ho2 HBc.out.size) (b:=w.heap.size+1) (show w.heap.size+1<W1.heap.size by have:=HS.out;omega) (.int .i64 p.high) v1 v2;have AZ2:=hid (AZ.out.below hB3 (by have:=HS.out;omega))
       have A3:=hid (g6v AZ2.out rfl (.int .i64 p.high) v1 v2);have B3:=hid (g2t (BB.out.trans (hB3.mono BB.out.size)) (Nat.le_succ _) (.int .i64 p.high) v1 v2);have K3:=hid (KX.out _ hB3 v1 v2);have r0:w2.cell? ⟨w.heap.size+1,0,none⟩=some (.int .i64 0):=AZ2.out.2.2 0 _ rfl;have r1:w2.cell? ⟨w.heap.size+1,1,none⟩=some (.slice none 0 0):=AZ2.out.2.2 1 _ rfl;have r2:w2.cell? ⟨w.heap.size+1,2,none⟩=some (.slice none 0 0):=AZ2.out.2.2 2 _ rfl
       have fz:=AZ2.out.2.1;obtain ⟨X1',n1',d1',rfl,hN1,hf1⟩:=g3v HO1';obtain ⟨X2',n2',d2',rfl,hN2,hf2⟩:=g3v HO2';have HN1:=hid hN1;have HN2:=hid hN2;have HF1:=hid hf1;have HF2:=hid hf2;unfold set3 at K3;clear ho2 hb2 hB3 hN1 hN2 hf1 hf2 HO1' HO2' HO1 cD))
 all_goals
  go_wp2_with fail
  change bodyPost _ _ _ _ _ (set3 w2 (w.heap.size+1) (.int .i64 p.high) (.slice X1' n1' d1') (.slice X2' n2' d2'));generalize set3 w2 (w.heap.size+1) (.int .i64 p.high) (.slice X1' n1' d1') (.slice X2' n2' d2')=W9 at *;clear r0 r1 r2 fz K0 Ka Kb Kab Kba K2 K3;have c0:=A3.out.2.2 0 _ rfl;have c1:=A3.out.2.2 1 _ rfl;have c2:=A3.out.2.2 2 _ rfl;obtain rfl:=HN1.out.len;obtain rfl:=HN2.out.len;refine bodyPost_ret (v:=.tuple #[poV {high:=p.high,free:=(lay1 n p.free),limbo:=p.limbo} {A1:=X1',c1:=d1',A2:=X2',c2:=d2'},numV 0]) (by simp [results,Tryz.results155,go_sem, *]) rfl ?_
  exact ⟨{A1:=X1',c1:=d1',A2:=X2',c2:=d2'},by rw [HN.out],by rw [HN.out];exact ⟨HN1.out,HN2.out⟩,B3.out,fun x e=>Nat.le_trans BB.out.size (HF1.out x e),fun x e=>Nat.le_trans BB.out.size (HF2.out x e)⟩
theorem h6j (p:Po) (a:La) (most:Int) (w:World) (h:PoAt w p a) (hf:p.free.length<=100000) (hl:p.limbo.length<=100000) (hi:-9223372036854775808<=p.high) (hm:most<=9223372036854775807):Calls Tryz.prog 196 #[poV p a,.int .i64 most] w (p2s (g0k p most) w):=by
 obtain ⟨t1,t2,t3,t4⟩:=h0w w p a;have HH:=hid h;have h0:=h.below t3;have AT:=hid t1;have AZ:=hid t2;have BB:=hid t3;unfold poV;obtain ⟨W0,hW0⟩:∃ W0,(w.alloc (.cells (poC p a) 70)).alloc (.cells #[.int .i64 0,.slice none 0 0,.slice none 0 0] 70)=W0:=⟨_,rfl⟩;have e0:poC {high:=0} {}=#[.int .i64 0,.slice none 0 0,.slice none 0 0]:=rfl;rw [e0] at t4 h0 AT AZ BB;rw [hW0] at AT AZ BB t4 h0;have HP:=hid h0
 have HS:=hid (Nat.le_of_eq t4.symm);obtain ⟨c0,c1,c2⟩:=g2i AT.out;clear t1 t2 t3 t4 h0 h e0;rcases hfr:p.free with _ | ⟨x,fs⟩
 rotate_left
 ·have HN:=hid (show g0k p most=({high:=p.high,free:=fs,limbo:=p.limbo},x,0) by unfold g0k;rw [hfr]);have hf2:=HP.out.f;have hf3:=HH.out.f;rw [hfr] at hf2 hf3 hf;obtain ⟨b,off,hA,hlt,hc⟩:=hf3.row (by simp);have hx:w.cell? ⟨b,off,none⟩=some (.int .i64 x):=hc 0 (by simp);have ht:=hf2.tail (k:=1) (by simp);have q:∀ W,(Instr.slice 66 (.slice a.A1 (x :: fs).length a.c1) (some (.int .i64 1)) none none).run Tryz.prog W=.ok (.slice (if a.c1=1 then a.A1 else a.A1.map (·.add 1)) ((x :: fs).length-1) (a.c1-1)) W:=fun W=>h1e a.A1 _ a.c1 1 (by simp) W
  rw [show (x :: fs).length-1=fs.length from rfl] at q ht;rw [show (x :: fs).drop 1=fs from rfl] at ht;generalize (if a.c1=1 then a.A1 else a.A1.map (·.add 1))=A3 at q ht;generalize a.c1-1=c3 at q ht;obtain ⟨nf,hnf⟩:∃ nf,(x :: fs).length=nf:=⟨_,rfl⟩;rw [hfr,hnf,hA] at c1;rw [hnf,hA] at q;have hnf0:(0:Int)<(nf:Int):=by rw [<- hnf];simp
  have hfs:fs.length<=100000:=by simp at hf;omega
  have HT:=hid ht;have hx0:W0.cell? ⟨b,off,none⟩=some (.int .i64 x):=(BB.out.cell (p:=⟨b,off,none⟩) hlt).trans hx;have KS:=hid (show ∀ w',Below W0.heap.size W0 w'->w'.cell? ⟨w.heap.size,0,none⟩=some (.int .i64 p.high)/\w'.cell? ⟨w.heap.size,1,none⟩=some (.slice (some ⟨b,off,none⟩) nf a.c1)/\w'.cell? ⟨w.heap.size,2,none⟩=some (.slice a.A2 p.limbo.length a.c2)/\w'.cell? ⟨b,off,none⟩=some (.int .i64 x) from fun w' hB=>by
   have g:=g2i (AT.out.below hB AT.out.1);rw [hfr,hnf,hA] at g;exact ⟨g.1,g.2.1,g.2.2,(hB.cell (p:=⟨b,off,none⟩) (Nat.lt_of_lt_of_le hlt BB.out.size)).trans hx0⟩)
  have KX:=hid (show ∀ w',Below W0.heap.size W0 w'->∀ v1 v2,(fun w'=>w'.cell? ⟨w.heap.size,0,none⟩=some (.int .i64 p.high)/\w'.cell? ⟨w.heap.size,1,none⟩=some (.slice (some ⟨b,off,none⟩) nf a.c1)/\w'.cell? ⟨w.heap.size,2,none⟩=some (.slice a.A2 p.limbo.length a.c2)/\w'.cell? ⟨b,off,none⟩=some (.int .i64 x)) (set3 w' (w.heap.size+1) (.int .i64 p.high) v1 v2) from fun w' hB v1 v2=>by
   have g:=g2i (g7b (AT.out.below hB AT.out.1) (Nat.succ_ne_self _) (.int .i64 p.high) v1 v2);rw [hfr,hnf,hA] at g;exact ⟨g.1,g.2.1,g.2.2,((g2t (Below.refl w.heap.size w') (Nat.le_succ _) (.int .i64 p.high) v1 v2).cell (p:=⟨b,off,none⟩) hlt).trans ((hB.cell (p:=⟨b,off,none⟩) (Nat.lt_of_lt_of_le hlt BB.out.size)).trans hx0)⟩)
  have J1:=hid (show ∀ W b,Below W0.heap.size W0 W->W.cell? ⟨b,0,none⟩=some (.slice A3 fs.length c3)->b<W.heap.size->Calls Tryz.prog 118 #[.slice (some ⟨b,0,none⟩) 1 1] W (Owns fs W) from fun W b hB hc hb=>h2i (A3,c3,fs) W b hc hb (HT.out.below hB) (by simp only;omega));have J2:=hid (show ∀ W b,Below W0.heap.size W0 W->W.cell? ⟨b,0,none⟩=some (.slice a.A2 p.limbo.length a.c2)->b<W.heap.size->Calls Tryz.prog 118 #[.slice (some ⟨b,0,none⟩) 1 1] W (Owns p.limbo W) from fun W b hB hc hb=>h2i (a.A2,a.c2,p.limbo) W b hc hb (HP.out.l.below hB) (by simp only;omega))
  clear hf2 hf3 hc hx ht hx0 hf hl;go_enter Tryz.func196,Tryz.ntmps196
  go_wp2_with fail
  clear hW0 c0 c1 c2;have BD:=hid (show Below W0.heap.size W0 W0.drew from (Below.refl _ _).drew);have Ba:=hid (show Below W0.heap.size W0 (W0.alloc (.cells #[.slice A3 fs.length c3] 66)).drew from (g0a W0 _).drew);have Bb:=hid (show Below W0.heap.size W0 (W0.alloc (.cells #[.slice a.A2 p.limbo.length a.c2] 66)).drew from (g0a W0 _).drew);have Bab:=hid (show Below W0.heap.size W0 ((W0.alloc (.cells #[.slice A3 fs.length c3] 66)).alloc (.cells #[.slice a.A2 p.limbo.length a.c2] 66)).drew from ((g0a W0 _).alloc (g0a W0 _).size _).drew)
  have Bba:=hid (show Below W0.heap.size W0 ((W0.alloc (.cells #[.slice a.A2 p.limbo.length a.c2] 66)).alloc (.cells #[.slice A3 fs.length c3] 66)).drew from ((g0a W0 _).alloc (g0a W0 _).size _).drew);have K0:=hid (KS.out _ BD.out);have Ka:=hid (KS.out _ Ba.out);have Kb:=hid (KS.out _ Bb.out);have Kab:=hid (KS.out _ Bab.out);have Kba:=hid (KS.out _ Bba.out);have cA:=J1.out (W0.alloc (.cells #[.slice A3 fs.length c3] 66)).drew W0.heap.size Ba.out (h4i W0 (.slice A3 fs.length c3) 66).1 (h4i W0 (.slice A3 fs.length c3) 66).2
  have cB:=J1.out ((W0.alloc (.cells #[.slice A3 fs.length c3] 66)).alloc (.cells #[.slice a.A2 p.limbo.length a.c2] 66)).drew W0.heap.size Bab.out (g3f W0 (.slice A3 fs.length c3) 66 (.slice a.A2 p.limbo.length a.c2) 66).1 (g3f W0 (.slice A3 fs.length c3) 66 (.slice a.A2 p.limbo.length a.c2) 66).2.2.2;have cC:=J1.out ((W0.alloc (.cells #[.slice a.A2 p.limbo.length a.c2] 66)).alloc (.cells #[.slice A3 fs.length c3] 66)).drew (W0.heap.size+1) Bba.out (g3f W0 (.slice a.A2 p.limbo.length a.c2) 66 (.slice A3 fs.length c3) 66).2.1 (g3f W0 (.slice a.A2 p.limbo.length a.c2) 66 (.slice A3 fs.length c3) 66).2.2.1
  have xb:=hid (g3f W0 (.slice A3 fs.length c3) 66 (.slice a.A2 p.limbo.length a.c2) 66).2.1;have xc:=hid (g3f W0 (.slice a.A2 p.limbo.length a.c2) 66 (.slice A3 fs.length c3) 66).1;have sb:=hid (g3f W0 (.slice A3 fs.length c3) 66 (.slice a.A2 p.limbo.length a.c2) 66).2.2.1;have sc:=hid (g3f W0 (.slice a.A2 p.limbo.length a.c2) 66 (.slice A3 fs.length c3) 66).2.2.2;clear J1;go_region_held3 (fun w'=>w'.cell? ⟨w.heap.size,0,none⟩=some (.int .i64 p.high)/\w'.cell? ⟨w.heap.size,1,none⟩=some (.slice (some ⟨b,off,none⟩) nf a.c1)/\w'.cell? ⟨w.heap.size,2,none⟩=some (.slice a.A2 p.limbo.length a.c2)/\w'.cell? ⟨b,off,none⟩=some (.int .i64 x))
   (with_reducible (first | exact K0.out | exact Ka.out | exact Kb.out | exact Kab.out | exact Kba.out | exact K1.out | exact K1b.out | exact K2.out | exact K3.out))
   (first
     | (go_at_call 118;(with_reducible refine cA.mono ?_);rintro e w1 ⟨v1,rfl,ho,hb⟩
        have hB:Below W0.heap.size W0 w1:=Ba.out.trans (hb.mono Ba.out.size);have ho':=g2g ho Ba.out.size;have K1:=hid (KS.out _ hB);have hB2:=hB.alloc hB.size (.cells #[.slice a.A2 p.limbo.length a.c2] 66);have K1b:=hid (KS.out _ hB2);have HBc:=hid hB2;have HO1:=hid (OwnG.kept ho' (g0a w1 (.cells #[.slice a.A2 p.limbo.length a.c2] 66)));have cD:=J2.out _ w1.heap.size hB2 (cell1 w1 (.slice a.A2 p.limbo.length a.c2) 66).1 (cell1 w1 (.slice a.A2 p.limbo.length a.c2) 66).2;clear hB2;clear ho hb hB ho')
     | (go_at_call 118;(with_reducible refine cB.mono ?_);rintro e w1 ⟨v1,rfl,ho,hb⟩
        have hB:Below W0.heap.size W0 w1:=Bab.out.trans (hb.mono Bab.out.size);have ho':=g2g ho Bab.out.size;have K1:=hid (KS.out _ hB);have HBc:=hid hB;have HO1:=hid ho';have cD:=J2.out w1 (W0.heap.size+1) hB ((hb.cell (p:=⟨W0.heap.size+1,0,none⟩) sb.out).trans xb.out) (Nat.lt_of_lt_of_le sb.out hb.size);clear ho hb hB ho')
     | (go_at_call 118;(with_reducible refine cC.mono ?_);rintro e w1 ⟨v1,rfl,ho,hb⟩
        have hB:Below W0.heap.size W0 w1:=Bba.out.trans (hb.mono Bba.out.size);have ho':=g2g ho Bba.out.size;have K1:=hid (KS.out _ hB);have HBc:=hid hB;have HO1:=hid ho';have cD:=J2.out w1 W0.heap.size hB ((hb.cell (p:=⟨W0.heap.size,0,none⟩) sc.out).trans xc.out) (Nat.lt_of_lt_of_le sc.out hb.size);clear ho hb hB ho')
     | (go_at_call 118;(with_reducible refine cD.mono ?_);rintro e w2 ⟨v2,rfl,ho2,hb2⟩
        have hB3:=HBc.out.trans (hb2.mono HBc.out.size);have K2:=hid (KS.out _ hB3);have HO1':=g6p (OwnG.kept HO1.out hb2) (b:=w.heap.size+1) (show w.heap.size+1<W0.heap.size by have:=HS.out;omega) (.int .i64 p.high) v1 v2;have HO2':=g6p (g2g ho2 HBc.out.size) (b:=w.heap.size+1) (show w.heap.size+1<W0.heap.size by have:=HS.out;omega) (.int .i64 p.high) v1 v2;have AZ2:=hid (AZ.out.below hB3 (by have:=HS.out;omega))
        have A3:=hid (g6v AZ2.out rfl (.int .i64 p.high) v1 v2);have B3:=hid (g2t (BB.out.trans (hB3.mono BB.out.size)) (Nat.le_succ _) (.int .i64 p.high) v1 v2);have K3:=hid (KX.out _ hB3 v1 v2);have r0:w2.cell? ⟨w.heap.size+1,0,none⟩=some (.int .i64 0):=AZ2.out.2.2 0 _ rfl;have r1:w2.cell? ⟨w.heap.size+1,1,none⟩=some (.slice none 0 0):=AZ2.out.2.2 1 _ rfl;have r2:w2.cell? ⟨w.heap.size+1,2,none⟩=some (.slice none 0 0):=AZ2.out.2.2 2 _ rfl
        have fz:=AZ2.out.2.1;obtain ⟨X1',n1',d1',rfl,hN1,hf1⟩:=g3v HO1';obtain ⟨X2',n2',d2',rfl,hN2,hf2⟩:=g3v HO2';have HN1:=hid hN1;have HN2:=hid hN2;have HF1:=hid hf1;have HF2:=hid hf2;unfold set3 at K3;clear ho2 hb2 hB3 hN1 hN2 hf1 hf2 HO1' HO2' HO1 cD))
  all_goals
   go_wp2_with fail
   change bodyPost _ _ _ _ _ (set3 w2 (w.heap.size+1) (.int .i64 p.high) (.slice X1' n1' d1') (.slice X2' n2' d2'));generalize set3 w2 (w.heap.size+1) (.int .i64 p.high) (.slice X1' n1' d1') (.slice X2' n2' d2')=W9 at *;clear r0 r1 r2 fz K0 Ka Kb Kab Kba K2 K3;have c0:=A3.out.2.2 0 _ rfl;have c1:=A3.out.2.2 1 _ rfl;have c2:=A3.out.2.2 2 _ rfl;obtain rfl:=HN1.out.len;obtain rfl:=HN2.out.len;refine bodyPost_ret (v:=.tuple #[poV {high:=p.high,free:=fs,limbo:=p.limbo} {A1:=X1',c1:=d1',A2:=X2',c2:=d2'},numV x,numV 0]) (by simp [results,Tryz.results196,go_sem, *]) rfl ?_
   exact ⟨{A1:=X1',c1:=d1',A2:=X2',c2:=d2'},by rw [HN.out],by rw [HN.out];exact ⟨HN1.out,HN2.out⟩,B3.out,fun x e=>Nat.le_trans BB.out.size (HF1.out x e),fun x e=>Nat.le_trans BB.out.size (HF2.out x e)⟩
 rw [hfr] at c1;have d0:decide ((0:Int)<(0:Int))=false:=by simp
 by_cases hmh:most<=p.high
 ·have HN:Hid (g0k p most=({high:=0},0,60)):=hid (by unfold g0k;rw [hfr];simp only;rw [if_pos hmh]);have d1:decide (most<=p.high)=true:=by simp [hmh]
  have r0:W0.cell? ⟨w.heap.size+1,0,none⟩=some (.int .i64 0):=AZ.out.2.2 0 _ rfl;have r1:W0.cell? ⟨w.heap.size+1,1,none⟩=some (.slice none 0 0):=AZ.out.2.2 1 _ rfl;have r2:W0.cell? ⟨w.heap.size+1,2,none⟩=some (.slice none 0 0):=AZ.out.2.2 2 _ rfl;have fz:=AZ.out.2.1;have A3:=hid (g6v AZ.out rfl (.int .i64 0) (.slice none 0 0) (.slice none 0 0));have B3:=hid (g2t BB.out (Nat.le_succ _) (.int .i64 0) (.slice none 0 0) (.slice none 0 0))
  clear hmh hf hl;go_enter Tryz.func196,Tryz.ntmps196
  go_wp2_with fail
  change bodyPost _ _ _ _ _ (set3 W0 (w.heap.size+1) (.int .i64 0) (.slice none 0 0) (.slice none 0 0));generalize set3 W0 (w.heap.size+1) (.int .i64 0) (.slice none 0 0) (.slice none 0 0)=W9 at *;clear r0 r1 r2 fz c0 c1 c2;have c0:=A3.out.2.2 0 _ rfl;have c1:=A3.out.2.2 1 _ rfl;have c2:=A3.out.2.2 2 _ rfl;refine bodyPost_ret (v:=.tuple #[poV {high:=0} {},numV 0,numV 60]) (by simp [results,Tryz.results196,go_sem, *]) rfl ?_
  rw [HN.out];exact ⟨{},rfl,j4n _,B3.out,fun x e=>(by cases e),fun x e=>(by cases e)⟩
 have HN:Hid (g0k p most=({high:=p.high+1,limbo:=p.limbo},p.high,0)):=hid (by unfold g0k;rw [hfr];simp only;rw [if_neg hmh]);have d1:decide (most<=p.high)=false:=by simp;omega
 have hb1:=g0a W0 (.cells #[.slice a.A2 p.limbo.length a.c2] 66);have KS:=hid (show ∀ w',Below W0.heap.size W0 w'->w'.cell? ⟨w.heap.size,0,none⟩=some (.int .i64 p.high)/\w'.cell? ⟨w.heap.size,2,none⟩=some (.slice a.A2 p.limbo.length a.c2) from fun w' hB=>by
  have g:=g2i (AT.out.below hB AT.out.1);exact ⟨g.1,g.2.2⟩)
 have KX:=hid (show ∀ w',Below W0.heap.size W0 w'->∀ v0 v1 v2,(fun w'=>w'.cell? ⟨w.heap.size,0,none⟩=some (.int .i64 p.high)/\w'.cell? ⟨w.heap.size,2,none⟩=some (.slice a.A2 p.limbo.length a.c2)) (set3 w' (w.heap.size+1) v0 v1 v2) from fun w' hB v0 v1 v2=>by
  have g:=g2i (g7b (AT.out.below hB AT.out.1) (Nat.succ_ne_self _) v0 v1 v2);exact ⟨g.1,g.2.2⟩)
 have K0:=hid (KS.out W0.drew (Below.refl _ _).drew);have Ba:=hid (show Below W0.heap.size W0 (W0.alloc (.cells #[.slice a.A2 p.limbo.length a.c2] 66)).drew from hb1.drew);have Ka:=hid (KS.out _ Ba.out);have cJ:=h2i (a.A2,a.c2,p.limbo) (W0.alloc (.cells #[.slice a.A2 p.limbo.length a.c2] 66)).drew W0.heap.size (cell1 W0 (.slice a.A2 p.limbo.length a.c2) 66).1 (cell1 W0 (.slice a.A2 p.limbo.length a.c2) 66).2 (HP.out.l.below Ba.out) (by simp only;omega)
 have hw:IntKind.i64.wrap (p.high+1)=p.high+1:=IntWalk.i64_in _ (by omega);clear hmh hf hl hb1;go_enter Tryz.func196,Tryz.ntmps196
 go_wp2_with fail
 clear hW0 c0 c1 c2 hi hm;go_region_held3 (fun w'=>w'.cell? ⟨w.heap.size,0,none⟩=some (.int .i64 p.high)/\w'.cell? ⟨w.heap.size,2,none⟩=some (.slice a.A2 p.limbo.length a.c2))
  (with_reducible (first | exact K0.out | exact Ka.out | exact K1.out | exact K2.out))
  ((go_at_call 118;(with_reducible refine cJ.mono ?_);rintro e w1 ⟨v1,rfl,ho,hb⟩
    have hB:=Ba.out.trans (hb.mono Ba.out.size);have K1:=hid (KS.out _ hB);have HO1':=g6p (g2g ho Ba.out.size) (b:=w.heap.size+1) (show w.heap.size+1<W0.heap.size by have:=HS.out;omega) (.int .i64 (p.high+1)) (.slice none 0 0) v1;have AZ2:=hid (AZ.out.below hB (by have:=HS.out;omega));have A3:=hid (g6v AZ2.out rfl (.int .i64 (p.high+1)) (.slice none 0 0) v1);have B3:=hid (g2t (BB.out.trans (hB.mono BB.out.size)) (Nat.le_succ _) (.int .i64 (p.high+1)) (.slice none 0 0) v1)
    have K2:=hid (KX.out _ hB (.int .i64 (p.high+1)) (.slice none 0 0) v1);have r0:w1.cell? ⟨w.heap.size+1,0,none⟩=some (.int .i64 0):=AZ2.out.2.2 0 _ rfl;have r1:w1.cell? ⟨w.heap.size+1,1,none⟩=some (.slice none 0 0):=AZ2.out.2.2 1 _ rfl;have r2:w1.cell? ⟨w.heap.size+1,2,none⟩=some (.slice none 0 0):=AZ2.out.2.2 2 _ rfl;have fz:=AZ2.out.2.1;obtain ⟨X1',n1',d1',rfl,hN1,hf1⟩:=g3v HO1';have HN1:=hid hN1
    have HF1:=hid hf1;unfold set3 at K2;clear ho hb hB hN1 hf1 HO1'))
 go_wp2_with fail
 change bodyPost _ _ _ _ _ (set3 w1 (w.heap.size+1) (.int .i64 (p.high+1)) (.slice none 0 0) (.slice X1' n1' d1'));generalize set3 w1 (w.heap.size+1) (.int .i64 (p.high+1)) (.slice none 0 0) (.slice X1' n1' d1')=W9 at *;clear r0 r1 r2 fz K0 Ka K1 K2 hw;have c0:=A3.out.2.2 0 _ rfl;have c1:=A3.out.2.2 1 _ rfl;have c2:=A3.out.2.2 2 _ rfl;obtain rfl:=HN1.out.len;refine bodyPost_ret (v:=.tuple #[poV {high:=p.high+1,limbo:=p.limbo} {A2:=X1',c2:=d1'},numV p.high,numV 0]) (by simp [results,Tryz.results196,go_sem, *]) rfl ?_
 rw [HN.out];exact ⟨{A2:=X1',c2:=d1'},rfl,⟨NAt.none _,HN1.out⟩,B3.out,fun x e=>(by cases e),fun x e=>Nat.le_trans BB.out.size (HF1.out x e)⟩
end Go.Proofs.YtglejnkoojpelaaGreat.Pool
namespace Go.Proofs.YtglejnkoojpelaaGreat.Pool
open Go.RowKit Go.Shelf Gen
open Lib (hid)
attribute [local go_sem] Oper.semAt_some
def g4z (n₁ Lb:Nat) (W W':World):Prop:=W.heap.size<=W'.heap.size/\∀ k,k<n₁->k≠Lb->W'.heap[k]?=W.heap[k]?
theorem g4z.refl (n₁ Lb:Nat) (W:World):g4z n₁ Lb W W:=⟨Nat.le_refl _,fun _ _ _=>rfl⟩
theorem g4z.trans {n₁ Lb:Nat} {A B C:World} (h:g4z n₁ Lb A B) (k:g4z n₁ Lb B C):g4z n₁ Lb A C:=⟨Nat.le_trans h.1 k.1,fun j hj hne=>(k.2 j hj hne).trans (h.2 j hj hne)⟩
theorem g4z.of_below {n₁ Lb:Nat} {W W':World} (h:Below n₁ W W'):g4z n₁ Lb W W':=⟨h.size,fun k hk _=>h.block k hk⟩
theorem g4z.cell {n₁ Lb:Nat} {W W':World} (h:g4z n₁ Lb W W') {p:Addr} (h1:p.block<n₁) (h2:p.block≠Lb):W'.cell? p=W.cell? p:=World.cell?_of_block (h.2 _ h1 h2)
theorem g4z.at {w1 W:World} {Lb:Nat} {A:Option Addr} {n c:Nat} {l:List Int} (h:NAt w1 A n c l) (hk:g4z w1.heap.size Lb w1 W) (hA:l≠[]->∀ a,A=some a->a.block≠Lb):NAt W A n c l :=
 ⟨h.len,h.cap,h.max,h.nil,fun hne=>by
  obtain ⟨b,off,e,hlt,hc⟩:=h.row hne;exact ⟨b,off,e,Nat.lt_of_lt_of_le hlt hk.1,fun j hj=>(hk.cell (p:=⟨b,off+j,none⟩) hlt (show b≠Lb from hA hne _ e)).trans (hc j hj)⟩⟩
abbrev GP (w1:World) (Lb:Nat):={x:Part // NAt w1 x.1 x.2.2.length x.2.1 x.2.2/\(x.2.2≠[]->∀ a,x.1=some a->a.block≠Lb)/\x.2.2.length<=200}
theorem k5u (A:Option Addr) (n c i m:Nat) (h:i+m<=c) (W:World):(Instr.slice 66 (.slice A n c) (some (.int .i64 (i:Int))) (some (.int .i64 ((i:Int)+(m:Int)))) (some (.int .i64 ((i:Int)+(m:Int))))).run Tryz.prog W=.ok (.slice (if i+m=i then A else A.map (·.add i)) m m) W:=by
 rw [show (i:Int)+(m:Int)=((i+m:Nat):Int) by omega];rw [run_slice_lhm W 66 A n c j4q .i64 .i64 .i64 (i:Int) ((i+m:Nat):Int) ((i+m:Nat):Int) (by omega) (by omega) (by omega) (by omega),j5a];unfold sliced;have e:((i:Int)+(m:Int)).toNat=i+m:=by omega
 simp [Result.andThen,e]
theorem j0l (w:World):w.grownBy w.drew none:=⟨rfl,rfl,rfl,Nat.le_refl _,fun _ _ _=>rfl⟩
theorem k1z (F:Fence) (n:Nat) (hf:F.fn 234) (hro:F.round=none) (hn:1<=n) (l Bs Bn Lb:Nat) (A:Option Addr) (len cap:Nat) (zs:List Int) (w1:World) (h:NAt w1 A len cap zs) (hA:zs≠[]->∀ a,A=some a->a.block≠Lb)
 (hBs:Bs<w1.heap.size) (hBs2:Bs≠Lb) (hBn:Bn<w1.heap.size) (hBn2:Bn≠Lb) (hlen:len<=1000000) (J Jx:List (GP w1 Lb)->World->Prop)
 (hY:∀ pre x W,J pre W->pre.length<(chunks zs).length->YieldAt F (n-1) Tryz.prog l #[encS x.1] W fun e W' =>
   (e=.returned (.bool true)/\J (pre++[x]) W'/\g4z w1.heap.size Lb W W')\/(e=.returned (.bool false)/\Jx (pre++[x]) W'))
 (W:World) (hJ:AbidesFrom W.heap.size J) (hc1:W.cell? ⟨Bs,0,none⟩=some (.slice A len cap)) (hc2:W.cell? ⟨Bn,0,none⟩=some (.int .i64 200)) (h0:J [] W) :
 CallsIn F n Tryz.prog 234 #[.func (.yield l) #[] #[],.pointer (some ⟨Bs,0,none⟩),.pointer (some ⟨Bn,0,none⟩)] W fun e W'=>(∃ v,e=.returned v) /\
  ((∃ ys,ys.map (·.1.2.2)=chunks zs/\J ys W')\/(∃ pre,True/\Jx pre W')):=by
 refine callsIn_of_wp Tryz.func234 rfl hf ?_ hro;simp only [Tryz.ntmps234,List.size_toArray,List.length_cons,List.length_nil,Nat.reduceAdd,Nat.reduceSub,Array.replicate_succ,Array.replicate_zero,List.push_toArray,List.append_toArray,List.nil_append,List.cons_append];have HH:=hid h;have HA:=hid hA;have HC1:=hid hc1;have HC2:=hid hc2;clear h hA hc1 hc2
 gi_wp2
 gi_loopw [4] (fun i wr=>∃ (q:Nat) (pre:List (GP w1 Lb)),i=.int .i64 (q:Int)/\q<=len+200/\J pre wr/\g4z w1.heap.size Lb W wr/\Hid (pre.map (·.1.2.2)++chunks (zs.drop q)=chunks zs))
  (fun i _=>len+200-(intOf i).toNat)
 case atStart=>exact ⟨0,[],rfl,Nat.zero_le _,h0,g4z.refl _ _ _,hid (by rw [List.drop_zero];rfl)⟩
 case round =>
  obtain ⟨q,pre,rfl,hq,hJs,hk,hQ⟩:=hrel;have c1:=(hk.cell (p:=⟨Bs,0,none⟩) hBs hBs2).trans HC1.out;have c2:=(hk.cell (p:=⟨Bn,0,none⟩) hBn hBn2).trans HC2.out
  by_cases hlt:q<len
  ·obtain ⟨d,hd⟩:∃ d,len-q=d:=⟨_,rfl⟩;obtain ⟨m,hm⟩:∃ m,min 200 d=m:=⟨_,rfl⟩;have hmp:0<m/\m<=200/\q+m<=len:=by omega
   have hcap:=HH.out.cap;have hzl:=HH.out.len;have q1:∀ W,(Instr.slice 66 (.slice A len cap) (some (.int .i64 (q:Int))) none none).run Tryz.prog W=.ok (.slice (if cap=q then A else A.map (·.add q)) d (cap-q)) W:=fun W=>by rw [<- hd];exact h1e A len cap q (by omega) W
   have q2:∀ W,(Instr.slice 66 (.slice A len cap) (some (.int .i64 (q:Int))) (some (.int .i64 ((q:Int)+(m:Int)))) (some (.int .i64 ((q:Int)+(m:Int))))).run Tryz.prog W=.ok (.slice (if q+m=q then A else A.map (·.add q)) m m) W:=fun W=>k5u A len cap q m (by omega) W
   have hmin:min (200:Int) (d:Int)=(m:Int):=by omega
   have ht:=(HH.out.tail (k:=q) (by omega)).head (k:=m) (by omega);rw [if_neg (show ¬ cap=q by omega)] at q1 ht;rw [if_neg (show ¬ q+m=q by omega)] at q2;have htk:(zs.drop q).take m=(zs.drop q).take 200:=by
    rcases Nat.le_total 200 d with g | g
    ·rw [show m=200 by omega]
    ·rw [List.take_of_length_le (by rw [List.length_drop];omega),List.take_of_length_le (by rw [List.length_drop];omega)]
   rw [htk] at ht;have HE:=hid (show chunks (zs.drop q)=(zs.drop q).take 200 :: chunks (zs.drop (q+200)) by
    rw [g6c _ (by rw [List.length_drop];omega),List.drop_drop])
   have hap:(zs.drop q).take 200≠[]->∀ a,A.map (·.add q)=some a->a.block≠Lb:=fun hne a e=>by
    obtain ⟨a0,rfl,rfl⟩:=Option.map_eq_some_iff.1 e;have:=HA.out (fun e2=>hne (by rw [e2];simp)) a0 rfl;unfold Addr.add
    split <;> exact this
   obtain ⟨L,hL⟩:∃ L,(zs.drop q).take 200=L:=⟨_,rfl⟩;rw [hL] at ht hap HE;have hLm:=ht.len;generalize A.map (·.add q)=A3 at q1 q2 ht hap;have hJd:J pre wr.drew:=hJ pre wr wr.drew none hJs (j0l wr) (fun r e=>by cases e);have hpl:pre.length<(chunks zs).length:=by
    rw [<- hQ.out,HE.out,List.length_append,List.length_map,List.length_cons];omega
   obtain ⟨x,hx⟩:∃ x:GP w1 Lb,x.1=(A3,m,L):=⟨⟨(A3,m,L),⟨⟨rfl,by show L.length<=m;omega,by have:=ht.max;show m<=maxLen;unfold maxLen;omega,fun e=>by
    have:=ht.nil e;have:=ht.cap;show m=0;omega,ht.row⟩,hap,by show L.length<=200;omega⟩⟩,rfl⟩
   obtain ⟨fn,tmps,assign,body,hy,hR⟩:=hY pre x wr.drew hJd hpl;rw [hx] at hy;rw [show encS (A3,m,L)=.slice A3 m m by show Value.slice A3 L.length m=_;rw [hLm]] at hy;have HQ2:=hid (show (pre++[x]).map (·.1.2.2)++chunks (zs.drop (q+200))=chunks zs from by
    rw [<- hQ.out,HE.out,List.map_append,List.map_singleton,hx,List.append_assoc];rfl)
   clear ht hap hx hd hm htk hL hQ HE hJs hJd
   gi_wp2
   gi_region
   all_goals
    gi_wp2
    refine hR.mono ?_;rintro e W3 (⟨rfl,hJ3,hk3⟩ | ⟨rfl,hJx3⟩)
    ·have c2':=(hk3.cell (p:=⟨Bn,0,none⟩) hBn hBn2).trans (show wr.drew.cell? ⟨Bn,0,none⟩=some (.int .i64 200) from c2);have HK:=hid (hk.trans ((show g4z w1.heap.size Lb wr wr.drew from ⟨Nat.le_refl _,fun _ _ _=>rfl⟩).trans hk3));have HJ:=hid hJ3;clear hJ3 hk3 hk
     gi_wp2
     go_roundw
     case rel=>exact ⟨q+200,_,by go_num,by omega,HJ.out,HK.out,HQ2⟩
     case measure=>simp [intOf];omega
    ·gi_wp2
     refine bodyPost_ret (results_none rfl _ _ _) rfl ?_;exact ⟨⟨_,rfl⟩,.inr ⟨_,trivial,hJx3⟩⟩
  ·have HE:Hid (pre.map (·.1.2.2)=chunks zs):=hid (by
    have:=hQ.out;rw [List.drop_of_length_le (by have:=HH.out.len;omega),j9k,List.append_nil] at this;exact this)
   clear hQ
   gi_wp2
   go_end0
   exact ⟨⟨_,rfl⟩,.inl ⟨_,HE.out,hJs⟩⟩
theorem k7g (F:Fence) (n:Nat) (h5:F.fn 195) (hro:F.round=none) (a:Option Addr) (len cap:Nat) (w:World) :
 CallsIn F n Tryz.prog 195 #[.slice a len cap,.int .i64 200] w fun e w'=>e=.returned (.func (.func 234) #[] #[.pointer (some ⟨w.heap.size,0,none⟩),.pointer (some ⟨w.heap.size+1,0,none⟩)])/\w'=(w.alloc (.cells #[.slice a len cap] 66)).alloc (.cells #[.int .i64 200] 3):=by
 refine callsIn_of_wp Tryz.func195 rfl h5 ?_ hro;simp only [Tryz.ntmps195,List.size_toArray,List.length_cons,List.length_nil,Nat.reduceAdd,Nat.reduceSub,Array.replicate_succ,Array.replicate_zero,List.push_toArray,List.append_toArray,List.nil_append,List.cons_append]
 gi_wp2
 go_ret
 exact ⟨rfl,rfl⟩
theorem j2v (F:Fence) (n:Nat) (h7:F.fn 234) (hro:F.round=none) (hn:1<=n) (Bs Bn Lb:Nat) (A:Option Addr) (len cap:Nat) (zs:List Int) (w1:World) (h:NAt w1 A len cap zs) (hA:zs≠[]->∀ a,A=some a->a.block≠Lb)
 (hBs:Bs<w1.heap.size) (hBs2:Bs≠Lb) (hBn:Bn<w1.heap.size) (hBn2:Bn≠Lb) (hlen:len<=1000000)
 (hc1:w1.cell? ⟨Bs,0,none⟩=some (.slice A len cap)) (hc2:w1.cell? ⟨Bn,0,none⟩=some (.int .i64 200)) :
 SeqStopsK F n Tryz.prog 234 #[.pointer (some ⟨Bs,0,none⟩),.pointer (some ⟨Bn,0,none⟩)] (fun x:GP w1 Lb=>#[encS x.1]) (g4z w1.heap.size Lb) (fun ys=>ys.map (·.1.2.2)=chunks zs) (fun _=>True) (chunks zs).length w1:=fun l J Jx W hW hJ _ hY h0 =>
 k1z F n h7 hro hn l Bs Bn Lb A len cap zs w1 h hA hBs hBs2 hBn hBn2 hlen J Jx hY W hJ ((hW.cell (p:=⟨Bs,0,none⟩) hBs).trans hc1) ((hW.cell (p:=⟨Bn,0,none⟩) hBn).trans hc2) h0
end Go.Proofs.YtglejnkoojpelaaGreat.Pool
