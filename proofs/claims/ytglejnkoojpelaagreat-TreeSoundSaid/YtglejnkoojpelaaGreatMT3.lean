import Derived.Test.YtglejnkoojpelaaGreatMT2
import Derived.Test.YtglejnkoojpelaaGreatMT1
import Derived.RegionTactic
import Derived.ChangeAlike
import Derived.Test.YtglejnkoojpelaaGreatMP7
import Derived.BigQuiet
set_option maxRecDepth 100000
set_option maxHeartbeats 32000000
namespace Go.Proofs.YtglejnkoojpelaaGreat.Tree
open Go.RowKit Gen
open Disk (St Dev Mod ptr)
open Page (Pg Lay PgOk g0c pgC pgV Enc g0v BytesAt strV strB PRow less)
open Pool (Po NAt PoAt La poC poV numV At g0k g1g g1k g2m g0g OwnI chunks layAll May)
open Store
open Lib (hid)
def g6a (p:Pg):Int:=if p.kind=2 then p.kids.headD 0 else 0
theorem j0w (l:List Int) (h:0<l.length):l.headD 0=l[0]:=by
 cases l with
 | nil=>simp at h
 | cons=>rfl
theorem k1x {w0 w:World} {B:Blk} {tb:Nat} {d:St} {t:T} {r dp c:Int} (h:TrOn w0 w B tb d t r dp c) (n:Int) (hn:I64 n) (D:Int) (hD:0<=D/\D<=1000) (p:Pg) (y:Lay) (hr:g0c w p y) (hap:Apart (tall tb B) p y) (hk:p.kind=2->p.kids≠[]) :
 Calls Tryz.prog 231 #[ptr tb,.int .i64 n,.int .i64 D,pgV p y] w (fun e w'=>e=.returned (numV (g1n t n).2)/\Mod (tall tb B) w w'/\((g1n t n).2≠0->TrOn w0 w' B tb d (g1n t n).1 r dp c)/\((g1n t n).2=0->TrOn w0 w' B tb d (g1n t n).1 (g6a p) (D-1) c)):=by
 have b1:=Pool.g0a w (.cells (pgC p y) 103);have A1:=hid (at_new w (pgC p y) 103);have NB:=hid (g3r h (Nat.le_refl _));have H1:=hid (h.quiet b1);have R1:=hid (hr.below b1);have B1:=hid b1;have AP:=hid hap;obtain ⟨W1,hW1⟩:∃ W1,w.alloc (.cells (pgC p y) 103)=W1:=⟨_,rfl⟩;rw [hW1] at A1 H1 B1 R1;obtain ⟨a,s⟩:=H1.out.sto.has;have cD:=h3r s n hn;have k0:W1.cell? ⟨tb,0,none⟩=some (ptr B.ss):=H1.out.box.2.2 0 _ rfl
 have hw1:IntKind.i64.wrap (D-1)=D-1:=IntWalk.i64_in _ (by omega);have HK:=hid hk;clear b1 h s hn hr hap hk hD;rcases hd:g1n t n with ⟨t2,x⟩;rw [hd] at cD;simp only at cD ⊢;clear hd;generalize hC:pgC p y=C at *;go_enter Tryz.func231,Tryz.ntmps231
 go_wp2_with (first | ((with_reducible refine Disk.g0w rfl 103 (.tmp 3) rfl C ?_ ?_);(next=>rfl)))
 refine cD.mono ?_;rintro e w2 ⟨rfl,hs2,m2⟩;subst hC;have H2:=hid (H1.out.store hs2 m2);have M2:=hid (show Mod (tall tb B) w w2 from (Mod.of_below (tall tb B) B1.out).trans (m2.mono (fun x hx=>List.mem_cons_of_mem _ hx)));have A2:=hid (g0l A1.out m2 (fun e=>NB.out (List.mem_cons_of_mem _ e)));have R2:=hid (g4f R1.out m2 ⟨fun e=>(AP.out.o1 e).mono (fun x hx=>List.mem_cons_of_mem _ hx),fun e=>(AP.out.o2 e).mono (fun x hx=>List.mem_cons_of_mem _ hx),fun e=>(AP.out.o3 e).mono (fun x hx=>List.mem_cons_of_mem _ hx),fun e=>(AP.out.o4 e).mono (fun x hx=>List.mem_cons_of_mem _ hx)⟩)
 clear hs2 m2 cD k0
 by_cases hx:x=0
 ·subst hx;have c0:=A2.out.2.2 0 _ rfl;have c3:=A2.out.2.2 4 _ rfl;have t1:w2.cell? ⟨tb,1,none⟩=some (.int .i64 r):=H2.out.box.2.2 1 _ rfl;have t2':w2.cell? ⟨tb,2,none⟩=some (.int .i64 dp):=H2.out.box.2.2 2 _ rfl;have tf:∀ j,w2.frozen? ⟨tb,j,none⟩=false:=H2.out.box.2.1;have W3e:∃ W3,(w2.setCell ⟨tb,1,none⟩ (.int .i64 0)).setCell ⟨tb,2,none⟩ (.int .i64 (D-1))=W3:=⟨_,rfl⟩;obtain ⟨W3,hW3⟩:=W3e;have m3:Mod [tb] w2 W3:=by rw [<- hW3];exact (g0z _ _ _ _).trans (g0z _ _ _ _)
  have D3:At W3 tb (trC B.ss 0 (D-1) c):=by rw [<- hW3];exact at_set (at_set H2.out.box 1 (.int .i64 0)) 2 (.int .i64 (D-1))
  have H3:=hid (H2.out.cells D3 m3);have A3:=hid (g0l A2.out m3 (fun e=>by rw [List.mem_singleton] at e;exact NB.out (by rw [e];exact List.mem_cons_self ..)));have R3:=hid (g4f R2.out m3 ⟨fun e=>(AP.out.o1 e).mono (fun x hx=>by rw [List.mem_singleton] at hx;rw [hx];exact List.mem_cons_self ..),fun e=>(AP.out.o2 e).mono (fun x hx=>by rw [List.mem_singleton] at hx;rw [hx];exact List.mem_cons_self ..),fun e=>(AP.out.o3 e).mono (fun x hx=>by rw [List.mem_singleton] at hx;rw [hx];exact List.mem_cons_self ..),fun e=>(AP.out.o4 e).mono (fun x hx=>by rw [List.mem_singleton] at hx;rw [hx];exact List.mem_cons_self ..)⟩)
  have M3:=hid (M2.out.trans (m3.mono (fun x hx=>by rw [List.mem_singleton] at hx;rw [hx];exact List.mem_cons_self ..)));have q0:W3.cell? ⟨w.heap.size,0,none⟩=some (.int .i64 p.kind):=A3.out.2.2 0 _ rfl;have q3:W3.cell? ⟨w.heap.size,3,none⟩=some (.slice y.A3 p.kids.length y.c3):=A3.out.2.2 3 _ rfl;have u1:W3.cell? ⟨tb,1,none⟩=some (.int .i64 0):=H3.out.box.2.2 1 _ rfl;have uf:W3.frozen? ⟨tb,1,none⟩=false:=H3.out.box.2.1 1
  clear c0 c3 m3 D3
  by_cases hk:p.kind=2
  ·have d2:(p.kind==2)=true:=by simp [hk]
   obtain ⟨b,off,ea,hb,hc⟩:=R3.out.r3 (HK.out hk);have hc0:=hc 0 (List.length_pos_iff.2 (HK.out hk));have HL:=hid (show g6a p=p.kids[0]'(List.length_pos_iff.2 (HK.out hk)) from by
    unfold g6a;rw [if_pos hk];exact j0w _ _)
   obtain ⟨z,hz⟩:∃ z,p.kids[0]'(List.length_pos_iff.2 (HK.out hk))=z:=⟨_,rfl⟩;have HZ:=hid (show g6a p=z from HL.out.trans hz);rw [hz] at hc0;have q5:W3.cell? ⟨b,off,none⟩=some (.int .i64 z):=hc0;rw [ea] at q3;have hkl:¬ (p.kids.length<=0):=by have:=List.length_pos_iff.2 (HK.out hk);omega
   obtain ⟨kl,hkl'⟩:∃ kl,p.kids.length=kl:=⟨_,rfl⟩;rw [hkl'] at q3 hkl;have hkp:(0:Int)<(kl:Int):=by omega
   have D4:At (W3.setCell ⟨tb,1,none⟩ (.int .i64 z)) tb (trC B.ss z (D-1) c):=at_set H3.out.box 1 (.int .i64 z);have H4:=hid (H3.out.cells D4 (g0z _ _ _ _));have M4:=hid (show Mod (tall tb B) w (W3.setCell ⟨tb,1,none⟩ (.int .i64 z)) from M3.out.trans ((g0z W3 tb 1 (.int .i64 z)).mono (fun x hx=>by rw [List.mem_singleton] at hx;rw [hx];exact List.mem_cons_self ..)));clear HL hc hc0 ea hb hz hk hkl' D4
   go_wp2_with fail
   go_ret
   exact ⟨rfl,M4.out,by rw [HZ.out];exact H4.out⟩
  ·have d2:(p.kind==2)=false:=by simp [hk]
   have HL:=hid (show g6a p=0 from by unfold g6a;rw [if_neg hk]);clear hk;go_wp2_with fail
   go_ret
   exact ⟨rfl,M3.out,by rw [HL.out];exact H3.out⟩
 ·have d1:(x != 0)=true:=by simp [hx]
  have HX:=hid hx;clear hx;go_wp2_with fail
  go_ret
  exact ⟨rfl,M2.out,fun _=>H2.out,fun h=>absurd h HX.out⟩
open Page (Pg Lay PgOk g0c pgC pgV Enc g0v BytesAt strV strB PRow less g1l Lt)
abbrev keysOf (l:List (Disk.Bs×Disk.Bs)):List Disk.Bs:=l.map (·.1)
def valOf (l:List (Disk.Bs×Disk.Bs)) (key:Disk.Bs):Disk.Bs:=if g2j (keysOf l) key=true then (l[g0s (keysOf l) key]?.map (·.2)).getD [] else []
def j2x (P:List Stp->Stp->Prop) (Q:Int->Prop) (w:World) (e:Ending) (w':World):Prop:=Below w.heap.size w w' /\
 ((∃ l s v,P l s/\l.length<=50/\e=.returned (.tuple #[v,numV 0])/\Way w w' v (l++[s]))\/(∃ x,Q x/\x≠0/\e=.returned (.tuple #[.slice none 0 0,numV x])))
theorem h9p {w0 w:World} {v:Value} {l:List Stp} {s:Stp} (h:Way w0 w v (l++[s])):∃ g o c,v=.slice (some ⟨g,o,none⟩) (l.length+1) c/\l.length+1<=c/\g<w.heap.size/\∀ i u,(stC s).toList[i]?=some u->w.cell? ⟨g,o+l.length*13+i,none⟩=some u:=by
 obtain ⟨A,c,rfl,hc,-,hr,-⟩:=h.own.row;obtain ⟨g,o,rfl,hlt,hcl⟩:=hr (by simp);refine ⟨g,o,c,by rw [List.length_append];rfl,by rw [List.length_append] at hc;exact hc,hlt,fun i u hu=>?_⟩;have:=hcl l.length (by simp);rw [List.getElem_append_right (Nat.le_refl _)] at this;simp only [Nat.sub_self,List.getElem_singleton] at this;exact this i u hu
def g1d (l:List (Disk.Bs×Disk.Bs)) (key:Disk.Bs):Nat:=if g2j (keysOf l) key=true then g0s (keysOf l) key+1 else g0s (keysOf l) key
theorem h4e (l:List (Disk.Bs×Disk.Bs)) (key:Disk.Bs):g0s (keysOf l) key<=g1d l key/\g1d l key<=l.length:=by
 have h1:=h0l (keysOf l) key;have h2:(keysOf l).length=l.length:=List.length_map ..;unfold g1d
 split
 ·rename_i h
  obtain ⟨h3,-⟩:=(g5a _ _).1 h;omega
 ·omega
theorem h4p {w:World} {p:Pg} {y:Lay} {n:Nat} (hr:g0c w p y) (_hok:PgOk p) (hn:Page.New p y n) (hs:g1l Lt (keysOf p.pairs)) (hl:p.pairs.length<=1000) (key:Disk.Bs) :
 Calls Tryz.prog 95 #[.slice y.A1 p.pairs.length y.c1,strV key] w (fun e w'=>e=.returned (.tuple #[.slice y.A1 (g0s (keysOf p.pairs) key) y.c1,.slice (sub 2 y.A1 y.c1 (g0s (keysOf p.pairs) key)) (g1d p.pairs key-g0s (keysOf p.pairs) key) (y.c1-g0s (keysOf p.pairs) key),.slice (sub 2 y.A1 y.c1 (g1d p.pairs key)) (p.pairs.length-g1d p.pairs key) (y.c1-g1d p.pairs key)])/\Below w.heap.size w w'):=by
 have hlen:(keysOf p.pairs).length=p.pairs.length:=List.length_map ..;refine k0n key w rfl (by omega) hn.k1 hr.r1 _ (by have:=h0l (keysOf p.pairs) key;omega) (fun t ht=>?_) (g2j (keysOf p.pairs) key) ?_ _ rfl
 ·have:=g7y hs key t (by omega);rw [List.getElem_map] at this;exact this
 ·rw [g5a]
  constructor
  ·rintro ⟨h,e⟩;rw [List.getElem_map] at e;exact ⟨by omega,e⟩
  ·rintro ⟨h,e⟩;exact ⟨by omega,by rw [List.getElem_map];exact e⟩
def GetR (P:List Stp->Stp->Prop) (Q:Int->Prop) (w0:World) (B:Blk) (tb:Nat) (d:St) (t:T) (key:Disk.Bs) (w:World) (e:Ending) (w':World):Prop :=
 (∃ l s,P l s/\e=.returned (.tuple #[strV (valOf s.p.pairs key),.bool (g2j (keysOf s.p.pairs) key),numV 0])/\Below w.heap.size w w') \/
 (∃ x,Q x/\x≠0/\e=.returned (.tuple #[.string ⟨#[]⟩,.bool false,numV x])/\TrOn w0 w' B tb d (g3w t) t.sup.root t.sup.depth t.sup.count/\Mod (tall tb B) w w')
theorem j4o {w0 w:World} {B:Blk} {tb:Nat} {d:St} {t:T} {r dp c:Int} (h:TrOn w0 w B tb d t r dp c) (key:Disk.Bs) {P:List Stp->Stp->Prop} {Q:Int->Prop} (hP:∀ l s,P l s->g1l Lt (keysOf s.p.pairs)/\s.p.pairs.length<=1000)
 (hw:∀ W,Below w.heap.size w W->Calls Tryz.prog 97 #[ptr tb,strV key] W (j2x P Q W)) :
 Calls Tryz.prog 49 #[ptr tb,strV key] w (GetR P Q w0 B tb d t key w):=by
 have b1:=(Below.refl w.heap.size w).alloc (Nat.le_refl _) (.cells #[.int .i64 0] 36);have E1:=hid (at_new w #[.int .i64 0] 36);have cW:=hw _ b1;have B1:=hid b1;have H:=hid h;have HP:=hid hP;obtain ⟨W1,hW1⟩:∃ W1,w.alloc (.cells #[.int .i64 0] 36)=W1:=⟨_,rfl⟩;rw [hW1] at E1 cW B1;obtain ⟨eb,heb⟩:∃ eb,w.heap.size=eb:=⟨_,rfl⟩;have HEB:=hid heb;rw [heb] at E1;clear b1 h hP hw;obtain ⟨kv,hkv⟩:∃ kv,strV key=kv:=⟨_,rfl⟩
 rw [hkv] at cW;rw [hkv];have KV:=hid hkv;clear hkv;go_enter_defers Tryz.func49,Tryz.ntmps49
 go_wp2_with fail
 refine cW.mono ?_;rintro e w2 ⟨b2,⟨l,s,v,hp,hl,rfl,WY⟩ | ⟨x,hq,hx,rfl⟩⟩
 rotate_left
 ·have E2:=hid (E1.out.below b2 E1.out.1);have e0:=E2.out.2.2 0 _ rfl;have f0:=E2.out.2.1 0;have d1:(x != 0)=true:=by simp [hx]
  have A3:=hid (at_set E2.out 0 (.int .i64 x));have B3:=hid ((B1.out.trans (b2.mono B1.out.size)).setCell (p:=⟨eb,0,none⟩) (by rw [HEB.out];exact Nat.le_refl _) (.int .i64 x));have HX:=hid hx;have HQ:=hid hq;obtain ⟨W3,hW3⟩:∃ W3,w2.setCell ⟨eb,0,none⟩ (.int .i64 x)=W3:=⟨_,rfl⟩;rw [hW3] at A3 B3;have k0:W3.cell? ⟨eb,0,none⟩=some (.int .i64 x):=A3.out.2.2 0 _ rfl;have kf:W3.frozen? ⟨eb,0,none⟩=false:=A3.out.2.1 0
  have SK:=hid (show (W3.setCell ⟨eb,0,none⟩ (.int .i64 x)).drew.cell? ⟨eb,0,none⟩=some (.int .i64 x)/\(W3.setCell ⟨eb,0,none⟩ (.int .i64 x)).drew.frozen? ⟨eb,0,none⟩=false from
   ⟨((at_set A3.out 0 (.int .i64 x)).below (Below.refl _ _).drew (at_set A3.out 0 (.int .i64 x)).1).2.2 0 _ rfl,((at_set A3.out 0 (.int .i64 x)).below (Below.refl _ _).drew (at_set A3.out 0 (.int .i64 x)).1).2.1 0⟩)
  clear b2 cW hx hq;go_wp2_with fail
  go_region_held3 (fun w'=>w'.cell? ⟨eb,0,none⟩=some (.int .i64 x)/\w'.frozen? ⟨eb,0,none⟩=false) (first | (with_reducible exact SK.out) | go_keep) (fail)
  all_goals
   go_wp2_with fail
   have A4:=hid (at_set A3.out 0 (.int .i64 x));have B4:=hid ((B3.out.setCell (p:=⟨eb,0,none⟩) (by rw [HEB.out];exact Nat.le_refl _) (.int .i64 x)).drew);have e4:(W3.setCell ⟨eb,0,none⟩ (.int .i64 x)).drew.cell? ⟨eb,0,none⟩=some (.int .i64 x):=(A4.out.below (Below.refl _ _).drew A4.out.1).2.2 0 _ rfl;refine leaves_cons (f:=60) (args:=#[ptr tb,ptr eb]) (by simp) (by simp [go_sem]) ?_;refine (g9q (H.out.quiet B4.out) eb x e4 _).mono ?_
   rintro e u' w5 ⟨rfl,rfl,hend⟩;have e5:w5.cell? ⟨eb,0,none⟩=some (.int .i64 x):=(g0l (A4.out.below (Below.refl _ _).drew A4.out.1) hend.mod (by rw [<- HEB.out];exact g3r H.out (Nat.le_refl _))).2.2 0 _ rfl;rcases hend with ⟨hx,-⟩ | ⟨-,hT,hM⟩
   ·exact absurd hx HX.out
   have FIN:=hid (show TrOn w0 w5 B tb d (g3w t) t.sup.root t.sup.depth t.sup.count/\Mod (tall tb B) w w5 from ⟨hT,(Mod.of_below _ B4.out).trans hM⟩);clear hT hM;simp [Leaves,settle,results,Tryz.results49,go_sem,e5];exact .inr ⟨x,HQ.out,HX.out,rfl,FIN.out⟩
 ·obtain ⟨g,o,cc,rfl,hcc,hg,hcl⟩:=h9p WY;have hps:=HP.out l s hp;have hnl:((l.length+1:Nat):Int)-1=(l.length:Int):=by omega
  have hmem:s∈l++[s]:=by simp
  have HR:=hid (WY.rows s hmem);have HO:=hid (WY.ok s hmem);have HN:=hid (WY.new s hmem);have hgn:g≠eb:=by
   rintro rfl;have:=World.ownsRow.lt WY.own g rfl;have:=E1.out.1;omega
  have E2:=hid (E1.out.below b2 E1.out.1);have f0:=E2.out.2.1 0;have e0:=E2.out.2.2 0 _ rfl;have A3:=hid (at_set E2.out 0 (.int .i64 0));have B3:=hid ((B1.out.trans (b2.mono B1.out.size)).setCell (p:=⟨eb,0,none⟩) (by rw [HEB.out];exact Nat.le_refl _) (.int .i64 0));have M3:=g4b w2 eb 0 (.int .i64 0);have R3:=g4f HR.out M3 (g4u HN.out (by exact E1.out.1));have x3:(w2.setCell ⟨eb,0,none⟩ (.int .i64 0)).cell? ⟨g,o+l.length*13+2,none⟩=some (.slice s.y.A1 s.p.pairs.length s.y.c1):=(World.cell?_setCell_other _ _ _ _ (by intro h;injection h with h;exact hgn h.symm)).trans (hcl 2 _ rfl)
  obtain ⟨W3,hW3⟩:∃ W3,w2.setCell ⟨eb,0,none⟩ (.int .i64 0)=W3:=⟨_,rfl⟩;rw [hW3] at A3 B3 R3 x3;have k0:W3.cell? ⟨eb,0,none⟩=some (.int .i64 0):=A3.out.2.2 0 _ rfl;have kf:W3.frozen? ⟨eb,0,none⟩=false:=A3.out.2.1 0;have cP:=h4p R3 HO.out HN.out hps.1 hps.2 key;rw [KV.out] at cP;have R3H:=hid R3;obtain ⟨k,hk⟩:∃ k,l.length=k:=⟨_,rfl⟩;rw [hk] at x3 hnl hl;have hw1:IntKind.i64.wrap (((k+1:Nat):Int)-1)=(k:Int):=by rw [IntWalk.i64_in _ (by omega)];omega
  obtain ⟨N,hN⟩:∃ N,k+1=N:=⟨_,rfl⟩;have hkN:(k:Int)<(N:Int):=by omega
  rw [hN] at hw1;rw [hk,hN];clear hN hk hnl hcl hcc hg hl WY hmem hps M3 R3 b2 cW;go_wp2_with fail
  refine cP.mono ?_;rintro e w4 ⟨rfl,b4⟩;have A4:=hid (A3.out.below b4 A3.out.1);have e4:w4.cell? ⟨eb,0,none⟩=some (.int .i64 0):=A4.out.2.2 0 _ rfl;have f4:w4.frozen? ⟨eb,0,none⟩=false:=A4.out.2.1 0;have B4:=hid (B3.out.trans (b4.mono B3.out.size));have A5:=hid (at_set A4.out 0 (.int .i64 0));have B5:=hid (B4.out.setCell (p:=⟨eb,0,none⟩) (by rw [HEB.out];exact Nat.le_refl _) (.int .i64 0));have e5:(w4.setCell ⟨eb,0,none⟩ (.int .i64 0)).cell? ⟨eb,0,none⟩=some (.int .i64 0):=A5.out.2.2 0 _ rfl
  have R4:=R3H.out.r1.below b4;clear b4 cP;rcases hh:g2j (keysOf s.p.pairs) key with _ | _
  ·have hdf:g1d s.p.pairs key-g0s (keysOf s.p.pairs) key=0:=by unfold g1d;rw [hh];simp
   have HV:=hid (show valOf s.p.pairs key=[] from by unfold valOf;rw [hh];rfl);have HH:=hid hh;rw [hdf];clear hdf hh R4;go_wp2_with fail
   refine leaves_cons (f:=60) (args:=#[ptr tb,ptr eb]) (by simp) (by simp [go_sem]) ?_;refine (h8f tb eb _ _ e5).mono ?_;rintro e u' w5 ⟨rfl,rfl,rfl⟩;simp [Leaves,settle,results,Tryz.results49,go_sem,e5];exact .inl ⟨l,s,hp,by rw [HV.out,HH.out];rfl,B5.out⟩
  ·obtain ⟨hlt,-⟩:=(g5a _ _).1 hh;have hdf:g1d s.p.pairs key-g0s (keysOf s.p.pairs) key=1:=by unfold g1d;rw [hh];simp
   have hlen:(keysOf s.p.pairs).length=s.p.pairs.length:=List.length_map ..;have HV:=hid (show ∃ h:g0s (keysOf s.p.pairs) key<s.p.pairs.length,valOf s.p.pairs key=s.p.pairs[g0s (keysOf s.p.pairs) key].2 from ⟨by omega,by unfold valOf;rw [if_pos hh,List.getElem?_eq_getElem (by omega)];rfl⟩);have HH:=hid hh;obtain ⟨b,off,ea,hb,hc⟩:=R4 (by intro e;rw [e] at hlt;simp at hlt);have hc1:=(hc (g0s (keysOf s.p.pairs) key) (by omega)).2
   have hsub:sub 2 s.y.A1 s.y.c1 (g0s (keysOf s.p.pairs) key)=some ⟨b,off+g0s (keysOf s.p.pairs) key*2,none⟩:=by
    unfold sub;rw [if_neg (by have:=HN.out.k1;omega),ea];simp [Addr.add]
   rw [hdf,hsub];obtain ⟨vv,hvv⟩:∃ vv,strV (s.p.pairs[g0s (keysOf s.p.pairs) key]'(by omega)).2=vv:=⟨_,rfl⟩;have HVV:=hid (show strV (valOf s.p.pairs key)=vv from by obtain ⟨_,h⟩:=HV.out;rw [h];exact hvv);rw [hvv] at hc1;clear hdf hh R4 hsub ea hb hc hvv hlt hlen HV;generalize g0s (keysOf s.p.pairs) key=pos at *;go_wp2_with fail
   refine leaves_cons (f:=60) (args:=#[ptr tb,ptr eb]) (by simp) (by simp [go_sem]) ?_;refine (h8f tb eb _ _ e5).mono ?_;rintro e u' w5 ⟨rfl,rfl,rfl⟩;simp [Leaves,settle,results,Tryz.results49,go_sem,e5];exact .inl ⟨l,s,hp,by rw [HVV.out,HH.out],B5.out⟩
open Page (Pg Lay PgOk g0c pgC pgV Enc g0v BytesAt strV strB PRow less g1l Lt OwnP)
def setP (l:List (Disk.Bs×Disk.Bs)) (key val:Disk.Bs):List (Disk.Bs×Disk.Bs):=l.take (g0s (keysOf l) key)++(key,val) :: l.drop (g1d l key)
def cutP (l:List (Disk.Bs×Disk.Bs)) (key:Disk.Bs):List (Disk.Bs×Disk.Bs):=l.take (g0s (keysOf l) key)++l.drop (g1d l key)
theorem h1p {w:World} {B B':Nat} {v:Value} {l:List (Disk.Bs×Disk.Bs)} (h:OwnP w B v l) (hb:B'<=B):OwnP w B' v l:=by
 obtain ⟨hl,h | ⟨g,cap,cur,e,hg,r⟩⟩:=h
 ·exact ⟨hl,.inl h⟩
 ·exact ⟨hl,.inr ⟨g,cap,cur,e,Nat.le_trans hb hg,r⟩⟩
theorem g9i {s:Nat} {A:Option Addr} {c k:Nat} (h:A=none->c=0) (e:sub s A c k=none):c-k=0:=by
 unfold sub at e
 split at e
 ·omega
 ·rcases A with _ | a
  ·rw [h rfl];omega
  ·cases e
theorem j1i {w:World} {p:Pg} {y:Lay} {n:Nat} (hr:g0c w p y) (hn:Page.New p y n) (key:Disk.Bs):PPok w ⟨y.A1,g0s (keysOf p.pairs) key,y.c1,p.pairs.take (g0s (keysOf p.pairs) key)⟩ :=
 ⟨by have:=h0l (keysOf p.pairs) key;have h2:(keysOf p.pairs).length=p.pairs.length:=List.length_map ..;simp only [List.length_take];omega,hn.z1,g8j hr.r1 _⟩
theorem j0x {w:World} {p:Pg} {y:Lay} {n:Nat} (hr:g0c w p y) (hn:Page.New p y n) (key:Disk.Bs):PPok w ⟨sub 2 y.A1 y.c1 (g1d p.pairs key),p.pairs.length-g1d p.pairs key,y.c1-g1d p.pairs key,p.pairs.drop (g1d p.pairs key)⟩ :=
 ⟨by simp only [List.length_drop],g9i hn.z1,h1l hr.r1 hn.k1 _⟩
theorem k6j {w:World} {b:Nat} {k v:Disk.Bs} (h0:w.cell? ⟨b,0,none⟩=some (strV k)) (h1:w.cell? ⟨b,1,none⟩=some (strV v)):PPok w ⟨some ⟨b,0,none⟩,1,1,[(k,v)]⟩ :=
 ⟨rfl,fun e=>(by cases e),fun _=>⟨b,0,rfl,World.block_lt_of_cell? w _ h0,fun j hj=>by
  obtain rfl:j=0:=by simp at hj;exact hj
  exact ⟨h0,h1⟩⟩⟩
theorem k9c {w:World} {p:Pg} {y:Lay} {n:Nat} (hr:g0c w p y) (hok:PgOk p) (hn:Page.New p y n) (hs:g1l Lt (keysOf p.pairs)) (hl:p.pairs.length<=1000) {kb vb:Nat} {key val:Disk.Bs} (hk:w.cell? ⟨kb,0,none⟩=some (strV key)) (hv:w.cell? ⟨vb,0,none⟩=some (strV val)) :
 Calls Tryz.prog 94 #[.slice y.A1 p.pairs.length y.c1,ptr kb,ptr vb] w (fun e w'=>∃ v,e=.returned v/\OwnP w' w.heap.size v (setP p.pairs key val)/\Below w.heap.size w w'):=by
 have cP:=h4p hr hok hn hs hl key;obtain ⟨h1,h2⟩:=h4e p.pairs key;have ltk:=World.block_lt_of_cell? w _ hk;have ltv:=World.block_lt_of_cell? w _ hv;have PA:=hid (fun W (b:Below w.heap.size w W)=>j1i (hr.below b) hn key);have PC:=hid (fun W (b:Below w.heap.size w W)=>j0x (hr.below b) hn key);have HS:=hid (show setP p.pairs key val=p.pairs.take (g0s (keysOf p.pairs) key)++(key,val) :: p.pairs.drop (g1d p.pairs key) from rfl)
 have KEEP:=hid (fun W (b:Below w.heap.size w W)=>show W.cell? ⟨kb,0,none⟩=some (strV key)/\W.cell? ⟨vb,0,none⟩=some (strV val) from ⟨(b.cell (p:=⟨kb,0,none⟩) ltk).trans hk,(b.cell (p:=⟨vb,0,none⟩) ltv).trans hv⟩);generalize g0s (keysOf p.pairs) key=pos at *;generalize g1d p.pairs key=nx at *;generalize setP p.pairs key val=res at *;generalize p.pairs.length=m at *;generalize p.pairs=prs at *
 clear hr hok hn hs ltk ltv;have PO:=hid (fun (W:World) (b:Nat) (h0:W.cell? ⟨b,0,none⟩=some (strV key)) (h1:W.cell? ⟨b,1,none⟩=some (strV val))=>k6j h0 h1);obtain ⟨ks,hks⟩:∃ ks,strB key=ks:=⟨_,rfl⟩;obtain ⟨vs,hvs⟩:∃ vs,strB val=vs:=⟨_,rfl⟩;rw [show strV key=.string ks from by rw [<- hks]] at cP hk KEEP PO;rw [show strV val=.string vs from by rw [<- hvs]] at hv KEEP PO;clear hks hvs;go_enter Tryz.func94,Tryz.ntmps94
 go_wp2_with fail
 refine cP.mono ?_;rintro e w1 ⟨rfl,b1⟩;have k1:=(KEEP.out w1 b1).1;have v1:=(KEEP.out w1 b1).2;have a1:=at_new w1 #[.string ks,.string vs] 49;have b2:=Pool.g0a w1 (.cells #[.string ks,.string vs] 49);obtain ⟨W2,hW2⟩:∃ W2,w1.alloc (.cells #[.string ks,.string vs] 49)=W2:=⟨_,rfl⟩;rw [hW2] at a1 b2;have a2:=at_new W2 #[.slice y.A1 pos y.c1,.slice (some ⟨w1.heap.size,0,none⟩) 1 1,.slice (sub 2 y.A1 y.c1 nx) (m-nx) (y.c1-nx)] 27
 have b3:=Pool.g0a W2 (.cells #[.slice y.A1 pos y.c1,.slice (some ⟨w1.heap.size,0,none⟩) 1 1,.slice (sub 2 y.A1 y.c1 nx) (m-nx) (y.c1-nx)] 27);obtain ⟨W3,hW3⟩:∃ W3,W2.alloc (.cells #[.slice y.A1 pos y.c1,.slice (some ⟨w1.heap.size,0,none⟩) 1 1,.slice (sub 2 y.A1 y.c1 nx) (m-nx) (y.c1-nx)] 27)=W3:=⟨_,rfl⟩;rw [hW3] at a2 b3;have B3:=b1.trans ((b2.trans (b3.mono b2.size)).mono b1.size);have a1':=a1.below b3 a1.1
 have pa:=PA.out W3 B3;have pc:=PC.out W3 B3;have po:=PO.out W3 w1.heap.size (a1'.2.2 0 _ rfl) (a1'.2.2 1 _ rfl);have cC:=concat_any (A:=some ⟨W2.heap.size,0,none⟩) (N:=3) (C:=3) [⟨y.A1,pos,y.c1,prs.take pos⟩,⟨some ⟨w1.heap.size,0,none⟩,1,1,[(key,val)]⟩,⟨sub 2 y.A1 y.c1 nx,m-nx,y.c1-nx,prs.drop nx⟩] W3 rfl (by omega)
  (fun _=>⟨W2.heap.size,0,rfl,a2.1,fun k hk=>by
    match k,hk with
    | 0,_=>exact a2.2.2 0 _ rfl
    | 1,_=>exact a2.2.2 1 _ rfl
    | 2,_=>exact a2.2.2 2 _ rfl
    | k+3,hk=>simp at hk;omega⟩)
  (fun q hq=>by
    simp only [List.mem_cons,List.not_mem_nil,or_false] at hq;rcases hq with rfl | rfl | rfl
    ·exact pa
    ·exact po
    ·exact pc)
  (by simp [sizes];omega)
 have B3H:=hid B3;clear pa pc po a1 a1' a2 b1 b2 b3 B3 PA PC PO KEEP cP hk hv;go_wp2_with fail
 refine cC.mono ?_;rintro e w4 ⟨v,rfl,ho,b4⟩;have ho':OwnP w4 w.heap.size v res:=by
  rw [HS.out];have:=h1p ho B3H.out.size
  simpa using this
 have B4:=hid (B3H.out.trans (b4.mono B3H.out.size));have HO:=hid ho';clear ho ho' b4 cC;go_wp2_with fail
 go_ret
 exact ⟨_,rfl,HO.out,B4.out⟩
theorem k6q {w:World} {p:Pg} {y:Lay} {n:Nat} (hr:g0c w p y) (hok:PgOk p) (hn:Page.New p y n) (hs:g1l Lt (keysOf p.pairs)) (hl:p.pairs.length<=1000) {kb bb:Nat} {key:Disk.Bs} {b0:Bool} (hk:w.cell? ⟨kb,0,none⟩=some (strV key)) (hb:At w bb #[.bool b0]) (hbn:bb<n) :
 Calls Tryz.prog 98 #[.slice y.A1 p.pairs.length y.c1,ptr kb,ptr bb] w (fun e w'=>∃ v,e=.returned v/\OwnP w' w.heap.size v (cutP p.pairs key)/\At w' bb #[.bool (g2j (keysOf p.pairs) key)]/\Mod [bb] w w'):=by
 have cP:=h4p hr hok hn hs hl key;obtain ⟨h1,h2⟩:=h4e p.pairs key;have AP:=hid (g4u (g:=bb) hn hbn);have PA:=hid (fun W (m:Mod [bb] w W)=>j1i (g4f hr m AP.out) hn key);have PC:=hid (fun W (m:Mod [bb] w W)=>j0x (g4f hr m AP.out) hn key);have HS:=hid (show cutP p.pairs key=p.pairs.take (g0s (keysOf p.pairs) key)++p.pairs.drop (g1d p.pairs key) from rfl);have HH:(g2j (keysOf p.pairs) key=false/\g1d p.pairs key-g0s (keysOf p.pairs) key=0)\/(g2j (keysOf p.pairs) key=true/\g1d p.pairs key-g0s (keysOf p.pairs) key=1):=by
  unfold g1d;rcases g2j (keysOf p.pairs) key with _ | _
  ·simp
  ·simp
 obtain ⟨df,hdf⟩:∃ df,g1d p.pairs key-g0s (keysOf p.pairs) key=df:=⟨_,rfl⟩;rw [hdf] at cP HH;generalize g2j (keysOf p.pairs) key=has at *;generalize g0s (keysOf p.pairs) key=pos at *;generalize g1d p.pairs key=nx at *;generalize cutP p.pairs key=res at *;generalize p.pairs.length=m at *;generalize p.pairs=prs at *;clear hr hok hn hs AP hdf;have HB:=hid hb;obtain ⟨kv,hkv⟩:∃ kv,strV key=kv:=⟨_,rfl⟩
 rw [hkv] at cP hk;clear hkv hb;rcases HH with ⟨rfl,rfl⟩ | ⟨rfl,rfl⟩
 ·go_enter Tryz.func98,Tryz.ntmps98
  go_wp2_with fail
  refine cP.mono ?_;rintro e w1 ⟨rfl,b1⟩;have HB1:=HB.out.below b1 HB.out.1;have k0:=HB1.2.2 0 _ rfl;have f0:=HB1.2.1 0;have HB2:=at_set HB1 0 (.bool false);have M2:=(Mod.of_below [bb] b1).trans (g0z w1 bb 0 (.bool false));obtain ⟨W2,hW2⟩:∃ W2,w1.setCell ⟨bb,0,none⟩ (.bool false)=W2:=⟨_,rfl⟩;rw [hW2] at HB2 M2;have a2:=at_new W2 #[.slice y.A1 pos y.c1,.slice (sub 2 y.A1 y.c1 nx) (m-nx) (y.c1-nx)] 27
  have b3:=Pool.g0a W2 (.cells #[.slice y.A1 pos y.c1,.slice (sub 2 y.A1 y.c1 nx) (m-nx) (y.c1-nx)] 27);obtain ⟨W3,hW3⟩:∃ W3,W2.alloc (.cells #[.slice y.A1 pos y.c1,.slice (sub 2 y.A1 y.c1 nx) (m-nx) (y.c1-nx)] 27)=W3:=⟨_,rfl⟩;rw [hW3] at a2 b3;have M3:=M2.trans (Mod.of_below [bb] b3);have HB3:=hid (HB2.below b3 HB2.1);have pa:=PA.out W3 M3;have pc:=PC.out W3 M3;have cC:=concat_any (A:=some ⟨W2.heap.size,0,none⟩) (N:=2) (C:=2) [⟨y.A1,pos,y.c1,prs.take pos⟩,⟨sub 2 y.A1 y.c1 nx,m-nx,y.c1-nx,prs.drop nx⟩] W3 rfl (by omega)
   (fun _=>⟨W2.heap.size,0,rfl,a2.1,fun k hk=>by
     match k,hk with
     | 0,_=>exact a2.2.2 0 _ rfl
     | 1,_=>exact a2.2.2 1 _ rfl
     | k+2,hk=>simp at hk;omega⟩)
   (fun q hq=>by
     simp only [List.mem_cons,List.not_mem_nil,or_false] at hq;rcases hq with rfl | rfl
     ·exact pa
     ·exact pc)
   (by simp [sizes];omega)
  have M3H:=hid M3;clear pa pc a2 b1 b3 M2 M3 PA PC cP hk HB2 HB1 HB;go_wp2_with fail
  refine cC.mono ?_;rintro e w4 ⟨v,rfl,ho,b4⟩;have ho':OwnP w4 w.heap.size v res:=by
   rw [HS.out];have:=h1p ho M3H.out.size
   simpa using this
  have M4:=hid (M3H.out.trans (Mod.of_below [bb] b4));have HB4:=hid (HB3.out.below b4 HB3.out.1);have HO:=hid ho';clear ho ho' b4 cC;go_wp2_with fail
  go_ret
  exact ⟨_,rfl,HO.out,HB4.out,M4.out⟩
 ·go_enter Tryz.func98,Tryz.ntmps98
  go_wp2_with fail
  refine cP.mono ?_;rintro e w1 ⟨rfl,b1⟩;have HB1:=HB.out.below b1 HB.out.1;have k0:=HB1.2.2 0 _ rfl;have f0:=HB1.2.1 0;have HB2:=at_set HB1 0 (.bool true);have M2:=(Mod.of_below [bb] b1).trans (g0z w1 bb 0 (.bool true));obtain ⟨W2,hW2⟩:∃ W2,w1.setCell ⟨bb,0,none⟩ (.bool true)=W2:=⟨_,rfl⟩;rw [hW2] at HB2 M2;have a2:=at_new W2 #[.slice y.A1 pos y.c1,.slice (sub 2 y.A1 y.c1 nx) (m-nx) (y.c1-nx)] 27
  have b3:=Pool.g0a W2 (.cells #[.slice y.A1 pos y.c1,.slice (sub 2 y.A1 y.c1 nx) (m-nx) (y.c1-nx)] 27);obtain ⟨W3,hW3⟩:∃ W3,W2.alloc (.cells #[.slice y.A1 pos y.c1,.slice (sub 2 y.A1 y.c1 nx) (m-nx) (y.c1-nx)] 27)=W3:=⟨_,rfl⟩;rw [hW3] at a2 b3;have M3:=M2.trans (Mod.of_below [bb] b3);have HB3:=hid (HB2.below b3 HB2.1);have pa:=PA.out W3 M3;have pc:=PC.out W3 M3;have cC:=concat_any (A:=some ⟨W2.heap.size,0,none⟩) (N:=2) (C:=2) [⟨y.A1,pos,y.c1,prs.take pos⟩,⟨sub 2 y.A1 y.c1 nx,m-nx,y.c1-nx,prs.drop nx⟩] W3 rfl (by omega)
   (fun _=>⟨W2.heap.size,0,rfl,a2.1,fun k hk=>by
     match k,hk with
     | 0,_=>exact a2.2.2 0 _ rfl
     | 1,_=>exact a2.2.2 1 _ rfl
     | k+2,hk=>simp at hk;omega⟩)
   (fun q hq=>by
     simp only [List.mem_cons,List.not_mem_nil,or_false] at hq;rcases hq with rfl | rfl
     ·exact pa
     ·exact pc)
   (by simp [sizes];omega)
  have M3H:=hid M3;clear pa pc a2 b1 b3 M2 M3 PA PC cP hk HB2 HB1 HB;go_wp2_with fail
  refine cC.mono ?_;rintro e w4 ⟨v,rfl,ho,b4⟩;have ho':OwnP w4 w.heap.size v res:=by
   rw [HS.out];have:=h1p ho M3H.out.size
   simpa using this
  have M4:=hid (M3H.out.trans (Mod.of_below [bb] b4));have HB4:=hid (HB3.out.below b4 HB3.out.1);have HO:=hid ho';clear ho ho' b4 cC;go_wp2_with fail
  go_ret
  exact ⟨_,rfl,HO.out,HB4.out,M4.out⟩
def j3t (R:St->T->Int->Int->Int->Int->Prop) (w0:World) (B:Blk) (tb:Nat) (w:World) (e:Ending) (w':World):Prop :=
 ∃ d' t' r' dp' c' x,e=.returned (numV x)/\R d' t' r' dp' c' x/\TrOn w0 w' B tb d' t' r' dp' c'/\Mod (tall tb B) w w'
def p1w (R:St->T->Int->Int->Int->Int->Prop) (V:Int->Value) (w0:World) (B:Blk) (tb:Nat) (w:World) (e:Ending) (w':World):Prop :=
 ∃ d' t' r' dp' c' x,e=.returned (V x)/\R d' t' r' dp' c' x/\Mod (tall tb B) w w'/\(x=0->TrOn w0 w' B tb d' t' r' dp' c')/\(x≠0->TrOn w0 w' B tb d' (g3w t') t'.sup.root t'.sup.depth t'.sup.count)
theorem k3j {w:World} {tb:Nat} (key val:Disk.Bs) (hb:key.length<1\/48<key.length\/100<val.length) :
 Calls Tryz.prog 48 #[ptr tb,strV key,strV val] w (fun e w'=>e=.returned (.int .i64 80)/\Below w.heap.size w w'):=by
 obtain ⟨ks,hks⟩:∃ ks,strB key=ks:=⟨_,rfl⟩;obtain ⟨vs,hvs⟩:∃ vs,strB val=vs:=⟨_,rfl⟩;have k1:ks.size=key.length:=by rw [<- hks];exact Page.g3b key
 have v1:vs.size=val.length:=by rw [<- hvs];exact Page.g3b val
 rw [show strV key=.string ks from by rw [<- hks],show strV val=.string vs from by rw [<- hvs]];have b1:=Pool.g0a w (.cells #[.string ks] 9);have a1:=at_new w #[.string ks] 9;obtain ⟨W1,hW1⟩:∃ W1,w.alloc (.cells #[.string ks] 9)=W1:=⟨_,rfl⟩;rw [hW1] at b1 a1;have b2:=Pool.g0a W1 (.cells #[.string vs] 9);have a2:=at_new W1 #[.string vs] 9;obtain ⟨W2,hW2⟩:∃ W2,W1.alloc (.cells #[.string vs] 9)=W2:=⟨_,rfl⟩
 rw [hW2] at b2 a2;have b3:=Pool.g0a W2 (.cells #[.int .i64 0] 36);have a3:=at_new W2 #[.int .i64 0] 36;have a1':=(a1.below b2 a1.1).below b3 (a1.below b2 a1.1).1;have a2':=a2.below b3 a2.1;have B3:=b1.trans ((b2.trans (b3.mono b2.size)).mono b1.size);obtain ⟨W3,hW3⟩:∃ W3,W2.alloc (.cells #[.int .i64 0] 36)=W3:=⟨_,rfl⟩;rw [hW3] at a1' a2' B3 a3;have c1:W3.cell? ⟨w.heap.size,0,none⟩=some (.string ks):=a1'.2.2 0 _ rfl
 have c2:W3.cell? ⟨W1.heap.size,0,none⟩=some (.string vs):=a2'.2.2 0 _ rfl;have c3:W3.cell? ⟨W2.heap.size,0,none⟩=some (.int .i64 0):=a3.2.2 0 _ rfl;have f3:W3.frozen? ⟨W2.heap.size,0,none⟩=false:=a3.2.1 0;have A4:=hid (at_set a3 0 (.int .i64 80));have e4:(W3.setCell ⟨W2.heap.size,0,none⟩ (.int .i64 80)).cell? ⟨W2.heap.size,0,none⟩=some (.int .i64 80):=A4.out.2.2 0 _ rfl;have B4:=hid (B3.setCell (p:=⟨W2.heap.size,0,none⟩) (by have:=b1.size;have:=b2.size;show w.heap.size<=W2.heap.size;omega) (.int .i64 80))
 obtain ⟨kn,hkn⟩:∃ kn,ks.size=kn:=⟨_,rfl⟩;obtain ⟨vn,hvn⟩:∃ vn,vs.size=vn:=⟨_,rfl⟩;rw [<- k1,<- v1,hkn,hvn] at hb;clear a1 a1' a2 a2' a3 b1 b2 b3 B3 k1 v1 hks hvs;go_enter_defers Tryz.func48,Tryz.ntmps48
 go_wp2_with fail
 all_goals first
  | (simp [bodyPostD,Leaves,results,Tryz.results48,go_sem,e4];exact B4.out)
  | (exfalso;omega)
theorem p0d {w0 w:World} {B:Blk} {tb:Nat} {d:St} {t:T} {r dp c:Int} (h:TrOn w0 w B tb d t r dp c) (key val:Disk.Bs) (hk1:1<=key.length) (hk2:key.length<=48) (hv:val.length<=100) {R:St->T->Int->Int->Int->Int->Prop}
 (hc:∀ W kb vb eb,Below w.heap.size w W->TrOn w0 W (h1r B eb) tb d t r dp c->W.cell? ⟨kb,0,none⟩=some (strV key)->W.cell? ⟨vb,0,none⟩=some (strV val)->Calls Tryz.prog 93 #[ptr tb,strV key,.func (.func 94) #[] #[ptr kb,ptr vb]] W (j3t R w0 (h1r B eb) tb W)) :
 Calls Tryz.prog 48 #[ptr tb,strV key,strV val] w (p1w R numV w0 B tb w):=by
 have hmf:∀ (fn:Fn) (first cap:Array Value) (w:World),(Instr.makeFunc fn first cap).run Tryz.prog w=.ok (.func fn first cap) w:=fun _ _ _ _=>rfl
 obtain ⟨ks,hks⟩:∃ ks,strB key=ks:=⟨_,rfl⟩;obtain ⟨vs,hvs⟩:∃ vs,strB val=vs:=⟨_,rfl⟩;have k1:ks.size=key.length:=by rw [<- hks];exact Page.g3b key
 have v1:vs.size=val.length:=by rw [<- hvs];exact Page.g3b val
 have e1:strV key=.string ks:=by rw [<- hks]
 have e2:strV val=.string vs:=by rw [<- hvs]
 have b1:=Pool.g0a w (.cells #[.string ks] 9);have a1:=at_new w #[.string ks] 9;obtain ⟨W1,hW1⟩:∃ W1,w.alloc (.cells #[.string ks] 9)=W1:=⟨_,rfl⟩;rw [hW1] at b1 a1;have b2:=Pool.g0a W1 (.cells #[.string vs] 9);have a2:=at_new W1 #[.string vs] 9;obtain ⟨W2,hW2⟩:∃ W2,W1.alloc (.cells #[.string vs] 9)=W2:=⟨_,rfl⟩;rw [hW2] at b2 a2;have b3:=Pool.g0a W2 (.cells #[.int .i64 0] 36);have a3:=at_new W2 #[.int .i64 0] 36
 have a1':=(a1.below b2 a1.1).below b3 (a1.below b2 a1.1).1;have a2':=a2.below b3 a2.1;have B2:=b1.trans (b2.mono b1.size);have H2:=h.quiet B2;have H3:=hid (H2.withx (x:=W2.heap.size) b3 (Nat.le_refl _) (by simp));have NB:=hid (g3r H2 (Nat.le_refl _));have B3:=B2.trans (b3.mono B2.size);have N0:=hid (show w0.heap.size<=W2.heap.size from H2.sto.below.size);have NW:=hid (show w.heap.size<=W2.heap.size from B2.size)
 have MB:=hid h.mem;obtain ⟨W3,hW3⟩:∃ W3,W2.alloc (.cells #[.int .i64 0] 36)=W3:=⟨_,rfl⟩;rw [hW3] at a1' a2' B3 a3 H3;have c1:W3.cell? ⟨w.heap.size,0,none⟩=some (.string ks):=a1'.2.2 0 _ rfl;have c2:W3.cell? ⟨W1.heap.size,0,none⟩=some (.string vs):=a2'.2.2 0 _ rfl;have cC:=hc W3 w.heap.size W1.heap.size W2.heap.size B3 H3.out (by rw [e1];exact c1) (by rw [e2];exact c2);rw [e1] at cC;rw [e1,e2];have A3:=hid a3
 have B3H:=hid B3;obtain ⟨kn,hkn⟩:∃ kn,ks.size=kn:=⟨_,rfl⟩;obtain ⟨vn,hvn⟩:∃ vn,vs.size=vn:=⟨_,rfl⟩;have g1:(1:Int)<=(kn:Int):=by omega
 have g2:(kn:Int)<=48:=by omega
 have g3:(vn:Int)<=100:=by omega
 clear a1 a1' a2 a2' a3 b1 b2 b3 B2 B3 H2 k1 v1 hks hvs e1 e2 hc hk1 hk2 hv h;go_enter_defers Tryz.func48,Tryz.ntmps48
 go_wp2_with fail
 refine cC.mono ?_;rintro e w4 ⟨d4,t4,r4,dp4,c4,x,rfl,hR,H4,m4⟩;have A4:=hid (g0l A3.out m4 NB.out);have e4:w4.cell? ⟨W2.heap.size,0,none⟩=some (.int .i64 0):=A4.out.2.2 0 _ rfl;have f4:w4.frozen? ⟨W2.heap.size,0,none⟩=false:=A4.out.2.1 0;have H5:=hid (H4.touch (x:=W2.heap.size) (List.mem_cons_self ..) NB.out N0.out (g4b w4 W2.heap.size 0 (.int .i64 x)));have A5:=hid (at_set A4.out 0 (.int .i64 x))
 have M5:=hid (show ∀ w',Mod (tall tb B) (w4.setCell ⟨W2.heap.size,0,none⟩ (.int .i64 x)) w'->Mod (tall tb B) w w' from fun w' m=>by
  have m1:Mod (W2.heap.size :: tall tb B) w w':=(((Mod.of_below _ B3H.out).trans (m4.mono (fun y hy=>List.mem_cons_of_mem _ hy))).trans ((g4b w4 W2.heap.size 0 (.int .i64 x)).mono (fun y hy=>by rw [List.mem_singleton] at hy;rw [hy];exact List.mem_cons_self ..))).trans (m.mono (fun y hy=>List.mem_cons_of_mem _ hy));exact g4c m1 NW.out)
 have HR:=hid hR;have e5:(w4.setCell ⟨W2.heap.size,0,none⟩ (.int .i64 x)).cell? ⟨W2.heap.size,0,none⟩=some (.int .i64 x):=A5.out.2.2 0 _ rfl;clear hR H4 m4 cC c1 c2;go_wp2_with fail
 refine leaves_cons (f:=60) (args:=#[ptr tb,ptr W2.heap.size]) (by simp) (by simp [go_sem]) ?_;refine (g9q H5.out W2.heap.size x e5 _).mono ?_;rintro e u' w6 ⟨rfl,rfl,hend⟩;have e6:w6.cell? ⟨W2.heap.size,0,none⟩=some (.int .i64 x):=(g0l A5.out hend.mod NB.out).2.2 0 _ rfl;have FIN:=hid (show Mod (tall tb B) w w6/\(x=0->TrOn w0 w6 B tb d4 t4 r4 dp4 c4)/\(x≠0->TrOn w0 w6 B tb d4 (g3w t4) t4.sup.root t4.sup.depth t4.sup.count) from
  ⟨M5.out _ hend.mod,fun h=>by
   rcases hend with ⟨-,rfl⟩ | ⟨h',-⟩
   ·exact H5.out.unx MB.out
   ·exact absurd h h',fun h=>by
   rcases hend with ⟨h',-⟩ | ⟨-,h',-⟩
   ·exact absurd h' h
   ·exact h'.unx MB.out⟩)
 clear hend;simp [Leaves,settle,results,Tryz.results48,go_sem,e6];exact ⟨d4,t4,r4,dp4,c4,x,rfl,HR.out,FIN.out⟩
def j4u (R:St->T->Int->Int->Int->Int->Bool->Prop) (w0:World) (B:Blk) (tb bb:Nat) (w:World) (e:Ending) (w':World):Prop :=
 ∃ d' t' r' dp' c' x had,e=.returned (numV x)/\R d' t' r' dp' c' x had/\TrOn w0 w' B tb d' t' r' dp' c'/\At w' bb #[.bool had]/\Mod (bb :: tall tb B) w w'
def h6b (R:St->T->Int->Int->Int->Int->Bool->Prop) (w0:World) (B:Blk) (tb:Nat) (w:World) (e:Ending) (w':World):Prop :=
 ∃ d' t' r' dp' c' x had,e=.returned (.tuple #[.bool (had&&decide (x=0)),numV x])/\R d' t' r' dp' c' x had/\Mod (tall tb B) w w'/\(x=0->TrOn w0 w' B tb d' t' r' dp' c')/\(x≠0->TrOn w0 w' B tb d' (g3w t') t'.sup.root t'.sup.depth t'.sup.count)
theorem k6h {W:World} {b e:Nat} {u x:Value} (hb:At W b #[u]) (he:At W e #[x]) (hne:b≠e) (v:Value) (y:Value):At ((W.setCell ⟨b,0,none⟩ v).setCell ⟨e,0,none⟩ y) b #[v]/\At ((W.setCell ⟨b,0,none⟩ v).setCell ⟨e,0,none⟩ y) e #[y] :=
 ⟨g0l (at_set hb 0 v) (g0z _ _ _ _) (by simp;exact hne),at_set (g0l he (g0z _ _ _ _) (by simp;exact hne.symm)) 0 y⟩
theorem k1p {w0 w:World} {B:Blk} {tb:Nat} {d:St} {t:T} {r dp c:Int} (h:TrOn w0 w B tb d t r dp c) (key:Disk.Bs) {R:St->T->Int->Int->Int->Int->Bool->Prop}
 (hc:∀ W kb bb eb,Below w.heap.size w W->bb∉tall tb B->w0.heap.size<=bb->TrOn w0 W (h1r (h1r B bb) eb) tb d t r dp c->W.cell? ⟨kb,0,none⟩=some (strV key)->At W bb #[.bool false]->Calls Tryz.prog 93 #[ptr tb,strV key,.func (.func 98) #[] #[ptr kb,ptr bb]] W (j4u R w0 (h1r (h1r B bb) eb) tb bb W)) :
 Calls Tryz.prog 52 #[ptr tb,strV key] w (h6b R w0 B tb w):=by
 have hmf:∀ (fn:Fn) (first cap:Array Value) (w:World),(Instr.makeFunc fn first cap).run Tryz.prog w=.ok (.func fn first cap) w:=fun _ _ _ _=>rfl
 obtain ⟨ks,hks⟩:∃ ks,strB key=ks:=⟨_,rfl⟩;have e1:strV key=.string ks:=by rw [<- hks]
 have b1:=Pool.g0a w (.cells #[.string ks] 9);have a1:=at_new w #[.string ks] 9;obtain ⟨W1,hW1⟩:∃ W1,w.alloc (.cells #[.string ks] 9)=W1:=⟨_,rfl⟩;rw [hW1] at b1 a1;have H1:=h.quiet b1;have b2:=Pool.g0a W1 (.cells #[.bool false] 4);have a2:=at_new W1 #[.bool false] 4;have H2:=H1.withx (x:=W1.heap.size) b2 (Nat.le_refl _) (by simp);have NB1:=hid (g3r H1 (Nat.le_refl _));obtain ⟨W2,hW2⟩:∃ W2,W1.alloc (.cells #[.bool false] 4)=W2:=⟨_,rfl⟩
 rw [hW2] at b2 a2 H2;have b3:=Pool.g0a W2 (.cells #[.int .i64 0] 36);have a3:=at_new W2 #[.int .i64 0] 36;have a1':=(a1.below b2 a1.1).below b3 (a1.below b2 a1.1).1;have a2':=a2.below b3 a2.1;have B2:=b1.trans (b2.mono b1.size);have H3:=hid (H2.withx (x:=W2.heap.size) b3 (Nat.le_refl _) (by simp));have NB:=hid (g3r H2 (Nat.le_refl _));have B3:=B2.trans (b3.mono B2.size);have N1:=hid (show w0.heap.size<=W1.heap.size from H1.sto.below.size)
 have N0:=hid (show w0.heap.size<=W2.heap.size from H2.sto.below.size);have NW1:=hid (show w.heap.size<=W1.heap.size from b1.size);have NW:=hid (show w.heap.size<=W2.heap.size from B2.size);have hlt:W1.heap.size<W2.heap.size:=a2.1;have MB:=hid h.mem;obtain ⟨W3,hW3⟩:∃ W3,W2.alloc (.cells #[.int .i64 0] 36)=W3:=⟨_,rfl⟩;rw [hW3] at a1' a2' B3 a3 H3;have c1:W3.cell? ⟨w.heap.size,0,none⟩=some (.string ks):=a1'.2.2 0 _ rfl
 have cC:=hc W3 w.heap.size W1.heap.size W2.heap.size B3 NB1.out N1.out H3.out (by rw [e1];exact c1) a2';rw [e1] at cC;rw [e1];have A3:=hid a3;have B3H:=hid B3;obtain ⟨bb,hbb⟩:∃ bb,W1.heap.size=bb:=⟨_,rfl⟩;obtain ⟨eb,heb⟩:∃ eb,W2.heap.size=eb:=⟨_,rfl⟩;rw [hbb] at hlt NW1 NB1 N1;rw [heb] at hlt NW NB A3 N0;rw [hbb,heb] at cC H3;have hne:¬ bb=eb:=by omega
 have hne':¬ eb=bb:=by omega
 clear a1 a1' a2 a2' a3 b1 b2 b3 B2 B3 H2 H1 hks e1 hc h;go_enter_defers Tryz.func52,Tryz.ntmps52
 go_wp2_with fail
 refine cC.mono ?_;rintro e w4 ⟨d4,t4,r4,dp4,c4,x,had,rfl,hR,H4,hb4,m4⟩;have A4:=g0l A3.out m4 (fun e=>by rcases List.mem_cons.1 e with e | e;exact hne' e;exact NB.out e);have e4:w4.cell? ⟨eb,0,none⟩=some (.int .i64 0):=A4.2.2 0 _ rfl;have f4:w4.frozen? ⟨eb,0,none⟩=false:=A4.2.1 0;have H5:=hid (H4.touch (x:=eb) (List.mem_cons_self ..) NB.out N0.out (g4b w4 eb 0 (.int .i64 x)));have A5:=hid (at_set A4 0 (.int .i64 x))
 have HB5:=hid (g0l hb4 (g4b w4 eb 0 (.int .i64 x)) (by simp;exact hne));have M5:=hid (show Mod (eb :: bb :: tall tb B) w (w4.setCell ⟨eb,0,none⟩ (.int .i64 x)) from ((Mod.of_below _ B3H.out).trans (m4.mono (fun y hy=>List.mem_cons_of_mem _ hy))).trans ((g4b w4 eb 0 (.int .i64 x)).mono (fun y hy=>by rw [List.mem_singleton] at hy;rw [hy];exact List.mem_cons_self ..)));have HR:=hid hR;obtain ⟨W5,hW5⟩:∃ W5,w4.setCell ⟨eb,0,none⟩ (.int .i64 x)=W5:=⟨_,rfl⟩
 rw [hW5] at H5 A5 HB5 M5;have e5:W5.cell? ⟨eb,0,none⟩=some (.int .i64 x):=A5.out.2.2 0 _ rfl;have f5:W5.frozen? ⟨eb,0,none⟩=false:=A5.out.2.1 0;have k5:W5.cell? ⟨bb,0,none⟩=some (.bool had):=HB5.out.2.2 0 _ rfl;have g5:W5.frozen? ⟨bb,0,none⟩=false:=HB5.out.2.1 0;obtain ⟨z,hz⟩:∃ z,(had&&decide (x=0))=z:=⟨_,rfl⟩;have HZ:=hid hz;obtain ⟨q1,q2⟩:=k6h HB5.out A5.out hne (.bool z) (.int .i64 x);have H6:=hid ((H5.out.touch (x:=bb) (List.mem_cons_of_mem _ (List.mem_cons_self ..)) NB1.out N1.out (g4b W5 bb 0 (.bool z))).touch (x:=eb) (List.mem_cons_self ..) NB.out N0.out (g4b _ eb 0 (.int .i64 x)))
 have M6:=hid (show Mod (eb :: bb :: tall tb B) w ((W5.setCell ⟨bb,0,none⟩ (.bool z)).setCell ⟨eb,0,none⟩ (.int .i64 x)) from (M5.out.trans ((g4b W5 bb 0 (.bool z)).mono (fun y hy=>by rw [List.mem_singleton] at hy;rw [hy];simp))).trans ((g4b _ eb 0 (.int .i64 x)).mono (fun y hy=>by rw [List.mem_singleton] at hy;rw [hy];simp)));have Q1:=hid q1;have Q2:=hid q2;have hx:(x=0/\(x==0)=true)\/(x≠0/\(x==0)=false):=by
  by_cases h:x=0
  ·exact .inl ⟨h,by simp [h]⟩
  ·exact .inr ⟨h,by simp [h]⟩
 clear hR H4 m4 cC c1 A4 hb4 q1 q2;go_wp2_with fail
 rcases had with _ | _ <;> rcases hx with ⟨rfl,hx⟩ | ⟨hx0,hx⟩
 ·obtain rfl:z=false:=by rw [<- hz];simp
  clear hz;go_region
  go_wp2_with fail
  have H7:=hid (H6.out.quiet (Below.refl _ _).drew);have Q7:=hid (Q2.out.below (Below.refl _ _).drew Q2.out.1);have P7:=hid (Q1.out.below (Below.refl _ _).drew Q1.out.1);have e7:((W5.setCell ⟨bb,0,none⟩ (.bool false)).setCell ⟨eb,0,none⟩ (.int .i64 0)).drew.cell? ⟨eb,0,none⟩=some (.int .i64 0):=Q7.out.2.2 0 _ rfl;refine leaves_cons (f:=60) (args:=#[ptr tb,ptr eb]) (by simp) (by simp [go_sem]) ?_;refine (g9q H7.out eb 0 e7 _).mono ?_
  rintro e u' w6 ⟨rfl,rfl,hend⟩;have e6:w6.cell? ⟨eb,0,none⟩=some (.int .i64 0):=(g0l Q7.out hend.mod NB.out).2.2 0 _ rfl;have b6:w6.cell? ⟨bb,0,none⟩=some (.bool false):=(g0l P7.out hend.mod NB1.out).2.2 0 _ rfl;have m7:Mod (eb :: bb :: tall tb B) w w6:=M6.out.drew.trans (hend.mod.mono (fun y hy=>List.mem_cons_of_mem _ (List.mem_cons_of_mem _ hy)));have FIN:=hid (show Mod (tall tb B) w w6/\((0:Int)=0->TrOn w0 w6 B tb d4 t4 r4 dp4 c4)/\((0:Int)≠0->TrOn w0 w6 B tb d4 (g3w t4) t4.sup.root t4.sup.depth t4.sup.count) from
   ⟨g4c (g4c m7 NW.out) NW1.out,fun h=>by
    rcases hend with ⟨-,rfl⟩ | ⟨h',-⟩
    ·exact (H7.out.unx (List.mem_cons_of_mem _ MB.out)).unx MB.out
    ·exact absurd h h',fun h=>by
    rcases hend with ⟨h',-⟩ | ⟨-,h',-⟩
    ·exact absurd h' h
    ·exact (h'.unx (List.mem_cons_of_mem _ MB.out)).unx MB.out⟩)
  have EQ:=hid (show Ending.returned (.tuple #[.bool false,numV 0])=.returned (.tuple #[.bool (false&&decide ((0:Int)=0)),numV 0]) from by simp);have DN:=hid (show h6b R w0 B tb w (.returned (.tuple #[.bool false,numV 0])) w6 from ⟨d4,t4,r4,dp4,c4,0,false,EQ.out,HR.out,FIN.out⟩);clear hend m7;refine ⟨_,?_,DN.out⟩;simp [results,Tryz.results52,go_sem,e6,b6]
 ·obtain rfl:z=false:=by rw [<- hz];simp
  clear hz;go_region
  go_wp2_with fail
  have H7:=hid (H6.out.quiet (Below.refl _ _).drew);have Q7:=hid (Q2.out.below (Below.refl _ _).drew Q2.out.1);have P7:=hid (Q1.out.below (Below.refl _ _).drew Q1.out.1);have e7:((W5.setCell ⟨bb,0,none⟩ (.bool false)).setCell ⟨eb,0,none⟩ (.int .i64 x)).drew.cell? ⟨eb,0,none⟩=some (.int .i64 x):=Q7.out.2.2 0 _ rfl;refine leaves_cons (f:=60) (args:=#[ptr tb,ptr eb]) (by simp) (by simp [go_sem]) ?_;refine (g9q H7.out eb x e7 _).mono ?_
  rintro e u' w6 ⟨rfl,rfl,hend⟩;have e6:w6.cell? ⟨eb,0,none⟩=some (.int .i64 x):=(g0l Q7.out hend.mod NB.out).2.2 0 _ rfl;have b6:w6.cell? ⟨bb,0,none⟩=some (.bool false):=(g0l P7.out hend.mod NB1.out).2.2 0 _ rfl;have m7:Mod (eb :: bb :: tall tb B) w w6:=M6.out.drew.trans (hend.mod.mono (fun y hy=>List.mem_cons_of_mem _ (List.mem_cons_of_mem _ hy)));have FIN:=hid (show Mod (tall tb B) w w6/\((x:Int)=0->TrOn w0 w6 B tb d4 t4 r4 dp4 c4)/\((x:Int)≠0->TrOn w0 w6 B tb d4 (g3w t4) t4.sup.root t4.sup.depth t4.sup.count) from
   ⟨g4c (g4c m7 NW.out) NW1.out,fun h=>by
    rcases hend with ⟨-,rfl⟩ | ⟨h',-⟩
    ·exact (H7.out.unx (List.mem_cons_of_mem _ MB.out)).unx MB.out
    ·exact absurd h h',fun h=>by
    rcases hend with ⟨h',-⟩ | ⟨-,h',-⟩
    ·exact absurd h' h
    ·exact (h'.unx (List.mem_cons_of_mem _ MB.out)).unx MB.out⟩)
  have EQ:=hid (show Ending.returned (.tuple #[.bool false,numV x])=.returned (.tuple #[.bool (false&&decide ((x:Int)=0)),numV x]) from by simp);have DN:=hid (show h6b R w0 B tb w (.returned (.tuple #[.bool false,numV x])) w6 from ⟨d4,t4,r4,dp4,c4,x,false,EQ.out,HR.out,FIN.out⟩);clear hend m7;refine ⟨_,?_,DN.out⟩;simp [results,Tryz.results52,go_sem,e6,b6]
 ·obtain rfl:z=true:=by rw [<- hz];simp
  clear hz;go_region
  go_wp2_with fail
  have H7:=hid (H6.out.quiet (Below.refl _ _).drew);have Q7:=hid (Q2.out.below (Below.refl _ _).drew Q2.out.1);have P7:=hid (Q1.out.below (Below.refl _ _).drew Q1.out.1);have e7:((W5.setCell ⟨bb,0,none⟩ (.bool true)).setCell ⟨eb,0,none⟩ (.int .i64 0)).drew.cell? ⟨eb,0,none⟩=some (.int .i64 0):=Q7.out.2.2 0 _ rfl;refine leaves_cons (f:=60) (args:=#[ptr tb,ptr eb]) (by simp) (by simp [go_sem]) ?_;refine (g9q H7.out eb 0 e7 _).mono ?_
  rintro e u' w6 ⟨rfl,rfl,hend⟩;have e6:w6.cell? ⟨eb,0,none⟩=some (.int .i64 0):=(g0l Q7.out hend.mod NB.out).2.2 0 _ rfl;have b6:w6.cell? ⟨bb,0,none⟩=some (.bool true):=(g0l P7.out hend.mod NB1.out).2.2 0 _ rfl;have m7:Mod (eb :: bb :: tall tb B) w w6:=M6.out.drew.trans (hend.mod.mono (fun y hy=>List.mem_cons_of_mem _ (List.mem_cons_of_mem _ hy)));have FIN:=hid (show Mod (tall tb B) w w6/\((0:Int)=0->TrOn w0 w6 B tb d4 t4 r4 dp4 c4)/\((0:Int)≠0->TrOn w0 w6 B tb d4 (g3w t4) t4.sup.root t4.sup.depth t4.sup.count) from
   ⟨g4c (g4c m7 NW.out) NW1.out,fun h=>by
    rcases hend with ⟨-,rfl⟩ | ⟨h',-⟩
    ·exact (H7.out.unx (List.mem_cons_of_mem _ MB.out)).unx MB.out
    ·exact absurd h h',fun h=>by
    rcases hend with ⟨h',-⟩ | ⟨-,h',-⟩
    ·exact absurd h' h
    ·exact (h'.unx (List.mem_cons_of_mem _ MB.out)).unx MB.out⟩)
  have EQ:=hid (show Ending.returned (.tuple #[.bool true,numV 0])=.returned (.tuple #[.bool (true&&decide ((0:Int)=0)),numV 0]) from by simp);have DN:=hid (show h6b R w0 B tb w (.returned (.tuple #[.bool true,numV 0])) w6 from ⟨d4,t4,r4,dp4,c4,0,true,EQ.out,HR.out,FIN.out⟩);clear hend m7;refine ⟨_,?_,DN.out⟩;simp [results,Tryz.results52,go_sem,e6,b6]
 ·obtain rfl:z=false:=by rw [<- hz];simp [hx0]
  clear hz;go_region
  go_wp2_with fail
  have H7:=hid (H6.out.quiet (Below.refl _ _).drew);have Q7:=hid (Q2.out.below (Below.refl _ _).drew Q2.out.1);have P7:=hid (Q1.out.below (Below.refl _ _).drew Q1.out.1);have e7:((W5.setCell ⟨bb,0,none⟩ (.bool false)).setCell ⟨eb,0,none⟩ (.int .i64 x)).drew.cell? ⟨eb,0,none⟩=some (.int .i64 x):=Q7.out.2.2 0 _ rfl;refine leaves_cons (f:=60) (args:=#[ptr tb,ptr eb]) (by simp) (by simp [go_sem]) ?_;refine (g9q H7.out eb x e7 _).mono ?_
  rintro e u' w6 ⟨rfl,rfl,hend⟩;have e6:w6.cell? ⟨eb,0,none⟩=some (.int .i64 x):=(g0l Q7.out hend.mod NB.out).2.2 0 _ rfl;have b6:w6.cell? ⟨bb,0,none⟩=some (.bool false):=(g0l P7.out hend.mod NB1.out).2.2 0 _ rfl;have m7:Mod (eb :: bb :: tall tb B) w w6:=M6.out.drew.trans (hend.mod.mono (fun y hy=>List.mem_cons_of_mem _ (List.mem_cons_of_mem _ hy)));have FIN:=hid (show Mod (tall tb B) w w6/\((x:Int)=0->TrOn w0 w6 B tb d4 t4 r4 dp4 c4)/\((x:Int)≠0->TrOn w0 w6 B tb d4 (g3w t4) t4.sup.root t4.sup.depth t4.sup.count) from
   ⟨g4c (g4c m7 NW.out) NW1.out,fun h=>by
    rcases hend with ⟨-,rfl⟩ | ⟨h',-⟩
    ·exact (H7.out.unx (List.mem_cons_of_mem _ MB.out)).unx MB.out
    ·exact absurd h h',fun h=>by
    rcases hend with ⟨h',-⟩ | ⟨-,h',-⟩
    ·exact absurd h' h
    ·exact (h'.unx (List.mem_cons_of_mem _ MB.out)).unx MB.out⟩)
  have EQ:=hid (show Ending.returned (.tuple #[.bool false,numV x])=.returned (.tuple #[.bool (true&&decide ((x:Int)=0)),numV x]) from by simp [hx0]);have DN:=hid (show h6b R w0 B tb w (.returned (.tuple #[.bool false,numV x])) w6 from ⟨d4,t4,r4,dp4,c4,x,true,EQ.out,HR.out,FIN.out⟩);clear hend m7;refine ⟨_,?_,DN.out⟩;simp [results,Tryz.results52,go_sem,e6,b6]
open Page (Bs strV strB PRow h3f Drew h3z k2m j1l j6e j6p j5f)
theorem h0u (A B:Option Addr) (n c m d:Nat) (la lb:List (Bs×Bs)) (w:World) (hl:la.length=n) (hm:lb.length=m) (hn:n<=9223372036854775806) (hR:PRow w A la) (hS:PRow w B lb):Calls Tryz.prog 140 #[.slice A n c,.slice B m d] w (h3f (la=lb) w):=by
 have HR:=hid hR;have HS:=hid hS;have HL:=hid hl;have HM:=hid hm;clear hR hS hl hm
 by_cases hnm:n=m
 rotate_left
 ·have d0:((n:Int) != (m:Int))=true:=by simp;omega
  have HN:=hid hnm;clear hnm;go_enter Tryz.func140,Tryz.ntmps140
  go_wp2_with fail
  go_ret
  exact ⟨_,rfl,⟨fun h=>(by cases h),fun h=>absurd (by rw [<- HL.out,<- HM.out,h]) HN.out⟩,Drew.refl _⟩
 subst hnm;go_enter Tryz.func140,Tryz.ntmps140
 go_wp2_with fail
 go_loopw [13] (fun i wr=>∃ k:Nat,i=.int .i64 (k:Int)/\k<=n/\Hid (la.take k=lb.take k)/\Drew w wr) (fun i _=>n-(intOf i).toNat)
 case atStart=>exact ⟨0,rfl,Nat.zero_le _,hid (by simp),Drew.refl _⟩
 case round =>
  obtain ⟨k,rfl,hk,hQ,hD⟩:=hrel;have HD:=hid hD;clear hD;have hwr:IntKind.i64.wrap ((k:Int)+1)=(k:Int)+1:=IntWalk.i64_in _ (by omega)
  by_cases hlt:k<n
  ·have hka:k<la.length:=by have:=HL.out;omega
   have hkb:k<lb.length:=by have:=HM.out;omega
   obtain ⟨b1,o1,rfl,-,hc1⟩:=HR.out (by intro e;subst e;simp at hka);obtain ⟨b2,o2,rfl,-,hc2⟩:=HS.out (by intro e;subst e;simp at hkb);obtain ⟨h1,h1'⟩:=hc1 k hka;obtain ⟨h2,h2'⟩:=hc2 k hkb;rw [<- HD.out.cell] at h1 h1' h2 h2';have HE:=hid (h3z hka hkb hQ.out);have HN:=hid (k2m hka hkb);have HQ:=hid (j6e la[k] lb[k]);have HE2:=hid (fun W r=>j6p (strB la[k].1) (strB la[k].2) (strB lb[k].1) (strB lb[k].2) W r)
   have hg:=j5f;obtain ⟨X1,eX1⟩:∃ X,strB la[k].1=X:=⟨_,rfl⟩;rw [show strV la[k].1=.string X1 by rw [<- eX1]] at h1;obtain ⟨Y1,eY1⟩:∃ X,strB la[k].2=X:=⟨_,rfl⟩;rw [show strV la[k].2=.string Y1 by rw [<- eY1]] at h1';obtain ⟨X2,eX2⟩:∃ X,strB lb[k].1=X:=⟨_,rfl⟩;rw [show strV lb[k].1=.string X2 by rw [<- eX2]] at h2;obtain ⟨Y2,eY2⟩:∃ X,strB lb[k].2=X:=⟨_,rfl⟩;rw [show strV lb[k].2=.string Y2 by rw [<- eY2]] at h2'
   rw [eX1,eY1,eX2,eY2] at HE2 HQ;clear eX1 eY1 eX2 eY2;clear hc1 hc2 hQ;have t1:(k:Int)<(n:Int):=by omega
   have t3:(0:Int)<=(k:Int):=by omega
   by_cases hxy:la[k]=lb[k]
   ·have hE:=fun W=>HE2.out W true (by rw [HQ.out];simp [hxy])
    have HF:=hid (HE.out hxy);clear hxy HE HN HE2 HQ;go_wp2_with fail
    go_quiet (fail)
    go_wp2_with fail
    go_roundw
    case rel=>exact ⟨k+1,by go_num,by omega,HF,HD.out.drewN _⟩
    case measure=>simp [intOf];omega
   ·have hE:=fun W=>HE2.out W false (by rw [HQ.out];simp [hxy])
    have HF:=hid (HN.out hxy);clear hxy HE HN HE2 HQ;go_wp2_with fail
    go_quiet (fail)
    go_wp2_with fail
    go_ret
    exact ⟨_,rfl,⟨fun h=>(by cases h),fun h=>absurd h HF.out⟩,HD.out.drewN _⟩
  ·have HF:=hid (j1l (k:=k) (by have:=HL.out;omega) (by rw [HL.out,HM.out]) hQ.out);clear hQ;go_wp2_with fail
   go_ret
   exact ⟨_,rfl,⟨fun _=>HF.out,fun _=>rfl⟩,HD.out⟩
end Go.Proofs.YtglejnkoojpelaaGreat.Tree
