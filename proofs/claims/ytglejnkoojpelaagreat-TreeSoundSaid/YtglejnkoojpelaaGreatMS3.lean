import Derived.Test.YtglejnkoojpelaaGreatMS2
import Derived.Test.YtglejnkoojpelaaGreatMQ1
set_option maxRecDepth 100000
set_option maxHeartbeats 32000000
namespace Go.Proofs.YtglejnkoojpelaaGreat.Store
open Go.RowKit Gen
open Disk (St Dev Mod ptr)
open Page (Pg Lay PgOk g0c pgC pgV Enc g0v BytesAt)
open Pool (Po NAt PoAt La poC poV numV At g0k g1g g1k g2m g0g OwnI chunks layAll Part g1z)
open Lib (hid)
def h0c (own:List Int) (ls:List (List Int)) (k:Nat):Pg:={kind:=3,next:=own.getD (k+1) 0,pages:=ls.getD k []}
inductive g4s (own:List Int) (ls:List (List Int)):St->Nat->St->Int->Prop
 | done {d k}:own.length<=k->g4s own ls d k d 0
 | fail {d k d' x}:k<own.length->g7v d (own.getD k 0) (h0c own ls k) d' x->x≠0->g4s own ls d k d' x
 | step {d k d' d'' x}:k<own.length->g7v d (own.getD k 0) (h0c own ls k) d' 0->g4s own ls d' (k+1) d'' x->g4s own ls d k d'' x
structure Ls (w:World) (B:Blk) (A:Option Addr) (n c:Nat) (xs:List Part):Prop where
 len:xs.length=n
 row:RowG w Pool.encS A xs
 off:Off B.all A
 parts:g1z w xs
 offs:∀ x∈xs,Off B.all x.1
theorem Ls.mod {w w':World} {B:Blk} {A:Option Addr} {n c:Nat} {xs:List Part} (h:Ls w B A n c xs) (m:Mod B.all w w'):Ls w' B A n c xs :=
 ⟨h.len,h5f h.row m h.off,h.off,fun x hx=>h3x (h.parts x hx) m (h.offs x hx),h.offs⟩
structure p0l (w:World) (cb:Nat) (B:Blk) (d0:St) (t:T) (a:Lys) (p:Pg) (y:Lay) (v:Value) (own:List Int) (ls:List (List Int)) (A:Option Addr) (n c:Nat) (xs:List Part) (k:Nat) (d:St) (wr:World):Prop where
 dr:Dr wr cb B d t a p y v own
 li:Ls wr B A n c xs
 fr:Fr B cb w wr
 rest:∀ d' x,g4s own ls d k d' x->g4s own ls d0 0 d' x
theorem k7r {own:List Int} (h:∀ x∈own,I64 x) (k:Nat):I64 (own.getD k 0):=by
 rw [List.getD_eq_getElem?_getD];rcases Nat.lt_or_ge k own.length with g | g
 ·rw [List.getElem?_eq_getElem g];exact h _ (List.getElem_mem g)
 ·rw [List.getElem?_eq_none g];exact ⟨by show _<=(0:Int);omega,by show (0:Int)<=_;omega⟩
theorem j6q {own:List Int} {ls:List (List Int)} {k:Nat} (h:∀ x∈own,I64 x) (hl:(ls.getD k []).length<=9223372036854775807):PgOk (h0c own ls k):=by
 have:=k7r h (k+1);refine ⟨?_,?_,?_,?_,hl,this,?_,?_,?_,?_,?_⟩ <;> simp [h0c,Page.I64]
theorem k2e {w:World} {cb:Nat} {B:Blk} {d:St} {t:T} {a:Lys} {p:Pg} {y:Lay} {v:Value} {own:List Int} (h:Dr w cb B d t a p y v own) (hlen:own.length<=100000) (hI:∀ x∈own,I64 x) :
 Calls Tryz.prog 107 #[ptr cb] w (fun e w'=>∃ d' x,e=.returned (numV x)/\g4s own (chunks (layAll t.pool.free t.pool.limbo)) d 0 d' x/\Dr w' cb B d' t a p y v own/\Fr B cb w w'):=by
 have H:=hid h;have HL:=hid hlen;have HI:=hid hI;obtain ⟨A,c,rfl,hN⟩:=g5y h.own;have cL:=Pool.j1f t.pool a.p w h.sto.pool h.sto.few.1 h.sto.few.2;obtain ⟨k0,k12⟩:=g2f h.box;obtain ⟨_,s16,s17,s18,_⟩:=h.sto.cells;generalize chunks (layAll t.pool.free t.pool.limbo)=ls at *;unfold poV poC at cL;clear hN h hlen hI;go_enter Tryz.func107,Tryz.ntmps107
 go_wp2_with fail
 refine cL.mono ?_;rintro e w1 ⟨v2,xs,rfl,ho,hp,hm,hb,hf⟩;have hol:∀ g,v2.ownBlock=some g->w.heap.size<=g:=fun g hg=>(World.ownsRow.lt ho g hg).1
 obtain ⟨A2,c2,rfl,-,-,-,hrow⟩:=OwnG.row ho;have D1:=hid (H.out.below hb);have L1:=hid (show Ls w1 B A2 xs.length c2 xs from ⟨rfl,hrow,(H.out.sto.off (Nat.le_refl _) (fun x e=>hol x.block (by rw [e];rfl))).mono B.in_off,hp,fun x hx=>(H.out.sto.off (Nat.le_refl _) (hf x hx)).mono B.in_off⟩);have F1:=hid (show Fr B cb w w1 from Fr.of_mod (g0u hb));have HM:=hid hm;obtain ⟨k0',k12'⟩:=g2f D1.out.box
 obtain ⟨q,hq⟩:∃ q,xs.length=q:=⟨_,rfl⟩;have HQ:=hid hq;obtain ⟨m,hmm⟩:∃ m,own.length=m:=⟨_,rfl⟩;have HMM:=hid hmm;rw [hmm] at k12' D1 H;rw [hq] at L1 ⊢;clear hol ho hrow hp hb hf hm hq hmm k0 k12 s16 s17 s18 cL;go_wp2_with fail
 clear k0' k12';go_loopw [21] (fun i wr=>∃ (k:Nat) (d1:St),i=.int .i64 (k:Int)/\k<=m/\p0l w cb B d t a p y (.slice A m c) own ls A2 q c2 xs k d1 wr) (fun i _=>m-(intOf i).toNat)
 case atStart=>exact ⟨0,d,rfl,Nat.zero_le _,D1.out,L1.out,F1.out,fun _ _=>id⟩
 case round =>
  obtain ⟨k,d1,rfl,hk,hr⟩:=hrel;have R:=hid hr;clear hr D1 L1 F1
  by_cases hlt:k<m
  ·have hko:k<own.length:=by have:=HMM.out;omega
   obtain ⟨A',c',e,hN⟩:=g5y R.out.dr.own;cases e;obtain ⟨b,o,rfl,hbl,hc⟩:=hN.row (by intro e;rw [e] at hko;simp at hko);have hcell:=hc k hko;have cN:=k8y R.out.dr.box R.out.dr.own k hko HL.out;obtain ⟨z,hz⟩:∃ z,own[k]=z:=⟨_,rfl⟩;rw [hz] at hcell;have hzz:own.getD k 0=z:=by rw [List.getD_eq_getElem?_getD,List.getElem?_eq_getElem hko,hz];rfl
   obtain ⟨nx,hnx⟩:∃ nx,own.getD (k+1) 0=nx:=⟨_,rfl⟩;rw [hnx] at cN;have HZ:=hid hzz;have HNX:=hid hnx;clear hN hc hz hzz hnx;go_wp2_with fail
   refine cN.mono ?_;rintro e wn ⟨rfl,rfl⟩;clear cN hcell;have P1:=hid (g1s wr {kind:=3,next:=nx} {});have b2:=Pool.g0a wr (.cells (pgC {kind:=3,next:=nx} {}) 103);obtain ⟨W2,hW2⟩:∃ W2,wr.alloc (.cells (pgC {kind:=3,next:=nx} {}) 103)=W2:=⟨_,rfl⟩;have ap2:At W2 wr.heap.size (pgC {kind:=3,next:=nx} {}):=hW2 ▸ at_new wr _ _;rw [hW2] at P1 b2;have hdr2:=R.out.dr.below b2;have hli2:=R.out.li.mod (g0u b2)
   have hfr2:=R.out.fr.trans (Fr.of_mod (g0u (B:=B) b2));clear hW2
   by_cases hkq:k<q
   ·have hxl:k<xs.length:=by have:=HQ.out;omega
    obtain ⟨b',o',rfl,hbl',hc'⟩:=hli2.row (by intro e;rw [e] at hxl;simp at hxl);have hc2:=hc' k hxl;obtain ⟨⟨X,cx,lx⟩,hx⟩:∃ z,xs[k]=z:=⟨_,rfl⟩;have hpart:=hli2.parts _ (List.getElem_mem hxl);have hoff:=hli2.offs _ (List.getElem_mem hxl);rw [hx] at hc2 hpart hoff;have hc2:W2.cell? ⟨b',o'+k,none⟩=some (.slice X lx.length cx):=hc2;have hpart:NAt W2 X lx.length cx lx:=hpart;have hlsk:ls.getD k []=lx:=by
     have e1:ls=xs.map (·.2.2):=HM.out.symm;rw [e1,List.getD_eq_getElem?_getD,List.getElem?_map,List.getElem?_eq_getElem hxl,hx];rfl
    have r4:W2.cell? ⟨wr.heap.size,4,none⟩=some (.slice none 0 0):=ap2.2.2 4 _ rfl;have fz:=ap2.2.1 4;have ap3:At (W2.setCell ⟨wr.heap.size,4,none⟩ (.slice X lx.length cx)) wr.heap.size (pgC {kind:=3,next:=nx,pages:=lx} {A4:=X,c4:=cx}):=ap2.set 4 _ (by simp);have b3:Below wr.heap.size wr (W2.setCell ⟨wr.heap.size,4,none⟩ (.slice X lx.length cx)):=b2.setCell (p:=⟨wr.heap.size,4,none⟩) (Nat.le_refl _) _
    obtain ⟨W3,hW3⟩:∃ W3,W2.setCell ⟨wr.heap.size,4,none⟩ (.slice X lx.length cx)=W3:=⟨_,rfl⟩;rw [hW3] at ap3 b3;have AP:=hid ap3;have D2:=hid (R.out.dr.below b3);have L2:=hid (R.out.li.mod (g0u b3));have F2:=hid (R.out.fr.trans (Fr.of_mod (g0u (B:=B) b3)));have hp0:=R.out.li.parts _ (List.getElem_mem hxl);rw [hx] at hp0;have PR:=hid (show g0c W3 {kind:=3,next:=nx,pages:=lx} {A4:=X,c4:=cx} from ⟨fun h=>absurd rfl h,fun h=>absurd rfl h,fun h=>absurd rfl h,(NAt.below hp0 b3).row⟩)
    have HP:=hid (show h0c own ls k={kind:=3,next:=nx,pages:=lx} from by rw [h0c,HNX.out,hlsk]);have PO:=hid (show PgOk {kind:=3,next:=nx,pages:=lx} from by
     rw [<- HP.out];exact j6q HI.out (by rw [hlsk];have h1:=hpart.cap;have h2:=hpart.max;unfold maxLen at h2;omega))
    clear hlsk hpart hoff hc' hbl' hx ap2 ap3 hp0 hdr2 hli2 hfr2 b2 b3;go_wp2_with (first | ((with_reducible refine Disk.g0b rfl 103 (.tmp 6) (.tmp 29) rfl _ _ ?_ ?_ P1.out ?_);(next=>rfl);(next=>rfl)))
    have KS:∀ w',Below W3.heap.size W3 w'->w'.cell? ⟨cb,0,none⟩=some (ptr B.ss)/\w'.cell? ⟨wr.heap.size,0,none⟩=some (.int .i64 3)/\w'.cell? ⟨wr.heap.size,1,none⟩=some (.slice none 0 0)/\w'.cell? ⟨wr.heap.size,2,none⟩=some (.slice none 0 0)/\w'.cell? ⟨wr.heap.size,3,none⟩=some (.slice none 0 0)/\w'.cell? ⟨wr.heap.size,4,none⟩=some (.slice X lx.length cx)/\w'.cell? ⟨wr.heap.size,5,none⟩=some (.int .i64 nx)/\w'.cell? ⟨wr.heap.size,6,none⟩=some (.int .u64 0)/\w'.cell? ⟨wr.heap.size,7,none⟩=some (.int .i64 0)/\w'.cell? ⟨wr.heap.size,8,none⟩=some (.int .i64 0)/\w'.cell? ⟨wr.heap.size,9,none⟩=some (.int .i64 0)/\w'.cell? ⟨wr.heap.size,10,none⟩=some (.int .i64 0):=fun w' hb=>by
     have g1:=(g2f (D2.out.below hb).box).1;have g2:=AP.out.below hb AP.out.1;exact ⟨g1,g2.2.2 0 _ rfl,g2.2.2 1 _ rfl,g2.2.2 2 _ rfl,g2.2.2 3 _ rfl,g2.2.2 4 _ rfl,g2.2.2 5 _ rfl,g2.2.2 6 _ rfl,g2.2.2 7 _ rfl,g2.2.2 8 _ rfl,g2.2.2 9 _ rfl,g2.2.2 10 _ rfl⟩
    have bD:Below W3.heap.size W3 W3.drew:=(Below.refl _ _).drew;have K0:=hid (KS _ bD);have cW:Calls Tryz.prog 159 #[ptr B.ss,.int .i64 z,.agg #[.int .i64 3,.slice none 0 0,.slice none 0 0,.slice none 0 0,.slice X lx.length cx,.int .i64 nx,.int .u64 0,.int .i64 0,.int .i64 0,.int .i64 0,.int .i64 0]] W3.drew (Wrote B d1 t a z {kind:=3,next:=nx,pages:=lx} W3.drew):=g8a (D2.out.below bD).sto z {kind:=3,next:=nx,pages:=lx} {A4:=X,c4:=cx} PO.out (PR.out.below bD)
    have BD:=hid bD;have NB:=hid (show wr.heap.size∉B.all from fun e=>Nat.lt_irrefl _ (R.out.dr.sto.lt _ e));have HKS:=hid (show ∀ w',Mod B.all W3 w'->w'.cell? ⟨cb,0,none⟩=some (ptr B.ss)/\w'.cell? ⟨wr.heap.size,0,none⟩=some (.int .i64 3)/\w'.cell? ⟨wr.heap.size,1,none⟩=some (.slice none 0 0)/\w'.cell? ⟨wr.heap.size,2,none⟩=some (.slice none 0 0)/\w'.cell? ⟨wr.heap.size,3,none⟩=some (.slice none 0 0)/\w'.cell? ⟨wr.heap.size,4,none⟩=some (.slice X lx.length cx)/\w'.cell? ⟨wr.heap.size,5,none⟩=some (.int .i64 nx)/\w'.cell? ⟨wr.heap.size,6,none⟩=some (.int .u64 0)/\w'.cell? ⟨wr.heap.size,7,none⟩=some (.int .i64 0)/\w'.cell? ⟨wr.heap.size,8,none⟩=some (.int .i64 0)/\w'.cell? ⟨wr.heap.size,9,none⟩=some (.int .i64 0)/\w'.cell? ⟨wr.heap.size,10,none⟩=some (.int .i64 0) from fun w' hm=>by
     have g1:=(g2f (g0l D2.out.box hm (fun e=>Nat.lt_irrefl _ (D2.out.low _ e)))).1;have g2:=g0l AP.out hm NB.out;exact ⟨g1,g2.2.2 0 _ rfl,g2.2.2 1 _ rfl,g2.2.2 2 _ rfl,g2.2.2 3 _ rfl,g2.2.2 4 _ rfl,g2.2.2 5 _ rfl,g2.2.2 6 _ rfl,g2.2.2 7 _ rfl,g2.2.2 8 _ rfl,g2.2.2 9 _ rfl,g2.2.2 10 _ rfl⟩)
    clear KS bD;go_region_held3 (fun w'=>w'.cell? ⟨cb,0,none⟩=some (ptr B.ss)/\w'.cell? ⟨wr.heap.size,0,none⟩=some (.int .i64 3)/\w'.cell? ⟨wr.heap.size,1,none⟩=some (.slice none 0 0)/\w'.cell? ⟨wr.heap.size,2,none⟩=some (.slice none 0 0)/\w'.cell? ⟨wr.heap.size,3,none⟩=some (.slice none 0 0)/\w'.cell? ⟨wr.heap.size,4,none⟩=some (.slice X lx.length cx)/\w'.cell? ⟨wr.heap.size,5,none⟩=some (.int .i64 nx)/\w'.cell? ⟨wr.heap.size,6,none⟩=some (.int .u64 0)/\w'.cell? ⟨wr.heap.size,7,none⟩=some (.int .i64 0)/\w'.cell? ⟨wr.heap.size,8,none⟩=some (.int .i64 0)/\w'.cell? ⟨wr.heap.size,9,none⟩=some (.int .i64 0)/\w'.cell? ⟨wr.heap.size,10,none⟩=some (.int .i64 0))
     (with_reducible (first | exact K0.out | exact K1.out))
     (first
       | (go_at_call 159;(with_reducible refine cW.mono ?_);rintro e w4 ⟨d2,x,rfl,hw,s4,m4⟩
          have M4:=hid ((g0u (B:=B) BD.out).trans m4);have K1:=hid (HKS.out _ M4.out);have S4:=hid s4;have HW:=hid hw;clear s4 hw m4))
    have D4:=hid (D2.out.step S4.out M4.out D2.out.cbs);have L4:=hid (L2.out.mod M4.out);have F4:=hid (F2.out.trans (Fr.of_mod M4.out));clear K0 K1 HKS cW D2 L2 F2 AP PR S4 M4
    by_cases h0:x=0
    ·have d1':(x != 0)=false:=by simp [h0]
     have NEW:=hid (show p0l w cb B d t a p y (.slice (some ⟨b,o,none⟩) own.length c) own ls (some ⟨b',o',none⟩) q c2 xs (k+1) d2 w4 from
      ⟨D4.out,L4.out,F4.out,fun d' x' ht=>R.out.rest d' x' (.step hko (by rw [HZ.out,HP.out];rw [h0] at HW;exact HW.out) ht)⟩)
     have hwr:IntKind.i64.wrap ((k:Int)+1)=(k:Int)+1:=IntWalk.i64_in _ (by have:=HL.out;omega);clear h0 D4 L4 F4 HW R HP PO HMM;go_wp2_with fail
     exact ⟨⟨k+1,d2,congrArg (Value.int .i64) (by omega),by omega,NEW.out⟩,by show own.length-((k:Int)+1).toNat<own.length-(k:Int).toNat;omega⟩
    ·have d1':(x != 0)=true:=by simp [h0]
     have FIN:=hid (show g4s own ls d 0 d2 x/\Dr w4 cb B d2 t a p y (.slice (some ⟨b,o,none⟩) own.length c) own/\Fr B cb w w4 from ⟨R.out.rest d2 x (.fail hko (by rw [HZ.out,HP.out];exact HW.out) h0),D4.out,F4.out⟩);clear h0 D4 L4 F4 HW R HP PO HMM;go_wp2_with fail
     go_ret
     exact ⟨d2,x,rfl,FIN.out⟩
   ·have hlsk:ls.getD k []=[]:=by
     have e1:ls=xs.map (·.2.2):=HM.out.symm;rw [e1,List.getD_eq_getElem?_getD,List.getElem?_eq_none (by rw [List.length_map,HQ.out];omega)];rfl
    have AP:=hid ap2;have D2:=hid hdr2;have L2:=hid hli2;have F2:=hid hfr2;have PR:=hid (show g0c W2 {kind:=3,next:=nx} {} from ⟨fun h=>absurd rfl h,fun h=>absurd rfl h,fun h=>absurd rfl h,fun h=>absurd rfl h⟩);have HP:=hid (show h0c own ls k={kind:=3,next:=nx} from by rw [h0c,HNX.out,hlsk]);have PO:=hid (show PgOk {kind:=3,next:=nx} from by
     rw [<- HP.out];exact j6q HI.out (by rw [hlsk];simp))
    clear hlsk ap2 hdr2 hli2 hfr2 b2;go_wp2_with (first | ((with_reducible refine Disk.g0b rfl 103 (.tmp 6) (.tmp 29) rfl _ _ ?_ ?_ P1.out ?_);(next=>rfl);(next=>rfl)))
    have KS:∀ w',Below W2.heap.size W2 w'->w'.cell? ⟨cb,0,none⟩=some (ptr B.ss)/\w'.cell? ⟨wr.heap.size,0,none⟩=some (.int .i64 3)/\w'.cell? ⟨wr.heap.size,1,none⟩=some (.slice none 0 0)/\w'.cell? ⟨wr.heap.size,2,none⟩=some (.slice none 0 0)/\w'.cell? ⟨wr.heap.size,3,none⟩=some (.slice none 0 0)/\w'.cell? ⟨wr.heap.size,4,none⟩=some (.slice none 0 0)/\w'.cell? ⟨wr.heap.size,5,none⟩=some (.int .i64 nx)/\w'.cell? ⟨wr.heap.size,6,none⟩=some (.int .u64 0)/\w'.cell? ⟨wr.heap.size,7,none⟩=some (.int .i64 0)/\w'.cell? ⟨wr.heap.size,8,none⟩=some (.int .i64 0)/\w'.cell? ⟨wr.heap.size,9,none⟩=some (.int .i64 0)/\w'.cell? ⟨wr.heap.size,10,none⟩=some (.int .i64 0):=fun w' hb=>by
     have g1:=(g2f (D2.out.below hb).box).1;have g2:=AP.out.below hb AP.out.1;exact ⟨g1,g2.2.2 0 _ rfl,g2.2.2 1 _ rfl,g2.2.2 2 _ rfl,g2.2.2 3 _ rfl,g2.2.2 4 _ rfl,g2.2.2 5 _ rfl,g2.2.2 6 _ rfl,g2.2.2 7 _ rfl,g2.2.2 8 _ rfl,g2.2.2 9 _ rfl,g2.2.2 10 _ rfl⟩
    have bD:Below W2.heap.size W2 W2.drew:=(Below.refl _ _).drew;have K0:=hid (KS _ bD);have cW:Calls Tryz.prog 159 #[ptr B.ss,.int .i64 z,.agg #[.int .i64 3,.slice none 0 0,.slice none 0 0,.slice none 0 0,.slice none 0 0,.int .i64 nx,.int .u64 0,.int .i64 0,.int .i64 0,.int .i64 0,.int .i64 0]] W2.drew (Wrote B d1 t a z {kind:=3,next:=nx} W2.drew):=g8a (D2.out.below bD).sto z {kind:=3,next:=nx} {} PO.out (PR.out.below bD)
    have BD:=hid bD;have NB:=hid (show wr.heap.size∉B.all from fun e=>Nat.lt_irrefl _ (R.out.dr.sto.lt _ e));have HKS:=hid (show ∀ w',Mod B.all W2 w'->w'.cell? ⟨cb,0,none⟩=some (ptr B.ss)/\w'.cell? ⟨wr.heap.size,0,none⟩=some (.int .i64 3)/\w'.cell? ⟨wr.heap.size,1,none⟩=some (.slice none 0 0)/\w'.cell? ⟨wr.heap.size,2,none⟩=some (.slice none 0 0)/\w'.cell? ⟨wr.heap.size,3,none⟩=some (.slice none 0 0)/\w'.cell? ⟨wr.heap.size,4,none⟩=some (.slice none 0 0)/\w'.cell? ⟨wr.heap.size,5,none⟩=some (.int .i64 nx)/\w'.cell? ⟨wr.heap.size,6,none⟩=some (.int .u64 0)/\w'.cell? ⟨wr.heap.size,7,none⟩=some (.int .i64 0)/\w'.cell? ⟨wr.heap.size,8,none⟩=some (.int .i64 0)/\w'.cell? ⟨wr.heap.size,9,none⟩=some (.int .i64 0)/\w'.cell? ⟨wr.heap.size,10,none⟩=some (.int .i64 0) from fun w' hm=>by
     have g1:=(g2f (g0l D2.out.box hm (fun e=>Nat.lt_irrefl _ (D2.out.low _ e)))).1;have g2:=g0l AP.out hm NB.out;exact ⟨g1,g2.2.2 0 _ rfl,g2.2.2 1 _ rfl,g2.2.2 2 _ rfl,g2.2.2 3 _ rfl,g2.2.2 4 _ rfl,g2.2.2 5 _ rfl,g2.2.2 6 _ rfl,g2.2.2 7 _ rfl,g2.2.2 8 _ rfl,g2.2.2 9 _ rfl,g2.2.2 10 _ rfl⟩)
    clear KS bD;go_region_held3 (fun w'=>w'.cell? ⟨cb,0,none⟩=some (ptr B.ss)/\w'.cell? ⟨wr.heap.size,0,none⟩=some (.int .i64 3)/\w'.cell? ⟨wr.heap.size,1,none⟩=some (.slice none 0 0)/\w'.cell? ⟨wr.heap.size,2,none⟩=some (.slice none 0 0)/\w'.cell? ⟨wr.heap.size,3,none⟩=some (.slice none 0 0)/\w'.cell? ⟨wr.heap.size,4,none⟩=some (.slice none 0 0)/\w'.cell? ⟨wr.heap.size,5,none⟩=some (.int .i64 nx)/\w'.cell? ⟨wr.heap.size,6,none⟩=some (.int .u64 0)/\w'.cell? ⟨wr.heap.size,7,none⟩=some (.int .i64 0)/\w'.cell? ⟨wr.heap.size,8,none⟩=some (.int .i64 0)/\w'.cell? ⟨wr.heap.size,9,none⟩=some (.int .i64 0)/\w'.cell? ⟨wr.heap.size,10,none⟩=some (.int .i64 0))
     (with_reducible (first | exact K0.out | exact K1.out))
     (first
       | (go_at_call 159;(with_reducible refine cW.mono ?_);rintro e w4 ⟨d2,x,rfl,hw,s4,m4⟩
          have M4:=hid ((g0u (B:=B) BD.out).trans m4);have K1:=hid (HKS.out _ M4.out);have S4:=hid s4;have HW:=hid hw;clear s4 hw m4))
    have D4:=hid (D2.out.step S4.out M4.out D2.out.cbs);have L4:=hid (L2.out.mod M4.out);have F4:=hid (F2.out.trans (Fr.of_mod M4.out));clear K0 K1 HKS cW D2 L2 F2 AP PR S4 M4
    by_cases h0:x=0
    ·have d1':(x != 0)=false:=by simp [h0]
     have NEW:=hid (show p0l w cb B d t a p y (.slice (some ⟨b,o,none⟩) own.length c) own ls A2 q c2 xs (k+1) d2 w4 from
      ⟨D4.out,L4.out,F4.out,fun d' x' ht=>R.out.rest d' x' (.step hko (by rw [HZ.out,HP.out];rw [h0] at HW;exact HW.out) ht)⟩)
     have hwr:IntKind.i64.wrap ((k:Int)+1)=(k:Int)+1:=IntWalk.i64_in _ (by have:=HL.out;omega);clear h0 D4 L4 F4 HW R HP PO HMM;go_wp2_with fail
     exact ⟨⟨k+1,d2,congrArg (Value.int .i64) (by omega),by omega,NEW.out⟩,by show own.length-((k:Int)+1).toNat<own.length-(k:Int).toNat;omega⟩
    ·have d1':(x != 0)=true:=by simp [h0]
     have FIN:=hid (show g4s own ls d 0 d2 x/\Dr w4 cb B d2 t a p y (.slice (some ⟨b,o,none⟩) own.length c) own/\Fr B cb w w4 from ⟨R.out.rest d2 x (.fail hko (by rw [HZ.out,HP.out];exact HW.out) h0),D4.out,F4.out⟩);clear h0 D4 L4 F4 HW R HP PO HMM;go_wp2_with fail
     go_ret
     exact ⟨d2,x,rfl,FIN.out⟩
  ·have FIN:=hid (show g4s own ls d 0 d1 0/\Dr wr cb B d1 t a p y (.slice A m c) own/\Fr B cb w wr from ⟨R.out.rest d1 0 (.done (by have:=HMM.out;omega)),R.out.dr,R.out.fr⟩);clear R;go_wp2_with fail
   go_ret
   exact ⟨d1,0,rfl,FIN.out.1,by rw [HMM.out];exact FIN.out.2.1,FIN.out.2.2⟩
open Pool (Po NAt PoAt La poC poV numV At g0k g1g g1k g2m g0g OwnI chunks layAll)
def g4d (p:Pg) (t:T) (own:List Int):Pg:={p with high:=t.pool.high,next:=own.headD p.next}
theorem Fr.set (B:Blk) {cb:Nat} (w:World) (i:Nat) (v:Value):Fr B cb w (w.setCell ⟨cb,i,none⟩ v):=(g0z w cb i v).mono (fun x hx=>by rw [List.mem_singleton] at hx;rw [hx];exact List.mem_cons_self ..)
theorem Dr.put {w:World} {cb:Nat} {B:Blk} {d:St} {t:T} {a:Lys} {p p':Pg} {y:Lay} {v:Value} {own:List Int} (h:Dr w cb B d t a p y v own) (i:Nat) (u:Value) (hb:At (w.setCell ⟨cb,i,none⟩ u) cb (draC B p' y v)):Dr (w.setCell ⟨cb,i,none⟩ u) cb B d t a p' y v own :=
 ⟨h.sto.other (g0z w cb i u) (fun e=>Nat.lt_irrefl _ (h.low cb e)) h.cbs,hb,h.low,h.lowx,h2w h.own (g0z w cb i u) (fun x hx=>by rw [List.mem_singleton] at hx;omega),h.cbs⟩
theorem g9p {w:World} {cb:Nat} {B:Blk} {p:Pg} {y:Lay} {v:Value} (h:At w cb (draC B p y v)):w.cell? ⟨cb,1,none⟩=some (.int .i64 p.kind)/\w.cell? ⟨cb,2,none⟩=some (.slice y.A1 p.pairs.length y.c1)/\w.cell? ⟨cb,3,none⟩=some (.slice y.A2 p.keys.length y.c2)/\w.cell? ⟨cb,4,none⟩=some (.slice y.A3 p.kids.length y.c3)/\w.cell? ⟨cb,5,none⟩=some (.slice y.A4 p.pages.length y.c4)/\w.cell? ⟨cb,6,none⟩=some (.int .i64 p.next)/\w.cell? ⟨cb,7,none⟩=some (.int .u64 (p.epoch:Int))/\w.cell? ⟨cb,8,none⟩=some (.int .i64 p.root)/\w.cell? ⟨cb,9,none⟩=some (.int .i64 p.depth)/\w.cell? ⟨cb,10,none⟩=some (.int .i64 p.count)/\w.cell? ⟨cb,11,none⟩=some (.int .i64 p.high) :=
 ⟨h.2.2 1 _ rfl,h.2.2 2 _ rfl,h.2.2 3 _ rfl,h.2.2 4 _ rfl,h.2.2 5 _ rfl,h.2.2 6 _ rfl,h.2.2 7 _ rfl,h.2.2 8 _ rfl,h.2.2 9 _ rfl,h.2.2 10 _ rfl,h.2.2 11 _ rfl⟩
theorem h9o {p:Po} {N:Int} (h:g0g p N) (hN:N<=4096):I64 p.high:=⟨by have:=h.low;omega,by have:=h.top;omega⟩
theorem j6m {p:Pg} {t:T} {own:List Int} (h:PgOk p) (hh:I64 t.pool.high) (hI:∀ x∈own,I64 x):PgOk (g4d p t own) :=
 ⟨h.kind,h.pairs,h.keys,h.kids,h.pages,by
  show Page.I64 (own.headD p.next);rcases own with _ | ⟨x,l⟩
  ·exact h.next
  ·exact hI x (List.mem_cons_self ..),h.epoch,h.root,h.depth,h.count,hh⟩
theorem k2r {w:World} {cb:Nat} {B:Blk} {d:St} {t:T} {a:Lys} {p:Pg} {y:Lay} {v:Value} {own:List Int} (h:Dr w cb B d t a p y v own) (hok:PgOk p) (hbr:Bare p) (hI:∀ x∈own,I64 x) :
 Calls Tryz.prog 109 #[ptr cb] w (fun e w'=>∃ d' x,e=.returned (numV x)/\g7v d ((p.epoch % 2:Nat):Int) (g4d p t own) d' x/\Dr w' cb B d' t a (g4d p t own) y v own/\Fr B cb w w'):=by
 obtain ⟨A,c,rfl,hN⟩:=g5y h.own;have hph:=h9o h.sto.pk (by have:=h.sto.dev.nle;omega);have hL:=j6m (t:=t) hok hph hI;have hLb:Bare (g4d p t own):=⟨hbr.pairs,hbr.keys,hbr.kids,hbr.pages⟩;obtain ⟨hi,hhi⟩:∃ hi,t.pool.high=hi:=⟨_,rfl⟩;obtain ⟨k0,k12⟩:=g2f h.box;have s16:=h.sto.cells.2.1;rw [hhi] at s16;have r11:=(g9p h.box).2.2.2.2.2.2.2.2.2.2;have r6:=(g9p h.box).2.2.2.2.2.1
 have fz:=h.box.2.1;have D1:Dr (w.setCell ⟨cb,11,none⟩ (.int .i64 hi)) cb B d t a {p with high:=hi} y (.slice A own.length c) own:=h.put 11 _ (h.box.set 11 _ (by simp));obtain ⟨sn,hsn⟩:∃ sn:Int,((p.epoch % 2:Nat):Int)=sn:=⟨_,rfl⟩;have he2:IntKind.i64.wrap ((p.epoch:Int).tmod 2)=sn:=by
  have e1:(p.epoch:Int).tmod 2=sn:=by rw [Int.tmod_eq_emod_of_nonneg (by omega)];omega
  rw [e1];exact IntWalk.i64_in _ (by omega)
 rw [hsn];clear hsn;have HOK:=hid hL;have HB:=hid hLb;have HEP:=hid hok.epoch;have NS:=hid (show cb≠B.ss from fun e=>Nat.lt_irrefl cb (h.low cb (by rw [e];simp [Blk.all])))
 by_cases hz:own=[]
 ·subst hz;have hlp:g4d p t []={p with high:=hi}:=by rw [<- hhi];rfl
  rw [hlp] at HOK HB ⊢;have F2:=hid (show Fr B cb w (w.setCell ⟨cb,11,none⟩ (.int .i64 hi)) from Fr.set B w 11 _);have D2:=hid D1;obtain ⟨k0',k12'⟩:=g2f D1.box;obtain ⟨W2,hW2⟩:∃ W2,w.setCell ⟨cb,11,none⟩ (.int .i64 hi)=W2:=⟨_,rfl⟩;rw [hW2] at D2 F2 k12' k0';have LP:=hid hlp;clear D1 h hN hok hbr hI hph hL hLb hlp;go_enter Tryz.func109,Tryz.ntmps109
  have KS:∀ w',Below W2.heap.size W2 w'->w'.cell? ⟨cb,0,none⟩=some (ptr B.ss)/\w'.cell? ⟨cb,1,none⟩=some (.int .i64 p.kind)/\w'.cell? ⟨cb,2,none⟩=some (.slice y.A1 p.pairs.length y.c1)/\w'.cell? ⟨cb,3,none⟩=some (.slice y.A2 p.keys.length y.c2)/\w'.cell? ⟨cb,4,none⟩=some (.slice y.A3 p.kids.length y.c3)/\w'.cell? ⟨cb,5,none⟩=some (.slice y.A4 p.pages.length y.c4)/\w'.cell? ⟨cb,6,none⟩=some (.int .i64 p.next)/\w'.cell? ⟨cb,7,none⟩=some (.int .u64 (p.epoch:Int))/\w'.cell? ⟨cb,8,none⟩=some (.int .i64 p.root)/\w'.cell? ⟨cb,9,none⟩=some (.int .i64 p.depth)/\w'.cell? ⟨cb,10,none⟩=some (.int .i64 p.count)/\w'.cell? ⟨cb,11,none⟩=some (.int .i64 hi):=fun w' hb=>by
   have g:=D2.out.below hb;exact ⟨(g2f g.box).1,g9p g.box⟩
  have bD:Below W2.heap.size W2 W2.drew:=(Below.refl _ _).drew;have K0:=hid (KS _ bD);have cW:Calls Tryz.prog 159 #[ptr B.ss,.int .i64 sn,.agg #[.int .i64 p.kind,.slice y.A1 p.pairs.length y.c1,.slice y.A2 p.keys.length y.c2,.slice y.A3 p.kids.length y.c3,.slice y.A4 p.pages.length y.c4,.int .i64 p.next,.int .u64 (p.epoch:Int),.int .i64 p.root,.int .i64 p.depth,.int .i64 p.count,.int .i64 hi]] W2.drew (Wrote B d t a sn {p with high:=hi} W2.drew):=g8a (D2.out.below bD).sto _ {p with high:=hi} y HOK.out (HB.out.rows _ _)
  have BD:=hid bD;have HKS:=hid (show ∀ w',Mod B.all W2 w'->w'.cell? ⟨cb,0,none⟩=some (ptr B.ss)/\w'.cell? ⟨cb,1,none⟩=some (.int .i64 p.kind)/\w'.cell? ⟨cb,2,none⟩=some (.slice y.A1 p.pairs.length y.c1)/\w'.cell? ⟨cb,3,none⟩=some (.slice y.A2 p.keys.length y.c2)/\w'.cell? ⟨cb,4,none⟩=some (.slice y.A3 p.kids.length y.c3)/\w'.cell? ⟨cb,5,none⟩=some (.slice y.A4 p.pages.length y.c4)/\w'.cell? ⟨cb,6,none⟩=some (.int .i64 p.next)/\w'.cell? ⟨cb,7,none⟩=some (.int .u64 (p.epoch:Int))/\w'.cell? ⟨cb,8,none⟩=some (.int .i64 p.root)/\w'.cell? ⟨cb,9,none⟩=some (.int .i64 p.depth)/\w'.cell? ⟨cb,10,none⟩=some (.int .i64 p.count)/\w'.cell? ⟨cb,11,none⟩=some (.int .i64 hi) from fun w' hm=>by
   have g:=g0l D2.out.box hm (fun e=>Nat.lt_irrefl _ (D2.out.low _ e));exact ⟨(g2f g).1,g9p g⟩)
  clear KS bD;go_wp2_with fail
  clear s16 r11 r6 fz hW2 k12;go_region_held3 (fun w'=>w'.cell? ⟨cb,0,none⟩=some (ptr B.ss)/\w'.cell? ⟨cb,1,none⟩=some (.int .i64 p.kind)/\w'.cell? ⟨cb,2,none⟩=some (.slice y.A1 p.pairs.length y.c1)/\w'.cell? ⟨cb,3,none⟩=some (.slice y.A2 p.keys.length y.c2)/\w'.cell? ⟨cb,4,none⟩=some (.slice y.A3 p.kids.length y.c3)/\w'.cell? ⟨cb,5,none⟩=some (.slice y.A4 p.pages.length y.c4)/\w'.cell? ⟨cb,6,none⟩=some (.int .i64 p.next)/\w'.cell? ⟨cb,7,none⟩=some (.int .u64 (p.epoch:Int))/\w'.cell? ⟨cb,8,none⟩=some (.int .i64 p.root)/\w'.cell? ⟨cb,9,none⟩=some (.int .i64 p.depth)/\w'.cell? ⟨cb,10,none⟩=some (.int .i64 p.count)/\w'.cell? ⟨cb,11,none⟩=some (.int .i64 hi))
   (with_reducible (first | exact K0.out | exact K1.out))
   (first
     | (go_at_call 159;(with_reducible refine cW.mono ?_);rintro e w4 ⟨d2,x,rfl,hw,s4,m4⟩
        have M4:=hid ((g0u (B:=B) BD.out).trans m4);have K1:=hid (HKS.out _ M4.out);have S4:=hid s4;have HW:=hid hw;clear s4 hw m4))
  have FIN:=hid (show Dr w4 cb B d2 t a {p with high:=hi} y _ _/\Fr B cb w w4 from ⟨D2.out.step S4.out M4.out D2.out.cbs,F2.out.trans (Fr.of_mod M4.out)⟩);clear K0 K1 HKS cW D2 F2 S4 M4;go_wp2_with fail
  go_ret
  exact ⟨d2,x,rfl,HW.out,FIN.out⟩
 ·obtain ⟨z,l,rfl⟩:∃ z l,own=z :: l:=by
   rcases own with _ | ⟨z,l⟩
   ·exact absurd rfl hz
   ·exact ⟨z,l,rfl⟩
  obtain ⟨b,o,rfl,hbl,hc⟩:=hN.row (by simp);have hc0:=hc 0 (by simp);have hz0:b≠cb:=by
   have:=(g1v h.own (g:=b) rfl).1;omega
  have hc0:(w.setCell ⟨cb,11,none⟩ (.int .i64 hi)).cell? ⟨b,o,none⟩=some (.int .i64 z):=((g0z w cb 11 _).cell (p:=⟨b,o,none⟩) hbl (by simpa using hz0)).trans (by simpa using hc0);obtain ⟨nx,hnx⟩:∃ nx,z=nx:=⟨_,rfl⟩;subst hnx;have hlp:g4d p t (z :: l)={p with high:=hi,next:=z}:=by rw [<- hhi];rfl
  rw [hlp] at HOK HB ⊢;obtain ⟨m,hm⟩:∃ m,(z :: l).length=m:=⟨_,rfl⟩;have hm0:0<m:=by rw [<- hm];simp
  rw [hm] at k12 D1;have D2:=hid (show Dr ((w.setCell ⟨cb,11,none⟩ (.int .i64 hi)).setCell ⟨cb,6,none⟩ (.int .i64 z)) cb B d t a {p with high:=hi,next:=z} y (.slice (some ⟨b,o,none⟩) m c) (z :: l) from D1.put 6 _ (D1.box.set 6 _ (by simp)));have F2:=hid (show Fr B cb w ((w.setCell ⟨cb,11,none⟩ (.int .i64 hi)).setCell ⟨cb,6,none⟩ (.int .i64 z)) from (Fr.set B w 11 _).trans (Fr.set B _ 6 _));obtain ⟨k0',k12'⟩:=g2f D1.box
  have r6':=(g9p D1.box).2.2.2.2.2.1;have fz':=D1.box.2.1;obtain ⟨W1,hW1⟩:∃ W1,w.setCell ⟨cb,11,none⟩ (.int .i64 hi)=W1:=⟨_,rfl⟩;rw [hW1] at D2 F2 k12' k0' r6' hc0 fz';obtain ⟨W2,hW2⟩:∃ W2,W1.setCell ⟨cb,6,none⟩ (.int .i64 z)=W2:=⟨_,rfl⟩;rw [hW2] at D2 F2;have k0'':=(g2f D2.out.box).1;have MM:=hid hm;rw [hm];clear D1 h hN hok hbr hI hph hL hLb hlp hc hz hm;go_enter Tryz.func109,Tryz.ntmps109
  have KS:∀ w',Below W2.heap.size W2 w'->w'.cell? ⟨cb,0,none⟩=some (ptr B.ss)/\w'.cell? ⟨cb,1,none⟩=some (.int .i64 p.kind)/\w'.cell? ⟨cb,2,none⟩=some (.slice y.A1 p.pairs.length y.c1)/\w'.cell? ⟨cb,3,none⟩=some (.slice y.A2 p.keys.length y.c2)/\w'.cell? ⟨cb,4,none⟩=some (.slice y.A3 p.kids.length y.c3)/\w'.cell? ⟨cb,5,none⟩=some (.slice y.A4 p.pages.length y.c4)/\w'.cell? ⟨cb,6,none⟩=some (.int .i64 z)/\w'.cell? ⟨cb,7,none⟩=some (.int .u64 (p.epoch:Int))/\w'.cell? ⟨cb,8,none⟩=some (.int .i64 p.root)/\w'.cell? ⟨cb,9,none⟩=some (.int .i64 p.depth)/\w'.cell? ⟨cb,10,none⟩=some (.int .i64 p.count)/\w'.cell? ⟨cb,11,none⟩=some (.int .i64 hi):=fun w' hb=>by
   have g:=D2.out.below hb;exact ⟨(g2f g.box).1,g9p g.box⟩
  have bD:Below W2.heap.size W2 W2.drew:=(Below.refl _ _).drew;have K0:=hid (KS _ bD);have cW:Calls Tryz.prog 159 #[ptr B.ss,.int .i64 sn,.agg #[.int .i64 p.kind,.slice y.A1 p.pairs.length y.c1,.slice y.A2 p.keys.length y.c2,.slice y.A3 p.kids.length y.c3,.slice y.A4 p.pages.length y.c4,.int .i64 z,.int .u64 (p.epoch:Int),.int .i64 p.root,.int .i64 p.depth,.int .i64 p.count,.int .i64 hi]] W2.drew (Wrote B d t a sn {p with high:=hi,next:=z} W2.drew):=g8a (D2.out.below bD).sto _ {p with high:=hi,next:=z} y HOK.out (HB.out.rows _ _)
  have BD:=hid bD;have HKS:=hid (show ∀ w',Mod B.all W2 w'->w'.cell? ⟨cb,0,none⟩=some (ptr B.ss)/\w'.cell? ⟨cb,1,none⟩=some (.int .i64 p.kind)/\w'.cell? ⟨cb,2,none⟩=some (.slice y.A1 p.pairs.length y.c1)/\w'.cell? ⟨cb,3,none⟩=some (.slice y.A2 p.keys.length y.c2)/\w'.cell? ⟨cb,4,none⟩=some (.slice y.A3 p.kids.length y.c3)/\w'.cell? ⟨cb,5,none⟩=some (.slice y.A4 p.pages.length y.c4)/\w'.cell? ⟨cb,6,none⟩=some (.int .i64 z)/\w'.cell? ⟨cb,7,none⟩=some (.int .u64 (p.epoch:Int))/\w'.cell? ⟨cb,8,none⟩=some (.int .i64 p.root)/\w'.cell? ⟨cb,9,none⟩=some (.int .i64 p.depth)/\w'.cell? ⟨cb,10,none⟩=some (.int .i64 p.count)/\w'.cell? ⟨cb,11,none⟩=some (.int .i64 hi) from fun w' hm=>by
   have g:=g0l D2.out.box hm (fun e=>Nat.lt_irrefl _ (D2.out.low _ e));exact ⟨(g2f g).1,g9p g⟩)
  clear KS bD;go_wp2_with fail
  clear s16 r11 r6 fz hW2 k12;go_region_held3 (fun w'=>w'.cell? ⟨cb,0,none⟩=some (ptr B.ss)/\w'.cell? ⟨cb,1,none⟩=some (.int .i64 p.kind)/\w'.cell? ⟨cb,2,none⟩=some (.slice y.A1 p.pairs.length y.c1)/\w'.cell? ⟨cb,3,none⟩=some (.slice y.A2 p.keys.length y.c2)/\w'.cell? ⟨cb,4,none⟩=some (.slice y.A3 p.kids.length y.c3)/\w'.cell? ⟨cb,5,none⟩=some (.slice y.A4 p.pages.length y.c4)/\w'.cell? ⟨cb,6,none⟩=some (.int .i64 z)/\w'.cell? ⟨cb,7,none⟩=some (.int .u64 (p.epoch:Int))/\w'.cell? ⟨cb,8,none⟩=some (.int .i64 p.root)/\w'.cell? ⟨cb,9,none⟩=some (.int .i64 p.depth)/\w'.cell? ⟨cb,10,none⟩=some (.int .i64 p.count)/\w'.cell? ⟨cb,11,none⟩=some (.int .i64 hi))
   (with_reducible (first | exact K0.out | exact K1.out))
   (first
     | (go_at_call 159;(with_reducible refine cW.mono ?_);rintro e w4 ⟨d2,x,rfl,hw,s4,m4⟩
        have M4:=hid ((g0u (B:=B) BD.out).trans m4);have K1:=hid (HKS.out _ M4.out);have S4:=hid s4;have HW:=hid hw;clear s4 hw m4))
  have FIN:=hid (show Dr w4 cb B d2 t a {p with high:=hi,next:=z} y _ _/\Fr B cb w w4 from ⟨D2.out.step S4.out M4.out D2.out.cbs,F2.out.trans (Fr.of_mod M4.out)⟩);clear K0 K1 HKS cW D2 F2 S4 M4;go_wp2_with fail
  go_ret
  exact ⟨d2,x,rfl,HW.out,FIN.out⟩
open Pool (numV)
abbrev encF (x:Nat×Nat):Value:=.func (.func x.1) #[ptr x.2] #[]
structure p3u (A:Option Addr) (fs:List (Nat×Nat)) (R:Nat->World->Prop) (k:Nat) (wr:World):Prop where
 here:R k wr
 row:RowG wr encF A fs
theorem k8p {w:World} {A:Option Addr} {n c:Nat} (fs:List (Nat×Nat)) (hn:fs.length=n) (hmax:n<=1000) (R:Nat->World->Prop) (Q:Int->World->Prop)
 (hrow:∀ i wr,R i wr->RowG wr encF A fs) (h0:R 0 w) (he:∀ x∈fs,∀ args w,(callFunc x.1 args).run Tryz.prog w=.ok (.enter x.1 args) w)
 (hs:∀ i (hi:i<fs.length) wr,R i wr->Calls Tryz.prog fs[i].1 #[ptr fs[i].2] wr (fun e w'=>∃ x,e=.returned (numV x)/\(x=0->R (i+1) w')/\(x≠0->Q x w'))) :
 Calls Tryz.prog 105 #[.slice A n c] w (fun e w'=>∃ x,e=.returned (numV x)/\(x=0->R n w')/\(x≠0->Q x w')):=by
 have HROW:=hid hrow;have H0:=hid h0;have HE:=hid he;have HS:=hid hs;have HN:=hid hn;have HM:=hid hmax;clear hrow h0 he hs hn hmax;have hmf:∀ (fn:Fn) (first cap:Array Value) (w:World),(Instr.makeFunc fn first cap).run Tryz.prog w=.ok (.func fn first cap) w:=fun _ _ _ _=>rfl
 go_enter Tryz.func105,Tryz.ntmps105
 go_wp2_with fail
 go_loopw [8] (fun i wr=>∃ k:Nat,i=.int .i64 (k:Int)/\k<=n/\p3u A fs R k wr) (fun i _=>n-(intOf i).toNat)
 case atStart=>exact ⟨0,rfl,Nat.zero_le _,H0.out,HROW.out 0 _ H0.out⟩
 case round =>
  obtain ⟨k,rfl,hk,hr⟩:=hrel;have HR:=hid hr;clear hr
  by_cases hlt:k<n
  ·have hkf:k<fs.length:=by have:=HN.out;omega
   obtain ⟨b,o,rfl,hbl,hc⟩:=HR.out.row (by intro e;rw [e] at hkf;simp at hkf);have hcell:=hc k hkf;have cS:=HS.out k hkf wr HR.out.here;have eg:=HE.out _ (List.getElem_mem hkf);obtain ⟨⟨f,x⟩,hx⟩:∃ z,fs[k]=z:=⟨_,rfl⟩;rw [hx] at hcell cS eg;have hcell:wr.cell? ⟨b,o+k,none⟩=some (.func (.func f) #[ptr x] #[]):=hcell;have cS:Calls Tryz.prog f #[ptr x] wr (fun e w'=>∃ x,e=.returned (numV x)/\(x=0->R (k+1) w')/\(x≠0->Q x w')):=cS
   have eg:∀ args w,(callFunc f args).run Tryz.prog w=.ok (.enter f args) w:=eg;have hwr:IntKind.i64.wrap ((k:Int)+1)=(k:Int)+1:=IntWalk.i64_in _ (by have:=HM.out;omega);clear hc hx;go_wp2_with fail
   refine cS.mono ?_;rintro e w2 ⟨y,rfl,hz,hnz⟩;have HZ:=hid hz;have HNZ:=hid hnz;clear hz hnz cS hcell
   by_cases h0:y=0
   ·have d1:(y != 0)=false:=by simp [h0]
    have NEW:=hid (HZ.out h0);have NROW:=hid (HROW.out _ _ NEW.out);clear h0;go_wp2_with fail
    exact ⟨⟨k+1,congrArg (Value.int .i64) (by omega),by omega,NEW.out,NROW.out⟩,by show n-((k:Int)+1).toNat<n-(k:Int).toNat;omega⟩
   ·have d1:(y != 0)=true:=by simp [h0]
    have FIN:=hid (show y=0->R n w2 from fun e=>absurd e h0);clear h0;go_wp2_with fail
    go_ret
    exact ⟨y,rfl,FIN.out,HNZ.out⟩
  ·have FIN:=hid (show R n wr from by have:=HR.out.here;rwa [show k=n by omega] at this);clear HR;go_wp2_with fail
   go_ret
   exact ⟨0,rfl,fun _=>FIN.out,fun e=>absurd rfl e⟩
open Pool (Po NAt PoAt La poC poV numV At g0k g1g g1k g2m g0g OwnI chunks layAll May lay1 g3u g5v)
def Live (p:Po) (x:Int):Prop:=2<=x/\x<p.high/\x∉p.free
structure Inv (t:T):Prop where
 limbo:t.base.limbo=[]
 high:t.base.high<=t.pool.high
 live:∀ x,Live t.base x->x∉t.pool.free
 fresh:∀ x,t.fresh x=true->2<=x/\x<t.pool.high/\x∉t.pool.free/\¬ Live t.base x
structure Part (t t':T):Prop where
 own:t'.own=t.own
 base:t'.base=t.base
 sup:t'.sup=t.sup
theorem Part.refl (t:T):Part t t:=⟨rfl,rfl,rfl⟩
theorem Part.trans {a b c:T} (h:Part a b) (k:Part b c):Part a c:=⟨k.own.trans h.own,k.base.trans h.base,k.sup.trans h.sup⟩
structure Out (t:T) (n:Int):Prop where
 low:2<=n
 top:n<t.pool.high
 free:n∉t.pool.free
 live:¬ Live t.base n
theorem Inv.out {t:T} (h:Inv t) {x:Int} (hx:t.fresh x=true):Out t x:=⟨(h.fresh x hx).1,(h.fresh x hx).2.1,(h.fresh x hx).2.2.1,(h.fresh x hx).2.2.2⟩
theorem Inv.abort {t:T} (h:Inv t):Inv (g3w t):=⟨h.limbo,Int.le_refl _,fun x hx=>hx.2.2,fun x hx=>by simp [g3w] at hx⟩
theorem j9a (t:T):Part t (g3w t):=⟨rfl,rfl,rfl⟩
theorem Inv.ended {t:T} (h:Inv t) (e:Int):Inv (endT t e):=by
 rw [endT]
 split
 ·exact h
 ·exact h.abort
theorem k8f (t:T) (e:Int):Part t (endT t e):=by
 rw [endT]
 split
 ·exact Part.refl t
 ·exact j9a t
theorem k0y {p:Po} {n:Int} (he:(g1g p n).2=0):(g1g p n).1.high=p.high/\(g1g p n).1.free=p.free/\(∀ x,x∈(g1g p n).1.limbo↔x=n\/x∈p.limbo)/\May p n:=by
 unfold g1g at *
 by_cases hm:May p n
 ·rw [if_pos hm];exact ⟨rfl,rfl,fun x=>g3u p.limbo n x,hm⟩
 ·rw [if_neg hm] at he;simp at he
theorem k4f {p:Po} {n:Int} (he:(g1k p n).2=0):(g1k p n).1.high=p.high/\(g1k p n).1.limbo=p.limbo/\(∀ x,x∈(g1k p n).1.free↔x=n\/x∈p.free)/\May p n:=by
 unfold g1k at *
 by_cases hm:May p n
 ·rw [if_pos hm];exact ⟨rfl,rfl,fun x=>g3u p.free n x,hm⟩
 ·rw [if_neg hm] at he;simp at he
theorem g5g {t:T} {N:Int} (h:g0g t.pool N):g0g (g0h t N).1.pool N:=by
 rw [g0h]
 by_cases h0:(g0k t.pool N).2.2=0
 ·rw [if_pos h0];exact h2p h h0
 ·rw [if_neg h0];exact h
theorem h8u {t:T} {n:Int} {N:Int} (h:g0g t.pool N):g0g (g2k t n).1.pool N:=by
 rw [g2k]
 by_cases h0:(g1g t.pool n).2=0
 ·rw [if_pos h0];exact (k3o h h0).1
 ·rw [if_neg h0];exact h
theorem h8n {t:T} {n:Int} {N:Int} (h:g0g t.pool N):g0g (g2r t n).1.pool N:=by
 rw [g2r]
 by_cases h0:(g1k t.pool n).2=0
 ·rw [if_pos h0];exact (k2g h h0).1
 ·rw [if_neg h0];exact h
theorem Inv.take {t:T} {N:Int} (h:Inv t) (hk:g0g t.pool N):Inv (g0h t N).1/\Part t (g0h t N).1/\(g0h t N).1.fresh=t.fresh/\t.pool.high<=(g0h t N).1.pool.high/\(g0h t N).1.pool.limbo=t.pool.limbo/\(∀ x∈(g0h t N).1.pool.free,x∈t.pool.free) /\
 ((g0h t N).2.2=0->Out (g0h t N).1 (g0h t N).2.1/\(g0h t N).2.1∉t.pool.limbo/\t.fresh (g0h t N).2.1=false/\((g0h t N).2.1∈t.pool.free\/(g0h t N).2.1=t.pool.high)):=by
 rw [g0h]
 by_cases h0:(g0k t.pool N).2.2=0
 ·rw [if_pos h0];obtain ⟨k1,k2,k3,k4,k5,k6,k7,k8,k9⟩:=h0k hk h0;refine ⟨⟨h.limbo,Int.le_trans h.high k7,fun x hx hf=>h.live x hx (k9 x hf),fun x hx=>?_⟩,⟨rfl,rfl,rfl⟩,rfl,k7,k6,k9,fun _=>⟨⟨k1,k8,k4,fun hl=>?_⟩,k5,?_,k3⟩⟩
  ·have g:=h.out hx;exact ⟨g.low,Int.lt_of_lt_of_le g.top k7,fun hf=>g.free (k9 x hf),g.live⟩
  ·rcases k3 with e | e
   ·exact h.live _ hl e
   ·have:=hl.2.1;have:=h.high;show False;simp only at *;omega
  ·cases hf:t.fresh (g0k t.pool N).2.1
   ·rfl
   ·exfalso
    have g:=h.out hf;rcases k3 with e | e
    ·exact g.free e
    ·have:=g.top;omega
 ·rw [if_neg h0];exact ⟨h,Part.refl t,rfl,Int.le_refl _,rfl,fun _=>id,fun e=>absurd e h0⟩
theorem Inv.give {t:T} (h:Inv t) (n:Int):Inv (g2k t n).1/\Part t (g2k t n).1/\(g2k t n).1.fresh=t.fresh/\(g2k t n).1.pool.high=t.pool.high/\(g2k t n).1.pool.free=t.pool.free/\(∀ x∈(g2k t n).1.pool.limbo,x=n\/x∈t.pool.limbo):=by
 rw [g2k]
 by_cases h0:(g1g t.pool n).2=0
 ·rw [if_pos h0];obtain ⟨k1,k2,k3,k4⟩:=k0y h0;refine ⟨⟨h.limbo,by show _<=(g1g t.pool n).1.high;rw [k1];exact h.high,fun x hx=>by show x∉(g1g t.pool n).1.free;rw [k2];exact h.live x hx,fun x hx=>?_⟩,⟨rfl,rfl,rfl⟩,rfl,k1,k2,fun x hx=>(k3 x).1 hx⟩;have g:=h.out hx;exact ⟨g.low,by show x<(g1g t.pool n).1.high;rw [k1];exact g.top,by show x∉(g1g t.pool n).1.free;rw [k2];exact g.free,g.live⟩
 ·rw [if_neg h0];exact ⟨h,Part.refl t,rfl,rfl,rfl,fun x hx=>.inr hx⟩
theorem Inv.back {t:T} {n:Int} (h:Inv t) (hl:¬ Live t.base n) (hn:∀ x,t.fresh x=true->x≠n):Inv (g2r t n).1/\Part t (g2r t n).1/\(g2r t n).1.fresh=t.fresh:=by
 rw [g2r]
 by_cases h0:(g1k t.pool n).2=0
 ·rw [if_pos h0];obtain ⟨k1,k2,k3,k4⟩:=k4f h0;refine ⟨⟨h.limbo,by show _<=(g1k t.pool n).1.high;rw [k1];exact h.high,fun x hx hf=>?_,fun x hx=>?_⟩,⟨rfl,rfl,rfl⟩,rfl⟩
  ·rcases (k3 x).1 hf with e | e
   ·rw [e] at hx;exact hl hx
   ·exact h.live x hx e
  ·have g:=h.out hx;refine ⟨g.low,by show x<(g1k t.pool n).1.high;rw [k1];exact g.top,fun hf=>?_,g.live⟩;rcases (k3 x).1 hf with e | e
   ·exact hn x hx e
   ·exact g.free e
 ·rw [if_neg h0];exact ⟨h,Part.refl t,rfl⟩
theorem Inv.off {t:T} (h:Inv t) (n:Int):Inv (frT t n false):=⟨h.limbo,h.high,h.live,fun x hx=>h.fresh x (by
 have hx':fup t.fresh n false x=true:=hx;unfold fup at hx'
 split at hx'
 ·cases hx'
 ·exact hx')⟩
theorem Inv.on {t:T} (h:Inv t) {n:Int} (ho:Out t n):Inv (frT t n true):=⟨h.limbo,h.high,h.live,fun x hx=>by
 have hx':fup t.fresh n true x=true:=hx;unfold fup at hx'
 split at hx'
 ·rename_i e
  rw [e];exact ⟨ho.low,ho.top,ho.free,ho.live⟩
 ·exact h.fresh x hx'⟩
theorem h8m (t:T) (n:Int) (v:Bool):Part t (frT t n v):=⟨rfl,rfl,rfl⟩
theorem j0m (f:Int->Bool) (n:Int) (v:Bool):fup f n v n=v:=by simp [fup]
theorem Inv.place {t:T} {N:Int} (h:Inv t) (hk:g0g t.pool N) (old:Int):Inv (g0x t N old).1/\Part t (g0x t N old).1/\((g0x t N old).2.2=0->(g0x t N old).1.fresh (g0x t N old).2.1=true):=by
 rw [g0x]
 by_cases hf:t.fresh old=true
 ·rw [if_pos hf];exact ⟨h,Part.refl t,fun _=>hf⟩
 have hf':t.fresh old=false:=by simpa using hf
 rw [if_neg hf];obtain ⟨i1,p1,f1,g1,l1,s1,o1⟩:=h.take hk
 by_cases h1:(g0h t N).2.2=0
 ·rw [if_pos h1];obtain ⟨o1,_,n1,-⟩:=o1 h1
  by_cases h2:old=0
  ·rw [if_pos h2];exact ⟨i1.on o1,p1.trans (h8m _ _ _),fun _=>j0m _ _ _⟩
  ·rw [if_neg h2];obtain ⟨i2,p2,f2,hg2,hf2,hl2⟩:=i1.give old
   by_cases h3:(g2k (g0h t N).1 old).2=0
   ·rw [if_pos h3];exact ⟨i2.on ⟨o1.low,by rw [hg2];exact o1.top,by rw [hf2];exact o1.free,by rw [p2.base];exact o1.live⟩,p1.trans (p2.trans (h8m _ _ _)),fun _=>j0m _ _ _⟩
   ·rw [if_neg h3];have i3:=(i2.back (n:=(g0h t N).2.1) (by rw [p2.base];exact o1.live) (fun x hx e=>by
     rw [f2,f1] at hx;rw [e,n1] at hx;cases hx))
    exact ⟨i3.1,p1.trans (p2.trans i3.2.1),fun e=>absurd e h3⟩
 ·rw [if_neg h1];exact ⟨i1,p1,fun e=>absurd e h1⟩
theorem p2l (t:T) (n m:Int) (v:Bool):(g2r (frT t m v) n).1=frT (g2r t n).1 m v:=by
 unfold g2r frT;show (if (g1k t.pool n).2=0 then _ else _:T×Int).1=_
 split <;> rfl
theorem Inv.drop {t:T} (h:Inv t) (n:Int):Inv (g1n t n).1/\Part t (g1n t n).1:=by
 rw [g1n]
 by_cases hf:t.fresh n=true
 ·rw [if_pos hf];have i:=(h.off n).back (n:=n) (h.out hf).live (fun x hx e=>by
   rw [e] at hx;have hx':fup t.fresh n false n=true:=hx;rw [j0m] at hx';cases hx')
  by_cases h1:(g2r t n).2=0
  ·rw [if_pos h1];rw [p2l] at i;exact ⟨i.1,(h8m t n false).trans i.2.1⟩
  ·rw [if_neg h1];have e:(g2r t n).1=t:=by
    rw [g2r] at h1 ⊢
    by_cases h2:(g1k t.pool n).2=0
    ·rw [if_pos h2] at h1;exact absurd rfl h1
    ·rw [if_neg h2]
   rw [e];exact ⟨h,Part.refl t⟩
 ·rw [if_neg hf];have i:=h.give n;exact ⟨i.1,i.2.1⟩
def g2c (t:T) (l:List Int):T:=l.foldl (fun t n=>(g1n t n).1) t
theorem j0o (t:T) (l:List Int) (k:Nat) (h:k<l.length):g2c t (l.take (k+1))=(g1n (g2c t (l.take k)) l[k]).1:=by
 rw [List.take_succ_eq_append_getElem h,g2c,List.foldl_append];rfl
theorem Inv.drops:∀ (l:List Int) {t:T},Inv t->Inv (g2c t l)/\Part t (g2c t l)
 | [],t,h=>⟨h,Part.refl t⟩
 | n :: l,t,h=>by
  have h1:=h.drop n;have h2:=Inv.drops l h1.1;exact ⟨h2.1,h1.2.trans h2.2⟩
structure Own (t:T) (own:List Int):Prop where
 out:∀ x∈own,Out t x/\x∉t.pool.limbo
 nodup:own.Nodup
theorem Inv.takes {N:Int} {t t':T} {own own':List Int} {x:Int} (k:g5m N t own t' own' x):Inv t->g0g t.pool N->Own t own->Inv t'/\Part t t'/\g0g t'.pool N/\Own t' own'/\(x=0->many t'.pool<=own'.length):=by
 induction k with
 | done h=>exact fun hi hk ho=>⟨hi,Part.refl _,hk,ho,fun _=>h⟩
 | fail h hx =>
  exact fun hi hk ho=>by
   obtain ⟨i1,p1,_,g1,l1,s1,_⟩:=hi.take hk;exact ⟨i1,p1,g5g hk,⟨fun x hx=>⟨⟨(ho.out x hx).1.low,Int.lt_of_lt_of_le (ho.out x hx).1.top g1,fun hf=>(ho.out x hx).1.free (s1 x hf),by rw [p1.base];exact (ho.out x hx).1.live⟩,by rw [l1];exact (ho.out x hx).2⟩,ho.nodup⟩,fun e=>absurd e hx⟩
 | step h hx _ ih =>
  exact fun hi hk ho=>by
   obtain ⟨i1,p1,_,g1,l1,s1,o1⟩:=hi.take hk;obtain ⟨o1,b1,c1,d1⟩:=o1 hx;obtain ⟨j1,j2,j3,j4,j5⟩:=ih i1 (g5g hk) ⟨fun x hx=>by
    rcases List.mem_append.1 hx with hx | hx
    ·exact ⟨⟨(ho.out x hx).1.low,Int.lt_of_lt_of_le (ho.out x hx).1.top g1,fun hf=>(ho.out x hx).1.free (s1 x hf),by rw [p1.base];exact (ho.out x hx).1.live⟩,by rw [l1];exact (ho.out x hx).2⟩
    ·rw [List.mem_singleton] at hx;rw [hx];exact ⟨o1,by rw [l1];exact b1⟩,List.nodup_append.2 ⟨ho.nodup,(by simp),fun x hx y hy=>by
    rw [List.mem_singleton] at hy;rw [hy];intro e;rw [e] at hx;have g:=(ho.out _ hx).1;rcases d1 with q | q
    ·exact g.free q
    ·have:=g.top;omega⟩⟩
   exact ⟨j1,p1.trans j2,j3,j4,j5⟩
def g1q (t:T) (root depth count:Int):Pg:={kind:=4,epoch:=(t.sup.epoch+1) % 18446744073709551616,root:=root,depth:=depth,count:=count,high:=t.pool.high}
inductive Reach (d0:St) (t1:T) (sp:Pg):Nat->St->T->Pg->List Int->Prop
 | start:Reach d0 t1 sp 0 d0 t1 sp []
 | take {t own}:g5m d0.n t1 [] t own 0->Reach d0 t1 sp 1 d0 t sp own
 | list {d t own d'}:Reach d0 t1 sp 1 d t sp own->g4s own (chunks (layAll t.pool.free t.pool.limbo)) d 0 d' 0->Reach d0 t1 sp 2 d' t sp own
 | sync {d t own}:Reach d0 t1 sp 2 d t sp own->d.syncE=0->Reach d0 t1 sp 3 d.sync t sp own
 | lead {d t own d'}:Reach d0 t1 sp 3 d t sp own->g7v d ((sp.epoch % 2:Nat):Int) (g4d sp t own) d' 0->Reach d0 t1 sp 4 d' t (g4d sp t own) own
 | last {d t p own}:Reach d0 t1 sp 4 d t p own->d.syncE=0->Reach d0 t1 sp 5 d.sync t p own
inductive j2p (d0:St) (t1:T) (sp:Pg):St->T->Int->Prop
 | take {t own x}:g5m d0.n t1 [] t own x->x≠0->j2p d0 t1 sp d0 t x
 | list {d t own d' x}:Reach d0 t1 sp 1 d t sp own->g4s own (chunks (layAll t.pool.free t.pool.limbo)) d 0 d' x->x≠0->j2p d0 t1 sp d' t x
 | sync {d t own}:Reach d0 t1 sp 2 d t sp own->d.syncE≠0->j2p d0 t1 sp d.sync t d.syncE
 | lead {d t own d' x}:Reach d0 t1 sp 3 d t sp own->g7v d ((sp.epoch % 2:Nat):Int) (g4d sp t own) d' x->x≠0->j2p d0 t1 sp d' t x
 | last {d t p own}:Reach d0 t1 sp 4 d t p own->d.syncE≠0->j2p d0 t1 sp d.sync t d.syncE
def h1w (p:Po):Po:={high:=p.high,free:=layAll p.free p.limbo}
def newT (t:T) (p:Pg) (own:List Int):T:={sup:=p,own:=own,base:=h1w t.pool,pool:=h1w t.pool,fresh:=fun _=>false}
def g6g (d:St) (t:T) (root depth count:Int) (d':St) (t':T) (x:Int):Prop :=
 (¬ Page.Fine (g1q t root depth count)/\d'=d/\t'=t/\x=50) \/
 (Page.Fine (g1q t root depth count)/\((∃ t2,x≠0/\j2p d (g2c t t.own) (g1q t root depth count) d' t2 x/\t'=endT t2 x) \/
   (x=0/\∃ t2 p own,Reach d (g2c t t.own) (g1q t root depth count) 5 d' t2 p own/\t'=newT t2 p own)))
theorem h7h (d:St):d.sync.n=d.n:=by
 unfold St.sync
 split
 ·rfl
 ·split
  ·exact Disk.k2l d
  ·exact Disk.k2l d
theorem k2i {N:Int} {t t':T} {own own':List Int} {x:Int} (k:g5m N t own t' own' x):∀ K,own.length<=K->many t.pool<=K->own'.length<=K:=by
 induction k with
 | done _=>exact fun K h _=>h
 | fail _ _=>exact fun K h _=>h
 | step h _ _ ih=>exact fun K h1 h2=>ih K (by rw [List.length_append,List.length_singleton];omega) (Nat.le_trans (h5q _ _) h2)
theorem k6f {N:Int} {t t':T} {own own':List Int} {x:Int} (k:g5m N t own t' own' x):g0g t.pool N->(∀ x∈own,2<=x/\x<N)->(∀ x∈own',2<=x/\x<N)/\g0g t'.pool N:=by
 induction k with
 | done _=>exact fun hk h=>⟨h,hk⟩
 | fail _ _=>exact fun hk h=>⟨h,g5g hk⟩
 | step h h0 _ ih=>exact fun hk h=>ih (g5g hk) (fun x hx=>by
  rcases List.mem_append.1 hx with hx | hx
  ·exact h x hx
  ·rw [List.mem_singleton] at hx;rw [hx];exact j6f hk h0)
structure p3x (w0:World) (cb:Nat) (B:Blk) (d0:St) (t1:T) (sp:Pg) (y:Lay) (A:Option Addr) (fs:List (Nat×Nat)) (i:Nat) (d:St) (t:T) (a:Lys) (p:Pg) (v:Value) (own:List Int) (wr:World):Prop where
 reach:Reach d0 t1 sp i d t p own
 dr:Dr wr cb B d t a p y v own
 row:RowG wr encF A fs
 fr:Fr B cb w0 wr
 ok:PgOk p
 bare:Bare p
 i64:∀ x∈own,I64 x
 len:own.length<=100000
 zero:i=0->v=.slice none 0 0
def CoAt (w0:World) (cb:Nat) (B:Blk) (d0:St) (t1:T) (sp:Pg) (y:Lay) (A:Option Addr) (fs:List (Nat×Nat)) (i:Nat) (wr:World):Prop:=∃ d t a p v own,p3x w0 cb B d0 t1 sp y A fs i d t a p v own wr
def p0h (w0:World) (cb:Nat) (B:Blk) (d0:St) (t1:T) (sp:Pg) (x:Int) (wr:World):Prop:=∃ d t,j2p d0 t1 sp d t x/\Has wr B d t/\Fr B cb w0 wr
def g8d (cb sb:Nat):List (Nat×Nat):=[(106,cb),(107,cb),(108,sb),(109,cb),(108,sb)]
abbrev j6r (w0:World) (cb:Nat) (B:Blk) (d0:St) (t1:T) (sp:Pg) (y:Lay) (A:Option Addr) (fs:List (Nat×Nat)) (i:Nat) (_w:World) (e:Ending) (w':World):Prop :=
 ∃ x,e=.returned (numV x)/\(x=0->CoAt w0 cb B d0 t1 sp y A fs (i+1) w')/\(x≠0->p0h w0 cb B d0 t1 sp x w')
theorem p1t {N:Int} {own:List Int} (h:∀ x∈own,2<=x/\x<N) (hN:N<=4096):∀ x∈own,I64 x:=fun x hx=>⟨by have:=h x hx;omega,by have:=h x hx;omega⟩
theorem p3k {d0:St} {t1:T} {sp:Pg} {d:St} {t:T} {p:Pg} {own:List Int} (h:Reach d0 t1 sp 0 d t p own):d=d0/\t=t1/\p=sp/\own=[]:=by
 cases h;exact ⟨rfl,rfl,rfl,rfl⟩
theorem p3e {d0:St} {t1:T} {sp:Pg} {d:St} {t:T} {p:Pg} {own:List Int} (h:Reach d0 t1 sp 1 d t p own):p=sp:=by cases h;rfl
theorem p0e {d0:St} {t1:T} {sp:Pg} {d:St} {t:T} {p:Pg} {own:List Int} (h:Reach d0 t1 sp 2 d t p own):p=sp:=by cases h;rfl
theorem p2t {d0:St} {t1:T} {sp:Pg} {d:St} {t:T} {p:Pg} {own:List Int} (h:Reach d0 t1 sp 3 d t p own):p=sp:=by cases h;rfl
theorem co_take {w0:World} {cb:Nat} {B:Blk} {d0:St} {t1:T} {sp:Pg} {y:Lay} {A:Option Addr} {fs:List (Nat×Nat)} (hA:Off (cb :: B.all) A) {w:World} (h:CoAt w0 cb B d0 t1 sp y A fs 0 w) :
 Calls Tryz.prog 106 #[ptr cb] w (j6r w0 cb B d0 t1 sp y A fs 0 w):=by
 obtain ⟨d,t,a,p,v,own,h⟩:=h;obtain ⟨rfl,rfl,rfl,rfl⟩:=p3k h.reach;obtain rfl:=h.zero rfl;refine (k2j h.dr).mono ?_;rintro e w' ⟨d',t',own',x,rfl,⟨rfl,ht⟩,⟨a',v',hd⟩,hf⟩;refine ⟨x,rfl,fun e=>?_,fun e=>⟨d',t',.take ht e,⟨a',hd.sto⟩,h.fr.trans hf⟩⟩;have hN:(d'.n:Int)<=4096:=by have:=hd.sto.dev.nle;omega
 have g:=k6f ht h.dr.sto.pk (fun x hx=>by cases hx);subst e;exact ⟨d',t',a',p,v',own',.take ht,hd,h5f h.row hf hA,h.fr.trans hf,h.ok,h.bare,p1t g.1 hN,
  k2i ht 100000 (by simp) (by have h1:=k4c h.dr.sto.pk hN;have h2:=h3y t.pool;omega),fun e=>by cases e⟩
theorem p2j {w0:World} {cb:Nat} {B:Blk} {d0:St} {t1:T} {sp:Pg} {y:Lay} {A:Option Addr} {fs:List (Nat×Nat)} (hA:Off (cb :: B.all) A) {w:World} (h:CoAt w0 cb B d0 t1 sp y A fs 1 w) :
 Calls Tryz.prog 107 #[ptr cb] w (j6r w0 cb B d0 t1 sp y A fs 1 w):=by
 obtain ⟨d,t,a,p,v,own,h⟩:=h;obtain rfl:=p3e h.reach;refine (k2e h.dr h.len h.i64).mono ?_;rintro e w' ⟨d',x,rfl,hw,hd,hf⟩;refine ⟨x,rfl,fun e=>?_,fun e=>⟨d',t,.list h.reach hw e,⟨a,hd.sto⟩,h.fr.trans hf⟩⟩;subst e;exact ⟨d',t,a,p,v,own,.list h.reach hw,hd,h5f h.row hf hA,h.fr.trans hf,h.ok,h.bare,h.i64,h.len,fun e=>by cases e⟩
theorem p2m {w0:World} {cb:Nat} {B:Blk} {d0:St} {t1:T} {sp:Pg} {y:Lay} {A:Option Addr} {fs:List (Nat×Nat)} (hA:Off (cb :: B.all) A) {w:World} (h:CoAt w0 cb B d0 t1 sp y A fs 3 w) :
 Calls Tryz.prog 109 #[ptr cb] w (j6r w0 cb B d0 t1 sp y A fs 3 w):=by
 obtain ⟨d,t,a,p,v,own,h⟩:=h;obtain rfl:=p2t h.reach;refine (k2r h.dr h.ok h.bare h.i64).mono ?_;rintro e w' ⟨d',x,rfl,hw,hd,hf⟩;refine ⟨x,rfl,fun e=>?_,fun e=>⟨d',t,.lead h.reach hw e,⟨a,hd.sto⟩,h.fr.trans hf⟩⟩;subst e;exact ⟨d',t,a,_,v,own,.lead h.reach hw,hd,h5f h.row hf hA,h.fr.trans hf,j6m h.ok (h9o h.dr.sto.pk (by have:=h.dr.sto.dev.nle;omega)) h.i64,⟨h.bare.pairs,h.bare.keys,h.bare.kids,h.bare.pages⟩,h.i64,h.len,fun e=>by cases e⟩
theorem p1r (B:Blk):∀ x∈[B.sb,B.bl,B.bc],x∈B.all:=by
 intro x hx;simp only [Blk.all,List.mem_cons,List.not_mem_nil,or_false] at hx ⊢;rcases hx with h | h | h <;> simp [h]
theorem k1e {w0:World} {cb:Nat} {B:Blk} {d0:St} {t1:T} {sp:Pg} {y:Lay} {A:Option Addr} {fs:List (Nat×Nat)} (hA:Off (cb :: B.all) A) {i:Nat} (hi:i=2\/i=4) {w:World} (h:CoAt w0 cb B d0 t1 sp y A fs i w) :
 Calls Tryz.prog 108 #[ptr B.sb] w (j6r w0 cb B d0 t1 sp y A fs i w):=by
 obtain ⟨d,t,a,p,v,own,h⟩:=h;refine (Disk.k6v w B.sb B.bl B.bc d h.dr.sto.dev).mono ?_;rintro e w' ⟨rfl,hd,hm⟩;have m:Mod B.all w w':=hm.mono (p1r B);have hf:Fr B cb w w':=Fr.of_mod m;have s:=h.dr.sto.withDev hd hm (h7h d);refine ⟨d.syncE,rfl,fun e=>?_,fun e=>⟨d.sync,t,?_,⟨a,s⟩,h.fr.trans hf⟩⟩
 ·refine ⟨d.sync,t,a,p,v,own,?_,h.dr.step s m h.dr.cbs,h5f h.row hf hA,h.fr.trans hf,h.ok,h.bare,h.i64,h.len,fun e=>by omega⟩;rcases hi with rfl | rfl
  ·obtain rfl:=p0e h.reach;exact .sync h.reach e
  ·exact .last h.reach e
 ·rcases hi with rfl | rfl
  ·obtain rfl:=p0e h.reach;exact .sync h.reach e
  ·exact .last h.reach e
theorem k3s {w0:World} {cb:Nat} {B:Blk} {d0:St} {t1:T} {sp:Pg} {y:Lay} {A:Option Addr} {c:Nat} (hA:Off (cb :: B.all) A) {w:World} (h:CoAt w0 cb B d0 t1 sp y A (g8d cb B.sb) 0 w) :
 Calls Tryz.prog 105 #[.slice A 5 c] w (fun e w'=>∃ x,e=.returned (numV x)/\(x=0->CoAt w0 cb B d0 t1 sp y A (g8d cb B.sb) 5 w')/\(x≠0->p0h w0 cb B d0 t1 sp x w')):=by
 refine k8p (n:=5) (g8d cb B.sb) rfl (by omega) (fun i wr=>CoAt w0 cb B d0 t1 sp y A (g8d cb B.sb) i wr) (fun x wr=>p0h w0 cb B d0 t1 sp x wr) (fun i wr ⟨_,_,_,_,_,_,h⟩=>h.row) h ?_ ?_
 ·intro x hx args w;simp only [g8d,List.mem_cons,List.not_mem_nil,or_false] at hx;rcases hx with rfl | rfl | rfl | rfl | rfl
  ·exact enters_of Tryz.func106 (by kernel_rfl) rfl args w
  ·exact enters_of Tryz.func107 (by kernel_rfl) rfl args w
  ·exact enters_of Tryz.func108 (by kernel_rfl) rfl args w
  ·exact enters_of Tryz.func109 (by kernel_rfl) rfl args w
  ·exact enters_of Tryz.func108 (by kernel_rfl) rfl args w
 ·intro i hi wr h
  match i,hi,h with
  | 0,_,h=>exact co_take hA h
  | 1,_,h=>exact p2j hA h
  | 2,_,h=>exact k1e hA (.inl rfl) h
  | 3,_,h=>exact p2m hA h
  | 4,_,h=>exact k1e hA (.inr rfl) h
  | n+5,hi,_=>exact absurd hi (by simp [g8d])
end Go.Proofs.YtglejnkoojpelaaGreat.Store
