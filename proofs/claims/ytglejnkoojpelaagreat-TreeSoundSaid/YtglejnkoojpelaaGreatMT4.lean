import Derived.Test.YtglejnkoojpelaaGreatMT3
import Derived.Test.YtglejnkoojpelaaGreatMT1
import Derived.Test.YtglejnkoojpelaaGreatMP1
set_option maxRecDepth 100000
set_option maxHeartbeats 32000000
namespace Go.Proofs.YtglejnkoojpelaaGreat.Tree
open Go.RowKit Gen
open Disk (St Dev Mod ptr)
open Page (Pg Lay PgOk g0c pgC pgV Enc g0v BytesAt strV strB PRow less OwnP g1l Lt)
open Pool (Po NAt PoAt La poC poV numV At g0k g1g g1k g2m g0g OwnI chunks layAll May)
open Store
open Lib (hid)
abbrev g0j (l:List (Disk.Bs×Disk.Bs)):Pg:={kind:=1,pairs:=l}
def g8h (R:St->T->Int->Int->Int->Prop) (w0:World) (B:Blk) (tb:Nat) (c:Int) (w:World) (e:Ending) (w':World):Prop :=
 ∃ d' t' r' dp' x,e=.returned (numV x)/\R d' t' r' dp' x/\TrOn w0 w' B tb d' t' r' dp' c/\Mod (tall tb B) w w'
def g6s (P:List Stp->Stp->Prop) (Q:Int->Prop) (RC:List Stp->Stp->List (Disk.Bs×Disk.Bs)->St->T->Int->Int->Int->Prop) (f:List (Disk.Bs×Disk.Bs)->List (Disk.Bs×Disk.Bs)) (d:St) (t:T) (r dp c:Int) (d':St) (t':T) (r' dp' c' x:Int):Prop :=
 (∃ l s,P l s/\f s.p.pairs=s.p.pairs/\x=0/\d'=d/\t'=t/\r'=r/\dp'=dp/\c'=c) \/
 (∃ l s,P l s/\f s.p.pairs≠s.p.pairs/\RC l s (f s.p.pairs) d' t' r' dp' x/\c'=if x=0 then c+(((f s.p.pairs).length:Int)-(s.p.pairs.length:Int)) else c) \/
 (Q x/\x≠0/\d'=d/\t'=t/\r'=r/\dp'=dp/\c'=c)
theorem g8u {w w':World} (h:Page.Drew w w') (B:Nat):Below B w w':=by
 obtain ⟨n,rfl⟩:=h;exact ⟨rfl,rfl,rfl,Nat.le_refl _,fun _ _=>rfl⟩
theorem Way.touch {w0 W W':World} {v:Value} {l:List Stp} (h:Way w0 W v l) {b:Nat} (m:Mod [b] W W') (hb:b<w0.heap.size):Way w0 W' v l:=by
 refine ⟨?_,fun s hs=>g4f (h.rows s hs) m (g4u (h.new s hs) hb),h.ok,h.new,h.off⟩;obtain ⟨hl,h | ⟨g,cap,cur,e,hg,hh,r⟩⟩:=h.own
 ·exact ⟨hl,.inl h⟩
 ·exact ⟨hl,.inr ⟨g,cap,cur,e,hg,(m.block g (Array.getElem?_eq_some_iff.1 hh).1 (by simp;omega)).trans hh,r⟩⟩
theorem h4t (l:List (Disk.Bs×Disk.Bs)) (key val:Disk.Bs):(setP l key val).length<=l.length+1:=by
 obtain ⟨h1,h2⟩:=h4e l key;unfold setP;simp only [List.length_append,List.length_take,List.length_cons,List.length_drop];omega
theorem g9x (l:List (Disk.Bs×Disk.Bs)) (key:Disk.Bs):(cutP l key).length<=l.length:=by
 obtain ⟨h1,h2⟩:=h4e l key;unfold cutP;simp only [List.length_append,List.length_take,List.length_drop];omega
theorem h7y {w0 w:World} {B:Blk} {tb:Nat} {d:St} {t:T} {r dp c:Int} (h:TrOn w0 w B tb d t r dp c) (key val:Disk.Bs) {kb vb:Nat} (hkb:w.cell? ⟨kb,0,none⟩=some (strV key)) (hvb:w.cell? ⟨vb,0,none⟩=some (strV val)) (hcb:0<=c/\c<=1000000)
 {P:List Stp->Stp->Prop} {Q:Int->Prop} {RC:List Stp->Stp->List (Disk.Bs×Disk.Bs)->St->T->Int->Int->Int->Prop} (hP:∀ l s,P l s->g1l Lt (keysOf s.p.pairs)/\s.p.pairs.length<=900)
 (hw:Calls Tryz.prog 97 #[ptr tb,strV key] w (j2x P Q w))
 (hcl:∀ W v l s np y,w.heap.size<=W.heap.size->P l s->np=setP s.p.pairs key val->Way w W v (l++[s])->g0c W (g0j np) y->Page.New (g0j np) y w.heap.size->np.length<=1000->TrOn w0 W B tb d t r dp c->Calls Tryz.prog 141 #[ptr tb,v,pgV (g0j np) y] W (g8h (RC l s np) w0 B tb c W)) :
 Calls Tryz.prog 93 #[ptr tb,strV key,.func (.func 94) #[] #[ptr kb,ptr vb]] w (j3t (g6s P Q RC (fun l=>setP l key val) d t r dp c) w0 B tb w):=by
 have H:=hid h;have HP:=hid hP;have HCL:=hid hcl;have HKB:=hid (show kb<w.heap.size/\vb<w.heap.size/\w.cell? ⟨kb,0,none⟩=some (strV key)/\w.cell? ⟨vb,0,none⟩=some (strV val) from ⟨World.block_lt_of_cell? w _ hkb,World.block_lt_of_cell? w _ hvb,hkb,hvb⟩);obtain ⟨kv,hkv⟩:∃ kv,strV key=kv:=⟨_,rfl⟩;rw [hkv] at hw;rw [hkv];clear hkv h hP hcl hkb hvb;go_enter Tryz.func93,Tryz.ntmps93
 go_wp2_with fail
 refine hw.mono ?_;rintro e w2 ⟨b2,⟨l,s,v,hp,hl,rfl,WY⟩ | ⟨x,hq,hx,rfl⟩⟩
 rotate_left
 ·have d1:(x != 0)=true:=by simp [hx]
  have FIN:=hid (show j3t (g6s P Q RC (fun l=>setP l key val) d t r dp c) w0 B tb w (.returned (numV x)) w2 from ⟨d,t,r,dp,c,x,rfl,.inr (.inr ⟨hq,hx,rfl,rfl,rfl,rfl,rfl⟩),H.out.quiet b2,Mod.of_below _ b2⟩);clear hw hq hx b2;go_wp2_with fail
  go_ret
  exact FIN.out
 ·obtain ⟨g,o,cc,hv,hcc,hg,hcl⟩:=h9p WY;have hps:=HP.out l s hp;have hmem:s∈l++[s]:=by simp
  have HN:=WY.new s hmem;have cS:=k9c (WY.rows s hmem) (WY.ok s hmem) HN hps.1 (by omega) ((b2.cell (p:=⟨kb,0,none⟩) HKB.out.1).trans HKB.out.2.2.1) ((b2.cell (p:=⟨vb,0,none⟩) HKB.out.2.1).trans HKB.out.2.2.2);have x3:=hcl 2 _ rfl;have HW:=hid WY;have B2:=hid b2;subst hv;obtain ⟨k,hk⟩:∃ k,l.length=k:=⟨_,rfl⟩;rw [hk] at x3 hl;have hw1:IntKind.i64.wrap (((k+1:Nat):Int)-1)=(k:Int):=by rw [IntWalk.i64_in _ (by omega)];omega
  obtain ⟨N,hN⟩:∃ N,k+1=N:=⟨_,rfl⟩;have hkN:(k:Int)<(N:Int):=by omega
  rw [hN] at hw1;have HWV:Hid (Way w w2 (.slice (some ⟨g,o,none⟩) N cc) (l++[s])):=hid (by rw [<- hN,<- hk];exact HW.out);rw [hk,hN];have HL:=hid hps.2;have HPP:=hid hp;clear hN hk hcl hcc hg hl WY hmem hps HN b2 hw hp HW;go_wp2_with fail
  refine cS.mono ?_;rintro e w3 ⟨nv,rfl,ho,b3⟩;obtain ⟨A,c1,e0,hR,hge,hcz,hcl1⟩:=Page.h2e ho;subst e0;have HLN:=h4t s.p.pairs key val;obtain ⟨np,hnp⟩:∃ np,setP s.p.pairs key val=np:=⟨_,rfl⟩;have HNP:=hid hnp;rw [hnp] at hR hcl1 HLN;rw [hnp];have PR:=hid (show g0c w3 (g0j np) {A1:=A,c1:=c1} from ⟨hR,fun h=>absurd rfl h,fun h=>absurd rfl h,fun h=>absurd rfl h⟩);have PN:=hid (show Page.New (g0j np) {A1:=A,c1:=c1} w.heap.size from ⟨fun x e=>Nat.le_trans B2.out.size (hge x e),fun _ e=>(by cases e),fun _ e=>(by cases e),fun _ e=>(by cases e),fun _=>rfl,hcl1,Nat.zero_le _,Nat.zero_le _,Nat.zero_le _,hcz,fun _=>rfl,fun _=>rfl⟩)
  have HW3:=hid (HWV.out.below b3);have B3:=hid (B2.out.trans (b3.mono B2.out.size));have cE:=h0u A s.y.A1 np.length c1 s.p.pairs.length s.y.c1 np s.p.pairs w3 rfl rfl (by have:=HL.out;omega) hR ((HW3.out.rows s (by simp)).r1);have HLL:=hid (show np.length<=1000 from by have:=HL.out;omega);have hn1:IntKind.i64.wrap ((np.length:Int)-(s.p.pairs.length:Int))=(np.length:Int)-(s.p.pairs.length:Int):=IntWalk.i64_in _ (by have:=HL.out;omega)
  have hn2:IntKind.i64.wrap (c+((np.length:Int)-(s.p.pairs.length:Int)))=c+((np.length:Int)-(s.p.pairs.length:Int)):=IntWalk.i64_in _ (by have:=HL.out;omega);obtain ⟨n,hn⟩:∃ n,np.length=n:=⟨_,rfl⟩;obtain ⟨m,hm⟩:∃ m,s.p.pairs.length=m:=⟨_,rfl⟩;have HN:=hid hn;have HM:=hid hm;rw [hn,hm] at cE hn1 hn2;rw [hn,hm];clear hn hm hR hge hcz hcl1 ho b3 cS HLN hnp HWV x3;go_wp2_with fail
  refine cE.mono ?_;rintro e w4 ⟨res,rfl,hres,dr⟩;have db:=g8u dr w3.heap.size;have B4:=hid (B3.out.trans (db.mono B3.out.size));have PR4:=hid (PR.out.below db);have HW4:=hid (HW3.out.below db);have H4:=hid (H.out.quiet B4.out);clear dr db cE;rcases res with _ | _
  rotate_left
  ·have EQ:=hid (show setP s.p.pairs key val=s.p.pairs from HNP.out.trans (hres.1 rfl));clear hres;go_wp2_with fail
   go_ret
   exact ⟨d,t,r,dp,c,0,rfl,.inl ⟨l,s,HPP.out,EQ.out,rfl,rfl,rfl,rfl,rfl,rfl⟩,H4.out,Mod.of_below _ B4.out⟩
  ·have NE:=hid (show setP s.p.pairs key val≠s.p.pairs from fun e=>by have:=hres.2 (HNP.out.symm.trans e);cases this);have cC:Calls Tryz.prog 141 #[ptr tb,.slice (some ⟨g,o,none⟩) N cc,.agg #[.int .i64 1,.slice A n c1,.slice none 0 0,.slice none 0 0,.slice none 0 0,.int .i64 0,.int .u64 0,.int .i64 0,.int .i64 0,.int .i64 0,.int .i64 0]] w4 (g8h (RC l s np) w0 B tb c w4):=by
    have e:pgV (g0j np) {A1:=A,c1:=c1}=.agg #[.int .i64 1,.slice A n c1,.slice none 0 0,.slice none 0 0,.slice none 0 0,.int .i64 0,.int .u64 0,.int .i64 0,.int .i64 0,.int .i64 0,.int .i64 0]:=by rw [<- HN.out];rfl
    have q:=HCL.out w4 _ l s np _ B4.out.size HPP.out HNP.out.symm HW4.out PR4.out PN.out HLL.out H4.out;rw [e] at q;exact q
   clear hres;go_wp2_with fail
   refine cC.mono ?_;rintro e w5 ⟨d5,t5,r5,dp5,x,rfl,hRC,H5,m5⟩;have H5H:=hid H5;have M5:=hid ((Mod.of_below (tall tb B) B4.out).trans m5);have HRC:=hid hRC
   by_cases hx:x=0
   ·subst hx;have k3:w5.cell? ⟨tb,3,none⟩=some (.int .i64 c):=H5.box.2.2 3 _ rfl;have f3:w5.frozen? ⟨tb,3,none⟩=false:=H5.box.2.1 3;have D6:At (w5.setCell ⟨tb,3,none⟩ (.int .i64 (c+((n:Int)-(m:Int))))) tb (trC B.ss r5 dp5 (c+((n:Int)-(m:Int)))):=at_set H5.box 3 _;have H6:=hid (H5.cells D6 (g0z _ _ _ _));have M6:=hid (M5.out.trans ((g0z w5 tb 3 (.int .i64 (c+((n:Int)-(m:Int))))).mono (fun x hx=>by rw [List.mem_singleton] at hx;rw [hx];exact List.mem_cons_self ..)))
    have CD:=hid (show g6s P Q RC (fun l=>setP l key val) d t r dp c d5 t5 r5 dp5 (c+((n:Int)-(m:Int))) 0 from .inr (.inl ⟨l,s,HPP.out,NE.out,by show RC l s (setP s.p.pairs key val) _ _ _ _ _;rw [HNP.out];exact HRC.out,by show _=if (0:Int)=0 then c+(((setP s.p.pairs key val).length:Int) - _) else c;rw [if_pos rfl,HNP.out,HN.out,HM.out]⟩));clear cC H5 m5 hRC D6;go_wp2_with fail
    go_ret
    exact ⟨d5,t5,r5,dp5,_,0,rfl,CD.out,H6.out,M6.out⟩
   ·have d1:(x != 0)=true:=by simp [hx]
    have CD:=hid (show g6s P Q RC (fun l=>setP l key val) d t r dp c d5 t5 r5 dp5 c x from .inr (.inl ⟨l,s,HPP.out,NE.out,by show RC l s (setP s.p.pairs key val) _ _ _ _ _;rw [HNP.out];exact HRC.out,by rw [if_neg hx]⟩));clear cC H5 m5 hRC hx;go_wp2_with fail
    go_ret
    exact ⟨d5,t5,r5,dp5,c,x,rfl,CD.out,H5H.out,M5.out⟩
open Page (Pg Lay PgOk g0c pgC pgV Enc g0v BytesAt strV strB PRow SRow IRow less)
theorem j0q {w0 w:World} {B:Blk} {tb:Nat} {d:St} {t:T} {r dp c:Int} (h:TrOn w0 w B tb d t r dp c) (n:Int) (hn:I64 n) (D:Int) (hD:0<=D/\D<=1000) (p:Pg) (y:Lay) (hr:g0c w p y) (hap:Apart (tall tb B) p y) (hk:p.kind=2->p.kids≠[]) (hf:g0o p=0) :
 Calls Tryz.prog 185 #[ptr tb,.int .i64 n,.int .i64 D,pgV p y] w (fun e w'=>e=.returned (numV (g1n t n).2)/\Mod (tall tb B) w w'/\((g1n t n).2≠0->TrOn w0 w' B tb d (g1n t n).1 r dp c)/\((g1n t n).2=0->TrOn w0 w' B tb d (g1n t n).1 (g6a p) (D-1) c)):=by
 have b1:=Pool.g0a w (.cells (pgC p y) 103);have A1:=hid (at_new w (pgC p y) 103);have B1:=hid b1;have H:=hid h;obtain ⟨W1,hW1⟩:∃ W1,w.alloc (.cells (pgC p y) 103)=W1:=⟨_,rfl⟩;rw [hW1] at A1 B1;have cF:=h1f p y W1;have L1:=hid (g1c (o:=0) A1.out p y rfl);rw [hf] at cF;have LW:=hid (fun W (b:Below w.heap.size w W)=>k1x (h.quiet b) n hn D hD p y (hr.below b) hap hk);obtain ⟨C,hC⟩:∃ C,pgC p y=C:=⟨_,rfl⟩
 have PV:pgV p y=.agg C:=congrArg Value.agg hC;rw [hC] at hW1;rw [PV] at cF L1 LW;rw [PV];have HPV:=hid PV;clear b1 hr hf hC PV h hap hk hn hD;go_enter Tryz.func185,Tryz.ntmps185
 go_wp2_with (first | ((with_reducible refine Disk.g0w rfl 103 (.tmp 3) rfl C ?_ ?_);(next=>rfl)) | ((with_reducible refine Disk.g0d rfl 103 (.tmp 7) rfl _ ?_ L1.out ?_);(next=>rfl)))
 refine cF.mono ?_;rintro e w2 ⟨rfl,b2⟩;have B2:=hid (B1.out.trans (b2.mono B1.out.size));have L2:=hid (g1c (o:=0) (A1.out.below b2 A1.out.1) p y rfl);have cW:=LW.out w2 B2.out;rw [HPV.out] at L2;clear b2 cF L1;go_wp2_with (first | ((with_reducible refine Disk.g0d rfl 103 (.tmp 7) rfl _ ?_ L2.out ?_);(next=>rfl)))
 refine cW.mono ?_;rintro e w3 ⟨rfl,m3,h1,h2⟩;have FIN:=hid (show Mod (tall tb B) w w3/\((g1n t n).2≠0->TrOn w0 w3 B tb d (g1n t n).1 r dp c)/\((g1n t n).2=0->TrOn w0 w3 B tb d (g1n t n).1 (g6a p) (D-1) c) from ⟨(Mod.of_below _ B2.out).trans m3,h1,h2⟩);clear m3 h1 h2 cW;go_wp2_with fail
 go_ret
 exact ⟨rfl,FIN.out⟩
end Go.Proofs.YtglejnkoojpelaaGreat.Tree
namespace Go.Proofs.YtglejnkoojpelaaGreat.TreeS
open Go.RowKit Gen
open Page (strV strB g7k g1w)
open Pool (numV)
open Store
open Lib (hid)
abbrev Ow (w:World) (B:Nat) (v:Value) (l:List Disk.Bs):Prop:=OwnG w 9 strV B v l
theorem h1q:Tryz.prog.underlying 64=some (.slice (Tryz.prog.elem 64)):=by kernel_rfl
theorem h0p (w:World):(sizeOf (Tryz.prog.elem 64)).run Tryz.prog w=.ok 1 w:=by kernel_rfl
theorem row_head (A:Option Addr) (n c k:Nat) (h:k<=c) (W:World):(Instr.slice 64 (.slice A n c) none (some (.int .i64 (k:Int))) none).run Tryz.prog W=.ok (.slice A k c) W:=by
 rw [run_slice_h W 64 A n c h1q .i64 (k:Int) (by omega) (by omega),h0p];unfold sliced;rcases A with _ | a
 ·simp [Result.andThen]
 ·simp [Result.andThen,Tree.addz]
theorem row_tail (A:Option Addr) (n c k:Nat) (h:k<=n) (W:World):(Instr.slice 64 (.slice A n c) (some (.int .i64 (k:Int))) none none).run Tryz.prog W=.ok (.slice (Tree.sub 1 A c k) (n-k) (c-k)) W:=by
 rw [run_slice_l W 64 A n c h1q .i64 (k:Int) (by omega) (by omega),h0p];unfold sliced Tree.sub;simp [Result.andThen]
theorem row_take {w:World} {A:Option Addr} {l:List Disk.Bs} (h:RowG w strV A l) (k:Nat):RowG w strV A (l.take k):=fun hne=>by
 obtain ⟨b,off,e,hb,hc⟩:=h (by intro e;rw [e] at hne;simp at hne);refine ⟨b,off,e,hb,fun j hj=>?_⟩;have hj':j<l.length:=by rw [List.length_take] at hj;omega
 rw [List.getElem_take];exact hc j hj'
theorem row_drop {w:World} {A:Option Addr} {l:List Disk.Bs} (h:RowG w strV A l) {c:Nat} (hc:l.length<=c) (k:Nat):RowG w strV (Tree.sub 1 A c k) (l.drop k):=fun hne=>by
 have hk:k<l.length:=by
  rcases Nat.lt_or_ge k l.length with h | h
  ·exact h
  ·rw [List.drop_eq_nil_of_le h] at hne;exact absurd rfl hne
 obtain ⟨b,off,rfl,hb,hcl⟩:=h (by intro e;rw [e] at hk;simp at hk);refine ⟨b,off+k,?_,hb,fun j hj=>?_⟩
 ·unfold Tree.sub;rw [if_neg (by omega)];simp [Addr.add]
 ·have hj':k+j<l.length:=by rw [List.length_drop] at hj;omega
  rw [List.getElem_drop];have:=hcl (k+j) hj';rw [show off+k+j=off+(k+j) by omega];exact this
theorem h9b:(Tryz.prog.info? 9).map (fun i=>(i.zero,i.size,i.bytes))=some (some (.string ⟨#[]⟩),1,16):=by kernel_rfl
theorem h0m (n:Nat) (hn:n<=1000000) (w:World):Calls Tryz.prog 256 #[.slice none 0 0,.int .i64 (n:Nat)] w (fun e w'=>∃ v,e=.returned v/\Ow w' w.heap.size v []/\Below w.heap.size w w'):=by
 rcases Nat.eq_zero_or_pos n with rfl | h0
 ·go_enter Tryz.func256,Tryz.ntmps256
  go_wp2_with fail
  go_ret
  exact ⟨_,rfl,OwnG.nil _ _ _ _,Below.refl _ _⟩
 ·obtain ⟨i0,hi,hz0,hz1,hz2⟩:=g1w h9b;have hrun:=Lib.run_append_grow_zeros (P:=Tryz.prog) w 64 3 64 9 i0 _ .i64 .i64 Tryz.underlying64 Tryz.underlying3 hi hz0 none 0 0 [] (by rw [hz1];exact run_firstCells_none w.drew 1 0 0 0) n h0 (by rw [hz1];omega) (by omega) (by omega) (by rw [hz2];omega)
   (by rw [hz2];exact growslice_fits (by omega) (by omega))
  have hG:=grownCap_ge w (0+n) 0 9;have hG2:=grownCap_le_maxLen w (0+n) 0 9 (by unfold maxLen;omega);rw [Nat.zero_add] at hrun hG hG2;obtain ⟨G,hGG⟩:∃ G,grownCap w n 0 9=G:=⟨_,rfl⟩;rw [hGG] at hrun hG hG2;have hbelow:Below w.heap.size w (w.drew.alloc (.cells (([]:List Value).toArray++Builtin.zeroCells (Value.cells (.string ⟨#[]⟩)) n++Builtin.zeroCells (Value.cells (.string ⟨#[]⟩)) (G-n)) 9)):=(Below.refl _ _).drew.alloc (Nat.le_refl _) _
  have hown:Ow (w.drew.alloc (.cells (([]:List Value).toArray++Builtin.zeroCells (Value.cells (.string ⟨#[]⟩)) n++Builtin.zeroCells (Value.cells (.string ⟨#[]⟩)) (G-n)) 9)) w.heap.size (.slice (some ⟨w.heap.size,0,none⟩) 0 G) []:=by
   refine ⟨rfl,.inr ⟨w.heap.size,G,_,rfl,Nat.le_refl _,heap_alloc_last w.drew _,Nat.zero_le _,hG2,?_,rfl⟩⟩;simp [Builtin.zeroCells,Value.cells];omega
  have HB:=hid hbelow;have HO:=hid hown;have s1:=fun W=>row_head (some ⟨w.heap.size,0,none⟩) n G 0 (Nat.zero_le _) W
  have s2:=fun W=>row_head none 0 0 0 (Nat.le_refl _) W
  generalize w.drew.alloc (.cells (([]:List Value).toArray++Builtin.zeroCells (Value.cells (.string ⟨#[]⟩)) n++Builtin.zeroCells (Value.cells (.string ⟨#[]⟩)) (G-n)) 9)=W1 at hrun HB HO;have R:=hid hrun;have hpos:(0:Int)<(n:Int):=by omega
  unfold maxLen at hG2;clear hrun hbelow hown hi hz0 hz1 hz2 hGG h0;go_enter Tryz.func256,Tryz.ntmps256
  go_wp2_with (at_builtin;((with_reducible refine Lib.wpList_append_run _ rfl _ _ _ _ rfl _ _ ?_ ?_ _ _ R.out ?_);(next=>rfl);(next=>rfl)))
  go_ret
  exact ⟨_,rfl,HO.out,HB.out⟩
theorem g9r (W:World) (B:Nat) (v:Value) (ys:List Disk.Bs) (h:Ow W B v ys) (A:Option Addr) (m c:Nat) (zs:List Disk.Bs) (hz:zs.length=m) (hA:A=none->c=0) (hR:RowG W strV A zs) (hn:ys.length+m<=1000000) (hB:B<=W.heap.size) :
 ∃ v' W',(Builtin.append_ #[64,64] 64 #[v,.slice A m c]).run Tryz.prog W=.ok v' W'/\Ow W' B v' (ys++zs)/\W.grownBy W' v.ownBlock/\(∀ k,v.ownBlock=some k->B<=k):=by
 obtain ⟨v',W',h1,h2,h3,-⟩:=g1x Page.h5g W B v ys h A m c zs hz hA hR (by omega) hB;exact ⟨v',W',h1,h2,h3,fun k hk=>(World.ownsRow.lt h k hk).1⟩
structure j3j where
 A:Option Addr
 n:Nat
 c:Nat
 l:List Disk.Bs
structure SPok (w:World) (p:j3j):Prop where
 len:p.l.length=p.n
 nil:p.A=none->p.c=0
 row:RowG w strV p.A p.l
theorem SPok.below {w w':World} {p:j3j} (h:SPok w p) (b:Below w.heap.size w w'):SPok w' p:=⟨h.len,h.nil,RowG.below h.row b⟩
def sizes (ps:List j3j):Nat:=(ps.map (·.n)).sum
theorem g4e (ps:List j3j) (k:Nat) (h:k<ps.length):sizes (ps.take (k+1))=sizes (ps.take k)+ps[k].n:=by
 unfold sizes;rw [List.take_succ_eq_append_getElem h,List.map_append,List.sum_append];simp
theorem g4r (ps:List j3j) (k:Nat):sizes (ps.take k)<=sizes ps:=by
 unfold sizes
 conv=>rhs;rw [<- List.take_append_drop k ps]
 rw [List.map_append,List.sum_append];omega
theorem g7f {w:World} (ps:List j3j) (h:∀ p∈ps,SPok w p):(ps.flatMap (·.l)).length=sizes ps:=by
 unfold sizes;rw [List.length_flatMap]
 congr 1
 exact List.map_congr_left (fun p hp=>(h p hp).len)
theorem concat_any {A:Option Addr} {N C:Nat} (ps:List j3j) (w:World) (hN:ps.length=N) (hN2:N<=1000) (hrow:ps≠[]->∃ b off,A=some ⟨b,off,none⟩/\b<w.heap.size/\∀ k (h:k<ps.length),w.cell? ⟨b,off+k,none⟩=some (.slice ps[k].A ps[k].n ps[k].c)) (ok:∀ p∈ps,SPok w p) (tot:sizes ps<=100000) :
 Calls Tryz.prog 230 #[.slice A N C] w (fun e w'=>∃ v,e=.returned v/\Ow w' w.heap.size v (ps.flatMap (·.l))/\Below w.heap.size w w'):=by
 have HN:=hid hN;have HR:=hid hrow;have HK:=hid ok;have HT:=hid tot;clear hN hrow ok tot;go_enter Tryz.func230,Tryz.ntmps230
 go_wp2_with fail
 go_loopw [3,11] (fun s i wr=>∃ k:Nat,s=.int .i64 ((sizes (ps.take k):Nat):Int)/\i=.int .i64 (k:Int)/\k<=N/\w=wr) (fun _ i _=>N-(intOf i).toNat)
 case atStart=>exact ⟨0,rfl,rfl,Nat.zero_le _,rfl⟩
 case round =>
  obtain ⟨k,rfl,rfl,hk,rfl⟩:=hrel;have hs1:=g4r ps k;have hs2:=g4r ps (k+1)
  by_cases hlt:k<N
  ·have hkl:k<ps.length:=by rw [HN.out];exact hlt
   have hsn:=g4e ps k hkl;obtain ⟨b,off,rfl,hb,hc⟩:=HR.out (by intro e;rw [e] at hkl;simp at hkl);have q:=hc k hkl;have HTT:=HT.out;obtain ⟨s0,hs0⟩:∃ s0,sizes (ps.take k)=s0:=⟨_,rfl⟩;obtain ⟨s3,hs3⟩:∃ s3,sizes (ps.take (k+1))=s3:=⟨_,rfl⟩;obtain ⟨m,hm⟩:∃ m,ps[k].n=m:=⟨_,rfl⟩;rw [hs0,hs3,hm] at hsn;rw [hs0] at hs1;rw [hs3] at hs2;rw [hm] at q;have HS3:=hid hs3;have hw1:IntKind.i64.wrap ((s0:Int)+(m:Int))=(s3:Int):=by rw [IntWalk.i64_in _ (by omega)];omega
   have hw2:IntKind.i64.wrap ((k:Int)+1)=(k:Int)+1:=IntWalk.i64_in _ (by omega);have hneg:¬ ((s3:Int)<0):=by omega
   rw [hs0];clear hs0 hs3 hsn hs1 hs2 hc HTT hm;go_wp2_with fail
   go_roundw
   case rel=>exact ⟨k+1,by rw [HS3.out],by go_num,by omega,trivial⟩
   case measure=>simp [intOf];omega
  obtain rfl:k=N:=by omega
  have HTT:=HT.out;have hall:ps.take k=ps:=by rw [<- HN.out];exact List.take_length
  rw [hall];obtain ⟨s0,hs0⟩:∃ s0,sizes ps=s0:=⟨_,rfl⟩;rw [hs0] at HTT ⊢;have cG:=h0m s0 (by omega) w;clear hs0 hs1 hs2 hall;go_wp2_with fail
  refine cG.mono ?_;rintro e w2 ⟨v,rfl,hO,b2⟩;have HO:=hid hO;have B2:=hid b2;clear hO b2 cG;go_wp2_with fail
  go_loopw [6,27] (fun v i wr=>∃ j:Nat,i=.int .i64 (j:Int)/\j<=k/\Hid (Ow wr w.heap.size v ((ps.take j).flatMap (·.l)))/\Hid (Below w.heap.size w wr)) (fun _ i _=>k-(intOf i).toNat)
  case atStart=>exact ⟨0,rfl,Nat.zero_le _,HO,B2⟩
  case round =>
   obtain ⟨j,rfl,hj,OW,BW⟩:=hrel;clear HO B2
   by_cases hlj:j<k
   ·have hjl:j<ps.length:=by rw [HN.out];exact hlj
    obtain ⟨b,off,rfl,hb,hc⟩:=HR.out (by intro e;rw [e] at hjl;simp at hjl);have q:wr.cell? ⟨b,off+j,none⟩=some (.slice ps[j].A ps[j].n ps[j].c):=(BW.out.cell (p:=⟨b,off+j,none⟩) hb).trans (hc j hjl);have pk:=(HK.out ps[j] (List.getElem_mem hjl)).below BW.out;have h1:((ps.take j).flatMap (·.l)).length=sizes (ps.take j):=g7f _ (fun p hp=>HK.out p (List.mem_of_mem_take hp));have h2:=g4r ps (j+1)
    rw [g4e ps j hjl] at h2;have h3:=HT.out;obtain ⟨v',W',hrun,ho,hg,hge⟩:=g9r wr w.heap.size u6 _ OW.out ps[j].A ps[j].n ps[j].c ps[j].l pk.len pk.nil pk.row (by rw [h1];omega) BW.out.size;have HO2:=hid (show Ow W' w.heap.size v' ((ps.take (j+1)).flatMap (·.l)) from by rw [List.take_succ_eq_append_getElem hjl,List.flatMap_append];simpa using ho);have B3:=hid (BW.out.grown hg BW.out.size hge)
    have R:=hid hrun;have hw2:IntKind.i64.wrap ((j:Int)+1)=(j:Int)+1:=IntWalk.i64_in _ (by omega);obtain ⟨PV,hPV⟩:∃ PV,Value.slice ps[j].A ps[j].n ps[j].c=PV:=⟨_,rfl⟩;rw [hPV] at q R;clear hrun ho hg hge hc pk h1 h2 h3 hPV OW BW;go_wp2_with (at_builtin;((with_reducible refine Lib.wpList_append_run _ rfl _ _ _ _ rfl _ _ ?_ ?_ _ _ R.out ?_);(next=>rfl);(next=>rfl)))
    go_roundw
    case rel=>exact ⟨j+1,by go_num,by omega,HO2,B3⟩
    case measure=>simp [intOf];omega
   obtain rfl:j=k:=by omega
   have hall:ps.take j=ps:=by rw [<- HN.out];exact List.take_length
   rw [hall] at OW;clear hall;go_wp2_with fail
   go_ret
   exact ⟨_,rfl,OW.out,BW.out⟩
end Go.Proofs.YtglejnkoojpelaaGreat.TreeS
namespace Go.Proofs.YtglejnkoojpelaaGreat.TreeI
open Go.RowKit Gen
open Page (strV strB g7k g1w)
open Pool (numV)
open Store
open Lib (hid)
abbrev Ow (w:World) (B:Nat) (v:Value) (l:List Int):Prop:=OwnG w 3 numV B v l
theorem h1q:Tryz.prog.underlying 66=some (.slice (Tryz.prog.elem 66)):=by kernel_rfl
theorem h0p (w:World):(sizeOf (Tryz.prog.elem 66)).run Tryz.prog w=.ok 1 w:=by kernel_rfl
theorem row_head (A:Option Addr) (n c k:Nat) (h:k<=c) (W:World):(Instr.slice 66 (.slice A n c) none (some (.int .i64 (k:Int))) none).run Tryz.prog W=.ok (.slice A k c) W:=by
 rw [run_slice_h W 66 A n c h1q .i64 (k:Int) (by omega) (by omega),h0p];unfold sliced;rcases A with _ | a
 ·simp [Result.andThen]
 ·simp [Result.andThen,Tree.addz]
theorem row_tail (A:Option Addr) (n c k:Nat) (h:k<=n) (W:World):(Instr.slice 66 (.slice A n c) (some (.int .i64 (k:Int))) none none).run Tryz.prog W=.ok (.slice (Tree.sub 1 A c k) (n-k) (c-k)) W:=by
 rw [run_slice_l W 66 A n c h1q .i64 (k:Int) (by omega) (by omega),h0p];unfold sliced Tree.sub;simp [Result.andThen]
theorem row_take {w:World} {A:Option Addr} {l:List Int} (h:RowG w numV A l) (k:Nat):RowG w numV A (l.take k):=fun hne=>by
 obtain ⟨b,off,e,hb,hc⟩:=h (by intro e;rw [e] at hne;simp at hne);refine ⟨b,off,e,hb,fun j hj=>?_⟩;have hj':j<l.length:=by rw [List.length_take] at hj;omega
 rw [List.getElem_take];exact hc j hj'
theorem row_drop {w:World} {A:Option Addr} {l:List Int} (h:RowG w numV A l) {c:Nat} (hc:l.length<=c) (k:Nat):RowG w numV (Tree.sub 1 A c k) (l.drop k):=fun hne=>by
 have hk:k<l.length:=by
  rcases Nat.lt_or_ge k l.length with h | h
  ·exact h
  ·rw [List.drop_eq_nil_of_le h] at hne;exact absurd rfl hne
 obtain ⟨b,off,rfl,hb,hcl⟩:=h (by intro e;rw [e] at hk;simp at hk);refine ⟨b,off+k,?_,hb,fun j hj=>?_⟩
 ·unfold Tree.sub;rw [if_neg (by omega)];simp [Addr.add]
 ·have hj':k+j<l.length:=by rw [List.length_drop] at hj;omega
  rw [List.getElem_drop];have:=hcl (k+j) hj';rw [show off+k+j=off+(k+j) by omega];exact this
theorem h9b:(Tryz.prog.info? 3).map (fun i=>(i.zero,i.size,i.bytes))=some (some (.int .i64 0),1,8):=by kernel_rfl
theorem h0m (n:Nat) (hn:n<=1000000) (w:World):Calls Tryz.prog 176 #[.slice none 0 0,.int .i64 (n:Nat)] w (fun e w'=>∃ v,e=.returned v/\Ow w' w.heap.size v []/\Below w.heap.size w w'):=by
 rcases Nat.eq_zero_or_pos n with rfl | h0
 ·go_enter Tryz.func176,Tryz.ntmps176
  go_wp2_with fail
  go_ret
  exact ⟨_,rfl,OwnG.nil _ _ _ _,Below.refl _ _⟩
 ·obtain ⟨i0,hi,hz0,hz1,hz2⟩:=g1w h9b;have hrun:=Lib.run_append_grow_zeros (P:=Tryz.prog) w 66 3 66 3 i0 _ .i64 .i64 Tryz.underlying66 Tryz.underlying3 hi hz0 none 0 0 [] (by rw [hz1];exact run_firstCells_none w.drew 1 0 0 0) n h0 (by rw [hz1];omega) (by omega) (by omega) (by rw [hz2];omega)
   (by rw [hz2];exact growslice_fits (by omega) (by omega))
  have hG:=grownCap_ge w (0+n) 0 3;have hG2:=grownCap_le_maxLen w (0+n) 0 3 (by unfold maxLen;omega);rw [Nat.zero_add] at hrun hG hG2;obtain ⟨G,hGG⟩:∃ G,grownCap w n 0 3=G:=⟨_,rfl⟩;rw [hGG] at hrun hG hG2;have hbelow:Below w.heap.size w (w.drew.alloc (.cells (([]:List Value).toArray++Builtin.zeroCells (Value.cells (.int .i64 0)) n++Builtin.zeroCells (Value.cells (.int .i64 0)) (G-n)) 3)):=(Below.refl _ _).drew.alloc (Nat.le_refl _) _
  have hown:Ow (w.drew.alloc (.cells (([]:List Value).toArray++Builtin.zeroCells (Value.cells (.int .i64 0)) n++Builtin.zeroCells (Value.cells (.int .i64 0)) (G-n)) 3)) w.heap.size (.slice (some ⟨w.heap.size,0,none⟩) 0 G) []:=by
   refine ⟨rfl,.inr ⟨w.heap.size,G,_,rfl,Nat.le_refl _,heap_alloc_last w.drew _,Nat.zero_le _,hG2,?_,rfl⟩⟩;simp [Builtin.zeroCells,Value.cells];omega
  have HB:=hid hbelow;have HO:=hid hown;have s1:=fun W=>row_head (some ⟨w.heap.size,0,none⟩) n G 0 (Nat.zero_le _) W
  have s2:=fun W=>row_head none 0 0 0 (Nat.le_refl _) W
  generalize w.drew.alloc (.cells (([]:List Value).toArray++Builtin.zeroCells (Value.cells (.int .i64 0)) n++Builtin.zeroCells (Value.cells (.int .i64 0)) (G-n)) 3)=W1 at hrun HB HO;have R:=hid hrun;have hpos:(0:Int)<(n:Int):=by omega
  unfold maxLen at hG2;clear hrun hbelow hown hi hz0 hz1 hz2 hGG h0;go_enter Tryz.func176,Tryz.ntmps176
  go_wp2_with (at_builtin;((with_reducible refine Lib.wpList_append_run _ rfl _ _ _ _ rfl _ _ ?_ ?_ _ _ R.out ?_);(next=>rfl);(next=>rfl)))
  go_ret
  exact ⟨_,rfl,HO.out,HB.out⟩
theorem g9r (W:World) (B:Nat) (v:Value) (ys:List Int) (h:Ow W B v ys) (A:Option Addr) (m c:Nat) (zs:List Int) (hz:zs.length=m) (hA:A=none->c=0) (hR:RowG W numV A zs) (hn:ys.length+m<=1000000) (hB:B<=W.heap.size) :
 ∃ v' W',(Builtin.append_ #[66,66] 66 #[v,.slice A m c]).run Tryz.prog W=.ok v' W'/\Ow W' B v' (ys++zs)/\W.grownBy W' v.ownBlock/\(∀ k,v.ownBlock=some k->B<=k):=by
 obtain ⟨v',W',h1,h2,h3,-⟩:=g1x Page.g2p W B v ys h A m c zs hz hA hR (by omega) hB;exact ⟨v',W',h1,h2,h3,fun k hk=>(World.ownsRow.lt h k hk).1⟩
structure j3o where
 A:Option Addr
 n:Nat
 c:Nat
 l:List Int
structure IPok (w:World) (p:j3o):Prop where
 len:p.l.length=p.n
 nil:p.A=none->p.c=0
 row:RowG w numV p.A p.l
theorem IPok.below {w w':World} {p:j3o} (h:IPok w p) (b:Below w.heap.size w w'):IPok w' p:=⟨h.len,h.nil,RowG.below h.row b⟩
def sizes (ps:List j3o):Nat:=(ps.map (·.n)).sum
theorem g4e (ps:List j3o) (k:Nat) (h:k<ps.length):sizes (ps.take (k+1))=sizes (ps.take k)+ps[k].n:=by
 unfold sizes;rw [List.take_succ_eq_append_getElem h,List.map_append,List.sum_append];simp
theorem g4r (ps:List j3o) (k:Nat):sizes (ps.take k)<=sizes ps:=by
 unfold sizes
 conv=>rhs;rw [<- List.take_append_drop k ps]
 rw [List.map_append,List.sum_append];omega
theorem g7f {w:World} (ps:List j3o) (h:∀ p∈ps,IPok w p):(ps.flatMap (·.l)).length=sizes ps:=by
 unfold sizes;rw [List.length_flatMap]
 congr 1
 exact List.map_congr_left (fun p hp=>(h p hp).len)
theorem concat_any {A:Option Addr} {N C:Nat} (ps:List j3o) (w:World) (hN:ps.length=N) (hN2:N<=1000) (hrow:ps≠[]->∃ b off,A=some ⟨b,off,none⟩/\b<w.heap.size/\∀ k (h:k<ps.length),w.cell? ⟨b,off+k,none⟩=some (.slice ps[k].A ps[k].n ps[k].c)) (ok:∀ p∈ps,IPok w p) (tot:sizes ps<=100000) :
 Calls Tryz.prog 135 #[.slice A N C] w (fun e w'=>∃ v,e=.returned v/\Ow w' w.heap.size v (ps.flatMap (·.l))/\Below w.heap.size w w'):=by
 have HN:=hid hN;have HR:=hid hrow;have HK:=hid ok;have HT:=hid tot;clear hN hrow ok tot;go_enter Tryz.func135,Tryz.ntmps135
 go_wp2_with fail
 go_loopw [3,11] (fun s i wr=>∃ k:Nat,s=.int .i64 ((sizes (ps.take k):Nat):Int)/\i=.int .i64 (k:Int)/\k<=N/\w=wr) (fun _ i _=>N-(intOf i).toNat)
 case atStart=>exact ⟨0,rfl,rfl,Nat.zero_le _,rfl⟩
 case round =>
  obtain ⟨k,rfl,rfl,hk,rfl⟩:=hrel;have hs1:=g4r ps k;have hs2:=g4r ps (k+1)
  by_cases hlt:k<N
  ·have hkl:k<ps.length:=by rw [HN.out];exact hlt
   have hsn:=g4e ps k hkl;obtain ⟨b,off,rfl,hb,hc⟩:=HR.out (by intro e;rw [e] at hkl;simp at hkl);have q:=hc k hkl;have HTT:=HT.out;obtain ⟨s0,hs0⟩:∃ s0,sizes (ps.take k)=s0:=⟨_,rfl⟩;obtain ⟨s3,hs3⟩:∃ s3,sizes (ps.take (k+1))=s3:=⟨_,rfl⟩;obtain ⟨m,hm⟩:∃ m,ps[k].n=m:=⟨_,rfl⟩;rw [hs0,hs3,hm] at hsn;rw [hs0] at hs1;rw [hs3] at hs2;rw [hm] at q;have HS3:=hid hs3;have hw1:IntKind.i64.wrap ((s0:Int)+(m:Int))=(s3:Int):=by rw [IntWalk.i64_in _ (by omega)];omega
   have hw2:IntKind.i64.wrap ((k:Int)+1)=(k:Int)+1:=IntWalk.i64_in _ (by omega);have hneg:¬ ((s3:Int)<0):=by omega
   rw [hs0];clear hs0 hs3 hsn hs1 hs2 hc HTT hm;go_wp2_with fail
   go_roundw
   case rel=>exact ⟨k+1,by rw [HS3.out],by go_num,by omega,trivial⟩
   case measure=>simp [intOf];omega
  obtain rfl:k=N:=by omega
  have HTT:=HT.out;have hall:ps.take k=ps:=by rw [<- HN.out];exact List.take_length
  rw [hall];obtain ⟨s0,hs0⟩:∃ s0,sizes ps=s0:=⟨_,rfl⟩;rw [hs0] at HTT ⊢;have cG:=h0m s0 (by omega) w;clear hs0 hs1 hs2 hall;go_wp2_with fail
  refine cG.mono ?_;rintro e w2 ⟨v,rfl,hO,b2⟩;have HO:=hid hO;have B2:=hid b2;clear hO b2 cG;go_wp2_with fail
  go_loopw [6,27] (fun v i wr=>∃ j:Nat,i=.int .i64 (j:Int)/\j<=k/\Hid (Ow wr w.heap.size v ((ps.take j).flatMap (·.l)))/\Hid (Below w.heap.size w wr)) (fun _ i _=>k-(intOf i).toNat)
  case atStart=>exact ⟨0,rfl,Nat.zero_le _,HO,B2⟩
  case round =>
   obtain ⟨j,rfl,hj,OW,BW⟩:=hrel;clear HO B2
   by_cases hlj:j<k
   ·have hjl:j<ps.length:=by rw [HN.out];exact hlj
    obtain ⟨b,off,rfl,hb,hc⟩:=HR.out (by intro e;rw [e] at hjl;simp at hjl);have q:wr.cell? ⟨b,off+j,none⟩=some (.slice ps[j].A ps[j].n ps[j].c):=(BW.out.cell (p:=⟨b,off+j,none⟩) hb).trans (hc j hjl);have pk:=(HK.out ps[j] (List.getElem_mem hjl)).below BW.out;have h1:((ps.take j).flatMap (·.l)).length=sizes (ps.take j):=g7f _ (fun p hp=>HK.out p (List.mem_of_mem_take hp));have h2:=g4r ps (j+1)
    rw [g4e ps j hjl] at h2;have h3:=HT.out;obtain ⟨v',W',hrun,ho,hg,hge⟩:=g9r wr w.heap.size u6 _ OW.out ps[j].A ps[j].n ps[j].c ps[j].l pk.len pk.nil pk.row (by rw [h1];omega) BW.out.size;have HO2:=hid (show Ow W' w.heap.size v' ((ps.take (j+1)).flatMap (·.l)) from by rw [List.take_succ_eq_append_getElem hjl,List.flatMap_append];simpa using ho);have B3:=hid (BW.out.grown hg BW.out.size hge)
    have R:=hid hrun;have hw2:IntKind.i64.wrap ((j:Int)+1)=(j:Int)+1:=IntWalk.i64_in _ (by omega);obtain ⟨PV,hPV⟩:∃ PV,Value.slice ps[j].A ps[j].n ps[j].c=PV:=⟨_,rfl⟩;rw [hPV] at q R;clear hrun ho hg hge hc pk h1 h2 h3 hPV OW BW;go_wp2_with (at_builtin;((with_reducible refine Lib.wpList_append_run _ rfl _ _ _ _ rfl _ _ ?_ ?_ _ _ R.out ?_);(next=>rfl);(next=>rfl)))
    go_roundw
    case rel=>exact ⟨j+1,by go_num,by omega,HO2,B3⟩
    case measure=>simp [intOf];omega
   obtain rfl:j=k:=by omega
   have hall:ps.take j=ps:=by rw [<- HN.out];exact List.take_length
   rw [hall] at OW;clear hall;go_wp2_with fail
   go_ret
   exact ⟨_,rfl,OW.out,BW.out⟩
end Go.Proofs.YtglejnkoojpelaaGreat.TreeI
