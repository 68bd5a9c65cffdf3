import Derived.Test.YtglejnkoojpelaaGreatMP4
import Derived.Test.YtglejnkoojpelaaGreatMA1
set_option maxRecDepth 100000
set_option maxHeartbeats 32000000
namespace Go.Proofs.YtglejnkoojpelaaGreat.Page
open Go.RowKit Gen
open Lib (hid)
def h6c:Nat->Bs->Option (List Int×Bs)
 | 0,u=>some ([],u)
 | k+1,u=>(rNum u).bind fun a=>(h6c k a.2).map fun c=>(a.1 :: c.1,c.2)
def h3h (u:Bs):Option (Pg×Bs):=(rNum u).bind fun a=>(h6c a.1.toNat a.2).bind fun b=>(rNum b.2).map fun c=>({kind:=3,pages:=b.1,next:=c.1},c.2)
theorem g7k {α:Type} {t e:TypeId} {enc:α->Value} (E:Elem Tryz.prog t e enc) (W:World) (B:Nat) (v:Value) (l:List α) (h:OwnG W e enc B v l) (x:α) (X:Value) (hX:X=enc x) (hn:l.length<=1000000) (hB:B<=W.heap.size) :
 ∃ v' W',(Builtin.append_ #[t,t] t #[v,.slice (some ⟨W.heap.size,0,none⟩) 1 1]).run Tryz.prog (W.alloc (.cells #[X] e))=.ok v' W'/\OwnG W' e enc B v' (l++[x])/\W.grownBy W' v.ownBlock/\(∀ k,v.ownBlock=some k->B<=k)/\(∀ b o,b<W.heap.size->some b≠v.ownBlock->W'.cell? ⟨b,o,none⟩=W.cell? ⟨b,o,none⟩):=by
 have h2:=h4d h (.cells #[X] e);obtain ⟨v',W',h1,h3,h4,h5⟩:=g1x E (W.alloc (.cells #[X] e)) B v l h2 (some ⟨W.heap.size,0,none⟩) 1 1 [x] rfl (fun h=>by cases h) (lit1 W X e _ x hX) (by omega) (by simp;omega);have g:W.grownBy W' v.ownBlock:=(World.grownBy_alloc W _ _).trans h4;exact ⟨v',W',h1,h3,g,fun k hk=>(World.ownsRow.lt h k hk).1,fun b o hb hne=>World.cell?_of_block (w:=W) (a:=⟨b,o,none⟩) (g.block b hb hne)⟩
theorem OwnG.own_row {w:World} {e:TypeId} {α:Type} {enc:α->Value} {B:Nat} {v:Value} {l:List α} (h:OwnG w e enc B v l):∃ A c,v=.slice A l.length c/\RowG w enc A l/\∀ a,A=some a->B<=a.block:=by
 have h0:=h;obtain ⟨A,c,e,_,_,_,h4⟩:=OwnG.row h;refine ⟨A,c,e,h4,fun a ha=>?_⟩;subst ha;rw [e] at h0;exact (World.ownsRow.lt h0 a.block rfl).1
theorem g1v {w:World} {e:TypeId} {α:Type} {enc:α->Value} {B:Nat} {a:Addr} {n c:Nat} {l:List α} (h:OwnG w e enc B (.slice (some a) n c) l):B<=a.block:=by
 obtain ⟨A',c',e,_,hge⟩:=OwnG.own_row h;cases e;exact hge a rfl
theorem h4w {w w':World} {e:TypeId} {α:Type} {enc:α->Value} {B b:Nat} {A:Option Addr} {n c:Nat} {l:List α} (h:OwnG w e enc B (.slice A n c) l) (g:w.grownBy w' (some b)) (hb:b<B):RowG w' enc A l:=by
 obtain ⟨A',c',e,hr,hge⟩:=OwnG.own_row h;cases e;exact g3z hr g (fun _ a ha=>by have:=hge a ha;simp;omega)
abbrev p3b (sv:Value) (nx:Int):Array Value:=#[.int .i64 3,.slice none 0 0,.slice none 0 0,.slice none 0 0,sv,.int .i64 nx,.int .u64 0,.int .i64 0,.int .i64 0,.int .i64 0,.int .i64 0]
structure k3y (w:World) (rb n:Nat) (R:Option (List Int×Bs)) (k:Nat) (ps:List Int) (v:Bs) (sv:Value) (wr:World):Prop where
 rd:Rd wr rb v
 at_:At wr (w.heap.size+1) (p3b sv 0)
 zero:At wr w.heap.size (pC 0)
 own:OwnG wr 3 numV (w.heap.size+2) sv ps
 grown:w.grownBy wr (some rb)
 size:w.heap.size+2<=wr.heap.size
 left:ahead ps (h6c (n-k) v)=R
 len:ps.length=k
 rng:∀ x∈ps,0<=x/\x<65536
theorem k5d {w w2:World} {rb n:Nat} {R:Option (List Int×Bs)} {k:Nat} {ps:List Int} {x:Int} {v2:Bs} {sv:Value} (hlt:rb<w.heap.size) (r:Rd w2 rb v2) (ha:At w2 (w.heap.size+1) (p3b sv 0)) (hz:At w2 w.heap.size (pC 0)) (ho:OwnG w2 3 numV (w.heap.size+2) sv ps) (hg:w.grownBy w2 (some rb)) (hs:w.heap.size+2<=w2.heap.size)
 (hR:ahead (ps++[x]) (h6c (n-(k+1)) v2)=R) (hl:ps.length=k) (hk:k<=100000) (hx:0<=x/\x<65536) (hp:∀ x∈ps,0<=x/\x<65536) :
 ∃ v' W',(Builtin.append_ #[66,66] 66 #[sv,.slice (some ⟨w2.heap.size,0,none⟩) 1 1]).run Tryz.prog (w2.alloc (.cells #[.int .i64 x] 3))=.ok v' W' /\
  W'.cell? ⟨w.heap.size+1,4,none⟩=some sv/\W'.frozen? ⟨w.heap.size+1,4,none⟩=false/\k3y w rb n R (k+1) (ps++[x]) v2 v' (W'.setCell ⟨w.heap.size+1,4,none⟩ v'):=by
 obtain ⟨v',W',hrun,ho',hg',hown,_⟩:=g7k g2p w2 (w.heap.size+2) sv ps ho x (.int .i64 x) rfl (by omega) hs;have hne:∀ b,b<w.heap.size+2->some b≠sv.ownBlock:=fun b hb e=>by have:=hown b e.symm;omega
 have ha':=ha.grownRow hg' (hne _ (by omega));have hz':=hz.grownRow hg' (hne _ (by omega));have r':=r.grownRow hg' (fun k hk=>by have:=hown k hk;omega);have g2:w.grownBy W' (some rb):=h0f hg hg' (fun j hj=>by have:=hown j hj;omega);have ha2:=ha'.set 4 v' (by simp);refine ⟨v',W',hrun,ha'.2.2 4 _ rfl,ha'.2.1 4,⟨r'.set_other (by omega),ha2,hz'.set_other (by omega),g3y ho' (g0r _ _ _ _) (by omega),g1i g2 (by omega),by have:=hg'.size;simp;omega,hR,by rw [List.length_append,hl];rfl,fun y hy=>?_⟩⟩
 rcases List.mem_append.1 hy with hy | hy
 ·exact hp y hy
 ·simp only [List.mem_singleton] at hy;subst hy;exact hx
theorem k5i (rb:Nat) (u0:Bs) (w:World) (h:Rd w rb u0):Calls Tryz.prog 270 #[ptr rb] w (h3w (h3h u0) rb w):=by
 have hlt:=h.lt;obtain ⟨hat,har⟩:=h3p w 3;have b0:Below w.heap.size w ((w.alloc (.cells (pC 0) 103)).alloc (.cells (pC 3) 103)):=((Below.refl _ _).alloc (Nat.le_refl _) _).alloc (by simp) _;have G0:=hid (g2w (rb:=rb) (g2w (World.grownBy.refl w (some rb)) (.cells (pC 0) 103)) (.cells (pC 3) 103));have SZ:=hid (show w.heap.size+2<=((w.alloc (.cells (pC 0) 103)).alloc (.cells (pC 3) 103)).heap.size by simp)
 have AP0:=hid hat;have AR0:=hid har;have LT:=hid hlt;have cF:=g2u rb u0 _ (h.below b0);clear hat har b0 h hlt;unfold pC pgC at *;rcases hr0:rNum u0 with _ | ⟨x0,u1⟩
 ·rw [hr0] at cF;have Z0:=hid hr0;clear hr0;go_enter Tryz.func270,Tryz.ntmps270
  go_wp2_with fail
  refine cF.mono ?_;rintro e w1 ⟨hg,rfl⟩;exact ⟨rfl,g0q (by simp [h3h,Z0.out]) (G0.out.trans hg)⟩
 rw [hr0] at cF;have hx:=g3l hr0;have E0:=hid hr0;clear hr0;obtain ⟨n,rfl⟩:=Int.eq_ofNat_of_zero_le hx.1;have hn:n<65536:=by omega
 obtain ⟨R,hR⟩:∃ R,h6c n u1=R:=⟨_,rfl⟩;have ER:Hid (h3h u0=R.bind fun b=>(rNum b.2).map fun c=>({kind:=3,pages:=b.1,next:=c.1},c.2)):=hid (by simp [h3h,E0.out,hR]);have HR:=hid hR;clear hx hR E0;go_enter Tryz.func270,Tryz.ntmps270
 go_wp2_with fail
 refine cF.mono ?_;rintro e w1 ⟨hg,rfl,hr⟩;have ST:Hid (k3y w rb n R 0 [] u1 (.slice none 0 0) w1):=hid ⟨hr,AP0.out.grown hg (by have:=LT.out;omega),AR0.out.grown hg (by have:=LT.out;omega),OwnG.nil _ _ _ _,G0.out.trans hg,Nat.le_trans SZ.out hg.size,by rw [Nat.sub_zero,HR.out,h5n],rfl,fun x hx=>by cases hx⟩;clear hg hr cF AP0 AR0 G0 SZ HR;go_wp2_with fail
 go_loopw [9] (fun i wr=>∃ (k:Nat) (ps:List Int) (v:Bs) (sv:Value),i=.int .i64 (k:Int)/\k<=n/\k3y w rb n R k ps v sv wr) (fun i _=>n-(intOf i).toNat)
 case atStart=>exact ⟨0,[],u1,_,rfl,Nat.zero_le _,ST.out⟩
 case round =>
  obtain ⟨k,ps,v,sv,rfl,hk,hst⟩:=hrel
  by_cases hkn:k<n
  ·have HST:=hid hst;have rdd:Rd wr.drew rb v:=hst.rd.below (Below.refl _ _).drew;have cT:=g2u rb v wr.drew rdd;have gd:wr.grownBy wr.drew (some rb):=⟨rfl,rfl,rfl,Nat.le_refl _,fun _ _ _=>rfl⟩;have GD:=hid gd;have S0:wr.drew.cell? ⟨w.heap.size+1,4,none⟩=some sv:=hst.at_.2.2 4 _ rfl;rcases hr1:rNum v with _ | ⟨x,v1⟩
   ·rw [hr1] at cT;have EN:Hid (h3h u0=none):=hid (by
     have h:=hst.left;rw [show n-k=(n-k-1)+1 by omega] at h;rw [ER.out,<- h];simp [h6c,hr1,ahead])
    clear hr1 hst rdd gd;go_wp2_with fail
    refine g2b (S:=fun w'=>w'.cell? ⟨w.heap.size+1,4,none⟩=some sv) 9 (by kernel_rfl) rfl rfl rfl rfl (by kernel_rfl) (by kernel_rfl) ?_;intro w3 hw3;subst hw3;have hSR:=S0;simp only [List.set_cons_zero,List.set_cons_succ];refine Gen.tk 0 hSR ?_;simp only [Act.put];refine Gen.tk 1 hSR ?_;simp only [Act.put];refine Gen.tk 2 hSR ?_;simp only [Act.put];refine Gen.tk 3 hSR ?_;simp only [Act.put]
    refine Gen.tk 4 hSR ?_;simp only [Act.put];refine wpAnyH_ready (rs:=[5]) (by kernel_rfl) (by simp) (AllReadyH.cons rfl (fun K hK=>?_) AllReadyH.nil);go_simp
    refine cT.mono ?_;rintro e w2 ⟨hg,rfl⟩;exact ⟨rfl,g0q EN.out (HST.out.grown.trans (GD.out.trans hg))⟩
   rw [hr1] at cT;have E1:=hid hr1;have N1:=hid (g3l hr1);clear hst hr1 rdd gd;go_wp2_with fail
   refine g2b (S:=fun w'=>w'.cell? ⟨w.heap.size+1,4,none⟩=some sv) 9 (by kernel_rfl) rfl rfl rfl rfl (by kernel_rfl) (by kernel_rfl) ?_;intro w3 hw3;subst hw3;have hSR:=S0;simp only [List.set_cons_zero,List.set_cons_succ];refine Gen.tk 0 hSR ?_;simp only [Act.put];refine Gen.tk 1 hSR ?_;simp only [Act.put];refine Gen.tk 2 hSR ?_;simp only [Act.put];refine Gen.tk 3 hSR ?_;simp only [Act.put]
   refine Gen.tk 4 hSR ?_;simp only [Act.put];refine wpAnyH_ready (rs:=[5]) (by kernel_rfl) (by simp) (AllReadyH.cons rfl (fun K hK=>?_) AllReadyH.nil);go_simp
   refine cT.mono ?_;rintro e w2 ⟨hg,rfl,hr⟩;have gg:=GD.out.trans hg;have q2:=HST.out.at_.grown gg (by have:=LT.out;omega);obtain ⟨v',W',hrun,hc,hf,hst⟩:=k5d (n:=n) (R:=R) (k:=k) (x:=x) LT.out hr q2 (HST.out.zero.grown gg (by have:=LT.out;omega)) (g3y HST.out.own gg (by have:=LT.out;omega)) (HST.out.grown.trans gg) (Nat.le_trans HST.out.size gg.size) (by
    have h:=HST.out.left;rw [show n-k=(n-(k+1))+1 by omega] at h;rw [<- h,<- h2a];simp [h6c,E1.out]) HST.out.len (by omega) N1.out HST.out.rng
   obtain ⟨A',c',rfl,-,-⟩:=OwnG.own_row hst.own;obtain ⟨m',hm'⟩:∃ m',(ps++[x]).length=m':=⟨_,rfl⟩;rw [hm'] at hrun hst;have Q:=hid hrun;have HN:=hid hst;have S2:=hid (q2.2.2 4 _ rfl);have S3:=hid ((q2.below ((Below.refl w2.heap.size w2).alloc (Nat.le_refl _) (.cells #[.int .i64 x] 3)) q2.1).2.2 4 _ rfl);have S4:=hid hc;clear hrun hst hm' hg hr gg q2 cT HST S0;refine hK.out _ _ S2.out (fun hSR=>?_)
   clear hK K;refine wpAnyH_ready (rs:=[6]) (by kernel_rfl) (by simp) (AllReadyH.cons rfl (fun K hK=>?_) AllReadyH.nil);go_simp
   refine hK.out _ _ S3.out (fun hSR=>?_);clear hK K;refine wpAnyH_ready (rs:=[7]) (by kernel_rfl) (by simp) (AllReadyH.cons rfl (fun K hK=>?_) AllReadyH.nil);refine g0i (by rfl) (.tmp 12) (.tmp 17) _ _ (by rfl) (by rfl) (by rfl) Q.out ?_;refine hK.out _ _ S4.out (fun hSR=>?_);clear hK K;simp only [Act.put];refine Gen.tk 8 hSR ?_;simp only [Act.put];refine Gen.tk 9 hSR ?_;simp only [Act.put]
   refine wpAnyH_done (by kernel_rfl) ?_ _;show Oper.wp _ _ _ _ _ _;unfold Oper.wp;go_simp
   clear hSR;go_wp2_with fail
   go_roundw
   case rel=>exact ⟨k+1,_,_,_,by go_num,by omega,HN.out⟩
   case measure=>simp [intOf];omega
  ·obtain rfl:k=n:=by omega
   have RE:Hid (R=some (ps,v)):=hid (by
    have h:=hst.left;rw [Nat.sub_self] at h;rw [<- h];simp [h6c,ahead])
   have HST:=hid hst;have cN:=g2u rb v wr hst.rd;rcases hr1:rNum v with _ | ⟨y,v2⟩
   ·rw [hr1] at cN;have EN:Hid (h3h u0=none):=hid (by rw [ER.out,RE.out];simp [hr1]);clear hr1 hst;go_wp2_with fail
    refine cN.mono ?_;rintro e w2 ⟨hg,rfl⟩;exact ⟨rfl,g0q EN.out (HST.out.grown.trans hg)⟩
   rw [hr1] at cN;have EN:Hid (h3h u0=some ({kind:=3,pages:=ps,next:=y},v2)):=hid (by rw [ER.out,RE.out];simp [hr1]);have NY:=hid (g3l hr1);clear hst hr1;go_wp2_with fail
   refine cN.mono ?_;rintro e w2 ⟨hg,rfl,hr⟩;have lt:=LT.out;have q1:=HST.out.at_.grown hg (by omega);obtain ⟨A,c,e0,hnc,hcl,-⟩:=OwnG.row HST.out.own;subst e0;have HNC:=hid hnc;have HCL:=hid hcl;clear hnc hcl;have s0:=q1.2.2 5 _ rfl;have f0:=q1.2.1 5;have AP:=hid (q1.set 5 (.int .i64 y) (by simp));have AR:=hid ((HST.out.zero.grown hg (by omega)).set_other (b':=w.heap.size+1) (i:=5) (v:=.int .i64 y) (by omega))
   have R5:=hid (hr.set_other (b:=w.heap.size+1) (o:=5) (v:=.int .i64 y) (by omega));have G5:=hid (g1i (b:=w.heap.size+1) (o:=5) (v:=.int .i64 y) (HST.out.grown.trans hg) (by omega));have OW:=hid (g3y (g3y HST.out.own hg (by omega)) (g0r w2 (w.heap.size+1) 5 (.int .i64 y)) (by omega));have HGE:Hid (∀ a,A=some a->w.heap.size<=a.block):=hid (fun a ha=>by subst ha;have:=(g1v HST.out.own);omega)
   have LN:=hid HST.out.len;have RG:=hid HST.out.rng;clear hg hr q1 cN HST lt;have c0:(w2.setCell ⟨w.heap.size+1,5,none⟩ (.int .i64 y)).cell? ⟨w.heap.size+1,0,none⟩=some (.int .i64 3):=AP.out.2.2 0 _ rfl;have c1:(w2.setCell ⟨w.heap.size+1,5,none⟩ (.int .i64 y)).cell? ⟨w.heap.size+1,1,none⟩=some (.slice none 0 0):=AP.out.2.2 1 _ rfl;have c2:(w2.setCell ⟨w.heap.size+1,5,none⟩ (.int .i64 y)).cell? ⟨w.heap.size+1,2,none⟩=some (.slice none 0 0):=AP.out.2.2 2 _ rfl
   have c3:(w2.setCell ⟨w.heap.size+1,5,none⟩ (.int .i64 y)).cell? ⟨w.heap.size+1,3,none⟩=some (.slice none 0 0):=AP.out.2.2 3 _ rfl;have c4:(w2.setCell ⟨w.heap.size+1,5,none⟩ (.int .i64 y)).cell? ⟨w.heap.size+1,4,none⟩=some (.slice A ps.length c):=AP.out.2.2 4 _ rfl;have c5:(w2.setCell ⟨w.heap.size+1,5,none⟩ (.int .i64 y)).cell? ⟨w.heap.size+1,5,none⟩=some (.int .i64 y):=AP.out.2.2 5 _ rfl;have c6:(w2.setCell ⟨w.heap.size+1,5,none⟩ (.int .i64 y)).cell? ⟨w.heap.size+1,6,none⟩=some (.int .u64 0):=AP.out.2.2 6 _ rfl
   have c7:(w2.setCell ⟨w.heap.size+1,5,none⟩ (.int .i64 y)).cell? ⟨w.heap.size+1,7,none⟩=some (.int .i64 0):=AP.out.2.2 7 _ rfl;have c8:(w2.setCell ⟨w.heap.size+1,5,none⟩ (.int .i64 y)).cell? ⟨w.heap.size+1,8,none⟩=some (.int .i64 0):=AP.out.2.2 8 _ rfl;have c9:(w2.setCell ⟨w.heap.size+1,5,none⟩ (.int .i64 y)).cell? ⟨w.heap.size+1,9,none⟩=some (.int .i64 0):=AP.out.2.2 9 _ rfl;have c10:(w2.setCell ⟨w.heap.size+1,5,none⟩ (.int .i64 y)).cell? ⟨w.heap.size+1,10,none⟩=some (.int .i64 0):=AP.out.2.2 10 _ rfl
   have r0:(w2.setCell ⟨w.heap.size+1,5,none⟩ (.int .i64 y)).cell? ⟨w.heap.size,0,none⟩=some (.int .i64 0):=AR.out.2.2 0 _ rfl;have r1:(w2.setCell ⟨w.heap.size+1,5,none⟩ (.int .i64 y)).cell? ⟨w.heap.size,1,none⟩=some (.slice none 0 0):=AR.out.2.2 1 _ rfl;have r2:(w2.setCell ⟨w.heap.size+1,5,none⟩ (.int .i64 y)).cell? ⟨w.heap.size,2,none⟩=some (.slice none 0 0):=AR.out.2.2 2 _ rfl;have r3:(w2.setCell ⟨w.heap.size+1,5,none⟩ (.int .i64 y)).cell? ⟨w.heap.size,3,none⟩=some (.slice none 0 0):=AR.out.2.2 3 _ rfl
   have r4:(w2.setCell ⟨w.heap.size+1,5,none⟩ (.int .i64 y)).cell? ⟨w.heap.size,4,none⟩=some (.slice none 0 0):=AR.out.2.2 4 _ rfl;have r5:(w2.setCell ⟨w.heap.size+1,5,none⟩ (.int .i64 y)).cell? ⟨w.heap.size,5,none⟩=some (.int .i64 0):=AR.out.2.2 5 _ rfl;have r6:(w2.setCell ⟨w.heap.size+1,5,none⟩ (.int .i64 y)).cell? ⟨w.heap.size,6,none⟩=some (.int .u64 0):=AR.out.2.2 6 _ rfl;have r7:(w2.setCell ⟨w.heap.size+1,5,none⟩ (.int .i64 y)).cell? ⟨w.heap.size,7,none⟩=some (.int .i64 0):=AR.out.2.2 7 _ rfl
   have r8:(w2.setCell ⟨w.heap.size+1,5,none⟩ (.int .i64 y)).cell? ⟨w.heap.size,8,none⟩=some (.int .i64 0):=AR.out.2.2 8 _ rfl;have r9:(w2.setCell ⟨w.heap.size+1,5,none⟩ (.int .i64 y)).cell? ⟨w.heap.size,9,none⟩=some (.int .i64 0):=AR.out.2.2 9 _ rfl;have r10:(w2.setCell ⟨w.heap.size+1,5,none⟩ (.int .i64 y)).cell? ⟨w.heap.size,10,none⟩=some (.int .i64 0):=AR.out.2.2 10 _ rfl;have fz:∀ j,(w2.setCell ⟨w.heap.size+1,5,none⟩ (.int .i64 y)).frozen? ⟨w.heap.size,j,none⟩=false:=AR.out.2.1
   have HAW:=hid (g2y AR.out (.int .i64 3) (.slice none 0 0) (.slice none 0 0) (.slice none 0 0) (.slice A ps.length c) (.int .i64 y) (.int .u64 0) (.int .i64 0) (.int .i64 0) (.int .i64 0) (.int .i64 0));have HGW:=hid (g3p G5.out (b:=w.heap.size) (Nat.le_refl _) (.int .i64 3) (.slice none 0 0) (.slice none 0 0) (.slice none 0 0) (.slice A ps.length c) (.int .i64 y) (.int .u64 0) (.int .i64 0) (.int .i64 0) (.int .i64 0) (.int .i64 0))
   have HRW:=hid (g6n R5.out LT.out (.int .i64 3) (.slice none 0 0) (.slice none 0 0) (.slice none 0 0) (.slice A ps.length c) (.int .i64 y) (.int .u64 0) (.int .i64 0) (.int .i64 0) (.int .i64 0) (.int .i64 0));have HOW:Hid (g0c (g1o (w2.setCell ⟨w.heap.size+1,5,none⟩ (.int .i64 y)) w.heap.size (.int .i64 3) (.slice none 0 0) (.slice none 0 0) (.slice none 0 0) (.slice A ps.length c) (.int .i64 y) (.int .u64 0) (.int .i64 0) (.int .i64 0) (.int .i64 0) (.int .i64 0)) {kind:=3,pages:=ps,next:=y} {A4:=A,c4:=c}):=hid (by
    have g:=g1f (w2.setCell ⟨w.heap.size+1,5,none⟩ (.int .i64 y)) w.heap.size (.int .i64 3) (.slice none 0 0) (.slice none 0 0) (.slice none 0 0) (.slice A ps.length c) (.int .i64 y) (.int .u64 0) (.int .i64 0) (.int .i64 0) (.int .i64 0) (.int .i64 0);exact ⟨fun h=>absurd rfl h,fun h=>absurd rfl h,fun h=>absurd rfl h,h4w OW.out g (by omega)⟩)
   clear AP AR R5 G5 OW;generalize hpl:ps.length=pl at *;go_wp2_with fail
   change bodyPost _ _ _ _ _ (g1o (w2.setCell ⟨w.heap.size+1,5,none⟩ (.int .i64 y)) w.heap.size (.int .i64 3) (.slice none 0 0) (.slice none 0 0) (.slice none 0 0) (.slice A pl c) (.int .i64 y) (.int .u64 0) (.int .i64 0) (.int .i64 0) (.int .i64 0) (.int .i64 0));generalize g1o (w2.setCell ⟨w.heap.size+1,5,none⟩ (.int .i64 y)) w.heap.size (.int .i64 3) (.slice none 0 0) (.slice none 0 0) (.slice none 0 0) (.slice A pl c) (.int .i64 y) (.int .u64 0) (.int .i64 0) (.int .i64 0) (.int .i64 0) (.int .i64 0)=W at *
   clear c0 r0 c1 r1 c2 r2 c3 r3 c4 r4 c5 r5 c6 r6 c7 r7 c8 r8 c9 r9 c10 r10 fz;have c0:=HAW.out.2.2 0 _ rfl;have c1:=HAW.out.2.2 1 _ rfl;have c2:=HAW.out.2.2 2 _ rfl;have c3:=HAW.out.2.2 3 _ rfl;have c4:=HAW.out.2.2 4 _ rfl;have c5:=HAW.out.2.2 5 _ rfl;have c6:=HAW.out.2.2 6 _ rfl;have c7:=HAW.out.2.2 7 _ rfl;have c8:=HAW.out.2.2 8 _ rfl;have c9:=HAW.out.2.2 9 _ rfl;have c10:=HAW.out.2.2 10 _ rfl
   refine bodyPost_ret (v:=.agg #[.int .i64 3,.slice none 0 0,.slice none 0 0,.slice none 0 0,.slice A pl c,.int .i64 y,.int .u64 0,.int .i64 0,.int .i64 0,.int .i64 0,.int .i64 0]) (by simp [results,Tryz.results270,go_sem, *]) rfl ?_;subst hpl;refine g3o (p:={kind:=3,pages:=ps,next:=y}) (u:=v2) {A4:=A,c4:=c} EN.out HGW.out HOW.out (by have:=LN.out;have:=NY.out;refine ⟨?_,?_,?_,?_,?_,?_,?_,?_,?_,?_,?_⟩ <;> simp [I64] <;> omega) HRW.out ⟨(fun _ h=>by cases h),(fun _ h=>by cases h),(fun _ h=>by cases h),HGE.out,HNC.out,(by simp),(by simp),(by simp),HCL.out,(fun _=>rfl),(fun _=>rfl),(fun _=>rfl)⟩
def h4v:Nat->Bs->Option (List (Bs×Int)×Bs)
 | 0,u=>some ([],u)
 | k+1,u=>(g9z u).bind fun a=>(rNum a.2).bind fun b=>(h4v k b.2).map fun c=>((a.1,b.1) :: c.1,c.2)
def g4k (u:Bs):Option (Pg×Bs):=(rNum u).bind fun a=>(rNum a.2).bind fun z=>(h4v a.1.toNat z.2).map fun b=>({kind:=2,keys:=b.1.map (·.1),kids:=z.1 :: b.1.map (·.2)},b.2)
abbrev p0t (sk sd:Value):Array Value:=#[.int .i64 2,.slice none 0 0,sk,sd,.slice none 0 0,.int .i64 0,.int .u64 0,.int .i64 0,.int .i64 0,.int .i64 0,.int .i64 0]
structure BrSt (w:World) (rb:Nat) (ks:List Bs) (ds:List Int) (v:Bs) (sk sd:Value) (wr:World):Prop where
 rd:Rd wr rb v
 at_:At wr (w.heap.size+1) (p0t sk sd)
 zero:At wr w.heap.size (pC 0)
 keys:OwnG wr 9 strV (w.heap.size+2) sk ks
 kids:OwnG wr 3 numV (w.heap.size+2) sd ds
 grown:w.grownBy wr (some rb)
 size:w.heap.size+2<=wr.heap.size
theorem BrSt.call {w wr w2:World} {rb:Nat} {ks:List Bs} {ds:List Int} {v v2:Bs} {sk sd:Value} (h:BrSt w rb ks ds v sk sd wr) (hlt:rb<w.heap.size) (g:wr.grownBy w2 (some rb)) (r:Rd w2 rb v2):BrSt w rb ks ds v2 sk sd w2 :=
 ⟨r,h.at_.grown g (by omega),h.zero.grown g (by omega),g3y h.keys g (by omega),g3y h.kids g (by omega),h.grown.trans g,Nat.le_trans h.size g.size⟩
theorem j1x {w:World} {e:TypeId} {α:Type} {enc:α->Value} {B:Nat} {v:Value} {l:List α} (h:OwnG w e enc B v l) {k:Nat} (hk:v.ownBlock=some k):B<=k/\∃ cur,w.heap[k]?=some (.cells cur e (0,0)):=by
 obtain ⟨_,⟨rfl,_⟩ | ⟨g,cap,cur,rfl,hB,hh,_⟩⟩:=h
 ·cases hk
 ·cases hk;exact ⟨hB,cur,hh⟩
theorem p0c {w:World} {e e':TypeId} {α β:Type} {enc:α->Value} {enc':β->Value} {B B':Nat} {v v':Value} {l:List α} {l':List β} (h:OwnG w e enc B v l) (h':OwnG w e' enc' B' v' l') (he:e≠e') {k:Nat} (hk:v.ownBlock=some k):some k≠v'.ownBlock:=fun e1=>by
 obtain ⟨_,c1,h1⟩:=j1x h hk;obtain ⟨_,c2,h2⟩:=j1x h' e1.symm;rw [h1] at h2;cases h2;exact he rfl
theorem h3j {w w':World} {e:TypeId} {α:Type} {enc:α->Value} {B:Nat} {v:Value} {l:List α} {row:Option Nat} (h:OwnG w e enc B v l) (g:w.grownBy w' row) (hne:∀ k,v.ownBlock=some k->some k≠row):OwnG w' e enc B v l:=by
 obtain ⟨hl,h | ⟨k,cap,cur,rfl,hg,hh,h4,h5,h6,h7⟩⟩:=h
 ·exact ⟨hl,.inl h⟩
 ·exact ⟨hl,.inr ⟨k,cap,cur,rfl,hg,by rw [g.block k (Array.getElem?_eq_some_iff.1 hh).1 (hne k rfl)];exact hh,h4,h5,h6,h7⟩⟩
theorem k8s {w w2:World} {rb:Nat} {ks:List Bs} {ds:List Int} {v2:Bs} {sk sd:Value} (h:BrSt w rb ks ds v2 sk sd w2) (hlt:rb<w.heap.size) (x:Bs) (X:ByteArray) (hX:strB x=X) (hl:ks.length<=100000) :
 ∃ v' W',(Builtin.append_ #[64,64] 64 #[sk,.slice (some ⟨w2.heap.size,0,none⟩) 1 1]).run Tryz.prog (w2.alloc (.cells #[.string X] 9))=.ok v' W' /\
  W'.cell? ⟨w.heap.size+1,2,none⟩=some sk/\W'.frozen? ⟨w.heap.size+1,2,none⟩=false/\BrSt w rb (ks++[x]) ds v2 v' sd (W'.setCell ⟨w.heap.size+1,2,none⟩ v'):=by
 obtain ⟨v',W',hrun,K,G,hown,_⟩:=g7k h5g w2 (w.heap.size+2) sk ks h.keys x (.string X) (by rw [<- hX]) (by omega) h.size;have hne:∀ b,b<w.heap.size+2->some b≠sk.ownBlock:=fun b hb e=>by have:=hown b e.symm;omega
 have ha':=h.at_.grownRow G (hne _ (by omega));have hz':=h.zero.grownRow G (hne _ (by omega));have r':=h.rd.grownRow G (fun k hk=>by have:=hown k hk;omega);have g2:w.grownBy W' (some rb):=h0f h.grown G (fun j hj=>by have:=hown j hj;omega);have ha2:=ha'.set 2 v' (by simp);have gs:=g0r W' (w.heap.size+1) 2 v';obtain ⟨K1,K2⟩:OwnG W' 9 strV (w.heap.size+2) v' (ks++[x])/\OwnG W' 3 numV (w.heap.size+2) sd ds:=⟨K,h3j h.kids G (fun k hk=>p0c h.kids h.keys (by decide) hk)⟩
 exact ⟨v',W',hrun,ha'.2.2 2 _ rfl,ha'.2.1 2,⟨r'.set_other (by omega),ha2,hz'.set_other (by omega),g3y K1 gs (by omega),g3y K2 gs (by omega),g1i g2 (by omega),by have:=G.size;have:=h.size;simp;omega⟩⟩
theorem j7c {w w2:World} {rb:Nat} {ks:List Bs} {ds:List Int} {v2:Bs} {sk sd:Value} (h:BrSt w rb ks ds v2 sk sd w2) (hlt:rb<w.heap.size) (x:Int)  (hl:ds.length<=100000) :
 ∃ v' W',(Builtin.append_ #[66,66] 66 #[sd,.slice (some ⟨w2.heap.size,0,none⟩) 1 1]).run Tryz.prog (w2.alloc (.cells #[.int .i64 x] 3))=.ok v' W' /\
  W'.cell? ⟨w.heap.size+1,3,none⟩=some sd/\W'.frozen? ⟨w.heap.size+1,3,none⟩=false/\BrSt w rb ks (ds++[x]) v2 sk v' (W'.setCell ⟨w.heap.size+1,3,none⟩ v'):=by
 obtain ⟨v',W',hrun,K,G,hown,_⟩:=g7k g2p w2 (w.heap.size+2) sd ds h.kids x (.int .i64 x) (rfl) (by omega) h.size;have hne:∀ b,b<w.heap.size+2->some b≠sd.ownBlock:=fun b hb e=>by have:=hown b e.symm;omega
 have ha':=h.at_.grownRow G (hne _ (by omega));have hz':=h.zero.grownRow G (hne _ (by omega));have r':=h.rd.grownRow G (fun k hk=>by have:=hown k hk;omega);have g2:w.grownBy W' (some rb):=h0f h.grown G (fun j hj=>by have:=hown j hj;omega);have ha2:=ha'.set 3 v' (by simp);have gs:=g0r W' (w.heap.size+1) 3 v';obtain ⟨K1,K2⟩:OwnG W' 9 strV (w.heap.size+2) sk ks/\OwnG W' 3 numV (w.heap.size+2) v' (ds++[x]):=⟨h3j h.keys G (fun k hk=>p0c h.keys h.kids (by decide) hk),K⟩
 exact ⟨v',W',hrun,ha'.2.2 3 _ rfl,ha'.2.1 3,⟨r'.set_other (by omega),ha2,hz'.set_other (by omega),g3y K1 gs (by omega),g3y K2 gs (by omega),g1i g2 (by omega),by have:=G.size;have:=h.size;simp;omega⟩⟩
theorem j0l (wr:World) (rb:Nat):wr.grownBy wr.drew (some rb):=⟨rfl,rfl,rfl,Nat.le_refl _,fun _ _ _=>rfl⟩
theorem j3k (rb:Nat) (u0:Bs) (w:World) (h:Rd w rb u0):Calls Tryz.prog 269 #[ptr rb] w (h3w (g4k u0) rb w):=by
 have hlt:=h.lt;obtain ⟨hat,har⟩:=h3p w 2;have b0:Below w.heap.size w ((w.alloc (.cells (pC 0) 103)).alloc (.cells (pC 2) 103)):=((Below.refl _ _).alloc (Nat.le_refl _) _).alloc (by simp) _;have G0:=hid (g2w (rb:=rb) (g2w (World.grownBy.refl w (some rb)) (.cells (pC 0) 103)) (.cells (pC 2) 103));have SZ:=hid (show w.heap.size+2<=((w.alloc (.cells (pC 0) 103)).alloc (.cells (pC 2) 103)).heap.size by simp)
 have AP0:=hid hat;have AR0:=hid har;have LT:=hid hlt;have cF:=g2u rb u0 _ (h.below b0);clear hat har b0 h hlt;unfold pC pgC at *;rcases hr0:rNum u0 with _ | ⟨x0,u1⟩
 ·rw [hr0] at cF;have Z0:=hid hr0;clear hr0;go_enter Tryz.func269,Tryz.ntmps269
  go_wp2_with fail
  refine cF.mono ?_;rintro e w1 ⟨hg,rfl⟩;exact ⟨rfl,g0q (by simp [g4k,Z0.out]) (G0.out.trans hg)⟩
 rw [hr0] at cF;have hx:=g3l hr0;have E0:=hid hr0;clear hr0;obtain ⟨n,rfl⟩:=Int.eq_ofNat_of_zero_le hx.1;have hn:n<65536:=by omega
 clear hx;go_enter Tryz.func269,Tryz.ntmps269
 go_wp2_with fail
 refine cF.mono ?_;rintro e wr ⟨hg,rfl,hr⟩;have HST:Hid (BrSt w rb [] [] u1 (.slice none 0 0) (.slice none 0 0) wr):=hid ⟨hr,AP0.out.grown hg (by have:=LT.out;omega),AR0.out.grown hg (by have:=LT.out;omega),OwnG.nil _ _ _ _,OwnG.nil _ _ _ _,G0.out.trans hg,Nat.le_trans SZ.out hg.size⟩;clear hg hr cF AP0 AR0 G0 SZ;have cT:=g2u rb u1 wr.drew (HST.out.rd.below (Below.refl _ _).drew);have S0:wr.drew.cell? ⟨w.heap.size+1,3,none⟩=some (.slice none 0 0):=HST.out.at_.2.2 3 _ rfl
 rcases hr1:rNum u1 with _ | ⟨z,u2⟩
 ·rw [hr1] at cT;have EN:Hid (g4k u0=none):=hid (by simp [g4k,E0.out,hr1]);clear hr1;go_wp2_with fail
  refine g2b (S:=fun w'=>w'.cell? ⟨w.heap.size+1,3,none⟩=some (.slice none 0 0)) 9 (by kernel_rfl) rfl rfl rfl rfl (by kernel_rfl) (by kernel_rfl) ?_;intro w3 hw3;subst hw3;have hSR:=S0;simp only [List.set_cons_zero,List.set_cons_succ];refine Gen.tk 0 hSR ?_;simp only [Act.put];refine Gen.tk 1 hSR ?_;simp only [Act.put];refine Gen.tk 2 hSR ?_;simp only [Act.put];refine Gen.tk 3 hSR ?_;simp only [Act.put]
  refine Gen.tk 4 hSR ?_;simp only [Act.put];refine wpAnyH_ready (rs:=[5]) (by kernel_rfl) (by simp) (AllReadyH.cons rfl (fun K hK=>?_) AllReadyH.nil);go_simp
  refine cT.mono ?_;rintro e w2 ⟨hg,rfl⟩;exact ⟨rfl,g0q EN.out (HST.out.grown.trans ((j0l wr rb).trans hg))⟩
 rw [hr1] at cT;have NZ:=hid (g3l hr1);obtain ⟨R,hR⟩:∃ R,h4v n u2=R:=⟨_,rfl⟩;have ER:Hid (g4k u0=R.map fun b=>({kind:=2,keys:=b.1.map (·.1),kids:=z :: b.1.map (·.2)},b.2)):=hid (by simp [g4k,E0.out,hr1,hR]);have HR:=hid hR;clear hr1 hR E0;go_wp2_with fail
 refine g2b (S:=fun w'=>w'.cell? ⟨w.heap.size+1,3,none⟩=some (.slice none 0 0)) 9 (by kernel_rfl) rfl rfl rfl rfl (by kernel_rfl) (by kernel_rfl) ?_;intro w3 hw3;subst hw3;have hSR:=S0;simp only [List.set_cons_zero,List.set_cons_succ];refine Gen.tk 0 hSR ?_;simp only [Act.put];refine Gen.tk 1 hSR ?_;simp only [Act.put];refine Gen.tk 2 hSR ?_;simp only [Act.put];refine Gen.tk 3 hSR ?_;simp only [Act.put]
 refine Gen.tk 4 hSR ?_;simp only [Act.put];refine wpAnyH_ready (rs:=[5]) (by kernel_rfl) (by simp) (AllReadyH.cons rfl (fun K hK=>?_) AllReadyH.nil);go_simp
 refine cT.mono ?_;rintro e w2 ⟨hg,rfl,hr⟩;have gg:=(j0l wr rb).trans hg;have q2:=HST.out.call LT.out gg hr;obtain ⟨v',W',hrun,hc,hf,hst⟩:=j7c q2 LT.out z (by simp);obtain ⟨A',c',rfl,-,-⟩:=OwnG.own_row hst.kids;obtain ⟨m',hm'⟩:∃ m',([]++[z]).length=m':=⟨_,rfl⟩;rw [hm'] at hrun hst;have Q:=hid hrun;have HN:=hid hst;have S2:=hid (q2.at_.2.2 3 _ rfl);have S3:=hid ((q2.at_.below ((Below.refl w2.heap.size w2).alloc (Nat.le_refl _) (.cells #[.int .i64 z] 3)) q2.at_.1).2.2 3 _ rfl)
 have S4:=hid hc;clear hrun hst hm' hg hr gg q2 cT HST S0;refine hK.out _ _ S2.out (fun hSR=>?_);clear hK K;refine wpAnyH_ready (rs:=[6]) (by kernel_rfl) (by simp) (AllReadyH.cons rfl (fun K hK=>?_) AllReadyH.nil);go_simp
 refine hK.out _ _ S3.out (fun hSR=>?_);clear hK K;refine wpAnyH_ready (rs:=[7]) (by kernel_rfl) (by simp) (AllReadyH.cons rfl (fun K hK=>?_) AllReadyH.nil);refine g0i (by rfl) (.tmp 11) (.tmp 16) _ _ (by rfl) (by rfl) (by rfl) Q.out ?_;refine hK.out _ _ S4.out (fun hSR=>?_);clear hK K;simp only [Act.put];refine Gen.tk 8 hSR ?_;simp only [Act.put];refine Gen.tk 9 hSR ?_;simp only [Act.put]
 refine wpAnyH_done (by kernel_rfl) ?_ _;show Oper.wp _ _ _ _ _ _;unfold Oper.wp;go_simp
 clear hSR;rw [List.nil_append] at HN;generalize W'.setCell ⟨w.heap.size+1,3,none⟩ (.slice A' m' c')=W5 at *;clear hf;go_wp2_with fail
 go_loopw [20] (fun i wr=>∃ (k:Nat) (l:List (Bs×Int)) (v:Bs) (sk sd:Value),i=.int .i64 (k:Int)/\k<=n/\BrSt w rb (l.map (·.1)) (z :: l.map (·.2)) v sk sd wr/\Hid (ahead l (h4v (n-k) v)=R)/\Hid (l.length=k)/\Hid (∀ x∈l,0<=x.2/\x.2<65536)) (fun i _=>n-(intOf i).toNat)
 case atStart=>exact ⟨0,[],u2,_,_,rfl,Nat.zero_le _,HN.out,hid (by rw [Nat.sub_zero,HR.out,h5n]),hid rfl,hid (fun x hx=>by cases hx)⟩
 case round =>
  clear HN;obtain ⟨k,l,v,sk,sd,rfl,hk,hst,hQ,hL,hG⟩:=hrel;have HST:=hid hst
  by_cases hkn:k<n
  ·have cT:=h9u rb v wr.drew (hst.rd.below (Below.refl _ _).drew);have S0:wr.drew.cell? ⟨w.heap.size+1,2,none⟩=some sk:=hst.at_.2.2 2 _ rfl;clear hst;rcases hr1:g9z v with _ | ⟨x,v1⟩
   ·rw [hr1] at cT;have EN:Hid (g4k u0=none):=hid (by
     have h:=hQ.out;rw [show n-k=(n-k-1)+1 by omega] at h;rw [ER.out,<- h];simp [h4v,hr1,ahead])
    clear hr1;go_wp2_with fail
    refine g2b (S:=fun w'=>w'.cell? ⟨w.heap.size+1,2,none⟩=some sk) 9 (by kernel_rfl) rfl rfl rfl rfl (by kernel_rfl) (by kernel_rfl) ?_;intro w3 hw3;subst hw3;have hSR:=S0;simp only [List.set_cons_zero,List.set_cons_succ];refine Gen.tk 0 hSR ?_;simp only [Act.put];refine Gen.tk 1 hSR ?_;simp only [Act.put];refine Gen.tk 2 hSR ?_;simp only [Act.put];refine Gen.tk 3 hSR ?_;simp only [Act.put]
    refine Gen.tk 4 hSR ?_;simp only [Act.put];refine wpAnyH_ready (rs:=[5]) (by kernel_rfl) (by simp) (AllReadyH.cons rfl (fun K hK=>?_) AllReadyH.nil);go_simp
    refine cT.mono ?_;rintro e w2 ⟨hg,rfl⟩;exact ⟨rfl,g0q EN.out (HST.out.grown.trans ((j0l wr rb).trans hg))⟩
   rw [hr1] at cT;have E1:=hid hr1;clear hr1;go_wp2_with fail
   refine g2b (S:=fun w'=>w'.cell? ⟨w.heap.size+1,2,none⟩=some sk) 9 (by kernel_rfl) rfl rfl rfl rfl (by kernel_rfl) (by kernel_rfl) ?_;intro w3 hw3;subst hw3;have hSR:=S0;simp only [List.set_cons_zero,List.set_cons_succ];refine Gen.tk 0 hSR ?_;simp only [Act.put];refine Gen.tk 1 hSR ?_;simp only [Act.put];refine Gen.tk 2 hSR ?_;simp only [Act.put];refine Gen.tk 3 hSR ?_;simp only [Act.put]
   refine Gen.tk 4 hSR ?_;simp only [Act.put];refine wpAnyH_ready (rs:=[5]) (by kernel_rfl) (by simp) (AllReadyH.cons rfl (fun K hK=>?_) AllReadyH.nil);go_simp
   refine cT.mono ?_;rintro e w2 ⟨hg,rfl,hr⟩;obtain ⟨X,hX⟩:∃ X,strB x=X:=⟨_,rfl⟩;rw [show strV x=.string X by rw [<- hX]];have gg:=(j0l wr rb).trans hg;have q2:=HST.out.call LT.out gg hr;obtain ⟨v',W',hrun,hc,hf,hst⟩:=k8s q2 LT.out x X hX (by rw [List.length_map,hL.out];omega);obtain ⟨A',c',rfl,-,-⟩:=OwnG.own_row hst.keys;obtain ⟨m',hm'⟩:∃ m',(l.map (·.1)++[x]).length=m':=⟨_,rfl⟩;rw [hm'] at hrun hst
   have Q:=hid hrun;have HN:=hid hst;have S2:=hid (q2.at_.2.2 2 _ rfl);have S3:=hid ((q2.at_.below ((Below.refl w2.heap.size w2).alloc (Nat.le_refl _) (.cells #[.string X] 9)) q2.at_.1).2.2 2 _ rfl);have S4:=hid hc;clear hrun hst hm' hg hr gg q2 cT HST S0;refine hK.out _ _ S2.out (fun hSR=>?_);clear hK K;refine wpAnyH_ready (rs:=[6]) (by kernel_rfl) (by simp) (AllReadyH.cons rfl (fun K hK=>?_) AllReadyH.nil)
   go_simp
   refine hK.out _ _ S3.out (fun hSR=>?_);clear hK K;refine wpAnyH_ready (rs:=[7]) (by kernel_rfl) (by simp) (AllReadyH.cons rfl (fun K hK=>?_) AllReadyH.nil);refine g0i (by rfl) (.tmp 23) (.tmp 28) _ _ (by rfl) (by rfl) (by rfl) Q.out ?_;refine hK.out _ _ S4.out (fun hSR=>?_);clear hK K;simp only [Act.put];refine Gen.tk 8 hSR ?_;simp only [Act.put];refine Gen.tk 9 hSR ?_;simp only [Act.put]
   refine wpAnyH_done (by kernel_rfl) ?_ _;show Oper.wp _ _ _ _ _ _;unfold Oper.wp;go_simp
   clear hSR;clear hX;generalize W'.setCell ⟨w.heap.size+1,2,none⟩ (.slice A' m' c')=W5 at *;have cT:=g2u rb v1 W5.drew (HN.out.rd.below (Below.refl _ _).drew);have S0:W5.drew.cell? ⟨w.heap.size+1,3,none⟩=some sd:=HN.out.at_.2.2 3 _ rfl;clear hf;rcases hr2:rNum v1 with _ | ⟨y,v2⟩
   ·rw [hr2] at cT;have EN:Hid (g4k u0=none):=hid (by
     have h:=hQ.out;rw [show n-k=(n-k-1)+1 by omega] at h;rw [ER.out,<- h];simp [h4v,E1.out,hr2,ahead])
    clear hr2;go_wp2_with fail
    refine g2b (S:=fun w'=>w'.cell? ⟨w.heap.size+1,3,none⟩=some sd) 9 (by kernel_rfl) rfl rfl rfl rfl (by kernel_rfl) (by kernel_rfl) ?_;intro w3 hw3;subst hw3;have hSR:=S0;simp only [List.set_cons_zero,List.set_cons_succ];refine Gen.tk 0 hSR ?_;simp only [Act.put];refine Gen.tk 1 hSR ?_;simp only [Act.put];refine Gen.tk 2 hSR ?_;simp only [Act.put];refine Gen.tk 3 hSR ?_;simp only [Act.put]
    refine Gen.tk 4 hSR ?_;simp only [Act.put];refine wpAnyH_ready (rs:=[5]) (by kernel_rfl) (by simp) (AllReadyH.cons rfl (fun K hK=>?_) AllReadyH.nil);go_simp
    refine cT.mono ?_;rintro e w2 ⟨hg,rfl⟩;exact ⟨rfl,g0q EN.out (HN.out.grown.trans ((j0l W5 rb).trans hg))⟩
   rw [hr2] at cT;have HQ2:Hid (ahead (l++[(x,y)]) (h4v (n-(k+1)) v2)=R):=hid (by
    have h:=hQ.out;rw [show n-k=(n-(k+1))+1 by omega] at h;rw [<- h,<- h2a];simp [h4v,E1.out,hr2])
   have NY:=g3l hr2;have HG2:Hid (∀ q∈l++[(x,y)],0<=q.2/\q.2<65536):=hid (fun q hq=>by
    rcases List.mem_append.1 hq with hq | hq
    ·exact hG.out q hq
    ·simp only [List.mem_singleton] at hq;subst hq;exact NY)
   have HL2:Hid ((l++[(x,y)]).length=k+1):=hid (by rw [List.length_append,hL.out];rfl);have HLL:=hid (show (z :: l.map (·.2)).length<=100000 by rw [List.length_cons,List.length_map,hL.out];omega);clear hr2 hQ hG hL NY E1;have HST:=HN;clear HN;go_wp2_with fail
   refine g2b (S:=fun w'=>w'.cell? ⟨w.heap.size+1,3,none⟩=some sd) 9 (by kernel_rfl) rfl rfl rfl rfl (by kernel_rfl) (by kernel_rfl) ?_;intro w3 hw3;subst hw3;have hSR:=S0;simp only [List.set_cons_zero,List.set_cons_succ];refine Gen.tk 0 hSR ?_;simp only [Act.put];refine Gen.tk 1 hSR ?_;simp only [Act.put];refine Gen.tk 2 hSR ?_;simp only [Act.put];refine Gen.tk 3 hSR ?_;simp only [Act.put]
   refine Gen.tk 4 hSR ?_;simp only [Act.put];refine wpAnyH_ready (rs:=[5]) (by kernel_rfl) (by simp) (AllReadyH.cons rfl (fun K hK=>?_) AllReadyH.nil);go_simp
   refine cT.mono ?_;rintro e w2 ⟨hg,rfl,hr⟩;have gg:=(j0l W5 rb).trans hg;have q2:=HST.out.call LT.out gg hr;obtain ⟨v',W',hrun,hc,hf,hst⟩:=j7c q2 LT.out y HLL.out;obtain ⟨A',c',rfl,-,-⟩:=OwnG.own_row hst.kids;obtain ⟨m',hm'⟩:∃ m',(z :: l.map (·.2)++[y]).length=m':=⟨_,rfl⟩;rw [hm'] at hrun hst;have Q:=hid hrun;have HN:=hid hst;have S2:=hid (q2.at_.2.2 3 _ rfl);have S3:=hid ((q2.at_.below ((Below.refl w2.heap.size w2).alloc (Nat.le_refl _) (.cells #[.int .i64 y] 3)) q2.at_.1).2.2 3 _ rfl)
   have S4:=hid hc;clear hrun hst hm' hg hr gg q2 cT HST S0;refine hK.out _ _ S2.out (fun hSR=>?_);clear hK K;refine wpAnyH_ready (rs:=[6]) (by kernel_rfl) (by simp) (AllReadyH.cons rfl (fun K hK=>?_) AllReadyH.nil);go_simp
   refine hK.out _ _ S3.out (fun hSR=>?_);clear hK K;refine wpAnyH_ready (rs:=[7]) (by kernel_rfl) (by simp) (AllReadyH.cons rfl (fun K hK=>?_) AllReadyH.nil);refine g0i (by rfl) (.tmp 32) (.tmp 37) _ _ (by rfl) (by rfl) (by rfl) Q.out ?_;refine hK.out _ _ S4.out (fun hSR=>?_);clear hK K;simp only [Act.put];refine Gen.tk 8 hSR ?_;simp only [Act.put];refine Gen.tk 9 hSR ?_;simp only [Act.put]
   refine wpAnyH_done (by kernel_rfl) ?_ _;show Oper.wp _ _ _ _ _ _;unfold Oper.wp;go_simp
   clear hSR;have HN2:Hid (BrSt w rb ((l++[(x,y)]).map (·.1)) (z :: (l++[(x,y)]).map (·.2)) v2 _ _ _):=hid (by simpa using HN.out);go_wp2_with fail
   go_roundw
   case rel=>exact ⟨k+1,l++[(x,y)],v2,_,_,by go_num,by omega,HN2.out,HQ2,HL2,HG2⟩
   case measure=>simp [intOf];omega
  ·obtain rfl:k=n:=by omega
   have EN:Hid (g4k u0=some ({kind:=2,keys:=l.map (·.1),kids:=z :: l.map (·.2)},v)):=hid (by
    have h:=hQ.out;rw [Nat.sub_self] at h;rw [ER.out,<- h];simp [h4v,ahead])
   have LN:=hid hL.out;obtain ⟨A,cA,e0,hcz,hcl,-,-⟩:=OwnG.row hst.keys;subst e0;obtain ⟨A2,cB,e0,hdz,hdl,-,-⟩:=OwnG.row hst.kids;subst e0;have HCZ:=hid hcz;have HCL:=hid hcl;have HDZ:=hid hdz;have HDL:=hid hdl;clear hcz hcl hdz hdl;have AP:=hid hst.at_;have AR:=hid hst.zero;have G5:=hid hst.grown;have R5:=hid hst.rd;have HGE:Hid (∀ a,A=some a->w.heap.size<=a.block):=hid (fun a ha=>by subst ha;have:=(g1v hst.keys);omega)
   have HGF:Hid (∀ a,A2=some a->w.heap.size<=a.block):=hid (fun a ha=>by subst ha;have:=(g1v hst.kids);omega);have OK:=hid hst.keys;have OD:=hid hst.kids;have NG:Hid (∀ x∈z :: l.map (·.2),0<=x/\x<65536):=hid (fun x hx=>by
    rcases List.mem_cons.1 hx with rfl | hx
    ·exact NZ.out
    ·obtain ⟨q,hq,rfl⟩:=List.mem_map.1 hx;exact hG.out q hq)
   have LK:Hid ((l.map (·.1)).length=k/\(z :: l.map (·.2)).length=k+1):=hid ⟨by rw [List.length_map,hL.out],by rw [List.length_cons,List.length_map,hL.out]⟩;generalize l.map (·.1)=ks at *;generalize z :: l.map (·.2)=ds at *;clear hst HST hQ hL hG;have c0:wr.cell? ⟨w.heap.size+1,0,none⟩=some (.int .i64 2):=AP.out.2.2 0 _ rfl;have c1:wr.cell? ⟨w.heap.size+1,1,none⟩=some (.slice none 0 0):=AP.out.2.2 1 _ rfl
   have c2:wr.cell? ⟨w.heap.size+1,2,none⟩=some (.slice A ks.length cA):=AP.out.2.2 2 _ rfl;have c3:wr.cell? ⟨w.heap.size+1,3,none⟩=some (.slice A2 ds.length cB):=AP.out.2.2 3 _ rfl;have c4:wr.cell? ⟨w.heap.size+1,4,none⟩=some (.slice none 0 0):=AP.out.2.2 4 _ rfl;have c5:wr.cell? ⟨w.heap.size+1,5,none⟩=some (.int .i64 0):=AP.out.2.2 5 _ rfl;have c6:wr.cell? ⟨w.heap.size+1,6,none⟩=some (.int .u64 0):=AP.out.2.2 6 _ rfl
   have c7:wr.cell? ⟨w.heap.size+1,7,none⟩=some (.int .i64 0):=AP.out.2.2 7 _ rfl;have c8:wr.cell? ⟨w.heap.size+1,8,none⟩=some (.int .i64 0):=AP.out.2.2 8 _ rfl;have c9:wr.cell? ⟨w.heap.size+1,9,none⟩=some (.int .i64 0):=AP.out.2.2 9 _ rfl;have c10:wr.cell? ⟨w.heap.size+1,10,none⟩=some (.int .i64 0):=AP.out.2.2 10 _ rfl;have r0:wr.cell? ⟨w.heap.size,0,none⟩=some (.int .i64 0):=AR.out.2.2 0 _ rfl;have r1:wr.cell? ⟨w.heap.size,1,none⟩=some (.slice none 0 0):=AR.out.2.2 1 _ rfl
   have r2:wr.cell? ⟨w.heap.size,2,none⟩=some (.slice none 0 0):=AR.out.2.2 2 _ rfl;have r3:wr.cell? ⟨w.heap.size,3,none⟩=some (.slice none 0 0):=AR.out.2.2 3 _ rfl;have r4:wr.cell? ⟨w.heap.size,4,none⟩=some (.slice none 0 0):=AR.out.2.2 4 _ rfl;have r5:wr.cell? ⟨w.heap.size,5,none⟩=some (.int .i64 0):=AR.out.2.2 5 _ rfl;have r6:wr.cell? ⟨w.heap.size,6,none⟩=some (.int .u64 0):=AR.out.2.2 6 _ rfl;have r7:wr.cell? ⟨w.heap.size,7,none⟩=some (.int .i64 0):=AR.out.2.2 7 _ rfl
   have r8:wr.cell? ⟨w.heap.size,8,none⟩=some (.int .i64 0):=AR.out.2.2 8 _ rfl;have r9:wr.cell? ⟨w.heap.size,9,none⟩=some (.int .i64 0):=AR.out.2.2 9 _ rfl;have r10:wr.cell? ⟨w.heap.size,10,none⟩=some (.int .i64 0):=AR.out.2.2 10 _ rfl;have fz:∀ j,wr.frozen? ⟨w.heap.size,j,none⟩=false:=AR.out.2.1;have HAW:=hid (g2y AR.out (.int .i64 2) (.slice none 0 0) (.slice A ks.length cA) (.slice A2 ds.length cB) (.slice none 0 0) (.int .i64 0) (.int .u64 0) (.int .i64 0) (.int .i64 0) (.int .i64 0) (.int .i64 0))
   have HGW:=hid (g3p G5.out (b:=w.heap.size) (Nat.le_refl _) (.int .i64 2) (.slice none 0 0) (.slice A ks.length cA) (.slice A2 ds.length cB) (.slice none 0 0) (.int .i64 0) (.int .u64 0) (.int .i64 0) (.int .i64 0) (.int .i64 0) (.int .i64 0));have HRW:=hid (g6n R5.out LT.out (.int .i64 2) (.slice none 0 0) (.slice A ks.length cA) (.slice A2 ds.length cB) (.slice none 0 0) (.int .i64 0) (.int .u64 0) (.int .i64 0) (.int .i64 0) (.int .i64 0) (.int .i64 0))
   have HOW:Hid (g0c (g1o wr w.heap.size (.int .i64 2) (.slice none 0 0) (.slice A ks.length cA) (.slice A2 ds.length cB) (.slice none 0 0) (.int .i64 0) (.int .u64 0) (.int .i64 0) (.int .i64 0) (.int .i64 0) (.int .i64 0)) {kind:=2,keys:=ks,kids:=ds} {A2:=A,c2:=cA,A3:=A2,c3:=cB}):=hid (by
    have g:=g1f wr w.heap.size (.int .i64 2) (.slice none 0 0) (.slice A ks.length cA) (.slice A2 ds.length cB) (.slice none 0 0) (.int .i64 0) (.int .u64 0) (.int .i64 0) (.int .i64 0) (.int .i64 0) (.int .i64 0);exact ⟨fun h=>absurd rfl h,h4w OK.out g (by omega),h4w OD.out g (by omega),fun h=>absurd rfl h⟩)
   clear AP AR R5 G5 OK OD;generalize hkl:ks.length=kl at *;generalize hdl:ds.length=dl at *;go_wp2_with fail
   change bodyPost _ _ _ _ _ (g1o wr w.heap.size (.int .i64 2) (.slice none 0 0) (.slice A kl cA) (.slice A2 dl cB) (.slice none 0 0) (.int .i64 0) (.int .u64 0) (.int .i64 0) (.int .i64 0) (.int .i64 0) (.int .i64 0));generalize g1o wr w.heap.size (.int .i64 2) (.slice none 0 0) (.slice A kl cA) (.slice A2 dl cB) (.slice none 0 0) (.int .i64 0) (.int .u64 0) (.int .i64 0) (.int .i64 0) (.int .i64 0) (.int .i64 0)=W at *
   clear c0 r0 c1 r1 c2 r2 c3 r3 c4 r4 c5 r5 c6 r6 c7 r7 c8 r8 c9 r9 c10 r10 fz;have c0:=HAW.out.2.2 0 _ rfl;have c1:=HAW.out.2.2 1 _ rfl;have c2:=HAW.out.2.2 2 _ rfl;have c3:=HAW.out.2.2 3 _ rfl;have c4:=HAW.out.2.2 4 _ rfl;have c5:=HAW.out.2.2 5 _ rfl;have c6:=HAW.out.2.2 6 _ rfl;have c7:=HAW.out.2.2 7 _ rfl;have c8:=HAW.out.2.2 8 _ rfl;have c9:=HAW.out.2.2 9 _ rfl;have c10:=HAW.out.2.2 10 _ rfl
   refine bodyPost_ret (v:=.agg #[.int .i64 2,.slice none 0 0,.slice A kl cA,.slice A2 dl cB,.slice none 0 0,.int .i64 0,.int .u64 0,.int .i64 0,.int .i64 0,.int .i64 0,.int .i64 0]) (by simp [results,Tryz.results269,go_sem, *]) rfl ?_;subst hkl hdl;refine g3o (p:={kind:=2,keys:=ks,kids:=ds}) (u:=v) {A2:=A,c2:=cA,A3:=A2,c3:=cB} EN.out HGW.out HOW.out (by have:=LK.out;refine ⟨?_,?_,?_,?_,?_,?_,?_,?_,?_,?_,?_⟩ <;> simp [I64] <;> omega) HRW.out ⟨(fun _ h=>by cases h),HGE.out,HGF.out,(fun _ h=>by cases h),(fun _=>rfl),(by simp),HCL.out,HDL.out,(by simp),(fun _=>rfl),HCZ.out,HDZ.out⟩
end Go.Proofs.YtglejnkoojpelaaGreat.Page
