import Derived.Test.YtglejnkoojpelaaGreatMT7
set_option maxRecDepth 100000
set_option maxHeartbeats 32000000
namespace Go.Proofs.YtglejnkoojpelaaGreat.Tree
open Go.RowKit Gen
open Disk (St Dev Mod ptr)
open Page (Pg Lay PgOk g0c pgC pgV Enc g0v BytesAt strV strB PRow SRow IRow less)
open Pool (Po NAt PoAt La poC poV numV At g0k g1g g1k g2m g0g OwnI chunks layAll May)
open Store
open Lib (hid)
structure Wide (p:Pg) (y:Lay):Prop where
 kind:p.kind=1\/p.kind=2
 len:p.pairs.length<=1000/\p.keys.length<=1000/\p.kids.length<=1001
 kids:p.kind=2->p.kids.length=p.keys.length+1
 c1:p.pairs.length<=y.c1
 c2:p.keys.length<=y.c2
 c3:p.kids.length<=y.c3
theorem h0s {s c k:Nat} {A:Option Addr} {x:Addr} (h:sub s A c k=some x):∃ z,A=some z/\z.block=x.block:=by
 unfold sub at h
 split at h
 ·exact ⟨x,h,rfl⟩
 ·obtain ⟨z,rfl,rfl⟩:=Option.map_eq_some_iff.1 h;exact ⟨z,rfl,by unfold Addr.add;split <;> rfl⟩
theorem j3e {w:World} {p:Pg} {y:Lay} (h:g0c w p y) (hw:Wide p y):g0c w (g3d p) (g9l p y)/\g0c w (g1t p) (g5p p y):=by
 by_cases hk:p.kind=1
 ·rw [g3d,if_pos hk,g9l,if_pos hk,g1t,if_pos hk,g5p,if_pos hk];exact ⟨⟨g8j h.r1 _,fun e=>absurd rfl e,fun e=>absurd rfl e,fun e=>absurd rfl e⟩,⟨h1l h.r1 hw.c1 _,fun e=>absurd rfl e,fun e=>absurd rfl e,fun e=>absurd rfl e⟩⟩
 ·rw [g3d,if_neg hk,g9l,if_neg hk,g1t,if_neg hk,g5p,if_neg hk];exact ⟨⟨fun e=>absurd rfl e,TreeS.row_take h.r2 _,TreeI.row_take h.r3 _,fun e=>absurd rfl e⟩,⟨fun e=>absurd rfl e,TreeS.row_drop h.r2 hw.c2 _,TreeI.row_drop h.r3 hw.c3 _,fun e=>absurd rfl e⟩⟩
theorem h9j {k:Int} (hk:k=1\/k=2) {l1:List (Disk.Bs×Disk.Bs)} {l2:List Disk.Bs} {l3:List Int} (h1:l1.length<=2000) (h2:l2.length<=2000) (h3:l3.length<=2000):PgOk {kind:=k,pairs:=l1,keys:=l2,kids:=l3} :=
 ⟨⟨by show _<=k;omega,by show k<=_;omega⟩,by show l1.length<=_;omega,by show l2.length<=_;omega,by show l3.length<=_;omega,Nat.zero_le _,g2e.next,by show 0<18446744073709551616;omega,g2e.root,g2e.depth,g2e.count,g2e.high⟩
theorem k0w {p:Pg} {y:Lay} (hw:Wide p y):PgOk (g3d p)/\PgOk (g1t p):=by
 have hl:=hw.len
 by_cases hk:p.kind=1
 ·rw [g3d,if_pos hk,g1t,if_pos hk];exact ⟨h9j (.inl rfl) (by rw [List.length_take];omega) (Nat.zero_le _) (Nat.zero_le _),h9j (.inl rfl) (by rw [List.length_drop];omega) (Nat.zero_le _) (Nat.zero_le _)⟩
 ·rw [g3d,if_neg hk,g1t,if_neg hk];exact ⟨h9j hw.kind (Nat.zero_le _) (by rw [List.length_take];omega) (by rw [List.length_take];omega),h9j hw.kind (Nat.zero_le _) (by rw [List.length_drop];omega) (by rw [List.length_drop];omega)⟩
theorem k1n {S:List Nat} {p:Pg} {y:Lay} (h1:∀ x,y.A1=some x->x.block∉S) (h2:∀ x,y.A2=some x->x.block∉S) (h3:∀ x,y.A3=some x->x.block∉S):Apart S (g3d p) (g9l p y)/\Apart S (g1t p) (g5p p y):=by
 by_cases hk:p.kind=1
 ·rw [g3d,if_pos hk,g9l,if_pos hk,g1t,if_pos hk,g5p,if_pos hk];refine ⟨⟨fun _ x e=>h1 x e,fun e=>absurd rfl e,fun e=>absurd rfl e,fun e=>absurd rfl e⟩,⟨fun _ x e=>?_,fun e=>absurd rfl e,fun e=>absurd rfl e,fun e=>absurd rfl e⟩⟩;obtain ⟨z,e1,e2⟩:=h0s e;rw [<- e2];exact h1 z e1
 ·rw [g3d,if_neg hk,g9l,if_neg hk,g1t,if_neg hk,g5p,if_neg hk];refine ⟨⟨fun e=>absurd rfl e,fun _ x e=>h2 x e,fun _ x e=>h3 x e,fun e=>absurd rfl e⟩,⟨fun e=>absurd rfl e,fun _ x e=>?_,fun _ x e=>?_,fun e=>absurd rfl e⟩⟩
  ·obtain ⟨z,e1,e2⟩:=h0s e;rw [<- e2];exact h2 z e1
  ·obtain ⟨z,e1,e2⟩:=h0s e;rw [<- e2];exact h3 z e1
theorem j9x {w:World} (p:Pg) (y:Lay) (hr:g0c w p y) (hw:Wide p y) (hf:g1j p<g0o p) :
 Calls Tryz.prog 255 #[pgV p y] w (fun e w'=>e=.returned (.tuple #[pgV (g3d p) (g9l p y),strV (midK p),pgV (g1t p) (g5p p y)])/\Below w.heap.size w w'):=by
 have hl:=hw.len;unfold g1j g0o at hf;rcases hw.kind with hk | hk
 ·rw [if_pos hk,if_pos hk] at hf;exact j4b p y hr hk ⟨by omega,hl.1⟩ hw.c1
 ·rw [if_neg (by omega),if_neg (by omega)] at hf;exact h9l p y hr hk ⟨by omega,hl.2.1⟩ (hw.kids hk) hw.c2 hw.c3
theorem p1p (W:World) (B:Nat) (k:Disk.Bs) (hB:B<=W.heap.size):TreeS.Ow (W.alloc (.cells #[strV k] 9)) B (.slice (some ⟨W.heap.size,0,none⟩) 1 1) [k] :=
 ⟨rfl,.inr ⟨W.heap.size,1,#[strV k],rfl,hB,heap_alloc_last W _,Nat.le_refl _,by unfold maxLen;omega,rfl,rfl⟩⟩
theorem j8y {w0 w:World} {B:Blk} {tb:Nat} {d:St} {t:T} {r dp c:Int} (h:TrOn w0 w B tb d t r dp c) (p:Pg) (y:Lay) (hr:g0c w p y) (hwd:Wide p y) (hoff:(∀ x,y.A1=some x->x.block∉tall tb B)/\(∀ x,y.A2=some x->x.block∉tall tb B)/\(∀ x,y.A3=some x->x.block∉tall tb B)) (hf:g1j p<g0o p) {A:Option Addr} {n cap:Nat} {os:List Int} (ho:KAt w A n cap os) (hoo:Off (tall tb B) A) (hI:∀ x∈os,I64 x) (hn:n<=1000) :
 Calls Tryz.prog 229 #[ptr tb,pgV p y,.slice A n cap] w (g5e (g2n d t p os) w0 B tb r dp c w):=by
 have b1:=Pool.g0a w (.cells (pgC p y) 103);have A1:=at_new w (pgC p y) 103;obtain ⟨W1,hW1⟩:∃ W1,w.alloc (.cells (pgC p y) 103)=W1:=⟨_,rfl⟩;rw [hW1] at A1 b1;have b2:=Pool.g0a W1 (.cells (pgC p y) 103);have A2:=A1.below b2 A1.1;obtain ⟨W2,hW2⟩:∃ W2,W1.alloc (.cells (pgC p y) 103)=W2:=⟨_,rfl⟩;rw [hW2] at A2 b2;have B2:=hid (b1.trans (b2.mono b1.size));have L1:=hid (g1c (o:=0) A1 p y rfl)
 have KS:∀ w',Below W2.heap.size W2 w'->w'.cell? ⟨w.heap.size,0,none⟩=some (.int .i64 p.kind)/\w'.cell? ⟨w.heap.size,1,none⟩=some (.slice y.A1 p.pairs.length y.c1)/\w'.cell? ⟨w.heap.size,2,none⟩=some (.slice y.A2 p.keys.length y.c2)/\w'.cell? ⟨w.heap.size,3,none⟩=some (.slice y.A3 p.kids.length y.c3)/\w'.cell? ⟨w.heap.size,4,none⟩=some (.slice y.A4 p.pages.length y.c4)/\w'.cell? ⟨w.heap.size,5,none⟩=some (.int .i64 p.next)/\w'.cell? ⟨w.heap.size,6,none⟩=some (.int .u64 (p.epoch:Int))/\w'.cell? ⟨w.heap.size,7,none⟩=some (.int .i64 p.root)/\w'.cell? ⟨w.heap.size,8,none⟩=some (.int .i64 p.depth)/\w'.cell? ⟨w.heap.size,9,none⟩=some (.int .i64 p.count)/\w'.cell? ⟨w.heap.size,10,none⟩=some (.int .i64 p.high):=fun w' hb=>by
  have g2:=A2.below hb A2.1;exact ⟨g2.2.2 0 _ rfl,g2.2.2 1 _ rfl,g2.2.2 2 _ rfl,g2.2.2 3 _ rfl,g2.2.2 4 _ rfl,g2.2.2 5 _ rfl,g2.2.2 6 _ rfl,g2.2.2 7 _ rfl,g2.2.2 8 _ rfl,g2.2.2 9 _ rfl,g2.2.2 10 _ rfl⟩
 have HKS:=hid KS;have K0:=hid (KS _ ((Below.refl _ _).drew:Below W2.heap.size W2 W2.drew));have hpv:pgV p y=.agg #[.int .i64 p.kind,.slice y.A1 p.pairs.length y.c1,.slice y.A2 p.keys.length y.c2,.slice y.A3 p.kids.length y.c3,.slice y.A4 p.pages.length y.c4,.int .i64 p.next,.int .u64 (p.epoch:Int),.int .i64 p.root,.int .i64 p.depth,.int .i64 p.count,.int .i64 p.high]:=rfl;have cF:=h1f p y W2.drew
 have cM:=hid (fun W=>h9x p y W);have cH:=hid (fun W (hb:Below w.heap.size w W)=>j9x p y (hr.below hb) hwd hf);rw [hpv] at cF cM L1 cH ⊢;obtain ⟨f,hff⟩:∃ f,g0o p=f:=⟨_,rfl⟩;obtain ⟨q,hqq⟩:∃ q,g1j p=q:=⟨_,rfl⟩;have hnf:q<f:=by omega
 rw [hff] at cF;rw [hqq] at cM;obtain ⟨hra,hrb⟩:=j3e hr hwd;obtain ⟨hoa,hob⟩:=k0w hwd;obtain ⟨haa,hab⟩:=k1n (p:=p) hoff.1 hoff.2.1 hoff.2.2;have HF0:=show g4h p=[g3d p,g1t p]/\g6m p=[midK p] from ⟨if_pos (by omega),if_pos (by omega)⟩
 obtain ⟨lp,hlp⟩:∃ lp,g3d p=lp:=⟨_,rfl⟩;obtain ⟨rp,hrp⟩:∃ rp,g1t p=rp:=⟨_,rfl⟩;obtain ⟨yl,hyl⟩:∃ yl,g9l p y=yl:=⟨_,rfl⟩;obtain ⟨yr,hyr⟩:∃ yr,g5p p y=yr:=⟨_,rfl⟩;rw [hlp,hyl] at hra haa;rw [hrp,hyr] at hrb hab;rw [hlp] at hoa;rw [hrp] at hob;rw [hlp,hrp] at HF0;rw [hlp,hrp,hyl,hyr] at cH;have HF:=hid HF0;have RA:=hid (show g0c w lp yl/\g0c w rp yr from ⟨hra,hrb⟩);have OA:=hid (show PgOk lp/\PgOk rp from ⟨hoa,hob⟩)
 have AA:=hid (show Apart (tall tb B) lp yl/\Apart (tall tb B) rp yr from ⟨haa,hab⟩);have HOO:=hid hoo;have HI:=hid hI;have HN:=hid hn;have HH:=hid h;have HO:=hid ho;have A2H:=hid A2;clear b1 b2 A1 A2 KS hr hf h ho hoo hI hff hqq hpv hn hwd hoff HF0 hra hrb hoa hob haa hab hlp hrp hyl hyr;have hW1':w.alloc (.cells #[.int .i64 p.kind,.slice y.A1 p.pairs.length y.c1,.slice y.A2 p.keys.length y.c2,.slice y.A3 p.kids.length y.c3,.slice y.A4 p.pages.length y.c4,.int .i64 p.next,.int .u64 (p.epoch:Int),.int .i64 p.root,.int .i64 p.depth,.int .i64 p.count,.int .i64 p.high] 103)=W1:=hW1
 have hW2':W1.alloc (.cells #[.int .i64 p.kind,.slice y.A1 p.pairs.length y.c1,.slice y.A2 p.keys.length y.c2,.slice y.A3 p.kids.length y.c3,.slice y.A4 p.pages.length y.c4,.int .i64 p.next,.int .u64 (p.epoch:Int),.int .i64 p.root,.int .i64 p.depth,.int .i64 p.count,.int .i64 p.high] 103)=W2:=hW2;clear hW1 hW2;go_enter Tryz.func229,Tryz.ntmps229
 go_wp2_with (first | ((with_reducible refine Disk.g0d rfl 103 (.tmp 4) rfl _ ?_ L1.out ?_);(next=>rfl)))
 go_region_held3 (fun w'=>w'.cell? ⟨w.heap.size,0,none⟩=some (.int .i64 p.kind)/\w'.cell? ⟨w.heap.size,1,none⟩=some (.slice y.A1 p.pairs.length y.c1)/\w'.cell? ⟨w.heap.size,2,none⟩=some (.slice y.A2 p.keys.length y.c2)/\w'.cell? ⟨w.heap.size,3,none⟩=some (.slice y.A3 p.kids.length y.c3)/\w'.cell? ⟨w.heap.size,4,none⟩=some (.slice y.A4 p.pages.length y.c4)/\w'.cell? ⟨w.heap.size,5,none⟩=some (.int .i64 p.next)/\w'.cell? ⟨w.heap.size,6,none⟩=some (.int .u64 (p.epoch:Int))/\w'.cell? ⟨w.heap.size,7,none⟩=some (.int .i64 p.root)/\w'.cell? ⟨w.heap.size,8,none⟩=some (.int .i64 p.depth)/\w'.cell? ⟨w.heap.size,9,none⟩=some (.int .i64 p.count)/\w'.cell? ⟨w.heap.size,10,none⟩=some (.int .i64 p.high))
  (with_reducible (first | exact K0.out | exact K1.out | exact K2.out))
  (first
    | (go_at_call 226;(with_reducible refine cF.mono ?_);rintro e w3 ⟨rfl,bf⟩
       have B3:=hid (show Below W2.heap.size W2 w3 from ((Below.refl W2.heap.size W2).drew).trans bf);have K1:=hid (HKS.out _ B3.out);have cM2:=cM.out w3;clear bf)
    | (go_at_call 254;(with_reducible refine cM2.mono ?_);rintro e w5 ⟨rfl,bm⟩
       have B5:=hid (B3.out.trans (bm.mono B3.out.size));have K2:=hid (HKS.out _ B5.out);clear bm))
 have B05:=hid (show Below w.heap.size w w5 from B2.out.trans (B5.out.mono B2.out.size));have cH5:=cH.out w5 B05.out;have L5:=hid (g1c (o:=0) (A2H.out.below B5.out A2H.out.1) p y rfl);rw [show pgV p y=.agg #[.int .i64 p.kind,.slice y.A1 p.pairs.length y.c1,.slice y.A2 p.keys.length y.c2,.slice y.A3 p.kids.length y.c3,.slice y.A4 p.pages.length y.c4,.int .i64 p.next,.int .u64 (p.epoch:Int),.int .i64 p.root,.int .i64 p.depth,.int .i64 p.count,.int .i64 p.high] from rfl] at L5
 clear K0 K1 K2 cF cM cM2 B3 B2 B5 HKS L1 A2H hW1' hW2' cH;go_wp2_with (first | ((with_reducible refine Disk.g0d rfl 103 (.tmp 4) rfl _ ?_ L5.out ?_);(next=>rfl)))
 refine cH5.mono ?_;rintro e w6 ⟨rfl,b6⟩;have B6:=hid (B05.out.trans (b6.mono B05.out.size));have e1:pgV lp yl=.agg #[.int .i64 lp.kind,.slice yl.A1 lp.pairs.length yl.c1,.slice yl.A2 lp.keys.length yl.c2,.slice yl.A3 lp.kids.length yl.c3,.slice yl.A4 lp.pages.length yl.c4,.int .i64 lp.next,.int .u64 (lp.epoch:Int),.int .i64 lp.root,.int .i64 lp.depth,.int .i64 lp.count,.int .i64 lp.high]:=rfl;have e2:pgV rp yr=.agg #[.int .i64 rp.kind,.slice yr.A1 rp.pairs.length yr.c1,.slice yr.A2 rp.keys.length yr.c2,.slice yr.A3 rp.kids.length yr.c3,.slice yr.A4 rp.pages.length yr.c4,.int .i64 rp.next,.int .u64 (rp.epoch:Int),.int .i64 rp.root,.int .i64 rp.depth,.int .i64 rp.count,.int .i64 rp.high]:=rfl
 have b7:=Pool.g0a w6 (.cells pgZ 103);have a7:=at_new w6 pgZ 103;obtain ⟨W7,hW7⟩:∃ W7,w6.alloc (.cells pgZ 103)=W7:=⟨_,rfl⟩;rw [hW7] at b7 a7;have b8:=Pool.g0a W7 (.cells pgZ 103);have a8:=at_new W7 pgZ 103;have a78:=a7.below b8 a7.1;have hs7:w6.heap.size<W7.heap.size:=a7.1;obtain ⟨W8,hW8⟩:∃ W8,W7.alloc (.cells pgZ 103)=W8:=⟨_,rfl⟩;rw [hW8] at b8 a8 a78;have R9:=hid (g1e (o:=0) a78 lp yl (by simp))
 have a9:=g2o a78 (vs:=(pgC lp yl).toList) (o:=0) (by simp) (C':=pgC lp yl) rfl;have g9:=g0n (pgC lp yl).toList 0 W8 w6.heap.size;have m9:Mod [w6.heap.size] W8 (W8.setCells w6.heap.size 0 (pgC lp yl).toList):=(Mod.refl [w6.heap.size] W8).grown g9 (fun k e=>.inl (by cases e;simp));have a89:=g0l a8 m9 (by simp;omega);obtain ⟨W9,hW9⟩:∃ W9,W8.setCells w6.heap.size 0 (pgC lp yl).toList=W9:=⟨_,rfl⟩
 rw [hW9] at R9 a9 m9 a89 g9;have R10:=hid (g1e (o:=0) a89 rp yr (by simp));have a10:=g2o a89 (vs:=(pgC rp yr).toList) (o:=0) (by simp) (C':=pgC rp yr) rfl;have g10:=g0n (pgC rp yr).toList 0 W9 W7.heap.size;have m10:Mod [W7.heap.size] W9 (W9.setCells W7.heap.size 0 (pgC rp yr).toList):=(Mod.refl [W7.heap.size] W9).grown g10 (fun k e=>.inl (by cases e;simp));have a910:=g0l a9 m10 (by simp;omega)
 obtain ⟨W10,hW10⟩:∃ W10,W9.setCells W7.heap.size 0 (pgC rp yr).toList=W10:=⟨_,rfl⟩;rw [hW10] at R10 a10 m10 a910 g10;have LL:=hid (g1c (o:=0) a910 lp yl rfl);have LR:=hid (g1c (o:=0) a10 rp yr rfl);have B68:Below w6.heap.size w6 W8:=b7.trans (b8.mono b7.size);have B610:Below w6.heap.size w6 W10:=(B68.grown g9 B68.size (fun k e=>by cases e;exact Nat.le_refl _)).grown g10 (Nat.le_trans B68.size g9.size) (fun k e=>by cases e;omega)
 have B10:=B6.out.trans (B610.mono B6.out.size);have b11:=Pool.g0a W10 (.cells ((pgC lp yl)++(pgC rp yr)) 103);have a11:=at_new W10 ((pgC lp yl)++(pgC rp yr)) 103;obtain ⟨W11,hW11⟩:∃ W11,W10.alloc (.cells ((pgC lp yl)++(pgC rp yr)) 103)=W11:=⟨_,rfl⟩;rw [hW11] at b11 a11;have b12:=Pool.g0a W11 (.cells #[strV (midK p)] 9);have B11:=B10.trans (b11.mono B10.size);have ow:=p1p W11 w.heap.size (midK p) B11.size
 have a1112:=a11.below b12 a11.1;obtain ⟨w4,hw4⟩:∃ w4,W11.alloc (.cells #[strV (midK p)] 9)=w4:=⟨_,rfl⟩;rw [hw4] at b12 ow a1112;have B12:=B11.trans (b12.mono B11.size);have H4:=hid (HH.out.quiet B12);have O4:=hid (HO.out.below B12);have PS4:=hid (show j4y w4 W10.heap.size (tall tb B) [(lp,yl),(rp,yr)] from
  ⟨a1112.1,by
   have e:(([(lp,yl),(rp,yr)]:List (Pg×Lay)).flatMap fun x=>(pgC x.1 x.2).toList).toArray=pgC lp yl++pgC rp yr:=by simp
   rw [e];exact a1112,fun x hx=>by
   simp only [List.mem_cons,List.not_mem_nil,or_false] at hx;rcases hx with rfl | rfl
   ·exact RA.out.1.below B12
   ·exact RA.out.2.below B12,fun x hx=>by
   simp only [List.mem_cons,List.not_mem_nil,or_false] at hx;rcases hx with rfl | rfl
   ·exact OA.out.1
   ·exact OA.out.2,fun x hx=>by
   simp only [List.mem_cons,List.not_mem_nil,or_false] at hx;rcases hx with rfl | rfl
   ·exact AA.out.1
   ·exact AA.out.2,g3r HH.out B10.size⟩)
 have M4:=hid (Mod.of_below (tall tb B) B12);have KEY:=hid (show ∀ W,Mod (tall tb B) w4 W->TreeS.Ow W w.heap.size (.slice (some ⟨W11.heap.size,0,none⟩) 1 1) (g6m p) from fun W m=>by
  rw [HF.out.2];exact h2w ow m (fun g e=>by cases e;exact g3r HH.out B11.size))
 have hW7':w6.alloc (.cells #[.int .i64 0,.slice none 0 0,.slice none 0 0,.slice none 0 0,.slice none 0 0,.int .i64 0,.int .u64 0,.int .i64 0,.int .i64 0,.int .i64 0,.int .i64 0] 103)=W7:=hW7;have hW8':W7.alloc (.cells #[.int .i64 0,.slice none 0 0,.slice none 0 0,.slice none 0 0,.slice none 0 0,.int .i64 0,.int .u64 0,.int .i64 0,.int .i64 0,.int .i64 0,.int .i64 0] 103)=W8:=hW8;have hW11':W10.alloc (.cells #[.int .i64 lp.kind,.slice yl.A1 lp.pairs.length yl.c1,.slice yl.A2 lp.keys.length yl.c2,.slice yl.A3 lp.kids.length yl.c3,.slice yl.A4 lp.pages.length yl.c4,.int .i64 lp.next,.int .u64 (lp.epoch:Int),.int .i64 lp.root,.int .i64 lp.depth,.int .i64 lp.count,.int .i64 lp.high,.int .i64 rp.kind,.slice yr.A1 rp.pairs.length yr.c1,.slice yr.A2 rp.keys.length yr.c2,.slice yr.A3 rp.kids.length yr.c3,.slice yr.A4 rp.pages.length yr.c4,.int .i64 rp.next,.int .u64 (rp.epoch:Int),.int .i64 rp.root,.int .i64 rp.depth,.int .i64 rp.count,.int .i64 rp.high] 103)=W11:=by rw [<- hW11];rfl
 obtain ⟨ks,hks⟩:∃ ks,strB (midK p)=ks:=⟨_,rfl⟩;have hkv:strV (midK p)=.string ks:=by rw [<- hks]
 rw [hkv] at hw4 ⊢;rw [e1,e2];rw [e1] at R9 LL;rw [e2] at R10 LR;clear e1 e2 b6 cH5 L5 hW7 hW8 hW11 a7 a8 a78 b7 b8 b11 b12 a9 a89 a10 a910 a11 a1112 m9 m10 g9 g10 hW9 hW10 ow B68 B610 B10 B11 B12 hkv hks hs7;go_wp2_with (first | ((with_reducible refine Disk.g0b rfl 103 (.tmp 10) (.tmp 30) rfl _ _ ?_ ?_ R9.out ?_);(next=>rfl);(next=>rfl)) | ((with_reducible refine Disk.g0b rfl 103 (.tmp 12) (.tmp 32) rfl _ _ ?_ ?_ R10.out ?_);(next=>rfl);(next=>rfl)) | ((with_reducible refine Disk.g0d rfl 103 (.tmp 10) rfl _ ?_ LL.out ?_);(next=>rfl)) | ((with_reducible refine Disk.g0d rfl 103 (.tmp 12) rfl _ ?_ LR.out ?_);(next=>rfl)))
 go_loopw [2,6,7] (fun v kv nv wr=>∃ (k:Nat) (t1:T),v=.slice A k cap/\kv=.slice (some ⟨W11.heap.size,0,none⟩) 1 1/\nv=.slice none 0 0/\Hid (k7q d t os 2 w0 w4 B tb r dp c k t1 wr)) (fun v _ _ _=>lenV v)
 case atStart=>exact ⟨n,t,rfl,rfl,rfl,hid ⟨Nat.le_of_eq O4.out.len.symm,H4.out,Mod.refl _ _,fun _ _ _ h=>by rwa [List.take_of_length_le (Nat.le_of_eq O4.out.len)] at h⟩⟩
 case round =>
  obtain ⟨k,t1,rfl,rfl,rfl,R⟩:=hrel;clear H4;have hkn:k<=n:=by have:=R.out.le;have:=O4.out.len;omega
  have HKN:=hid hkn
  by_cases hk:2<k
  ·obtain ⟨j,hj⟩:∃ j,k=j+1:=⟨k-1,by omega⟩;have hw1:IntKind.i64.wrap ((k:Int)-1)=(j:Int):=by have:=HN.out;rw [IntWalk.i64_in _ (by omega)];omega
   have hk2:(2:Int)<(k:Int):=by omega
   have hjk:(j:Int)<(k:Int):=by omega
   have hjk2:j<k:=by omega
   have hjc:j<=cap:=by have:=O4.out.cap;omega
   have hOw:=h2f O4.out R.out.mod HOO.out;have hjo:j<os.length:=by have:=O4.out.len;omega
   obtain ⟨ob,oo,eA,hbl,hc⟩:=hOw.row (by intro e;rw [e] at hjo;simp at hjo);have hcell:=hc j hjo;have hoff:ob∉tall tb B:=HOO.out ⟨ob,oo,none⟩ eA;have LT:=hid (show (os.take k).length=k/\(os.take k)[(os.take k).length-1]?.getD 0=os[j]/\(os.take k).take ((os.take k).length-1)=os.take j from by
    have e:(os.take k).length=k:=by rw [List.length_take];omega
    rw [e,hj];refine ⟨rfl,?_,?_⟩
    ·rw [Nat.add_sub_cancel,List.getElem?_take,if_pos (by omega),List.getElem?_eq_getElem hjo];rfl
    ·rw [List.take_take,Nat.add_sub_cancel];congr 1;omega)
   have hI64:=HI.out _ (List.getElem_mem hjo);obtain ⟨z,hz⟩:∃ z,os[j]=z:=⟨_,rfl⟩;rw [hz] at hcell LT hI64;have bD:Below wr.heap.size wr wr.drew:=(Below.refl _ _).drew;have HD:=hid (R.out.tr.quiet bD);obtain ⟨a,s⟩:=HD.out.sto.has;have cD:=h3r s z hI64;have HKS:=hid (show ∀ w',Mod B.all wr w'->w'.cell? ⟨ob,oo+j,none⟩=some (.int .i64 z) from fun w' hm=>(hm.cell (p:=⟨ob,oo+j,none⟩) hbl (fun e=>hoff (List.mem_cons_of_mem _ e))).trans hcell)
   have K0:=hid (show wr.drew.cell? ⟨tb,0,none⟩=some (ptr B.ss)/\wr.drew.cell? ⟨ob,oo+j,none⟩=some (.int .i64 z) from ⟨HD.out.box.2.2 0 _ rfl,hcell⟩);have MD:=hid (Mod.of_below B.all bD);have s1:=fun W=>TreeI.row_head (some ⟨ob,oo,none⟩) k cap j hjc W
   rcases hd:g1n t1 z with ⟨t2,x⟩;rw [hd] at cD;have HDT:=hid hd;subst eA;clear hc hcell s hz hI64 bD hd hOw hoff hbl hjo hjc hkn;simp only at cD;have HJ:=hid hj;have HK:=hid hk;clear hj;go_wp2_with fail
   go_region_held3 (fun w'=>w'.cell? ⟨tb,0,none⟩=some (ptr B.ss)/\w'.cell? ⟨ob,oo+j,none⟩=some (.int .i64 z))
    (with_reducible (first | exact K0.out | exact K1.out))
    (first
      | (go_at_call 104;(with_reducible refine cD.mono ?_);rintro e w5 ⟨rfl,hs5,m5⟩
         have H5:=hid (HD.out.store hs5 m5);have M5:=hid (MD.out.trans m5);have K1:=hid (show w5.cell? ⟨tb,0,none⟩=some (ptr B.ss)/\w5.cell? ⟨ob,oo+j,none⟩=some (.int .i64 z) from ⟨H5.out.box.2.2 0 _ rfl,HKS.out _ M5.out⟩);clear hs5 m5))
   have M6:=hid (R.out.mod.trans (M5.out.mono (fun x hx=>List.mem_cons_of_mem _ hx)));clear K0 K1 HKS cD
   by_cases hx:x=0
   ·have d1:(x != 0)=false:=by simp [hx]
    have HR:=hid (show k7q d t os 2 w0 w4 B tb r dp c j t2 w5 from ⟨by have:=R.out.le;have:=HJ.out;omega,H5.out,M6.out,fun t' os' x' hh=>R.out.rest t' os' x' (.step (by rw [LT.out.1];exact HK.out) (by rw [LT.out.2.1,HDT.out];exact hx) (by rw [LT.out.2.1,LT.out.2.2,HDT.out];exact hh))⟩);clear hx M6 H5 M5 R MD HD hk hk2;go_wp2_with fail
    go_roundw
    case rel=>exact ⟨j,t2,rfl,rfl,rfl,HR⟩
    case measure=>simp [lenV];omega
   ·have d1:(x != 0)=true:=by simp [hx]
    have FIN:=hid (show g5e (g2n d t p os) w0 B tb r dp c w (.returned (.tuple #[.slice none 0 0,.slice none 0 0,numV x])) w5 from
     ⟨d,t2,[],[],x,_,_,rfl,⟨t2,os.take k,x,by rw [HF.out.1];exact R.out.rest _ _ _ (by
      have:=h2n.fail (m:=2) (t:=t1) (os:=os.take k) (x:=x) (by rw [LT.out.1];exact HK.out) (by rw [LT.out.2.1,HDT.out]) hx
      rwa [LT.out.2.1,HDT.out] at this),.inl ⟨hx,rfl,rfl,rfl,rfl,rfl⟩⟩,H5.out,M4.out.trans M6.out,OwnG.nil _ _ _ _,OwnG.nil _ _ _ _⟩)
    clear hx M6 H5 M5 R MD HD hk hk2;go_wp2_with fail
    (try simp only [Exit.inBlock,Exit.then])
    refine bodyPost_ret (g2a rfl) rfl ?_;exact FIN.out
  ·have hk2:¬ ((2:Int)<(k:Int)):=by omega
   have HDR:=hid (show h2n 2 t os t1 (os.take k) 0 from R.out.rest _ _ _ (.done (by rw [List.length_take];omega)));have H5:=hid R.out.tr;have M5:=hid R.out.mod;have O5:=hid (j6i (h2f O4.out M5.out HOO.out) k hkn);have PS5:=hid (PS4.out.mod M5.out);have LO5:=hid (show w0.heap.size<=wr.heap.size/\∀ k∈tall tb B,k<wr.heap.size from ⟨R.out.tr.sto.below.size,fun k hk=>by
    obtain ⟨a,s⟩:=R.out.tr.sto.has;rcases List.mem_cons.1 hk with rfl | hk
    ·exact R.out.tr.box.1
    ·exact s.lt _ hk⟩)
   clear R hk
   rename World=>wa
   go_wp2_with fail
   go_loopw [6,7,63] (fun kv v i wr=>∃ (q:Nat) (d1:St) (t2:T) (ns:List Int),kv=.slice (some ⟨W11.heap.size,0,none⟩) 1 1/\i=.int .i64 (q:Int)/\q<=2/\Hid (j9m (g4h p) (os.take k) d t1 w0 wa B tb r dp c q d1 t2 v ns wr)) (fun _ _ i _=>2-(intOf i).toNat)
   case atStart=>exact ⟨0,d,t1,[],rfl,rfl,Nat.zero_le _,hid ⟨⟨⟨[],H5.out,fun g e=>(by cases e),H5.out.mem⟩,OwnG.nil _ _ _ _,LO5.out.1,LO5.out.2⟩,Mod.refl _ _,Nat.le_refl _,fun _ _ _ _ h=>h⟩⟩
   case round =>
   obtain ⟨q,d1,t2,ns,rfl,rfl,hqm,R⟩:=hrel;clear H5
   by_cases hq:q<2
   ·have hq2:(q:Int)<(2:Int):=by omega
    obtain ⟨⟨pq,yq⟩,hx⟩:∃ x,([(lp,yl),(rp,yr)]:List (Pg×Lay))[q]?=some x:=⟨_,List.getElem?_eq_getElem (by simpa using hq)⟩;have PSq:=PS5.out.mod R.out.mod;have LQ:=hid (PSq.load q hx);have hmem:(pq,yq)∈([(lp,yl),(rp,yr)]:List (Pg×Lay)):=List.mem_of_getElem? hx;have OKQ:=hid (PSq.ok _ hmem);have APQ:=hid (PSq.ap _ hmem);have HPQ:=hid (show (g4h p)[q]?=some pq from by
     rw [HF.out.1];show (([(lp,yl),(rp,yr)]:List (Pg×Lay)).map (·.1))[q]?=_;rw [List.getElem?_map,hx];rfl)
    have P1:=hid (g1s wr pq yq);have b2:=Pool.g0a wr (.cells (pgC pq yq) 103);have A2:=at_new wr (pgC pq yq) 103;have NB:=hid (show wr.heap.size∉B.all from fun e=>by have:=LO5.out.2 _ (List.mem_cons_of_mem _ e);have:=R.out.mod.size;omega);obtain ⟨W6,hW6⟩:∃ W6,wr.alloc (.cells (pgC pq yq) 103)=W6:=⟨_,rfl⟩;rw [hW6] at P1 b2 A2;have bD:=b2.drew;have KD6d:=hid (R.out.kid.quiet bD);have RQ6:=hid (show g0c W6.drew pq yq from (PSq.rows _ hmem).below bD)
    have MW6:=hid (show Mod (tall tb B) wa W6.drew from R.out.mod.trans (Mod.of_below _ bD));have A2d:At W6.drew wr.heap.size (pgC pq yq):=A2.below ((Below.refl W6.heap.size W6).drew) A2.1;have HKS:=hid (show ∀ (w':World) (d2:St) (t3:T) (v:Value) (ns:List Int),g9k w0 w' B tb d2 t3 r dp c wa.heap.size v ns->Mod B.all W6.drew w'->w'.cell? ⟨tb,0,none⟩=some (ptr B.ss)/\w'.cell? ⟨wr.heap.size,0,none⟩=some (.int .i64 pq.kind)/\w'.cell? ⟨wr.heap.size,1,none⟩=some (.slice yq.A1 pq.pairs.length yq.c1)/\w'.cell? ⟨wr.heap.size,2,none⟩=some (.slice yq.A2 pq.keys.length yq.c2)/\w'.cell? ⟨wr.heap.size,3,none⟩=some (.slice yq.A3 pq.kids.length yq.c3)/\w'.cell? ⟨wr.heap.size,4,none⟩=some (.slice yq.A4 pq.pages.length yq.c4)/\w'.cell? ⟨wr.heap.size,5,none⟩=some (.int .i64 pq.next)/\w'.cell? ⟨wr.heap.size,6,none⟩=some (.int .u64 (pq.epoch:Int))/\w'.cell? ⟨wr.heap.size,7,none⟩=some (.int .i64 pq.root)/\w'.cell? ⟨wr.heap.size,8,none⟩=some (.int .i64 pq.depth)/\w'.cell? ⟨wr.heap.size,9,none⟩=some (.int .i64 pq.count)/\w'.cell? ⟨wr.heap.size,10,none⟩=some (.int .i64 pq.high) from fun w' d2 t3 v ns hk hm=>by
     have g2:=g0l A2d hm NB.out;exact ⟨hk.tr.box.2.2 0 _ rfl,g2.2.2 0 _ rfl,g2.2.2 1 _ rfl,g2.2.2 2 _ rfl,g2.2.2 3 _ rfl,g2.2.2 4 _ rfl,g2.2.2 5 _ rfl,g2.2.2 6 _ rfl,g2.2.2 7 _ rfl,g2.2.2 8 _ rfl,g2.2.2 9 _ rfl,g2.2.2 10 _ rfl⟩)
    have K0:=hid (HKS.out _ _ _ _ _ KD6d.out (Mod.refl _ _));obtain ⟨pv,hpv⟩:∃ pv,pgV pq yq=pv:=⟨_,rfl⟩;rw [hpv] at P1 LQ
    by_cases hqk:q<k
    ·have hOq:=h2f O5.out R.out.mod HOO.out;have hqo:q<(os.take k).length:=by have:=O5.out.len;omega
     obtain ⟨ob,oo,eA,hbl,hc⟩:=hOq.row (by intro e;rw [e] at hqo;simp at hqo);have hcell:=(b2.cell (p:=⟨ob,oo+q,none⟩) hbl).trans (hc q hqo);have HZ:=hid (show (os.take k)[q]?.getD 0=(os.take k)[q] from by rw [List.getElem?_eq_getElem hqo];rfl);have IZ:=hid (HI.out _ (List.mem_of_mem_take (List.getElem_mem hqo)));obtain ⟨z,hz⟩:∃ z,(os.take k)[q]=z:=⟨_,rfl⟩;rw [hz] at hcell HZ IZ;have hcell2:W6.cell? ⟨ob,oo+q,none⟩=some (.int .i64 z):=hcell
     have hqk2:(q:Int)<(k:Int):=by omega
     subst eA;clear hc hcell hz hOq hqo hbl PSq hmem hx b2 A2 A2d bD hpv hW6;go_wp2_with (first | ((with_reducible refine Disk.g0d rfl 103 (.tmp 66) rfl _ ?_ LQ.out ?_);(next=>rfl)) | ((with_reducible refine Disk.g0b rfl 103 (.tmp 16) (.tmp 67) rfl _ _ ?_ ?_ P1.out ?_);(next=>rfl);(next=>rfl)))
     have cL:Calls Tryz.prog 232 #[ptr B.ss,.int .i64 z,.agg #[.int .i64 pq.kind,.slice yq.A1 pq.pairs.length yq.c1,.slice yq.A2 pq.keys.length yq.c2,.slice yq.A3 pq.kids.length yq.c3,.slice yq.A4 pq.pages.length yq.c4,.int .i64 pq.next,.int .u64 (pq.epoch:Int),.int .i64 pq.root,.int .i64 pq.depth,.int .i64 pq.count,.int .i64 pq.high]] W6.drew _:=KD6d.out.lay z IZ.out pq yq OKQ.out RQ6.out APQ.out
     go_wp2_with fail
     go_region_held3 (fun w'=>w'.cell? ⟨tb,0,none⟩=some (ptr B.ss)/\w'.cell? ⟨wr.heap.size,0,none⟩=some (.int .i64 pq.kind)/\w'.cell? ⟨wr.heap.size,1,none⟩=some (.slice yq.A1 pq.pairs.length yq.c1)/\w'.cell? ⟨wr.heap.size,2,none⟩=some (.slice yq.A2 pq.keys.length yq.c2)/\w'.cell? ⟨wr.heap.size,3,none⟩=some (.slice yq.A3 pq.kids.length yq.c3)/\w'.cell? ⟨wr.heap.size,4,none⟩=some (.slice yq.A4 pq.pages.length yq.c4)/\w'.cell? ⟨wr.heap.size,5,none⟩=some (.int .i64 pq.next)/\w'.cell? ⟨wr.heap.size,6,none⟩=some (.int .u64 (pq.epoch:Int))/\w'.cell? ⟨wr.heap.size,7,none⟩=some (.int .i64 pq.root)/\w'.cell? ⟨wr.heap.size,8,none⟩=some (.int .i64 pq.depth)/\w'.cell? ⟨wr.heap.size,9,none⟩=some (.int .i64 pq.count)/\w'.cell? ⟨wr.heap.size,10,none⟩=some (.int .i64 pq.high))
      (with_reducible (first | exact K0.out | exact K1.out))
      (first
        | (go_at_call 232;(with_reducible refine cL.mono ?_);rintro e w7 ⟨d2,t3,nn,x,rfl,hl,hk7,m7⟩
           have KD7:=hid hk7;have M7:=hid m7;have HL:=hid hl;have K1:=hid (HKS.out _ _ _ _ _ hk7 m7);clear hl hk7 m7))
     have MW7:=hid (MW6.out.trans (M7.out.mono (fun x hx=>List.mem_cons_of_mem _ hx)));clear K0 K1 HKS cL KD6d RQ6 LQ P1
     by_cases hx0:x=0
     ·have e1:(x != 0)=false:=by simp [hx0]
      subst hx0;obtain ⟨v',w8,hrun,hk8,b8⟩:=KD7.out.more nn MW7.out.size (by have:=R.out.len;omega);have RR:=hid hrun;have NEW:=hid (show j9m (g4h p) (os.take k) d t1 w0 wa B tb r dp c (q+1) d2 t3 v' (ns++[nn]) w8 from
       ⟨hk8,j3g MW7.out b8,by rw [List.length_append];have:=R.out.len;simp;omega,fun d' t' ns' x' hh=>R.out.rest _ _ _ _ (.step HPQ.out (by rw [HZ.out];exact HL.out) hh)⟩)
      have hwr:IntKind.i64.wrap ((q:Int)+1)=(q:Int)+1:=IntWalk.i64_in _ (by omega);clear hrun hk8 b8 KD7 M7 HL MW7 MW6 R hq2;go_wp2_with (first | ((with_reducible refine g0e rfl (.tmp 89) (.tmp 91) 66 rfl ?_ ?_ RR.out ?_);(next=>rfl);(next=>rfl)))
      go_roundw
      case rel=>exact ⟨q+1,d2,t3,ns++[nn],rfl,by go_num,by omega,NEW⟩
      case measure=>simp [intOf];omega
     ·have e1:(x != 0)=true:=by simp [hx0]
      have FIN:=hid (show g5e (g2n d t p os) w0 B tb r dp c w (.returned (.tuple #[.slice none 0 0,.slice none 0 0,numV x])) w7 from
       ⟨d2,t3,[],[],x,_,_,rfl,⟨t1,os.take k,0,by rw [HF.out.1];exact HDR.out,.inr ⟨rfl,R.out.rest _ _ _ _ (.fail HPQ.out (by rw [HZ.out];exact HL.out) hx0),by rw [if_neg hx0]⟩⟩,KD7.out.tr,M4.out.trans (M5.out.trans MW7.out),OwnG.nil _ _ _ _,OwnG.nil _ _ _ _⟩)
      clear hx0 KD7 M7 HL MW7 MW6 R hq2;go_wp2_with fail
      (try simp only [Exit.inBlock,Exit.then])
      refine bodyPost_ret (g2a rfl) rfl ?_;exact FIN.out
    ·have HZ:=hid (show (os.take k)[q]?.getD 0=0 from by rw [List.getElem?_eq_none (by have:=O5.out.len;omega)];rfl);have IZ:=hid (show I64 0 from ⟨by show _<=(0:Int);omega,by show (0:Int)<=_;omega⟩);have hqk2:¬ ((q:Int)<(k:Int)):=by omega
     clear PSq hmem hx b2 A2 A2d bD hpv hW6;go_wp2_with (first | ((with_reducible refine Disk.g0d rfl 103 (.tmp 66) rfl _ ?_ LQ.out ?_);(next=>rfl)) | ((with_reducible refine Disk.g0b rfl 103 (.tmp 16) (.tmp 67) rfl _ _ ?_ ?_ P1.out ?_);(next=>rfl);(next=>rfl)))
     have cL:Calls Tryz.prog 232 #[ptr B.ss,.int .i64 0,.agg #[.int .i64 pq.kind,.slice yq.A1 pq.pairs.length yq.c1,.slice yq.A2 pq.keys.length yq.c2,.slice yq.A3 pq.kids.length yq.c3,.slice yq.A4 pq.pages.length yq.c4,.int .i64 pq.next,.int .u64 (pq.epoch:Int),.int .i64 pq.root,.int .i64 pq.depth,.int .i64 pq.count,.int .i64 pq.high]] W6.drew _:=KD6d.out.lay 0 IZ.out pq yq OKQ.out RQ6.out APQ.out
     go_wp2_with fail
     go_region_held3 (fun w'=>w'.cell? ⟨tb,0,none⟩=some (ptr B.ss)/\w'.cell? ⟨wr.heap.size,0,none⟩=some (.int .i64 pq.kind)/\w'.cell? ⟨wr.heap.size,1,none⟩=some (.slice yq.A1 pq.pairs.length yq.c1)/\w'.cell? ⟨wr.heap.size,2,none⟩=some (.slice yq.A2 pq.keys.length yq.c2)/\w'.cell? ⟨wr.heap.size,3,none⟩=some (.slice yq.A3 pq.kids.length yq.c3)/\w'.cell? ⟨wr.heap.size,4,none⟩=some (.slice yq.A4 pq.pages.length yq.c4)/\w'.cell? ⟨wr.heap.size,5,none⟩=some (.int .i64 pq.next)/\w'.cell? ⟨wr.heap.size,6,none⟩=some (.int .u64 (pq.epoch:Int))/\w'.cell? ⟨wr.heap.size,7,none⟩=some (.int .i64 pq.root)/\w'.cell? ⟨wr.heap.size,8,none⟩=some (.int .i64 pq.depth)/\w'.cell? ⟨wr.heap.size,9,none⟩=some (.int .i64 pq.count)/\w'.cell? ⟨wr.heap.size,10,none⟩=some (.int .i64 pq.high))
      (with_reducible (first | exact K0.out | exact K1.out))
      (first
        | (go_at_call 232;(with_reducible refine cL.mono ?_);rintro e w7 ⟨d2,t3,nn,x,rfl,hl,hk7,m7⟩
           have KD7:=hid hk7;have M7:=hid m7;have HL:=hid hl;have K1:=hid (HKS.out _ _ _ _ _ hk7 m7);clear hl hk7 m7))
     have MW7:=hid (MW6.out.trans (M7.out.mono (fun x hx=>List.mem_cons_of_mem _ hx)));clear K0 K1 HKS cL KD6d RQ6 LQ P1
     by_cases hx0:x=0
     ·have e1:(x != 0)=false:=by simp [hx0]
      subst hx0;obtain ⟨v',w8,hrun,hk8,b8⟩:=KD7.out.more nn MW7.out.size (by have:=R.out.len;omega);have RR:=hid hrun;have NEW:=hid (show j9m (g4h p) (os.take k) d t1 w0 wa B tb r dp c (q+1) d2 t3 v' (ns++[nn]) w8 from
       ⟨hk8,j3g MW7.out b8,by rw [List.length_append];have:=R.out.len;simp;omega,fun d' t' ns' x' hh=>R.out.rest _ _ _ _ (.step HPQ.out (by rw [HZ.out];exact HL.out) hh)⟩)
      have hwr:IntKind.i64.wrap ((q:Int)+1)=(q:Int)+1:=IntWalk.i64_in _ (by omega);clear hrun hk8 b8 KD7 M7 HL MW7 MW6 R hq2;go_wp2_with (first | ((with_reducible refine g0e rfl (.tmp 89) (.tmp 91) 66 rfl ?_ ?_ RR.out ?_);(next=>rfl);(next=>rfl)))
      go_roundw
      case rel=>exact ⟨q+1,d2,t3,ns++[nn],rfl,by go_num,by omega,NEW⟩
      case measure=>simp [intOf];omega
     ·have e1:(x != 0)=true:=by simp [hx0]
      have FIN:=hid (show g5e (g2n d t p os) w0 B tb r dp c w (.returned (.tuple #[.slice none 0 0,.slice none 0 0,numV x])) w7 from
       ⟨d2,t3,[],[],x,_,_,rfl,⟨t1,os.take k,0,by rw [HF.out.1];exact HDR.out,.inr ⟨rfl,R.out.rest _ _ _ _ (.fail HPQ.out (by rw [HZ.out];exact HL.out) hx0),by rw [if_neg hx0]⟩⟩,KD7.out.tr,M4.out.trans (M5.out.trans MW7.out),OwnG.nil _ _ _ _,OwnG.nil _ _ _ _⟩)
      clear hx0 KD7 M7 HL MW7 MW6 R hq2;go_wp2_with fail
      (try simp only [Exit.inBlock,Exit.then])
      refine bodyPost_ret (g2a rfl) rfl ?_;exact FIN.out
   ·have FIN:=hid (show g5e (g2n d t p os) w0 B tb r dp c w (.returned (.tuple #[.slice (some ⟨W11.heap.size,0,none⟩) 1 1,u7,numV 0])) wr from
     ⟨d1,t2,g6m p,ns,0,_,_,rfl,⟨t1,os.take k,0,by rw [HF.out.1];exact HDR.out,.inr ⟨rfl,R.out.rest _ _ _ _ (.done (by rw [HF.out.1];simp;omega)),by rw [if_pos rfl]⟩⟩,R.out.kid.tr,M4.out.trans (M5.out.trans R.out.mod),KEY.out wr (M5.out.trans R.out.mod),g1v R.out.kid.own (Nat.le_trans M4.out.size M5.out.size)⟩)
    have hq2:¬ ((q:Int)<(2:Int)):=by omega
    clear R hq;go_wp2_with fail
    (try simp only [Exit.inBlock,Exit.then])
    refine bodyPost_ret (g2a rfl) rfl ?_;exact FIN.out
theorem h6w {w0 w:World} {B:Blk} {tb:Nat} {d:St} {t:T} {r dp c:Int} (h:TrOn w0 w B tb d t r dp c) (p:Pg) (y:Lay) (hok:PgOk p) (hr:g0c w p y) (hwd:Wide p y) {n1:Nat} (hnw:Page.New p y n1) (hlow:∀ k∈tall tb B,k<n1) {A:Option Addr} {n cap:Nat} {os:List Int} (ho:KAt w A n cap os) (hoo:Off (tall tb B) A) (hI:∀ x∈os,I64 x) (hn:n<=1000) :
 Calls Tryz.prog 229 #[ptr tb,pgV p y,.slice A n cap] w (g5e (g2n d t p os) w0 B tb r dp c w):=by
 rcases Nat.lt_or_ge (g1j p) (g0o p) with hf | hf
 ·exact j8y h p y hr hwd ⟨fun x e hx=>by have:=hnw.n1 x e;have:=hlow _ hx;omega,fun x e hx=>by have:=hnw.n2 x e;have:=hlow _ hx;omega,fun x e hx=>by have:=hnw.n3 x e;have:=hlow _ hx;omega⟩ hf ho hoo hI hn
 ·exact h8b h p y hok hr (⟨fun _ x e hx=>by have:=hnw.n1 x e;have:=hlow _ hx;omega,fun _ x e hx=>by have:=hnw.n2 x e;have:=hlow _ hx;omega,fun _ x e hx=>by have:=hnw.n3 x e;have:=hlow _ hx;omega,fun _ x e hx=>by have:=hnw.n4 x e;have:=hlow _ hx;omega⟩) hf ho hoo hI hn
theorem j3u (W:World) {b:Nat} {A1 A2 A3:Option Addr} {n1 n2 n3 c1 c2 c3:Nat} {l1 l2 l3:List Disk.Bs} (h:At W b #[.slice A1 n1 c1,.slice A2 n2 c2,.slice A3 n3 c3]) (p1:TreeS.SPok W ⟨A1,n1,c1,l1⟩) (p2:TreeS.SPok W ⟨A2,n2,c2,l2⟩) (p3:TreeS.SPok W ⟨A3,n3,c3,l3⟩) (hl:n1+n2+n3<=10000) :
 Calls Tryz.prog 230 #[.slice (some ⟨b,0,none⟩) 3 3] W (fun e w'=>∃ v,e=.returned v/\TreeS.Ow w' W.heap.size v (l1++l2++l3)/\Below W.heap.size W w'):=by
 refine (TreeS.concat_any (A:=some ⟨b,0,none⟩) (N:=3) (C:=3) [⟨A1,n1,c1,l1⟩,⟨A2,n2,c2,l2⟩,⟨A3,n3,c3,l3⟩] W rfl (by omega) (fun _=>⟨b,0,rfl,h.1,fun k hk=>?_⟩) (fun x hx=>?_) (by simp [TreeS.sizes];omega)).mono ?_
 ·match k,hk with
  | 0,_=>exact h.2.2 0 _ rfl
  | 1,_=>exact h.2.2 1 _ rfl
  | 2,_=>exact h.2.2 2 _ rfl
  | k+3,hk=>simp at hk;omega
 ·simp only [List.mem_cons,List.not_mem_nil,or_false] at hx;rcases hx with rfl | rfl | rfl
  ·exact p1
  ·exact p2
  ·exact p3
 ·rintro e w' ⟨v,rfl,ho,hb⟩;exact ⟨v,rfl,by simpa using ho,hb⟩
theorem p1a (W:World) {b:Nat} {A1 A2 A3:Option Addr} {n1 n2 n3 c1 c2 c3:Nat} {l1 l2 l3:List Int} (h:At W b #[.slice A1 n1 c1,.slice A2 n2 c2,.slice A3 n3 c3]) (p1:TreeI.IPok W ⟨A1,n1,c1,l1⟩) (p2:TreeI.IPok W ⟨A2,n2,c2,l2⟩) (p3:TreeI.IPok W ⟨A3,n3,c3,l3⟩) (hl:n1+n2+n3<=10000) :
 Calls Tryz.prog 135 #[.slice (some ⟨b,0,none⟩) 3 3] W (fun e w'=>∃ v,e=.returned v/\TreeI.Ow w' W.heap.size v (l1++l2++l3)/\Below W.heap.size W w'):=by
 refine (TreeI.concat_any (A:=some ⟨b,0,none⟩) (N:=3) (C:=3) [⟨A1,n1,c1,l1⟩,⟨A2,n2,c2,l2⟩,⟨A3,n3,c3,l3⟩] W rfl (by omega) (fun _=>⟨b,0,rfl,h.1,fun k hk=>?_⟩) (fun x hx=>?_) (by simp [TreeI.sizes];omega)).mono ?_
 ·match k,hk with
  | 0,_=>exact h.2.2 0 _ rfl
  | 1,_=>exact h.2.2 1 _ rfl
  | 2,_=>exact h.2.2 2 _ rfl
  | k+3,hk=>simp at hk;omega
 ·simp only [List.mem_cons,List.not_mem_nil,or_false] at hx;rcases hx with rfl | rfl | rfl
  ·exact p1
  ·exact p2
  ·exact p3
 ·rintro e w' ⟨v,rfl,ho,hb⟩;exact ⟨v,rfl,by simpa using ho,hb⟩
theorem k6b (W:World) {b:Nat} {A1 A2:Option Addr} {n1 n2 c1 c2:Nat} {l1 l2:List Int} (h:At W b #[.slice A1 n1 c1,.slice A2 n2 c2]) (p1:TreeI.IPok W ⟨A1,n1,c1,l1⟩) (p2:TreeI.IPok W ⟨A2,n2,c2,l2⟩) (hl:n1+n2<=10000) :
 Calls Tryz.prog 135 #[.slice (some ⟨b,0,none⟩) 2 2] W (fun e w'=>∃ v,e=.returned v/\TreeI.Ow w' W.heap.size v (l1++l2)/\Below W.heap.size W w'):=by
 refine (TreeI.concat_any (A:=some ⟨b,0,none⟩) (N:=2) (C:=2) [⟨A1,n1,c1,l1⟩,⟨A2,n2,c2,l2⟩] W rfl (by omega) (fun _=>⟨b,0,rfl,h.1,fun k hk=>?_⟩) (fun x hx=>?_) (by simp [TreeI.sizes];omega)).mono ?_
 ·match k,hk with
  | 0,_=>exact h.2.2 0 _ rfl
  | 1,_=>exact h.2.2 1 _ rfl
  | k+2,hk=>simp at hk;omega
 ·simp only [List.mem_cons,List.not_mem_nil,or_false] at hx;rcases hx with rfl | rfl
  ·exact p1
  ·exact p2
 ·rintro e w' ⟨v,rfl,ho,hb⟩;exact ⟨v,rfl,by simpa using ho,hb⟩
theorem g9h {w V:World} {b6 n0:Nat} {C:Array Value} {kv nv:Value} {ks:List Disk.Bs} {ns:List Int} (AZ:At V b6 C) (hC:C.size=11) (BV:Below w.heap.size w V) (OS:TreeS.Ow V n0 kv ks) (OI:TreeI.Ow V n0 nv ns) (h6:w.heap.size<=b6) (h0:b6<n0) :
 ∃ y:Lay,kv=.slice y.A2 ks.length y.c2/\nv=.slice y.A3 ns.length y.c3/\pgV (g0f ks ns) y=.agg #[.int .i64 2,.slice none 0 0,.slice y.A2 ks.length y.c2,.slice y.A3 ns.length y.c3,.slice none 0 0,.int .i64 0,.int .u64 0,.int .i64 0,.int .i64 0,.int .i64 0,.int .i64 0] /\
  (Instr.storeAt 103 (.pointer (some ⟨b6,0,none⟩)) (pgV (g0f ks ns) y)).run Tryz.prog V=.ok () (V.setCells b6 0 (pgC (g0f ks ns) y).toList) /\
  (loadVar 103 ⟨b6,0,none⟩).run Tryz.prog (V.setCells b6 0 (pgC (g0f ks ns) y).toList)=.ok (pgV (g0f ks ns) y) (V.setCells b6 0 (pgC (g0f ks ns) y).toList) /\
  g0c (V.setCells b6 0 (pgC (g0f ks ns) y).toList) (g0f ks ns) y/\Page.New (g0f ks ns) y n0/\Below w.heap.size w (V.setCells b6 0 (pgC (g0f ks ns) y).toList)/\Mod [b6] V (V.setCells b6 0 (pgC (g0f ks ns) y).toList):=by
 obtain ⟨A,c,rfl,r1,g1,z1,k1,-⟩:=g5l OS;obtain ⟨A',c',rfl,r2,g2,z2,k2,-⟩:=g5l OI;have pn:Page.New (g0f ks ns) {A2:=A,c2:=c,A3:=A',c3:=c'} n0:=⟨fun _ e=>(by cases e),g1,g2,fun _ e=>(by cases e),fun _=>rfl,Nat.zero_le _,k1,k2,Nat.zero_le _,fun _=>rfl,z1,z2⟩;have g:=g0n (pgC (g0f ks ns) {A2:=A,c2:=c,A3:=A',c3:=c'}).toList 0 V b6;have m:Mod [b6] V (V.setCells b6 0 (pgC (g0f ks ns) {A2:=A,c2:=c,A3:=A',c3:=c'}).toList):=(Mod.refl [b6] V).grown g (fun k e=>.inl (by cases e;simp))
 have a:=g2o AZ (vs:=(pgC (g0f ks ns) {A2:=A,c2:=c,A3:=A',c3:=c'}).toList) (o:=0) (C':=pgC (g0f ks ns) {A2:=A,c2:=c,A3:=A',c3:=c'}) (by simp [hC]) (by simp [hC]);have pr:g0c V (g0f ks ns) {A2:=A,c2:=c,A3:=A',c3:=c'}:=⟨fun h=>absurd rfl h,r1,r2,fun h=>absurd rfl h⟩;refine ⟨{A2:=A,c2:=c,A3:=A',c3:=c'},rfl,rfl,rfl,g1e (o:=0) AZ _ _ (by omega),g2s (o:=0) a _ _ rfl,g4f pr m (g4u pn h0),pn,BV.grown g BV.size (fun k e=>by cases e;exact h6),m⟩
end Go.Proofs.YtglejnkoojpelaaGreat.Tree
