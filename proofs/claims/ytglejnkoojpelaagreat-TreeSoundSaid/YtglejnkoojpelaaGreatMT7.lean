import Derived.Test.YtglejnkoojpelaaGreatMT6
import Derived.Test.YtglejnkoojpelaaGreatMT4
import Derived.Test.YtglejnkoojpelaaGreatMT5
import Derived.Deep.Cut
set_option maxRecDepth 100000
set_option maxHeartbeats 32000000
namespace Go.Proofs.YtglejnkoojpelaaGreat.Tree
open Go.RowKit Gen
open Disk (St Dev Mod ptr)
open Page (Pg Lay PgOk g0c pgC pgV Enc g0v BytesAt strV strB PRow SRow IRow less g1l Lt)
open Pool (Po NAt PoAt La poC poV numV At g0k g1g g1k g2m g0g OwnI chunks layAll May)
open Store
open Lib (hid)
theorem h9g {ps:List Pg} {os:List Int} {d:St} {t:T} {k:Nat} {ns:List Int} {d':St} {t':T} {ns':List Int} {x:Int} (h:Lays ps os d t k ns d' t' ns' x):x=0->ns'.length=ns.length+(ps.length-k):=by
 induction h with
 | done hk=>exact fun _=>by omega
 | fail _ _ hx=>exact fun h=>absurd h hx
 | @step d t k ns p d1 t1 n d' t' ns' x hp _ _ ih =>
  intro h;have:=ih h;have hk:k<ps.length:=(List.getElem?_eq_some_iff.1 hp).1;rw [this,List.length_append];simp;omega
theorem j1s (p:Pg):(g4h p).length=1\/(g4h p).length=2:=by
 unfold g4h
 split
 ·exact .inr rfl
 ·exact .inl rfl
theorem h6m {d:St} {t:T} {p:Pg} {os:List Int} {d':St} {t':T} {ks:List Disk.Bs} {ns:List Int} (h:g2n d t p os d' t' ks ns 0):ns≠[]/\ks.length<=1000/\ns.length<=1000:=by
 obtain ⟨t1,os1,x1,-,⟨hx,_,_,_,_,h0⟩ | ⟨-,hl,rfl⟩⟩:=h
 ·exact absurd h0.symm hx
 have e:=h9g hl rfl;have hp:=j1s p;refine ⟨fun e2=>by rw [e2] at e;simp at e;omega,?_,by simp at e;omega⟩;rw [if_pos rfl];unfold g6m
 split <;> simp
def CRel (n N r dp:Int) (b:Pg) (d:St) (t:T) (d':St) (t':T) (r' dp' x:Int):Prop :=
 (g0o b=0/\d'=d/\t'=(g1n t n).1/\x=(g1n t n).2/\((x=0/\r'=g6a b/\dp'=N-1)\/(x≠0/\r'=r/\dp'=dp))) \/
 (g0o b≠0/\h7v (g2n d t b [n]) N r dp d' t' r' dp' x)
theorem j4c {p:Pg} {y:Lay} {n1:Nat} {S:List Nat} (h:Page.New p y n1) (hS:∀ k∈S,k<n1):Apart S p y :=
 ⟨fun _ x e hx=>by have:=h.n1 x e;have:=hS _ hx;omega,fun _ x e hx=>by have:=h.n2 x e;have:=hS _ hx;omega,fun _ x e hx=>by have:=h.n3 x e;have:=hS _ hx;omega,fun _ x e hx=>by have:=h.n4 x e;have:=hS _ hx;omega⟩
theorem k1g {w:World} {b:Nat} {n:Int} (h:w.cell? ⟨b,0,none⟩=some (numV n)) (hb:b<w.heap.size):KAt w (some ⟨b,0,none⟩) 1 1 [n] :=
 ⟨rfl,Nat.le_refl _,(fun e=>by cases e),fun _=>⟨b,0,rfl,hb,fun k hk=>by
  have:k=0:=by simpa using hk
  subst this;exact h⟩⟩
theorem k0x {w0 w:World} {B:Blk} {tb:Nat} {d:St} {t:T} {r dp c:Int} (h:TrOn w0 w B tb d t r dp c) (n:Int) (hn:I64 n) (N:Int) (hN:0<=N/\N<=1000) (b:Pg) (y:Lay) (hr:g0c w b y) {n1:Nat} (hnw:Page.New b y n1) (hlow:∀ k∈tall tb B,k<n1) (hok:PgOk b) (hk:b.kind=2->b.kids≠[]) (hf:g0o b<=g1j b) :
 Calls Tryz.prog 185 #[ptr tb,.int .i64 n,.int .i64 N,pgV b y] w (g8h (CRel n N r dp b d t) w0 B tb c w):=by
 have hap:=j4c hnw hlow
 by_cases h0:g0o b=0
 ·refine (j0q h n hn N hN b y hr hap hk h0).mono ?_;rintro e w' ⟨rfl,m,h1,h2⟩
  by_cases hx:(g1n t n).2=0
  ·exact ⟨d,_,_,_,_,rfl,.inl ⟨h0,rfl,rfl,rfl,.inl ⟨hx,rfl,rfl⟩⟩,h2 hx,m⟩
  ·exact ⟨d,_,r,dp,_,rfl,.inl ⟨h0,rfl,rfl,rfl,.inr ⟨hx,rfl,rfl⟩⟩,h1 hx,m⟩
 ·refine (j2f h n N hN b y h0 (R:=g2n d t b [n]) (fun d' t' ks ns hs=>h6m hs) (fun W g hg hb hc hlt=>?_)).mono ?_
  ·refine h8b (h.quiet hb) b y hok (hr.below hb) hap hf (k1g hc hlt) (fun x e hx=>?_) (fun x hx=>by rw [List.mem_singleton] at hx;rw [hx];exact hn) (by omega);cases e;exact g3r h hg hx
  ·rintro e w' ⟨d',t',r',dp',x,rfl,hR,H,m⟩;exact ⟨d',t',r',dp',x,rfl,.inr ⟨h0,hR⟩,H,m⟩
theorem h4z {w0 w w1:World} {B:Blk} {tb:Nat} {d:St} {t:T} {r dp c:Int} (h:TrOn w0 w B tb d t r dp c) {v:Value} {s:Stp} (hv:Way w1 w v ([]++[s])) (hw1:w1.heap.size<=w.heap.size) (hlow:∀ k∈tall tb B,k<w1.heap.size) (hs:I64 s.at_) (np:List (Disk.Bs×Disk.Bs)) (y:Lay) (hr:g0c w (g0j np) y) (hn:Page.New (g0j np) y w1.heap.size) (hf:np.length<=6) :
 Calls Tryz.prog 141 #[ptr tb,v,pgV (g0j np) y] w (g8h (CRel s.at_ 1 r dp (g0j np) d t) w0 B tb c w):=by
 have hok:PgOk (g0j np):=⟨g1y.kind,by show np.length<=_;omega,g1y.keys,g1y.kids,g1y.pages,g1y.next,g1y.epoch,g1y.root,g1y.depth,g1y.count,g1y.high⟩;refine (j1b (PR:=fun _ _ _ _ _ _ _ _=>False) (CR:=fun b d t d' t' r' dp' x=>CRel s.at_ 1 r dp b d t d' t' r' dp' x) (Q:=fun b=>b=g0j np) h hv hw1 hlow (Nat.zero_le _) (g0j np) y hr hn hok rfl (fun _ hs=>by cases hs) (fun b e=>by rw [e];exact ⟨Nat.zero_le _,Nat.zero_le _⟩) (fun _ hs=>by cases hs) (fun X W d1 t1 s b yb hs=>by cases hs) (fun X W d1 t1 b yb hW H hR hN hO hb=>?_)).mono ?_
 ·subst hb;exact k0x H s.at_ hs 1 (by omega) (g0j np) yb hR hN hlow hO (fun e=>by cases e) (by show np.length<=6;exact hf)
 ·rintro e w' ⟨d',t',r',dp',x,rfl,hR,H,m⟩;refine ⟨d',t',r',dp',x,rfl,?_,H,m⟩;cases hR with
  | top h=>exact h
theorem j1r {w0 w:World} {B:Blk} {tb:Nat} {d:St} {t:T} {r c:Int} (h:TrOn w0 w B tb d t r 0 c) (hc:0<=c/\c<=1000000) (key val:Disk.Bs) (hk1:1<=key.length) (hk2:key.length<=48) (hv:val.length<=100) :
 Calls Tryz.prog 48 #[ptr tb,strV key,strV val] w (p1w (g6s NilP (fun _=>False) (fun _ s np=>CRel s.at_ 1 r 0 (g0j np) d t) (fun l=>setP l key val) d t r 0 c) numV w0 B tb w):=by
 refine p0d h key val hk1 hk2 hv (fun W kb vb eb hb H ck cv=>?_);refine h7y H key val ck cv hc (fun l s hp=>by have:=h4o hp;exact ⟨this.1,by omega⟩) (j2t H.box key) (fun W' v l s np y hw' hp hnp hwy hr hn _ H'=>?_);obtain ⟨rfl,rfl⟩:=hp;refine h4z H' hwy hw' (fun k hk=>?_) ⟨by show _<=(0:Int);omega,by show (0:Int)<=_;omega⟩ np y hr hn (by
  rw [hnp];have:=h4t ([]:List (Disk.Bs×Disk.Bs)) key val;simp only [List.length_nil] at this;show (setP [] key val).length<=6;omega)
 obtain ⟨a,s⟩:=H.sto.has;rcases List.mem_cons.1 hk with rfl | hk
 ·exact H.box.1
 ·exact s.lt _ hk
theorem k8q {w0 w:World} {B:Blk} {tb:Nat} {d:St} {t:T} {r c:Int} (h:TrOn w0 w B tb d t r 1 c) (hr64:I64 r) (hc:0<=c/\c<=1000000) (key:Disk.Bs) :
 Calls Tryz.prog 52 #[ptr tb,strV key] w (h6b (CutD (WayP d key r 1) (WayQ d key r 1) (fun _ s np=>CRel s.at_ 1 r 1 (g0j np) d t) key d t r 1 c) w0 B tb w):=by
 refine k1p h key (fun W kb bb eb hb hbb h0b H ck cb=>?_);obtain ⟨a,s⟩:=H.sto.has;refine h2m H key ck cb hbb (by simp) h0b hc (fun l s hp=>by have:=g5i hp;exact ⟨this.1,by omega⟩) (h1s s (m:=0) (by omega) H.box key) (fun W' v l s' np y hw' hp hnp hwy hr hn _ H'=>?_);obtain ⟨hd,hl,hpa,-⟩:=id hp;obtain rfl:l=[]:=List.eq_nil_of_length_eq_zero (by omega);have hat:s'.at_=r:=by
  generalize s'.at_=q at hd;generalize hll:([]:List Stp)=ll at hd;cases hd with
  | nil=>rfl
  | snoc=>simp at hll
 refine h4z H' hwy hw' (fun k hk=>?_) (by rw [hat];exact hr64) np y hr hn (by
  rw [hnp];have:=g9x s'.p.pairs key;have:=(g5i hp).2;omega)
 rcases List.mem_cons.1 hk with rfl | hk
 ·exact H.box.1
 ·exact s.lt _ hk
theorem j6y {w0 w:World} {B:Blk} {tb:Nat} {d:St} {t:T} {r c:Int} (h:TrOn w0 w B tb d t r 0 c) (hc:0<=c/\c<=1000000) (key:Disk.Bs) :
 Calls Tryz.prog 52 #[ptr tb,strV key] w (h6b (CutD NilP (fun _=>False) (fun _ s np=>CRel s.at_ 1 r 0 (g0j np) d t) key d t r 0 c) w0 B tb w):=by
 refine k1p h key (fun W kb bb eb hb hbb h0b H ck cb=>?_);obtain ⟨a,s⟩:=H.sto.has;refine h2m H key ck cb hbb (by simp) h0b hc (fun l s hp=>by have:=h4o hp;exact ⟨this.1,by omega⟩) (j2t H.box key) (fun W' v l s' np y hw' hp hnp hwy hr hn _ H'=>?_);obtain ⟨rfl,rfl⟩:=hp;refine h4z H' hwy hw' (fun k hk=>?_) ⟨by show _<=(0:Int);omega,by show (0:Int)<=_;omega⟩ np y hr hn (by
  rw [hnp];have:=g9x ([]:List (Disk.Bs×Disk.Bs)) key;simp only [List.length_nil] at this;show (cutP [] key).length<=6;omega)
 rcases List.mem_cons.1 hk with rfl | hk
 ·exact H.box.1
 ·exact s.lt _ hk
open Page (Pg Lay PgOk g0c pgC pgV Enc g0v BytesAt strV strB PRow less OwnP)
theorem j4v {w:World} {p q:Pg} {y z:Lay} {n m:Nat} (hk:p.kind=1) (hr:g0c w p y) (hq:g0c w q z) (hn:Page.New p y n) (hm:Page.New q z m) (hl:p.pairs.length+q.pairs.length<=1000) (key:Value) :
 Calls Tryz.prog 228 #[pgV p y,key,pgV q z] w (fun e w'=>∃ A c,e=.returned (pgV (g0j (p.pairs++q.pairs)) {A1:=A,c1:=c})/\g0c w' (g0j (p.pairs++q.pairs)) {A1:=A,c1:=c}/\Page.New (g0j (p.pairs++q.pairs)) {A1:=A,c1:=c} w.heap.size/\Below w.heap.size w w'):=by
 have b1:=Pool.g0a w (.cells (pgC p y) 103);have a1:=at_new w (pgC p y) 103;obtain ⟨W1,hW1⟩:∃ W1,w.alloc (.cells (pgC p y) 103)=W1:=⟨_,rfl⟩;rw [hW1] at b1 a1;have b2:=Pool.g0a W1 (.cells (pgC q z) 103);have a2:=at_new W1 (pgC q z) 103;obtain ⟨W2,hW2⟩:∃ W2,W1.alloc (.cells (pgC q z) 103)=W2:=⟨_,rfl⟩;rw [hW2] at b2 a2;have b3:=Pool.g0a W2 (.cells (pgC {kind:=0} {}) 103);have a3:=at_new W2 (pgC {kind:=0} {}) 103
 have a1':=(a1.below b2 a1.1).below b3 (a1.below b2 a1.1).1;have a2':=a2.below b3 a2.1;obtain ⟨W3,hW3⟩:∃ W3,W2.alloc (.cells (pgC {kind:=0} {}) 103)=W3:=⟨_,rfl⟩;rw [hW3] at b3 a1' a2' a3;have B3:=b1.trans ((b2.trans (b3.mono b2.size)).mono b1.size);have k0:W3.cell? ⟨w.heap.size,0,none⟩=some (.int .i64 1):=by rw [<- hk];exact a1'.2.2 0 _ rfl
 have k1:W3.cell? ⟨w.heap.size,1,none⟩=some (.slice y.A1 p.pairs.length y.c1):=a1'.2.2 1 _ rfl;have k2:W3.cell? ⟨W1.heap.size,1,none⟩=some (.slice z.A1 q.pairs.length z.c1):=a2'.2.2 1 _ rfl;have a4:=at_new W3 #[.slice y.A1 p.pairs.length y.c1,.slice z.A1 q.pairs.length z.c1] 27;have b4:=Pool.g0a W3 (.cells #[.slice y.A1 p.pairs.length y.c1,.slice z.A1 q.pairs.length z.c1] 27);obtain ⟨W4,hW4⟩:∃ W4,W3.alloc (.cells #[.slice y.A1 p.pairs.length y.c1,.slice z.A1 q.pairs.length z.c1] 27)=W4:=⟨_,rfl⟩
 rw [hW4] at a4 b4;have B4:=B3.trans (b4.mono B3.size);have R1:=(hr.below B4).r1;have R2:=(hq.below B4).r1;have cC:=concat_any (A:=some ⟨W3.heap.size,0,none⟩) (N:=2) (C:=2) [⟨y.A1,p.pairs.length,y.c1,p.pairs⟩,⟨z.A1,q.pairs.length,z.c1,q.pairs⟩] W4 rfl (by omega)
  (fun _=>⟨W3.heap.size,0,rfl,a4.1,fun k hk=>by
    match k,hk with
    | 0,_=>exact a4.2.2 0 _ rfl
    | 1,_=>exact a4.2.2 1 _ rfl
    | k+2,hk=>simp at hk;omega⟩)
  (fun x hx=>by
    simp only [List.mem_cons,List.not_mem_nil,or_false] at hx;rcases hx with rfl | rfl
    ·exact ⟨rfl,hn.z1,R1⟩
    ·exact ⟨rfl,hm.z1,R2⟩)
  (by simp [sizes];omega)
 have AZ:=hid (a3.below b4 a3.1);have B4H:=hid B4;have NW:=hid (show w.heap.size<=W2.heap.size from (b1.trans (b2.mono b1.size)).size);have HL:=hid hl;have N4:=hid (show W2.heap.size<W4.heap.size from (a3.below b4 a3.1).1);obtain ⟨l1,hl1⟩:∃ l1,p.pairs=l1:=⟨_,rfl⟩;obtain ⟨l2,hl2⟩:∃ l2,q.pairs=l2:=⟨_,rfl⟩;obtain ⟨C1,hC1⟩:∃ C,pgC p y=C:=⟨_,rfl⟩;obtain ⟨C2,hC2⟩:∃ C,pgC q z=C:=⟨_,rfl⟩;rw [show pgV p y=.agg C1 from congrArg Value.agg hC1,show pgV q z=.agg C2 from congrArg Value.agg hC2]
 rw [hC1] at hW1;rw [hC2] at hW2;rw [hl1,hl2] at cC;rw [hl1,hl2];have E1:=hid hl1;have E2:=hid hl2;rw [hl1] at k1 hW4;rw [hl2] at k2 hW4;have S1:=hid hC1;clear a1 a2 a1' a2' a3 a4 b1 b2 b3 b4 B3 B4 R1 R2 hr hq hn hm hk hl hl1 hl2 hC1 hC2
 replace hW3:W2.alloc (.cells #[.int .i64 0,.slice none 0 0,.slice none 0 0,.slice none 0 0,.slice none 0 0,.int .i64 0,.int .u64 0,.int .i64 0,.int .i64 0,.int .i64 0,.int .i64 0] 103)=W3:=hW3
 go_enter Tryz.func228,Tryz.ntmps228
 go_wp2_with (first | ((with_reducible refine Disk.g0w rfl 103 (.tmp 0) rfl C1 ?_ ?_);(next=>rfl)) | ((with_reducible refine Disk.g0w rfl 103 (.tmp 2) rfl C2 ?_ ?_);(next=>rfl)))
 refine cC.mono ?_;rintro e w5 ⟨v,rfl,ho,b5⟩;obtain ⟨A,c1,e0,hR,hge,hcz,hcl1⟩:=Page.h2e ho;subst e0;have hfl:(([⟨y.A1,l1.length,y.c1,l1⟩,⟨z.A1,l2.length,z.c1,l2⟩]:List j1e).flatMap (·.l))=l1++l2:=by simp
 rw [hfl] at hR hcl1;rw [hfl];have AZ5:=AZ.out.below b5 AZ.out.1;have PR:=show g0c w5 (g0j (l1++l2)) {A1:=A,c1:=c1} from ⟨hR,fun h=>absurd rfl h,fun h=>absurd rfl h,fun h=>absurd rfl h⟩
 have PN:=hid (show Page.New (g0j (l1++l2)) {A1:=A,c1:=c1} W4.heap.size from ⟨fun x e=>hge x e,fun _ e=>(by cases e),fun _ e=>(by cases e),fun _ e=>(by cases e),fun _=>rfl,hcl1,Nat.zero_le _,Nat.zero_le _,Nat.zero_le _,hcz,fun _=>rfl,fun _=>rfl⟩);have R:=hid (g1e (o:=0) AZ5 (g0j (l1++l2)) {A1:=A,c1:=c1} (by simp));have A6:=show At _ W2.heap.size (pgC (g0j (l1++l2)) {A1:=A,c1:=c1}) from g2o AZ5 (vs:=(pgC (g0j (l1++l2)) {A1:=A,c1:=c1}).toList) (o:=0) (by simp) rfl
 have L:=hid (g2s (o:=0) A6 (g0j (l1++l2)) {A1:=A,c1:=c1} rfl);have B5:=B4H.out.trans (b5.mono B4H.out.size);have B6:=hid (B5.grown (g0n (pgC (g0j (l1++l2)) {A1:=A,c1:=c1}).toList 0 _ W2.heap.size) B5.size (fun k hk=>by cases hk;exact NW.out));have P6:=hid (PR.apart (g0n (pgC (g0j (l1++l2)) {A1:=A,c1:=c1}).toList 0 _ W2.heap.size) PN.out N4.out);have PN6:=hid (PN.out.mono B4H.out.size)
 obtain ⟨pv,hpv⟩:∃ pv,pgV (g0j (l1++l2)) {A1:=A,c1:=c1}=pv:=⟨_,rfl⟩;have PV:=hid hpv;rw [hpv] at R L;generalize hn:(l1++l2).length=n at *;have hpv':Value.agg #[.int .i64 1,.slice A n c1,.slice none 0 0,.slice none 0 0,.slice none 0 0,.int .i64 0,.int .u64 0,.int .i64 0,.int .i64 0,.int .i64 0,.int .i64 0]=pv:=by rw [<- hpv,<- hn];rfl
 generalize w5.setCells W2.heap.size 0 (pgC (g0j (l1++l2)) {A1:=A,c1:=c1}).toList=W6 at *;clear hR hge hcz hcl1 ho b5 cC AZ5 PR A6 B5 hpv hfl hn;go_wp2_with (first | ((with_reducible refine Disk.g0b rfl 103 (.tmp 6) (.tmp 16) rfl _ _ ?_ ?_ R.out ?_);(next=>rfl);(next=>first | rfl | (rw [<- hpv'];rfl))))
 refine bodyPost_ret (g4o rfl rfl L.out) rfl ?_;exact ⟨A,c1,by rw [PV.out],P6.out,PN6.out,B6.out⟩
open Page (Pg Lay PgOk g0c pgC pgV Enc g0v BytesAt strV strB PRow SRow IRow less)
theorem h7q {fn:Func} {tmps:Array Value} {a b c:Nat} {t:TypeId} {x y:Addr} {v u:Value} {w:World} (hr:fn.results=#[.cell a t,.tmp b,.cell c t]) (ha:tmps.getD a undef=.pointer (some x)) (hb:tmps.getD c undef=.pointer (some y)) (h:(loadVar t x).run Tryz.prog w=.ok v w) (h':(loadVar t y).run Tryz.prog w=.ok u w):(results fn tmps).run Tryz.prog w=.ok (.tuple #[v,tmps.getD b undef,u]) w:=by
 have ha':tmps[a]?.getD undef=.pointer (some x):=by simpa using ha
 have hb':tmps[c]?.getD undef=.pointer (some y):=by simpa using hb
 simp [results,hr,ha',hb',asAddr,h,h']
def g9l (p:Pg) (y:Lay):Lay:=if p.kind=1 then {A1:=y.A1,c1:=y.c1} else {A2:=y.A2,c2:=y.c2,A3:=y.A3,c3:=y.c3}
def g5p (p:Pg) (y:Lay):Lay:=if p.kind=1 then {A1:=sub 2 y.A1 y.c1 (midP p),c1:=y.c1-midP p} else {A2:=sub 1 y.A2 y.c2 (midP p+1),c2:=y.c2-(midP p+1),A3:=sub 1 y.A3 y.c3 (midP p+1),c3:=y.c3-(midP p+1)}
theorem k5j {w:World} {b:Nat} {C D:Array Value} (h:At w b C) (hs:D.size=C.size):At (w.setCells b 0 D.toList) b D :=
 g2o h (vs:=D.toList) (o:=0) (by simp [hs]) (by simp [hs])
theorem j7q (s g o c k:Nat) (h:c≠k):sub s (some ⟨g,o,none⟩) c k=some ⟨g,o+k*s,none⟩:=by
 unfold sub;rw [if_neg h];show some ((⟨g,o,none⟩:Addr).add (k*s))=_;unfold Addr.add
 split <;> simp_all
structure g3e (w:World) (b1 b2 b4:Nat) (C L R:Array Value) (W:World):Prop where
 own:At W b1 C
 left:At W b2 L
 right:At W b4 R
 below:Below w.heap.size w W
theorem g3e.quiet {w:World} {b1 b2 b4:Nat} {C L R:Array Value} {W W':World} (h:g3e w b1 b2 b4 C L R W) (q:Below W.heap.size W W'):g3e w b1 b2 b4 C L R W' :=
 ⟨h.own.below q h.own.1,h.left.below q h.left.1,h.right.below q h.right.1,h.below.trans (q.mono h.below.size)⟩
theorem g3e.both {w:World} {b1 b2 b4:Nat} {C L R L' R':Array Value} {W:World} (h:g3e w b1 b2 b4 C L R W) (h0:w.heap.size<=b1) (h1:b1<b2) (h2:b2<b4) (hl:L'.size=L.size) (hr:R'.size=R.size):g3e w b1 b2 b4 C L' R' ((W.setCells b2 0 L'.toList).setCells b4 0 R'.toList):=by
 have g1:=g0n L'.toList 0 W b2;have g2:=g0n R'.toList 0 (W.setCells b2 0 L'.toList) b4;have m1:Mod [b2] W (W.setCells b2 0 L'.toList):=(Mod.refl [b2] W).grown g1 (fun k e=>.inl (by cases e;simp));have m2:Mod [b4] (W.setCells b2 0 L'.toList) ((W.setCells b2 0 L'.toList).setCells b4 0 R'.toList):=(Mod.refl [b4] _).grown g2 (fun k e=>.inl (by cases e;simp));have a1:=k5j h.left hl;refine ⟨g0l (g0l h.own m1 (by simp;omega)) m2 (by simp;omega),g0l a1 m2 (by simp;omega),k5j (g0l h.right m1 (by simp;omega)) hr,?_⟩
 exact ((h.below.grown g1 h.below.size (fun k e=>by cases e;omega))).grown g2 (Nat.le_trans h.below.size g1.size) (fun k e=>by cases e;omega)
theorem g3e.cell {w:World} {b1 b2 b4:Nat} {C L R:Array Value} {W:World} (h:g3e w b1 b2 b4 C L R W) (h0:w.heap.size<=b1) (h1:b1<b2) (h2:b2<b4) (i j:Nat) (u v:Value):g3e w b1 b2 b4 C (L.setIfInBounds i u) (R.setIfInBounds j v) ((W.setCell ⟨b2,i,none⟩ u).setCell ⟨b4,j,none⟩ v):=by
 have m1:=g0z W b2 i u;have m2:=g0z (W.setCell ⟨b2,i,none⟩ u) b4 j v;exact ⟨g0l (g0l h.own m1 (by simp;omega)) m2 (by simp;omega),g0l (at_set h.left i u) m2 (by simp;omega),at_set (g0l h.right m1 (by simp;omega)) j v,(h.below.setCell (p:=⟨b2,i,none⟩) (by show w.heap.size<=b2;omega) _).setCell (p:=⟨b4,j,none⟩) (by show w.heap.size<=b4;omega) _⟩
theorem j4b {w:World} (p:Pg) (y:Lay) (hr:g0c w p y) (hk:p.kind=1) (hn:2<=p.pairs.length/\p.pairs.length<=1000) (hc:p.pairs.length<=y.c1) :
 Calls Tryz.prog 255 #[pgV p y] w (fun e w'=>e=.returned (.tuple #[pgV (g3d p) (g9l p y),strV (midK p),pgV (g1t p) (g5p p y)])/\Below w.heap.size w w'):=by
 have b1:=Pool.g0a w (.cells (pgC p y) 103);have a1:=at_new w (pgC p y) 103;obtain ⟨W1,hW1⟩:∃ W1,w.alloc (.cells (pgC p y) 103)=W1:=⟨_,rfl⟩;rw [hW1] at b1 a1;have b2:=Pool.g0a W1 (.cells pgZ 103);have a2:=at_new W1 pgZ 103;obtain ⟨W2,hW2⟩:∃ W2,W1.alloc (.cells pgZ 103)=W2:=⟨_,rfl⟩;rw [hW2] at b2 a2;have b3:=Pool.g0a W2 (.cells pgZ 103);have a3:=at_new W2 pgZ 103;have a13:=(a1.below b2 a1.1).below b3 (a1.below b2 a1.1).1
 have a23:=a2.below b3 a2.1;have hs1:w.heap.size<W1.heap.size:=a1.1;have hs2:W1.heap.size<W2.heap.size:=a2.1;obtain ⟨W3,hW3⟩:∃ W3,W2.alloc (.cells pgZ 103)=W3:=⟨_,rfl⟩;rw [hW3] at b3 a3 a13 a23;have HV0:=hid (show g3e w w.heap.size W1.heap.size W2.heap.size (pgC p y) pgZ pgZ W3 from ⟨a13,a23,a3,b1.trans ((b2.trans (b3.mono b2.size)).mono b1.size)⟩);have hW2':W1.alloc (.cells #[.int .i64 0,.slice none 0 0,.slice none 0 0,.slice none 0 0,.slice none 0 0,.int .i64 0,.int .u64 0,.int .i64 0,.int .i64 0,.int .i64 0,.int .i64 0] 103)=W2:=hW2
 have hW3':W2.alloc (.cells #[.int .i64 0,.slice none 0 0,.slice none 0 0,.slice none 0 0,.slice none 0 0,.int .i64 0,.int .u64 0,.int .i64 0,.int .i64 0,.int .i64 0,.int .i64 0] 103)=W3:=hW3;have BW:=hid (show Below w.heap.size w W3 from HV0.out.below);obtain ⟨C,hC⟩:∃ C,pgC p y=C:=⟨_,rfl⟩;rw [show pgV p y=.agg C from congrArg Value.agg hC];rw [hC] at hW1;clear a1 a2 a3 a13 a23 b1 b2 b3 hW2 hW3;go_enter Tryz.func255,Tryz.ntmps255
 go_wp2_with (first | ((with_reducible refine Disk.g0w rfl 103 (.tmp 0) rfl C ?_ ?_);(next=>rfl)))
 go_upto_region 1 with fail
 obtain ⟨e2,he2⟩:∃ e2,W1.heap.size=e2:=⟨_,rfl⟩;obtain ⟨e4,he4⟩:∃ e4,W2.heap.size=e4:=⟨_,rfl⟩;rw [he2] at HV0 hs1 hs2;rw [he4] at HV0 hs2;rw [he2,he4];have n24:¬ e2=e4:=by omega
 have n42:¬ e4=e2:=by omega
 have n12:¬ w.heap.size=e2:=by omega
 have n14:¬ w.heap.size=e4:=by omega
 have n21:¬ e2=w.heap.size:=by omega
 have n41:¬ e4=w.heap.size:=by omega
 clear hW1 hW2' hW3' he2 he4;go_cut [] from 5 (fun wx=>g3e w w.heap.size e2 e4 (pgC p y) #[.int .i64 1,.slice none 0 0,.slice none 0 0,.slice none 0 0,.slice none 0 0,.int .i64 0,.int .u64 0,.int .i64 0,.int .i64 0,.int .i64 0,.int .i64 0] #[.int .i64 1,.slice none 0 0,.slice none 0 0,.slice none 0 0,.slice none 0 0,.int .i64 0,.int .u64 0,.int .i64 0,.int .i64 0,.int .i64 0,.int .i64 0] wx)
 case first =>
  have k0:W3.cell? ⟨w.heap.size,0,none⟩=some (.int .i64 1):=by rw [<- hk];exact HV0.out.own.2.2 0 _ rfl
  have q2:=HV0.out.left.2.1;have q4:=HV0.out.right.2.1;have l0:W3.cell? ⟨e2,0,none⟩=some (.int .i64 0):=HV0.out.left.2.2 0 _ rfl;have l1:W3.cell? ⟨e2,1,none⟩=some (.slice none 0 0):=HV0.out.left.2.2 1 _ rfl;have l2:W3.cell? ⟨e2,2,none⟩=some (.slice none 0 0):=HV0.out.left.2.2 2 _ rfl;have l3:W3.cell? ⟨e2,3,none⟩=some (.slice none 0 0):=HV0.out.left.2.2 3 _ rfl;have l4:W3.cell? ⟨e2,4,none⟩=some (.slice none 0 0):=HV0.out.left.2.2 4 _ rfl
  have l5:W3.cell? ⟨e2,5,none⟩=some (.int .i64 0):=HV0.out.left.2.2 5 _ rfl;have l6:W3.cell? ⟨e2,6,none⟩=some (.int .u64 0):=HV0.out.left.2.2 6 _ rfl;have l7:W3.cell? ⟨e2,7,none⟩=some (.int .i64 0):=HV0.out.left.2.2 7 _ rfl;have l8:W3.cell? ⟨e2,8,none⟩=some (.int .i64 0):=HV0.out.left.2.2 8 _ rfl;have l9:W3.cell? ⟨e2,9,none⟩=some (.int .i64 0):=HV0.out.left.2.2 9 _ rfl;have l10:W3.cell? ⟨e2,10,none⟩=some (.int .i64 0):=HV0.out.left.2.2 10 _ rfl
  have m0:W3.cell? ⟨e4,0,none⟩=some (.int .i64 0):=HV0.out.right.2.2 0 _ rfl;have m1:W3.cell? ⟨e4,1,none⟩=some (.slice none 0 0):=HV0.out.right.2.2 1 _ rfl;have m2:W3.cell? ⟨e4,2,none⟩=some (.slice none 0 0):=HV0.out.right.2.2 2 _ rfl;have m3:W3.cell? ⟨e4,3,none⟩=some (.slice none 0 0):=HV0.out.right.2.2 3 _ rfl;have m4:W3.cell? ⟨e4,4,none⟩=some (.slice none 0 0):=HV0.out.right.2.2 4 _ rfl;have m5:W3.cell? ⟨e4,5,none⟩=some (.int .i64 0):=HV0.out.right.2.2 5 _ rfl
  have m6:W3.cell? ⟨e4,6,none⟩=some (.int .u64 0):=HV0.out.right.2.2 6 _ rfl;have m7:W3.cell? ⟨e4,7,none⟩=some (.int .i64 0):=HV0.out.right.2.2 7 _ rfl;have m8:W3.cell? ⟨e4,8,none⟩=some (.int .i64 0):=HV0.out.right.2.2 8 _ rfl;have m9:W3.cell? ⟨e4,9,none⟩=some (.int .i64 0):=HV0.out.right.2.2 9 _ rfl;have m10:W3.cell? ⟨e4,10,none⟩=some (.int .i64 0):=HV0.out.right.2.2 10 _ rfl;have FIN:=hid ((HV0.out.both (L':=#[.int .i64 1,.slice none 0 0,.slice none 0 0,.slice none 0 0,.slice none 0 0,.int .i64 0,.int .u64 0,.int .i64 0,.int .i64 0,.int .i64 0,.int .i64 0]) (R':=#[.int .i64 1,.slice none 0 0,.slice none 0 0,.slice none 0 0,.slice none 0 0,.int .i64 0,.int .u64 0,.int .i64 0,.int .i64 0,.int .i64 0,.int .i64 0]) (Nat.le_refl _) hs1 hs2 rfl rfl).quiet (Below.refl _ _).drew)
  clear HV0 hC hk hr hn hc;go_region
  go_wp2_with fail
  go_meet
  case rel=>exact FIN.out
 case rest =>
 have hne:p.pairs≠[]:=by intro e;rw [e] at hn;simp at hn
 obtain ⟨g,o,eA,hgl,hgc⟩:=hr.r1 hne;obtain ⟨n,hnn⟩:∃ n,p.pairs.length=n:=⟨_,rfl⟩;obtain ⟨m,hm⟩:∃ m,(n+1) / 2=m:=⟨_,rfl⟩;have hmid:midP p=m:=by rw [midP,if_pos hk,hnn,hm]
 have hmn:m<n/\0<m:=by omega
 have hgm:=(hgc m (by omega)).1;obtain ⟨ks,hks⟩:∃ ks,strB p.pairs[m].1=ks:=⟨_,rfl⟩;rw [show strV p.pairs[m].1=.string ks by rw [<- hks]] at hgm;have HKEY:=hid (show strV (midK p)=.string ks from by
  rw [midK,if_pos hk,hmid,List.getElem?_eq_getElem (by omega),<- hks];rfl)
 obtain ⟨r,hrr⟩:∃ r,n-m=r:=⟨_,rfl⟩;obtain ⟨c4,hc4⟩:∃ c4,y.c1-m=c4:=⟨_,rfl⟩;have s1:=fun W=>g5u (some ⟨g,o,none⟩) n y.c1 m (by omega) W
 have s2:∀ W,(Instr.slice 27 (.slice (some ⟨g,o,none⟩) n y.c1) (some (.int .i64 (m:Int))) none none).run Tryz.prog W=.ok (.slice (some ⟨g,o+m*2,none⟩) r c4) W:=fun W=>by
  rw [g8y (some ⟨g,o,none⟩) n y.c1 m (by omega) W,<- hrr,<- hc4];have:sub 2 (some ⟨g,o,none⟩) y.c1 m=some ⟨g,o+m*2,none⟩:=j7q 2 g o y.c1 m (by omega);rw [this]
 have hw1:IntKind.i64.wrap ((n:Int)+1)=(n:Int)+1:=IntWalk.i64_in _ (by omega);have hw2:IntKind.i64.wrap (((n:Int)+1).tdiv 2)=(m:Int):=by
  have:((n:Int)+1).tdiv 2=(m:Int):=by rw [Int.tdiv_eq_ediv_of_nonneg (by omega)];omega
  rw [this];exact IntWalk.i64_in _ (by omega)
 have hw3:((n:Int)+1) / 2=(m:Int):=by omega
 have hr0:(0:Int)<(r:Int):=by omega
 have g2:¬ g=e2:=by omega
 have g2':¬ e2=g:=by omega
 have g4:¬ g=e4:=by omega
 have g4':¬ e4=g:=by omega
 have hr1:0<r:=by omega
 have HC:=hid hcut;have k0:wc.cell? ⟨w.heap.size,0,none⟩=some (.int .i64 1):=by rw [<- hk];exact hcut.own.2.2 0 _ rfl
 have k1:wc.cell? ⟨w.heap.size,1,none⟩=some (.slice (some ⟨g,o,none⟩) n y.c1):=by
  have:=hcut.own.2.2 1 _ rfl;rw [<- eA,<- hnn];exact this
 have HKA:=hid (show (∀ W,Below w.heap.size w W->W.cell? ⟨g,o+m*2,none⟩=some (.string ks)) from fun W hb=>(hb.cell (p:=⟨g,o+m*2,none⟩) hgl).trans hgm);have EL:=hid (show pgV (g3d p) (g9l p y)=.agg #[.int .i64 1,.slice (some ⟨g,o,none⟩) m y.c1,.slice none 0 0,.slice none 0 0,.slice none 0 0,.int .i64 0,.int .u64 0,.int .i64 0,.int .i64 0,.int .i64 0,.int .i64 0] from by
  rw [g3d,if_pos hk,g9l,if_pos hk,hmid,eA];show Value.agg #[_,.slice _ (p.pairs.take m).length _,_,_,_,_,_,_,_,_,_]=_;rw [List.length_take,hnn,show min m n=m by omega];rfl)
 have ER:=hid (show pgV (g1t p) (g5p p y)=.agg #[.int .i64 1,.slice (some ⟨g,o+m*2,none⟩) r c4,.slice none 0 0,.slice none 0 0,.slice none 0 0,.int .i64 0,.int .u64 0,.int .i64 0,.int .i64 0,.int .i64 0,.int .i64 0] from by
  rw [g1t,if_pos hk,g5p,if_pos hk,hmid,eA];have:sub 2 (some ⟨g,o,none⟩) y.c1 m=some ⟨g,o+m*2,none⟩:=j7q 2 g o y.c1 m (by omega);rw [this];show Value.agg #[_,.slice _ (p.pairs.drop m).length _,_,_,_,_,_,_,_,_,_]=_;rw [List.length_drop,hnn,hrr,hc4];rfl)
 clear hC hcut HV0 eA hgl hgc hgm hks hm hmid hnn hrr hc4 hk hn hc hr hne;go_wp2_with fail
 go_upto_region 4 with fail
 go_cut [] from 7 (fun wx=>g3e w w.heap.size e2 e4 (pgC p y) #[.int .i64 1,.slice (some ⟨g,o,none⟩) m y.c1,.slice none 0 0,.slice none 0 0,.slice none 0 0,.int .i64 0,.int .u64 0,.int .i64 0,.int .i64 0,.int .i64 0,.int .i64 0] #[.int .i64 1,.slice (some ⟨g,o+m*2,none⟩) r c4,.slice none 0 0,.slice none 0 0,.slice none 0 0,.int .i64 0,.int .u64 0,.int .i64 0,.int .i64 0,.int .i64 0,.int .i64 0] wx)
 case first =>
  have l1:wc.cell? ⟨e2,1,none⟩=some (.slice none 0 0):=HC.out.left.2.2 1 _ rfl;have m1:wc.cell? ⟨e4,1,none⟩=some (.slice none 0 0):=HC.out.right.2.2 1 _ rfl;have q2:=HC.out.left.2.1;have q4:=HC.out.right.2.1;have FIN:=hid (show g3e w w.heap.size e2 e4 (pgC p y) #[.int .i64 1,.slice (some ⟨g,o,none⟩) m y.c1,.slice none 0 0,.slice none 0 0,.slice none 0 0,.int .i64 0,.int .u64 0,.int .i64 0,.int .i64 0,.int .i64 0,.int .i64 0] #[.int .i64 1,.slice (some ⟨g,o+m*2,none⟩) r c4,.slice none 0 0,.slice none 0 0,.slice none 0 0,.int .i64 0,.int .u64 0,.int .i64 0,.int .i64 0,.int .i64 0,.int .i64 0] _ from (HC.out.cell (Nat.le_refl _) hs1 hs2 1 1 (.slice (some ⟨g,o,none⟩) m y.c1) (.slice (some ⟨g,o+m*2,none⟩) r c4)).quiet (Below.refl _ _).drew)
  clear HC;go_region
  go_wp2_with fail
  go_meet
  case rel=>exact FIN.out
 case rest =>
 rename World=>wd
 have HD:=hid hcut;clear hcut HC k0 k1 s1 s2;go_upto_region 5 with fail
 go_cut [3] from 7 (fun s3 wx=>s3=.string ks/\g3e w w.heap.size e2 e4 (pgC p y) #[.int .i64 1,.slice (some ⟨g,o,none⟩) m y.c1,.slice none 0 0,.slice none 0 0,.slice none 0 0,.int .i64 0,.int .u64 0,.int .i64 0,.int .i64 0,.int .i64 0,.int .i64 0] #[.int .i64 1,.slice (some ⟨g,o+m*2,none⟩) r c4,.slice none 0 0,.slice none 0 0,.slice none 0 0,.int .i64 0,.int .u64 0,.int .i64 0,.int .i64 0,.int .i64 0,.int .i64 0] wx)
 case first =>
  have l0:wd.cell? ⟨e2,0,none⟩=some (.int .i64 1):=HD.out.left.2.2 0 _ rfl;have l1:wd.cell? ⟨e2,1,none⟩=some (.slice (some ⟨g,o,none⟩) m y.c1):=HD.out.left.2.2 1 _ rfl;have l2:wd.cell? ⟨e2,2,none⟩=some (.slice none 0 0):=HD.out.left.2.2 2 _ rfl;have l3:wd.cell? ⟨e2,3,none⟩=some (.slice none 0 0):=HD.out.left.2.2 3 _ rfl;have l4:wd.cell? ⟨e2,4,none⟩=some (.slice none 0 0):=HD.out.left.2.2 4 _ rfl;have l5:wd.cell? ⟨e2,5,none⟩=some (.int .i64 0):=HD.out.left.2.2 5 _ rfl
  have l6:wd.cell? ⟨e2,6,none⟩=some (.int .u64 0):=HD.out.left.2.2 6 _ rfl;have l7:wd.cell? ⟨e2,7,none⟩=some (.int .i64 0):=HD.out.left.2.2 7 _ rfl;have l8:wd.cell? ⟨e2,8,none⟩=some (.int .i64 0):=HD.out.left.2.2 8 _ rfl;have l9:wd.cell? ⟨e2,9,none⟩=some (.int .i64 0):=HD.out.left.2.2 9 _ rfl;have l10:wd.cell? ⟨e2,10,none⟩=some (.int .i64 0):=HD.out.left.2.2 10 _ rfl;have m0:wd.cell? ⟨e4,0,none⟩=some (.int .i64 1):=HD.out.right.2.2 0 _ rfl
  have m1:wd.cell? ⟨e4,1,none⟩=some (.slice (some ⟨g,o+m*2,none⟩) r c4):=HD.out.right.2.2 1 _ rfl;have m2:wd.cell? ⟨e4,2,none⟩=some (.slice none 0 0):=HD.out.right.2.2 2 _ rfl;have m3:wd.cell? ⟨e4,3,none⟩=some (.slice none 0 0):=HD.out.right.2.2 3 _ rfl;have m4:wd.cell? ⟨e4,4,none⟩=some (.slice none 0 0):=HD.out.right.2.2 4 _ rfl;have m5:wd.cell? ⟨e4,5,none⟩=some (.int .i64 0):=HD.out.right.2.2 5 _ rfl
  have m6:wd.cell? ⟨e4,6,none⟩=some (.int .u64 0):=HD.out.right.2.2 6 _ rfl;have m7:wd.cell? ⟨e4,7,none⟩=some (.int .i64 0):=HD.out.right.2.2 7 _ rfl;have m8:wd.cell? ⟨e4,8,none⟩=some (.int .i64 0):=HD.out.right.2.2 8 _ rfl;have m9:wd.cell? ⟨e4,9,none⟩=some (.int .i64 0):=HD.out.right.2.2 9 _ rfl;have m10:wd.cell? ⟨e4,10,none⟩=some (.int .i64 0):=HD.out.right.2.2 10 _ rfl;have q2:=HD.out.left.2.1;have q4:=HD.out.right.2.1
  have kk:=HKA.out wd HD.out.below;have FIN:=hid (show g3e w w.heap.size e2 e4 (pgC p y) #[.int .i64 1,.slice (some ⟨g,o,none⟩) m y.c1,.slice none 0 0,.slice none 0 0,.slice none 0 0,.int .i64 0,.int .u64 0,.int .i64 0,.int .i64 0,.int .i64 0,.int .i64 0] #[.int .i64 1,.slice (some ⟨g,o+m*2,none⟩) r c4,.slice none 0 0,.slice none 0 0,.slice none 0 0,.int .i64 0,.int .u64 0,.int .i64 0,.int .i64 0,.int .i64 0,.int .i64 0] _ from (HD.out.both (L':=#[.int .i64 1,.slice (some ⟨g,o,none⟩) m y.c1,.slice none 0 0,.slice none 0 0,.slice none 0 0,.int .i64 0,.int .u64 0,.int .i64 0,.int .i64 0,.int .i64 0,.int .i64 0]) (R':=#[.int .i64 1,.slice (some ⟨g,o+m*2,none⟩) r c4,.slice none 0 0,.slice none 0 0,.slice none 0 0,.int .i64 0,.int .u64 0,.int .i64 0,.int .i64 0,.int .i64 0,.int .i64 0]) (Nat.le_refl _) hs1 hs2 rfl rfl).quiet (Below.refl _ _).drew)
  clear HD HKA;go_region
  go_wp2_with fail
  go_meet
  case rel=>exact ⟨rfl,FIN.out⟩
 case rest =>
 obtain ⟨rfl,hv⟩:=hcut
 rename World=>we
 have VL:=hid (show (loadVar 103 ⟨e2,0,none⟩).run Tryz.prog we=.ok (pgV (g3d p) (g9l p y)) we from by rw [EL.out];exact h7o hv.left Tryz.underlying103 rfl g5k rfl);have VR:=hid (show (loadVar 103 ⟨e4,0,none⟩).run Tryz.prog we=.ok (pgV (g1t p) (g5p p y)) we from by rw [ER.out];exact h7o hv.right Tryz.underlying103 rfl g5k rfl);have FIN:=hid hv.below;clear hv HD;go_wp2_with fail
 refine bodyPost_ret (h7q rfl rfl rfl VL.out VR.out) rfl ?_;exact ⟨by rw [HKEY.out];rfl,FIN.out⟩
theorem h9l {w:World} (p:Pg) (y:Lay) (hr:g0c w p y) (hk:p.kind=2) (hn:3<=p.keys.length/\p.keys.length<=1000) (hkk:p.kids.length=p.keys.length+1) (hc:p.keys.length<=y.c2) (hc3:p.kids.length<=y.c3) :
 Calls Tryz.prog 255 #[pgV p y] w (fun e w'=>e=.returned (.tuple #[pgV (g3d p) (g9l p y),strV (midK p),pgV (g1t p) (g5p p y)])/\Below w.heap.size w w'):=by
 have b1:=Pool.g0a w (.cells (pgC p y) 103);have a1:=at_new w (pgC p y) 103;obtain ⟨W1,hW1⟩:∃ W1,w.alloc (.cells (pgC p y) 103)=W1:=⟨_,rfl⟩;rw [hW1] at b1 a1;have b2:=Pool.g0a W1 (.cells pgZ 103);have a2:=at_new W1 pgZ 103;obtain ⟨W2,hW2⟩:∃ W2,W1.alloc (.cells pgZ 103)=W2:=⟨_,rfl⟩;rw [hW2] at b2 a2;have b3:=Pool.g0a W2 (.cells pgZ 103);have a3:=at_new W2 pgZ 103;have a13:=(a1.below b2 a1.1).below b3 (a1.below b2 a1.1).1
 have a23:=a2.below b3 a2.1;have hs1:w.heap.size<W1.heap.size:=a1.1;have hs2:W1.heap.size<W2.heap.size:=a2.1;obtain ⟨W3,hW3⟩:∃ W3,W2.alloc (.cells pgZ 103)=W3:=⟨_,rfl⟩;rw [hW3] at b3 a3 a13 a23;have HV0:=hid (show g3e w w.heap.size W1.heap.size W2.heap.size (pgC p y) pgZ pgZ W3 from ⟨a13,a23,a3,b1.trans ((b2.trans (b3.mono b2.size)).mono b1.size)⟩);have hW2':W1.alloc (.cells #[.int .i64 0,.slice none 0 0,.slice none 0 0,.slice none 0 0,.slice none 0 0,.int .i64 0,.int .u64 0,.int .i64 0,.int .i64 0,.int .i64 0,.int .i64 0] 103)=W2:=hW2
 have hW3':W2.alloc (.cells #[.int .i64 0,.slice none 0 0,.slice none 0 0,.slice none 0 0,.slice none 0 0,.int .i64 0,.int .u64 0,.int .i64 0,.int .i64 0,.int .i64 0,.int .i64 0] 103)=W3:=hW3;have BW:=hid (show Below w.heap.size w W3 from HV0.out.below);obtain ⟨C,hC⟩:∃ C,pgC p y=C:=⟨_,rfl⟩;rw [show pgV p y=.agg C from congrArg Value.agg hC];rw [hC] at hW1;clear a1 a2 a3 a13 a23 b1 b2 b3 hW2 hW3;go_enter Tryz.func255,Tryz.ntmps255
 go_wp2_with (first | ((with_reducible refine Disk.g0w rfl 103 (.tmp 0) rfl C ?_ ?_);(next=>rfl)))
 go_upto_region 1 with fail
 obtain ⟨e2,he2⟩:∃ e2,W1.heap.size=e2:=⟨_,rfl⟩;obtain ⟨e4,he4⟩:∃ e4,W2.heap.size=e4:=⟨_,rfl⟩;rw [he2] at HV0 hs1 hs2;rw [he4] at HV0 hs2;rw [he2,he4];have n24:¬ e2=e4:=by omega
 have n42:¬ e4=e2:=by omega
 have n12:¬ w.heap.size=e2:=by omega
 have n14:¬ w.heap.size=e4:=by omega
 have n21:¬ e2=w.heap.size:=by omega
 have n41:¬ e4=w.heap.size:=by omega
 clear hW1 hW2' hW3' he2 he4;go_cut [] from 5 (fun wx=>g3e w w.heap.size e2 e4 (pgC p y) #[.int .i64 2,.slice none 0 0,.slice none 0 0,.slice none 0 0,.slice none 0 0,.int .i64 0,.int .u64 0,.int .i64 0,.int .i64 0,.int .i64 0,.int .i64 0] #[.int .i64 2,.slice none 0 0,.slice none 0 0,.slice none 0 0,.slice none 0 0,.int .i64 0,.int .u64 0,.int .i64 0,.int .i64 0,.int .i64 0,.int .i64 0] wx)
 case first =>
  have k0:W3.cell? ⟨w.heap.size,0,none⟩=some (.int .i64 2):=by rw [<- hk];exact HV0.out.own.2.2 0 _ rfl
  have q2:=HV0.out.left.2.1;have q4:=HV0.out.right.2.1;have l0:W3.cell? ⟨e2,0,none⟩=some (.int .i64 0):=HV0.out.left.2.2 0 _ rfl;have l1:W3.cell? ⟨e2,1,none⟩=some (.slice none 0 0):=HV0.out.left.2.2 1 _ rfl;have l2:W3.cell? ⟨e2,2,none⟩=some (.slice none 0 0):=HV0.out.left.2.2 2 _ rfl;have l3:W3.cell? ⟨e2,3,none⟩=some (.slice none 0 0):=HV0.out.left.2.2 3 _ rfl;have l4:W3.cell? ⟨e2,4,none⟩=some (.slice none 0 0):=HV0.out.left.2.2 4 _ rfl
  have l5:W3.cell? ⟨e2,5,none⟩=some (.int .i64 0):=HV0.out.left.2.2 5 _ rfl;have l6:W3.cell? ⟨e2,6,none⟩=some (.int .u64 0):=HV0.out.left.2.2 6 _ rfl;have l7:W3.cell? ⟨e2,7,none⟩=some (.int .i64 0):=HV0.out.left.2.2 7 _ rfl;have l8:W3.cell? ⟨e2,8,none⟩=some (.int .i64 0):=HV0.out.left.2.2 8 _ rfl;have l9:W3.cell? ⟨e2,9,none⟩=some (.int .i64 0):=HV0.out.left.2.2 9 _ rfl;have l10:W3.cell? ⟨e2,10,none⟩=some (.int .i64 0):=HV0.out.left.2.2 10 _ rfl
  have m0:W3.cell? ⟨e4,0,none⟩=some (.int .i64 0):=HV0.out.right.2.2 0 _ rfl;have m1:W3.cell? ⟨e4,1,none⟩=some (.slice none 0 0):=HV0.out.right.2.2 1 _ rfl;have m2:W3.cell? ⟨e4,2,none⟩=some (.slice none 0 0):=HV0.out.right.2.2 2 _ rfl;have m3:W3.cell? ⟨e4,3,none⟩=some (.slice none 0 0):=HV0.out.right.2.2 3 _ rfl;have m4:W3.cell? ⟨e4,4,none⟩=some (.slice none 0 0):=HV0.out.right.2.2 4 _ rfl;have m5:W3.cell? ⟨e4,5,none⟩=some (.int .i64 0):=HV0.out.right.2.2 5 _ rfl
  have m6:W3.cell? ⟨e4,6,none⟩=some (.int .u64 0):=HV0.out.right.2.2 6 _ rfl;have m7:W3.cell? ⟨e4,7,none⟩=some (.int .i64 0):=HV0.out.right.2.2 7 _ rfl;have m8:W3.cell? ⟨e4,8,none⟩=some (.int .i64 0):=HV0.out.right.2.2 8 _ rfl;have m9:W3.cell? ⟨e4,9,none⟩=some (.int .i64 0):=HV0.out.right.2.2 9 _ rfl;have m10:W3.cell? ⟨e4,10,none⟩=some (.int .i64 0):=HV0.out.right.2.2 10 _ rfl;have FIN:=hid ((HV0.out.both (L':=#[.int .i64 2,.slice none 0 0,.slice none 0 0,.slice none 0 0,.slice none 0 0,.int .i64 0,.int .u64 0,.int .i64 0,.int .i64 0,.int .i64 0,.int .i64 0]) (R':=#[.int .i64 2,.slice none 0 0,.slice none 0 0,.slice none 0 0,.slice none 0 0,.int .i64 0,.int .u64 0,.int .i64 0,.int .i64 0,.int .i64 0,.int .i64 0]) (Nat.le_refl _) hs1 hs2 rfl rfl).quiet (Below.refl _ _).drew)
  clear HV0 hC hk hr hn hc hkk hc3;go_region
  go_wp2_with fail
  go_meet
  case rel=>exact FIN.out
 case rest =>
 have hne:p.keys≠[]:=by intro e;rw [e] at hn;simp at hn
 have hne3:p.kids≠[]:=by intro e;rw [e] at hkk;simp at hkk
 obtain ⟨g,o,eA,hgl,hgc⟩:=hr.r2 hne;obtain ⟨g3,o3,eA3,-,-⟩:=hr.r3 hne3;obtain ⟨n,hnn⟩:∃ n,p.keys.length=n:=⟨_,rfl⟩;obtain ⟨n3,hn3⟩:∃ n3,p.kids.length=n3:=⟨_,rfl⟩;obtain ⟨m,hm⟩:∃ m,n / 2=m:=⟨_,rfl⟩;obtain ⟨q,hq⟩:∃ q,m+1=q:=⟨_,rfl⟩;have hmid:midP p=m:=by rw [midP,if_neg (by omega),hnn,hm]
 have hmn:q<n:=by omega
 have hgm:=hgc m (by omega);obtain ⟨ks,hks⟩:∃ ks,strB p.keys[m]=ks:=⟨_,rfl⟩;rw [show strV p.keys[m]=.string ks by rw [<- hks]] at hgm;have HKEY:=hid (show strV (midK p)=.string ks from by
  rw [midK,if_neg (by omega),hmid,List.getElem?_eq_getElem (by omega),<- hks];rfl)
 obtain ⟨r,hrr⟩:∃ r,n-q=r:=⟨_,rfl⟩;obtain ⟨r6,hr6⟩:∃ r6,n3-q=r6:=⟨_,rfl⟩;obtain ⟨c5,hc5⟩:∃ c5,y.c2-q=c5:=⟨_,rfl⟩;obtain ⟨c6,hc6⟩:∃ c6,y.c3-q=c6:=⟨_,rfl⟩;obtain ⟨o5,ho5⟩:∃ o5,o+q*1=o5:=⟨_,rfl⟩;obtain ⟨o6,ho6⟩:∃ o6,o3+q*1=o6:=⟨_,rfl⟩;have u5':sub 1 (some ⟨g,o,none⟩) y.c2 q=some ⟨g,o5,none⟩:=by rw [j7q 1 g o y.c2 q (by omega),ho5]
 have u6':sub 1 (some ⟨g3,o3,none⟩) y.c3 q=some ⟨g3,o6,none⟩:=by rw [j7q 1 g3 o3 y.c3 q (by omega),ho6]
 have s1:=fun W=>TreeS.row_head (some ⟨g,o,none⟩) n y.c2 m (by omega) W
 have s2:∀ W,(Instr.slice 64 (.slice (some ⟨g,o,none⟩) n y.c2) (some (.int .i64 (q:Int))) none none).run Tryz.prog W=.ok (.slice (some ⟨g,o5,none⟩) r c5) W:=fun W=>by
  rw [TreeS.row_tail (some ⟨g,o,none⟩) n y.c2 q (by omega) W,<- hrr,<- hc5,u5']
 have s3:=fun W=>TreeI.row_head (some ⟨g3,o3,none⟩) n3 y.c3 q (by omega) W
 have s4:∀ W,(Instr.slice 66 (.slice (some ⟨g3,o3,none⟩) n3 y.c3) (some (.int .i64 (q:Int))) none none).run Tryz.prog W=.ok (.slice (some ⟨g3,o6,none⟩) r6 c6) W:=fun W=>by
  rw [TreeI.row_tail (some ⟨g3,o3,none⟩) n3 y.c3 q (by omega) W,<- hr6,<- hc6,u6']
 have hw2:IntKind.i64.wrap (((n:Int)).tdiv 2)=(m:Int):=by
  have:((n:Int)).tdiv 2=(m:Int):=by rw [Int.tdiv_eq_ediv_of_nonneg (by omega)];omega
  rw [this];exact IntWalk.i64_in _ (by omega)
 have hw3:(n:Int) / 2=(m:Int):=by omega
 have hw4:IntKind.i64.wrap ((m:Int)+1)=(q:Int):=by rw [IntWalk.i64_in _ (by omega)];omega
 have HW6:=hid (show wrap64 (m:Int)=(m:Int) from IntWalk.wrap64_in _ (by omega));have HW7:=hid (show wrap64 ((m:Int)+1)=(q:Int) from by rw [IntWalk.wrap64_in _ (by omega)];omega);have hml:(m:Int)<(n:Int):=by omega
 have g2:¬ g=e2:=by omega
 have g2':¬ e2=g:=by omega
 have g4:¬ g=e4:=by omega
 have g4':¬ e4=g:=by omega
 have hml2:m<n:=by omega
 have HC:=hid hcut;have k0:wc.cell? ⟨w.heap.size,0,none⟩=some (.int .i64 2):=by rw [<- hk];exact hcut.own.2.2 0 _ rfl
 have KK:=hid (show ∀ (L R:Array Value) (W:World),g3e w w.heap.size e2 e4 (pgC p y) L R W->W.cell? ⟨w.heap.size,2,none⟩=some (.slice (some ⟨g,o,none⟩) n y.c2)/\W.cell? ⟨w.heap.size,3,none⟩=some (.slice (some ⟨g3,o3,none⟩) n3 y.c3)/\W.cell? ⟨g,o+m,none⟩=some (.string ks) from fun L R W hv=>⟨by
  have:=hv.own.2.2 2 _ rfl;rw [<- eA,<- hnn];exact this,by
  have:=hv.own.2.2 3 _ rfl;rw [<- eA3,<- hn3];exact this,(hv.below.cell (p:=⟨g,o+m,none⟩) hgl).trans hgm⟩)
 have EL:=hid (show pgV (g3d p) (g9l p y)=.agg #[.int .i64 2,.slice none 0 0,.slice (some ⟨g,o,none⟩) m y.c2,.slice (some ⟨g3,o3,none⟩) q y.c3,.slice none 0 0,.int .i64 0,.int .u64 0,.int .i64 0,.int .i64 0,.int .i64 0,.int .i64 0] from by
  rw [g3d,if_neg (by omega),g9l,if_neg (by omega),hmid,eA,eA3,hk];show Value.agg #[_,_,.slice _ (p.keys.take m).length _,.slice _ (p.kids.take (m+1)).length _,_,_,_,_,_,_,_]=_;rw [List.length_take,List.length_take,hnn,hn3,hq,show min m n=m by omega,show min q n3=q by omega];rfl)
 have ER:=hid (show pgV (g1t p) (g5p p y)=.agg #[.int .i64 2,.slice none 0 0,.slice (some ⟨g,o5,none⟩) r c5,.slice (some ⟨g3,o6,none⟩) r6 c6,.slice none 0 0,.int .i64 0,.int .u64 0,.int .i64 0,.int .i64 0,.int .i64 0,.int .i64 0] from by
  rw [g1t,if_neg (by omega),g5p,if_neg (by omega),hmid,hq,eA,eA3,u5',u6',hk];show Value.agg #[_,_,.slice _ (p.keys.drop q).length _,.slice _ (p.kids.drop q).length _,_,_,_,_,_,_,_]=_;rw [List.length_drop,List.length_drop,hnn,hn3,hrr,hr6,hc5,hc6];rfl)
 obtain ⟨t2,t3,-⟩:=KK.out _ _ _ hcut;have hkf:((2:Int)==1)=false:=by decide
 clear hC hcut HV0 eA eA3 hgl hgc hgm hks hm hmid hnn hn3 hrr hr6 hc5 hc6 hk hn hc hc3 hr hne hne3 hq ho5 ho6 u5' u6' hkk;go_wp2_with fail
 go_upto_region 7 with fail
 rw [HW6.out];have hw7:=HW7.out;clear hw2 hw3 HW6 HW7 hw4;go_cut [] from 7 (fun wx=>g3e w w.heap.size e2 e4 (pgC p y) #[.int .i64 2,.slice none 0 0,.slice (some ⟨g,o,none⟩) m y.c2,.slice none 0 0,.slice none 0 0,.int .i64 0,.int .u64 0,.int .i64 0,.int .i64 0,.int .i64 0,.int .i64 0] #[.int .i64 2,.slice none 0 0,.slice (some ⟨g,o5,none⟩) r c5,.slice none 0 0,.slice none 0 0,.int .i64 0,.int .u64 0,.int .i64 0,.int .i64 0,.int .i64 0,.int .i64 0] wx)
 case first =>
  have l1:wc.cell? ⟨e2,2,none⟩=some (.slice none 0 0):=HC.out.left.2.2 2 _ rfl;have m1:wc.cell? ⟨e4,2,none⟩=some (.slice none 0 0):=HC.out.right.2.2 2 _ rfl;have q2:=HC.out.left.2.1;have q4:=HC.out.right.2.1;have FIN:=hid (show g3e w w.heap.size e2 e4 (pgC p y) #[.int .i64 2,.slice none 0 0,.slice (some ⟨g,o,none⟩) m y.c2,.slice none 0 0,.slice none 0 0,.int .i64 0,.int .u64 0,.int .i64 0,.int .i64 0,.int .i64 0,.int .i64 0] #[.int .i64 2,.slice none 0 0,.slice (some ⟨g,o5,none⟩) r c5,.slice none 0 0,.slice none 0 0,.int .i64 0,.int .u64 0,.int .i64 0,.int .i64 0,.int .i64 0,.int .i64 0] _ from (HC.out.cell (Nat.le_refl _) hs1 hs2 2 2 (.slice (some ⟨g,o,none⟩) m y.c2) (.slice (some ⟨g,o5,none⟩) r c5)).quiet (Below.refl _ _).drew)
  clear HC;go_region
  go_wp2_with fail
  go_meet
  case rel=>exact FIN.out
 case rest =>
 rename World=>wd
 have HD:=hid hcut;obtain ⟨t2',t3',-⟩:=KK.out _ _ _ hcut;clear hcut HC k0 s1 s2 t2 t3;go_upto_region 8 with fail
 go_cut [] from 7 (fun wx=>g3e w w.heap.size e2 e4 (pgC p y) #[.int .i64 2,.slice none 0 0,.slice (some ⟨g,o,none⟩) m y.c2,.slice (some ⟨g3,o3,none⟩) q y.c3,.slice none 0 0,.int .i64 0,.int .u64 0,.int .i64 0,.int .i64 0,.int .i64 0,.int .i64 0] #[.int .i64 2,.slice none 0 0,.slice (some ⟨g,o5,none⟩) r c5,.slice (some ⟨g3,o6,none⟩) r6 c6,.slice none 0 0,.int .i64 0,.int .u64 0,.int .i64 0,.int .i64 0,.int .i64 0,.int .i64 0] wx)
 case first =>
  have l1:wd.cell? ⟨e2,3,none⟩=some (.slice none 0 0):=HD.out.left.2.2 3 _ rfl;have m1:wd.cell? ⟨e4,3,none⟩=some (.slice none 0 0):=HD.out.right.2.2 3 _ rfl;have q2:=HD.out.left.2.1;have q4:=HD.out.right.2.1;have FIN:=hid (show g3e w w.heap.size e2 e4 (pgC p y) #[.int .i64 2,.slice none 0 0,.slice (some ⟨g,o,none⟩) m y.c2,.slice (some ⟨g3,o3,none⟩) q y.c3,.slice none 0 0,.int .i64 0,.int .u64 0,.int .i64 0,.int .i64 0,.int .i64 0,.int .i64 0] #[.int .i64 2,.slice none 0 0,.slice (some ⟨g,o5,none⟩) r c5,.slice (some ⟨g3,o6,none⟩) r6 c6,.slice none 0 0,.int .i64 0,.int .u64 0,.int .i64 0,.int .i64 0,.int .i64 0,.int .i64 0] _ from (HD.out.cell (Nat.le_refl _) hs1 hs2 3 3 (.slice (some ⟨g3,o3,none⟩) q y.c3) (.slice (some ⟨g3,o6,none⟩) r6 c6)).quiet (Below.refl _ _).drew)
  clear HD;go_region
  go_wp2_with fail
  go_meet
  case rel=>exact FIN.out
 case rest =>
 rename World=>we
 have HE:=hid hcut;obtain ⟨x2,-,x4⟩:=KK.out _ _ _ hcut;clear hcut HD s3 s4 t2' t3';go_upto_region 9 with fail
 go_cut [3] from 7 (fun s3 wx=>s3=.string ks/\g3e w w.heap.size e2 e4 (pgC p y) #[.int .i64 2,.slice none 0 0,.slice (some ⟨g,o,none⟩) m y.c2,.slice (some ⟨g3,o3,none⟩) q y.c3,.slice none 0 0,.int .i64 0,.int .u64 0,.int .i64 0,.int .i64 0,.int .i64 0,.int .i64 0] #[.int .i64 2,.slice none 0 0,.slice (some ⟨g,o5,none⟩) r c5,.slice (some ⟨g3,o6,none⟩) r6 c6,.slice none 0 0,.int .i64 0,.int .u64 0,.int .i64 0,.int .i64 0,.int .i64 0,.int .i64 0] wx)
 case first =>
  have l0:we.cell? ⟨e2,0,none⟩=some (.int .i64 2):=HE.out.left.2.2 0 _ rfl;have l1:we.cell? ⟨e2,1,none⟩=some (.slice none 0 0):=HE.out.left.2.2 1 _ rfl;have l2:we.cell? ⟨e2,2,none⟩=some (.slice (some ⟨g,o,none⟩) m y.c2):=HE.out.left.2.2 2 _ rfl;have l3:we.cell? ⟨e2,3,none⟩=some (.slice (some ⟨g3,o3,none⟩) q y.c3):=HE.out.left.2.2 3 _ rfl;have l4:we.cell? ⟨e2,4,none⟩=some (.slice none 0 0):=HE.out.left.2.2 4 _ rfl
  have l5:we.cell? ⟨e2,5,none⟩=some (.int .i64 0):=HE.out.left.2.2 5 _ rfl;have l6:we.cell? ⟨e2,6,none⟩=some (.int .u64 0):=HE.out.left.2.2 6 _ rfl;have l7:we.cell? ⟨e2,7,none⟩=some (.int .i64 0):=HE.out.left.2.2 7 _ rfl;have l8:we.cell? ⟨e2,8,none⟩=some (.int .i64 0):=HE.out.left.2.2 8 _ rfl;have l9:we.cell? ⟨e2,9,none⟩=some (.int .i64 0):=HE.out.left.2.2 9 _ rfl;have l10:we.cell? ⟨e2,10,none⟩=some (.int .i64 0):=HE.out.left.2.2 10 _ rfl
  have m0:we.cell? ⟨e4,0,none⟩=some (.int .i64 2):=HE.out.right.2.2 0 _ rfl;have m1:we.cell? ⟨e4,1,none⟩=some (.slice none 0 0):=HE.out.right.2.2 1 _ rfl;have m2:we.cell? ⟨e4,2,none⟩=some (.slice (some ⟨g,o5,none⟩) r c5):=HE.out.right.2.2 2 _ rfl;have m3:we.cell? ⟨e4,3,none⟩=some (.slice (some ⟨g3,o6,none⟩) r6 c6):=HE.out.right.2.2 3 _ rfl;have m4:we.cell? ⟨e4,4,none⟩=some (.slice none 0 0):=HE.out.right.2.2 4 _ rfl
  have m5:we.cell? ⟨e4,5,none⟩=some (.int .i64 0):=HE.out.right.2.2 5 _ rfl;have m6:we.cell? ⟨e4,6,none⟩=some (.int .u64 0):=HE.out.right.2.2 6 _ rfl;have m7:we.cell? ⟨e4,7,none⟩=some (.int .i64 0):=HE.out.right.2.2 7 _ rfl;have m8:we.cell? ⟨e4,8,none⟩=some (.int .i64 0):=HE.out.right.2.2 8 _ rfl;have m9:we.cell? ⟨e4,9,none⟩=some (.int .i64 0):=HE.out.right.2.2 9 _ rfl;have m10:we.cell? ⟨e4,10,none⟩=some (.int .i64 0):=HE.out.right.2.2 10 _ rfl
  have q2:=HE.out.left.2.1;have q4:=HE.out.right.2.1;have FIN:=hid (show g3e w w.heap.size e2 e4 (pgC p y) #[.int .i64 2,.slice none 0 0,.slice (some ⟨g,o,none⟩) m y.c2,.slice (some ⟨g3,o3,none⟩) q y.c3,.slice none 0 0,.int .i64 0,.int .u64 0,.int .i64 0,.int .i64 0,.int .i64 0,.int .i64 0] #[.int .i64 2,.slice none 0 0,.slice (some ⟨g,o5,none⟩) r c5,.slice (some ⟨g3,o6,none⟩) r6 c6,.slice none 0 0,.int .i64 0,.int .u64 0,.int .i64 0,.int .i64 0,.int .i64 0,.int .i64 0] _ from (HE.out.both (L':=#[.int .i64 2,.slice none 0 0,.slice (some ⟨g,o,none⟩) m y.c2,.slice (some ⟨g3,o3,none⟩) q y.c3,.slice none 0 0,.int .i64 0,.int .u64 0,.int .i64 0,.int .i64 0,.int .i64 0,.int .i64 0]) (R':=#[.int .i64 2,.slice none 0 0,.slice (some ⟨g,o5,none⟩) r c5,.slice (some ⟨g3,o6,none⟩) r6 c6,.slice none 0 0,.int .i64 0,.int .u64 0,.int .i64 0,.int .i64 0,.int .i64 0,.int .i64 0]) (Nat.le_refl _) hs1 hs2 rfl rfl).quiet (Below.refl _ _).drew)
  clear HE KK;go_region
  go_wp2_with fail
  go_meet
  case rel=>exact ⟨rfl,FIN.out⟩
 case rest =>
 obtain ⟨rfl,hv⟩:=hcut
 rename World=>wf
 have VL:=hid (show (loadVar 103 ⟨e2,0,none⟩).run Tryz.prog wf=.ok (pgV (g3d p) (g9l p y)) wf from by rw [EL.out];exact h7o hv.left Tryz.underlying103 rfl g5k rfl);have VR:=hid (show (loadVar 103 ⟨e4,0,none⟩).run Tryz.prog wf=.ok (pgV (g1t p) (g5p p y)) wf from by rw [ER.out];exact h7o hv.right Tryz.underlying103 rfl g5k rfl);have FIN:=hid hv.below;clear hv HE x2 x4;go_wp2_with fail
 refine bodyPost_ret (h7q rfl rfl rfl VL.out VR.out) rfl ?_;exact ⟨by rw [HKEY.out];rfl,FIN.out⟩
end Go.Proofs.YtglejnkoojpelaaGreat.Tree
