import Derived.Test.YtglejnkoojpelaaGreatMD1
import Derived.Test.YtglejnkoojpelaaGreatMQ2
import Derived.Test.YtglejnkoojpelaaGreatMD2
import Derived.Test.YtglejnkoojpelaaGreatMP7
import Derived.Deep.MidRow
import Derived.Lib.Walk
import Derived.Deep.RegionHeld3
set_option maxRecDepth 100000
set_option maxHeartbeats 32000000
namespace Go.Proofs.YtglejnkoojpelaaGreat.Store
open Go.RowKit Go.Maps Disk
open Lib (hid)
abbrev nothing:Value:=.agg #[]
abbrev ud:DataW Unit:=.lit (.string [])
def k2q:Value->Option (DataW Unit×List MemPlace)
 | .agg cs=>if cs.size=0 then some (ud,[]) else none
 | _=>none
theorem j5i:k2q nothing=some (ud,[]):=rfl
theorem k3b {v:Value} {z:DataW Unit×List MemPlace} (h:k2q v=some z):v=nothing/\z=(ud,[]):=by
 unfold k2q at h
 split at h
 ·rename_i cs
  split at h
  ·rename_i hc
   obtain rfl:cs=#[]:=Array.eq_empty_of_size_eq_zero hc;cases h;exact ⟨rfl,rfl⟩
  ·cases h
 ·cases h
def fup (f:Int->Bool) (n:Int) (v:Bool):Int->Bool:=fun x=>if x=n then v else f x
theorem j5d (f:Int->Bool) (n:Int) (v:Bool):fup f n v n=v:=by simp [fup]
theorem j1v (f:Int->Bool) {n x:Int} (v:Bool) (h:x≠n):fup f n v x=f x:=by simp [fup,h]
structure FMap (w:World) (b N:Nat) (f:Int->Bool):Prop where
 own:∃ D n,w.ownsMap Tryz.prog 3 k2q b n D/\(∀ x,Maps.has D (keyL x)=f x)/\∀ kl,Maps.has D kl=true->∃ x:Int,kl=keyL x/\0<=x/\x<N
theorem FMap.made (w:World) (N:Nat):FMap (w.alloc (.map #[] 0)) w.heap.size N (fun _=>false) :=
 ⟨⟨.map [],0,World.ownsMap_made w _ _ _,fun x=>by simp [Maps.has],fun kl h=>by simp [Maps.has] at h⟩⟩
theorem FMap.lt {w:World} {b N:Nat} {f:Int->Bool} (h:FMap w b N f):b<w.heap.size:=by
 obtain ⟨D,n,h1,_⟩:=h.own;exact h1.lt
theorem FMap.of_block {w w':World} {b N:Nat} {f:Int->Bool} (h:FMap w b N f) (e:w'.heap[b]?=w.heap[b]?):FMap w' b N f:=by
 obtain ⟨D,n,⟨es,c,hb,r⟩,h2⟩:=h.own;exact ⟨⟨D,n,⟨es,c,e.trans hb,r⟩,h2⟩⟩
theorem FMap.isMap {w:World} {b N:Nat} {f:Int->Bool} (h:FMap w b N f):∃ es c,w.heap[b]?=some (.map es c):=by
 obtain ⟨D,n,⟨es,c,hb,_⟩,_⟩:=h.own;exact ⟨es,c,hb⟩
theorem FMap.lookup_ok {w:World} {b N:Nat} {f:Int->Bool} (h:FMap w b N f) (x:Int) (h0:-9223372036854775808<=x) (h1:x<=9223372036854775807) :
 (Instr.lookup 106 (.map (some b)) (.int .i64 x) true).run Tryz.prog w=.ok (.tuple #[nothing,.bool (f x)]) w:=by
 obtain ⟨D,n,ho,hf,_⟩:=h.own;have hz:(zeroValue 145).run Tryz.prog w=.ok nothing w:=by rw [Tryz.zeroValue145]
 obtain ⟨v,ps,hrun,hv⟩:=ho.look_ok g3t Tryz.underlying106 hz j5i (keyWf h0 h1);obtain ⟨rfl,-⟩:=k3b hv;rw [<- hf];exact hrun
theorem FMap.size {w:World} {b N:Nat} {f:Int->Bool} (h:FMap w b N f):∃ D,w.ownsMap Tryz.prog 3 k2q b N D/\Maps.size D<=N/\(∀ x,Maps.has D (keyL x)=f x)/\∀ kl,Maps.has D kl=true->∃ x:Int,kl=keyL x/\0<=x/\x<N:=by
 obtain ⟨D,n,ho,hf,hk⟩:=h.own;obtain ⟨es,rfl,hp,_⟩:=ho.entries g3t;have hsz:es.length<=N:=by
  have hx:∀ p∈es,∃ x:Int,p.1=keyL x/\0<=x/\x<N:=fun p hp=>by
   have h2:Maps.has (DataW.map es) p.1=true:=List.any_eq_true.2 ⟨p,hp,WideAt.sameKey_self (by
    obtain ⟨es',e,_,hk'⟩:=ho.entries g3t
    injection e with e
    exact hk' p (by rw [<- e];exact hp))⟩
   exact hk _ h2
  have:=Disk.few N (es.map fun p=>match p.1 with | .int _ x=>x.toNat | _=>0) ?_ ?_
  ·simpa using this
  ·rw [List.Nodup,List.pairwise_map];refine List.Pairwise.imp_of_mem (fun {p q} hp hq hne=>?_) hp;obtain ⟨x,e1,_,_⟩:=hx p hp;obtain ⟨y,e2,_,_⟩:=hx q hq;rw [e1,e2] at hne ⊢
   exact fun e => hne (by have : x = y := by simp at e; omega
                          rw [this])
  ·intro k hkm;obtain ⟨p,hp,rfl⟩:=List.mem_map.1 hkm;obtain ⟨x,e1,_,_⟩:=hx p hp;rw [e1];simp;omega
 refine ⟨.map es,?_,hsz,hf,hk⟩;obtain ⟨es',c,hb,F,hs,hD⟩:=ho;refine ⟨es',c,hb,F,?_,hD⟩
 injection hD with hD
 rw [hD,length_sorted] at hsz
 simpa using hsz
theorem FMap.store {w:World} {b N:Nat} {f:Int->Bool} (h:FMap w b N f) (hN:N<=4096) (x:Int) (h0:0<=x) (h1:x<N) :
 ∃ w',(Instr.mapUpdate 106 (.map (some b)) (.int .i64 x) nothing).run Tryz.prog w=.ok () w'/\FMap w' b N (fup f x true)/\w.grownBy w' (some b):=by
 obtain ⟨D,ho,_,hf,hk⟩:=h.size;obtain ⟨w',hrun,ho',hg⟩:=ho.update g3t Tryz.underlying106 (by unfold maxLen;omega) (keyWf (x:=x) (by omega) (by omega)) j5i;refine ⟨w',hrun,⟨⟨_,_,ho',fun y=>?_,fun kl hkl=>?_⟩⟩,hg⟩
 ·by_cases e:y=x
  ·subst e;rw [j5d,Maps.has_put_same ho.isMap (isKey y)]
  ·rw [j1v _ _ e,<- hf,Maps.has_put_other (g9t e)]
 ·by_cases e:kl=keyL x
  ·exact ⟨x,e,h0,h1⟩
  ·rw [Maps.has_put_other e] at hkl;exact hk kl hkl
theorem FMap.drop {w:World} {b N:Nat} {f:Int->Bool} (h:FMap w b N f) (x:Int) (h0:-9223372036854775808<=x) (h1:x<=9223372036854775807) (ty:TypeId) :
 ∃ w',(Builtin.delete_ #[106,3] ty #[.map (some b),.int .i64 x]).run Tryz.prog w=.ok (.tuple #[]) w'/\FMap w' b N (fup f x false)/\w.grownBy w' (some b):=by
 obtain ⟨D,n,ho,hf,hk⟩:=h.own;obtain ⟨w',hrun,ho',hg⟩:=ho.drop g3t Tryz.underlying106 (keyWf (x:=x) h0 h1) ty;refine ⟨w',hrun,⟨⟨_,_,ho',fun y=>?_,fun kl hkl=>?_⟩⟩,hg.grown⟩
 ·by_cases e:y=x
  ·subst e;rw [j5d,Maps.has_del_same]
  ·rw [j1v _ _ e,<- hf,Maps.has_del_other (g9t e)]
 ·by_cases e:kl=keyL x
  ·subst e;rw [Maps.has_del_same] at hkl;cases hkl
  ·rw [Maps.has_del_other e] at hkl;exact hk kl hkl
theorem FMap.clear {w:World} {b N:Nat} {f:Int->Bool} (h:FMap w b N f) (ty:TypeId) :
 ∃ w',(Builtin.clear_ #[106] ty #[.map (some b)]).run Tryz.prog w=.ok (.tuple #[]) w'/\FMap w' b N (fun _=>false)/\w.grownBy w' (some b):=by
 obtain ⟨es,c,hb⟩:=h.isMap;refine ⟨ChangeMaps.setBlock w b (.map #[] c),?_,⟨⟨.map [],0,⟨#[],c,ChangeMaps.heap_setBlock_same hb _,⟨by simp,MapKept.stamped_empty c,by simp⟩,Nat.le_refl _,rfl⟩,fun x=>by simp [Maps.has],fun kl h=>by simp [Maps.has] at h⟩⟩,
  ⟨rfl,rfl,rfl,by simp [ChangeMaps.setBlock],fun i _ hi=>ChangeMaps.heap_setBlock_other hb _ (fun e=>hi (by rw [e]))⟩⟩
 simp [Builtin.clear_,run_underlying Tryz.underlying106,MapKept.run_getObj_map hb,MapKept.run_setObj_map _ hb,Result.andThen,ChangeMaps.setBlock]
open Go.RowKit Gen
open Pool
theorem k1i {x:Int} {l:List Int} (h:Rise (x :: l)):Rise l:=(List.pairwise_cons.1 h).2
theorem h8k:∀ (l:List Int) (lo hi:Int),lo<=hi->Rise l->(∀ x∈l,lo<=x/\x<hi)->(l.length:Int)<=hi-lo
 | [],lo,hi,h,_,_=>by simp;omega
 | x :: l,lo,hi,h,hr,hx=>by
  have h1:=hx x (List.mem_cons_self ..);have hr2:=List.pairwise_cons.1 hr;have:=h8k l (x+1) hi (by omega) hr2.2 (fun y hy=>⟨by have:=hr2.1 y hy;omega,(hx y (List.mem_cons_of_mem _ hy)).2⟩);simp only [List.length_cons,Int.natCast_add,Int.cast_ofNat_Int];omega
theorem k4c {c:Po} {most:Int} (h:g0g c most) (h5:most<=4096):c.free.length<=4094/\c.limbo.length<=4094:=by
 have h1:=h.low;have h2:=h.top;have h3:=h8k c.free 2 c.high h1 h.free h.f;have h4:=h8k c.limbo 2 c.high h1 h.limbo h.l;omega
theorem h2p {p:Po} {most:Int} (h:g0g p most) (he:(g0k p most).2.2=0):g0g (g0k p most).1 most:=by
 unfold g0k at *;rcases hfr:p.free with _ | ⟨x,fs⟩
 ·rw [hfr] at he;simp only at he ⊢
  by_cases hm:most<=p.high
  ·rw [if_pos hm] at he;simp at he
  ·rw [if_neg hm];have h1:=h.low;exact ⟨by show 2<=p.high+1;omega,by show p.high+1<=most;omega,List.Pairwise.nil,h.limbo,fun x hx=>(by cases hx),fun x hx=>⟨(h.l x hx).1,by have:=(h.l x hx).2;show x<p.high+1;omega⟩,fun x _ hx=>(by cases hx)⟩
 ·simp only;exact ⟨h.low,h.top,k1i (by rw [<- hfr];exact h.free),h.limbo,fun y hy=>h.f y (by rw [hfr];exact List.mem_cons_of_mem _ hy),h.l,fun y hy hz=>h.apart y hy (by rw [hfr];exact List.mem_cons_of_mem _ hz)⟩
theorem k3o {p:Po} {most n:Int} (h:g0g p most) (he:(g1g p n).2=0):g0g (g1g p n).1 most/\May p n:=by
 unfold g1g at *
 by_cases hm:May p n
 ·rw [if_pos hm];refine ⟨⟨h.low,h.top,h.free,h0z _ _ h.limbo hm.2.2,h.f,fun x hx=>?_,fun x hx=>?_⟩,hm⟩
  ·rcases (g3u p.limbo n x).1 hx with rfl | hx
   ·exact hm.1
   ·exact h.l x hx
  ·rcases (g3u p.limbo n x).1 hx with rfl | hx
   ·exact hm.2.1
   ·exact h.apart x hx
 ·rw [if_neg hm] at he;simp at he
theorem k2g {p:Po} {most n:Int} (h:g0g p most) (he:(g1k p n).2=0):g0g (g1k p n).1 most/\May p n:=by
 unfold g1k at *
 by_cases hm:May p n
 ·rw [if_pos hm];refine ⟨⟨h.low,h.top,h0z _ _ h.free hm.2.1,h.limbo,fun x hx=>?_,h.l,fun x hx hf=>?_⟩,hm⟩
  ·rcases (g3u p.free n x).1 hx with rfl | hx
   ·exact hm.1
   ·exact h.f x hx
  ·rcases (g3u p.free n x).1 hf with rfl | hf
   ·exact hm.2.2 hx
   ·exact h.apart x hx hf
 ·rw [if_neg hm] at he;simp at he
theorem h9n {p:Po} {most:Int} (h:g0g p most):g0g {high:=p.high,free:=layAll p.free p.limbo} most:=by
 have h2:=(h7z p most).1 h;exact ⟨h.low,h.top,h2.2.2.2.1,List.Pairwise.nil,h2.2.2.2.2,fun x hx=>(by cases hx),fun x hx=>(by cases hx)⟩
theorem h0k {p:Po} {N:Int} (h:g0g p N) (he:(g0k p N).2.2=0) :
 2<=(g0k p N).2.1/\(g0k p N).2.1<N/\((g0k p N).2.1∈p.free\/(g0k p N).2.1=p.high)/\(g0k p N).2.1∉(g0k p N).1.free/\(g0k p N).2.1∉p.limbo/\(g0k p N).1.limbo=p.limbo/\p.high<=(g0k p N).1.high/\(g0k p N).2.1<(g0k p N).1.high/\∀ x,x∈(g0k p N).1.free->x∈p.free:=by
 unfold g0k at *;rcases hfr:p.free with _ | ⟨x,fs⟩
 ·rw [hfr] at he;simp only at he ⊢
  by_cases hm:N<=p.high
  ·rw [if_pos hm] at he;simp at he
  ·rw [if_neg hm];refine ⟨h.low,by show p.high<N;omega,.inr rfl,(fun hx=>by cases hx),fun hx=>?_,rfl,by show p.high<=p.high+1;omega,by show p.high<p.high+1;omega,fun x hx=>by cases hx⟩;have:p.high<p.high:=(h.l _ hx).2;omega
 ·show 2<=x/\x<N/\(x∈x :: fs\/x=p.high)/\x∉fs/\x∉p.limbo/\p.limbo=p.limbo/\p.high<=p.high/\x<p.high/\∀ y,y∈fs->y∈x :: fs;have h1:=h.f x (by rw [hfr];exact List.mem_cons_self ..);have h2:=h.top;have h3:=List.pairwise_cons.1 (hfr ▸ h.free);exact ⟨h1.1,by omega,.inl (List.mem_cons_self ..),fun hx=>by have:=h3.1 x hx;omega,fun hx=>h.apart x hx (by rw [hfr];exact List.mem_cons_self ..),rfl,Int.le_refl _,h1.2,fun y hy=>List.mem_cons_of_mem _ hy⟩
open Disk (St Dev Mod ptr)
open Page (Pg Lay PgOk g0c pgC pgV Enc g0v)
open Pool (Po NAt PoAt La poC poV numV At g0k g1g g1k g2m g0g)
structure T where
 sup:Pg
 own:List Int
 base:Po
 pool:Po
 fresh:Int->Bool
structure Blk where
 ss:Nat
 sb:Nat
 bl:Nat
 bc:Nat
 bf:Nat
 xs:List Nat:=[]
abbrev Blk.all (B:Blk):List Nat:=[B.ss,B.sb,B.bl,B.bc,B.bf]
def Blk.off (B:Blk):List Nat:=B.all++B.xs
theorem Blk.in_off {B:Blk}:∀ x∈B.all,x∈B.off:=fun _ h=>List.mem_append_left _ h
structure Lys where
 s:Lay:={}
 o:Option Addr:=none
 oc:Nat:=0
 b:La:={}
 p:La:={}
abbrev comC (sup:Pg) (own:List Int) (base:Po) (a:Lys):Array Value:=#[.int .i64 sup.kind,.slice a.s.A1 sup.pairs.length a.s.c1,.slice a.s.A2 sup.keys.length a.s.c2,.slice a.s.A3 sup.kids.length a.s.c3,.slice a.s.A4 sup.pages.length a.s.c4,.int .i64 sup.next,.int .u64 (sup.epoch:Int),.int .i64 sup.root,.int .i64 sup.depth,.int .i64 sup.count,.int .i64 sup.high,
 .slice a.o own.length a.oc,.int .i64 base.high,.slice a.b.A1 base.free.length a.b.c1,.slice a.b.A2 base.limbo.length a.b.c2]
abbrev stoC (t:T) (B:Blk) (a:Lys):Array Value:=#[ptr B.sb,.int .i64 t.sup.kind,.slice a.s.A1 t.sup.pairs.length a.s.c1,.slice a.s.A2 t.sup.keys.length a.s.c2,.slice a.s.A3 t.sup.kids.length a.s.c3,.slice a.s.A4 t.sup.pages.length a.s.c4,.int .i64 t.sup.next,.int .u64 (t.sup.epoch:Int),.int .i64 t.sup.root,.int .i64 t.sup.depth,.int .i64 t.sup.count,.int .i64 t.sup.high,
 .slice a.o t.own.length a.oc,.int .i64 t.base.high,.slice a.b.A1 t.base.free.length a.b.c1,.slice a.b.A2 t.base.limbo.length a.b.c2,.int .i64 t.pool.high,.slice a.p.A1 t.pool.free.length a.p.c1,.slice a.p.A2 t.pool.limbo.length a.p.c2,.map (some B.bf)]
def Off (S:List Nat) (A:Option Addr):Prop:=∀ a,A=some a->a.block∉S
def OffP (S:List Nat) (c:La):Prop:=Off S c.A1/\Off S c.A2
def OffQ (S:List Nat) (p:Po) (c:La):Prop:=(p.free≠[]->Off S c.A1)/\(p.limbo≠[]->Off S c.A2)
theorem Off.none (S:List Nat):Off S none:=fun _ e=>by cases e
structure Bare (p:Pg):Prop where
 pairs:p.pairs=[]
 keys:p.keys=[]
 kids:p.kids=[]
 pages:p.pages=[]
theorem Bare.rows {p:Pg} (h:Bare p) (w:World) (a:Lay):g0c w p a:=Page.g8q w p a h.pairs h.keys h.kids h.pages
structure Sto (w:World) (B:Blk) (d:St) (t:T) (a:Lys):Prop where
 box:At w B.ss (stoC t B a)
 dev:Dev w B.sb B.bl B.bc d
 fr:FMap w B.bf d.n t.fresh
 n1:B.ss∉[B.sb,B.bl,B.bc,B.bf]
 n2:B.bf∉[B.sb,B.bl,B.bc]
 own:NAt w a.o t.own.length a.oc t.own
 base:PoAt w t.base a.b
 pool:PoAt w t.pool a.p
 ao:t.own≠[]->Off B.off a.o
 ab:OffQ B.off t.base a.b
 ap:OffQ B.off t.pool a.p
 xl:∀ x∈B.xs,x<w.heap.size
 ok:PgOk t.sup
 bare:Bare t.sup
 bk:g0g t.base d.n
 pk:g0g t.pool d.n
def Has (w:World) (B:Blk) (d:St) (t:T):Prop:=∃ a,Sto w B d t a
theorem g4n {w w':World} {S:List Nat} {A:Option Addr} {n c:Nat} {l:List Int} (h:NAt w A n c l) (m:Mod S w w') (hA:l≠[]->Off S A):NAt w' A n c l :=
 ⟨h.len,h.cap,h.max,h.nil,fun hne=>by
  obtain ⟨b,o,e,hlt,hc⟩:=h.row hne;exact ⟨b,o,e,Nat.lt_of_lt_of_le hlt m.size,fun j hj=>(m.cell (p:=⟨b,o+j,none⟩) hlt (hA hne ⟨b,o,none⟩ e)).trans (hc j hj)⟩⟩
theorem h3x {w w':World} {S:List Nat} {A:Option Addr} {n c:Nat} {l:List Int} (h:NAt w A n c l) (m:Mod S w w') (hA:Off S A):NAt w' A n c l :=
 ⟨h.len,h.cap,h.max,h.nil,fun hne=>by
  obtain ⟨b,o,e,hlt,hc⟩:=h.row hne;exact ⟨b,o,e,Nat.lt_of_lt_of_le hlt m.size,fun j hj=>(m.cell (p:=⟨b,o+j,none⟩) hlt (hA ⟨b,o,none⟩ e)).trans (hc j hj)⟩⟩
theorem p2w {w w':World} {S:List Nat} {p:Po} {c:La} (h:PoAt w p c) (m:Mod S w w') (hA:OffP S c):PoAt w' p c:=⟨h3x h.f m hA.1,h3x h.l m hA.2⟩
theorem h2r {w w':World} {S:List Nat} {p:Po} {c:La} (h:PoAt w p c) (m:Mod S w w') (hA:OffQ S p c):PoAt w' p c:=⟨g4n h.f m hA.1,g4n h.l m hA.2⟩
theorem g0l {w w':World} {S:List Nat} {b:Nat} {C:Array Value} (h:At w b C) (m:Mod S w w') (hb:b∉S):At w' b C :=
 ⟨Nat.lt_of_lt_of_le h.1 m.size,fun j=>(World.frozen?_of_block (a:=⟨b,j,none⟩) (m.block b h.1 hb)).trans (h.2.1 j),fun j v hv=>(m.cell (p:=⟨b,j,none⟩) h.1 hb).trans (h.2.2 j v hv)⟩
theorem Off.mono {S T:List Nat} {A:Option Addr} (h:Off T A) (hs:∀ x∈S,x∈T):Off S A:=fun a e hx=>h a e (hs _ hx)
theorem OffQ.mono {S T:List Nat} {p:Po} {A:La} (h:OffQ T p A) (hs:∀ x∈S,x∈T):OffQ S p A:=⟨fun e=>(h.1 e).mono hs,fun e=>(h.2 e).mono hs⟩
theorem Sto.below {w w':World} {B:Blk} {d:St} {t:T} {a:Lys} (h:Sto w B d t a) (b:Below w.heap.size w w'):Sto w' B d t a :=
 {box:=h.box.below b h.box.1,dev:=h.dev.below b,fr:=h.fr.of_block (b.block _ h.fr.lt),n1:=h.n1,n2:=h.n2,own:=h.own.below b,base:=h.base.below b,pool:=h.pool.below b,ao:=h.ao,ab:=h.ab,ap:=h.ap,xl:=fun x hx=>Nat.lt_of_lt_of_le (h.xl x hx) b.size,ok:=h.ok,bare:=h.bare,bk:=h.bk,pk:=h.pk}
theorem Sto.alloc {w:World} {B:Blk} {d:St} {t:T} {a:Lys} (h:Sto w B d t a) (o:Obj):Sto (w.alloc o) B d t a:=h.below ((Below.refl _ _).alloc (Nat.le_refl _) o)
theorem Sto.lt {w:World} {B:Blk} {d:St} {t:T} {a:Lys} (h:Sto w B d t a):∀ x∈B.all,x<w.heap.size:=by
 intro x hx;simp only [Blk.all,List.mem_cons,List.not_mem_nil,or_false] at hx;rcases hx with rfl | rfl | rfl | rfl | rfl
 ·exact h.box.1
 ·exact h.dev.lt
 ·exact h.dev.last.lt
 ·exact h.dev.cache.lt
 ·exact h.fr.lt
theorem Sto.lto {w:World} {B:Blk} {d:St} {t:T} {a:Lys} (h:Sto w B d t a):∀ x∈B.off,x<w.heap.size:=fun x hx=>(List.mem_append.1 hx).elim (h.lt x) (h.xl x)
theorem Sto.off {w:World} {B:Blk} {d:St} {t:T} {a:Lys} (h:Sto w B d t a) {n:Nat} (hn:w.heap.size<=n) {A:Option Addr} (hA:∀ x,A=some x->n<=x.block):Off B.off A:=fun x e hx=>by
 have:=h.lto _ hx;have:=hA x e;omega
theorem Sto.offP {w:World} {B:Blk} {d:St} {t:T} {a:Lys} (h:Sto w B d t a) {n:Nat} (hn:w.heap.size<=n) {c:La} (hc:g2m n c):OffP B.off c:=⟨h.off hn hc.1,h.off hn hc.2⟩
theorem OffP.q {S:List Nat} {c:La} (h:OffP S c) {p:Po}:OffQ S p c:=⟨fun _=>h.1,fun _=>h.2⟩
theorem Sto.withDev {w w':World} {B:Blk} {d d':St} {t:T} {a:Lys} (h:Sto w B d t a) (hd:Dev w' B.sb B.bl B.bc d') (m:Mod [B.sb,B.bl,B.bc] w w') (hn:d'.n=d.n):Sto w' B d' t a:=by
 have s:∀ x∈[B.sb,B.bl,B.bc],x∈B.all:=by
  intro x hx;simp only [Blk.all,List.mem_cons,List.not_mem_nil,or_false] at hx ⊢;rcases hx with h | h | h <;> simp [h]
 have s':∀ x∈[B.sb,B.bl,B.bc],x∈B.off:=fun x hx=>B.in_off x (s x hx)
 have n1:B.ss∉[B.sb,B.bl,B.bc]:=fun e=>h.n1 (by
  simp only [List.mem_cons,List.not_mem_nil,or_false] at e ⊢;rcases e with h | h | h <;> simp [h])
 exact {box:=g0l h.box m n1,dev:=hd,fr:=hn ▸ h.fr.of_block (m.block _ h.fr.lt h.n2),n1:=h.n1,n2:=h.n2,own:=g4n h.own m (fun e=>(h.ao e).mono s'),base:=h2r h.base m (h.ab.mono s'),pool:=h2r h.pool m (h.ap.mono s'),ao:=h.ao,ab:=h.ab,ap:=h.ap,xl:=fun x hx=>Nat.lt_of_lt_of_le (h.xl x hx) m.size,ok:=h.ok,bare:=h.bare,bk:=hn ▸ h.bk,pk:=hn ▸ h.pk}
theorem g0z (w:World) (b j:Nat) (v:Value):Mod [b] w (w.setCell ⟨b,j,none⟩ v):=(Mod.refl [b] w).setCell ⟨b,j,none⟩ v (.inl (by simp))
theorem Sto.withBox {w w':World} {B:Blk} {d:St} {t t':T} {a a':Lys} (h:Sto w B d t a) (m:Mod [B.ss] w w') (hb:At w' B.ss (stoC t' B a')) (hf:t'.fresh=t.fresh)
 (ho:NAt w a'.o t'.own.length a'.oc t'.own) (hbs:PoAt w t'.base a'.b) (hp:PoAt w t'.pool a'.p) (ao:t'.own≠[]->Off B.off a'.o) (ab:OffQ B.off t'.base a'.b) (ap:OffQ B.off t'.pool a'.p) (ok:PgOk t'.sup) (br:Bare t'.sup) (bk:g0g t'.base d.n) (pk:g0g t'.pool d.n):Sto w' B d t' a':=by
 have s:∀ x∈[B.ss],x∈B.off:=fun x hx=>B.in_off x ((by simp [Blk.all]:∀ x∈[B.ss],x∈B.all) x hx)
 have e1:∀ x,x≠B.ss->x∉[B.ss]:=fun x hx=>by simpa using hx
 have k:=h.n1;simp only [List.mem_cons,List.not_mem_nil,or_false,not_or] at k;exact {box:=hb,dev:=h.dev.kept m (e1 _ (Ne.symm k.1)) (e1 _ (Ne.symm k.2.1)) (e1 _ (Ne.symm k.2.2.1)),fr:=hf ▸ h.fr.of_block (m.block _ h.fr.lt (e1 _ (Ne.symm k.2.2.2))),n1:=h.n1,n2:=h.n2,own:=g4n ho m (fun e=>(ao e).mono s),base:=h2r hbs m (ab.mono s),pool:=h2r hp m (ap.mono s),ao:=ao,ab:=ab,ap:=ap,xl:=fun x hx=>Nat.lt_of_lt_of_le (h.xl x hx) m.size,ok:=ok,bare:=br,bk:=bk,pk:=pk}
def setP (w:World) (b:Nat) (v0 v1 v2:Value):World:=((w.setCell ⟨b,16,none⟩ v0).setCell ⟨b,17,none⟩ v1).setCell ⟨b,18,none⟩ v2
theorem j7i (w:World) (b:Nat) (v0 v1 v2:Value):Mod [b] w (setP w b v0 v1 v2):=((g0z w b 16 v0).trans (g0z _ b 17 v1)).trans (g0z _ b 18 v2)
theorem Sto.setPool {w:World} {B:Blk} {d:St} {t:T} {a:Lys} (h:Sto w B d t a) {q:Po} {c:La} (hq:PoAt w q c) (hc:OffQ B.off q c) (hk:g0g q d.n) :
 Sto (setP w B.ss (.int .i64 q.high) (.slice c.A1 q.free.length c.c1) (.slice c.A2 q.limbo.length c.c2)) B d {t with pool:=q} {a with p:=c}:=by
 have h1:=((h.box.set 16 (.int .i64 q.high) (by simp)).set 17 (.slice c.A1 q.free.length c.c1) (by simp)).set 18 (.slice c.A2 q.limbo.length c.c2) (by simp);exact h.withBox (t':={t with pool:=q}) (a':={a with p:=c}) (j7i _ _ _ _ _) h1 rfl h.own h.base hq h.ao h.ab hc h.ok h.bare h.bk hk
theorem Sto.withFresh {w w':World} {B:Blk} {d:St} {t:T} {a:Lys} (h:Sto w B d t a) {f:Int->Bool} (hf:FMap w' B.bf d.n f) (g:w.grownBy w' (some B.bf)):Sto w' B d {t with fresh:=f} a:=by
 have m:Mod [B.bf] w w':=(Mod.refl _ w).grown g (fun k e=>.inl (by cases e;simp));have s:∀ x∈[B.bf],x∈B.off:=fun x hx=>B.in_off x ((by simp [Blk.all]:∀ x∈[B.bf],x∈B.all) x hx)
 have e1:∀ x,x≠B.bf->x∉[B.bf]:=fun x hx=>by simpa using hx
 have k:=h.n1;have k2:=h.n2;simp only [List.mem_cons,List.not_mem_nil,or_false,not_or] at k k2;exact {box:=g0l h.box m (e1 _ k.2.2.2),dev:=h.dev.kept m (e1 _ (Ne.symm k2.1)) (e1 _ (Ne.symm k2.2.1)) (e1 _ (Ne.symm k2.2.2)),fr:=hf,n1:=h.n1,n2:=h.n2,own:=g4n h.own m (fun e=>(h.ao e).mono s),base:=h2r h.base m (h.ab.mono s),pool:=h2r h.pool m (h.ap.mono s),ao:=h.ao,ab:=h.ab,ap:=h.ap,xl:=fun x hx=>Nat.lt_of_lt_of_le (h.xl x hx) m.size,ok:=h.ok,bare:=h.bare,bk:=h.bk,pk:=h.pk}
theorem Sto.few {w:World} {B:Blk} {d:St} {t:T} {a:Lys} (h:Sto w B d t a):t.pool.free.length<=100000/\t.pool.limbo.length<=100000:=by
 have:=k4c h.pk (by have:=h.dev.nle;omega);omega
theorem g8i {B:Blk} {w w':World} {b:Nat} (hb:b∈B.all) (g:w.grownBy w' (some b)):Mod B.all w w':=(Mod.refl _ w).grown g (fun k e=>.inl (by cases e;exact hb))
theorem Sto.cells {w:World} {B:Blk} {d:St} {t:T} {a:Lys} (h:Sto w B d t a):w.cell? ⟨B.ss,0,none⟩=some (ptr B.sb)/\w.cell? ⟨B.ss,16,none⟩=some (.int .i64 t.pool.high)/\w.cell? ⟨B.ss,17,none⟩=some (.slice a.p.A1 t.pool.free.length a.p.c1)/\w.cell? ⟨B.ss,18,none⟩=some (.slice a.p.A2 t.pool.limbo.length a.p.c2)/\w.cell? ⟨B.ss,19,none⟩=some (.map (some B.bf)) :=
 ⟨h.box.2.2 0 _ rfl,h.box.2.2 16 _ rfl,h.box.2.2 17 _ rfl,h.box.2.2 18 _ rfl,h.box.2.2 19 _ rfl⟩
theorem Sto.super {w:World} {B:Blk} {d:St} {t:T} {a:Lys} (h:Sto w B d t a):w.cell? ⟨B.ss,1,none⟩=some (.int .i64 t.sup.kind)/\w.cell? ⟨B.ss,2,none⟩=some (.slice a.s.A1 t.sup.pairs.length a.s.c1)/\w.cell? ⟨B.ss,3,none⟩=some (.slice a.s.A2 t.sup.keys.length a.s.c2)/\w.cell? ⟨B.ss,4,none⟩=some (.slice a.s.A3 t.sup.kids.length a.s.c3)/\w.cell? ⟨B.ss,5,none⟩=some (.slice a.s.A4 t.sup.pages.length a.s.c4) /\
 w.cell? ⟨B.ss,6,none⟩=some (.int .i64 t.sup.next)/\w.cell? ⟨B.ss,7,none⟩=some (.int .u64 (t.sup.epoch:Int))/\w.cell? ⟨B.ss,8,none⟩=some (.int .i64 t.sup.root)/\w.cell? ⟨B.ss,9,none⟩=some (.int .i64 t.sup.depth)/\w.cell? ⟨B.ss,10,none⟩=some (.int .i64 t.sup.count)/\w.cell? ⟨B.ss,11,none⟩=some (.int .i64 t.sup.high) :=
 ⟨h.box.2.2 1 _ rfl,h.box.2.2 2 _ rfl,h.box.2.2 3 _ rfl,h.box.2.2 4 _ rfl,h.box.2.2 5 _ rfl,h.box.2.2 6 _ rfl,h.box.2.2 7 _ rfl,h.box.2.2 8 _ rfl,h.box.2.2 9 _ rfl,h.box.2.2 10 _ rfl,h.box.2.2 11 _ rfl⟩
theorem Sto.commit {w:World} {B:Blk} {d:St} {t:T} {a:Lys} (h:Sto w B d t a):w.cell? ⟨B.ss,12,none⟩=some (.slice a.o t.own.length a.oc)/\w.cell? ⟨B.ss,13,none⟩=some (.int .i64 t.base.high)/\w.cell? ⟨B.ss,14,none⟩=some (.slice a.b.A1 t.base.free.length a.b.c1)/\w.cell? ⟨B.ss,15,none⟩=some (.slice a.b.A2 t.base.limbo.length a.b.c2) :=
 ⟨h.box.2.2 12 _ rfl,h.box.2.2 13 _ rfl,h.box.2.2 14 _ rfl,h.box.2.2 15 _ rfl⟩
def g3w (t:T):T:={t with pool:=t.base,fresh:=fun _=>false}
def endT (t:T) (e:Int):T:=if e=1\/e=50 then t else g3w t
def g0h (t:T) (N:Int):T×Int×Int:=if (g0k t.pool N).2.2=0 then ({t with pool:=(g0k t.pool N).1},(g0k t.pool N).2.1,0) else (t,0,(g0k t.pool N).2.2)
def g2k (t:T) (n:Int):T×Int:=if (g1g t.pool n).2=0 then ({t with pool:=(g1g t.pool n).1},0) else (t,(g1g t.pool n).2)
def g2r (t:T) (n:Int):T×Int:=if (g1k t.pool n).2=0 then ({t with pool:=(g1k t.pool n).1},0) else (t,(g1k t.pool n).2)
def frT (t:T) (n:Int) (v:Bool):T:={t with fresh:=fup t.fresh n v}
def g0x (t:T) (N old:Int):T×Int×Int :=
 if t.fresh old=true then (t,old,0)
 else if (g0h t N).2.2=0 then
  if old=0 then (frT (g0h t N).1 (g0h t N).2.1 true,(g0h t N).2.1,0)
  else if (g2k (g0h t N).1 old).2=0 then (frT (g2k (g0h t N).1 old).1 (g0h t N).2.1 true,(g0h t N).2.1,0)
  else ((g2r (g2k (g0h t N).1 old).1 (g0h t N).2.1).1,0,(g2k (g0h t N).1 old).2)
 else ((g0h t N).1,0,(g0h t N).2.2)
def g1n (t:T) (n:Int):T×Int:=if t.fresh n=true then (if (g2r t n).2=0 then (frT (g2r t n).1 n false,0) else g2r t n) else g2k t n
def putAt (C:Array Value):Nat->List Value->Array Value
 | _,[]=>C
 | o,v :: r=>putAt (C.setIfInBounds o v) (o+1) r
theorem k5c:∀ (vs:List Value) (o:Nat) (w:World) (b:Nat) (C:Array Value),At w b C->o+vs.length<=C.size->At (w.setCells b o vs) b (putAt C o vs)
 | [],_,_,_,_,h,_=>h
 | v :: r,o,w,b,C,h,hs=>by
  rw [List.length_cons] at hs;exact k5c r (o+1) _ b _ (h.set o v (by omega)) (by simp;omega)
theorem j6v:∀ (vs:List Value) (o:Nat) (w:World) (b:Nat),Mod [b] w (w.setCells b o vs)
 | [],_,_,_=>Mod.refl _ _
 | v :: r,o,w,b=>(g0z w b o v).trans (j6v r (o+1) _ b)
theorem g0n:∀ (vs:List Value) (o:Nat) (w:World) (b:Nat),w.grownBy (w.setCells b o vs) (some b)
 | [],_,w,b=>World.grownBy.refl w (some b)
 | v :: r,o,w,b=>(Pool.g0r w b o v).trans (g0n r (o+1) _ b)
theorem g2o {w:World} {b o:Nat} {C C':Array Value} {vs:List Value} (h:At w b C) (hs:o+vs.length<=C.size) (he:C'.toList=C.toList.take o++(vs++C.toList.drop (o+vs.length))):At (w.setCells b o vs) b C':=by
 have h0:=k5c vs o w b C h hs;refine ⟨h0.1,h0.2.1,fun j v hv=>?_⟩;rw [<- Array.getElem?_toList,he] at hv;have hC:C.toList.length=C.size:=by simp
 have hcell:∀ k u,C[k]?=some u->w.cell? ⟨b,k,none⟩=some u:=h.2.2;have hlo:(C.toList.take o).length=o:=by rw [List.length_take];omega
 by_cases h1:j<o
 ·rw [List.getElem?_append_left (by omega),List.getElem?_take,if_pos h1,Array.getElem?_toList] at hv;rw [World.cell?_setCells_out b vs o w ⟨b,j,none⟩ (fun _ _=>.inl h1)];exact hcell j v hv
 ·rw [List.getElem?_append_right (by omega),hlo] at hv
  by_cases h2:j-o<vs.length
  ·rw [List.getElem?_append_left h2] at hv;have:=World.cell?_setCells_in b vs o w (fun i hi=>by rw [hcell (o+i) _ (Array.getElem?_eq_getElem (show o+i<C.size by omega))];rfl) (j-o) h2;rw [show o+(j-o)=j by omega] at this;rw [this,<- hv,List.getElem?_eq_getElem h2]
  ·rw [List.getElem?_append_right (by omega),List.getElem?_drop,Array.getElem?_toList] at hv;rw [World.cell?_setCells_out b vs o w ⟨b,j,none⟩ (fun _ _=>.inr (by show o+vs.length<=j;omega))];exact hcell j v (by rw [<- hv];congr 1;omega)
theorem k7p {w:World} {b:Nat} {C:Array Value} (h:At w b C) {o n:Nat} (hs:o+n<=C.size):w.there b o n:=fun j hj=>by
 have hc:=h.2.2 (o+j) _ (Array.getElem?_eq_getElem (show o+j<C.size by omega));exact ⟨by rw [hc];rfl,h.2.1 _⟩
theorem at_range {w:World} {b:Nat} {C:Array Value} (h:At w b C) {o:Nat} {cs:List Value} (hx:(C.toList.drop o).take cs.length=cs):w.rangeAt b o cs:=fun j v hv=>by
 refine h.2.2 (o+j) v ?_;have hj:j<cs.length:=(List.getElem?_eq_some_iff.1 hv).1;rw [<- hx,List.getElem?_take,if_pos hj,List.getElem?_drop,Array.getElem?_toList] at hv;exact hv
theorem k2p {w:World} {b o:Nat} {C:Array Value} (h:At w b C) {ty:TypeId} {c:Array Value} {d:TypeDesc} (hu:Tryz.prog.underlying ty=some d) (hd:d.isRow=true) (hi:(Tryz.prog.info? ty).map (·.size)=some c.size) (hx:(C.toList.drop o).take c.toList.length=c.toList) :
 (Instr.loadAt ty (.pointer (some ⟨b,o,none⟩))).run Tryz.prog w=.ok (.agg c) w:=by
 have:=run_loadAt_mid (P:=Tryz.prog) w b o ty c.toList d (at_range h hx) hu hd (by simpa using hi)
 simpa using this
theorem h7o {w:World} {b o:Nat} {C:Array Value} (h:At w b C) {ty:TypeId} {c:Array Value} {d:TypeDesc} (hu:Tryz.prog.underlying ty=some d) (hd:d.isRow=true) (hi:(Tryz.prog.info? ty).map (·.size)=some c.size) (hx:(C.toList.drop o).take c.toList.length=c.toList) :
 (loadVar ty ⟨b,o,none⟩).run Tryz.prog w=.ok (.agg c) w:=by
 have:=run_loadVar_mid (P:=Tryz.prog) w b o ty c.toList d (at_range h hx) hu hd (by simpa using hi)
 simpa using this
theorem h9i {w:World} {b o:Nat} {C:Array Value} (h:At w b C) {ty:TypeId} {c:Array Value} (hs:o+c.size<=C.size) (hi:(Tryz.prog.info? ty).map (·.size)=some c.size) (h1:c.all (·.oneCell')=true) :
 (Instr.storeAt ty (.pointer (some ⟨b,o,none⟩)) (.agg c)).run Tryz.prog w=.ok () (w.setCells b o c.toList) :=
 run_storeAt_mid (P:=Tryz.prog) w b o ty c (k7p h hs) hi h1
theorem g5k:(Tryz.prog.info? 103).map (·.size)=some 11:=by kernel_rfl
theorem h0x:(Tryz.prog.info? 70).map (·.size)=some 3:=by kernel_rfl
theorem j2q:(Tryz.prog.info? 105).map (·.size)=some 15:=by kernel_rfl
abbrev pgZ:Array Value:=#[.int .i64 0,.slice none 0 0,.slice none 0 0,.slice none 0 0,.slice none 0 0,.int .i64 0,.int .u64 0,.int .i64 0,.int .i64 0,.int .i64 0,.int .i64 0]
abbrev poZ:Array Value:=#[.int .i64 0,.slice none 0 0,.slice none 0 0]
abbrev g6o:Value:=pgV {kind:=0} {}
theorem j6t (p:Pg) (a:Lay):(pgC p a).all (·.oneCell')=true:=by simp [pgC,Value.oneCell']
theorem j6x (p:Po) (a:La):(poC p a).all (·.oneCell')=true:=by simp [poC,Value.oneCell']
theorem g1s (W:World) (p:Pg) (a:Lay):(Instr.storeAt 103 (.pointer (some ⟨W.heap.size,0,none⟩)) (pgV p a)).run Tryz.prog (W.alloc (.cells pgZ 103))=.ok () (W.alloc (.cells (pgC p a) 103)) :=
 run_storeAt_new W 103 pgZ (pgC p a) g5k rfl (j6t p a)
theorem at_new (W:World) (C:Array Value) (t:TypeId):At (W.alloc (.cells C t)) W.heap.size C:=At.of_block (heap_alloc_last W _)
theorem g1c {w:World} {b o:Nat} {C:Array Value} (h:At w b C) (p:Pg) (a:Lay) (hx:(C.toList.drop o).take 11=(pgC p a).toList):(Instr.loadAt 103 (.pointer (some ⟨b,o,none⟩))).run Tryz.prog w=.ok (pgV p a) w :=
 k2p h Tryz.underlying103 rfl g5k hx
theorem g2s {w:World} {b o:Nat} {C:Array Value} (h:At w b C) (p:Pg) (a:Lay) (hx:(C.toList.drop o).take 11=(pgC p a).toList):(loadVar 103 ⟨b,o,none⟩).run Tryz.prog w=.ok (pgV p a) w :=
 h7o h Tryz.underlying103 rfl g5k hx
theorem g1e {w:World} {b o:Nat} {C:Array Value} (h:At w b C) (p:Pg) (a:Lay) (hs:o+11<=C.size):(Instr.storeAt 103 (.pointer (some ⟨b,o,none⟩)) (pgV p a)).run Tryz.prog w=.ok () (w.setCells b o (pgC p a).toList) :=
 h9i h hs g5k (j6t p a)
theorem j5z (W:World) (p:Po) (a:La):(Instr.storeAt 70 (.pointer (some ⟨W.heap.size,0,none⟩)) (poV p a)).run Tryz.prog (W.alloc (.cells poZ 70))=.ok () (W.alloc (.cells (poC p a) 70)) :=
 run_storeAt_new W 70 poZ (poC p a) h0x rfl (j6x p a)
theorem g7j {w:World} {b o:Nat} {C:Array Value} (h:At w b C) (p:Po) (a:La) (hx:(C.toList.drop o).take 3=(poC p a).toList):(Instr.loadAt 70 (.pointer (some ⟨b,o,none⟩))).run Tryz.prog w=.ok (poV p a) w :=
 k2p h Tryz.underlying70 rfl h0x hx
theorem k6x {w:World} {b o:Nat} {C:Array Value} (h:At w b C) (p:Po) (a:La) (hx:(C.toList.drop o).take 3=(poC p a).toList):(loadVar 70 ⟨b,o,none⟩).run Tryz.prog w=.ok (poV p a) w :=
 h7o h Tryz.underlying70 rfl h0x hx
theorem g1p {P:Program} {ops:Array Oper} {o:Oper} {a:Act} {K:Act->World->Prop} {Q:Exit->Act->World->Prop} {X:Prop} {w w':World} {p u:Value} (hgd:o.guard=none) (t:TypeId) (x y:Operand)
 (ho:o.op=.store t x y) (hx:a.eval x=p) (hy:a.eval y=u) (hrun:(Instr.storeAt t p u).run P w=.ok () w')
 (h:K (a.put o.dst undef) w'):if Region.wanted o (yielded ops a.tmps)=true then Oper.wp P o a w K Q else X:=by
 have hw:Region.wanted o (yielded ops a.tmps)=true:=by simp [Region.wanted,hgd]
 rw [if_pos hw];unfold Oper.wp;simp [execOp,ho,hx,hy,hrun,Result.andThen];exact h
theorem g4o {fn:Func} {tmps:Array Value} {a:Nat} {t:TypeId} {x:Addr} {v:Value} {w:World} (hr:fn.results=#[.cell a t]) (ha:tmps.getD a undef=.pointer (some x)) (h:(loadVar t x).run Tryz.prog w=.ok v w):(results fn tmps).run Tryz.prog w=.ok v w:=by
 have ha':tmps[a]?.getD undef=.pointer (some x):=by simpa using ha
 simp [results,hr,ha',asAddr,h]
theorem g1m {fn:Func} {tmps:Array Value} {a s:Nat} {t:TypeId} {x:Addr} {v:Value} {w:World} (hr:fn.results=#[.cell a t,.tmp s]) (ha:tmps.getD a undef=.pointer (some x)) (h:(loadVar t x).run Tryz.prog w=.ok v w):(results fn tmps).run Tryz.prog w=.ok (.tuple #[v,tmps.getD s undef]) w:=by
 have ha':tmps[a]?.getD undef=.pointer (some x):=by simpa using ha
 simp [results,hr,ha',asAddr,h]
theorem g2a {fn:Func} {tmps:Array Value} {a b c:Nat} {w:World} (hr:fn.results=#[.tmp a,.tmp b,.tmp c]):(results fn tmps).run Tryz.prog w=.ok (.tuple #[tmps.getD a undef,tmps.getD b undef,tmps.getD c undef]) w:=by
 simp [results,hr]
theorem Sto.loadPool {w:World} {B:Blk} {d:St} {t:T} {a:Lys} (h:Sto w B d t a):(Instr.loadAt 70 (.pointer (some ⟨B.ss,16,none⟩))).run Tryz.prog w=.ok (poV t.pool a.p) w:=g7j h.box _ _ rfl
theorem Sto.loadBase {w:World} {B:Blk} {d:St} {t:T} {a:Lys} (h:Sto w B d t a):(Instr.loadAt 70 (.pointer (some ⟨B.ss,13,none⟩))).run Tryz.prog w=.ok (poV t.base a.b) w:=g7j h.box _ _ rfl
theorem Sto.loadSup {w:World} {B:Blk} {d:St} {t:T} {a:Lys} (h:Sto w B d t a):(Instr.loadAt 103 (.pointer (some ⟨B.ss,1,none⟩))).run Tryz.prog w=.ok (pgV t.sup a.s) w:=g1c h.box _ _ rfl
theorem Sto.storePool {w:World} {B:Blk} {d:St} {t:T} {a:Lys} (h:Sto w B d t a) {q:Po} {c:La} (hq:PoAt w q c) (hc:OffQ B.off q c) (hk:g0g q d.n) :
 ∃ w',(Instr.storeAt 70 (.pointer (some ⟨B.ss,16,none⟩)) (poV q c)).run Tryz.prog w=.ok () w'/\Sto w' B d {t with pool:=q} {a with p:=c}/\Mod B.all w w' :=
 ⟨_,h9i h.box (by simp) h0x (j6x q c),h.setPool hq hc hk,(j7i _ _ _ _ _).mono (by simp [Blk.all])⟩
abbrev Ans (v:Value) (B:Blk) (d:St) (t:T) (w:World) (e:Ending) (w':World):Prop:=e=.returned v/\Has w' B d t/\Mod B.all w w'
abbrev k7t:Value:=.tuple #[]
theorem g0u {B:Blk} {w w':World} (h:Below w.heap.size w w'):Mod B.all w w':=Mod.of_below _ h
theorem g8c {w:World} {B:Blk} {d:St} {t:T} {a:Lys} (h:Sto w B d t a):Calls Tryz.prog 112 #[ptr B.ss] w (Ans k7t B d (g3w t) w):=by
 obtain ⟨w2,r2,s2,m2⟩:=h.storePool h.base h.ab h.bk;obtain ⟨w3,r3,f3,g3⟩:=s2.fr.clear 0;have FIN:=hid (show Has w3 B d (g3w t)/\Mod B.all w w3 from ⟨⟨_,s2.withFresh f3 g3⟩,m2.trans (g8i (by simp [Blk.all]) g3)⟩);have L:=hid h.loadBase;have R:=hid r2;have C:=hid r3;have c19:w2.cell? ⟨B.ss,19,none⟩=some (.map (some B.bf)):=s2.cells.2.2.2.2;clear h s2 m2 f3 g3 r2 r3;generalize poV t.base a.b=pv at *
 go_enter Tryz.func112,Tryz.ntmps112
 go_wp2_with (first
  | ((with_reducible refine Disk.g0d rfl 70 (.tmp 6) rfl _ ?_ L.out ?_);(next=>rfl))
  | ((with_reducible refine Disk.g0b rfl 70 (.tmp 9) (.tmp 7) rfl _ _ ?_ ?_ R.out ?_);(next=>rfl);(next=>rfl))
  | ((with_reducible refine Disk.g8f rfl 106 (.tmp 13) rfl _ ?_ C.out ?_);(next=>rfl)))
 (try simp only [Exit.inBlock,Exit.then])
 first | refine bodyPost_ret (results_none rfl _ _ _) rfl ?_ | refine bodyPost_end (results_none rfl _ _ _) rfl ?_
 exact ⟨rfl,FIN.out⟩
theorem j1t {w:World} {B:Blk} {d:St} {t:T} {a:Lys} (h:Sto w B d t a):Calls Tryz.prog 102 #[ptr B.ss] w (Ans k7t B d (g3w t) w):=by
 have cB:=g8c h;clear h;go_enter Tryz.func102,Tryz.ntmps102
 go_wp2_with fail
 refine cB.mono ?_;rintro e w' ⟨rfl,h1,h2⟩;go_wp2_with fail
 (try simp only [Exit.inBlock,Exit.then])
 first | refine bodyPost_ret (results_none rfl _ _ _) rfl ?_ | refine bodyPost_end (results_none rfl _ _ _) rfl ?_
 exact ⟨rfl,h1,h2⟩
theorem h4g {w:World} {B:Blk} {d:St} {t:T} {a:Lys} (h:Sto w B d t a) (e:Int):Calls Tryz.prog 110 #[ptr B.ss,.int .i64 e] w (Ans (numV e) B d (endT t e) w):=by
 by_cases h1:e=1
 ·have d1:(e != 1)=false:=by simp [h1]
  have FIN:=hid (show Has w B d (endT t e) from by rw [endT,if_pos (.inl h1)];exact ⟨a,h⟩);clear h1 h;go_enter Tryz.func110,Tryz.ntmps110
  go_wp2_with fail
  go_ret
  exact ⟨rfl,FIN.out,Mod.refl _ _⟩
 by_cases h2:e=50
 ·have d1:(e != 1)=true:=by simp [h1]
  have d2:(e != 50)=false:=by simp [h2]
  have FIN:=hid (show Has w B d (endT t e) from by rw [endT,if_pos (.inr h2)];exact ⟨a,h⟩);clear h1 h2 h;go_enter Tryz.func110,Tryz.ntmps110
  go_wp2_with fail
  go_ret
  exact ⟨rfl,FIN.out,Mod.refl _ _⟩
 have d1:(e != 1)=true:=by simp [h1]
 have d2:(e != 50)=true:=by simp [h2]
 have cA:=j1t h;rw [show g3w t=endT t e by rw [endT,if_neg (by omega)]] at cA;clear h1 h2 h;go_enter Tryz.func110,Tryz.ntmps110
 go_wp2_with fail
 refine cA.mono ?_;rintro e w' ⟨rfl,h1,h2⟩;go_wp2_with fail
 go_ret
 exact ⟨rfl,h1,h2⟩
theorem h1o {w:World} {B:Blk} {d:St} {t:T} {a:Lys} (h:Sto w B d t a) (n:Int) (h0:-9223372036854775808<=n) (h1:n<=9223372036854775807):Calls Tryz.prog 153 #[ptr B.ss,.int .i64 n] w fun e w'=>e=.returned (.bool (t.fresh n))/\Below w.heap.size w w':=by
 have L:=hid (h.fr.lookup_ok n h0 h1);have c19:=h.cells.2.2.2.2;clear h h0 h1;go_enter Tryz.func153,Tryz.ntmps153
 go_wp2_with ((with_reducible refine Disk.g4a rfl 106 (.tmp 11) (.tmp 12) true rfl _ _ ?_ ?_ L.out ?_);(next=>rfl);(next=>rfl))
 go_ret
 exact ⟨rfl,(Below.refl _ _).alloc (Nat.le_refl _) _⟩
theorem h7b {w:World} {B:Blk} {d:St} {t:T} {a:Lys} (h:Sto w B d t a) (n:Int) (f:Nat) (r:Po×Int)
 (cG:Calls Tryz.prog f #[poV t.pool a.p,.int .i64 n] w (Pool.p1d r w)) (hr:r.2=0->g0g r.1 d.n)
 (eg:∀ args w,(callFunc f args).run Tryz.prog w=.ok (.enter f args) w) :
 Calls Tryz.prog 154 #[ptr B.ss,.func (.func f) #[] #[],.int .i64 n] w (Ans (numV r.2) B d (if r.2=0 then {t with pool:=r.1} else t) w):=by
 obtain ⟨t',ht⟩:∃ t',(if r.2=0 then {t with pool:=r.1} else t)=t':=⟨_,rfl⟩;rw [ht];have HT:=hid ht;clear ht;have L:=hid h.loadPool;have H:=hid h;have HR:=hid hr;clear h hr;generalize poV t.pool a.p=pv at *;go_enter Tryz.func154,Tryz.ntmps154
 go_wp2_with (first | ((with_reducible refine Disk.g0d rfl 70 (.tmp 13) rfl _ ?_ L.out ?_);(next=>rfl)))
 refine cG.mono ?_;rintro e w1 ⟨c,rfl,hp,hb,hf⟩;have S1:=hid (H.out.below hb);have M1:=hid (g0u (B:=B) hb);have P1:=hid (j5z w1 r.1 c);have B1:=hid (Pool.g0a w1 (.cells (poC r.1 c) 70));have LP:=hid (g7j (o:=0) (at_new w1 (poC r.1 c) 70) r.1 c rfl);have S2:=hid (S1.out.below B1.out);have HO:=hid (S1.out.offP (Nat.le_refl _) (c:=c) (n:=w1.heap.size))
 by_cases h0:r.2=0
 ·have d1:(r.2 != 0)=false:=by simp [h0]
  obtain ⟨w3,r3,s3,m3⟩:=S2.out.storePool (hp.below B1.out) (H.out.offP (Nat.le_refl _) hf).q (HR.out h0);have R3:=hid r3;have FIN:=hid (show Has w3 B d t'/\Mod B.all w w3 from ⟨by rw [<- HT.out,if_pos h0];exact ⟨_,s3⟩,(M1.out.trans (g0u B1.out)).trans m3⟩);have hz:numV 0=numV r.2:=by rw [h0]
  have HZ:=hid hz;clear r3 s3 m3 h0 hz hp hb hf cG HO S2 B1 M1 S1 H HR HT;generalize poC r.1 c=qc at *;generalize poV r.1 c=qv at *;go_wp2_with (first | ((with_reducible refine Disk.g0b rfl 70 (.tmp 7) (.tmp 17) rfl _ _ ?_ ?_ P1.out ?_);(next=>rfl);(next=>rfl)) | ((with_reducible refine Disk.g0d rfl 70 (.tmp 7) rfl _ ?_ LP.out ?_);(next=>rfl)) | ((with_reducible refine Disk.g0b rfl 70 (.tmp 25) (.tmp 23) rfl _ _ ?_ ?_ R3.out ?_);(next=>rfl);(next=>rfl)))
  go_ret
  exact ⟨congrArg Ending.returned HZ.out,FIN.out⟩
 ·have d1:(r.2 != 0)=true:=by simp [h0]
  have FIN:=hid (show Has (w1.alloc (.cells (poC r.1 c) 70)) B d t'/\Mod B.all w (w1.alloc (.cells (poC r.1 c) 70)) from ⟨by rw [<- HT.out,if_neg h0];exact ⟨_,S2.out⟩,M1.out.trans (g0u B1.out)⟩);clear h0 hp hb hf cG HO S2 B1 M1 S1 H HR HT;generalize poC r.1 c=qc at *;generalize poV r.1 c=qv at *;go_wp2_with (first | ((with_reducible refine Disk.g0b rfl 70 (.tmp 7) (.tmp 17) rfl _ _ ?_ ?_ P1.out ?_);(next=>rfl);(next=>rfl)))
  go_ret
  exact ⟨rfl,FIN.out⟩
theorem h7e {w:World} {B:Blk} {d:St} {t:T} {a:Lys} (h:Sto w B d t a) (n:Int):Calls Tryz.prog 154 #[ptr B.ss,.func (.func 121) #[] #[],.int .i64 n] w (Ans (numV (g2k t n).2) B d (g2k t n).1 w):=by
 have:=h7b h n 121 (g1g t.pool n) (Pool.k8e _ _ n w h.pool h.few.1 h.few.2) (fun e=>(k3o h.pk e).1) (fun args w=>enters_of Tryz.func121 (by kernel_rfl) rfl args w);unfold g2k
 by_cases e:(g1g t.pool n).2=0
 ·rw [if_pos e] at this ⊢;rw [e] at this;exact this
 ·rw [if_neg e] at this ⊢;exact this
theorem h6p {w:World} {B:Blk} {d:St} {t:T} {a:Lys} (h:Sto w B d t a) (n:Int):Calls Tryz.prog 154 #[ptr B.ss,.func (.func 155) #[] #[],.int .i64 n] w (Ans (numV (g2r t n).2) B d (g2r t n).1 w):=by
 have:=h7b h n 155 (g1k t.pool n) (Pool.k5y _ _ n w h.pool h.few.1 h.few.2) (fun e=>(k2g h.pk e).1) (fun args w=>enters_of Tryz.func155 (by kernel_rfl) rfl args w);unfold g2r
 by_cases e:(g1k t.pool n).2=0
 ·rw [if_pos e] at this ⊢;rw [e] at this;exact this
 ·rw [if_neg e] at this ⊢;exact this
open Page (Pg Lay PgOk g0c pgC pgV Enc g0v BytesAt)
def Lyt (n:Nat) (a a':Lys):Prop:=a'.o=a.o/\a'.b=a.b/\(a'.p=a.p\/g2m n a'.p)
abbrev AnsL (v:Value) (B:Blk) (d:St) (t:T) (a:Lys) (w:World) (e:Ending) (w':World):Prop:=e=.returned v/\(∃ a',Sto w' B d t a'/\Lyt w.heap.size a a')/\Mod B.all w w'
theorem j7k {w:World} {B:Blk} {d:St} {t:T} {a:Lys} (h:Sto w B d t a):Calls Tryz.prog 157 #[ptr B.ss] w (AnsL (.tuple #[numV (g0h t d.n).2.1,numV (g0h t d.n).2.2]) B d (g0h t d.n).1 a w):=by
 obtain ⟨t',ht⟩:∃ t',(g0h t d.n).1=t':=⟨_,rfl⟩;obtain ⟨n',hn⟩:∃ n',(g0h t d.n).2.1=n':=⟨_,rfl⟩;obtain ⟨e',he⟩:∃ e',(g0h t d.n).2.2=e':=⟨_,rfl⟩;rw [ht,hn,he];have HT:=hid ht;have HN:=hid hn;have HE:=hid he;clear ht hn he;have H:=hid h;have hle:=h.dev.nle;have hpk:=h.pk.low;have bD:Below w.heap.size w w.drew:=(Below.refl _ _).drew;have bA:Below w.heap.size w (w.alloc (.cells poZ 70)).drew:=(Pool.g0a w _).drew
 have KS:∀ w',Below w.heap.size w w'->w'.cell? ⟨B.ss,0,none⟩=some (ptr B.sb)/\w'.cell? ⟨B.ss,16,none⟩=some (.int .i64 t.pool.high)/\w'.cell? ⟨B.ss,17,none⟩=some (.slice a.p.A1 t.pool.free.length a.p.c1)/\w'.cell? ⟨B.ss,18,none⟩=some (.slice a.p.A2 t.pool.limbo.length a.p.c2):=fun w' hb=>by
  have:=(h.below hb).cells;exact ⟨this.1,this.2.1,this.2.2.1,this.2.2.2.1⟩
 have K0:=hid (KS _ bD);have KA:=hid (KS _ bA);have cS:=Disk.h5t w.drew B.sb B.bl B.bc d (h.below bD).dev;have cSA:=Disk.h5t (w.alloc (.cells poZ 70)).drew B.sb B.bl B.bc d (h.below bA).dev;have cT:=Pool.h6j t.pool a.p (d.n:Int) w.drew (h.below bD).pool h.few.1 h.few.2 (by omega) (by omega);have cTA:=Pool.h6j t.pool a.p (d.n:Int) (w.alloc (.cells poZ 70)).drew (h.below bA).pool h.few.1 h.few.2 (by omega) (by omega)
 have HK:=hid KS;have BD:=hid bD;have BA:=hid bA;clear KS bD bA hle hpk h;unfold poV poC at cT cTA;unfold poZ at *;go_enter Tryz.func157,Tryz.ntmps157
 go_wp2_with fail
 go_region_held3 (fun w'=>w'.cell? ⟨B.ss,0,none⟩=some (ptr B.sb)/\w'.cell? ⟨B.ss,16,none⟩=some (.int .i64 t.pool.high)/\w'.cell? ⟨B.ss,17,none⟩=some (.slice a.p.A1 t.pool.free.length a.p.c1)/\w'.cell? ⟨B.ss,18,none⟩=some (.slice a.p.A2 t.pool.limbo.length a.p.c2))
  (with_reducible (first | exact K0.out | exact KA.out | exact K1.out | exact K2.out | exact K3.out))
  (first
    | (go_at_call 66;(with_reducible refine cS.mono ?_);rintro e w1 ⟨rfl,rfl⟩)
    | (go_at_call 66;(with_reducible refine cSA.mono ?_);rintro e w1 ⟨rfl,rfl⟩)
    | (go_at_call 196;(with_reducible refine cT.mono ?_);rintro e w1 ⟨c,rfl,hp,hb,hf⟩
       have B1:=hid (BD.out.trans hb);have K1:=hid (HK.out _ B1.out);have K2:=hid (HK.out _ (B1.out.alloc B1.out.size (.cells #[.int .i64 0,.slice none 0 0,.slice none 0 0] 70)));have AZ:=hid (at_new w1 #[.int .i64 0,.slice none 0 0,.slice none 0 0] 70);have r0:=AZ.out.2.2 0 _ rfl;have r1:=AZ.out.2.2 1 _ rfl;have r2:=AZ.out.2.2 2 _ rfl;have fz:=AZ.out.2.1;have hb3:=Pool.g0a w1 (.cells (poC (g0k t.pool d.n).1 c) 70)
       have B3:=hid (B1.out.trans (hb3.mono B1.out.size));have K3:=hid (HK.out _ B3.out);have LP:=hid (g7j (o:=0) (at_new w1 (poC (g0k t.pool d.n).1 c) 70) (g0k t.pool d.n).1 c rfl);have HP:=hid (hp.below hb3);have HF:=hid (H.out.offP BD.out.size hf);have HFF:=hid (show g2m w.heap.size c from ⟨fun x e=>Nat.le_trans BD.out.size (hf.1 x e),fun x e=>Nat.le_trans BD.out.size (hf.2 x e)⟩);unfold poC at K3
       clear hp hb hf hb3)
    | (go_at_call 196;(with_reducible refine cTA.mono ?_);rintro e w1 ⟨c,rfl,hp,hb,hf⟩
       have B1:=hid (BA.out.trans (hb.mono BA.out.size));have K1:=hid (HK.out _ B1.out);have AZ:=hid ((show At (w.alloc (.cells #[.int .i64 0,.slice none 0 0,.slice none 0 0] 70)).drew w.heap.size #[.int .i64 0,.slice none 0 0,.slice none 0 0] from at_new w _ _).below hb (by simp));have r0:=AZ.out.2.2 0 _ rfl;have r1:=AZ.out.2.2 1 _ rfl;have r2:=AZ.out.2.2 2 _ rfl;have fz:=AZ.out.2.1;have B3:=hid (Pool.g2t B1.out (Nat.le_refl _) (.int .i64 (g0k t.pool d.n).1.high) (.slice c.A1 (g0k t.pool d.n).1.free.length c.c1) (.slice c.A2 (g0k t.pool d.n).1.limbo.length c.c2))
       have K3:=hid (HK.out _ B3.out);have A3:=hid (Pool.g6v AZ.out rfl (.int .i64 (g0k t.pool d.n).1.high) (.slice c.A1 (g0k t.pool d.n).1.free.length c.c1) (.slice c.A2 (g0k t.pool d.n).1.limbo.length c.c2));have LP:=hid (g7j (o:=0) A3.out (g0k t.pool d.n).1 c rfl);have HP:=hid (show PoAt (Pool.set3 w1 w.heap.size (.int .i64 (g0k t.pool d.n).1.high) (.slice c.A1 (g0k t.pool d.n).1.free.length c.c1) (.slice c.A2 (g0k t.pool d.n).1.limbo.length c.c2)) (g0k t.pool d.n).1 c from
        have hlt:∀ A:Option Addr,(∀ x,A=some x->(w.alloc (.cells #[.int .i64 0,.slice none 0 0,.slice none 0 0] 70)).drew.heap.size<=x.block)->Off [w.heap.size] A:=fun A hA x e hx=>by
         have h1:=hA x e;have h2:x.block=w.heap.size:=by simpa using hx
         simp at h1;omega
        p2w hp ((Mod.refl [w.heap.size] w1).grown (Pool.h2l _ _ _ _ _) (fun k e=>.inl (by cases e;simp))) ⟨hlt _ hf.1,hlt _ hf.2⟩)
       have HF:=hid (H.out.offP BA.out.size hf);have HFF:=hid (show g2m w.heap.size c from ⟨fun x e=>Nat.le_trans BA.out.size (hf.1 x e),fun x e=>Nat.le_trans BA.out.size (hf.2 x e)⟩);unfold Pool.set3 at K3 B3 A3 LP HP;clear hp hb hf A3))
 all_goals clear r0 r1 r2 fz cS cSA cT cTA K0 KA K1
 all_goals
  have M3:=hid (g0u (B:=B) B3.out);have S3:=hid (H.out.below B3.out);have HPK:=hid H.out.pk
  by_cases h0:(g0k t.pool d.n).2.2=0
  ·have d1:((g0k t.pool d.n).2.2 != 0)=false:=by simp [h0]
   obtain ⟨w4,r4,s4,m4⟩:=S3.out.storePool HP.out HF.out.q (h2p HPK.out h0);have R4:=hid r4;have FIN:=hid (show (∃ a',Sto w4 B d t' a'/\Lyt w.heap.size a a')/\Mod B.all w w4 from ⟨by rw [<- HT.out,g0h,if_pos h0];exact ⟨_,s4,rfl,rfl,.inr HFF.out⟩,M3.out.trans m4⟩);have EQ:=hid (show n'=(g0k t.pool d.n).2.1/\e'=0 from ⟨by rw [<- HN.out,g0h,if_pos h0],by rw [<- HE.out,g0h,if_pos h0]⟩);clear r4 s4 m4 h0 HP HF H S3 M3 HPK HT HN HE K3 B3 B1 AZ HK BD BA
   unfold poV poC at *;go_wp2_with (first | ((with_reducible refine Disk.g0d rfl 70 (.tmp 4) rfl _ ?_ LP.out ?_);(next=>rfl)) | ((with_reducible refine Disk.g0b rfl 70 (.tmp 27) (.tmp 25) rfl _ _ ?_ ?_ R4.out ?_);(next=>rfl);(next=>rfl)))
   go_ret2
   exact ⟨by rw [EQ.out.1,EQ.out.2];rfl,FIN.out⟩
  ·have d1:((g0k t.pool d.n).2.2 != 0)=true:=by simp [h0]
   have FIN:=hid (show (∃ a',Sto _ B d t' a'/\Lyt w.heap.size a a')/\Mod B.all w _ from ⟨⟨a,by rw [<- HT.out,g0h,if_neg h0];exact S3.out,rfl,rfl,.inl rfl⟩,M3.out⟩);have EQ:=hid (show n'=0/\e'=(g0k t.pool d.n).2.2 from ⟨by rw [<- HN.out,g0h,if_neg h0],by rw [<- HE.out,g0h,if_neg h0]⟩);clear h0 HP HF H S3 M3 HPK HT HN HE K3 B3 B1 AZ HK BD BA LP;unfold poV poC at *;go_wp2_with fail
   go_ret2
   exact ⟨by rw [EQ.out.1,EQ.out.2];rfl,FIN.out⟩
theorem k9h {w:World} {B:Blk} {d:St} {t:T} {a:Lys} (h:Sto w B d t a):Calls Tryz.prog 157 #[ptr B.ss] w (Ans (.tuple #[numV (g0h t d.n).2.1,numV (g0h t d.n).2.2]) B d (g0h t d.n).1 w) :=
 (j7k h).mono fun _ _ ⟨h1,⟨a',h2,_⟩,h3⟩=>⟨h1,⟨a',h2⟩,h3⟩
theorem j0k {w:World} {sb bl bc:Nat} {s:St} (h:Dev w sb bl bc s) {b off:Nat} {v:Value} (hc:w.cell? ⟨b,off,none⟩=some v) (hv:∀ n,v≠.int .i64 n) (hm:∀ m,v≠.map m) (hb:∀ x,v≠.bool x):b≠sb/\b≠bl/\b≠bc:=by
 refine ⟨fun e=>?_,fun e=>?_,fun e=>?_⟩
 ·subst e;rw [cell_of_row w b off _ _ _ h.box] at hc
  match off,hc with
  | 0,hc=>cases hc;exact hv _ rfl
  | 1,hc=>cases hc;exact hm _ rfl
  | 2,hc=>cases hc;exact hm _ rfl
  | 3,hc=>cases hc;exact hb _ rfl
  | 4,hc=>cases hc;exact hb _ rfl
  | 5,hc=>cases hc;exact hv _ rfl
  | k+6,hc=>simp at hc
 ·subst e;obtain ⟨es,c,hh⟩:=h.last.isMap;simp [World.cell?,hh] at hc
 ·subst e;obtain ⟨es,c,hh⟩:=h.cache.isMap;simp [World.cell?,hh] at hc
theorem j3l {w:World} {sb bl bc:Nat} {s:St} (h:Dev w sb bl bc s) {A:Option Addr} {n c:Nat} {l:Disk.Bs} (hR:BytesAt w A n c l) (hne:l≠[]):∀ a,A=some a->a.block≠sb/\a.block≠bl/\a.block≠bc:=fun a ha=>by
 obtain ⟨b,off,e,_,hc⟩:=hR.row hne;rw [ha] at e;cases e;exact j0k h (hc 0 (List.length_pos_iff.2 hne)) (fun n e=>by cases e) (fun n e=>by cases e) (fun n e=>by cases e)
theorem j5l (s:St) (n:Int) (l:Disk.Bs):(s.write n l).n=s.n:=by
 unfold St.write
 split
 ·rfl
 ·split
  ·rfl
  ·split
   ·exact Disk.k2l s
   ·exact Disk.k2l s
def g7v (d:St) (n:Int) (p:Pg) (d':St) (x:Int):Prop:=(∃ l,Enc n p l/\d'=d.write n l/\x=d.writeE n l)\/((∀ l,¬ Enc n p l)/\d'=d/\x=50)
def p4f (B:Blk) (R:St->T->Int->Prop) (w:World) (e:Ending) (w':World):Prop:=∃ d' t' x,e=.returned (numV x)/\R d' t' x/\Has w' B d' t'/\Mod B.all w w'
def Wrote (B:Blk) (d:St) (t:T) (a:Lys) (n:Int) (p:Pg) (w:World) (e:Ending) (w':World):Prop:=∃ d' x,e=.returned (numV x)/\g7v d n p d' x/\Sto w' B d' t a/\Mod B.all w w'
theorem g8a {w:World} {B:Blk} {d:St} {t:T} {a:Lys} (h:Sto w B d t a) (n:Int) (p:Pg) (y:Lay) (hok:PgOk p) (hR:g0c w p y) :
 Calls Tryz.prog 159 #[ptr B.ss,.int .i64 n,pgV p y] w (Wrote B d t a n p w):=by
 have b1:=Pool.g0a w (.cells (pgC p y) 103);have cE:=Page.h1x n p y (w.alloc (.cells (pgC p y) 103)) hok (hR.below b1);have LP:=hid (g1c (o:=0) (at_new w (pgC p y) 103) p y rfl);have B1:=hid b1;have H:=hid h;clear b1 h hok hR;unfold pgV at *;generalize pgC p y=C at *;go_enter Tryz.func159,Tryz.ntmps159
 go_wp2_with (first | ((with_reducible refine Disk.g0d rfl 103 (.tmp 5) rfl _ ?_ LP.out ?_);(next=>rfl)))
 refine cE.mono ?_;rintro e w1 (⟨A,k,c,l,rfl,hb,henc,b2⟩ | ⟨rfl,hno,b2⟩)
 ·have hB:=B1.out.trans (b2.mono B1.out.size);have S1:=hid (H.out.below hB);have c0:=S1.out.cells.1;have cW:=Disk.k3a w1 B.sb B.bl B.bc d n A k c l hb.len hb.row (fun hne=>j3l S1.out.dev hb hne) S1.out.dev;have M1:=hid (g0u (B:=B) hB);have HE:=hid henc;clear hb henc b2 hB cE LP B1 H;go_wp2_with fail
  refine cW.mono ?_;rintro e w2 ⟨rfl,hd,hm⟩;have FIN:=hid (show Sto w2 B (d.write n l) t a/\Mod B.all w w2 from ⟨S1.out.withDev hd hm (j5l _ _ _),M1.out.trans (hm.mono (by
   intro x hx;simp only [Blk.all,List.mem_cons,List.not_mem_nil,or_false] at hx ⊢;rcases hx with h | h | h <;> simp [h]))⟩)
  clear hd hm S1 M1 c0 cW;go_wp2_with fail
  go_ret
  exact ⟨_,_,rfl,.inl ⟨l,HE.out,rfl,rfl⟩,FIN.out⟩
 ·have hB:=B1.out.trans (b2.mono B1.out.size);have FIN:=hid (show Sto w1 B d t a/\Mod B.all w w1 from ⟨H.out.below hB,g0u hB⟩);have HN:=hid hno;clear b2 hB cE LP B1 H hno;go_wp2_with fail
  go_ret
  exact ⟨_,_,rfl,.inr ⟨HN.out,rfl,rfl⟩,FIN.out⟩
def p2u (d:St) (n:Int) (w:World) (e:Ending) (w':World):Prop:=Below w.heap.size w w' /\
 ((d.readE n≠0/\e=.returned (.tuple #[g6o,numV (d.readE n)])) \/
  (d.readE n=0/\((∃ p y,e=.returned (.tuple #[pgV p y,numV 0])/\g0c w' p y/\PgOk p/\g0v n (d.readB n) p/\Page.New p y w.heap.size)\/(e=.returned (.tuple #[g6o,numV 50])/\∀ p,¬ g0v n (d.readB n) p))))
theorem j8j {w':World} {l:Disk.Bs} {A:Option Addr} (hl:l.length<=1024) (hR:Disk.BRow w' A l) (hA:A=none->l=[]):BytesAt w' A l.length l.length l :=
 ⟨rfl,Nat.le_refl _,by unfold maxLen;omega,fun e=>by rw [hA e];rfl,hR⟩
theorem k3k {w:World} {sb bl bc:Nat} {s:St} (h:Dev w sb bl bc s) (n:Int):(s.readB n).length<=1024:=by
 unfold St.readB
 split
 ·simp
 ·split
  ·unfold St.get;cases e:s.C n with
   | none=>exact Nat.le_of_eq (h.last.getD_len n)
   | some l=>exact Nat.le_of_eq (h.cache.fit n l e).2.2
  ·simp
theorem h3q {w:World} {sb bl bc:Nat} {d:St} (h:Dev w sb bl bc d) (n:Int):Calls Tryz.prog 113 #[ptr sb,.int .i64 n] w (p2u d n w):=by
 have b1:=Pool.g0a w (.cells pgZ 103);have cR:=Disk.k7j (w.alloc (.cells pgZ 103)) sb bl bc d n (h.below b1);have BL:=hid (k3k h n);have B1:=hid b1;have AZ:=hid (at_new w pgZ 103);clear b1 h;obtain ⟨W0,hW0⟩:∃ W0,w.alloc (.cells pgZ 103)=W0:=⟨_,rfl⟩;rw [hW0] at cR B1 AZ;unfold pgZ at hW0;unfold p2u;generalize d.readB n=l at *;generalize d.readE n=er at *;go_enter Tryz.func113,Tryz.ntmps113
 go_wp2_with fail
 refine cR.mono ?_;rintro e w1 ⟨A,rfl,hr,hA,hnew,b2⟩;have AZ1:=hid (AZ.out.below b2 AZ.out.1);have B2:=hid (B1.out.trans (b2.mono B1.out.size))
 by_cases he:er=0
 ·have d1:(er != 0)=false:=by simp [he]
  have cD:=Page.j8p n A l.length l.length l w1 (j8j BL.out hr hA);have HE:=hid he;clear he hr hA hnew b2 cR BL AZ B1 hW0;go_wp2_with fail
  refine cD.mono ?_;rintro e w2 ⟨b3,hd⟩;have B3:=hid (B2.out.trans (b3.mono B2.out.size));have AZ2:=hid (AZ1.out.below b3 AZ1.out.1);rcases hd with ⟨p,y,rfl,hr,ho,hq,hw⟩ | ⟨rfl,hno⟩
  ·have R:=hid (g1e (o:=0) AZ2.out p y (by simp));have A4:=hid (show At (w2.setCells w.heap.size 0 (pgC p y).toList) w.heap.size (pgC p y) from g2o AZ2.out (by simp) rfl);have B4:=hid (B3.out.grown (g0n (pgC p y).toList 0 w2 w.heap.size) B3.out.size (fun k hk=>by cases hk;exact Nat.le_refl _));have NB:=hid (show g0c (w2.setCells w.heap.size 0 (pgC p y).toList) p y from hr.apart (g0n (pgC p y).toList 0 w2 w.heap.size) hw AZ1.out.1)
   have L:=hid (g2s (o:=0) A4.out p y rfl);have HO:=hid ho;have HQ:=hid hq;have HW:=hid (hw.mono B2.out.size);obtain ⟨pv,hpv⟩:∃ pv,pgV p y=pv:=⟨_,rfl⟩;rw [hpv] at R L ⊢;have PV:=hid hpv;clear hr ho hq hw b3 cD AZ1 AZ2 B2 A4 B3 hpv;generalize w2.setCells w.heap.size 0 (pgC p y).toList=W9 at *;go_wp2_with (first | ((with_reducible refine Disk.g0b rfl 103 (.tmp 4) (.tmp 21) rfl _ _ ?_ ?_ R.out ?_);(next=>rfl);(next=>rfl)))
   refine bodyPost_ret (g1m rfl rfl L.out) rfl ?_;exact ⟨B4.out,.inr ⟨HE.out,.inl ⟨p,y,by rw [PV.out];rfl,NB.out,HO.out,HQ.out,HW.out⟩⟩⟩
  ·have R:=hid (g1e (o:=0) AZ2.out {kind:=0} {} (by simp));have A4:=hid (show At (w2.setCells w.heap.size 0 (pgC {kind:=0} {}).toList) w.heap.size (pgC {kind:=0} {}) from g2o AZ2.out (by simp) rfl);have B4:=hid (B3.out.grown (g0n (pgC {kind:=0} {}).toList 0 w2 w.heap.size) B3.out.size (fun k hk=>by cases hk;exact Nat.le_refl _));have L:=hid (g2s (o:=0) A4.out {kind:=0} {} rfl)
   have HN:=hid hno;obtain ⟨pv,hpv⟩:∃ pv,g6o=pv:=⟨_,rfl⟩;have hpv':pgV {kind:=0} {}=pv:=hpv;rw [hpv'] at R L ⊢;have PV:=hid hpv;clear hno b3 cD AZ1 AZ2 B2 A4 B3 hpv hpv';generalize w2.setCells w.heap.size 0 (pgC {kind:=0} {}).toList=W9 at *;go_wp2_with (first | ((with_reducible refine Disk.g0b rfl 103 (.tmp 4) (.tmp 21) rfl _ _ ?_ ?_ R.out ?_);(next=>rfl);(next=>rfl)))
   refine bodyPost_ret (g1m rfl rfl L.out) rfl ?_;exact ⟨B4.out,.inr ⟨HE.out,.inr ⟨by rw [PV.out];rfl,HN.out⟩⟩⟩
 ·have d1:(er != 0)=true:=by simp [he]
  have R:=hid (g1e (o:=0) AZ1.out {kind:=0} {} (by simp));have A4:=hid (show At (w1.setCells w.heap.size 0 (pgC {kind:=0} {}).toList) w.heap.size (pgC {kind:=0} {}) from g2o AZ1.out (by simp) rfl);have B4:=hid (B2.out.grown (g0n (pgC {kind:=0} {}).toList 0 w1 w.heap.size) B2.out.size (fun k hk=>by cases hk;exact Nat.le_refl _));have L:=hid (g2s (o:=0) A4.out {kind:=0} {} rfl)
  have HE:=hid he;clear he hr hA hnew b2 cR BL AZ B1 hW0 AZ1 A4 B2;generalize w1.setCells w.heap.size 0 (pgC {kind:=0} {}).toList=W9 at *;go_wp2_with (first | ((with_reducible refine Disk.g0b rfl 103 (.tmp 4) (.tmp 16) rfl _ _ ?_ ?_ R.out ?_);(next=>rfl);(next=>rfl)))
  refine bodyPost_ret (g1m rfl rfl L.out) rfl ?_;exact ⟨B4.out,.inl ⟨HE.out,rfl⟩⟩
end Go.Proofs.YtglejnkoojpelaaGreat.Store
