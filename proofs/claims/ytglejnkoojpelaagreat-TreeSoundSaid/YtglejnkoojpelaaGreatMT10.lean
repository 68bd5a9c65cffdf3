import Derived.Test.YtglejnkoojpelaaGreatMT9
import Derived.Test.YtglejnkoojpelaaGreatMT2
set_option maxRecDepth 100000
set_option maxHeartbeats 32000000
namespace Go.Proofs.YtglejnkoojpelaaGreat.Tree
open Go.RowKit Gen
open Disk (St Dev Mod ptr)
open Page (Pg Lay less Enc g0v Lt g1l g3h Fine)
open Store
open Lib (hid)
structure Ripe (p:Pg):Prop where
 form:p=g0j p.pairs\/p=g0f p.keys p.kids
 len:g0o p<=2*g1j p
 pairs:∀ x∈p.pairs,g3h x.1/\x.2.length<=100
 keys:∀ k∈p.keys,g3h k
 kids:∀ n∈p.kids,Page.Place n
theorem Ripe.epoch {p:Pg} (h:Ripe p):p.epoch=0:=by
 rcases h.form with e | e <;> rw [e]
theorem Ripe.kind {p:Pg} (h:Ripe p):p.kind=1\/p.kind=2:=by
 rcases h.form with e | e
 ·left;rw [e]
 ·right;rw [e]
theorem Ripe.four {p:Pg} (h:Ripe p):p.kind≠4:=by
 rcases h.kind with e | e <;> rw [e] <;> decide
theorem g8s {d:St} {m:Nat} {p:Pg} {y:Held} (h:Ripe p) (hv:VT d m p y) (hs:g1u y.1) (h0:g0o p≠0) (h1:g0o p<=g1j p):Fine p:=by
 rcases h.form with e | e
 ·have hk:p.kind=1:=by rw [e]
  obtain ⟨rfl,ey⟩:=k2x hv hk;unfold g0o at h0 h1;unfold g1j at h1;rw [if_pos hk] at h0 h1;rw [if_pos hk] at h1;refine (Page.h6f hk).2 ⟨⟨⟨by omega,h1⟩,fun x hx=>(h.pairs x hx).2,fun s hs=>?_,g8z.2 ?_⟩,by rw [e];rfl,by rw [e];rfl,by rw [e];rfl,by rw [e],by rw [e];exact ⟨rfl,rfl,rfl,rfl,rfl⟩⟩
  ·obtain ⟨x,hx,rfl⟩:=List.mem_map.1 hs;exact (h.pairs x hx).1
  ·rw [ey] at hs;exact hs
 ·have hk:p.kind=2:=by rw [e]
  have hk1:¬ p.kind=1:=by omega
  obtain ⟨q,rfl⟩:=j0v hv hk;unfold g0o at h0 h1;unfold g1j at h1;rw [if_neg hk1] at h0 h1;rw [if_neg hk1] at h1;exact (Page.g7x hk).2 ⟨⟨⟨by omega,h1⟩,hv.2.1,h.keys,h8y hv,h.kids⟩,by rw [e];rfl,by rw [e];rfl,by rw [e],by rw [e];exact ⟨rfl,rfl,rfl,rfl,rfl⟩⟩
theorem j3v {p:Pg} (h:Ripe p) (hf:g1j p<g0o p) :
 (Ripe (g3d p)/\g0p (g3d p)<=g0o (g3d p)/\g0o (g3d p)<=g1j (g3d p))/\(Ripe (g1t p)/\g0p (g1t p)<=g0o (g1t p)/\g0o (g1t p)<=g1j (g1t p))/\g3h (midK p):=by
 have hl:=h.len;rcases h.form with e | e
 ·have hk:p.kind=1:=by rw [e]
  have eL:g3d p=g0j (p.pairs.take (midP p)):=if_pos hk;have eR:g1t p=g0j (p.pairs.drop (midP p)):=if_pos hk;have eM:midP p=(p.pairs.length+1) / 2:=if_pos hk;unfold g0o g1j at hf hl;rw [if_pos hk,if_pos hk] at hf hl;have hm:midP p<p.pairs.length:=by omega
  have eK:midK p=(p.pairs[midP p]).1:=by unfold midK;rw [if_pos hk,List.getElem?_eq_getElem hm];rfl
  rw [eL,eR,eK];have f1:∀ l:List (Disk.Bs×Disk.Bs),g0o (g0j l)=l.length:=fun l=>if_pos rfl
  have f2:∀ l:List (Disk.Bs×Disk.Bs),g1j (g0j l)=6:=fun l=>if_pos rfl
  have f3:∀ l:List (Disk.Bs×Disk.Bs),g0p (g0j l)=3:=fun l=>if_pos rfl
  refine ⟨⟨⟨.inl rfl,?_,fun x hx=>h.pairs x (List.mem_of_mem_take hx),fun k hk=>(by cases hk),fun n hn=>by cases hn⟩,?_,?_⟩,⟨⟨.inl rfl,?_,fun x hx=>h.pairs x (List.mem_of_mem_drop hx),fun k hk=>(by cases hk),fun n hn=>by cases hn⟩,?_,?_⟩,(h.pairs _ (List.getElem_mem hm)).1⟩ <;> simp only [f1,f2,f3,List.length_take,List.length_drop] <;> omega
 ·have hk:p.kind=2:=by rw [e]
  have hk1:¬ p.kind=1:=by omega
  have eL:g3d p=g0f (p.keys.take (midP p)) (p.kids.take (midP p+1)):=by
   have:g3d p={kind:=p.kind,keys:=p.keys.take (midP p),kids:=p.kids.take (midP p+1)}:=if_neg hk1;rw [this,hk]
  have eR:g1t p=g0f (p.keys.drop (midP p+1)) (p.kids.drop (midP p+1)):=by
   have:g1t p={kind:=p.kind,keys:=p.keys.drop (midP p+1),kids:=p.kids.drop (midP p+1)}:=if_neg hk1;rw [this,hk]
  have eM:midP p=p.keys.length / 2:=if_neg hk1;unfold g0o g1j at hf hl;rw [if_neg hk1,if_neg hk1] at hf hl;have hm:midP p<p.keys.length:=by omega
  have eK:midK p=p.keys[midP p]:=by unfold midK;rw [if_neg hk1,List.getElem?_eq_getElem hm];rfl
  rw [eL,eR,eK];have n1:¬ (2:Int)=1:=by decide
  have f1:∀ l n,g0o (g0f l n)=l.length:=fun l n=>if_neg n1
  have f2:∀ l n,g1j (g0f l n)=12:=fun l n=>if_neg n1
  have f3:∀ l n,g0p (g0f l n)=6:=fun l n=>if_neg n1
  refine ⟨⟨⟨.inr rfl,?_,fun x hx=>(by cases hx),fun k hk=>h.keys k (List.mem_of_mem_take hk),fun n hn=>h.kids n (List.mem_of_mem_take hn)⟩,?_,?_⟩,⟨⟨.inr rfl,?_,fun x hx=>(by cases hx),fun k hk=>h.keys k (List.mem_of_mem_drop hk),fun n hn=>h.kids n (List.mem_of_mem_drop hn)⟩,?_,?_⟩,h.keys _ (List.getElem_mem hm)⟩ <;> simp only [f1,f2,f3,List.length_take,List.length_drop] <;> omega
open Page (Pg Lay PgOk g0c pgC pgV Enc g0v BytesAt)
open Pool (Po NAt PoAt La poC poV numV At g0k g1g g1k g2m g0g OwnI chunks layAll May lay1 g3u g9e)
def g1b (t:T) (N:Int):Nat:=t.pool.free.length+(N-t.pool.high).toNat
def g3k (t:T) (ps:List Int):Nat:=(ps.filter (fun x=>!t.fresh x)).length
structure Book (t:T) (ps:List Int) (K:Nat):Prop where
 acct:Acct t ps
 cold:g3k t ps+t.pool.limbo.length<=K
theorem Book.perm {t:T} {ps qs:List Int} {K:Nat} (h:Book t ps K) (hp:ps.Perm qs):Book t qs K :=
 ⟨h.acct.perm hp,by have:=(hp.filter (fun x=>!t.fresh x)).length_eq;unfold g3k;rw [<- this];exact h.cold⟩
theorem h0r (t:T) (n:Int) (ps:List Int):g3k t (n :: ps)=(if t.fresh n=true then 0 else 1)+g3k t ps:=by
 unfold g3k;rw [List.filter_cons];cases t.fresh n <;> simp <;> omega
theorem j2s {t t':T} {n:Int} {v:Bool} {ps:List Int} (h:∀ x∈ps,x≠n) (hf:t'.fresh=fup t.fresh n v):g3k t' ps=g3k t ps:=by
 unfold g3k
 congr 1
 refine List.filter_congr fun x hx=>?_
 rw [hf,fup,if_neg (h x hx)]
theorem p0x {t t':T} {ps:List Int} (hf:t'.fresh=t.fresh):g3k t' ps=g3k t ps:=by
 unfold g3k;rw [hf]
theorem h2s {t:T} {N:Int} (hk:g0g t.pool N):((g0h t N).2.2=0/\(g0h t N).1.fresh=t.fresh/\(g0h t N).1.pool.limbo=t.pool.limbo/\g1b t N=g1b (g0h t N).1 N+1)\/((g0h t N).2.2=60/\g1b t N=0):=by
 by_cases h0:(g0k t.pool N).2.2=0
 ·left
  rw [g0h,if_pos h0];refine ⟨rfl,rfl,(h0k hk h0).2.2.2.2.2.1,?_⟩;have ht:=hk.top;unfold g1b;show _=(g0k t.pool N).1.free.length+(N-(g0k t.pool N).1.high).toNat+1;unfold g0k at *;rcases hfr:t.pool.free with _ | ⟨x,fs⟩
  ·rw [hfr] at h0;simp only at h0 ⊢
   by_cases hm:N<=t.pool.high
   ·rw [if_pos hm] at h0;simp at h0
   ·rw [if_neg hm];simp only [List.length_nil];omega
  ·simp only [List.length_cons];omega
 ·right
  have h1:(g0h t N).2.2≠0:=by rw [g0h,if_neg h0];exact h0
  refine ⟨(k5x h1).1,?_⟩;unfold g1b;unfold g0k at h0;rcases hfr:t.pool.free with _ | ⟨x,fs⟩
  ·rw [hfr] at h0;simp only at h0 ⊢
   by_cases hm:N<=t.pool.high
   ·simp only [List.length_nil];omega
   ·rw [if_neg hm] at h0;simp at h0
  ·rw [hfr] at h0;simp at h0
theorem h2j {t:T} {n:Int} {ps:List Int} (h:Acct t (n :: ps)) (N:Int):g1b (g2k t n).1 N=g1b t N/\(g2k t n).1.fresh=t.fresh/\(g2k t n).1.pool.limbo.length=t.pool.limbo.length+1:=by
 have hm:=h.may n (List.mem_cons_self ..);have e:g1g t.pool n=({high:=t.pool.high,free:=t.pool.free,limbo:=lay1 n t.pool.limbo},0):=by rw [g1g,if_pos hm]
 rw [g2k,e];exact ⟨rfl,rfl,g9e n t.pool.limbo⟩
theorem h7n {t:T} {n:Int} {ps:List Int} (h:Acct t (n :: ps)) (N:Int):g1b (g2r t n).1 N=g1b t N+1/\(g2r t n).1.fresh=t.fresh/\(g2r t n).1.pool.limbo=t.pool.limbo:=by
 have hm:=h.may n (List.mem_cons_self ..);have e:g1k t.pool n=({high:=t.pool.high,free:=lay1 n t.pool.free,limbo:=t.pool.limbo},0):=by rw [g1k,if_pos hm]
 rw [g2r,e];refine ⟨?_,rfl,rfl⟩;unfold g1b;show (lay1 n t.pool.free).length + _=_;rw [g9e];show t.pool.free.length+1+(N-t.pool.high).toNat=_;omega
theorem Book.drop {t:T} {n:Int} {ps:List Int} {K:Nat} (h:Book t (n :: ps) K) (N:Int):(g1n t n).2=0/\Book (g1n t n).1 ps K/\g1b t N<=g1b (g1n t n).1 N:=by
 obtain ⟨a1,a2⟩:=h.acct.drop;refine ⟨a1,⟨a2,?_⟩,?_⟩
 ·have hc:=h.cold;rw [h0r] at hc;rw [g1n]
  split
  ·rename_i hf
   rw [if_pos hf] at hc;rw [if_pos h.acct.back.1];obtain ⟨-,b2,b3⟩:=h7n h.acct N;have e:g3k (frT (g2r t n).1 n false) ps=g3k t ps:=j2s (t:=t) (n:=n) (v:=false) (fun x hx=>h.acct.ne (List.mem_append_left _ hx)) (by show fup (g2r t n).1.fresh n false=_;rw [b2]);show g3k (frT (g2r t n).1 n false) ps+(g2r t n).1.pool.limbo.length<=K;rw [e,b3];omega
  ·rename_i hf
   rw [if_neg hf] at hc;obtain ⟨-,b2,b3⟩:=h2j h.acct N;rw [p0x b2,b3];omega
 ·rw [g1n]
  split
  ·rw [if_pos h.acct.back.1];have:=(h7n h.acct N).1;show g1b t N<=g1b (g2r t n).1 N;omega
  ·have:=(h2j h.acct N).1;omega
theorem Book.place {t:T} {N old:Int} {ps qs:List Int} {K:Nat} (h:Book t qs K) (hk:g0g t.pool N) (hq:(old≠0/\qs=old :: ps)\/(old=0/\qs=ps)) (h0:t.fresh 0=false) :
 ((g0x t N old).2.2=0/\Book (g0x t N old).1 ((g0x t N old).2.1 :: ps) K/\g1b t N<=g1b (g0x t N old).1 N+1)\/((g0x t N old).2.2=60/\g1b t N=0):=by
 by_cases hf:t.fresh old=true
 ·rcases hq with ⟨-,rfl⟩ | ⟨rfl,-⟩
  ·rw [g0x,if_pos hf];exact .inl ⟨rfl,h,by show g1b t N<=g1b t N+1;omega⟩
  ·rw [h0] at hf;cases hf
 rcases h2s hk with ⟨g1,g2,g3,g4⟩ | ⟨g1,g2⟩
 ·left
  have hc:=h.cold;have ak:=h.acct.take hk g1;rcases hq with ⟨hne,rfl⟩ | ⟨rfl,rfl⟩
  ·rw [g0x,if_neg hf,if_pos g1,if_neg hne];have a1:=ak.perm (List.Perm.swap _ _ _);obtain ⟨b0,b1⟩:=a1.give;obtain ⟨c1,c2,c3⟩:=h2j a1 N;rw [if_pos b0];rw [h0r,if_neg hf] at hc;refine ⟨rfl,⟨b1.fr _ _,?_⟩,?_⟩
   ·rw [h0r];have e:g3k (frT (g2k (g0h t N).1 old).1 (g0h t N).2.1 true) ps=g3k t ps:=j2s (t:=t) (n:=(g0h t N).2.1) (v:=true) (fun x hx=>ak.ne (List.mem_append_left _ (List.mem_cons_of_mem _ hx))) (by show fup (g2k (g0h t N).1 old).1.fresh _ true=_;rw [c2,g2]);have e2:(frT (g2k (g0h t N).1 old).1 (g0h t N).2.1 true).fresh (g0h t N).2.1=true:=j0m _ _ _;show (if (frT (g2k (g0h t N).1 old).1 (g0h t N).2.1 true).fresh (g0h t N).2.1=true then 0 else 1)+g3k (frT (g2k (g0h t N).1 old).1 (g0h t N).2.1 true) ps+(g2k (g0h t N).1 old).1.pool.limbo.length<=K
    rw [if_pos e2,e,c3,g3];omega
   ·show g1b t N<=g1b (g2k (g0h t N).1 old).1 N+1;omega
  ·rw [g0x,if_neg hf,if_pos g1,if_pos rfl];refine ⟨rfl,⟨ak.fr _ _,?_⟩,?_⟩
   ·rw [h0r];have e:g3k (frT (g0h t N).1 (g0h t N).2.1 true) qs=g3k t qs:=j2s (t:=t) (n:=(g0h t N).2.1) (v:=true) (fun x hx=>ak.ne (List.mem_append_left _ hx)) (by show fup (g0h t N).1.fresh _ true=_;rw [g2]);have e2:(frT (g0h t N).1 (g0h t N).2.1 true).fresh (g0h t N).2.1=true:=j0m _ _ _;show (if (frT (g0h t N).1 (g0h t N).2.1 true).fresh (g0h t N).2.1=true then 0 else 1)+g3k (frT (g0h t N).1 (g0h t N).2.1 true) qs+(g0h t N).1.pool.limbo.length<=K
    rw [if_pos e2,e,g3];omega
   ·show g1b t N<=g1b (g0h t N).1 N+1;omega
 ·right
  refine ⟨?_,g2⟩;rw [g0x,if_neg hf,if_neg (by rw [g1];decide)];exact g1
theorem h7r {d:St} {t:T} (h:Pre d t):t.fresh 0=false:=by
 cases e:t.fresh 0
 ·rfl
 ·have:=(h.inv.fresh 0 e).1;omega
theorem k6n {d d':St} {t t':T} {old n e:Int} {p:Pg} {ps qs:List Int} {K:Nat} (hp:Pre d t) (hc:Store.Calm d) (h:LayR d t old p d' t' n e) (hf:Page.Fine p) (hk:p.kind≠4) (hep:p.epoch<18446744073709551616) (hb:Book t qs K) (hq:(old≠0/\qs=old :: ps)\/(old=0/\qs=ps)) :
 (e=60/\g1b t d.n=0)\/(e=0/\p3c d t p d' t' n ps/\Book t' (n :: ps) K/\g1b t d.n<=g1b t' d.n+1):=by
 have hpl:=hb.place hp.pk hq (h7r hp);have hg:=k9f (ps:=ps) hp hc h hf hk hep (by
  rcases hpl with ⟨h0,h1,-⟩ | ⟨h0,-⟩
  ·exact .inl ⟨h0,h1.acct⟩
  ·exact .inr h0)
 rcases hg with ⟨rfl,-⟩ | ⟨rfl,ho⟩
 ·left
  refine ⟨rfl,?_⟩;rcases hpl with ⟨h0,-⟩ | ⟨-,h1⟩
  ·exfalso
   have e2:∃ l,Enc 2 p l:=g5z ⟨by omega,by omega⟩ hf hk;rcases h with ⟨hno,-⟩ | ⟨-,⟨hx,-⟩ | ⟨-,x,hw,hx⟩⟩
   ·obtain ⟨l,hl⟩:=e2;exact hno l hl
   ·exact hx h0
   ·have hk1:=h0e hp.pk old;have hm:Pool.May _ _:=(show Acct _ _ from (by
     rcases hb.place hp.pk hq (h7r hp) with ⟨-,h1,-⟩ | ⟨h1,-⟩
     ·exact h1.acct
     ·rw [h0] at h1;exact absurd h1 (by decide))).may _ (List.mem_cons_self ..)
    have hlt:(g0x t d.n old).2.1<d.n:=Int.lt_of_lt_of_le hm.1.2 hk1.top;have hnn:=hp.nle;have em:∃ l,Enc (g0x t d.n old).2.1 p l:=g5z ⟨hm.1.1,by omega⟩ hf hk;have hx0:=g5c hw hc (by have:=hm.1.1;show 0<=_;omega) hlt em;rcases hx with ⟨-,-,-,hx⟩ | ⟨hx,-⟩
    ·exact absurd hx (by decide)
    ·exact hx hx0
  ·exact h1
 ·right
  refine ⟨rfl,ho,?_⟩;rcases h with ⟨-,-,-,-,hx⟩ | ⟨-,⟨hx,-,-,-,hy⟩ | ⟨h0,x,hw,hx⟩⟩
  ·exact absurd hx (by decide)
  ·exact absurd hy.symm hx
  ·rcases hx with ⟨-,rfl,rfl,-⟩ | ⟨hx,-,-,hy⟩
   ·rcases hpl with ⟨-,h1⟩ | ⟨h1,-⟩
    ·exact h1
    ·rw [h0] at h1;exact absurd h1 (by decide)
   ·exact absurd hy.symm hx
structure Went (d:St) (t:T) (d':St) (t':T) (keep:List Int):Prop where
 pre:Pre d' t'
 calm:Store.Calm d'
 sz:d'.n=d.n
 part:Part t t'
 get:∀ x∈keep,d'.get x=d.get x
theorem Went.trans {d d1 d2:St} {t t1 t2:T} {k1 k2 k:List Int} (h:Went d t d1 t1 k1) (g:Went d1 t1 d2 t2 k2) (s1:∀ x∈k,x∈k1) (s2:∀ x∈k,x∈k2):Went d t d2 t2 k :=
 ⟨g.pre,g.calm,g.sz.trans h.sz,h.part.trans g.part,fun x hx=>(g.get x (s2 x hx)).trans (h.get x (s1 x hx))⟩
theorem Book.ne {t:T} {n:Int} {ps:List Int} {K:Nat} (h:Book t (n :: ps) K) {x:Int} (hx:x∈ps):x≠n:=h.acct.ne (List.mem_append_left _ hx)
theorem Book.place_ {t:T} {ps:List Int} {K N:Nat} (h:Book t ps K) (hk:Pool.g0g t.pool (N:Int)) (hN:N<=4096) {n:Int} (hn:n∈ps):Page.Place n:=by
 have hm:=h.acct.may n hn;have h1:2<=n/\n<t.pool.high:=hm.1;have h2:=hk.top;exact ⟨h1.1,by omega⟩
theorem Book.nz {t:T} {ps:List Int} {K:Nat} (h:Book t ps K) {n:Int} (hn:n∈ps):n≠0:=by
 have hm:=h.acct.may n hn;have h1:2<=n/\n<t.pool.high:=hm.1;omega
theorem g5x {d d':St} {t t':T} {old n e:Int} {m:Nat} {q:Pg} {z:Held} {rest qs:List Int} {K:Nat} (hp:Pre d t) (hc:Store.Calm d) (hv:VT d m q z) (hr:Ripe q) (hf:Fine q)
 (hb:Book t qs K) (hq:(old≠0/\qs=old :: (z.2++rest))\/(old=0/\qs=z.2++rest)) (h:LayR d t old q d' t' n e) :
 (e=60/\g1b t d.n=0)\/(e=0/\IsT d' m n (z.1,n :: z.2)/\(g0p q<=g0o q->g6i d' n)/\Book t' (n :: (z.2++rest)) K/\g1b t d.n<=g1b t' d.n+1/\Went d t d' t' (z.2++rest)):=by
 rcases k6n (ps:=z.2++rest) hp hc h hf hr.four (by rw [hr.epoch];decide) hb hq with h60 | ⟨e0,o,b,av⟩
 ·exact .inl h60
 right
 have hg:∀ x∈z.2++rest,d'.get x=d.get x:=fun x hx=>o.get x (b.ne hx)
 have hv':VT d' m q z:=hv.keep hc o.calm o.sz (fun k hk=>hg k (List.mem_append_left _ hk));have hpg:=o.pg;refine ⟨e0,j4i.2 ⟨q,z,?_,hv',rfl⟩,fun hl=>⟨_,q,hpg,hl⟩,b,av,o.pre,o.calm,o.sz,o.part,hg⟩;rw [<- hv.kind];exact hpg
theorem j7y {N:Int} {n K:Nat} {t t1:T} {os os1 ps:List Int} {x:Int} (h:h2n n t os t1 os1 x):∀ {d:St},Pre d t->Book t (os++ps) K->x=0/\os1=os.take n/\Book t1 (os1++ps) K/\Pre d t1/\Part t t1/\g1b t N<=g1b t1 N:=by
 have key:∀ {t:T} {os:List Int},n<os.length->Book t (os++ps) K->(g1n t (os[os.length-1]?.getD 0)).2=0/\Book (g1n t (os[os.length-1]?.getD 0)).1 (os.take (os.length-1)++ps) K/\g1b t N<=g1b (g1n t (os[os.length-1]?.getD 0)).1 N:=fun {t os} hl hb=>by
  have h1:os.length-1<os.length:=by omega
  rw [List.getElem?_eq_getElem h1];refine Book.drop (ps:=os.take (os.length-1)++ps) (hb.perm ?_) N;show (os++ps).Perm (os[os.length-1] :: (os.take (os.length-1)++ps));have e:os=os.take (os.length-1)++[os[os.length-1]]:=by
   rw [<- List.take_succ_eq_append_getElem h1,List.take_of_length_le (by omega)]
  have e2:os++ps=os.take (os.length-1)++([os[os.length-1]]++ps):=by
   rw [<- List.append_assoc,<- e]
  rw [e2];exact List.perm_middle
 induction h with
 | done hl=>exact fun hp hb=>⟨rfl,(List.take_of_length_le hl).symm,hb,hp,Part.refl _,Nat.le_refl _⟩
 | fail hl hd hx=>exact fun hp hb=>absurd ((key hl hb).1.symm.trans hd).symm hx
 | @step t os t' os' x hl hd _ ih =>
  intro d hp hb;obtain ⟨-,b1,a1⟩:=key hl hb;have st:=(Pre.refl hp).drop (os[os.length-1]?.getD 0);obtain ⟨g1,g2,g3,g4,g5,g6⟩:=ih (st.pre hp) b1;refine ⟨g1,?_,g3,g4,st.part.trans g5,by omega⟩;rw [g2,List.take_take,Nat.min_eq_left (by omega)]
theorem h5e {d d':St} {t t':T} {m K:Nat} {p:Pg} {y:Held} {os rest ns:List Int} {ks:List Disk.Bs} {x:Int} (hp:Pre d t) (hc:Store.Calm d) (hv:VT d m p y) (hr:Ripe p) (hs:g1u y.1) (h0:g0o p≠0) (ho:os.length=1\/os.length=2)
 (hb:Book t (os++(y.2++rest)) K) (h:g2n d t p os d' t' ks ns x) :
 (x=60/\g1b t d.n<=1)\/(x=0/\∃ L:List Held,L.length=ns.length/\ns.length=ks.length+1/\ks.length<=1/\(∀ (i:Nat) (n:Int) (z:Held),ns[i]?=some n->L[i]?=some z->IsT d' m n z/\(g0p p<=g0o p->g6i d' n))/\g3q ks L/\L.flatMap (·.1)=y.1/\(∀ k∈ks,g3h k)/\(ks≠[]->g1j p<g0o p)/\Book t' (L.flatMap (·.2)++rest) K/\g1b t d.n<=g1b t' d.n+2/\Went d t d' t' rest):=by
 obtain ⟨t1,os1,x1,hD,hR⟩:=h;obtain ⟨rfl,e1,b1,p1,pt1,av1⟩:=j7y (N:=d.n) hD hp hb;rcases hR with ⟨hx,-⟩ | ⟨-,hL,hks⟩
 ·exact absurd rfl hx
 by_cases hf:g1j p<g0o p
 ·have eP:g4h p=[g3d p,g1t p]:=if_pos hf;have eK:g6m p=[midK p]:=if_pos hf;rw [eP] at hL e1;rw [List.take_of_length_le (by simp;omega)] at e1;obtain ⟨⟨rl,l1,l2⟩,⟨rr,r1,r2⟩,kk⟩:=j3v hr hf;obtain ⟨y1,y2,v1,v2,f1,f2,k1,k2⟩:=k2u hv hf (fun e=>by
   subst e;have e:=hv.2;rw [e] at hs;exact g8z.2 hs) (fun e=>by
   match m,hv,e with
   | 0,hv,_=>exact hv.elim
   | 1,_,e=>exact absurd rfl e
   | m+2,hv,_=>exact h8y hv)
  have hs':=hs;rw [f1] at hs';obtain ⟨s1,s2,-⟩:=g4g.1 hs';have z1:g0p (g3d p)≠0:=by unfold g0p;split <;> omega
  have z2:g0p (g1t p)≠0:=by unfold g0p;split <;> omega
  have F1:=g8s rl v1 s1 (by omega) l2;have F2:=g8s rr v2 s2 (by omega) r2;obtain ⟨o,os',eo⟩:∃ o os',os=o :: os':=by
   rcases os with _ | ⟨o,os'⟩
   ·simp at ho
   ·exact ⟨o,os',rfl⟩
  rw [e1,eo,f2] at b1;have n0:o≠0:=b1.nz (by simp);have B1:Book t1 (o :: (y1.2++(os'++(y2.2++rest)))) K:=b1.perm (by
   simp only [List.cons_append,List.append_assoc];refine List.Perm.cons _ ?_;have:=(List.perm_append_comm (l₁:=os') (l₂:=y1.2)).append_right (y2.2++rest)
   simpa using this)
  rw [e1,eo] at hL;have go1:∀ {d1:St} {t2:T} {n e:Int},LayR d t1 o (g3d p) d1 t2 n e->(e=60/\g1b t1 d.n=0)\/(e=0/\IsT d1 m n (y1.1,n :: y1.2)/\(g0p (g3d p)<=g0o (g3d p)->g6i d1 n)/\Book t2 (n :: (y1.2++(os'++(y2.2++rest)))) K/\g1b t1 d.n<=g1b t2 d.n+1/\Went d t1 d1 t2 (y1.2++(os'++(y2.2++rest)))):=fun h=>g5x p1 hc v1 rl F1 B1 (.inl ⟨n0,rfl⟩) h
  cases hL with
  | done h=>simp at h
  | fail hb hl hx =>
   simp only [List.getElem?_cons_zero,Option.some.injEq] at hb;subst hb;rcases go1 hl with ⟨g1,g2⟩ | ⟨g1,-⟩
   ·exact .inl ⟨g1,by omega⟩
   ·exact absurd g1 hx
  | @step _ _ _ _ _ d1 t2 n1 _ _ _ _ hb hl hL =>
   simp only [List.getElem?_cons_zero,Option.some.injEq] at hb;subst hb;rcases go1 hl with ⟨g1,-⟩ | ⟨-,i1,st1,b2,av2,w1⟩
   ·exact absurd g1 (by decide)
   have v2':VT d1 m (g1t p) y2:=v2.keep hc w1.calm w1.sz (fun k hk=>w1.get k (by simp [hk]));have go2:∀ {d2:St} {t3:T} {n e:Int},LayR d1 t2 (os'[0]?.getD 0) (g1t p) d2 t3 n e->(e=60/\g1b t2 d1.n=0)\/(e=0/\IsT d2 m n (y2.1,n :: y2.2)/\(g0p (g1t p)<=g0o (g1t p)->g6i d2 n)/\Book t3 (n :: (y2.2++(n1 :: (y1.2++rest)))) K/\g1b t2 d1.n<=g1b t3 d1.n+1/\Went d1 t2 d2 t3 (y2.2++(n1 :: (y1.2++rest)))):=fun h=>by
    rcases os' with _ | ⟨o',os''⟩
    ·refine g5x w1.pre w1.calm v2' rr F2 (qs:=y2.2++(n1 :: (y1.2++rest))) (b2.perm ?_) (.inr ⟨rfl,rfl⟩) h;simp only [List.nil_append];refine List.Perm.trans (List.Perm.cons _ ?_) List.perm_middle.symm;have:=(List.perm_append_comm (l₁:=y1.2) (l₂:=y2.2)).append_right rest
     simpa using this
    ·have:os''=[]:=by rw [eo] at ho;rcases os'' with _ | _ <;> simp at ho ⊢
     subst this;have n0':o'≠0:=b2.nz (by simp);refine g5x w1.pre w1.calm v2' rr F2 (qs:=o' :: (y2.2++(n1 :: (y1.2++rest)))) (b2.perm ?_) (.inl ⟨n0',rfl⟩) h;refine List.Perm.trans (l₂:=n1 :: o' :: (y2.2++(y1.2++rest))) (List.Perm.cons _ ?_) ?_
     ·refine List.Perm.trans (l₂:=o' :: (y1.2++(y2.2++rest))) ?_ (List.Perm.cons _ ?_)
      ·exact List.perm_middle
      ·have:=(List.perm_append_comm (l₁:=y1.2) (l₂:=y2.2)).append_right rest
       simpa using this
     ·exact (List.Perm.swap _ _ _).trans (List.Perm.cons _ List.perm_middle.symm)
   cases hL with
   | done h=>simp at h
   | fail hb hl hx =>
    simp only [List.getElem?_cons_succ,List.getElem?_cons_zero,Option.some.injEq] at hb hl;subst hb;rcases go2 hl with ⟨g1,g2⟩ | ⟨g1,-⟩
    ·rw [w1.sz] at g2;exact .inl ⟨g1,by omega⟩
    ·exact absurd g1 hx
   | @step _ _ _ _ _ d2 t3 n2 _ _ _ _ hb hl hL =>
    simp only [List.getElem?_cons_succ,List.getElem?_cons_zero,Option.some.injEq] at hb hl;subst hb;rcases go2 hl with ⟨g1,-⟩ | ⟨-,i2,st2,b3,av3,w2⟩
    ·exact absurd g1 (by decide)
    cases hL with
    | fail hb _ _=>simp at hb
    | step hb _ _=>simp at hb
    | done _ =>
     rw [w1.sz] at av3;have i1':=i1.keep w1.calm w2.calm w2.sz (fun k hk=>w2.get k (by
      rcases List.mem_cons.1 hk with rfl | hk
      ·simp
      ·simp [hk]))
     have st1':=(st1 l1).keep w1.calm w2.calm w2.sz (w2.get n1 (by simp));refine .inr ⟨rfl,[(y1.1,n1 :: y1.2),(y2.1,n2 :: y2.2)],rfl,?_,?_,fun i n z hi hz=>?_,?_,?_,?_,fun _=>hf,?_,by omega,?_⟩
     ·rw [hks,if_pos rfl,eK];rfl
     ·rw [hks,if_pos rfl,eK];exact Nat.le_refl _
     ·match i,hi,hz with
      | 0,hi,hz=>cases hi;cases hz;exact ⟨i1',fun _=>st1'⟩
      | 1,hi,hz=>cases hi;cases hz;exact ⟨i2,fun _=>st2 r1⟩
      | i+2,hi,hz=>simp at hz
     ·rw [hks,if_pos rfl,eK];intro i hi;have:i=0:=by simpa using hi
      subst this;exact ⟨k1,k2⟩
     ·rw [f1];simp
     ·rw [hks,if_pos rfl,eK];intro k hk;rw [List.mem_singleton] at hk;rw [hk];exact kk
     ·refine b3.perm ?_;simp only [List.flatMap_cons,List.flatMap_nil,List.append_nil,List.cons_append,List.append_assoc];refine List.Perm.trans (List.Perm.cons _ List.perm_middle) (List.Perm.trans (List.Perm.swap _ _ _) (List.Perm.cons _ ?_));refine List.Perm.trans ?_ List.perm_middle.symm;refine List.Perm.cons _ ?_;have:=(List.perm_append_comm (l₁:=y2.2) (l₂:=y1.2)).append_right rest
      simpa using this
     ·exact (Went.mk p1 hc rfl pt1 (keep:=rest) (fun _ _=>rfl)).trans (w1.trans w2 (k:=rest) (fun x hx=>by simp [hx]) (fun x hx=>by simp [hx])) (fun _ h=>h) (fun _ h=>h)
 ·have eP:g4h p=[p]:=if_neg hf;have eK:g6m p=[]:=if_neg hf;rw [eP] at hL e1;obtain ⟨o,os',eo⟩:∃ o os',os=o :: os':=by
   rcases os with _ | ⟨o,os'⟩
   ·simp at ho
   ·exact ⟨o,os',rfl⟩
  have e1:os1=[o]:=by rw [e1,eo];rfl
  rw [e1] at b1 hL;have n0:o≠0:=b1.nz (by simp);have F:=g8s hr hv hs h0 (by omega);have go1:∀ {d1:St} {t2:T} {n e:Int},LayR d t1 o p d1 t2 n e->(e=60/\g1b t1 d.n=0)\/(e=0/\IsT d1 m n (y.1,n :: y.2)/\(g0p p<=g0o p->g6i d1 n)/\Book t2 (n :: (y.2++rest)) K/\g1b t1 d.n<=g1b t2 d.n+1/\Went d t1 d1 t2 (y.2++rest)):=fun h=>g5x p1 hc hv hr F b1 (.inl ⟨n0,rfl⟩) h
  cases hL with
  | done h=>simp at h
  | fail hb hl hx =>
   simp only [List.getElem?_cons_zero,Option.some.injEq] at hb;subst hb;rcases go1 hl with ⟨g1,g2⟩ | ⟨g1,-⟩
   ·exact .inl ⟨g1,by omega⟩
   ·exact absurd g1 hx
  | @step _ _ _ _ _ d1 t2 n1 _ _ _ _ hb hl hL =>
   simp only [List.getElem?_cons_zero,Option.some.injEq] at hb;subst hb;rcases go1 hl with ⟨g1,-⟩ | ⟨-,i1,st1,b2,av2,w1⟩
   ·exact absurd g1 (by decide)
   cases hL with
   | fail hb _ _=>simp at hb
   | step hb _ _=>simp at hb
   | done _ =>
    refine .inr ⟨rfl,[(y.1,n1 :: y.2)],rfl,?_,?_,fun i n z hi hz=>?_,?_,?_,?_,fun h=>absurd (by rw [hks,if_pos rfl,eK]) h,?_,by omega,?_⟩
    ·rw [hks,if_pos rfl,eK];rfl
    ·rw [hks,if_pos rfl,eK];exact Nat.zero_le _
    ·match i,hi,hz with
     | 0,hi,hz=>cases hi;cases hz;exact ⟨i1,st1⟩
     | i+1,hi,hz=>simp at hz
    ·rw [hks,if_pos rfl,eK];intro i hi;simp at hi
    ·simp
    ·rw [hks,if_pos rfl,eK];intro k hk;cases hk
    ·simpa using b2
    ·exact (Went.mk p1 hc rfl pt1 (keep:=rest) (fun _ _=>rfl)).trans w1 (fun _ h=>h) (fun x hx=>by simp [hx])
def Fit (ss:List Stp) (key k:Disk.Bs):Prop:=∀ s∈ss,g0y s.p.keys k=g0y s.p.keys key
inductive Ctx (d:St) (key:Disk.Bs) (r:Int) (M:Nat):Nat->Int->List Stp->Ents->Ents->List Int->Prop
 | top:Ctx d key r M M r [] [] [] []
 | step {m:Nat} {s:Stp} {ss:List Stp} {A B:Ents} {Q:List Int} {n:Int} (L:List Held) (hp:PgAt d s.at_ 2 s.p) (hl:L.length=s.p.kids.length)
  (hk:∀ (i:Nat) (n:Int) (y:Held),s.p.kids[i]?=some n->L[i]?=some y->IsT d (m+1) n y/\g6i d n) (hb:g3q s.p.keys L) (hkid:s.kid=((g0y s.p.keys key:Nat):Int))
  (hn:s.p.kids[g0y s.p.keys key]?=some n) (hup:Ctx d key r M (m+2) s.at_ ss A B Q) (hfat:ss≠[]->g6i d s.at_) (hfit:∀ e∈L.flatMap (·.1),Fit ss key e.1) :
  Ctx d key r M (m+1) n (s :: ss) (A++(L.take (g0y s.p.keys key)).flatMap (·.1)) ((L.drop (g0y s.p.keys key+1)).flatMap (·.1)++B) (s.at_ :: ((L.take (g0y s.p.keys key)++L.drop (g0y s.p.keys key+1)).flatMap (·.2)++Q))
theorem k8v {α:Type} {l:List α} {i:Nat} (h:i<l.length):l=l.take i++l[i] :: l.drop (i+1):=by
 rw [<- List.drop_eq_getElem_cons h,List.take_append_drop]
theorem k9a {d:St} {key:Disk.Bs} {r a:Int} {l:List Stp} (h:Down d key r l a) {M:Nat} {x:Held} (hx:IsT d (M+1) r x):l.length<=M->∃ y A B Q,IsT d (M-l.length+1) a y/\Ctx d key r (M+1) (M-l.length+1) a l.reverse A B Q/\x.1=A++y.1++B/\x.2.Perm (y.2++Q)/\(∀ e∈y.1,Fit l key e.1)/\(l≠[]->g6i d a):=by
 induction h with
 | nil=>exact fun _=>⟨x,[],[],[],hx,.top,by simp,by simp,fun e _ s hs=>(by cases hs),fun h=>absurd rfl h⟩
 | @snoc a l s h ha hp hk hi ih =>
  intro hm;rw [List.length_append,List.length_singleton] at hm ⊢;obtain ⟨y,A,B,Q,hy,hc,h1,h2,h3,h4⟩:=ih (by omega);obtain ⟨q,hq⟩:∃ q,M-l.length=q+1:=⟨M-l.length-1,by omega⟩;have hq':M-(l.length+1)=q:=by omega
  rw [hq] at hy hc;rw [hq'];obtain ⟨p,L,hpp,hl,hkk,hb,e⟩:=hy;obtain rfl:=g6q hpp hp;have h0:=g3c hp;have hr:=((Page.g7x hp.2.2).1 (g2l hp)).1.rises;have hL:g0y s.p.keys key<L.length:=by omega
  have hz:=List.getElem?_eq_getElem hL;have hn:=List.getElem?_eq_getElem hi;have sp:=k8v hL;have e1:y.1=(L.take (g0y s.p.keys key)).flatMap (·.1)++L[g0y s.p.keys key].1++(L.drop (g0y s.p.keys key+1)).flatMap (·.1):=by
   rw [e];show L.flatMap (·.1)=_;refine (congrArg (fun l:List Held=>l.flatMap (·.1)) sp).trans ?_;simp only [List.flatMap_append,List.flatMap_cons,List.append_assoc]
  have e2:y.2.Perm (L[g0y s.p.keys key].2++(a :: (L.take (g0y s.p.keys key)++L.drop (g0y s.p.keys key+1)).flatMap (·.2))):=by
   rw [e];show (a :: L.flatMap (·.2)).Perm _;refine List.Perm.trans ?_ List.perm_middle.symm;refine List.Perm.cons _ ?_;refine (List.Perm.of_eq (congrArg (fun l:List Held=>l.flatMap (·.2)) sp)).trans ?_;simp only [List.flatMap_append,List.flatMap_cons];exact List.perm_append_comm_assoc _ _ _
  obtain ⟨k1,k2⟩:=hkk _ _ _ hn hz;refine ⟨L[g0y s.p.keys key],A++(L.take (g0y s.p.keys key)).flatMap (·.1),(L.drop (g0y s.p.keys key+1)).flatMap (·.1)++B,s.at_ :: ((L.take (g0y s.p.keys key)++L.drop (g0y s.p.keys key+1)).flatMap (·.2)++Q),k1,?_,?_,?_,?_,fun _=>k2⟩
  ·rw [List.reverse_append];subst ha;exact Ctx.step L hp hl hkk hb hk hn hc (fun hne=>h4 (fun e=>hne (by rw [e];rfl))) (fun e he s hs=>h3 e (by rw [‹y=_›];exact he) s (List.mem_reverse.1 hs))
  ·rw [h1,e1];simp only [List.append_assoc]
  ·refine h2.trans ((e2.append_right Q).trans ?_);subst ha;simp
  ·intro z hz' s' hs';rcases List.mem_append.1 hs' with hs' | hs'
   ·exact h3 z (by rw [e1];simp [hz']) s' hs'
   ·rw [List.mem_singleton] at hs';subst hs';exact (h2y hr (by omega) hb (key:=z.1) (val:=z.2) hz hz').symm
theorem plug {d0 d:St} (hc0:Store.Calm d0) (hc:Store.Calm d) (hn:d.n=d0.n) {key:Disk.Bs} {r:Int} {M m:Nat} {a:Int} {ss:List Stp} {A B:Ents} {Q:List Int} (h:Ctx d0 key r M m a ss A B Q) :
 ∀ {z:Held},IsT d m a z->(ss≠[]->g6i d a)->(∀ e∈z.1,Fit ss key e.1)->(∀ k∈Q,d.get k=d0.get k)->∃ ps,IsT d M r (A++z.1++B,ps)/\ps.Perm (z.2++Q):=by
 induction h with
 | top=>exact fun {z} hz _ _ _=>⟨z.2,by simpa using hz,by simp⟩
 | @step m s ss A B Q n L hp hl hk hb hkid hnn hup hfat hfit ih =>
  intro z hz hst hft hg;have h0:=g3c hp;have hr:=((Page.g7x hp.2.2).1 (g2l hp)).1.rises;have hj:=(List.getElem?_eq_some_iff.1 hnn).1;have ga:d.get s.at_=d0.get s.at_:=hg _ (List.mem_cons_self ..);have hp':=hp.keep hc0 hc hn ga;obtain ⟨j,ej⟩:∃ j,g0y s.p.keys key=j:=⟨_,rfl⟩;have sf:=h1h hr;have hfz:∀ e∈z.1,g0y s.p.keys e.1=j:=fun e he=>by rw [<- ej];exact hft e he s (List.mem_cons_self ..)
  rw [ej] at hnn hj hg ⊢;have hjL:j<L.length:=by omega
  have keepL:∀ i,i≠j->∀ y,L[i]?=some y->∀ k∈y.2,d.get k=d0.get k:=fun i hij y hy k hk'=>by
   refine hg k (List.mem_cons_of_mem _ (List.mem_append_left _ (List.mem_flatMap.2 ⟨y,?_,hk'⟩)));rw [List.mem_append];rcases Nat.lt_or_gt_of_ne hij with g | g
   ·left
    refine List.mem_of_getElem? (i:=i) ?_;rw [List.getElem?_take,if_pos g];exact hy
   ·right
    refine List.mem_of_getElem? (i:=i-(j+1)) ?_;rw [List.getElem?_drop,show j+1+(i-(j+1))=i by omega];exact hy
  have hz':IsT d (m+2) s.at_ ((L.set j z).flatMap (·.1),s.at_ :: (L.set j z).flatMap (·.2)):=by
   refine ⟨s.p,L.set j z,hp',by rw [List.length_set];exact hl,fun i n' y hi hy=>?_,fun i hi=>?_,rfl⟩
   ·by_cases e:j=i
    ·subst e;rw [List.getElem?_set_self hjL] at hy;cases hy;rw [hnn] at hi;cases hi;exact ⟨hz,hst (by simp)⟩
    ·rw [List.getElem?_set_ne e] at hy;have g:=keepL i (fun e'=>e e'.symm) y hy;obtain ⟨g1,g2⟩:=hk i n' y hi hy;exact ⟨g1.keep hc0 hc hn g,g2.keep hc0 hc hn (g _ (g7o g1))⟩
   ·obtain ⟨b1,b2⟩:=hb i hi;have key2:∀ q,((∀ e∈((L.set j z)[q]?.getD ([],[])).1,e∈(L[q]?.getD ([],[])).1)\/(q=j/\((L.set j z)[q]?.getD ([],[]))=z)):=fun q=>by
     by_cases e:j=q
     ·subst e
      right
      rw [List.getElem?_set_self hjL];exact ⟨rfl,rfl⟩
     ·left
      rw [List.getElem?_set_ne e];exact fun _ h=>h
    constructor
    ·rcases key2 i with g | ⟨e,g⟩
     ·exact fun x hx=>b1 x (g x hx)
     ·rw [g];intro x hx;have h1:=hfz x hx;have h2:=(sf x.1 i hi);rw [h1] at h2;show less x.1 s.p.keys[i]=true;cases h3:less x.1 s.p.keys[i]
      ·have:=h2.2 h3;omega
      ·rfl
    ·rcases key2 (i+1) with g | ⟨e,g⟩
     ·exact fun x hx=>b2 x (g x hx)
     ·rw [g];intro x hx h3;have h1:=hfz x hx;have h2:=(sf x.1 i hi);rw [h1] at h2;have h4:=h2.1 (by omega);rw [show less x.1 s.p.keys[i]=true from h3] at h4;cases h4
  have eset:L.set j z=L.take j++z :: L.drop (j+1):=List.set_eq_take_append_cons_drop.trans (if_pos hjL);obtain ⟨ps,i1,i2⟩:=ih hz' (fun hne=>(hfat hne).keep hc0 hc hn ga) (fun e he=>by
   rw [eset] at he;simp only [List.flatMap_append,List.flatMap_cons,List.mem_append] at he;rcases he with he | he | he
   ·obtain ⟨y,hy,hey⟩:=List.mem_flatMap.1 he;exact hfit e (List.mem_flatMap.2 ⟨y,List.mem_of_mem_take hy,hey⟩)
   ·exact fun s' hs'=>hft e he s' (List.mem_cons_of_mem _ hs')
   ·obtain ⟨y,hy,hey⟩:=List.mem_flatMap.1 he;exact hfit e (List.mem_flatMap.2 ⟨y,List.mem_of_mem_drop hy,hey⟩)) (fun k hk'=>hg k (by simp [hk']))
  refine ⟨ps,?_,i2.trans ?_⟩
  ·rw [eset] at i1
   simpa using i1
  ·rw [eset];simp only [List.flatMap_append,List.flatMap_cons,List.cons_append,List.append_assoc];refine List.Perm.trans ?_ List.perm_middle.symm;refine List.Perm.cons _ ?_;exact List.perm_append_comm_assoc _ _ _
theorem g4y {ks:List Disk.Bs} {L:List Held}:g3q ks L↔∀ (i:Nat) (k:Disk.Bs),ks[i]?=some k->(∀ z,L[i]?=some z->∀ e∈z.1,Lt e.1 k)/\∀ z,L[i+1]?=some z->∀ e∈z.1,¬ Lt e.1 k:=by
 constructor
 ·intro h i k hk;obtain ⟨hi,rfl⟩:=List.getElem?_eq_some_iff.1 hk;obtain ⟨h1,h2⟩:=h i hi;exact ⟨fun z hz e he=>h1 e (by rw [hz];exact he),fun z hz e he=>h2 e (by rw [hz];exact he)⟩
 ·intro h i hi;obtain ⟨h1,h2⟩:=h i _ (List.getElem?_eq_getElem hi)
  constructor
  ·intro e he;cases hz:L[i]? with
   | none=>rw [hz] at he;cases he
   | some z=>rw [hz] at he;exact h1 z hz e he
  ·intro e he;cases hz:L[i+1]? with
   | none=>rw [hz] at he;cases he
   | some z=>rw [hz] at he;exact h2 z hz e he
theorem k6t {α:Type} (l:List α) (f g:Nat) (hf:f<=l.length) (m:List α) (i:Nat):(l.take f++m++l.drop g)[i]?=if i<f then l[i]? else if i<f+m.length then m[i-f]? else l[g+(i-f-m.length)]?:=by
 rw [List.append_assoc,List.getElem?_append,List.length_take,Nat.min_eq_left hf]
 split
 ·rename_i h
  rw [List.getElem?_take,if_pos h]
 ·rename_i h
  rw [List.getElem?_append]
  by_cases h2:i<f+m.length
  ·rw [if_pos (by omega),if_pos h2]
  ·rw [if_neg (by omega),if_neg h2,List.getElem?_drop]
theorem j3b {ks1 keys:List Disk.Bs} {L L1:List Held} {f l:Nat} (hl:L.length=keys.length+1) (hfl:f<=l) (hlk:l<=keys.length) (hb:g3q keys L) (h1:g3q ks1 L1) (hl1:L1.length=ks1.length+1)
 (lo:∀ e∈L1.flatMap (·.1),∀ k,0<f->keys[f-1]?=some k->¬ Lt e.1 k) (hi:∀ e∈L1.flatMap (·.1),∀ k,keys[l]?=some k->Lt e.1 k) :
 g3q (keys.take f++ks1++keys.drop l) (L.take f++L1++L.drop (l+1)):=by
 rw [g4y] at hb h1 ⊢;intro i k hk;rw [k6t _ _ _ (by omega)] at hk;rw [k6t _ _ _ (by omega),k6t _ _ _ (by omega),hl1]
 by_cases g1:i<f
 ·rw [if_pos g1] at hk;obtain ⟨b1,b2⟩:=hb i k hk;refine ⟨fun z hz=>b1 z (by rw [if_pos g1] at hz;exact hz),fun z hz=>?_⟩
  by_cases g2:i+1<f
  ·rw [if_pos g2] at hz;exact b2 z hz
  ·rw [if_neg g2,if_pos (by omega)] at hz;intro e he;refine lo e (List.mem_flatMap.2 ⟨z,List.mem_of_getElem? hz,he⟩) k (by omega) ?_;rw [show f-1=i by omega];exact hk
 ·rw [if_neg g1] at hk
  by_cases g2:i<f+ks1.length
  ·rw [if_pos g2] at hk;obtain ⟨b1,b2⟩:=h1 _ k hk;refine ⟨fun z hz=>b1 z (by rw [if_neg g1,if_pos (by omega)] at hz;exact hz),fun z hz=>b2 z (by rw [if_neg (by omega),if_pos (by omega)] at hz;rw [show i-f+1=i+1-f by omega];exact hz)⟩
  ·rw [if_neg g2] at hk;obtain ⟨b1,b2⟩:=hb _ k hk;refine ⟨fun z hz=>?_,fun z hz=>b2 z (by rw [if_neg (by omega),if_neg (by omega)] at hz;rw [show l+(i-f-ks1.length)+1=l+1+(i+1-f-(ks1.length+1)) by omega];exact hz)⟩
   by_cases g3:i=f+ks1.length
   ·rw [if_neg g1,if_pos (by omega)] at hz;intro e he;refine hi e (List.mem_flatMap.2 ⟨z,List.mem_of_getElem? hz,he⟩) k ?_;rw [show l+(i-f-ks1.length)=l by omega] at hk;exact hk
   ·rw [if_neg g1,if_neg (by omega)] at hz;refine b1 z ?_;rw [show l+(i-f-ks1.length)=l+1+(i-f-(ks1.length+1)) by omega];exact hz
theorem h9d {d d':St} {t t':T} {m K f l:Nat} {s:Stp} {pp b:Pg} {yy:Held} {L:List Held} {rest:List Int} {x:Int} (hp:Pre d t) (hc:Store.Calm d) (hpg:PgAt d s.at_ 2 s.p) (hl:L.length=s.p.kids.length)
 (hk:∀ (j:Nat) (n:Int) (z:Held),(j<f\/l<j)->s.p.kids[j]?=some n->L[j]?=some z->IsT d (m+1) n z/\g6i d n) (hb:g3q s.p.keys L) (hfl:f<=l) (hlf:l<=f+1) (hlk:l<s.p.kids.length)
 (hv:VT d (m+1) pp yy) (hr:Ripe pp) (hs:g1u yy.1) (hfill:g0p pp<=g0o pp)
 (lo:∀ e∈yy.1,∀ k,0<f->s.p.keys[f-1]?=some k->¬ Lt e.1 k) (hi:∀ e∈yy.1,∀ k,s.p.keys[l]?=some k->Lt e.1 k)
 (hbk:Book t ((s.p.kids.take (l+1)).drop f++(yy.2++((L.take f++L.drop (l+1)).flatMap (·.2)++rest))) K) (h:PutT s pp f l d t d' t' b x) :
 (x=60/\g1b t d.n<=1)\/(x=0/\∃ z,VT d' (m+2) b z/\Ripe b/\z.1=(L.take f).flatMap (·.1)++yy.1++(L.drop (l+1)).flatMap (·.1)/\Book t' (z.2++rest) K/\g1b t d.n<=g1b t' d.n+2/\Went d t d' t' rest):=by
 obtain ⟨ks,ns,hS,hB⟩:=h;have h0:=g3c hpg;have hz0:g0p pp≠0:=by unfold g0p;split <;> omega
 have hlen:((s.p.kids.take (l+1)).drop f).length=1\/((s.p.kids.take (l+1)).drop f).length=2:=by
  rw [List.length_drop,List.length_take];omega
 rcases h5e hp hc hv hr hs (by omega) hlen hbk hS with ⟨h1,h2⟩ | ⟨rfl,L1,e1,e2,e3,hT,hbt,hen,hkk,-,bk,av,wt⟩
 ·exact .inl ⟨h1,h2⟩
 right
 rcases hB with ⟨hx,-⟩ | ⟨-,rfl⟩
 ·exact absurd rfl hx
 have hfine:=(Page.g7x hpg.2.2).1 (g2l hpg);have klen:=hfine.1.len.2;refine ⟨rfl,((L.take f++L1++L.drop (l+1)).flatMap (·.1),(L.take f++L1++L.drop (l+1)).flatMap (·.2)),⟨rfl,?_,L.take f++L1++L.drop (l+1),?_,fun i n z hi' hz=>?_,?_,rfl⟩,⟨.inr rfl,?_,fun x hx=>(by cases hx),fun k hk'=>?_,fun n hn=>?_⟩,?_,?_,av,?_⟩
 ·show (s.p.kids.take f++ns++s.p.kids.drop (l+1)).length=(s.p.keys.take f++ks++s.p.keys.drop l).length+1;simp;omega
 ·show _=(s.p.kids.take f++ns++s.p.kids.drop (l+1)).length;simp;omega
 ·have hi':(s.p.kids.take f++ns++s.p.kids.drop (l+1))[i]?=some n:=hi';rw [k6t _ _ _ (by omega)] at hi' hz;rw [e1] at hz;have old:∀ j,(j<f\/l<j)->s.p.kids[j]?=some n->L[j]?=some z->IsT d' (m+1) n z/\g6i d' n:=fun j hj h1 h2=>by
   obtain ⟨g1,g2⟩:=hk j n z hj h1 h2;have hg:∀ k∈z.2,d'.get k=d.get k:=fun k hk'=>wt.get k (by
    refine List.mem_append_left _ (List.mem_flatMap.2 ⟨z,?_,hk'⟩);rw [List.mem_append];rcases hj with hj | hj
    ·left
     refine List.mem_of_getElem? (i:=j) ?_;rw [List.getElem?_take,if_pos hj];exact h2
    ·right
     refine List.mem_of_getElem? (i:=j-(l+1)) ?_;rw [List.getElem?_drop,show l+1+(j-(l+1))=j by omega];exact h2)
   exact ⟨g1.keep hc wt.calm wt.sz hg,g2.keep hc wt.calm wt.sz (hg _ (g7o g1))⟩
  by_cases g1:i<f
  ·rw [if_pos g1] at hi' hz;exact old i (.inl g1) hi' hz
  ·rw [if_neg g1] at hi' hz
   by_cases g2:i<f+ns.length
   ·rw [if_pos g2] at hi' hz;obtain ⟨g3,g4⟩:=hT _ _ _ hi' hz;exact ⟨g3,g4 hfill⟩
   ·rw [if_neg g2] at hi' hz;exact old _ (.inr (by omega)) hi' hz
 ·refine j3b (by omega) hfl (by omega) hb hbt (by omega) (fun e he=>?_) (fun e he=>?_)
  ·rw [hen] at he;exact lo e he
  ·rw [hen] at he;exact hi e he
 ·show g0o (g0f (s.p.keys.take f++ks++s.p.keys.drop l) _)<=2*g1j (g0f _ _);have n1:¬ (2:Int)=1:=by decide
  unfold g0o g1j;rw [if_neg n1,if_neg n1];simp;omega
 ·have hk':k∈s.p.keys.take f++ks++s.p.keys.drop l:=hk';simp only [List.mem_append] at hk';rcases hk' with (hk' | hk') | hk'
  ·exact hfine.1.all k (List.mem_of_mem_take hk')
  ·exact hkk k hk'
  ·exact hfine.1.all k (List.mem_of_mem_drop hk')
 ·have hn:n∈s.p.kids.take f++ns++s.p.kids.drop (l+1):=hn;simp only [List.mem_append] at hn;rcases hn with (hn | hn) | hn
  ·exact hfine.1.places n (List.mem_of_mem_take hn)
  ·obtain ⟨i,hi',rfl⟩:=List.mem_iff_getElem.1 hn;have g:=(hT i _ _ (List.getElem?_eq_getElem hi') (List.getElem?_eq_getElem (by omega))).1;exact bk.place_ wt.pre.pk wt.pre.nle (List.mem_append_left _ (List.mem_flatMap.2 ⟨_,List.getElem_mem _,g7o g⟩))
  ·exact hfine.1.places n (List.mem_of_mem_drop hn)
 ·simp only [List.flatMap_append,hen]
 ·refine bk.perm ?_;simp only [List.flatMap_append,List.append_assoc];exact List.perm_append_comm_assoc _ _ _
 ·exact ⟨wt.pre,wt.calm,wt.sz,wt.part,fun x hx=>wt.get x (List.mem_append_right _ hx)⟩
theorem h8i {ks:List Disk.Bs} (h:g1l Lt ks) {e:Disk.Bs} {i j:Nat} (hs:g0y ks e=i) (hj:j<i) {k:Disk.Bs} (hk:ks[j]?=some k):¬ Lt e k:=fun g=>by
 obtain ⟨hj',rfl⟩:=List.getElem?_eq_some_iff.1 hk;have h1:=(h1h h e j hj').1 (by omega);rw [show less e ks[j]=true from g] at h1;cases h1
theorem h5c {ks:List Disk.Bs} (h:g1l Lt ks) {e:Disk.Bs} {i j:Nat} (hs:g0y ks e=i) (hj:i<=j) {k:Disk.Bs} (hk:ks[j]?=some k):Lt e k:=by
 obtain ⟨hj',rfl⟩:=List.getElem?_eq_some_iff.1 hk;show less e ks[j]=true;cases h1:less e ks[j]
 ·have:=(h1h h e j hj').2 h1;omega
 ·rfl
theorem j1a {p q:Pg} {k:Disk.Bs} (hp:Ripe p) (hkk:q.kind=p.kind):g0o q<=g0o (g2h p k q)/\g0o p<=g0o (g2h p k q)/\g0o (g2h p k q)<=g0o p+g0o q+1/\g0p (g2h p k q)=g0p p/\g1j (g2h p k q)=g1j p:=by
 rcases hp.kind with hk | hk
 ·have e:g2h p k q=g0j (p.pairs++q.pairs):=if_pos hk;unfold g0o g0p g1j;rw [e,hkk,if_pos hk,if_pos hk,if_pos hk,if_pos hk,if_pos (show (1:Int)=1 from rfl),if_pos (show (1:Int)=1 from rfl),if_pos (show (1:Int)=1 from rfl),List.length_append];omega
 ·have n1:¬ p.kind=1:=by omega
  have n2:¬ (2:Int)=1:=by decide
  have e:g2h p k q=g0f (p.keys++[k]++q.keys) (p.kids++q.kids):=if_neg n1;unfold g0o g0p g1j;rw [e,hkk,if_neg n1,if_neg n1,if_neg n1,if_neg n1,if_neg n2,if_neg n2,if_neg n2];simp;omega
theorem k4x {p q:Pg} {k:Disk.Bs} (hp:Ripe p) (hkk:q.kind=p.kind) (hk:g3h k) (hq1:∀ x∈q.pairs,g3h x.1/\x.2.length<=100) (hq2:∀ k∈q.keys,g3h k) (hq3:∀ n∈q.kids,Page.Place n) (hl:g0o p+g0o q+1<=2*g1j p):Ripe (g2h p k q):=by
 obtain ⟨-,-,h3,-,h5⟩:=j1a (k:=k) hp hkk;rcases hp.kind with hk1 | hk1
 ·have e:g2h p k q=g0j (p.pairs++q.pairs):=if_pos hk1;refine ⟨.inl (by rw [e]),by omega,?_,?_,?_⟩ <;> rw [e]
  ·intro x hx;exact (List.mem_append.1 hx).elim (hp.pairs x) (hq1 x)
  ·intro x hx;cases hx
  ·intro x hx;cases hx
 ·have e:g2h p k q=g0f (p.keys++[k]++q.keys) (p.kids++q.kids):=if_neg (by omega);refine ⟨.inr (by rw [e]),by omega,?_,?_,?_⟩ <;> rw [e]
  ·intro x hx;cases hx
  ·intro x hx;have hx:x∈p.keys++[k]++q.keys:=hx;simp only [List.mem_append,List.mem_singleton] at hx;rcases hx with (hx | rfl) | hx
   ·exact hp.keys x hx
   ·exact hk
   ·exact hq2 x hx
  ·intro x hx;exact (List.mem_append.1 (show x∈p.kids++q.kids from hx)).elim (hp.kids x) (hq3 x)
theorem g9a {d:St} {a k:Int} {p:Pg} (h:PgAt d a k p) (hk:k=1\/k=2):(∀ x∈p.pairs,g3h x.1/\x.2.length<=100)/\(∀ k∈p.keys,g3h k)/\(∀ n∈p.kids,Page.Place n)/\g0o p<=g1j p:=by
 have hf':=g2l h;have hp:=h.2.2;rcases hk with rfl | rfl
 ·obtain ⟨h1,h2,h3,-⟩:=(Page.h6f hp).1 hf';refine ⟨fun x hx=>⟨h1.all _ (List.mem_map_of_mem hx),h1.vals x hx⟩,fun k hk=>?_,fun n hn=>?_,?_⟩
  ·rw [List.length_eq_zero_iff.1 h2] at hk;cases hk
  ·rw [List.length_eq_zero_iff.1 h3] at hn;cases hn
  ·unfold g0o g1j;rw [if_pos hp,if_pos hp];exact h1.len.2
 ·obtain ⟨h1,h2,-⟩:=(Page.g7x hp).1 hf';have n1:¬ p.kind=1:=by omega
  refine ⟨fun x hx=>?_,h1.all,h1.places,?_⟩
  ·rw [List.length_eq_zero_iff.1 h2] at hx;cases hx
  ·unfold g0o g1j;rw [if_neg n1,if_neg n1];exact h1.len.2
theorem k8r {α:Type} {l:List α} {i:Nat} {a:α} (h:l[i]?=some a):(l.take (i+1)).drop i=[a]:=by
 obtain ⟨hi,rfl⟩:=List.getElem?_eq_some_iff.1 h;rw [List.take_succ_eq_append_getElem hi,List.drop_append_of_le_length (by simp;omega),List.drop_take_self]
 rfl
theorem j7f {α:Type} {l:List α} {i:Nat} {a b:α} (h:l[i]?=some a) (h':l[i+1]?=some b):(l.take (i+1+1)).drop i=[a,b]:=by
 obtain ⟨hi,rfl⟩:=List.getElem?_eq_some_iff.1 h;obtain ⟨hi',rfl⟩:=List.getElem?_eq_some_iff.1 h';rw [List.take_succ_eq_append_getElem hi',List.take_succ_eq_append_getElem hi,List.append_assoc,List.drop_append_of_le_length (by simp;omega),List.drop_take_self]
 rfl
theorem k9g {d d':St} {t t':T} {m K i:Nat} {s:Stp} {p b:Pg} {y:Held} {L:List Held} {rest:List Int} {x a:Int} (hp:Pre d t) (hc:Store.Calm d) (hpg:PgAt d s.at_ 2 s.p) (hl:L.length=s.p.kids.length)
 (hk:∀ (j:Nat) (n:Int) (z:Held),j≠i->s.p.kids[j]?=some n->L[j]?=some z->IsT d (m+1) n z/\g6i d n) (hb:g3q s.p.keys L) (hkid:s.kid=(i:Int)) (ha:s.p.kids[i]?=some a)
 (hv:VT d (m+1) p y) (hr:Ripe p) (hs:g1u y.1) (hfit:∀ e∈y.1,g0y s.p.keys e.1=i)
 (hbk:Book t (a :: (y.2++((L.take i++L.drop (i+1)).flatMap (·.2)++rest))) K) (h:PutR s p d t d' t' b x) :
 (x=60/\g1b t d.n<=1)\/(x=0/\∃ z,VT d' (m+2) b z/\Ripe b/\z.1=(L.take i).flatMap (·.1)++y.1++(L.drop (i+1)).flatMap (·.1)/\Book t' (z.2++rest) K/\g1b t d.n<=g1b t' d.n+2/\Went d t d' t' rest):=by
 have ek:s.kid.toNat=i:=by rw [hkid];rfl
 have h0:=g3c hpg;have hfine:=(Page.g7x hpg.2.2).1 (g2l hpg);have hrise:=hfine.1.rises;have hil:=(List.getElem?_eq_some_iff.1 ha).1;unfold PutR at h;rw [ek] at h;rcases h with ⟨hf,h⟩ | ⟨hf,h⟩
 ·refine h9d (f:=i) (l:=i) hp hc hpg hl (fun j n z hj=>hk j n z (by omega)) hb (Nat.le_refl _) (by omega) hil hv hr hs hf (fun e he k h0 hk'=>h8i hrise (hfit e he) (by omega) hk') (fun e he k hk'=>h5c hrise (hfit e he) (Nat.le_refl _) hk') ?_ h;rw [k8r ha];exact hbk
 have nb:∀ (j:Nat),j≠i->j<s.p.kids.length->∃ n z q zz,s.p.kids[j]?=some n/\L[j]?=some z/\PgAt d n p.kind q/\VT d (m+1) q zz/\z=(zz.1,n :: zz.2)/\g0p q<=g0o q/\q.kind=p.kind:=fun j hj hlt=>by
  have e1:=List.getElem?_eq_getElem hlt;have e2:=List.getElem?_eq_getElem (l:=L) (i:=j) (by omega);obtain ⟨g1,k,q',g2,g3⟩:=hk j _ _ hj e1 e2;obtain ⟨q,zz,g4,g5,g6⟩:=j4i.1 g1;obtain rfl:=g6q g4 g2;rw [<- hv.kind] at g4;exact ⟨_,_,q,zz,e1,e2,g4,g5,g6,g3,g4.2.2⟩
 have pk:=hr.kind;have klen:=hfine.1.len;rcases h with ⟨-,-,-,-,hno⟩ | ⟨q,hq,h⟩
 ·exfalso
  have hj:i-1+(i-1+1)-i≠i/\i-1+(i-1+1)-i<s.p.kids.length:=by omega
  obtain ⟨n,z,q,zz,e1,e2,g1,g2,g3,g4,g5⟩:=nb _ hj.1 hj.2;rw [e1] at hno;exact hno g1.1 q g1.2.1 g5
 by_cases hi0:i=0
 ·subst hi0;obtain ⟨n,z,q',zz,e1,e2,g1,g2,g3,g4,g5⟩:=nb 1 (by omega) (by omega);have ej:0-1+(0-1+1)-0=1:=rfl;rw [ej,e1] at hq;obtain rfl:=g6q g1 hq;rw [if_pos (show (0:Nat)=0-1 from rfl)] at h;have h:PutT s (g2h p (s.p.keys[0]?.getD []) q') 0 (0+1) d t d' t' b x:=h;have e0:=List.getElem?_eq_getElem (l:=s.p.keys) (i:=0) (by omega);rw [e0] at h;have zs:g1u zz.1:=by have:=g7l (hk 1 _ _ (by omega) e1 e2).1;rw [g3] at this;exact this
  have lo1:∀ e∈y.1,Lt e.1 s.p.keys[0]:=fun e he=>h5c hrise (hfit e he) (Nat.le_refl _) e0
  have hi1:∀ e∈zz.1,¬ Lt e.1 s.p.keys[0]:=(g4y.1 hb 0 _ e0).2 z e2 |> fun g e he=>g e (by rw [g3];exact he)
  obtain ⟨q1,q2,q3,q4⟩:=g9a g1 pk;obtain ⟨f1,f2,f3,f4,f5⟩:=j1a (k:=s.p.keys[0]) hr g5;have hmk:g1j q'=g1j p/\g0p q'=g0p p:=by unfold g1j g0p;rw [g5];exact ⟨rfl,rfl⟩
  have hml:g0p p*2=g1j p/\3<=g0p p:=by unfold g1j g0p;split <;> omega
  refine (h9d (K:=K) (rest:=rest) (f:=0) (l:=0+1) hp hc hpg hl (fun j n z hj=>hk j n z (by omega)) hb (by omega) (by omega) (by omega) (k1f hv g2 lo1 hi1) (k4x hr g5 (hfine.1.all _ (List.getElem_mem _)) q1 q2 q3 (by omega)) ?_ (by omega) (fun e he k h0=>absurd h0 (by omega)) (fun e he k hk'=>?_) ?_ h).imp id ?_
  ·exact g4g.2 ⟨hs,zs,fun a ha b hb=>k0e (lo1 a ha) (hi1 b hb)⟩
  ·rcases List.mem_append.1 he with he | he
   ·exact h5c hrise (hfit e he) (by omega) hk'
   ·exact (g4y.1 hb 1 _ hk').1 z e2 e (by rw [g3];exact he)
  ·rw [j7f ha e1];refine hbk.perm ?_;have eL:L.drop (0+1)=z :: L.drop (0+1+1):=by
    obtain ⟨hi,rfl⟩:=List.getElem?_eq_some_iff.1 e2;exact List.drop_eq_getElem_cons hi
   rw [List.take_zero,List.nil_append,eL,List.flatMap_cons,g3];simp only [List.nil_append,List.cons_append,List.append_assoc];exact List.Perm.cons _ List.perm_middle
  ·rintro ⟨rfl,w,h1,h2,h3,h4⟩;refine ⟨rfl,w,h1,h2,?_,h4⟩;have eL:L.drop (0+1)=z :: L.drop (0+1+1):=by
    obtain ⟨hi,rfl⟩:=List.getElem?_eq_some_iff.1 e2;exact List.drop_eq_getElem_cons hi
   rw [h3,eL,g3];simp
 ·obtain ⟨f,rfl⟩:∃ f,i=f+1:=⟨i-1,by omega⟩;obtain ⟨n,z,q',zz,e1,e2,g1,g2,g3,g4,g5⟩:=nb f (by omega) (by omega);have ej:f+1-1+(f+1-1+1)-(f+1)=f:=by omega
  rw [ej,e1] at hq;obtain rfl:=g6q g1 hq;rw [if_neg (show ¬ f+1=f+1-1 by omega)] at h;have h:PutT s (g2h q' (s.p.keys[f]?.getD []) p) f (f+1) d t d' t' b x:=h;have e0:=List.getElem?_eq_getElem (l:=s.p.keys) (i:=f) (by omega);rw [e0] at h;have zs:g1u zz.1:=by have:=g7l (hk f _ _ (by omega) e1 e2).1;rw [g3] at this;exact this
  have hi1:∀ e∈y.1,¬ Lt e.1 s.p.keys[f]:=fun e he=>h8i hrise (hfit e he) (by omega) e0
  have lo1:∀ e∈zz.1,Lt e.1 s.p.keys[f]:=(g4y.1 hb f _ e0).1 z e2 |> fun g e he=>g e (by rw [g3];exact he)
  obtain ⟨q1,q2,q3,q4⟩:=g9a g1 pk;have pk':q'.kind=1\/q'.kind=2:=by rw [g5];exact pk
  have hmk:g1j q'=g1j p/\g0p q'=g0p p:=by unfold g1j g0p;rw [g5];exact ⟨rfl,rfl⟩
  have hml:g0p p*2=g1j p/\3<=g0p p:=by unfold g1j g0p;split <;> omega
  have jr:Ripe (g2h q' s.p.keys[f] p)/\g0o q'<=g0o (g2h q' s.p.keys[f] p)/\g0p (g2h q' s.p.keys[f] p)=g0p q':=by
   rcases pk with hk1 | hk1
   ·have e:g2h q' s.p.keys[f] p=g0j (q'.pairs++p.pairs):=if_pos (by omega);have u1:g0o p=p.pairs.length:=if_pos hk1;have u2:g0o q'=q'.pairs.length:=if_pos (by omega);have u3:g1j p=6:=if_pos hk1;have u4:g0p q'=3:=if_pos (by omega);have v1:g0o (g0j (q'.pairs++p.pairs))=(q'.pairs++p.pairs).length:=if_pos rfl;have v2:g0p (g0j (q'.pairs++p.pairs))=3:=if_pos rfl;have v3:g1j (g0j (q'.pairs++p.pairs))=6:=if_pos rfl
    rw [e,v1,v2];rw [List.length_append];refine ⟨⟨.inl rfl,?_,fun x hx=>(List.mem_append.1 hx).elim (q1 x) (hr.pairs x),fun x hx=>(by cases hx),fun x hx=>(by cases hx)⟩,by omega,by omega⟩;rw [v1,v3,List.length_append];omega
   ·have nk:¬ q'.kind=1:=by omega
    have nk2:¬ p.kind=1:=by omega
    have n2:¬ (2:Int)=1:=by decide
    have e:g2h q' s.p.keys[f] p=g0f (q'.keys++[s.p.keys[f]]++p.keys) (q'.kids++p.kids):=if_neg nk;have u1:g0o p=p.keys.length:=if_neg nk2;have u2:g0o q'=q'.keys.length:=if_neg nk;have u3:g1j p=12:=if_neg nk2;have u4:g0p q'=6:=if_neg nk;have v1:∀ ks ns,g0o (g0f ks ns)=ks.length:=fun ks ns=>if_neg n2
    have v2:∀ ks ns,g0p (g0f ks ns)=6:=fun ks ns=>if_neg n2
    have v3:∀ ks ns,g1j (g0f ks ns)=12:=fun ks ns=>if_neg n2
    rw [e,v1,v2];simp only [List.length_append,List.length_singleton];refine ⟨⟨.inr rfl,?_,fun x hx=>(by cases hx),fun x hx=>?_,fun x hx=>(List.mem_append.1 (show x∈q'.kids++p.kids from hx)).elim (q3 x) (hr.kids x)⟩,by omega,by omega⟩
    ·rw [v1,v3];simp only [List.length_append,List.length_singleton];omega
    ·have hx:x∈q'.keys++[s.p.keys[f]]++p.keys:=hx;simp only [List.mem_append,List.mem_singleton] at hx;rcases hx with (hx | rfl) | hx
     ·exact q2 x hx
     ·exact hfine.1.all _ (List.getElem_mem _)
     ·exact hr.keys x hx
  refine (h9d (K:=K) (rest:=rest) (f:=f) (l:=f+1) hp hc hpg hl (fun j n z hj=>hk j n z (by omega)) hb (by omega) (by omega) (by omega) (k1f g2 hv lo1 hi1) jr.1 ?_ (by omega) (fun e he k h0 hk'=>?_) (fun e he k hk'=>?_) ?_ h).imp id ?_
  ·exact g4g.2 ⟨zs,hs,fun a ha b hb=>k0e (lo1 a ha) (hi1 b hb)⟩
  ·rcases List.mem_append.1 he with he | he
   ·exact (g4y.1 hb (f-1) _ hk').2 z (by rw [show f-1+1=f by omega];exact e2) e (by rw [g3];exact he)
   ·exact h8i hrise (hfit e he) (by omega) hk'
  ·rcases List.mem_append.1 he with he | he
   ·exact g5h (lo1 e he) (by obtain ⟨hj,rfl⟩:=List.getElem?_eq_some_iff.1 hk';exact g5q hrise (by omega) hj)
   ·exact h5c hrise (hfit e he) (by omega) hk'
  ·rw [j7f e1 ha];refine hbk.perm ?_;have eL:L.take (f+1)=L.take f++[z]:=by
    obtain ⟨hi,rfl⟩:=List.getElem?_eq_some_iff.1 e2;exact List.take_succ_eq_append_getElem hi
   rw [eL];simp only [List.flatMap_append,List.flatMap_cons,List.cons_append,List.nil_append,List.append_assoc,g3];refine List.Perm.trans (l₂:=a :: n :: (y.2++((L.take f).flatMap (·.2)++(zz.2++((L.drop (f+1+1)).flatMap (·.2)++rest))))) (List.Perm.cons _ ?_) ?_
   ·refine List.Perm.trans ?_ List.perm_middle;refine List.Perm.append_left _ ?_;exact List.perm_middle
   ·refine (List.Perm.swap _ _ _).trans (List.Perm.cons _ (List.Perm.cons _ ?_));refine List.Perm.trans (l₂:=y.2++(zz.2++((L.take f).flatMap (·.2)++((L.drop (f+1+1)).flatMap (·.2)++rest)))) (List.Perm.append_left _ (List.perm_append_comm_assoc _ _ _)) ?_;exact List.perm_append_comm_assoc _ _ _
  ·rintro ⟨rfl,w,h1,h2,h3,h4⟩;refine ⟨rfl,w,h1,h2,?_,h4⟩;have eL:L.take (f+1)=L.take f++[z]:=by
    obtain ⟨hi,rfl⟩:=List.getElem?_eq_some_iff.1 e2;exact List.take_succ_eq_append_getElem hi
   rw [h3,eL];simp [g3]
end Go.Proofs.YtglejnkoojpelaaGreat.Tree
