import Derived.Test.YtglejnkoojpelaaGreatMT1
import Derived.Test.YtglejnkoojpelaaGreatMS4
import Derived.Test.YtglejnkoojpelaaGreatMQ3
import Derived.Test.YtglejnkoojpelaaGreatMS1
import Derived.Test.YtglejnkoojpelaaGreatMP7
import Derived.BigQuiet
import Derived.Lib.Walk
import Derived.Tactics
import Derived.Tactics2
import Derived.Defers
import Derived.Laws.Pointers
set_option maxRecDepth 100000
set_option maxHeartbeats 32000000
namespace Go.Proofs.YtglejnkoojpelaaGreat.Tree
open Go.RowKit Gen
open Page (strV strB less SRow g0m)
open Store
open Lib (hid)
theorem j7d (X:ByteArray) (w:World):Calls Tryz.prog 244 #[.string X] w (fun e w'=>e=.returned (.bool false)/\w=w'):=by
 go_enter Tryz.func244,Tryz.ntmps244
 go_wp2_with fail
 go_ret
 exact ⟨by simp,rfl⟩
theorem k7u (X:ByteArray) (w:World):Calls Tryz.prog 205 #[.string X] w (fun e w'=>e=.returned (.bool false)/\w=w'):=by
 go_enter Tryz.func205,Tryz.ntmps205
 go_wp2_with fail
 go_ret
 exact ⟨by simp,rfl⟩
theorem k5w (x y:Disk.Bs) (w:World):Calls Tryz.prog 204 #[strV x,strV y] w (fun e w'=>e=.returned (.bool (less x y))/\w=w'):=by
 have hl:Op.bytesLess (strB x).toList (strB y).toList=less x y:=by rw [g0m,g0m];rfl
 obtain ⟨r,hr⟩:∃ r,less x y=r:=⟨_,rfl⟩;rw [hr] at hl ⊢;unfold strV;generalize strB x=X at *;generalize strB y=Y at *;have c1:=j7d X w;have c2:=j7d Y w;clear hr;go_enter Tryz.func204,Tryz.ntmps204
 go_wp2_with fail
 refine c1.mono ?_;rintro e w' ⟨rfl,rfl⟩;go_wp2_with fail
 go_ret
 exact ⟨rfl,rfl⟩
theorem k9s {A:Option Addr} {n c:Nat} {l:List Disk.Bs} (key:Disk.Bs) (w:World) (hl:l.length=n) (hn:n<=4611686018427387903) (hR:SRow w A l) (pos:Nat) (hpn:pos<=n) (hp:∀ t (h:t<l.length),less l[t] key=true↔t<pos) (has:Bool) (hh:has=true↔∃ h:pos<l.length,l[pos]=key) :
 Calls Tryz.prog 174 #[.slice A n c,strV key] w (fun e w'=>e=.returned (.tuple #[.int .i64 (pos:Nat),.bool has])/\w=w'):=by
 have HL:=hid hl;have HR:=hid hR;have HP:=hid hp;have HH:=hid hh;clear hl hR hp hh;obtain ⟨Z,hZ⟩:∃ Z,strB key=Z:=⟨_,rfl⟩;rw [show strV key=.string Z by rw [<- hZ]];have KV:=hid (show strV key=.string Z by rw [<- hZ]);have KB:=hid hZ;clear hZ;go_enter Tryz.func174,Tryz.ntmps174
 go_wp2_with fail
 go_loopw [7,8] (fun i j wr=>∃ lo hi:Nat,i=.int .i64 (lo:Int)/\j=.int .i64 (hi:Int)/\lo<=pos/\pos<=hi/\hi<=n/\w=wr) (fun i j _=>(intOf j-intOf i).toNat)
 case atStart=>exact ⟨0,n,rfl,rfl,Nat.zero_le _,hpn,Nat.le_refl _,rfl⟩
 case round =>
  obtain ⟨lo,hi,rfl,rfl,h1,h2,h3,rfl⟩:=hrel
  by_cases hlt:lo<hi
  ·have hw1:IntKind.i64.wrap ((lo:Int)+(hi:Int))=(lo:Int)+(hi:Int):=IntWalk.i64_in _ (by omega);have hw2:IntKind.u64.wrap ((lo:Int)+(hi:Int))=(lo:Int)+(hi:Int):=IntWalk.u64_in _ (by omega);obtain ⟨m,hm⟩:∃ m:Nat,((lo:Int)+(hi:Int)) / 2=(m:Int):=⟨(lo+hi) / 2,by omega⟩;have hmn:(m:Int)<(n:Int):=by omega
   have hm0:lo<=m/\m<hi:=by omega
   have hml:m<l.length:=by rw [HL.out];omega
   have hw3:IntKind.i64.wrap ((m:Int)+1)=((m+1:Nat):Int):=by rw [IntWalk.i64_in _ (by omega)];omega
   obtain ⟨b,off,rfl,hbl,hcl⟩:=HR.out (by intro e;rw [e] at hml;simp at hml);have q1:=hcl m hml;have cK:=k5w l[m] key w;have LS:=hid (HP.out m hml);rw [KV.out] at cK;obtain ⟨r,hr⟩:∃ r,less l[m] key=r:=⟨_,rfl⟩;rw [hr] at cK LS;obtain ⟨X,hX⟩:∃ X,strV l[m]=X:=⟨_,rfl⟩;rw [hX] at q1 cK;clear hcl hX hr;go_wp2_with fail
   refine cK.mono ?_;rintro e w2 ⟨rfl,rfl⟩;clear cK q1 hw1 hw2;rcases r with _ | _
   ·have hmp:¬ m<pos:=fun e=>by cases LS.out.2 e
    clear LS;go_wp2_with fail
    go_roundw
    case rel=>exact ⟨lo,m,rfl,rfl,by omega,by omega,by omega,trivial⟩
    case measure=>simp [intOf];omega
   ·have hmp:=LS.out.1 rfl;clear LS;go_wp2_with fail
    go_roundw
    case rel=>exact ⟨m+1,hi,rfl,rfl,by omega,by omega,by omega,trivial⟩
    case measure=>simp [intOf];omega
  obtain rfl:lo=pos:=by omega
  obtain rfl:hi=lo:=by omega
  by_cases hlast:hi<n
  rotate_left
  ·have hf:has=false:=by
    rcases has with _ | _
    ·rfl
    ·obtain ⟨h,-⟩:=HH.out.1 rfl;rw [HL.out] at h;omega
   subst hf;clear HP HH;go_wp2_with fail
   go_ret2
   exact ⟨rfl,rfl⟩
  have hml:hi<l.length:=by rw [HL.out];omega
  obtain ⟨b,off,rfl,hbl,hcl⟩:=HR.out (by intro e;rw [e] at hml;simp at hml);have q1:=hcl hi hml;obtain ⟨X,hX⟩:∃ X,strB l[hi]=X:=⟨_,rfl⟩;rw [show strV l[hi]=.string X by rw [<- hX]] at q1;have cN:=k7u X w;have hrr:(X.toList==Z.toList)=has:=by
   rw [<- hX,<- KB.out,g0m,g0m];have h2:=HH.out;rcases has with _ | _
   ·exact beq_eq_false_iff_ne.2 (fun e=>by cases h2.2 ⟨hml,e⟩)
   ·obtain ⟨_,e⟩:=h2.1 rfl;rw [e];simp
  clear hcl hX HP HH;rcases has with _ | _
  ·go_wp2_with fail
   refine cN.mono ?_;rintro e w2 ⟨rfl,rfl⟩;clear cN;go_wp2_with fail
   go_ret2
   exact ⟨rfl,rfl⟩
  ·clear cN;go_wp2_with fail
   go_ret2
   exact ⟨rfl,rfl⟩
theorem k7h {A:Option Addr} {n c:Nat} {l:List Disk.Bs} (key:Disk.Bs) (w:World) (hl:l.length=n) (hn:n<=4611686018427387903) (hR:SRow w A l) (pos:Nat) (hpn:pos<=n) (hp:∀ t (h:t<l.length),less l[t] key=true↔t<pos) (has:Bool) (hh:has=true↔∃ h:pos<l.length,l[pos]=key) :
 Calls Tryz.prog 147 #[.slice A n c,strV key] w (fun e w'=>e=.returned (.int .i64 ((if has=true then pos+1 else pos:Nat):Int))/\w=w'):=by
 have cF:=k9s (c:=c) key w hl hn hR pos hpn hp has hh;have hw:IntKind.i64.wrap ((pos:Int)+1)=(pos:Int)+1:=IntWalk.i64_in _ (by omega);obtain ⟨kv,hkv⟩:∃ kv,strV key=kv:=⟨_,rfl⟩;rw [hkv] at cF ⊢;clear hkv hl hn hR hpn hp hh;go_enter Tryz.func147,Tryz.ntmps147
 go_wp2_with fail
 refine cF.mono ?_;rintro e w2 ⟨rfl,rfl⟩;clear cF;rcases has with _ | _
 ·go_wp2_with fail
  go_ret
  exact ⟨rfl,rfl⟩
 ·go_wp2_with fail
  go_ret
  exact ⟨by simp,rfl⟩
open Disk (St Dev Mod ptr)
open Page (Pg Lay PgOk g0c pgC pgV Enc g0v BytesAt strV strB PRow less g1w)
open Pool (Po NAt PoAt La poC poV numV At g0k g1g g1k g2m g0g OwnI chunks layAll May)
theorem g4u {p:Pg} {y:Lay} {n g:Nat} (h:Page.New p y n) (hg:g<n):Apart [g] p y :=
 ⟨fun _ x e hx=>by have:=h.n1 x e;rw [List.mem_singleton] at hx;omega,fun _ x e hx=>by have:=h.n2 x e;rw [List.mem_singleton] at hx;omega,fun _ x e hx=>by have:=h.n3 x e;rw [List.mem_singleton] at hx;omega,fun _ x e hx=>by have:=h.n4 x e;rw [List.mem_singleton] at hx;omega⟩
theorem h4c {w:World} {p:Pg} {y:Lay} {g:Nat} (h:g0c w p y) (hg:w.heap.size<=g):Apart [g] p y:=by
 refine ⟨fun hne x e hx=>?_,fun hne x e hx=>?_,fun hne x e hx=>?_,fun hne x e hx=>?_⟩
 ·obtain ⟨b,o,e',hl,_⟩:=h.r1 hne;rw [e] at e';cases e';rw [List.mem_singleton] at hx;simp only at hx;omega
 ·obtain ⟨b,o,e',hl,_⟩:=h.r2 hne;rw [e] at e';cases e';rw [List.mem_singleton] at hx;simp only at hx;omega
 ·obtain ⟨b,o,e',hl,_⟩:=h.r3 hne;rw [e] at e';cases e';rw [List.mem_singleton] at hx;simp only at hx;omega
 ·obtain ⟨b,o,e',hl,_⟩:=h.r4 hne;rw [e] at e';cases e';rw [List.mem_singleton] at hx;simp only at hx;omega
structure Way (w0 wr:World) (v:Value) (l:List Stp):Prop where
 own:OwnS wr w0.heap.size v l
 rows:∀ s∈l,g0c wr s.p s.y
 ok:∀ s∈l,PgOk s.p
 new:∀ s∈l,Page.New s.p s.y w0.heap.size
 off:∀ s∈l,∀ g,v.ownBlock=some g->Apart [g] s.p s.y
theorem Way.nil (w:World):Way w w (.slice none 0 0) []:=⟨OwnS.nil _ _,fun _ h=>(by cases h),fun _ h=>(by cases h),fun _ h=>(by cases h),fun _ h=>(by cases h)⟩
theorem Way.below {w0 w w':World} {v:Value} {l:List Stp} (h:Way w0 w v l) (b:Below w.heap.size w w'):Way w0 w' v l :=
 ⟨h.own.below b,fun s hs=>(h.rows s hs).below b,h.ok,h.new,h.off⟩
theorem j5n {W W':World} {v:Value} {p:Pg} {y:Lay} (h:g0c W p y) (g:W.grownBy W' v.ownBlock) (k:∀ x,v.ownBlock=some x->Apart [x] p y):g0c W' p y:=by
 cases e:v.ownBlock with
 | none =>
  rw [e] at g;exact g4f h ((Mod.refl [] W).grown g (fun k e=>by cases e)) ⟨fun _ x _ hx=>(by cases hx),fun _ x _ hx=>(by cases hx),fun _ x _ hx=>(by cases hx),fun _ x _ hx=>(by cases hx)⟩
 | some x =>
  rw [e] at g;exact g4f h ((Mod.refl [x] W).grown g (fun k e=>.inl (by cases e;simp))) (k x e)
theorem Way.more {w0 wr W:World} {v:Value} {l:List Stp} (h:Way w0 wr v l) (hw:w0.heap.size<=wr.heap.size) (b:Below wr.heap.size wr W) {s:Stp} (hr:g0c W s.p s.y) (hok:PgOk s.p) (hn:Page.New s.p s.y wr.heap.size) (hl:l.length<=1000) :
 ∃ v' W',(Builtin.append_ #[164,164] 164 #[v,.slice (some ⟨W.heap.size,0,none⟩) 1 1]).run Tryz.prog (W.alloc (.cells (stC s) 168))=.ok v' W'/\Way w0 W' v' (l++[s])/\W.grownBy W' v.ownBlock/\(∀ k,v.ownBlock=some k->w0.heap.size<=k/\k<wr.heap.size):=by
 have h1:=h.below b;obtain ⟨v',W',hrun,ho,hg,hge,hbl⟩:=j2u W w0.heap.size v l h1.own s hl (Nat.le_trans hw b.size);have hlt:∀ k,v.ownBlock=some k->k<wr.heap.size:=fun k hk=>(World.ownsRow.lt h.own k hk).2
 have offs:∀ x,v.ownBlock=some x->Apart [x] s.p s.y:=fun x hx=>g4u hn (hlt x hx)
 refine ⟨v',W',hrun,⟨ho,fun x hx=>?_,fun x hx=>?_,fun x hx=>?_,fun x hx g e=>?_⟩,hg,fun k hk=>⟨hge k hk,hlt k hk⟩⟩
 ·rcases List.mem_append.1 hx with hx | hx
  ·exact j5n (h1.rows x hx) hg (h.off x hx)
  ·rw [List.mem_singleton] at hx;subst hx;exact j5n hr hg offs
 ·rcases List.mem_append.1 hx with hx | hx
  ·exact h.ok x hx
  ·rw [List.mem_singleton] at hx;subst hx;exact hok
 ·rcases List.mem_append.1 hx with hx | hx
  ·exact h.new x hx
  ·rw [List.mem_singleton] at hx;subst hx;exact hn.mono hw
 ·rcases hbl with hb | hb
  ·rw [hb] at e;rcases List.mem_append.1 hx with hx | hx
   ·exact h.off x hx g e
   ·rw [List.mem_singleton] at hx;subst hx;exact offs g e
  ·rw [hb] at e;cases e;rcases List.mem_append.1 hx with hx | hx
   ·exact h4c (h1.rows x hx) (Nat.le_succ _)
   ·rw [List.mem_singleton] at hx;subst hx;exact h4c hr (Nat.le_succ _)
def PgAt (d:St) (a kd:Int) (p:Pg):Prop:=d.readE a=0/\g0v a (d.readB a) p/\p.kind=kd
inductive Down (d:St) (key:Disk.Bs):Int->List Stp->Int->Prop
 | nil (r:Int):Down d key r [] r
 | snoc {r a:Int} {l:List Stp} {s:Stp} (h:Down d key r l a) (ha:s.at_=a) (hp:PgAt d a 2 s.p) (hk:s.kid=((g0y s.p.keys key:Nat):Int)) (hi:g0y s.p.keys key<s.p.kids.length):Down d key r (l++[s]) s.p.kids[g0y s.p.keys key]
def WayR (d:St) (key:Disk.Bs) (r:Int) (dp:Nat) (w:World) (e:Ending) (w':World):Prop:=Below w.heap.size w w' /\
 ((∃ l a p y v,Down d key r l a/\l.length+1=dp/\PgAt d a 1 p/\e=.returned (.tuple #[v,numV 0])/\Way w w' v (l++[⟨a,p,y,0⟩])) \/
  (∃ l a,Down d key r l a/\l.length<dp/\(d.readE a=0->∀ p,g0v a (d.readB a) p->p.kind≠(if l.length+1=dp then 1 else 2))/\e=.returned (.tuple #[.slice none 0 0,numV (g6y d a)])))
open Page (Pg Lay PgOk g0c pgC pgV Enc g0v BytesAt)
open Pool (Po NAt PoAt La poC poV numV At g0k g1g g1k g2m g0g OwnI chunks layAll May lay1 g3u g9e)
structure Acct (t:T) (ps:List Int):Prop where
 may:∀ x∈ps,May t.pool x
 own:∀ x∈t.own,May t.pool x
 nd:(ps++t.own).Nodup
 cnt:((ps.length+t.own.length+t.pool.free.length+t.pool.limbo.length:Nat):Int)+2=t.pool.high
theorem Acct.perm {t:T} {ps qs:List Int} (h:Acct t ps) (hp:ps.Perm qs):Acct t qs :=
 ⟨fun x hx=>h.may x (hp.mem_iff.2 hx),h.own,((hp.append_right t.own).nodup_iff).1 h.nd,by rw [<- hp.length_eq];exact h.cnt⟩
theorem Acct.fr {t:T} {ps:List Int} (h:Acct t ps) (n:Int) (v:Bool):Acct (frT t n v) ps:=⟨h.may,h.own,h.nd,h.cnt⟩
theorem Acct.ne {t:T} {n:Int} {ps:List Int} (h:Acct t (n :: ps)) {x:Int} (hx:x∈ps++t.own):x≠n:=fun e=>by
 have:=(List.nodup_cons.1 (show (n :: (ps++t.own)).Nodup from h.nd)).1;rw [e] at hx;exact this hx
theorem Acct.take {t:T} {N:Int} {ps:List Int} (h:Acct t ps) (hk:g0g t.pool N) (he:(g0h t N).2.2=0):Acct (g0h t N).1 ((g0h t N).2.1 :: ps):=by
 by_cases h0:(g0k t.pool N).2.2=0
 ·rw [g0h,if_pos h0];obtain ⟨k1,k2,k3,k4,k5,k6,k7,k8,k9⟩:=h0k hk h0;have no:∀ x∈ps++t.own,x≠(g0k t.pool N).2.1:=fun x hx e=>by
   have hm:May t.pool x:=(List.mem_append.1 hx).elim (h.may x) (h.own x);rw [e] at hm;rcases k3 with k | k
   ·exact hm.2.1 k
   ·have:=hm.1.2;omega
  have up:∀ x,May t.pool x->May (g0k t.pool N).1 x:=fun x hm=>⟨⟨hm.1.1,Int.lt_of_lt_of_le hm.1.2 k7⟩,fun hf=>hm.2.1 (k9 x hf),by rw [k6];exact hm.2.2⟩
  refine ⟨fun x hx=>?_,fun x hx=>up x (h.own x hx),?_,?_⟩
  ·rcases List.mem_cons.1 hx with rfl | hx
   ·exact ⟨⟨k1,k8⟩,k4,by rw [k6];exact k5⟩
   ·exact up x (h.may x hx)
  ·exact List.nodup_cons.2 ⟨fun hx=>no _ hx rfl,h.nd⟩
  ·have hc:=h.cnt;show (((_ :: ps).length+t.own.length+(g0k t.pool N).1.free.length+(g0k t.pool N).1.limbo.length:Nat):Int)+2=(g0k t.pool N).1.high;rw [k6,List.length_cons];unfold g0k at *;rcases hfr:t.pool.free with _ | ⟨x,fs⟩
   ·rw [hfr] at hc h0;simp only at h0 ⊢
    by_cases hm:N<=t.pool.high
    ·rw [if_pos hm] at h0;simp at h0
    ·rw [if_neg hm];simp only [List.length_nil] at hc ⊢;omega
   ·rw [hfr] at hc;simp only [List.length_cons] at hc ⊢;omega
 ·rw [g0h,if_neg h0] at he;exact absurd he h0
theorem Acct.give {t:T} {n:Int} {ps:List Int} (h:Acct t (n :: ps)):(g2k t n).2=0/\Acct (g2k t n).1 ps:=by
 have hm:=h.may n (List.mem_cons_self ..);have e:g1g t.pool n=({high:=t.pool.high,free:=t.pool.free,limbo:=lay1 n t.pool.limbo},0):=by rw [g1g,if_pos hm]
 rw [g2k,e];have up:∀ x,x≠n->May t.pool x->May {high:=t.pool.high,free:=t.pool.free,limbo:=lay1 n t.pool.limbo} x:=fun x hne hx=>⟨hx.1,hx.2.1,fun hl=>by
  rcases (g3u t.pool.limbo n x).1 hl with e | e
  ·exact hne e
  ·exact hx.2.2 e⟩
 refine ⟨rfl,fun x hx=>up x (h.ne (List.mem_append_left _ hx)) (h.may x (List.mem_cons_of_mem _ hx)),fun x hx=>up x (h.ne (List.mem_append_right _ hx)) (h.own x hx),(List.nodup_cons.1 (show (n :: (ps++t.own)).Nodup from h.nd)).2,?_⟩;have hc:=h.cnt;show ((ps.length+t.own.length+t.pool.free.length+(lay1 n t.pool.limbo).length:Nat):Int)+2=t.pool.high;rw [g9e];simp only [List.length_cons] at hc;omega
theorem Acct.back {t:T} {n:Int} {ps:List Int} (h:Acct t (n :: ps)):(g2r t n).2=0/\Acct (g2r t n).1 ps:=by
 have hm:=h.may n (List.mem_cons_self ..);have e:g1k t.pool n=({high:=t.pool.high,free:=lay1 n t.pool.free,limbo:=t.pool.limbo},0):=by rw [g1k,if_pos hm]
 rw [g2r,e];have up:∀ x,x≠n->May t.pool x->May {high:=t.pool.high,free:=lay1 n t.pool.free,limbo:=t.pool.limbo} x:=fun x hne hx=>⟨hx.1,fun hl=>by
  rcases (g3u t.pool.free n x).1 hl with e | e
  ·exact hne e
  ·exact hx.2.1 e,hx.2.2⟩
 refine ⟨rfl,fun x hx=>up x (h.ne (List.mem_append_left _ hx)) (h.may x (List.mem_cons_of_mem _ hx)),fun x hx=>up x (h.ne (List.mem_append_right _ hx)) (h.own x hx),(List.nodup_cons.1 (show (n :: (ps++t.own)).Nodup from h.nd)).2,?_⟩;have hc:=h.cnt;show ((ps.length+t.own.length+(lay1 n t.pool.free).length+t.pool.limbo.length:Nat):Int)+2=t.pool.high;rw [g9e];simp only [List.length_cons] at hc;omega
theorem Acct.drop {t:T} {n:Int} {ps:List Int} (h:Acct t (n :: ps)):(g1n t n).2=0/\Acct (g1n t n).1 ps:=by
 rw [g1n]
 split
 ·rw [if_pos h.back.1];exact ⟨rfl,h.back.2.fr n false⟩
 ·exact h.give
theorem k5x {t:T} {N:Int} (he:(g0h t N).2.2≠0):(g0h t N).2.2=60/\(g0h t N).1=t:=by
 by_cases h0:(g0k t.pool N).2.2=0
 ·rw [g0h,if_pos h0] at he;exact absurd rfl he
 ·rw [g0h,if_neg h0];refine ⟨?_,rfl⟩;unfold g0k at *;rcases hfr:t.pool.free with _ | ⟨x,fs⟩
  ·rw [hfr] at h0;simp only at h0 ⊢
   by_cases hm:N<=t.pool.high
   ·rw [if_pos hm]
   ·rw [if_neg hm] at h0;simp at h0
  ·rw [hfr] at h0;simp at h0
theorem h8r {d:St} (hc:Store.Calm d) (a k:Int) (p:Pg):PgAt d a k p↔(0<=a/\a<d.n)/\g0v a (d.get a) p/\p.kind=k:=by
 constructor
 ·rintro ⟨h1,h2,h3⟩;have hr:0<=a/\a<d.n:=by
   unfold St.readE at h1;rw [hc.1] at h1
   by_cases hh:d.has a=true
   ·unfold St.has at hh;simp at hh;omega
   ·simp [hh] at h1
  have:=h8z hc.1 hr.1 hr.2;rw [this.2] at h2;exact ⟨hr,h2,h3⟩
 ·rintro ⟨h1,h2,h3⟩;have:=h8z hc.1 h1.1 h1.2;exact ⟨this.1,by rw [this.2];exact h2,h3⟩
theorem PgAt.keep {d d':St} {a k:Int} {p:Pg} (h:PgAt d a k p) (hc:Store.Calm d) (hc':Store.Calm d') (hn:d'.n=d.n) (hg:d'.get a=d.get a):PgAt d' a k p:=by
 rw [h8r hc] at h;rw [h8r hc',hn,hg];exact h
structure p3c (d:St) (t:T) (p:Pg) (d':St) (t':T) (n:Int) (ps:List Int):Prop where
 acct:Acct t' (n :: ps)
 pre:Pre d' t'
 calm:Store.Calm d'
 sz:d'.n=d.n
 part:Part t t'
 pg:PgAt d' n p.kind p
 get:∀ x,x≠n->d'.get x=d.get x
theorem j6c {d d':St} {n:Int} {p:Pg} {x:Int} (g:Writ d n p d' x) {y:Int} (hy:y≠n):d'.get y=d.get y:=by
 unfold St.get;rw [g.C y hy,g.L]
theorem k9f {d d':St} {t t':T} {old n e:Int} {p:Pg} {ps:List Int} (hp:Pre d t) (hc:Store.Calm d) (h:LayR d t old p d' t' n e) (hf:Page.Fine p) (hk:p.kind≠4) (hep:p.epoch<18446744073709551616)
 (hpl:((g0x t d.n old).2.2=0/\Acct (g0x t d.n old).1 ((g0x t d.n old).2.1 :: ps))\/(g0x t d.n old).2.2=60) :
 (e=60/\d'=d)\/(e=0/\p3c d t p d' t' n ps):=by
 have st:=(Pre.refl hp).lay hp h;have e2:∃ l,Enc 2 p l:=g5z ⟨by omega,by omega⟩ hf hk;rcases h with ⟨hno,-⟩ | ⟨-,⟨hx,rfl,rfl,rfl,rfl⟩ | ⟨h0,x,hw,hx⟩⟩
 ·obtain ⟨l,hl⟩:=e2;exact absurd hl (hno l)
 ·rcases hpl with ⟨h0,-⟩ | h6
  ·exact absurd h0 hx
  ·exact .inl ⟨h6,rfl⟩
 ·rcases hpl.symm with h6 | ⟨-,ha⟩
  ·rw [h6] at h0;exact absurd h0 (by decide)
  have hm:=ha.may _ (List.mem_cons_self ..);obtain ⟨i1,p1,f1⟩:=hp.inv.place hp.pk old;have hk1:=h0e hp.pk old;have hlt:(g0x t d.n old).2.1<d.n:=Int.lt_of_lt_of_le hm.1.2 hk1.top;have hnn:=hp.nle;have em:∃ l,Enc (g0x t d.n old).2.1 p l:=g5z ⟨hm.1.1,by omega⟩ hf hk;have hx0:=g5c hw hc (by have:=hm.1.1;show 0<=_;omega) hlt em;subst hx0;have g:=hw.writ;rcases hx with ⟨-,rfl,rfl,rfl⟩ | ⟨hx,-⟩
  ·obtain ⟨l,hl,hC⟩:=g.done rfl;refine .inr ⟨rfl,ha,st.pre hp,g.calm hc,g.n,p1,?_,fun y hy=>j6c g hy⟩;rw [h8r (g.calm hc),g.n];have hg:d'.get (g0x t d.n old).2.1=l:=by rw [St.get,hC];rfl
   exact ⟨⟨by have:=hm.1.1;omega,hlt⟩,by rw [hg];exact Page.g7a hl hep,rfl⟩
  ·exact absurd rfl hx
open Page (Pg Lay PgOk g0c pgC pgV Enc g0v BytesAt Lt g1l)
abbrev Ents:=List (Disk.Bs×Disk.Bs)
abbrev Held:=Ents×List Int
def g3q (ks:List Disk.Bs) (L:List Held):Prop:=∀ i (h:i<ks.length),(∀ e∈(L[i]?.getD ([],[])).1,Lt e.1 ks[i])/\(∀ e∈(L[i+1]?.getD ([],[])).1,¬ Lt e.1 ks[i])
def g6i (d:St) (n:Int):Prop:=∃ k p,PgAt d n k p/\g0p p<=g0o p
def IsT (d:St):Nat->Int->Held->Prop
 | 0,_,_=>False
 | 1,a,x=>∃ p:Pg,PgAt d a 1 p/\x=(p.pairs,[a])
 | m+2,a,x=>∃ (p:Pg) (L:List Held),PgAt d a 2 p/\L.length=p.kids.length/\(∀ (i:Nat) (n:Int) (y:Held),p.kids[i]?=some n->L[i]?=some y->IsT d (m+1) n y/\g6i d n)/\g3q p.keys L/\x=(L.flatMap (·.1),a :: L.flatMap (·.2))
theorem g7o {d:St}:∀ {m:Nat} {a:Int} {x:Held},IsT d m a x->a∈x.2
 | 0,_,_,h=>h.elim
 | 1,_,_,⟨_,_,e⟩=>by rw [e];exact List.mem_singleton.2 rfl
 | _+2,_,_,⟨_,_,_,_,_,_,e⟩=>by rw [e];exact List.mem_cons_self ..
theorem g6i.keep {d d':St} (hc:Store.Calm d) (hc':Store.Calm d') (hn:d'.n=d.n) {n:Int} (h:g6i d n) (hg:d'.get n=d.get n):g6i d' n:=by
 obtain ⟨k,p,h1,h2⟩:=h;exact ⟨k,p,h1.keep hc hc' hn hg,h2⟩
theorem IsT.keep {d d':St} (hc:Store.Calm d) (hc':Store.Calm d') (hn:d'.n=d.n):∀ {m:Nat} {a:Int} {x:Held},IsT d m a x->(∀ k∈x.2,d'.get k=d.get k)->IsT d' m a x
 | 0,_,_,h,_=>h.elim
 | 1,_,_,⟨p,hp,e⟩,hg=>⟨p,hp.keep hc hc' hn (hg _ (by rw [e];exact List.mem_singleton.2 rfl)),e⟩
 | m+2,a,_,⟨p,L,hp,hl,hk,hb,e⟩,hg=>⟨p,L,hp.keep hc hc' hn (hg _ (by rw [e];exact List.mem_cons_self ..)),hl,fun i n y h1 h2=>(by
  have g:∀ k∈y.2,d'.get k=d.get k:=fun k hk'=>hg k (by
   rw [e];exact List.mem_cons_of_mem _ (List.mem_flatMap.2 ⟨y,List.mem_of_getElem? h2,hk'⟩))
  exact ⟨(hk i n y h1 h2).1.keep hc hc' hn g,(hk i n y h1 h2).2.keep hc hc' hn (g n (g7o (hk i n y h1 h2).1))⟩),hb,e⟩
open Go.RowKit Go.Shelf Gen
open Page (Pg Lay PgOk g0c pgC pgV)
open Pool (numV)
attribute [local go_sem] Oper.semAt_some
def g4l (n₁:Nat) (S:List Nat) (W W':World):Prop:=W.heap.size<=W'.heap.size/\∀ k,k<n₁->k∉S->W'.heap[k]?=W.heap[k]?
theorem g4l.refl (n₁:Nat) (S:List Nat) (W:World):g4l n₁ S W W:=⟨Nat.le_refl _,fun _ _ _=>rfl⟩
theorem g4l.trans {n₁:Nat} {S:List Nat} {A B C:World} (h:g4l n₁ S A B) (k:g4l n₁ S B C):g4l n₁ S A C:=⟨Nat.le_trans h.1 k.1,fun j hj hne=>(k.2 j hj hne).trans (h.2 j hj hne)⟩
theorem g4l.of_below {n₁:Nat} {S:List Nat} {W W':World} (h:Below n₁ W W'):g4l n₁ S W W':=⟨h.size,fun k hk _=>h.block k hk⟩
theorem g4l.of_mod {n₁:Nat} {S:List Nat} {W W':World} (h:Mod S W W') (hn:n₁<=W.heap.size):g4l n₁ S W W':=⟨h.size,fun k hk hne=>h.block k (Nat.lt_of_lt_of_le hk hn) hne⟩
theorem g4l.cell {n₁:Nat} {S:List Nat} {W W':World} (h:g4l n₁ S W W') {p:Addr} (h1:p.block<n₁) (h2:p.block∉S):W'.cell? p=W.cell? p:=World.cell?_of_block (h.2 _ h1 h2)
theorem k2t {n₁:Nat} {S:List Nat} {w2:World} (hn:n₁<=w2.heap.size) (W:World) (l:Nat) (o o':Obj) (hl:w2.heap.size<=l) (_:W.heap[l]?=some o) (_:o.isCells=false) (_:o.isWalk=false):g4l n₁ S W (W.putObj l o') :=
 ⟨by simp,fun k hk _=>World.putObj_heap_other (by omega)⟩
theorem k5p (xs:List Stp) (j:Nat) (h:j<xs.length):(xs.take (j+1)).reverse=xs[j] :: (xs.take j).reverse:=by
 rw [List.take_succ_eq_append_getElem h,List.reverse_append];rfl
theorem k6c (F:Fence) (n:Nat) (hf:F.fn 225) (hro:F.round=none) (hn:1<=n) (l Bs:Nat) (S:List Nat) (A:Option Addr) (len cap:Nat) (xs:List Stp) (w1:World) (hxl:xs.length=len) (h:k7s w1 A xs) (hA:xs≠[]->∀ a,A=some a->a.block∉S)
 (hBs:Bs<w1.heap.size) (hBs2:Bs∉S) (hlen:len<=1000000) (_hcap:len<=cap) (J Jx:List {x:Nat×Stp // xs[x.1]?=some x.2}->World->Prop)
 (hY:∀ pre x W,J pre W->pre.length<len->YieldAt F (n-1) Tryz.prog l #[.int .i64 ((x.1.1:Nat):Int),.agg (stC x.1.2)] W fun e W' =>
   (e=.returned (.bool true)/\J (pre++[x]) W'/\g4l w1.heap.size S W W')\/(e=.returned (.bool false)/\Jx (pre++[x]) W'))
 (W:World) (hW:g4l w1.heap.size S w1 W) (hc1:W.cell? ⟨Bs,0,none⟩=some (.slice A len cap)) (h0:J [] W) :
 CallsIn F n Tryz.prog 225 #[.func (.yield l) #[] #[],.pointer (some ⟨Bs,0,none⟩)] W fun e W'=>(∃ v,e=.returned v) /\
  ((∃ ys,ys.map (·.1.2)=xs.reverse/\J ys W')\/(∃ pre,(∃ ss,pre.map (·.1.2)++ss=xs.reverse)/\Jx pre W')):=by
 refine callsIn_of_wp Tryz.func225 rfl hf ?_ hro;simp only [Tryz.ntmps225,List.size_toArray,List.length_cons,List.length_nil,Nat.reduceAdd,Nat.reduceSub,Array.replicate_succ,Array.replicate_zero,List.push_toArray,List.append_toArray,List.nil_append,List.cons_append];have HH:=hid h;have HA:=hid hA;have HC1:=hid hc1;have HXL:=hid hxl;have hw0:IntKind.i64.wrap ((len:Int)-1)=(len:Int)-1:=IntWalk.i64_in _ (by omega)
 clear h hA hc1 hxl;have c1:=HC1.out
 gi_wp2
 clear c1 hw0
 gi_loopw [3] (fun i wr=>∃ (z:Int) (q:Nat) (pre:List {x:Nat×Stp // xs[x.1]?=some x.2}),i=.int .i64 z/\Hid (z=(q:Int)-1)/\q<=len/\J pre wr/\g4l w1.heap.size S W wr/\Hid (pre.map (·.1.2)++(xs.take q).reverse=xs.reverse))
  (fun i _=>(intOf i+1).toNat)
 case atStart=>exact ⟨(len:Int)-1,len,[],rfl,hid rfl,Nat.le_refl _,h0,g4l.refl _ _ _,hid (by rw [List.take_of_length_le (Nat.le_of_eq HXL.out)];rfl)⟩
 case round =>
  obtain ⟨z,q,pre,rfl,hz,hq,hJs,hk,hQ⟩:=hrel;have c1:=(hk.cell (p:=⟨Bs,0,none⟩) hBs hBs2).trans HC1.out;cases q with
  | zero =>
   obtain rfl:z = -1:=by have:=hz.out;simpa using this
   have HE:Hid (pre.map (·.1.2)=xs.reverse):=hid (by
    have:=hQ.out
    rwa [List.take_zero,List.reverse_nil,List.append_nil] at this)
   clear hQ hz
   gi_wp2
   go_end0
   exact ⟨⟨_,rfl⟩,.inl ⟨pre,HE.out,hJs⟩⟩
  | succ j =>
   obtain rfl:z=(j:Int):=by have:=hz.out;omega
   have hj:j<xs.length:=by have:=HXL.out;omega
   have hjl:(j:Int)<(len:Int):=by omega
   obtain ⟨g,o,e0,hgl,hc⟩:=HH.out (fun e=>by rw [e] at hj;simp at hj);have hgS:g∉S:=HA.out (fun e=>by rw [e] at hj;simp at hj) ⟨g,o,none⟩ e0;have hcj:=hc j hj;have hcell:∀ (i:Nat) (u:Value),(stC xs[j]).toList[i]?=some u->wr.cell? ⟨g,o+j*13+i,none⟩=some u:=fun i u hu=>((hW.trans hk).cell (p:=⟨g,o+j*13+i,none⟩) hgl hgS).trans (hcj i u hu)
   obtain ⟨x,hx,hxj⟩:∃ x:{x:Nat×Stp // xs[x.1]?=some x.2},x.1.2=xs[j]/\x.1.1=j:=⟨⟨(j,xs[j]),List.getElem?_eq_getElem hj⟩,rfl,rfl⟩;rw [<- hx] at hcell;have HQ2:=hid (show (pre++[x]).map (·.1.2)++(xs.take j).reverse=xs.reverse from by
    rw [<- hQ.out,k5p xs j hj,List.map_append,List.append_assoc,List.map_singleton,hx];rfl)
   have hpl:pre.length<len:=by
    have:=congrArg List.length hQ.out;rw [List.length_append,List.length_map,List.length_reverse,List.length_reverse,List.length_take] at this;have:=HXL.out;omega
   obtain ⟨fn,tmps,assign,body,hy,hR⟩:=hY pre x wr hJs hpl;rw [hxj] at hy;have k0:=hcell 0 _ rfl;have k1:=hcell 1 _ rfl;have k2:=hcell 2 _ rfl;have k3:=hcell 3 _ rfl;have k4:=hcell 4 _ rfl;have k5:=hcell 5 _ rfl;have k6:=hcell 6 _ rfl;have k7:=hcell 7 _ rfl;have k8:=hcell 8 _ rfl;have k9:=hcell 9 _ rfl;have k10:=hcell 10 _ rfl;have k11:=hcell 11 _ rfl;have k12:=hcell 12 _ rfl;rw [Nat.add_zero] at k0
   have hw1:IntKind.i64.wrap ((j:Int)-1)=(j:Int)-1:=IntWalk.i64_in _ (by omega);subst e0;clear hc hcj hcell hx hxj hQ hz hgS hgl
   gi_wp2
   refine hR.mono ?_;rintro e W3 (⟨rfl,hJ3,hk3⟩ | ⟨rfl,hJx3⟩)
   ·have HK:=hid (hk.trans hk3);have HJ:=hid hJ3;clear hJ3 hk3 hk k0 k1 k2 k3 k4 k5 k6 k7 k8 k9 k10 k11 k12
    gi_wp2
    go_roundw
    case rel=>exact ⟨(j:Int)-1,j,_,rfl,hid rfl,by omega,HJ.out,HK.out,HQ2⟩
    case measure=>simp [intOf]
   ·clear k0 k1 k2 k3 k4 k5 k6 k7 k8 k9 k10 k11 k12
    gi_wp2
    refine bodyPost_ret (results_none rfl _ _ _) rfl ?_;exact ⟨⟨_,rfl⟩,.inr ⟨_,⟨_,HQ2.out⟩,hJx3⟩⟩
theorem p1q (F:Fence) (n:Nat) (h5:F.fn 181) (hro:F.round=none) (a:Option Addr) (len cap:Nat) (w:World) :
 CallsIn F n Tryz.prog 181 #[.slice a len cap] w fun e w'=>e=.returned (.func (.func 225) #[] #[.pointer (some ⟨w.heap.size,0,none⟩)])/\w'=w.alloc (.cells #[.slice a len cap] 164):=by
 refine callsIn_of_wp Tryz.func181 rfl h5 ?_ hro;simp only [Tryz.ntmps181,List.size_toArray,List.length_cons,List.length_nil,Nat.reduceAdd,Nat.reduceSub,Array.replicate_succ,Array.replicate_zero,List.push_toArray,List.append_toArray,List.nil_append,List.cons_append]
 gi_wp2
 go_ret
 exact ⟨rfl,rfl⟩
theorem j8n (F:Fence) (n:Nat) (h7:F.fn 225) (hro:F.round=none) (hn:1<=n) (Bs:Nat) (S:List Nat) (A:Option Addr) (len cap:Nat) (xs:List Stp) (w1:World) (hxl:xs.length=len) (h:k7s w1 A xs) (hA:xs≠[]->∀ a,A=some a->a.block∉S)
 (hBs:Bs<w1.heap.size) (hBs2:Bs∉S) (hlen:len<=1000000) (hcap:len<=cap) (hc1:w1.cell? ⟨Bs,0,none⟩=some (.slice A len cap)) :
 SeqStopsK F n Tryz.prog 225 #[.pointer (some ⟨Bs,0,none⟩)] (fun x:{x:Nat×Stp // xs[x.1]?=some x.2}=>#[.int .i64 ((x.1.1:Nat):Int),.agg (stC x.1.2)]) (g4l w1.heap.size S) (fun ys=>ys.map (·.1.2)=xs.reverse) (fun pre=>∃ ss,pre.map (·.1.2)++ss=xs.reverse) len w1:=fun l J Jx W hW _ _ hY h0 =>
 k6c F n h7 hro hn l Bs S A len cap xs w1 hxl h hA hBs hBs2 hlen hcap J Jx hY W (g4l.of_below hW) ((hW.cell (p:=⟨Bs,0,none⟩) hBs).trans hc1) h0
open Page (Bs strV strB PRow h3f Drew h3z k2m j1l)
theorem j9i (A B:Option Addr) (n c m d:Nat) (la lb:List Bs) (w:World) (hl:la.length=n) (hm:lb.length=m) (hn:n<=9223372036854775806) (hR:RowG w strV A la) (hS:RowG w strV B lb):Calls Tryz.prog 183 #[.slice A n c,.slice B m d] w (h3f (la=lb) w):=by
 have HR:=hid hR;have HS:=hid hS;have HL:=hid hl;have HM:=hid hm;clear hR hS hl hm
 by_cases hnm:n=m
 rotate_left
 ·have d0:((n:Int) != (m:Int))=true:=by simp;omega
  have HN:=hid hnm;clear hnm;go_enter Tryz.func183,Tryz.ntmps183
  go_wp2_with fail
  go_ret
  exact ⟨_,rfl,⟨fun h=>(by cases h),fun h=>absurd (by rw [<- HL.out,<- HM.out,h]) HN.out⟩,Drew.refl _⟩
 subst hnm;go_enter Tryz.func183,Tryz.ntmps183
 go_wp2_with fail
 go_loopw [13] (fun i wr=>∃ k:Nat,i=.int .i64 (k:Int)/\k<=n/\Hid (la.take k=lb.take k)/\Drew w wr) (fun i _=>n-(intOf i).toNat)
 case atStart=>exact ⟨0,rfl,Nat.zero_le _,hid (by simp),Drew.refl _⟩
 case round =>
  obtain ⟨k,rfl,hk,hQ,hD⟩:=hrel;have HD:=hid hD;clear hD;have hwr:IntKind.i64.wrap ((k:Int)+1)=(k:Int)+1:=IntWalk.i64_in _ (by omega)
  by_cases hlt:k<n
  ·have hka:k<la.length:=by have:=HL.out;omega
   have hkb:k<lb.length:=by have:=HM.out;omega
   obtain ⟨b1,o1,rfl,-,hc1⟩:=HR.out (by intro e;subst e;simp at hka);obtain ⟨b2,o2,rfl,-,hc2⟩:=HS.out (by intro e;subst e;simp at hkb);have h1:=hc1 k hka;have h2:=hc2 k hkb;rw [<- HD.out.cell] at h1 h2;have HE:=hid (h3z hka hkb hQ.out);have HN:=hid (k2m hka hkb);have HX:=hid (show ((strB la[k]).toList==(strB lb[k]).toList)=decide (la[k]=lb[k]) from by rw [Page.g0m,Page.g0m];by_cases e:la[k]=lb[k] <;> simp [e])
   obtain ⟨X1,eX1⟩:∃ X,strB la[k]=X:=⟨_,rfl⟩;rw [show strV la[k]=.string X1 by rw [<- eX1]] at h1;obtain ⟨X2,eX2⟩:∃ X,strB lb[k]=X:=⟨_,rfl⟩;rw [show strV lb[k]=.string X2 by rw [<- eX2]] at h2;rw [eX1,eX2] at HX;clear eX1 eX2;clear hc1 hc2 hQ;have t1:(k:Int)<(n:Int):=by omega
   have t3:(0:Int)<=(k:Int):=by omega
   by_cases hxy:la[k]=lb[k]
   ·have HF:=hid (HE.out hxy);have hx1:(X1.toList==X2.toList)=true:=by rw [HX.out];simp [hxy]
    clear hxy HE HN HX;go_wp2_with fail
    go_quiet (fail)
    go_wp2_with fail
    go_roundw
    case rel=>exact ⟨k+1,by go_num,by omega,HF,HD.out.drewN _⟩
    case measure=>simp [intOf];omega
   ·have HF:=hid (HN.out hxy);have hx1:(X1.toList==X2.toList)=false:=by rw [HX.out];simp [hxy]
    clear hxy HE HN HX;go_wp2_with fail
    go_quiet (fail)
    go_wp2_with fail
    go_ret
    exact ⟨_,rfl,⟨fun h=>(by cases h),fun h=>absurd h HF.out⟩,HD.out.drewN _⟩
  ·have HF:=hid (j1l (k:=k) (by have:=HL.out;omega) (by rw [HL.out,HM.out]) hQ.out);clear hQ;go_wp2_with fail
   go_ret
   exact ⟨_,rfl,⟨fun _=>HF.out,fun _=>rfl⟩,HD.out⟩
theorem j8d (A B:Option Addr) (n c m d:Nat) (la lb:List Int) (w:World) (hl:la.length=n) (hm:lb.length=m) (hn:n<=9223372036854775806) (hR:RowG w numV A la) (hS:RowG w numV B lb):Calls Tryz.prog 184 #[.slice A n c,.slice B m d] w (h3f (la=lb) w):=by
 have HR:=hid hR;have HS:=hid hS;have HL:=hid hl;have HM:=hid hm;clear hR hS hl hm
 by_cases hnm:n=m
 rotate_left
 ·have d0:((n:Int) != (m:Int))=true:=by simp;omega
  have HN:=hid hnm;clear hnm;go_enter Tryz.func184,Tryz.ntmps184
  go_wp2_with fail
  go_ret
  exact ⟨_,rfl,⟨fun h=>(by cases h),fun h=>absurd (by rw [<- HL.out,<- HM.out,h]) HN.out⟩,Drew.refl _⟩
 subst hnm;go_enter Tryz.func184,Tryz.ntmps184
 go_wp2_with fail
 go_loopw [13] (fun i wr=>∃ k:Nat,i=.int .i64 (k:Int)/\k<=n/\Hid (la.take k=lb.take k)/\Drew w wr) (fun i _=>n-(intOf i).toNat)
 case atStart=>exact ⟨0,rfl,Nat.zero_le _,hid (by simp),Drew.refl _⟩
 case round =>
  obtain ⟨k,rfl,hk,hQ,hD⟩:=hrel;have HD:=hid hD;clear hD;have hwr:IntKind.i64.wrap ((k:Int)+1)=(k:Int)+1:=IntWalk.i64_in _ (by omega)
  by_cases hlt:k<n
  ·have hka:k<la.length:=by have:=HL.out;omega
   have hkb:k<lb.length:=by have:=HM.out;omega
   obtain ⟨b1,o1,rfl,-,hc1⟩:=HR.out (by intro e;subst e;simp at hka);obtain ⟨b2,o2,rfl,-,hc2⟩:=HS.out (by intro e;subst e;simp at hkb);have h1:=hc1 k hka;have h2:=hc2 k hkb;rw [<- HD.out.cell] at h1 h2;have HE:=hid (h3z hka hkb hQ.out);have HN:=hid (k2m hka hkb);have HX:=hid (show la[k]=lb[k]↔la[k]=lb[k] from Iff.rfl);obtain ⟨X1,eX1⟩:∃ X,la[k]=X:=⟨_,rfl⟩;rw [show numV la[k]=.int .i64 X1 by rw [<- eX1]] at h1
   obtain ⟨X2,eX2⟩:∃ X,lb[k]=X:=⟨_,rfl⟩;rw [show numV lb[k]=.int .i64 X2 by rw [<- eX2]] at h2;rw [eX1,eX2] at HX HE HN;clear eX1 eX2;clear hc1 hc2 hQ;have t1:(k:Int)<(n:Int):=by omega
   have t3:(0:Int)<=(k:Int):=by omega
   by_cases hxy:X1=X2
   ·have HF:=hid (HE.out hxy);have hx1:(X1 != X2)=false:=by simp [hxy]
    have hx2:(X1==X2)=true:=by simp [hxy]
    clear hxy HE HN HX;go_wp2_with fail
    go_quiet (fail)
    go_wp2_with fail
    go_roundw
    case rel=>exact ⟨k+1,by go_num,by omega,HF,HD.out.drewN _⟩
    case measure=>simp [intOf];omega
   ·have HF:=hid (HN.out hxy);have hx1:(X1 != X2)=true:=by simp [hxy]
    have hx2:(X1==X2)=false:=by simp [hxy]
    clear hxy HE HN HX;go_wp2_with fail
    go_quiet (fail)
    go_wp2_with fail
    go_ret
    exact ⟨_,rfl,⟨fun h=>(by cases h),fun h=>absurd h HF.out⟩,HD.out.drewN _⟩
  ·have HF:=hid (j1l (k:=k) (by have:=HL.out;omega) (by rw [HL.out,HM.out]) hQ.out);clear hQ;go_wp2_with fail
   go_ret
   exact ⟨_,rfl,⟨fun _=>HF.out,fun _=>rfl⟩,HD.out⟩
theorem g2l {d:St} {a kd:Int} {p:Pg} (h:PgAt d a kd p):Page.Fine p:=h.2.1.2.1
theorem p0v {w:World} {B:Blk} {d:St} {t:T} {a:Lys} (h:Sto w B d t a) {tb:Nat} {r c:Int} {m:Nat} (hm:m<=40) (hT:At w tb (trC B.ss r ((m+1:Nat):Int) c)) (key:Disk.Bs) :
 Calls Tryz.prog 97 #[ptr tb,strV key] w (WayR d key r (m+1) w):=by
 have PG:=hid (fun V (hV:Below w.heap.size w V) n kd (hk:kd≠4)=>j1d (h.below hV) (hT.below hV hT.1) n kd hk);have KT:=hid (fun V (hV:Below w.heap.size w V)=>show V.cell? ⟨tb,1,none⟩=some (.int .i64 r)/\V.cell? ⟨tb,2,none⟩=some (.int .i64 ((m+1:Nat):Int)) from ⟨(hT.below hV hT.1).2.2 1 _ rfl,(hT.below hV hT.1).2.2 2 _ rfl⟩);clear h hT;obtain ⟨D,hD⟩:∃ D:Int,((m+1:Nat):Int)=D:=⟨_,rfl⟩;rw [hD] at KT
 have hw:IntKind.i64.wrap (D-1)=(m:Int):=by rw [IntWalk.i64_in _ (by omega)];omega
 have hne:(D==0)=false:=beq_eq_false_iff_ne.2 (by omega);obtain ⟨g1,g2⟩:=KT.out w (Below.refl _ _);obtain ⟨kv,hkv⟩:∃ kv,strV key=kv:=⟨_,rfl⟩;rw [hkv];have KV:=hid hkv;clear hkv KT hD;go_enter Tryz.func97,Tryz.ntmps97
 go_wp2_with fail
 clear g1 g2 hne;go_loopw [6,7,30] (fun v x i wr=>∃ (l:List Stp) (at_:Int),x=.int .i64 at_/\i=.int .i64 (l.length:Int)/\l.length<=m/\Hid (Way w wr v l)/\Hid (Down d key r l at_)/\Hid (Below w.heap.size w wr)) (fun _ _ i _=>m-(intOf i).toNat)
 case atStart=>exact ⟨[],r,rfl,rfl,Nat.zero_le _,hid (Way.nil w),hid (.nil r),hid (Below.refl _ _)⟩
 case round =>
  obtain ⟨l,at_,rfl,rfl,hlm,WY,DN,BW⟩:=hrel;obtain ⟨k,hk⟩:∃ k,l.length=k:=⟨_,rfl⟩;have HK:=hid hk;rw [hk] at hlm;rw [hk];clear hk;have hwr:IntKind.i64.wrap ((k:Int)+1)=(k:Int)+1:=IntWalk.i64_in _ (by omega)
  by_cases hlt:k<m
  ·have cP:=PG.out wr BW.out at_ 2 (by decide)
   go_wp2_with fail
   refine cP.mono ?_;rintro e w1 ⟨b1,⟨p,y,rfl,hr,hok,he,hd,hkd,hnw⟩ | ⟨rfl,hno⟩⟩
   rotate_left
   ·have P1:=hid (g1s w1 {kind:=0} {});have FIN:=hid (BW.out.trans ((b1.trans ((Pool.g0a w1 (.cells (pgC {kind:=0} {}) 103)).mono b1.size)).mono BW.out.size));obtain ⟨W2,hW2⟩:∃ W2,w1.alloc (.cells (pgC {kind:=0} {}) 103)=W2:=⟨_,rfl⟩;rw [hW2] at FIN P1;obtain ⟨te,hte⟩:∃ te,g6y d at_=te:=⟨_,rfl⟩
    have HTE:=hid hte;have d1:(te != 0)=true:=by rw [<- hte];have:=h0d d at_;simp [this]
    have HNO:=hid hno;rw [hte];obtain ⟨pv,hpv⟩:∃ pv,g6o=pv:=⟨_,rfl⟩;rw [show pgV {kind:=0} {}=pv from hpv] at P1;rw [hpv];clear hte hno b1 cP WY hpv;go_wp2_with (first | ((with_reducible refine Disk.g0b rfl 103 (.tmp 8) (.tmp 36) rfl _ _ ?_ ?_ P1.out ?_);(next=>rfl);(next=>rfl)))
    go_ret2
    refine ⟨FIN.out,.inr ⟨l,at_,DN.out,by rw [HK.out];omega,?_,by rw [HTE.out];rfl⟩⟩;rw [if_neg (by rw [HK.out];omega)];exact HNO.out
   have hpa:PgAt d at_ 2 p:=⟨he,hd,hkd⟩
   have hbr:=((Page.g7x hkd).1 (g2l hpa)).1;have P1:=hid (g1s w1 p y);have b2:=Pool.g0a w1 (.cells (pgC p y) 103);have A2:=at_new w1 (pgC p y) 103;obtain ⟨W2,hW2⟩:∃ W2,w1.alloc (.cells (pgC p y) 103)=W2:=⟨_,rfl⟩;rw [hW2] at P1 b2 A2;have R2:=hr.below b2;have LB:=hid (g1c (o:=0) A2 p y rfl);have x2:W2.cell? ⟨w1.heap.size,2,none⟩=some (.slice y.A2 p.keys.length y.c2):=A2.2.2 2 _ rfl
   have hsl:g0y p.keys key<p.kids.length:=by rw [hbr.kids];have:=j3x p.keys key;omega
   have cS:Calls Tryz.prog 147 #[.slice y.A2 p.keys.length y.c2,strV key] W2 (fun e w'=>e=.returned (.int .i64 ((g0y p.keys key:Nat):Int))/\W2=w'):=k7h (c:=y.c2) key W2 rfl (by have:=hbr.len;omega) R2.r2 (g0s p.keys key) (h0l _ _) (g7y hbr.rises key) (g2j p.keys key) (g5a _ _);rw [KV.out] at cS;obtain ⟨v',W',hrun,WY',hg,hge⟩:=WY.out.more BW.out.size (b1.trans (b2.mono b1.size)) (s:=⟨at_,p,y,((g0y p.keys key:Nat):Int)⟩) R2 hok hnw (by rw [HK.out];omega)
   have HDN:=hid (DN.out.snoc (s:=⟨at_,p,y,((g0y p.keys key:Nat):Int)⟩) rfl hpa rfl hsl);have HWY:=hid WY';have BW2:=BW.out.trans ((b1.trans (b2.mono b1.size)).mono BW.out.size);have HBW:=hid (BW2.grown hg BW2.size (fun k e=>(hge k e).1));have A':At W' w1.heap.size (pgC p y):=Page.At.grownRow A2 hg (fun e=>by have:=hge _ e.symm;have:=b1.size;omega);have x3:W'.cell? ⟨w1.heap.size,3,none⟩=some (.slice y.A3 p.kids.length y.c3):=A'.2.2 3 _ rfl
   obtain ⟨b3,o3,e3,hb3,hc3⟩:=(WY'.rows ⟨at_,p,y,((g0y p.keys key:Nat):Int)⟩ (by simp)).r3 (by intro e;simp only at e;rw [e] at hsl;simp at hsl);have z3:=hc3 (g0y p.keys key) hsl;simp only at z3 e3;obtain ⟨nx,hnx⟩:∃ nx,p.kids[g0y p.keys key]=nx:=⟨_,rfl⟩;have HDN2:=hid (show Down d key r (l++[⟨at_,p,y,((g0y p.keys key:Nat):Int)⟩]) nx from by rw [<- hnx];exact HDN.out);rw [hnx] at z3;have hrun':(Builtin.append_ #[164,164] 164 #[u6,.slice (some ⟨W2.heap.size,0,none⟩) 1 1]).run Tryz.prog (W2.alloc (.cells #[.int .i64 at_,.int .i64 p.kind,.slice y.A1 p.pairs.length y.c1,.slice y.A2 p.keys.length y.c2,.slice y.A3 p.kids.length y.c3,.slice y.A4 p.pages.length y.c4,.int .i64 p.next,.int .u64 (p.epoch:Int),.int .i64 p.root,.int .i64 p.depth,.int .i64 p.count,.int .i64 p.high,.int .i64 ((g0y p.keys key:Nat):Int)] 168))=.ok v' W':=hrun
   obtain ⟨q,hq⟩:∃ q,g0y p.keys key=q:=⟨_,rfl⟩;rw [hq] at cS hrun' HDN2 HWY z3 hsl;have R:=hid hrun';rw [e3] at x3;have hql:(q:Int)<(p.kids.length:Int):=by omega
   have HLN:=hid (show (l++[(⟨at_,p,y,((q:Nat):Int)⟩:Stp)]).length=k+1 from by rw [List.length_append,HK.out];rfl);clear hrun hrun' WY' HDN BW2 hg hge A' hc3 hb3 hnx hq hbr hpa hd he hkd hok hnw hr R2 A2 b1 b2 hW2 cP WY DN BW e3 hsl;go_wp2_with (first | ((with_reducible refine Disk.g0b rfl 103 (.tmp 8) (.tmp 36) rfl _ _ ?_ ?_ P1.out ?_);(next=>rfl);(next=>rfl)))
   refine cS.mono ?_;rintro e w3 ⟨rfl,rfl⟩;clear cS x2;go_wp2_with (first | ((with_reducible refine Disk.g0d rfl 103 (.tmp 8) rfl _ ?_ LB.out ?_);(next=>rfl)) | (at_builtin;((with_reducible refine Lib.wpList_append_run _ rfl _ _ _ _ rfl _ _ ?_ ?_ _ _ R.out ?_);(next=>rfl);(next=>rfl))))
   go_roundw
   case rel=>exact ⟨l++[⟨at_,p,y,(q:Int)⟩],nx,rfl,by rw [HLN.out];go_num,by rw [HLN.out];omega,HWY,HDN2,HBW⟩
   case measure=>simp [intOf];omega
  obtain rfl:k=m:=by omega
  have cP:=PG.out wr BW.out at_ 1 (by decide)
  go_wp2_with fail
  refine cP.mono ?_;rintro e w1 ⟨b1,⟨p,y,rfl,hr,hok,he,hd,hkd,hnw⟩ | ⟨rfl,hno⟩⟩
  rotate_left
  ·have P1:=hid (g1s w1 {kind:=0} {});have FIN:=hid (BW.out.trans ((b1.trans ((Pool.g0a w1 (.cells (pgC {kind:=0} {}) 103)).mono b1.size)).mono BW.out.size));obtain ⟨W2,hW2⟩:∃ W2,w1.alloc (.cells (pgC {kind:=0} {}) 103)=W2:=⟨_,rfl⟩;rw [hW2] at FIN P1;obtain ⟨te,hte⟩:∃ te,g6y d at_=te:=⟨_,rfl⟩
   have HTE:=hid hte;have d1:(te != 0)=true:=by rw [<- hte];have:=h0d d at_;simp [this]
   have HNO:=hid hno;rw [hte];obtain ⟨pv,hpv⟩:∃ pv,g6o=pv:=⟨_,rfl⟩;rw [show pgV {kind:=0} {}=pv from hpv] at P1;rw [hpv];clear hte hno b1 cP WY hpv;go_wp2_with (first | ((with_reducible refine Disk.g0b rfl 103 (.tmp 11) (.tmp 62) rfl _ _ ?_ ?_ P1.out ?_);(next=>rfl);(next=>rfl)))
   go_ret2
   refine ⟨FIN.out,.inr ⟨l,at_,DN.out,by rw [HK.out];omega,?_,by rw [HTE.out];rfl⟩⟩;rw [if_pos (by rw [HK.out])];exact HNO.out
  have hpa:PgAt d at_ 1 p:=⟨he,hd,hkd⟩
  have HPA:=hid hpa;have P1:=hid (g1s w1 p y);have b2:=Pool.g0a w1 (.cells (pgC p y) 103);have A2:=at_new w1 (pgC p y) 103;obtain ⟨W2,hW2⟩:∃ W2,w1.alloc (.cells (pgC p y) 103)=W2:=⟨_,rfl⟩;rw [hW2] at P1 b2 A2;have R2:=hr.below b2;have LB:=hid (g1c (o:=0) A2 p y rfl);obtain ⟨v',W',hrun,WY',hg,hge⟩:=WY.out.more BW.out.size (b1.trans (b2.mono b1.size)) (s:=⟨at_,p,y,0⟩) R2 hok hnw (by rw [HK.out];omega)
  have HWY:=hid WY';have BW2:=BW.out.trans ((b1.trans (b2.mono b1.size)).mono BW.out.size);have HBW:=hid (BW2.grown hg BW2.size (fun k e=>(hge k e).1));have hrun':(Builtin.append_ #[164,164] 164 #[u6,.slice (some ⟨W2.heap.size,0,none⟩) 1 1]).run Tryz.prog (W2.alloc (.cells #[.int .i64 at_,.int .i64 p.kind,.slice y.A1 p.pairs.length y.c1,.slice y.A2 p.keys.length y.c2,.slice y.A3 p.kids.length y.c3,.slice y.A4 p.pages.length y.c4,.int .i64 p.next,.int .u64 (p.epoch:Int),.int .i64 p.root,.int .i64 p.depth,.int .i64 p.count,.int .i64 p.high,.int .i64 0] 168))=.ok v' W':=hrun
  have R:=hid hrun';clear hrun hrun' WY' BW2 hg hge hpa hd he hkd hok hnw hr R2 A2 b1 b2 hW2 cP WY BW;go_wp2_with (first | ((with_reducible refine Disk.g0b rfl 103 (.tmp 11) (.tmp 62) rfl _ _ ?_ ?_ P1.out ?_);(next=>rfl);(next=>rfl)) | ((with_reducible refine Disk.g0d rfl 103 (.tmp 11) rfl _ ?_ LB.out ?_);(next=>rfl)) | (at_builtin;((with_reducible refine Lib.wpList_append_run _ rfl _ _ _ _ rfl _ _ ?_ ?_ _ _ R.out ?_);(next=>rfl);(next=>rfl))))
  go_ret2
  exact ⟨HBW.out,.inl ⟨l,at_,p,y,v',DN.out,by rw [HK.out],HPA.out,rfl,HWY.out⟩⟩
open Page (Pg Lay PgOk g0c pgC pgV Enc g0v BytesAt strV)
theorem h8f (tb eb:Nat) (u:FrameMode) (w:World) (he:w.cell? ⟨eb,0,none⟩=some (.int .i64 0)) :
 CallsD Tryz.prog 60 #[ptr tb,ptr eb] u w fun e u' w'=>u'=u/\(e=.returned (.tuple #[])/\w'=w):=by
 go_enter_d Tryz.func60,Tryz.ntmps60
 go_wp2_with fail
 go_end0
 exact ⟨rfl,rfl⟩
abbrev h5z:Pg:={kind:=1}
theorem g1y:PgOk h5z:=⟨⟨by show (_:Int)<=1;omega,by show (1:Int)<=_;omega⟩,Nat.zero_le _,Nat.zero_le _,Nat.zero_le _,Nat.zero_le _,g2e.next,by show 0<18446744073709551616;omega,g2e.root,g2e.depth,g2e.count,g2e.high⟩
theorem j8t (w:World) (y:Lay):g0c w h5z y:=Page.g8q w h5z y rfl rfl rfl rfl
theorem k3v {w:World} {tb ss:Nat} {r c:Int} (hT:At w tb (trC ss r 0 c)) (key:Disk.Bs) :
 Calls Tryz.prog 97 #[ptr tb,strV key] w (fun e w'=>∃ v,e=.returned (.tuple #[v,numV 0])/\Way w w' v [⟨0,h5z,{},0⟩]/\Below w.heap.size w w'):=by
 have g2:w.cell? ⟨tb,2,none⟩=some (.int .i64 0):=hT.2.2 2 _ rfl;have B1:=hid (Pool.g0a w (.cells (stC ⟨0,h5z,{},0⟩) 168));have HO:=hid (show OwnS (w.alloc (.cells (stC ⟨0,h5z,{},0⟩) 168)) w.heap.size (.slice (some ⟨w.heap.size,0,none⟩) 1 1) [⟨0,h5z,{},0⟩] from
  ⟨rfl,.inr ⟨w.heap.size,1,_,rfl,Nat.le_refl _,heap_alloc_last w _,Nat.le_refl _,by unfold maxLen;omega,rfl,rfl⟩⟩)
 have HW:=hid (show Way w (w.alloc (.cells (stC ⟨0,h5z,{},0⟩) 168)) (.slice (some ⟨w.heap.size,0,none⟩) 1 1) [⟨0,h5z,{},0⟩] from
  ⟨HO.out, fun s hs => by rw [List.mem_singleton] at hs; rw [hs]; exact j8t _ _, fun s hs => by rw [List.mem_singleton] at hs; rw [hs]; exact g1y, fun s hs => by rw [List.mem_singleton] at hs; rw [hs]; exact ⟨fun _ e => (by cases e), fun _ e => (by cases e), fun _ e => (by cases e), fun _ e => (by cases e), fun _ => rfl, Nat.le_refl _, Nat.le_refl _, Nat.le_refl _, Nat.le_refl _, fun _ => rfl, fun _ => rfl, fun _ => rfl⟩,
   fun s hs g _=>by rw [List.mem_singleton] at hs;rw [hs];exact ⟨fun e=>absurd rfl e,fun e=>absurd rfl e,fun e=>absurd rfl e,fun e=>absurd rfl e⟩⟩)
 obtain ⟨kv,hkv⟩:∃ kv,strV key=kv:=⟨_,rfl⟩;rw [hkv];clear hkv hT HO;go_enter Tryz.func97,Tryz.ntmps97
 go_wp2_with fail
 go_ret2
 exact ⟨_,rfl,HW.out,B1.out⟩
theorem p0g {w0 w:World} {B:Blk} {tb:Nat} {d:St} {t:T} {r dp c:Int} (h:TrOn w0 w B tb d t r dp c) (eb:Nat) (x:Int) (he:w.cell? ⟨eb,0,none⟩=some (.int .i64 x)) (hx:x≠0) (u:FrameMode) :
 CallsD Tryz.prog 60 #[ptr tb,ptr eb] u w fun e u' w'=>u'=u/\(e=.returned (.tuple #[])/\TrOn w0 w' B tb d (g3w t) t.sup.root t.sup.depth t.sup.count/\Mod (tall tb B) w w'):=by
 have c0:w.cell? ⟨tb,0,none⟩=some (ptr B.ss):=h.box.2.2 0 _ rfl;obtain ⟨a,s⟩:=h.sto.has;have cA:=j1t s;have d1:(x != 0)=true:=by simp [hx]
 have H:=hid h;clear h s hx;go_enter_d Tryz.func60,Tryz.ntmps60
 go_wp2_with fail
 refine cA.mono ?_;rintro e w1 ⟨rfl,h1,m1⟩;have H1:=hid (H.out.store h1 m1);have M1:=hid m1;obtain ⟨a1,s1⟩:=h1;have cB:=g8c s1 H1.out.box;clear s1 m1 cA c0 he d1;go_wp2_with fail
 refine cB.mono ?_;rintro e w2 ⟨rfl,hb,m2⟩;have H2:=hid (show TrOn _ _ _ _ _ _ t.sup.root t.sup.depth t.sup.count from H1.out.cells hb m2);have M2:=hid (show Mod (tall tb B) w w2 from (M1.out.mono (fun x hx=>List.mem_cons_of_mem _ hx)).trans (m2.mono (fun x hx=>by rw [List.mem_singleton] at hx;rw [hx];exact List.mem_cons_self ..)));clear hb m2 cB;go_wp2_with fail
 go_end0
 exact ⟨rfl,H2.out,M2.out⟩
open Page (Pg Lay PgOk g0c pgC pgV Enc g0v BytesAt strV strB PRow less)
theorem g3r {w0 w:World} {B:Blk} {tb:Nat} {d:St} {t:T} {r dp c:Int} (h:TrOn w0 w B tb d t r dp c) {n:Nat} (hn:w.heap.size<=n):n∉tall tb B:=fun e=>by
 obtain ⟨a,s⟩:=h.sto.has;rcases List.mem_cons.1 e with e | e
 ·have:=h.box.1;omega
 ·have:=s.lt _ e;omega
abbrev h1r (B:Blk) (x:Nat):Blk:={B with xs:=x :: B.xs}
theorem p2d {w:World} {B:Blk} {x:Nat} {d:St} {t:T} {a:Lys} (h:Sto w (h1r B x) d t a):Sto w B d t a:=by
 have sub:∀ y∈B.off,y∈(h1r B x).off:=fun y hy=>by
  rcases List.mem_append.1 hy with hy | hy
  ·exact List.mem_append_left _ hy
  ·exact List.mem_append_right _ (List.mem_cons_of_mem _ hy)
 exact {box:=h.box,dev:=h.dev,fr:=h.fr,n1:=h.n1,n2:=h.n2,own:=h.own,base:=h.base,pool:=h.pool,ao:=fun e=>(h.ao e).mono sub,ab:=h.ab.mono sub,ap:=h.ap.mono sub,xl:=fun y hy=>h.xl y (List.mem_cons_of_mem _ hy),ok:=h.ok,bare:=h.bare,bk:=h.bk,pk:=h.pk}
theorem TrOn.withx {w0 w w':World} {B:Blk} {tb:Nat} {d:St} {t:T} {r dp c:Int} (h:TrOn w0 w B tb d t r dp c) (b:Below w.heap.size w w') {x:Nat} (h1:w.heap.size<=x) (h2:x<w'.heap.size):TrOn w0 w' (h1r B x) tb d t r dp c:=by
 obtain ⟨a,s⟩:=h.sto.has;have q:=h.quiet b;exact ⟨⟨⟨a,(s.below b).addx h2 (SepB.new s h1)⟩,q.sto.below,h.sto.new⟩,q.box,h.out,List.mem_cons_of_mem _ h.mem,h.new⟩
theorem TrOn.unx {w0 w:World} {B:Blk} {tb x:Nat} {d:St} {t:T} {r dp c:Int} (h:TrOn w0 w (h1r B x) tb d t r dp c) (hm:tb∈B.xs):TrOn w0 w B tb d t r dp c:=by
 obtain ⟨a,s⟩:=h.sto.has;exact ⟨⟨⟨a,p2d s⟩,h.sto.below,h.sto.new⟩,h.box,h.out,hm,h.new⟩
theorem TrOn.touch {w0 w w':World} {B:Blk} {tb:Nat} {d:St} {t:T} {r dp c:Int} (h:TrOn w0 w B tb d t r dp c) {x:Nat} (hx:x∈B.xs) (hn:x∉tall tb B) (h0:w0.heap.size<=x) (m:Mod [x] w w'):TrOn w0 w' B tb d t r dp c:=by
 obtain ⟨a,s⟩:=h.sto.has;exact ⟨⟨⟨a,s.other m (fun e=>hn (List.mem_cons_of_mem _ e)) (s.sepx hx)⟩,h.sto.below.trans (m.below h.sto.below.size (fun k hk=>by simp only [List.mem_singleton] at hk;rw [hk];exact h0)),h.sto.new⟩,g0l h.box m (fun e=>by rw [List.mem_singleton] at e;exact hn (by rw [<- e];exact List.mem_cons_self ..)),h.out,h.mem,h.new⟩
def EndW (w0 w:World) (B:Blk) (tb:Nat) (d:St) (t:T) (_r _dp _c x:Int) (w':World):Prop :=
 (x=0/\w'=w)\/(x≠0/\TrOn w0 w' B tb d (g3w t) t.sup.root t.sup.depth t.sup.count/\Mod (tall tb B) w w')
theorem g9q {w0 w:World} {B:Blk} {tb:Nat} {d:St} {t:T} {r dp c:Int} (h:TrOn w0 w B tb d t r dp c) (eb:Nat) (x:Int) (he:w.cell? ⟨eb,0,none⟩=some (.int .i64 x)) (u:FrameMode) :
 CallsD Tryz.prog 60 #[ptr tb,ptr eb] u w fun e u' w'=>u'=u/\(e=.returned (.tuple #[])/\EndW w0 w B tb d t r dp c x w'):=by
 by_cases hx:x=0
 ·subst hx;exact (h8f tb eb u w he).mono (fun e u' w' ⟨h1,h2,h3⟩=>⟨h1,h2,.inl ⟨rfl,h3⟩⟩)
 ·exact (p0g h eb x he hx u).mono (fun e u' w' ⟨h1,h2,h3,h4⟩=>⟨h1,h2,.inr ⟨hx,h3,h4⟩⟩)
theorem EndW.mod {w0 w w':World} {B:Blk} {tb:Nat} {d:St} {t:T} {r dp c x:Int} (h:EndW w0 w B tb d t r dp c x w'):Mod (tall tb B) w w':=by
 rcases h with ⟨_,rfl⟩ | ⟨_,_,m⟩
 ·exact Mod.refl _ _
 ·exact m
theorem g4b (w:World) (b i:Nat) (v:Value):Mod [b] w (w.setCell ⟨b,i,none⟩ v):=g0z _ _ _ _
theorem j6k {w0 w:World} {B:Blk} {tb:Nat} {d:St} {t:T} {r dp c:Int} (h:TrOn w0 w B tb d t r dp c) (hr:I64 r) (hd:I64 dp) (hc:I64 c) (hn:t.own.length<=100000) (ho:∀ x∈t.own,I64 x) :
 Calls Tryz.prog 20 #[ptr tb] w (fun e w'=>∃ d' t' x,e=.returned (numV x)/\g6g d t r dp c d' t' x/\Mod (tall tb B) w w'/\(x=0->TrOn w0 w' B tb d' t' r dp c)/\(x≠0->TrOn w0 w' B tb d' (g3w t') t'.sup.root t'.sup.depth t'.sup.count)):=by
 have b1:=(Below.refl w.heap.size w).alloc (Nat.le_refl _) (.cells #[.int .i64 0] 36);have E1:=hid (at_new w #[.int .i64 0] 36);have H1:=hid (h.withx (x:=w.heap.size) b1 (Nat.le_refl _) (by simp));have NB:=hid (g3r h (Nat.le_refl _));have B1:=hid b1;obtain ⟨W1,hW1⟩:∃ W1,w.alloc (.cells #[.int .i64 0] 36)=W1:=⟨_,rfl⟩;rw [hW1] at E1 H1 B1;obtain ⟨eb,heb⟩:∃ eb,w.heap.size=eb:=⟨_,rfl⟩;have HEB:=hid heb
 rw [heb] at E1 NB H1;have HX:=hid (H1.out.quiet (Below.refl _ _).drew);have EX:=hid (E1.out.below (Below.refl _ _).drew E1.out.1);have BX:=hid B1.out.drew;have MB:=hid h.mem;have N0:=hid (show w0.heap.size<=eb from by rw [<- HEB.out];exact h.sto.below.size);obtain ⟨a,s⟩:=HX.out.sto.has;have cC:=h7u s r dp c hr hd hc hn ho;have K0:=hid (show W1.drew.cell? ⟨tb,0,none⟩=some (ptr B.ss)/\W1.drew.cell? ⟨tb,1,none⟩=some (.int .i64 r)/\W1.drew.cell? ⟨tb,2,none⟩=some (.int .i64 dp)/\W1.drew.cell? ⟨tb,3,none⟩=some (.int .i64 c) from ⟨HX.out.box.2.2 0 _ rfl,HX.out.box.2.2 1 _ rfl,HX.out.box.2.2 2 _ rfl,HX.out.box.2.2 3 _ rfl⟩)
 have k0:W1.cell? ⟨tb,0,none⟩=some (ptr B.ss):=H1.out.box.2.2 0 _ rfl;have k1:W1.cell? ⟨tb,1,none⟩=some (.int .i64 r):=H1.out.box.2.2 1 _ rfl;have k2:W1.cell? ⟨tb,2,none⟩=some (.int .i64 dp):=H1.out.box.2.2 2 _ rfl;have k3:W1.cell? ⟨tb,3,none⟩=some (.int .i64 c):=H1.out.box.2.2 3 _ rfl;have hne:¬ tb=eb:=fun e=>NB.out (by rw [<- e];exact List.mem_cons_self ..)
 clear b1 h s hr hd hc hn ho;go_enter_defers Tryz.func20,Tryz.ntmps20
 go_wp2_with fail
 go_region_held3 (fun w'=>w'.cell? ⟨tb,0,none⟩=some (ptr B.ss)/\w'.cell? ⟨tb,1,none⟩=some (.int .i64 r)/\w'.cell? ⟨tb,2,none⟩=some (.int .i64 dp)/\w'.cell? ⟨tb,3,none⟩=some (.int .i64 c))
  (with_reducible (first | exact K0.out | exact K1.out | exact K2.out))
  (first
    | (go_at_call 61;(with_reducible refine cC.mono ?_);rintro e w2 ⟨d2,t2,x,rfl,hc2,hs2,m2⟩
       have H2:=hid (HX.out.store hs2 m2);have M2:=hid (show Mod (tall tb B) w w2 from (Mod.of_below (tall tb B) BX.out).trans (m2.mono (fun x hx=>List.mem_cons_of_mem _ hx)));have E2:=hid (g0l EX.out m2 (fun e=>NB.out (List.mem_cons_of_mem _ e)));have HC:=hid hc2;have e2:w2.cell? ⟨eb,0,none⟩=some (.int .i64 0):=E2.out.2.2 0 _ rfl;have f2:w2.frozen? ⟨eb,0,none⟩=false:=E2.out.2.1 0;have K1:=hid (show w2.cell? ⟨tb,0,none⟩=some (ptr B.ss)/\w2.cell? ⟨tb,1,none⟩=some (.int .i64 r)/\w2.cell? ⟨tb,2,none⟩=some (.int .i64 dp)/\w2.cell? ⟨tb,3,none⟩=some (.int .i64 c) from ⟨H2.out.box.2.2 0 _ rfl,H2.out.box.2.2 1 _ rfl,H2.out.box.2.2 2 _ rfl,H2.out.box.2.2 3 _ rfl⟩)
       have H3:=hid (H2.out.touch (x:=eb) (List.mem_cons_self ..) NB.out N0.out (g4b w2 eb 0 (.int .i64 x)));have E3:=hid (at_set E2.out 0 (.int .i64 x));have K2:=hid (show (w2.setCell ⟨eb,0,none⟩ (.int .i64 x)).cell? ⟨tb,0,none⟩=some (ptr B.ss)/\(w2.setCell ⟨eb,0,none⟩ (.int .i64 x)).cell? ⟨tb,1,none⟩=some (.int .i64 r)/\(w2.setCell ⟨eb,0,none⟩ (.int .i64 x)).cell? ⟨tb,2,none⟩=some (.int .i64 dp)/\(w2.setCell ⟨eb,0,none⟩ (.int .i64 x)).cell? ⟨tb,3,none⟩=some (.int .i64 c) from ⟨H3.out.box.2.2 0 _ rfl,H3.out.box.2.2 1 _ rfl,H3.out.box.2.2 2 _ rfl,H3.out.box.2.2 3 _ rfl⟩)
       clear hc2 hs2 m2))
 go_wp2_with fail
 have M3:=hid (show ∀ w',Mod (tall tb B) (w2.setCell ⟨eb,0,none⟩ (.int .i64 x)) w'->Mod (tall tb B) w w' from fun w' m=>by
  have m1:Mod (eb :: tall tb B) w w':=((M2.out.mono (fun y hy=>List.mem_cons_of_mem _ hy)).trans ((g4b w2 eb 0 (.int .i64 x)).mono (fun y hy=>by rw [List.mem_singleton] at hy;rw [hy];exact List.mem_cons_self ..))).trans (m.mono (fun y hy=>List.mem_cons_of_mem _ hy));exact g4c m1 (by rw [HEB.out];exact Nat.le_refl _))
 have e3:(w2.setCell ⟨eb,0,none⟩ (.int .i64 x)).cell? ⟨eb,0,none⟩=some (.int .i64 x):=E3.out.2.2 0 _ rfl;refine leaves_cons (f:=60) (args:=#[ptr tb,ptr eb]) (by simp) (by simp [go_sem]) ?_;refine (g9q H3.out eb x e3 _).mono ?_;rintro e u' w5 ⟨rfl,rfl,hend⟩;have e5:w5.cell? ⟨eb,0,none⟩=some (.int .i64 x):=(g0l E3.out hend.mod NB.out).2.2 0 _ rfl;have FIN:=hid (show Mod (tall tb B) w w5/\(x=0->TrOn w0 w5 B tb d2 t2 r dp c)/\(x≠0->TrOn w0 w5 B tb d2 (g3w t2) t2.sup.root t2.sup.depth t2.sup.count) from
  ⟨M3.out _ hend.mod,fun h=>by
   rcases hend with ⟨-,rfl⟩ | ⟨h',-⟩
   ·exact H3.out.unx MB.out
   ·exact absurd h h',fun h=>by
   rcases hend with ⟨h',-⟩ | ⟨-,h',-⟩
   ·exact absurd h' h
   ·exact h'.unx MB.out⟩)
 clear hend;simp [Leaves,settle,results,Tryz.results20,go_sem,e5];exact ⟨d2,t2,HC.out,FIN.out⟩
end Go.Proofs.YtglejnkoojpelaaGreat.Tree
