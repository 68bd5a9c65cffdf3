import Derived.Test.YtglejnkoojpelaaGreatMS4
import Derived.Test.YtglejnkoojpelaaGreatMP7
import Derived.Laws.Externs
import Derived.Lib.Bytealg
import Derived.Deep.RegionHeld3
import Derived.Lib.AppendZerosOnto
import Derived.Lib.Walk
set_option maxRecDepth 100000
set_option maxHeartbeats 32000000
namespace Go.Proofs.YtglejnkoojpelaaGreat.Tree
open Go.RowKit Gen
open Disk (St Dev Mod ptr)
open Page (Pg Lay PgOk g0c pgC pgV Enc g0v BytesAt strV)
open Pool (Po NAt PoAt La poC poV numV At g0k g1g g1k g2m g0g OwnI chunks layAll May)
open Store
open Lib (hid)
def g0o (p:Pg):Nat:=if p.kind=1 then p.pairs.length else p.keys.length
def g1j (p:Pg):Nat:=if p.kind=1 then 6 else 12
def g0p (p:Pg):Nat:=if p.kind=1 then 3 else 6
theorem h1f (p:Pg) (a:Lay) (w:World):Calls Tryz.prog 226 #[pgV p a] w (fun e w'=>e=.returned (.int .i64 (g0o p:Nat))/\Below w.heap.size w w'):=by
 have B1:=hid (Pool.g0a w (.cells (pgC p a) 103));unfold pgC at B1;unfold pgV pgC
 by_cases hk:p.kind=1
 ·have d:(p.kind==1)=true:=by simp [hk]
  rw [show g0o p=p.pairs.length from if_pos hk];clear hk;go_enter Tryz.func226,Tryz.ntmps226
  go_wp2_with fail
  go_ret
  exact ⟨rfl,B1.out⟩
 ·have d:(p.kind==1)=false:=by simp [hk]
  rw [show g0o p=p.keys.length from if_neg hk];clear hk;go_enter Tryz.func226,Tryz.ntmps226
  go_wp2_with fail
  go_ret
  exact ⟨rfl,B1.out⟩
theorem h9x (p:Pg) (a:Lay) (w:World):Calls Tryz.prog 254 #[pgV p a] w (fun e w'=>e=.returned (.int .i64 (g1j p:Nat))/\Below w.heap.size w w'):=by
 have B1:=hid (Pool.g0a w (.cells (pgC p a) 103));unfold pgC at B1;unfold pgV pgC
 by_cases hk:p.kind=1
 ·have d:(p.kind==1)=true:=by simp [hk]
  rw [show g1j p=6 from if_pos hk];clear hk;go_enter Tryz.func254,Tryz.ntmps254
  go_wp2_with fail
  go_ret
  exact ⟨rfl,B1.out⟩
 ·have d:(p.kind==1)=false:=by simp [hk]
  rw [show g1j p=12 from if_neg hk];clear hk;go_enter Tryz.func254,Tryz.ntmps254
  go_wp2_with fail
  go_ret
  exact ⟨rfl,B1.out⟩
theorem j9y (p:Pg):((g1j p:Nat):Int).tdiv 2=(g0p p:Nat):=by
 unfold g1j g0p
 split <;> rfl
theorem k2o (p:Pg) (a:Lay) (w:World):Calls Tryz.prog 227 #[pgV p a] w (fun e w'=>e=.returned (.int .i64 (g0p p:Nat))/\Below w.heap.size w w'):=by
 have b1:=Pool.g0a w (.cells (pgC p a) 103);have L:=hid (g1c (o:=0) (at_new w (pgC p a) 103) p a rfl);obtain ⟨W1,hW1⟩:∃ W1,w.alloc (.cells (pgC p a) 103)=W1:=⟨_,rfl⟩;rw [hW1] at b1 L;have cM:=h9x p a W1;have B1:=hid b1;obtain ⟨m,hm⟩:∃ m,((g1j p:Nat):Int)=m:=⟨_,rfl⟩;have hh:IntKind.i64.wrap (m.tdiv 2)=(g0p p:Nat):=by rw [<- hm,j9y];exact IntWalk.i64_in _ (by unfold g0p;split <;> omega)
 have hh2:m / 2=(g0p p:Nat):=by rw [<- hm];unfold g1j g0p;split <;> rfl
 rw [hm] at cM;generalize hC:pgC p a=C at *;clear b1 hm;go_enter Tryz.func227,Tryz.ntmps227
 go_wp2_with (first | ((with_reducible refine Disk.g0w rfl 103 (.tmp 0) rfl C ?_ ?_);(next=>rfl)) | ((with_reducible refine Disk.g0d rfl 103 (.tmp 1) rfl _ ?_ L.out ?_);(next=>rfl)))
 refine cM.mono ?_;rintro e w2 ⟨rfl,b2⟩;have B2:=hid (B1.out.trans (b2.mono B1.out.size));clear b2 cM L;go_wp2_with fail
 go_ret
 exact ⟨rfl,B2.out⟩
abbrev trC (ss:Nat) (r dp c:Int):Array Value:=#[ptr ss,.int .i64 r,.int .i64 dp,.int .i64 c]
theorem j5m {w:World} {tb ss:Nat} {r dp c:Int} (h:At w tb (trC ss r dp c)):Calls Tryz.prog 51 #[ptr tb] w (fun e w'=>e=.returned (.int .i64 r)/\w=w'):=by
 have c1:w.cell? ⟨tb,1,none⟩=some (.int .i64 r):=h.2.2 1 _ rfl;clear h;go_enter Tryz.func51,Tryz.ntmps51
 go_wp2_with fail
 go_ret
 exact ⟨rfl,rfl⟩
theorem h5r {w:World} {tb ss:Nat} {r dp c:Int} (h:At w tb (trC ss r dp c)):Calls Tryz.prog 50 #[ptr tb] w (fun e w'=>e=.returned (.int .i64 dp)/\w=w'):=by
 have c1:w.cell? ⟨tb,2,none⟩=some (.int .i64 dp):=h.2.2 2 _ rfl;clear h;go_enter Tryz.func50,Tryz.ntmps50
 go_wp2_with fail
 go_ret
 exact ⟨rfl,rfl⟩
theorem h0j {w:World} {tb ss:Nat} {r dp c:Int} (h:At w tb (trC ss r dp c)):Calls Tryz.prog 27 #[ptr tb] w (fun e w'=>e=.returned (.int .i64 c)/\w=w'):=by
 have c1:w.cell? ⟨tb,3,none⟩=some (.int .i64 c):=h.2.2 3 _ rfl;clear h;go_enter Tryz.func27,Tryz.ntmps27
 go_wp2_with fail
 go_ret
 exact ⟨rfl,rfl⟩
theorem j2b {w:World} {tb ss:Nat} {r dp c:Int} (h:At w tb (trC ss r dp c)):Calls Tryz.prog 22 #[ptr tb] w (fun e w'=>e=.returned (ptr ss)/\w=w'):=by
 have c1:w.cell? ⟨tb,0,none⟩=some (ptr ss):=h.2.2 0 _ rfl;clear h;go_enter Tryz.func22,Tryz.ntmps22
 go_wp2_with fail
 go_ret
 exact ⟨rfl,rfl⟩
open Page (Pg Lay PgOk g0c pgC pgV Enc g0v BytesAt strV strB PRow less)
theorem j7g:∀ (a b:Disk.Bs),Lib.compareBytes a b<0↔less a b=true
 | [],[]=>by simp [Lib.compareBytes,less,Op.bytesLess]
 | [],_ :: _=>by simp [Lib.compareBytes,less,Op.bytesLess]
 | _ :: _,[]=>by simp [Lib.compareBytes,less,Op.bytesLess]
 | x :: a,y :: b=>by
  have ih:=j7g a b;unfold less at ih ⊢;unfold Lib.compareBytes;simp only [Op.bytesLess,Bool.or_eq_true,Bool.and_eq_true,decide_eq_true_eq,beq_iff_eq]
  by_cases h1:x<y
  ·rw [if_pos h1];simp [h1]
  ·rw [if_neg h1]
   by_cases h2:y<x
   ·rw [if_pos h2];refine ⟨fun h=>absurd h (by decide),fun h=>?_⟩;rcases h with h | ⟨h,_⟩
    ·exact absurd h h1
    ·subst h;exact absurd h2 h1
   ·rw [if_neg h2,ih];have e:x=y:=by
     rw [UInt8.lt_iff_toNat_lt] at h1 h2;exact UInt8.toNat_inj.1 (by omega)
    exact ⟨fun h=>.inr ⟨e,h⟩,fun h=>h.elim (fun h=>absurd h h1) (fun h=>h.2)⟩
theorem j5j:∀ (a b:Disk.Bs),Lib.compareBytes a b=0↔a=b
 | [],[]=>by simp [Lib.compareBytes]
 | [],_ :: _=>by simp [Lib.compareBytes]
 | _ :: _,[]=>by simp [Lib.compareBytes]
 | x :: a,y :: b=>by
  have ih:=j5j a b;unfold Lib.compareBytes
  by_cases h1:x<y
  ·rw [if_pos h1];exact ⟨fun h=>absurd h (by decide),fun h=>by injection h with h;subst h;exact absurd h1 (by simp)⟩
  ·rw [if_neg h1]
   by_cases h2:y<x
   ·rw [if_pos h2];exact ⟨fun h=>absurd h (by decide),fun h=>by injection h with h;subst h;exact absurd h2 (by simp)⟩
   ·rw [if_neg h2,ih];have e:x=y:=by
     rw [UInt8.lt_iff_toNat_lt] at h1 h2;exact UInt8.toNat_inj.1 (by omega)
    exact ⟨fun h=>by rw [e,h],fun h=>by injection h⟩
theorem j0i:∀ (a b:Disk.Bs),-1<=Lib.compareBytes a b/\Lib.compareBytes a b<=1
 | [],[]=>by simp [Lib.compareBytes]
 | [],_ :: _=>by simp [Lib.compareBytes]
 | _ :: _,[]=>by simp [Lib.compareBytes]
 | x :: a,y :: b=>by
  have ih:=j0i a b;unfold Lib.compareBytes
  split
  ·decide
  ·split
   ·decide
   ·exact ih
theorem j8e (a b:ByteArray) (w:World):(callFunc 233 #[.string a,.string b]).run Tryz.prog w=.ok (.value (.int .i64 (Lib.compareBytes a.data.toList b.data.toList))) w:=by
 rw [run_callFunc_extern Tryz.func233 (by kernel_rfl) (by kernel_rfl) (by kernel_rfl) (e:=Extern.BytealgCompare.compare) (by kernel_rfl),Lib.run_compareString]
 rfl
theorem h2q (a b:ByteArray) (w:World):Calls Tryz.prog 186 #[.string a,.string b] w (fun e w'=>e=.returned (.int .i64 (Lib.compareBytes a.data.toList b.data.toList))/\w=w'):=by
 have h:=j8e a b w;go_enter Tryz.func186,Tryz.ntmps186
 go_wp2_with fail
 go_ret
 exact ⟨rfl,rfl⟩
theorem j4w (a b:ByteArray) (w:World):Calls Tryz.prog 144 #[.string a,.string b] w (fun e w'=>e=.returned (.int .i64 (Lib.compareBytes a.data.toList b.data.toList))/\w=w'):=by
 have h:=h2q a b w;go_enter Tryz.func144,Tryz.ntmps144
 go_wp2_with fail
 refine h.mono ?_;rintro e w' ⟨rfl,rfl⟩;go_wp2_with fail
 go_ret
 exact ⟨rfl,rfl⟩
theorem h8d (p:Disk.Bs×Disk.Bs) (key:Disk.Bs) (w:World):Calls Tryz.prog 143 #[.agg #[strV p.1,strV p.2],strV key] w (fun e w'=>e=.returned (.int .i64 (Lib.compareBytes p.1 key))/\Below w.heap.size w w'):=by
 have B1:=hid ((Below.refl w.heap.size w).alloc (Nat.le_refl _) (.cells #[strV p.1,strV p.2] 49));have cC:=j4w (strB p.1) (strB key) (w.alloc (.cells #[strV p.1,strV p.2] 49));have e1:(strB p.1).data.toList=p.1:=rfl;have e2:(strB key).data.toList=key:=rfl;rw [e1,e2] at cC;generalize Lib.compareBytes p.1 key=r at *;unfold strV at *;generalize strB p.1=X at *;generalize strB p.2=Y at *;generalize strB key=Z at *
 clear e1 e2;go_enter Tryz.func143,Tryz.ntmps143
 go_wp2_with fail
 refine cC.mono ?_;rintro e w' ⟨rfl,rfl⟩;go_wp2_with fail
 go_ret
 exact ⟨rfl,B1.out⟩
abbrev keyF:Value:=.func (.func 143) #[] #[]
theorem j8q {A:Option Addr} {n c:Nat} {l:List (Disk.Bs×Disk.Bs)} (key:Disk.Bs) (w:World) (hl:l.length=n) (hn:n<=4611686018427387903) (hR:PRow w A l) (pos:Nat) (hpn:pos<=n) (hp:∀ t (h:t<l.length),less l[t].1 key=true↔t<pos) (has:Bool) (hh:has=true↔∃ h:pos<l.length,l[pos].1=key) :
 Calls Tryz.prog 142 #[.slice A n c,strV key,keyF] w (fun e w'=>e=.returned (.tuple #[.int .i64 (pos:Nat),.bool has])/\Below w.heap.size w w'):=by
 have HL:=hid hl;have HR:=hid hR;have HP:=hid hp;have HH:=hid hh;clear hl hR hp hh;obtain ⟨kv,hkv⟩:∃ kv,strV key=kv:=⟨_,rfl⟩;rw [hkv];have KV:=hid hkv;clear hkv;go_enter Tryz.func142,Tryz.ntmps142
 go_wp2_with fail
 go_loopw [9,10] (fun i j wr=>∃ lo hi:Nat,i=.int .i64 (lo:Int)/\j=.int .i64 (hi:Int)/\lo<=pos/\pos<=hi/\hi<=n/\Hid (Below w.heap.size w wr)) (fun i j _=>(intOf j-intOf i).toNat)
 case atStart=>exact ⟨0,n,rfl,rfl,Nat.zero_le _,hpn,Nat.le_refl _,hid (Below.refl _ _)⟩
 case round =>
  obtain ⟨lo,hi,rfl,rfl,h1,h2,h3,BW⟩:=hrel
  by_cases hlt:lo<hi
  ·have hw1:IntKind.i64.wrap ((lo:Int)+(hi:Int))=(lo:Int)+(hi:Int):=IntWalk.i64_in _ (by omega);have hw2:IntKind.u64.wrap ((lo:Int)+(hi:Int))=(lo:Int)+(hi:Int):=IntWalk.u64_in _ (by omega);obtain ⟨m,hm⟩:∃ m:Nat,((lo:Int)+(hi:Int)) / 2=(m:Int):=⟨(lo+hi) / 2,by omega⟩;have hmn:(m:Int)<(n:Int):=by omega
   have hm0:lo<=m/\m<hi:=by omega
   have hml:m<l.length:=by rw [HL.out];omega
   have hw3:IntKind.i64.wrap ((m:Int)+1)=((m+1:Nat):Int):=by rw [IntWalk.i64_in _ (by omega)];omega
   obtain ⟨b,off,rfl,hbl,hcl⟩:=HR.out (by intro e;rw [e] at hml;simp at hml);obtain ⟨g1,g2⟩:=hcl m hml;have q1:wr.cell? ⟨b,off+m*2,none⟩=some (strV l[m].1):=(BW.out.cell (p:=⟨b,off+m*2,none⟩) hbl).trans g1;have q2:wr.cell? ⟨b,off+m*2+1,none⟩=some (strV l[m].2):=(BW.out.cell (p:=⟨b,off+m*2+1,none⟩) hbl).trans g2;have cK:=h8d l[m] key wr;have LS:=hid (HP.out m hml);rw [KV.out] at cK;have bnd:=j0i l[m].1 key
   have cl:=j7g l[m].1 key;obtain ⟨r,hr⟩:∃ r,Lib.compareBytes l[m].1 key=r:=⟨_,rfl⟩;rw [hr] at cK cl bnd;have CL:=hid (show r<0↔m<pos from cl.trans LS.out);obtain ⟨X,hX⟩:∃ X,strV l[m].1=X:=⟨_,rfl⟩;obtain ⟨Y,hY⟩:∃ Y,strV l[m].2=Y:=⟨_,rfl⟩;rw [hX] at q1 cK;rw [hY] at q2 cK;clear g1 g2 hcl hX hY hr cl LS;go_wp2_with fail
   refine cK.mono ?_;rintro e w2 ⟨rfl,b2⟩;have BW2:=hid (BW.out.trans (b2.mono BW.out.size));clear b2 cK q1 q2 BW hw1 hw2
   by_cases hneg:r<0
   ·have hmp:=CL.out.1 hneg;clear CL;go_wp2_with fail
    go_roundw
    case rel=>exact ⟨m+1,hi,rfl,rfl,by omega,by omega,by omega,BW2⟩
    case measure=>simp [intOf];omega
   ·have hmp:¬ m<pos:=fun e=>hneg (CL.out.2 e)
    clear CL;go_wp2_with fail
    go_roundw
    case rel=>exact ⟨lo,m,rfl,rfl,by omega,by omega,by omega,BW2⟩
    case measure=>simp [intOf];omega
  obtain rfl:lo=pos:=by omega
  obtain rfl:hi=lo:=by omega
  by_cases hlast:hi<n
  rotate_left
  ·have hf:has=false:=by
    rcases has with _ | _
    ·rfl
    ·obtain ⟨h,-⟩:=HH.out.1 rfl;rw [HL.out] at h;omega
   subst hf;clear HP HH;go_wp2_with fail
   go_ret2
   exact ⟨rfl,BW.out⟩
  have hml:hi<l.length:=by rw [HL.out];omega
  obtain ⟨b,off,rfl,hbl,hcl⟩:=HR.out (by intro e;rw [e] at hml;simp at hml);obtain ⟨g1,g2⟩:=hcl hi hml;have q1:wr.cell? ⟨b,off+hi*2,none⟩=some (strV l[hi].1):=(BW.out.cell (p:=⟨b,off+hi*2,none⟩) hbl).trans g1;have q2:wr.cell? ⟨b,off+hi*2+1,none⟩=some (strV l[hi].2):=(BW.out.cell (p:=⟨b,off+hi*2+1,none⟩) hbl).trans g2;have cK:=h8d l[hi] key wr;rw [KV.out] at cK;have hrr:(Lib.compareBytes l[hi].1 key==0)=has:=by
   have h1:=j5j l[hi].1 key;have h2:=HH.out;rcases has with _ | _
   ·exact beq_eq_false_iff_ne.2 (fun e=>by cases h2.2 ⟨hml,h1.1 e⟩)
   ·obtain ⟨_,e⟩:=h2.1 rfl;exact beq_iff_eq.2 (h1.2 e)
  obtain ⟨r,hr⟩:∃ r,Lib.compareBytes l[hi].1 key=r:=⟨_,rfl⟩;rw [hr] at cK hrr;obtain ⟨X,hX⟩:∃ X,strV l[hi].1=X:=⟨_,rfl⟩;obtain ⟨Y,hY⟩:∃ Y,strV l[hi].2=Y:=⟨_,rfl⟩;rw [hX] at q1 cK;rw [hY] at q2 cK;clear g1 g2 hcl hX hY hr HP HH;go_wp2_with fail
  refine cK.mono ?_;rintro e w2 ⟨rfl,b2⟩;have BW2:=hid (BW.out.trans (b2.mono BW.out.size));clear b2 cK q1 q2 BW;go_wp2_with fail
  go_ret2
  exact ⟨rfl,BW2.out⟩
theorem h2h:Tryz.prog.underlying 27=some (.slice (Tryz.prog.elem 27)):=by kernel_rfl
theorem h5b (w:World):(sizeOf (Tryz.prog.elem 27)).run Tryz.prog w=.ok 2 w:=by kernel_rfl
def sub (s:Nat) (A:Option Addr) (c k:Nat):Option Addr:=if c=k then A else A.map (·.add (k*s))
theorem addz (a:Addr):a.add 0=a:=by
 obtain ⟨b,o,s⟩:=a;cases s <;> simp [Addr.add]
theorem g5u (A:Option Addr) (n c k:Nat) (h:k<=c) (W:World):(Instr.slice 27 (.slice A n c) none (some (.int .i64 (k:Int))) none).run Tryz.prog W=.ok (.slice A k c) W:=by
 rw [run_slice_h W 27 A n c h2h .i64 (k:Int) (by omega) (by omega),h5b];unfold sliced;rcases A with _ | a
 ·simp [Result.andThen]
 ·simp [Result.andThen,addz]
theorem k5g (A:Option Addr) (n c k m:Nat) (h:k<=m) (h2:m<=c) (W:World):(Instr.slice 27 (.slice A n c) (some (.int .i64 (k:Int))) (some (.int .i64 (m:Int))) none).run Tryz.prog W=.ok (.slice (sub 2 A c k) (m-k) (c-k)) W:=by
 rw [run_slice_lh W 27 A n c h2h .i64 .i64 (k:Int) (m:Int) (by omega) (by omega) (by omega),h5b];unfold sliced sub;simp [Result.andThen]
theorem g8y (A:Option Addr) (n c k:Nat) (h:k<=n) (W:World):(Instr.slice 27 (.slice A n c) (some (.int .i64 (k:Int))) none none).run Tryz.prog W=.ok (.slice (sub 2 A c k) (n-k) (c-k)) W:=by
 rw [run_slice_l W 27 A n c h2h .i64 (k:Int) (by omega) (by omega),h5b];unfold sliced sub;simp [Result.andThen]
theorem g8j {w:World} {A:Option Addr} {l:List (Disk.Bs×Disk.Bs)} (h:PRow w A l) (k:Nat):PRow w A (l.take k):=fun hne=>by
 obtain ⟨b,off,e,hb,hc⟩:=h (by intro e;rw [e] at hne;simp at hne);refine ⟨b,off,e,hb,fun j hj=>?_⟩;have hj':j<l.length:=by rw [List.length_take] at hj;omega
 rw [List.getElem_take];exact hc j hj'
theorem h1l {w:World} {A:Option Addr} {l:List (Disk.Bs×Disk.Bs)} (h:PRow w A l) {c:Nat} (hc:l.length<=c) (k:Nat):PRow w (sub 2 A c k) (l.drop k):=fun hne=>by
 have hk:k<l.length:=by
  rcases Nat.lt_or_ge k l.length with h | h
  ·exact h
  ·rw [List.drop_eq_nil_of_le h] at hne;exact absurd rfl hne
 obtain ⟨b,off,rfl,hb,hcl⟩:=h (by intro e;rw [e] at hk;simp at hk);refine ⟨b,off+k*2,?_,hb,fun j hj=>?_⟩
 ·unfold sub;rw [if_neg (by omega)];simp [Addr.add]
 ·have hj':k+j<l.length:=by rw [List.length_drop] at hj;omega
  rw [List.getElem_drop];have:=hcl (k+j) hj';rw [show off+k*2+j*2=off+(k+j)*2 by omega];exact this
theorem k0n {A:Option Addr} {n c:Nat} {l:List (Disk.Bs×Disk.Bs)} (key:Disk.Bs) (w:World) (hl:l.length=n) (hn:n<=4611686018427387903) (hnc:n<=c) (hR:PRow w A l) (pos:Nat) (hpn:pos<=n) (hp:∀ t (h:t<l.length),less l[t].1 key=true↔t<pos) (has:Bool) (hh:has=true↔∃ h:pos<l.length,l[pos].1=key) (nx:Nat) (hnx:nx=if has=true then pos+1 else pos) :
 Calls Tryz.prog 95 #[.slice A n c,strV key] w (fun e w'=>e=.returned (.tuple #[.slice A pos c,.slice (sub 2 A c pos) (nx-pos) (c-pos),.slice (sub 2 A c nx) (n-nx) (c-nx)])/\Below w.heap.size w w'):=by
 have cS:=j8q (c:=c) key w hl hn hR pos hpn hp has hh;have hx:nx<=n/\pos<=nx/\nx<=pos+1:=by
  rcases has with _ | _
  ·simp at hnx;omega
  ·simp at hnx;obtain ⟨h,-⟩:=hh.1 rfl;rw [hl] at h;omega
 have s1:=fun W=>g5u A n c pos (by omega) W
 have s2:=fun W=>k5g A n c pos nx (by omega) (by omega) W
 have s3:=fun W=>g8y A n c nx (by omega) W
 have hw:IntKind.i64.wrap ((pos:Int)+1)=(pos:Int)+1:=IntWalk.i64_in _ (by omega);obtain ⟨kv,hkv⟩:∃ kv,strV key=kv:=⟨_,rfl⟩;rw [hkv] at cS ⊢;clear hp hh hR hl hkv hx hnc hn hpn;go_enter Tryz.func95,Tryz.ntmps95
 go_wp2_with fail
 refine cS.mono ?_;rintro e w2 ⟨rfl,b2⟩;have B2:=hid b2;clear b2 cS;rcases has with _ | _
 ·obtain rfl:nx=pos:=by simpa using hnx
  clear hnx hw;go_wp2_with fail
  go_region_held3 (fun _=>True) (trivial) (fail)
  go_wp2_with fail
  (try simp only [Exit.inBlock,Exit.then])
  refine bodyPost_ret (g2a rfl) rfl ?_;exact ⟨by simp,B2.out.trans ((Below.refl _ _).drew.mono B2.out.size)⟩
 ·have hw2:IntKind.i64.wrap ((pos:Int)+1)=(nx:Int):=by rw [hw,hnx];simp
  clear hnx hw;go_wp2_with fail
  go_region_held3 (fun _=>True) (trivial) (fail)
  go_wp2_with fail
  (try simp only [Exit.inBlock,Exit.then])
  refine bodyPost_ret (g2a rfl) rfl ?_;exact ⟨rfl,B2.out.trans ((Below.refl _ _).drew.mono B2.out.size)⟩
open Page (Pg Lay PgOk g0c pgC pgV Enc g0v BytesAt strV strB PRow less OwnP flat flat_get g8e h1k g1w)
theorem g2v (W:World) (B:Nat) (v:Value) (ys:List (Disk.Bs×Disk.Bs)) (h:OwnP W B v ys) (A:Option Addr) (m c:Nat) (zs:List (Disk.Bs×Disk.Bs)) (hz:zs.length=m) (hA:A=none->c=0) (hR:PRow W A zs) (hn:ys.length+m<=1000000) (hB:B<=W.heap.size) :
 ∃ v' W',(Builtin.append_ #[27,27] 27 #[v,.slice A m c]).run Tryz.prog W=.ok v' W'/\OwnP W' B v' (ys++zs)/\W.grownBy W' v.ownBlock/\(∀ k,v.ownBlock=some k->B<=k):=by
 obtain ⟨i0,hi,hz0,hz1,hz2⟩:=g1w h1k;have h0:=h;rcases A with _ | a
 ·have hzs:zs=[]:=by
   rcases zs with _ | ⟨z,zs⟩
   ·rfl
   ·obtain ⟨b,o,h,_⟩:=hR (by simp);cases h
  subst hzs;obtain rfl:c=0:=hA rfl;obtain rfl:m=0:=hz.symm;exact ⟨v,W,run_append_owned_none (P:=Tryz.prog) (w:=W) B _ _ 49 i0 2 Tryz.underlying27 hi v _ _ h,by rw [List.append_nil];exact h,World.grownBy.refl W _,fun k hk=>(World.ownsRow.lt h0 k hk).1⟩
 ·obtain ⟨v',W',h1,h2,h3,_,_⟩:=run_append_own_at (P:=Tryz.prog) W B 27 27 49 i0 _ 2 32 Tryz.underlying27 hi hz0 hz1 hz2 rfl (by decide) v _ _ h a m c (flat zs) (by rw [g8e,hz]) (fun j u hu=>by
   have hjl:j<zs.length*2:=by rw [<- g8e];exact (List.getElem?_eq_some_iff.1 hu).1
   obtain ⟨b,o,e,_,hc⟩:=hR (by intro e;subst e;simp at hjl)
   injection e with e
   subst e;have e:(⟨b,o,none⟩:Addr).add j=⟨b,o+j,none⟩:=by unfold Addr.add;split <;> simp_all
   rw [e];obtain ⟨q,hq⟩:∃ q,q=j / 2:=⟨_,rfl⟩;have hql:q<zs.length:=by omega
   obtain ⟨f1,f2⟩:=flat_get zs q hql;obtain ⟨g1,g2⟩:=hc q hql;rcases (show j=q*2\/j=q*2+1 by omega) with rfl | rfl
   ·rw [f1] at hu;rw [g1,hu]
   ·rw [f2] at hu;rw [<- Nat.add_assoc,g2,hu])
   (fun u hu=>by
     simp only [flat,List.mem_flatMap,List.mem_cons,List.not_mem_nil,or_false] at hu;obtain ⟨x,_,rfl | rfl⟩:=hu <;> rfl) (by simp only [maxLen];omega) (by omega) hB
  refine ⟨v',W',h1,?_,h3,fun k hk=>(World.ownsRow.lt h0 k hk).1⟩;unfold OwnP;rw [List.length_append,hz]
  simpa [flat] using h2
theorem h0m (n:Nat) (hn:n<=1000000) (w:World):Calls Tryz.prog 145 #[.slice none 0 0,.int .i64 (n:Nat)] w (fun e w'=>∃ v,e=.returned v/\OwnP w' w.heap.size v []/\Below w.heap.size w w'):=by
 rcases Nat.eq_zero_or_pos n with rfl | h0
 ·go_enter Tryz.func145,Tryz.ntmps145
  go_wp2_with fail
  go_ret
  exact ⟨_,rfl,OwnP.nil _ _,Below.refl _ _⟩
 ·obtain ⟨i0,hi,hz0,hz1,hz2⟩:=g1w h1k;have hrun:=Lib.run_append_grow_zeros (P:=Tryz.prog) w 27 3 27 49 i0 _ .i64 .i64 Tryz.underlying27 Tryz.underlying3 hi hz0 none 0 0 [] (by rw [hz1];exact run_firstCells_none w.drew 2 0 0 0) n h0 (by rw [hz1];omega) (by omega) (by omega) (by rw [hz2];omega)
   (by rw [hz2];exact growslice_fits (by omega) (by omega))
  have hG:=grownCap_ge w (0+n) 0 49;have hG2:=grownCap_le_maxLen w (0+n) 0 49 (by unfold maxLen;omega);rw [Nat.zero_add] at hrun hG hG2;obtain ⟨G,hGG⟩:∃ G,grownCap w n 0 49=G:=⟨_,rfl⟩;rw [hGG] at hrun hG hG2;have hbelow:Below w.heap.size w (w.drew.alloc (.cells (([]:List Value).toArray++Builtin.zeroCells (Value.agg #[.string ⟨#[]⟩,.string ⟨#[]⟩]).cells n++Builtin.zeroCells (Value.agg #[.string ⟨#[]⟩,.string ⟨#[]⟩]).cells (G-n)) 49)):=(Below.refl _ _).drew.alloc (Nat.le_refl _) _
  have hown:OwnP (w.drew.alloc (.cells (([]:List Value).toArray++Builtin.zeroCells (Value.agg #[.string ⟨#[]⟩,.string ⟨#[]⟩]).cells n++Builtin.zeroCells (Value.agg #[.string ⟨#[]⟩,.string ⟨#[]⟩]).cells (G-n)) 49)) w.heap.size (.slice (some ⟨w.heap.size,0,none⟩) 0 G) []:=by
   refine ⟨rfl,.inr ⟨w.heap.size,G,_,rfl,Nat.le_refl _,heap_alloc_last w.drew _,Nat.zero_le _,hG2,?_,rfl⟩⟩;simp [Builtin.zeroCells,Value.cells];omega
  have HB:=hid hbelow;have HO:=hid hown;have s1:=fun W=>g5u (some ⟨w.heap.size,0,none⟩) n G 0 (Nat.zero_le _) W
  have s2:=fun W=>g5u none 0 0 0 (Nat.le_refl _) W
  generalize w.drew.alloc (.cells (([]:List Value).toArray++Builtin.zeroCells (Value.agg #[.string ⟨#[]⟩,.string ⟨#[]⟩]).cells n++Builtin.zeroCells (Value.agg #[.string ⟨#[]⟩,.string ⟨#[]⟩]).cells (G-n)) 49)=W1 at hrun HB HO;have R:=hid hrun;have hpos:(0:Int)<(n:Int):=by omega
  unfold maxLen at hG2;clear hrun hbelow hown hi hz0 hz1 hz2 hGG h0;go_enter Tryz.func145,Tryz.ntmps145
  go_wp2_with (at_builtin;((with_reducible refine Lib.wpList_append_run _ rfl _ _ _ _ rfl _ _ ?_ ?_ _ _ R.out ?_);(next=>rfl);(next=>rfl)))
  go_ret
  exact ⟨_,rfl,HO.out,HB.out⟩
structure j1e where
 A:Option Addr
 n:Nat
 c:Nat
 l:List (Disk.Bs×Disk.Bs)
structure PPok (w:World) (p:j1e):Prop where
 len:p.l.length=p.n
 nil:p.A=none->p.c=0
 row:PRow w p.A p.l
theorem PPok.below {w w':World} {p:j1e} (h:PPok w p) (b:Below w.heap.size w w'):PPok w' p:=⟨h.len,h.nil,h.row.below b⟩
def sizes (ps:List j1e):Nat:=(ps.map (·.n)).sum
theorem g4e (ps:List j1e) (k:Nat) (h:k<ps.length):sizes (ps.take (k+1))=sizes (ps.take k)+ps[k].n:=by
 unfold sizes;rw [List.take_succ_eq_append_getElem h,List.map_append,List.sum_append];simp
theorem g4r (ps:List j1e) (k:Nat):sizes (ps.take k)<=sizes ps:=by
 unfold sizes
 conv=>rhs;rw [<- List.take_append_drop k ps]
 rw [List.map_append,List.sum_append];omega
theorem g7f {w:World} (ps:List j1e) (h:∀ p∈ps,PPok w p):(ps.flatMap (·.l)).length=sizes ps:=by
 unfold sizes;rw [List.length_flatMap]
 congr 1
 exact List.map_congr_left (fun p hp=>(h p hp).len)
theorem concat_any {A:Option Addr} {N C:Nat} (ps:List j1e) (w:World) (hN:ps.length=N) (hN2:N<=1000) (hrow:ps≠[]->∃ b off,A=some ⟨b,off,none⟩/\b<w.heap.size/\∀ k (h:k<ps.length),w.cell? ⟨b,off+k,none⟩=some (.slice ps[k].A ps[k].n ps[k].c)) (ok:∀ p∈ps,PPok w p) (tot:sizes ps<=100000) :
 Calls Tryz.prog 96 #[.slice A N C] w (fun e w'=>∃ v,e=.returned v/\OwnP w' w.heap.size v (ps.flatMap (·.l))/\Below w.heap.size w w'):=by
 have HN:=hid hN;have HR:=hid hrow;have HK:=hid ok;have HT:=hid tot;clear hN hrow ok tot;go_enter Tryz.func96,Tryz.ntmps96
 go_wp2_with fail
 go_loopw [3,11] (fun s i wr=>∃ k:Nat,s=.int .i64 ((sizes (ps.take k):Nat):Int)/\i=.int .i64 (k:Int)/\k<=N/\w=wr) (fun _ i _=>N-(intOf i).toNat)
 case atStart=>exact ⟨0,rfl,rfl,Nat.zero_le _,rfl⟩
 case round =>
  obtain ⟨k,rfl,rfl,hk,rfl⟩:=hrel;have hs1:=g4r ps k;have hs2:=g4r ps (k+1)
  by_cases hlt:k<N
  ·have hkl:k<ps.length:=by rw [HN.out];exact hlt
   have hsn:=g4e ps k hkl;obtain ⟨b,off,rfl,hb,hc⟩:=HR.out (by intro e;rw [e] at hkl;simp at hkl);have q:=hc k hkl;have HTT:=HT.out;obtain ⟨s0,hs0⟩:∃ s0,sizes (ps.take k)=s0:=⟨_,rfl⟩;obtain ⟨s3,hs3⟩:∃ s3,sizes (ps.take (k+1))=s3:=⟨_,rfl⟩;obtain ⟨m,hm⟩:∃ m,ps[k].n=m:=⟨_,rfl⟩;rw [hs0,hs3,hm] at hsn;rw [hs0] at hs1;rw [hs3] at hs2;rw [hm] at q;have HS3:=hid hs3;have hw1:IntKind.i64.wrap ((s0:Int)+(m:Int))=(s3:Int):=by rw [IntWalk.i64_in _ (by omega)];omega
   have hw2:IntKind.i64.wrap ((k:Int)+1)=(k:Int)+1:=IntWalk.i64_in _ (by omega);have hneg:¬ ((s3:Int)<0):=by omega
   rw [hs0];clear hs0 hs3 hsn hs1 hs2 hc HTT hm;go_wp2_with fail
   go_roundw
   case rel=>exact ⟨k+1,by rw [HS3.out],by go_num,by omega,trivial⟩
   case measure=>simp [intOf];omega
  obtain rfl:k=N:=by omega
  have HTT:=HT.out;have hall:ps.take k=ps:=by rw [<- HN.out];exact List.take_length
  rw [hall];obtain ⟨s0,hs0⟩:∃ s0,sizes ps=s0:=⟨_,rfl⟩;rw [hs0] at HTT ⊢;have cG:=h0m s0 (by omega) w;clear hs0 hs1 hs2 hall;go_wp2_with fail
  refine cG.mono ?_;rintro e w2 ⟨v,rfl,hO,b2⟩;have HO:=hid hO;have B2:=hid b2;clear hO b2 cG;go_wp2_with fail
  go_loopw [6,27] (fun v i wr=>∃ j:Nat,i=.int .i64 (j:Int)/\j<=k/\Hid (OwnP wr w.heap.size v ((ps.take j).flatMap (·.l)))/\Hid (Below w.heap.size w wr)) (fun _ i _=>k-(intOf i).toNat)
  case atStart=>exact ⟨0,rfl,Nat.zero_le _,HO,B2⟩
  case round =>
   obtain ⟨j,rfl,hj,OW,BW⟩:=hrel;clear HO B2
   by_cases hlj:j<k
   ·have hjl:j<ps.length:=by rw [HN.out];exact hlj
    obtain ⟨b,off,rfl,hb,hc⟩:=HR.out (by intro e;rw [e] at hjl;simp at hjl);have q:wr.cell? ⟨b,off+j,none⟩=some (.slice ps[j].A ps[j].n ps[j].c):=(BW.out.cell (p:=⟨b,off+j,none⟩) hb).trans (hc j hjl);have pk:=(HK.out ps[j] (List.getElem_mem hjl)).below BW.out;have h1:((ps.take j).flatMap (·.l)).length=sizes (ps.take j):=g7f _ (fun p hp=>HK.out p (List.mem_of_mem_take hp));have h2:=g4r ps (j+1)
    rw [g4e ps j hjl] at h2;have h3:=HT.out;obtain ⟨v',W',hrun,ho,hg,hge⟩:=g2v wr w.heap.size u6 _ OW.out ps[j].A ps[j].n ps[j].c ps[j].l pk.len pk.nil pk.row (by rw [h1];omega) BW.out.size;have HO2:=hid (show OwnP W' w.heap.size v' ((ps.take (j+1)).flatMap (·.l)) from by rw [List.take_succ_eq_append_getElem hjl,List.flatMap_append];simpa using ho);have B3:=hid (BW.out.grown hg BW.out.size hge)
    have R:=hid hrun;have hw2:IntKind.i64.wrap ((j:Int)+1)=(j:Int)+1:=IntWalk.i64_in _ (by omega);obtain ⟨PV,hPV⟩:∃ PV,Value.slice ps[j].A ps[j].n ps[j].c=PV:=⟨_,rfl⟩;rw [hPV] at q R;clear hrun ho hg hge hc pk h1 h2 h3 hPV OW BW;go_wp2_with (at_builtin;((with_reducible refine Lib.wpList_append_run _ rfl _ _ _ _ rfl _ _ ?_ ?_ _ _ R.out ?_);(next=>rfl);(next=>rfl)))
    go_roundw
    case rel=>exact ⟨j+1,by go_num,by omega,HO2,B3⟩
    case measure=>simp [intOf];omega
   obtain rfl:j=k:=by omega
   have hall:ps.take j=ps:=by rw [<- HN.out];exact List.take_length
   rw [hall] at OW;clear hall;go_wp2_with fail
   go_ret
   exact ⟨_,rfl,OW.out,BW.out⟩
open Page (Bs less g1l Lt)
theorem g4x:∀ {x y z:Bs},less x y=true->less y z=true->less x z=true
 | [],[],_,h,_=>by simp [less,Op.bytesLess] at h
 | [],_ :: _,[],_,h=>by simp [less,Op.bytesLess] at h
 | [],_ :: _,_ :: _,_,_=>by simp [less,Op.bytesLess]
 | _ :: _,[],_,h,_=>by simp [less,Op.bytesLess] at h
 | _ :: _,_ :: _,[],_,h=>by simp [less,Op.bytesLess] at h
 | a :: x,b :: y,c :: z,h,k=>by
  have ih:=@g4x x y z;unfold less at h k ih ⊢;simp only [Op.bytesLess,Bool.or_eq_true,Bool.and_eq_true,decide_eq_true_eq,beq_iff_eq,UInt8.lt_iff_toNat_lt] at h k ⊢;rcases h with h | ⟨rfl,h⟩
  ·rcases k with k | ⟨rfl,k⟩
   ·exact .inl (by omega)
   ·exact .inl h
  ·rcases k with k | ⟨rfl,k⟩
   ·exact .inl k
   ·exact .inr ⟨rfl,ih h k⟩
theorem g2q:∀ (x:Bs),less x x=false
 | []=>rfl
 | a :: x=>by
  have ih:=g2q x;unfold less at ih ⊢;simp [Op.bytesLess,ih]
theorem h0n:∀ {x y:Bs},less x y=false->x≠y->less y x=true
 | [],[],_,h=>absurd rfl h
 | [],_ :: _,h,_=>by simp [less,Op.bytesLess] at h
 | _ :: _,[],_,_=>by simp [less,Op.bytesLess]
 | a :: x,b :: y,h,hn=>by
  have ih:=@h0n x y;unfold less at h ih ⊢;simp only [Op.bytesLess,Bool.or_eq_false_iff,Bool.and_eq_false_iff,decide_eq_false_iff_not,UInt8.lt_iff_toNat_lt] at h;simp only [Op.bytesLess,Bool.or_eq_true,Bool.and_eq_true,decide_eq_true_eq,beq_iff_eq,UInt8.lt_iff_toNat_lt]
  by_cases e:a=b
  ·subst e;exact .inr ⟨rfl,ih (h.2.elim (fun e=>by simp at e) id) (fun e=>hn (by rw [e]))⟩
  ·have:a.toNat≠b.toNat:=fun g=>e (UInt8.toNat_inj.1 g)
   exact .inl (by omega)
theorem h7g {x y:Bs} (h:less x y=true):less y x=false:=by
 rcases e:less y x with _ | _
 ·rfl
 ·have:=g4x h e;rw [g2q] at this;cases this
theorem g7e {a:Bs} {r:List Bs} (h:g1l Lt (a :: r)):g1l Lt r/\∀ t (ht:t<r.length),less a r[t]=true:=by
 have h1:g1l Lt r:=fun j hj=>h (j+1) (by simpa using hj)
 refine ⟨h1,fun t=>?_⟩
 induction t with
 | zero=>exact fun ht=>h 0 (by simpa using ht)
 | succ t ih=>exact fun ht=>g4x (ih (by omega)) (h1 t ht)
theorem j9v {a:Bs} {r:List Bs} (h1:g1l Lt r) (h2:∀ b∈r,less a b=true):g1l Lt (a :: r):=fun j hj=>by
 rcases j with _ | j
 ·exact h2 _ (List.getElem_mem _)
 ·exact h1 j (by simpa using hj)
def g0s (l:List Bs) (key:Bs):Nat:=(l.takeWhile (fun k=>less k key)).length
theorem g5d (a:Bs) (r:List Bs) (key:Bs):g0s (a :: r) key=if less a key=true then g0s r key+1 else 0:=by
 unfold g0s;rw [List.takeWhile_cons]
 split <;> simp
theorem h0l:∀ (l:List Bs) (key:Bs),g0s l key<=l.length
 | [],_=>Nat.le_refl _
 | a :: r,key=>by
  have:=h0l r key;rw [g5d,List.length_cons]
  split <;> omega
theorem g7y:∀ {l:List Bs} (_:g1l Lt l) (key:Bs) (t:Nat) (ht:t<l.length),less l[t] key=true↔t<g0s l key
 | [],_,_,_,ht=>absurd ht (by simp)
 | a :: r,h,key,t,ht=>by
  obtain ⟨h1,h2⟩:=g7e h;rw [g5d];rcases t with _ | t
  ·by_cases e:less a key=true
   ·rw [if_pos e];simp [e]
   ·rw [if_neg e];simp [e]
  ·have ht':t<r.length:=by simpa using ht
   have ih:=g7y h1 key t ht';show less r[t] key=true↔_
   by_cases e:less a key=true
   ·rw [if_pos e,ih];omega
   ·rw [if_neg e];exact ⟨fun g=>absurd (g4x (h2 t ht') g) e,fun g=>absurd g (by omega)⟩
def g2j (l:List Bs) (key:Bs):Bool:=l[g0s l key]?==some key
theorem g5a (l:List Bs) (key:Bs):g2j l key=true↔∃ h:g0s l key<l.length,l[g0s l key]=key:=by
 unfold g2j;rw [beq_iff_eq]
 constructor
 ·intro h;obtain ⟨h1,h2⟩:=List.getElem?_eq_some_iff.1 h;exact ⟨h1,h2⟩
 ·rintro ⟨h1,h2⟩;rw [List.getElem?_eq_getElem h1,h2]
theorem k3u {l:List Bs} (h:g1l Lt l) (key:Bs):g2j l key=true↔key∈l:=by
 rw [g5a]
 constructor
 ·rintro ⟨h1,h2⟩;rw [<- h2];exact List.getElem_mem _
 ·intro hm;obtain ⟨t,ht,e⟩:=List.getElem_of_mem hm;have h1:=g7y h key t ht;rw [e,g2q] at h1;have hge:g0s l key<=t:=by
   rcases Nat.lt_or_ge t (g0s l key) with g | g
   ·cases h1.2 g
   ·exact g
  have hp:g0s l key<l.length:=by omega
  refine ⟨hp,?_⟩;rcases Nat.eq_or_lt_of_le hge with g | g
  ·have:l[g0s l key]=l[t]:=by congr 1
   rw [this,e]
  ·exfalso
   have h2:=g7y h key _ hp;have h3:less l[g0s l key] l[t]=true:=by
    have:∀ {l:List Bs},g1l Lt l->∀ i j (hi:i<l.length) (hj:j<l.length),i<j->less l[i] l[j]=true:=by
     intro l
     induction l with
     | nil=>exact fun _ i j hi=>absurd hi (by simp)
     | cons a r ih =>
      intro h i j hi hj hij;obtain ⟨g1,g2⟩:=g7e h;rcases i with _ | i
      ·rcases j with _ | j
       ·omega
       ·exact g2 j (by simpa using hj)
      ·rcases j with _ | j
       ·omega
       ·exact ih g1 i j (by simpa using hi) (by simpa using hj) (by omega)
    exact this h _ _ hp ht g
   rw [e] at h3;have:=h2.1 h3;omega
def g0y (keys:List Bs) (key:Bs):Nat:=if g2j keys key=true then g0s keys key+1 else g0s keys key
theorem j3x (keys:List Bs) (key:Bs):g0y keys key<=keys.length:=by
 unfold g0y
 split
 ·rename_i h
  obtain ⟨h,-⟩:=(g5a keys key).1 h;omega
 ·exact h0l keys key
theorem k8d (d:St) (n:Int):d.readE n=0\/d.readE n=40\/d.readE n=41:=by
 unfold St.readE
 repeat' split
 all_goals simp
def g6y (d:St) (n:Int):Int:=if d.readE n=40 then 40 else 81
theorem h0d (d:St) (n:Int):g6y d n≠0:=by unfold g6y;split <;> decide
def p3w (d:St) (n kd:Int) (w:World) (e:Ending) (w':World):Prop:=Below w.heap.size w w' /\
 ((∃ p y,e=.returned (.tuple #[pgV p y,numV 0])/\g0c w' p y/\PgOk p/\d.readE n=0/\g0v n (d.readB n) p/\p.kind=kd/\Page.New p y w.heap.size) \/
  (e=.returned (.tuple #[g6o,numV (g6y d n)])/\(d.readE n=0->∀ p,g0v n (d.readB n) p->p.kind≠kd)))
theorem j1d {w:World} {B:Blk} {d:St} {t:T} {a:Lys} (h:Sto w B d t a) {tb:Nat} {r dp c:Int} (hT:At w tb (trC B.ss r dp c)) (n kd:Int) (hk4:kd≠4) :
 Calls Tryz.prog 146 #[ptr tb,.int .i64 n,.int .i64 kd] w (p3w d n kd w):=by
 have b1:=Pool.g0a w (.cells pgZ 103);have AZ:=hid (at_new w pgZ 103);have S1:=h.below b1;have hT1:=hT.below b1 hT.1;have B1:=hid b1;obtain ⟨W1,hW1⟩:∃ W1,w.alloc (.cells pgZ 103)=W1:=⟨_,rfl⟩;rw [hW1] at AZ S1 B1 hT1;have cP:=g9c S1 n;have c0:W1.cell? ⟨tb,0,none⟩=some (ptr B.ss):=hT1.2.2 0 _ rfl;unfold pgZ at hW1;have HK4:=hid hk4;clear b1 h S1 hT hT1 hk4;go_enter Tryz.func146,Tryz.ntmps146
 go_wp2_with fail
 refine cP.mono ?_;rintro e w1 ⟨b2,hd⟩;have B2:=hid (B1.out.trans (b2.mono B1.out.size));have AZ2:=hid (AZ.out.below b2 AZ.out.1);have SZ:=hid AZ.out.1;clear b2 cP hW1 c0 AZ B1;rcases hd with ⟨he,rfl⟩ | ⟨he,⟨p,y,rfl,hr,hok,hq,hk,hw⟩ | ⟨rfl,hno⟩⟩
 ·have HE:=hid he
  by_cases h41:d.readE n=41
  ·have TE:=hid (show g6y d n=81 from by unfold g6y;rw [if_neg (by omega)]);rw [h41];have P1:=hid (g1s w1 {kind:=0} {});obtain ⟨pv,hpv⟩:∃ pv,g6o=pv:=⟨_,rfl⟩;rw [show pgV {kind:=0} {}=pv from hpv] at P1;rw [hpv];clear hpv;have b3:=Pool.g0a w1 (.cells (pgC {kind:=0} {}) 103);have AZ3:=AZ2.out.below b3 AZ2.out.1;have ck:(w1.alloc (.cells (pgC {kind:=0} {}) 103)).cell? ⟨w1.heap.size,0,none⟩=some (.int .i64 (0)):=(at_new w1 (pgC {kind:=0} {}) 103).2.2 0 _ rfl
   have R:=hid (show (Instr.storeAt 103 (.pointer (some ⟨w.heap.size,0,none⟩)) (.agg #[.int .i64 0,.slice none 0 0,.slice none 0 0,.slice none 0 0,.slice none 0 0,.int .i64 0,.int .u64 0,.int .i64 0,.int .i64 0,.int .i64 0,.int .i64 0])).run Tryz.prog (w1.alloc (.cells (pgC {kind:=0} {}) 103))=.ok () ((w1.alloc (.cells (pgC {kind:=0} {}) 103)).setCells w.heap.size 0 (pgC {kind:=0} {}).toList) from g1e (o:=0) AZ3 {kind:=0} {} (by simp))
   have A4:=show At _ w.heap.size (pgC {kind:=0} {}) from g2o AZ3 (vs:=(pgC {kind:=0} {}).toList) (o:=0) (by simp) rfl
   have L:=hid (g2s (o:=0) A4 {kind:=0} {} rfl);have B4:=hid ((B2.out.trans (b3.mono B2.out.size)).grown (g0n (pgC {kind:=0} {}).toList 0 _ w.heap.size) (Nat.le_trans B2.out.size b3.size) (fun k hk=>by cases hk;exact Nat.le_refl _));clear he h41 b3 AZ3 A4 AZ2 B2;generalize (w1.alloc (.cells (pgC {kind:=0} {}) 103)).setCells w.heap.size 0 (pgC {kind:=0} {}).toList=W9 at *;go_wp2_with (first | ((with_reducible refine Disk.g0b rfl 103 (.tmp 8) (.tmp 17) rfl _ _ ?_ ?_ P1.out ?_);(next=>rfl);(next=>rfl)) | ((with_reducible refine Disk.g0b rfl 103 (.tmp 6) (.tmp 35) rfl _ _ ?_ ?_ R.out ?_);(next=>rfl);(next=>rfl)))
   refine bodyPost_ret (g1m rfl rfl L.out) rfl ?_;exact ⟨B4.out,.inr ⟨by rw [TE.out];rfl,fun e=>absurd e HE.out⟩⟩
  ·have h40:d.readE n=40:=by rcases k8d d n with h | h | h <;> omega
   have TE:=hid (show g6y d n=40 from by unfold g6y;rw [if_pos h40]);rw [h40];have P1:=hid (g1s w1 {kind:=0} {});have b3:=Pool.g0a w1 (.cells (pgC {kind:=0} {}) 103);have AZ3:=AZ2.out.below b3 AZ2.out.1;have ck:(w1.alloc (.cells (pgC {kind:=0} {}) 103)).cell? ⟨w1.heap.size,0,none⟩=some (.int .i64 (0)):=(at_new w1 (pgC {kind:=0} {}) 103).2.2 0 _ rfl;have LD:=hid (g1c (o:=0) (at_new w1 (pgC {kind:=0} {}) 103) {kind:=0} {} rfl)
   have R:=hid (g1e (o:=0) AZ3 {kind:=0} {} (by simp));have A4:=show At _ w.heap.size (pgC {kind:=0} {}) from g2o AZ3 (vs:=(pgC {kind:=0} {}).toList) (o:=0) (by simp) rfl
   have L:=hid (g2s (o:=0) A4 {kind:=0} {} rfl);have B4:=hid ((B2.out.trans (b3.mono B2.out.size)).grown (g0n (pgC {kind:=0} {}).toList 0 _ w.heap.size) (Nat.le_trans B2.out.size b3.size) (fun k hk=>by cases hk;exact Nat.le_refl _));obtain ⟨pv,hpv⟩:∃ pv,pgV {kind:=0} {}=pv:=⟨_,rfl⟩;rw [hpv] at P1 LD R L;rw [show g6o=pv from hpv];have PV:=hid hpv;clear he h41 h40 b3 AZ3 A4 AZ2 B2 hpv
   generalize (w1.alloc (.cells (pgC {kind:=0} {}) 103)).setCells w.heap.size 0 (pgC {kind:=0} {}).toList=W9 at *;go_wp2_with (first | ((with_reducible refine Disk.g0b rfl 103 (.tmp 8) (.tmp 17) rfl _ _ ?_ ?_ P1.out ?_);(next=>rfl);(next=>rfl)) | ((with_reducible refine Disk.g0d rfl 103 (.tmp 8) rfl _ ?_ LD.out ?_);(next=>rfl)) | ((with_reducible refine Disk.g0b rfl 103 (.tmp 6) (.tmp 36) rfl _ _ ?_ ?_ R.out ?_);(next=>rfl);(next=>rfl)))
   refine bodyPost_ret (g1m rfl rfl L.out) rfl ?_;exact ⟨B4.out,.inr ⟨by rw [TE.out,show g6o=pv from PV.out];rfl,fun e=>absurd e HE.out⟩⟩
 ·have HE:=hid he;have HQ:=hid hq
  by_cases hkd:p.kind=kd
  ·have d2:(p.kind != kd)=false:=by simp [hkd]
   have HKD:=hid hkd;have P1:=hid (g1s w1 p y);have b3:=Pool.g0a w1 (.cells (pgC p y) 103);have AZ3:=AZ2.out.below b3 AZ2.out.1;have ck:(w1.alloc (.cells (pgC p y) 103)).cell? ⟨w1.heap.size,0,none⟩=some (.int .i64 (p.kind)):=(at_new w1 (pgC p y) 103).2.2 0 _ rfl;have LD:=hid (g1c (o:=0) (at_new w1 (pgC p y) 103) p y rfl);have R:=hid (g1e (o:=0) AZ3 p y (by simp));have A4:=show At _ w.heap.size (pgC p y) from g2o AZ3 (vs:=(pgC p y).toList) (o:=0) (by simp) rfl
   have L:=hid (g2s (o:=0) A4 p y rfl);have B4:=hid ((B2.out.trans (b3.mono B2.out.size)).grown (g0n (pgC p y).toList 0 _ w.heap.size) (Nat.le_trans B2.out.size b3.size) (fun k hk=>by cases hk;exact Nat.le_refl _));have FIN:=hid (show g0c ((w1.alloc (.cells (pgC p y) 103)).setCells w.heap.size 0 (pgC p y).toList) p y/\PgOk p/\Page.New p y w.heap.size from
    ⟨(hr.below b3).apart (g0n (pgC p y).toList 0 _ w.heap.size) hw SZ.out,hok,hw.mono (Nat.le_of_lt SZ.out)⟩)
   obtain ⟨kz,hkz⟩:∃ kz,p.kind=kz:=⟨_,rfl⟩;rw [hkz] at ck d2;obtain ⟨pv,hpv⟩:∃ pv,pgV p y=pv:=⟨_,rfl⟩;rw [hpv] at P1 LD R L;rw [hpv];have PV:=hid hpv;clear he hr hok hq hk hw hkd hkz b3 AZ3 A4 AZ2 B2 hpv;generalize (w1.alloc (.cells (pgC p y) 103)).setCells w.heap.size 0 (pgC p y).toList=W9 at *;generalize w1.alloc (.cells (pgC p y) 103)=W8 at *;go_wp2_with (first | ((with_reducible refine Disk.g0b rfl 103 (.tmp 8) (.tmp 17) rfl _ _ ?_ ?_ P1.out ?_);(next=>rfl);(next=>rfl)) | ((with_reducible refine Disk.g0d rfl 103 (.tmp 8) rfl _ ?_ LD.out ?_);(next=>rfl)) | ((with_reducible refine Disk.g0b rfl 103 (.tmp 6) (.tmp 36) rfl _ _ ?_ ?_ R.out ?_);(next=>rfl);(next=>rfl)))
   refine bodyPost_ret (g1m rfl rfl L.out) rfl ?_;exact ⟨B4.out,.inl ⟨p,y,by rw [PV.out];rfl,FIN.out.1,FIN.out.2.1,HE.out,HQ.out,HKD.out,FIN.out.2.2⟩⟩
  ·have d2:(p.kind != kd)=true:=by simp [hkd]
   have TE:=hid (show g6y d n=81 from by unfold g6y;rw [if_neg (by omega)]);have FIN:=hid (show ∀ q,g0v n (d.readB n) q->q.kind≠kd from fun q hq'=>by
    obtain rfl:=Page.g6u hq hq';exact hkd)
   have P1:=hid (g1s w1 p y);have b3:=Pool.g0a w1 (.cells (pgC p y) 103);have AZ3:=AZ2.out.below b3 AZ2.out.1;have ck:(w1.alloc (.cells (pgC p y) 103)).cell? ⟨w1.heap.size,0,none⟩=some (.int .i64 (p.kind)):=(at_new w1 (pgC p y) 103).2.2 0 _ rfl;have R:=hid (show (Instr.storeAt 103 (.pointer (some ⟨w.heap.size,0,none⟩)) (.agg #[.int .i64 0,.slice none 0 0,.slice none 0 0,.slice none 0 0,.slice none 0 0,.int .i64 0,.int .u64 0,.int .i64 0,.int .i64 0,.int .i64 0,.int .i64 0])).run Tryz.prog (w1.alloc (.cells (pgC p y) 103))=.ok () ((w1.alloc (.cells (pgC p y) 103)).setCells w.heap.size 0 (pgC {kind:=0} {}).toList) from g1e (o:=0) AZ3 {kind:=0} {} (by simp))
   have A4:=show At _ w.heap.size (pgC {kind:=0} {}) from g2o AZ3 (vs:=(pgC {kind:=0} {}).toList) (o:=0) (by simp) rfl
   have L:=hid (g2s (o:=0) A4 {kind:=0} {} rfl);have B4:=hid ((B2.out.trans (b3.mono B2.out.size)).grown (g0n (pgC {kind:=0} {}).toList 0 _ w.heap.size) (Nat.le_trans B2.out.size b3.size) (fun k hk=>by cases hk;exact Nat.le_refl _));obtain ⟨pv,hpv⟩:∃ pv,pgV p y=pv:=⟨_,rfl⟩;obtain ⟨kz,hkz⟩:∃ kz,p.kind=kz:=⟨_,rfl⟩;rw [hpv] at P1 ⊢;rw [hkz] at ck d2;clear he hr hok hq hk hw hkd hpv hkz HQ b3 AZ3 A4 AZ2 B2
   generalize (w1.alloc (.cells (pgC p y) 103)).setCells w.heap.size 0 (pgC {kind:=0} {}).toList=W9 at *;generalize w1.alloc (.cells (pgC p y) 103)=W8 at *;go_wp2_with (first | ((with_reducible refine Disk.g0b rfl 103 (.tmp 8) (.tmp 17) rfl _ _ ?_ ?_ P1.out ?_);(next=>rfl);(next=>rfl)) | ((with_reducible refine Disk.g0b rfl 103 (.tmp 6) (.tmp 35) rfl _ _ ?_ ?_ R.out ?_);(next=>rfl);(next=>rfl)))
   refine bodyPost_ret (g1m rfl rfl L.out) rfl ?_;exact ⟨B4.out,.inr ⟨by rw [TE.out];rfl,fun _=>FIN.out⟩⟩
 ·have HE:=hid he;have TE:=hid (show g6y d n=81 from by unfold g6y;rw [if_neg (by omega)]);have FIN:=hid (show ∀ q,g0v n (d.readB n) q->q.kind≠kd from fun q hq' e=>HK4.out (by rw [<- e];exact hno q hq'));have P1:=hid (g1s w1 {kind:=0} {});obtain ⟨pv,hpv⟩:∃ pv,g6o=pv:=⟨_,rfl⟩;rw [show pgV {kind:=0} {}=pv from hpv] at P1;rw [hpv];clear hpv;have b3:=Pool.g0a w1 (.cells (pgC {kind:=0} {}) 103)
  have AZ3:=AZ2.out.below b3 AZ2.out.1;have ck:(w1.alloc (.cells (pgC {kind:=0} {}) 103)).cell? ⟨w1.heap.size,0,none⟩=some (.int .i64 (0)):=(at_new w1 (pgC {kind:=0} {}) 103).2.2 0 _ rfl;have R:=hid (show (Instr.storeAt 103 (.pointer (some ⟨w.heap.size,0,none⟩)) (.agg #[.int .i64 0,.slice none 0 0,.slice none 0 0,.slice none 0 0,.slice none 0 0,.int .i64 0,.int .u64 0,.int .i64 0,.int .i64 0,.int .i64 0,.int .i64 0])).run Tryz.prog (w1.alloc (.cells (pgC {kind:=0} {}) 103))=.ok () ((w1.alloc (.cells (pgC {kind:=0} {}) 103)).setCells w.heap.size 0 (pgC {kind:=0} {}).toList) from g1e (o:=0) AZ3 {kind:=0} {} (by simp))
  have A4:=show At _ w.heap.size (pgC {kind:=0} {}) from g2o AZ3 (vs:=(pgC {kind:=0} {}).toList) (o:=0) (by simp) rfl
  have L:=hid (g2s (o:=0) A4 {kind:=0} {} rfl);have B4:=hid ((B2.out.trans (b3.mono B2.out.size)).grown (g0n (pgC {kind:=0} {}).toList 0 _ w.heap.size) (Nat.le_trans B2.out.size b3.size) (fun k hk=>by cases hk;exact Nat.le_refl _));clear he hno b3 AZ3 A4 AZ2 B2;generalize (w1.alloc (.cells (pgC {kind:=0} {}) 103)).setCells w.heap.size 0 (pgC {kind:=0} {}).toList=W9 at *;go_wp2_with (first | ((with_reducible refine Disk.g0b rfl 103 (.tmp 8) (.tmp 17) rfl _ _ ?_ ?_ P1.out ?_);(next=>rfl);(next=>rfl)) | ((with_reducible refine Disk.g0b rfl 103 (.tmp 6) (.tmp 35) rfl _ _ ?_ ?_ R.out ?_);(next=>rfl);(next=>rfl)))
  refine bodyPost_ret (g1m rfl rfl L.out) rfl ?_;exact ⟨B4.out,.inr ⟨by rw [TE.out];rfl,fun _=>FIN.out⟩⟩
open Page (Pg Lay PgOk g0c pgC pgV Enc g0v BytesAt strV strB PRow less g1w)
structure Stp where
 at_:Int
 p:Pg
 y:Lay
 kid:Int
abbrev stC (s:Stp):Array Value:=#[.int .i64 s.at_,.int .i64 s.p.kind,.slice s.y.A1 s.p.pairs.length s.y.c1,.slice s.y.A2 s.p.keys.length s.y.c2,.slice s.y.A3 s.p.kids.length s.y.c3,.slice s.y.A4 s.p.pages.length s.y.c4,.int .i64 s.p.next,.int .u64 (s.p.epoch:Int),.int .i64 s.p.root,.int .i64 s.p.depth,.int .i64 s.p.count,.int .i64 s.p.high,.int .i64 s.kid]
abbrev j0z (l:List Stp):List Value:=l.flatMap fun s=>(stC s).toList
def OwnS (w:World) (B:Nat) (v:Value) (l:List Stp):Prop:=w.ownsRow B 168 13 v l.length (j0z l)
theorem j2i:∀ (l:List Stp),(j0z l).length=l.length*13
 | []=>rfl
 | x :: l=>by
  have:=j2i l;simp only [j0z,List.flatMap_cons,List.length_append,List.length_cons,List.length_nil] at this ⊢;omega
theorem j2h:∀ (l:List Stp) (j:Nat) (h:j<l.length) (i:Nat) (v:Value),(stC l[j]).toList[i]?=some v->(j0z l)[j*13+i]?=some v
 | [],_,h,_,_,_=>by simp at h
 | x :: l,0,_,i,v,hv=>by
  rw [Nat.zero_mul,Nat.zero_add];show ((stC x).toList++j0z l)[i]?=some v;have hi:i<(stC x).toList.length:=(List.getElem?_eq_some_iff.1 hv).1;rw [List.getElem?_append_left hi];exact hv
 | x :: l,j+1,h,i,v,hv=>by
  have:=j2h l j (by simpa using h) i v hv;show ((stC x).toList++j0z l)[(j+1)*13+i]?=some v;rw [List.getElem?_append_right (by simp;omega)];rw [<- this]
  congr 1
  simp;omega
def k7s (w:World) (A:Option Addr) (l:List Stp):Prop:=l≠[]->∃ b off,A=some ⟨b,off,none⟩/\b<w.heap.size/\∀ j (h:j<l.length),w.rangeAt b (off+j*13) (stC l[j]).toList
theorem OwnS.nil (w:World) (B:Nat):OwnS w B (.slice none 0 0) []:=⟨rfl,.inl ⟨rfl,rfl⟩⟩
theorem OwnS.row {w:World} {B:Nat} {v:Value} {l:List Stp} (h:OwnS w B v l):∃ A c,v=.slice A l.length c/\l.length<=c/\c<=maxLen/\k7s w A l/\∀ a,A=some a->B<=a.block:=by
 obtain ⟨hl,⟨rfl,hn⟩ | ⟨g,cap,cur,rfl,hg,hh,hnc,hcm,_,ht⟩⟩:=h
 ·exact ⟨none,0,by rw [hn],by omega,Nat.zero_le _,(fun hne=>absurd (List.eq_nil_of_length_eq_zero hn) hne),fun a h=>by cases h⟩
 ·refine ⟨some ⟨g,0,none⟩,cap,rfl,hnc,hcm,fun _=>⟨g,0,rfl,?_,fun j hj i u hu=>?_⟩,fun a h=>by cases h;exact hg⟩
  ·exact (Array.getElem?_eq_some_iff.1 hh).1
  ·have h1:=j2h l j hj i u hu;rw [Nat.zero_add,cell_of_row w g (j*13+i) cur _ _ hh,<- Array.getElem?_toList];have:j*13+i<(j0z l).length:=(List.getElem?_eq_some_iff.1 h1).1;rw [j2i] at this;rw [<- h1,<- ht,List.getElem?_take_of_lt this]
theorem OwnS.below {w w':World} {B:Nat} {v:Value} {l:List Stp} (h:OwnS w B v l) (b:Below w.heap.size w w'):OwnS w' B v l:=by
 obtain ⟨hl,h | ⟨g,cap,cur,hv,hg,hh,h4,h5,h6,h7⟩⟩:=h
 ·exact ⟨hl,.inl h⟩
 ·exact ⟨hl,.inr ⟨g,cap,cur,hv,hg,by rw [b.block g (Array.getElem?_eq_some_iff.1 hh).1];exact hh,h4,h5,h6,h7⟩⟩
theorem k3t:(Tryz.prog.info? 168).map (fun i=>(i.zero,i.size,i.bytes))=some (some (.agg (stC ⟨0,{kind:=0},{},0⟩)),13,168):=by kernel_rfl
theorem j2u (W:World) (B:Nat) (v:Value) (l:List Stp) (h:OwnS W B v l) (s:Stp) (hn:l.length<=1000) (hB:B<=W.heap.size) :
 ∃ v' W',(Builtin.append_ #[164,164] 164 #[v,.slice (some ⟨W.heap.size,0,none⟩) 1 1]).run Tryz.prog (W.alloc (.cells (stC s) 168))=.ok v' W'/\OwnS W' B v' (l++[s])/\W.grownBy W' v.ownBlock/\(∀ k,v.ownBlock=some k->B<=k)/\(v'.ownBlock=v.ownBlock\/v'.ownBlock=some (W.heap.size+1)):=by
 obtain ⟨i0,hi,hz0,hz1,hz2⟩:=g1w k3t;have h0:=h;have hnew:=heap_alloc_last W (.cells (stC s) 168);have hg0:W.grownBy (W.alloc (.cells (stC s) 168)) v.ownBlock:=World.grownBy_alloc W _ _;obtain ⟨v',W',h1,h2,h3,_,h5⟩:=run_append_own_at (P:=Tryz.prog) (W.alloc (.cells (stC s) 168)) B 164 164 168 i0 _ 13 168 Tryz.underlying164 hi hz0 hz1 hz2 rfl (by decide) v _ _ (World.ownsRow.alloc h _) ⟨W.heap.size,0,none⟩ 1 1
  (stC s).toList rfl (fun j u hu=>by
    have e:(⟨W.heap.size,0,none⟩:Addr).add j=⟨W.heap.size,j,none⟩:=by unfold Addr.add;split <;> simp_all
    rw [e,cell_of_row _ _ j _ _ _ hnew]
    simpa using hu) (fun u hu=>by
     simp only [List.mem_cons,List.not_mem_nil,or_false] at hu;rcases hu with rfl | rfl | rfl | rfl | rfl | rfl | rfl | rfl | rfl | rfl | rfl | rfl | rfl <;> rfl) (by simp only [maxLen];omega) (by omega) (by simp;omega)
 refine ⟨v',W',h1,?_,hg0.trans h3,fun k hk=>(World.ownsRow.lt h0 k hk).1,by rw [World.size_alloc] at h5;exact h5⟩;unfold OwnS;rw [List.length_append]
 simpa [j0z] using h2
theorem at_set {w:World} {b:Nat} {C:Array Value} (h:At w b C) (i:Nat) (v:Value):At (w.setCell ⟨b,i,none⟩ v) b (C.setIfInBounds i v):=by
 refine ⟨by simpa using h.1,fun j=>by rw [World.frozen?_setCell];exact h.2.1 j,fun j u hu=>?_⟩
 by_cases e:j=i
 ·subst e;have hlt:j<C.size:=by
   rcases Nat.lt_or_ge j C.size with h' | h'
   ·exact h'
   ·rw [Array.getElem?_eq_none (by simpa using h')] at hu;cases hu
  rw [Array.getElem?_setIfInBounds,if_pos rfl,if_pos hlt] at hu;cases hu;exact World.cell?_setCell_same _ _ _ (h.2.2 j C[j] (Array.getElem?_eq_getElem hlt))
 ·rw [Array.getElem?_setIfInBounds,if_neg (fun e'=>e e'.symm)] at hu;rw [World.cell?_setCell_other _ _ _ _ (by intro h;injection h with _ h _;exact e h.symm)];exact h.2.2 j u hu
theorem g8c {w:World} {B:Blk} {d:St} {t:T} {a:Lys} (h:Sto w B d t a) {tb:Nat} {r dp c:Int} (hT:At w tb (trC B.ss r dp c)) :
 Calls Tryz.prog 71 #[ptr tb] w (fun e w'=>e=.returned k7t/\At w' tb (trC B.ss t.sup.root t.sup.depth t.sup.count)/\Mod [tb] w w'):=by
 have c0:w.cell? ⟨tb,0,none⟩=some (ptr B.ss):=hT.2.2 0 _ rfl;have cS:=h3u h;have HT:=hid hT;clear hT h;go_enter Tryz.func71,Tryz.ntmps71
 go_wp2_with fail
 refine cS.mono ?_;rintro e w1 ⟨rfl,b1⟩;have P1:=hid (g1s w1 t.sup a.s);have b2:=Pool.g0a w1 (.cells (pgC t.sup a.s) 103);have A2:=at_new w1 (pgC t.sup a.s) 103;have T1:=HT.out.below b1 HT.out.1;have T2:=T1.below b2 T1.1;have B2:=hid (b1.trans (b2.mono b1.size));have NE:=hid (show tb<w1.heap.size from T1.1);obtain ⟨W2,hW2⟩:∃ W2,w1.alloc (.cells (pgC t.sup a.s) 103)=W2:=⟨_,rfl⟩;rw [hW2] at P1 A2 T2 B2
 have hne:¬ (tb=w1.heap.size):=by have:=NE.out;omega
 have g7:W2.cell? ⟨w1.heap.size,7,none⟩=some (.int .i64 t.sup.root):=A2.2.2 7 _ rfl;have g8:W2.cell? ⟨w1.heap.size,8,none⟩=some (.int .i64 t.sup.depth):=A2.2.2 8 _ rfl;have g9:W2.cell? ⟨w1.heap.size,9,none⟩=some (.int .i64 t.sup.count):=A2.2.2 9 _ rfl;have f0:∀ j,W2.frozen? ⟨tb,j,none⟩=false:=T2.2.1;have t1:W2.cell? ⟨tb,1,none⟩=some (.int .i64 r):=T2.2.2 1 _ rfl;have t2:W2.cell? ⟨tb,2,none⟩=some (.int .i64 dp):=T2.2.2 2 _ rfl
 have t3:W2.cell? ⟨tb,3,none⟩=some (.int .i64 c):=T2.2.2 3 _ rfl;have HT2:=hid T2;obtain ⟨pv,hpv⟩:∃ pv,pgV t.sup a.s=pv:=⟨_,rfl⟩;rw [hpv] at P1 ⊢;clear hpv b1 b2 A2 T1 T2 hW2 cS c0 HT;go_wp2_with (first | ((with_reducible refine Disk.g0b rfl 103 (.tmp 2) (.tmp 7) rfl _ _ ?_ ?_ P1.out ?_);(next=>rfl);(next=>rfl)))
 go_region_held3 (fun w'=>w'.cell? ⟨w1.heap.size,7,none⟩=some (.int .i64 t.sup.root)/\w'.cell? ⟨w1.heap.size,8,none⟩=some (.int .i64 t.sup.depth)/\w'.cell? ⟨w1.heap.size,9,none⟩=some (.int .i64 t.sup.count))
  (go_keep)
  (fail)
 all_goals
  go_wp2_with fail
  (try simp only [Exit.inBlock,Exit.then])
  first | refine bodyPost_ret (results_none rfl _ _ _) rfl ?_ | refine bodyPost_end (results_none rfl _ _ _) rfl ?_
  refine ⟨rfl,?_,?_⟩
  ·have D3:At _ tb (trC B.ss t.sup.root t.sup.depth t.sup.count):=at_set (at_set (at_set HT2.out 1 (.int .i64 t.sup.root)) 2 (.int .i64 t.sup.depth)) 3 (.int .i64 t.sup.count);exact D3.below (Below.refl _ _).drew D3.1
  ·exact ((((Mod.of_below [tb] B2.out).trans (g0z _ _ _ _)).trans (g0z _ _ _ _)).trans (g0z _ _ _ _)).drew
structure TrOn (w0 w:World) (B:Blk) (tb:Nat) (d:St) (t:T) (r dp c:Int):Prop where
 sto:SOn w0 w B d t
 box:At w tb (trC B.ss r dp c)
 out:tb∉B.all
 mem:tb∈B.xs
 new:w0.heap.size<=tb
theorem TrOn.quiet {w0 w w':World} {B:Blk} {tb:Nat} {d:St} {t:T} {r dp c:Int} (h:TrOn w0 w B tb d t r dp c) (b:Below w.heap.size w w'):TrOn w0 w' B tb d t r dp c :=
 ⟨h.sto.quiet b,h.box.below b h.box.1,h.out,h.mem,h.new⟩
abbrev tall (tb:Nat) (B:Blk):List Nat:=tb :: B.all
theorem TrOn.below {w0 w w':World} {B:Blk} {tb:Nat} {d:St} {t:T} {r dp c:Int} (h:TrOn w0 w B tb d t r dp c) (m:Mod (tall tb B) w w'):Below w0.heap.size w0 w' :=
 h.sto.below.trans (m.below h.sto.below.size (fun k hk=>by
  rcases List.mem_cons.1 hk with rfl | hk
  ·exact h.new
  ·exact h.sto.new k hk))
theorem TrOn.store {w0 w w':World} {B:Blk} {tb:Nat} {d d':St} {t t':T} {r dp c:Int} (h:TrOn w0 w B tb d t r dp c) (hs:Has w' B d' t') (m:Mod B.all w w'):TrOn w0 w' B tb d' t' r dp c :=
 ⟨h.sto.mod hs m,g0l h.box m h.out,h.out,h.mem,h.new⟩
theorem TrOn.cells {w0 w w':World} {B:Blk} {tb:Nat} {d:St} {t:T} {r dp c r' dp' c':Int} (h:TrOn w0 w B tb d t r dp c) (hb:At w' tb (trC B.ss r' dp' c')) (m:Mod [tb] w w'):TrOn w0 w' B tb d t r' dp' c':=by
 obtain ⟨a,s⟩:=h.sto.has;exact ⟨⟨⟨a,s.other m h.out (s.sepx h.mem)⟩,h.sto.below.trans (m.below h.sto.below.size (fun k hk=>by simp only [List.mem_singleton] at hk;rw [hk];exact h.new)),h.sto.new⟩,hb,h.out,h.mem,h.new⟩
theorem p3l {w0 w:World} {B:Blk} {d:St} {t:T} (h:SOn w0 w B d t) :
 Calls Tryz.prog 26 #[ptr B.ss] w (fun e w'=>e=.returned (.tuple #[ptr w.heap.size,numV 0])/\TrOn w0 w' {B with xs:=w.heap.size :: B.xs} w.heap.size d t t.sup.root t.sup.depth t.sup.count/\Below w.heap.size w w'):=by
 have b1:=Pool.g0a w (.cells (trC B.ss 0 0 0) 99);have A1:=at_new w (trC B.ss 0 0 0) 99;obtain ⟨a,s⟩:=h.has;have NB:=hid (show w.heap.size∉B.all from fun e=>Nat.lt_irrefl _ (s.lt _ e));have SS:=(s.below b1).addx (x:=w.heap.size) A1.1 (SepB.new s (Nat.le_refl _));have S1:=hid (show TrOn w0 (w.alloc (.cells (trC B.ss 0 0 0) 99)) {B with xs:=w.heap.size :: B.xs} w.heap.size d t 0 0 0 from ⟨⟨⟨a,SS⟩,h.below.trans (b1.mono h.below.size),h.new⟩,A1,NB.out,List.mem_cons_self ..,h.below.size⟩)
 have B1:=hid b1;obtain ⟨W1,hW1⟩:∃ W1,w.alloc (.cells (trC B.ss 0 0 0) 99)=W1:=⟨_,rfl⟩;rw [hW1] at A1 S1 SS B1;have cB:Calls Tryz.prog 71 #[ptr w.heap.size] W1 (fun e w'=>e=.returned k7t/\At w' w.heap.size (trC B.ss t.sup.root t.sup.depth t.sup.count)/\Mod [w.heap.size] W1 w'):=g8c SS A1;clear b1 s SS A1 h;unfold trC at hW1;go_enter Tryz.func26,Tryz.ntmps26
 go_wp2_with fail
 refine cB.mono ?_;rintro e w2 ⟨rfl,hb,m⟩;have S2:=hid (S1.out.cells hb m);have B2:=hid (B1.out.trans (m.below B1.out.size (fun k hk=>by simp only [List.mem_singleton] at hk;omega)));clear hb m cB;go_wp2_with fail
 go_ret2
 exact ⟨rfl,S2.out,B2.out⟩
end Go.Proofs.YtglejnkoojpelaaGreat.Tree
