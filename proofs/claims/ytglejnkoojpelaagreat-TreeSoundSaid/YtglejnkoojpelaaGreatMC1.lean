import Derived.Test.YtglejnkoojpelaaGreatProg
import Derived.WalkKit
import Derived.BigCall
import Derived.BigGuard
import Derived.Lib.Hide
import Derived.Lib.Walk
import Derived.Laws.Bits64
import Derived.Laws.Bits64b
import Derived.Laws.NewBlocks
import Derived.Outline
import Derived.Test.YtglejnkoojpelaaGreatMA1
import Derived.Deep.WholeRow
set_option maxRecDepth 100000
set_option maxHeartbeats 32000000
namespace Go.Proofs.YtglejnkoojpelaaGreat.Crc
open Lib (hid)
def poly:Nat:=14514072000185962306
def ones:Nat:=18446744073709551615
def sh (n:Nat):Nat:=if n % 2=1 then n / 2 ^^^ poly else n / 2
def sh4 (n:Nat):Nat:=sh (sh (sh (sh n)))
def sh8 (n:Nat):Nat:=sh4 (sh4 n)
def raw:Nat->List UInt8->Nat
 | n,[]=>n
 | n,x :: l=>raw (sh8 (n ^^^ x.toNat)) l
def inv (n:Nat):Nat:=n ^^^ ones
def more (s:Nat) (l:List UInt8):Nat:=inv (raw (inv s) l)
theorem j7m {a b:Nat} (ha:a<18446744073709551616) (hb:b<18446744073709551616):a ^^^ b<18446744073709551616:=Nat.xor_lt_two_pow (n:=64) ha hb
theorem j3h (x:UInt8):x.toNat<18446744073709551616:=Nat.lt_of_lt_of_le x.toNat_lt (by decide)
theorem k5e:poly<18446744073709551616:=by decide
theorem k5l:ones<18446744073709551616:=by decide
theorem j2r {n:Nat} (h:n<18446744073709551616):sh n<18446744073709551616:=by
 unfold sh
 split
 ·exact j7m (by omega) k5e
 ·omega
theorem j0n {n:Nat} (h:n<18446744073709551616):sh4 n<18446744073709551616:=j2r (j2r (j2r (j2r h)))
theorem k9w {n:Nat} (h:n<18446744073709551616):sh8 n<18446744073709551616:=j0n (j0n h)
theorem k9v:∀ (l:List UInt8) {n:Nat},n<18446744073709551616->raw n l<18446744073709551616
 | [],_,h=>h
 | x :: l,_,h=>k9v l (k9w (j7m h (j3h x)))
theorem k5n {n:Nat} (h:n<18446744073709551616):inv n<18446744073709551616:=j7m h k5l
theorem p1b {s:Nat} (l:List UInt8) (h:s<18446744073709551616):more s l<18446744073709551616:=k5n (k9v l (k5n h))
theorem k8u (a b c d:Nat):a ^^^ b ^^^ (c ^^^ d)=a ^^^ c ^^^ (b ^^^ d):=by
 rw [Nat.xor_assoc,Nat.xor_assoc,<- Nat.xor_assoc b,Nat.xor_comm b c,Nat.xor_assoc c]
theorem j7j (a b:Nat):sh (a ^^^ b)=sh a ^^^ sh b:=by
 unfold sh;rw [Nat.xor_div_two];have hm:=Nat.xor_mod_two_eq_one (a:=a) (b:=b);rcases Nat.mod_two_eq_zero_or_one a with ha | ha <;> rcases Nat.mod_two_eq_zero_or_one b with hb | hb
 ·rw [if_neg (by omega),if_neg (by omega),if_neg (by omega)]
 ·rw [if_pos (by omega),if_neg (by omega),if_pos (by omega),Nat.xor_assoc]
 ·rw [if_pos (by omega),if_pos (by omega),if_neg (by omega),Nat.xor_assoc,Nat.xor_assoc,Nat.xor_comm poly]
 ·rw [if_neg (by omega),if_pos (by omega),if_pos (by omega),k8u,Nat.xor_self,Nat.xor_zero]
theorem p0n (a b:Nat):sh4 (a ^^^ b)=sh4 a ^^^ sh4 b:=by unfold sh4;rw [j7j,j7j,j7j,j7j]
theorem h9f (m:Nat):sh (2*m)=m:=by unfold sh;rw [if_neg (by omega)];omega
theorem k6m (m:Nat):sh4 (2*(2*(2*(2*m))))=m:=by unfold sh4;rw [h9f,h9f,h9f,h9f]
theorem p0s (n:Nat):n=2*(2*(2*(2*(n / 16)))) ^^^ n % 16:=by
 refine Nat.eq_of_testBit_eq fun i=>?_
 rw [show 2*(2*(2*(2*(n / 16))))=2 ^ 4*(n / 2 ^ 4) by omega,show n % 16=n % 2 ^ 4 from rfl,Nat.testBit_xor,Nat.testBit_mod_two_pow,Nat.testBit_two_pow_mul,Nat.testBit_div_two_pow]
 by_cases h:i<4
 ·simp [h,show ¬ 4<=i by omega]
 ·simp [h,show 4<=i by omega]
theorem k7f (n:Nat):sh4 n=n / 16 ^^^ sh4 (n % 16):=by
 conv=>lhs;rw [p0s n]
 rw [p0n,k6m]
end Go.Proofs.YtglejnkoojpelaaGreat.Crc
namespace Go.Proofs.YtglejnkoojpelaaGreat.Crc
open Go.RowKit
open Lib (hid)
theorem and_one (n:Nat) (h:n<18446744073709551616):bits BinOp.and IntKind.u64 (n:Int) 1=((n % 2:Nat):Int):=by
 rw [show (1:Int)=((1:Nat):Int) from rfl,bits_and_u64_nat n 1 h (by omega),Nat.and_one_is_mod]
theorem h8q (a b:Nat) (x y:Int) (ha:a<18446744073709551616) (hb:b<18446744073709551616) (hx:x=(a:Int)) (hy:y=(b:Int)):bits BinOp.xor IntKind.u64 x y=((a ^^^ b:Nat):Int):=by
 subst hx hy;exact bits_xor_u64_nat a b ha hb
theorem g7n (n:Nat) (w:World) (h:n<18446744073709551616) :
 Calls Tryz.prog 280 #[.int .u64 n] w fun e w'=>e=.returned (.int .u64 (sh n:Nat))/\w=w':=by
 have h1:=and_one n h
 by_cases h2:n % 2=1
 ·have e:bits BinOp.xor IntKind.u64 ((n:Int) / 2) 14514072000185962306=((sh n:Nat):Int):=by
   unfold sh;rw [if_pos h2];exact h8q _ _ _ _ (by omega) k5e (by omega) rfl
  go_enter Tryz.func280,Tryz.ntmps280
  go_wp2
  go_ret
  exact ⟨rfl,rfl⟩
 ·have e:(n:Int) / 2=((sh n:Nat):Int):=by unfold sh;rw [if_neg h2];omega
  go_enter Tryz.func280,Tryz.ntmps280
  go_wp2
  go_ret
  exact ⟨rfl,rfl⟩
theorem g6t (k:Nat) (arr:Array Value) (w:World) (hk:k<16) (hs:arr.size=16) :
 Calls Tryz.prog 279 #[.int .i64 k,.pointer (some ⟨w.heap.size,0,none⟩)] (w.alloc (.cells arr 309)) fun e w'=>e=.returned (.tuple #[])/\w'=w.alloc (.cells (arr.setIfInBounds k (.int .u64 (sh4 k:Nat))) 309):=by
 have h0:k<18446744073709551616:=by omega
 have h1:=j2r h0;have h2:=j2r h1;have h3:=j2r h2;obtain ⟨x,hx⟩:∃ x,arr[k]?=some x:=⟨arr[k]'(by omega),Array.getElem?_eq_getElem _⟩;go_enter Tryz.func279,Tryz.ntmps279
 go_wp2
 refine wp_loop_rounds 5 ?_;rw [rounds_succ];go_wp2_with fail
 refine (g7n _ _ h0).mono ?_;rintro e w' ⟨rfl,rfl⟩;go_wp2
 rw [rounds_succ];go_wp2_with fail
 refine (g7n _ _ h1).mono ?_;rintro e w' ⟨rfl,rfl⟩;go_wp2
 rw [rounds_succ];go_wp2_with fail
 refine (g7n _ _ h2).mono ?_;rintro e w' ⟨rfl,rfl⟩;go_wp2
 rw [rounds_succ];go_wp2_with fail
 refine (g7n _ _ h3).mono ?_;rintro e w' ⟨rfl,rfl⟩;go_wp2
 rw [rounds_succ];go_wp2
 go_end0
 exact ⟨rfl,rfl⟩
def Tab (k:Nat) (arr:Array Value):Prop:=arr.size=16/\∀ j,j<k->arr[j]?=some (.int .u64 (sh4 j:Nat))
theorem Tab.lay {k:Nat} {arr:Array Value} (h:Tab k arr) (hk:k<16):Tab (k+1) (arr.setIfInBounds k (.int .u64 (sh4 k:Nat))):=by
 obtain ⟨h1,h2⟩:=h;refine ⟨by simpa using h1,fun j hj=>?_⟩
 by_cases e:j=k
 ·subst e;simp [h1,hk]
 ·rw [Array.getElem?_setIfInBounds_ne (by omega)];exact h2 j (by omega)
def zeros:Array Value:=#[.int .u64 0,.int .u64 0,.int .u64 0,.int .u64 0,.int .u64 0,.int .u64 0,.int .u64 0,.int .u64 0,.int .u64 0,.int .u64 0,.int .u64 0,.int .u64 0,.int .u64 0,.int .u64 0,.int .u64 0,.int .u64 0]
theorem k8w:Tab 0 zeros:=⟨rfl,fun j h=>by omega⟩
theorem Tab.eq {arr:Array Value} (h:Tab 16 arr):arr=#[.int .u64 (sh4 0:Nat),.int .u64 (sh4 1:Nat),.int .u64 (sh4 2:Nat),.int .u64 (sh4 3:Nat),.int .u64 (sh4 4:Nat),.int .u64 (sh4 5:Nat),.int .u64 (sh4 6:Nat),.int .u64 (sh4 7:Nat),.int .u64 (sh4 8:Nat),.int .u64 (sh4 9:Nat),.int .u64 (sh4 10:Nat),.int .u64 (sh4 11:Nat),.int .u64 (sh4 12:Nat),.int .u64 (sh4 13:Nat),.int .u64 (sh4 14:Nat),.int .u64 (sh4 15:Nat)]:=by
 apply Array.ext_getElem?;intro i
 by_cases hi:i<16
 ·rw [h.2 i hi]
  match i,hi with
  | 0,_=>rfl
  | 1,_=>rfl
  | 2,_=>rfl
  | 3,_=>rfl
  | 4,_=>rfl
  | 5,_=>rfl
  | 6,_=>rfl
  | 7,_=>rfl
  | 8,_=>rfl
  | 9,_=>rfl
  | 10,_=>rfl
  | 11,_=>rfl
  | 12,_=>rfl
  | 13,_=>rfl
  | 14,_=>rfl
  | 15,_=>rfl
  | n+16,h=>omega
 ·rw [Array.getElem?_eq_none (by rw [h.1];omega),Array.getElem?_eq_none (by simp;omega)]
theorem j8f (w:World) :
 Calls Tryz.prog 278 #[] w fun e w'=>∃ arr,Tab 16 arr/\e=.returned (.agg arr)/\Below w.heap.size w w':=by
 have hmf:∀ (fn:Fn) (first cap:Array Value) (w:World),(Instr.makeFunc fn first cap).run Tryz.prog w=.ok (.func fn first cap) w:=fun _ _ _ _=>rfl
 go_enter Tryz.func278,Tryz.ntmps278
 go_wp2
 go_loopw [5] (fun i wr=>∃ (k:Nat) (arr:Array Value),i=.int .i64 k/\k<=16/\Tab k arr/\Hid (wr=(w.alloc (.cells zeros 309)).alloc (.cells arr 309))) (fun i _=>16-(intOf i).toNat)
 case atStart=>exact ⟨0,zeros,rfl,by omega,k8w,hid rfl⟩
 case round =>
  obtain ⟨k,arr,rfl,hk,hT,hw⟩:=hrel;obtain rfl:=hw.out;clear hw
  by_cases hlt:k<16
  ·have hL:=g6t k arr (w.alloc (.cells zeros 309)) hlt hT.1;rw [World.size_alloc] at hL;have HT:=hid (hT.lay hlt);clear hT;go_wp2_with fail
   refine hL.mono ?_;rintro e w' ⟨rfl,rfl⟩;go_wp2
   go_roundw
   case rel=>exact ⟨k+1,_,by go_num,by omega,HT.out,hid rfl⟩
   case measure=>simp [intOf];omega
  ·obtain rfl:k=16:=by omega
   have HT:=hid hT;rw [hT.eq];rw [hT.eq] at HT;clear hT;unfold zeros;generalize sh4 0=t0 at HT ⊢;generalize sh4 1=t1 at HT ⊢;generalize sh4 2=t2 at HT ⊢;generalize sh4 3=t3 at HT ⊢;generalize sh4 4=t4 at HT ⊢;generalize sh4 5=t5 at HT ⊢;generalize sh4 6=t6 at HT ⊢;generalize sh4 7=t7 at HT ⊢;generalize sh4 8=t8 at HT ⊢;generalize sh4 9=t9 at HT ⊢;generalize sh4 10=t10 at HT ⊢;generalize sh4 11=t11 at HT ⊢
   generalize sh4 12=t12 at HT ⊢;generalize sh4 13=t13 at HT ⊢;generalize sh4 14=t14 at HT ⊢;generalize sh4 15=t15 at HT ⊢;go_wp2_with fail
   have hsz:(Tryz.prog.info? 309).map (·.size)=some 16:=by kernel_rfl
   exact bodyPost_ret (results_cell_row Tryz.results278 _ _ w.heap.size 309 _ (0,0) _ rfl (heap_alloc2_old _ _ _) Tryz.underlying309 rfl hsz) rfl ⟨_,HT.out,rfl,((Below.refl _ _).alloc (Nat.le_refl _) _).alloc (by rw [World.size_alloc];omega) _⟩
end Go.Proofs.YtglejnkoojpelaaGreat.Crc
namespace Go.Proofs.YtglejnkoojpelaaGreat.Crc
open Go.RowKit Gen
open Lib (hid)
abbrev g4v (c:UInt8):Value:=.int .u8 (c.toNat:Int)
abbrev BRow (w:World) (A:Option Addr) (l:List UInt8):Prop:=RowG w g4v A l
theorem Tab.one {arr:Array Value} (h:Tab 16 arr):arr.all (·.oneCell')=true:=by
 rw [h.eq];simp [Value.oneCell']
theorem k4g {arr:Array Value} (w:World) (h:Tab 16 arr):(storeCells ⟨w.heap.size,0,none⟩ arr.toList 0).run Tryz.prog (w.alloc (.cells zeros 309))=.ok () (w.alloc (.cells arr 309)) :=
 run_storeCells_new w 309 zeros arr (by rw [h.1];kernel_rfl) (by rw [h.1];rfl) h.one
theorem j6b (s:Nat) (h:s<18446744073709551616):bits BinOp.xor IntKind.u64 IntKind.u64.max (s:Int)=((inv s:Nat):Int):=by
 unfold inv;rw [Nat.xor_comm];exact h8q _ _ _ _ k5l h rfl rfl
theorem j0j (n:Nat) (h:n<18446744073709551616):bits BinOp.xor IntKind.u64 ((n:Int) / 16) ((sh4 (n % 16):Nat):Int)=((sh4 n:Nat):Int):=by
 rw [k7f n];exact h8q _ _ _ _ (by omega) (j0n (by omega)) (by omega) rfl
theorem round_facts (m:Nat) (x:UInt8) (hm:m<18446744073709551616) (arr:Array Value) (hT:∀ j,j<16->arr[j]?=some (.int .u64 (sh4 j:Nat))) :
 ∃ y m1 m2 m3:Nat,y<256/\g4v x=.int .u8 (y:Int)/\m1<18446744073709551616/\m2<18446744073709551616/\m3<18446744073709551616/\bits BinOp.xor IntKind.u64 (m:Int) (y:Int)=(m1:Int) /\
  (∃ t,arr[m1 % 16]?=some (.int .u64 (t:Nat))/\bits BinOp.xor IntKind.u64 ((m1:Int) / 16) (t:Int)=(m2:Int)) /\
  (∃ t,arr[m2 % 16]?=some (.int .u64 (t:Nat))/\bits BinOp.xor IntKind.u64 ((m2:Int) / 16) (t:Int)=(m3:Int))/\m3=sh8 (m ^^^ x.toNat):=by
 have h1:=j7m hm (j3h x);exact ⟨x.toNat,m ^^^ x.toNat,sh4 (m ^^^ x.toNat),sh8 (m ^^^ x.toNat),x.toNat_lt,rfl,h1,j0n h1,k9w h1,h8q m x.toNat _ _ hm (j3h x) rfl rfl,⟨_,hT _ (by omega),j0j _ h1⟩,⟨_,hT _ (by omega),j0j _ (j0n h1)⟩,rfl⟩
theorem k5r {l:List UInt8} {k m:Nat} {N:Nat} (hk:k<l.length) (h:raw m (l.drop k)=N):raw (sh8 (m ^^^ l[k].toNat)) (l.drop (k+1))=N:=by
 rw [List.drop_eq_getElem_cons hk] at h;exact h
theorem k8n (s:Nat) (A:Option Addr) (n c:Nat) (l:List UInt8) (w:World) (hs:s<18446744073709551616) (hl:l.length=n) (hn:n<=9223372036854775807) (hR:BRow w A l) :
 Calls Tryz.prog 275 #[.int .u64 s,.slice A n c] w fun e w'=>e=.returned (.int .u64 (more s l:Nat))/\Below w.heap.size w w':=by
 have hsg:IntKind.u64.signed=false:=rfl;have h1:=j6b s hs;have hi:=k5n hs;go_enter Tryz.func275,Tryz.ntmps275
 go_wp2_with fail
 refine (j8f _).mono ?_;rintro e w1 ⟨arr,hT,rfl,B1⟩;have hsz:=hT.1;have hst:=k4g w1 hT;unfold zeros at hst;have HT:=hid hT.2;have HR:=hid (hR.below B1);clear hT hR;go_wp2
 clear hst h1 hsz;have B2:=B1.alloc (Nat.le_trans B1.size (Nat.le_refl _)) (.cells arr 309);go_loop [6,14] (fun x i=>∃ k m:Nat,i=.int .i64 k/\x=.int .u64 m/\k<=n/\m<18446744073709551616/\Hid (raw m (l.drop k)=raw (inv s) l)) (fun _ i=>n-(intOf i).toNat)
 case atStart=>exact ⟨0,inv s,rfl,rfl,Nat.zero_le _,hi,hid rfl⟩
 case round =>
  obtain ⟨k,m,rfl,rfl,hk,hm,hQ⟩:=hrel
  by_cases hlt:k<n
  ·obtain ⟨b,off,rfl,hb,hc⟩:=HR.out (by intro e;subst e;simp at hl;omega);have hck:=hc k (by omega);clear hc;obtain ⟨y,m1,m2,m3,hy,hxy,hm1,hm2,hm3,hx,⟨t1,ht1,hh1⟩,⟨t2,ht2,hh2⟩,he⟩:=round_facts m l[k] hm arr HT.out;have HQ:=hid (k5r (by omega) hQ.out);rw [<- he] at HQ;rw [hxy] at hck;clear he hxy hQ;go_wp2
   go_round
   case rel=>exact ⟨k+1,m3,by go_num,rfl,by omega,hm3,HQ⟩
   case measure=>simp [intOf];omega
  ·have e:m=raw (inv s) l:=by
    have h2:=hQ.out;rw [List.drop_eq_nil_of_le (by omega)] at h2;exact h2
   have e2:bits BinOp.xor IntKind.u64 IntKind.u64.max (m:Int)=((more s l:Nat):Int):=by
    rw [j6b m hm,e];rfl
   clear e;go_wp2
   go_ret
   exact ⟨rfl,B2⟩
theorem p2h (A:Option Addr) (n c:Nat) (l:List UInt8) (w:World) (hl:l.length=n) (hn:n<=9223372036854775807) (hR:BRow w A l) :
 Calls Tryz.prog 266 #[.slice A n c] w fun e w'=>e=.returned (.int .u64 (more 0 l:Nat))/\Below w.heap.size w w':=by
 have h:=k8n 0 A n c l w (by omega) hl hn hR;clear hR hl;go_enter Tryz.func266,Tryz.ntmps266
 go_wp2_with fail
 refine h.mono ?_;rintro e w1 ⟨rfl,B1⟩;go_wp2
 go_ret
 exact ⟨rfl,B1⟩
end Go.Proofs.YtglejnkoojpelaaGreat.Crc
