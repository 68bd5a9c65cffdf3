import Derived.WalkKit
import Derived.Test.YtglejnkoojpelaaGreatMA1
import Derived.Test.YtglejnkoojpelaaGreatMC1
import Derived.Lib.Hide
import Derived.Lib.Walk
import Derived.Test.YtglejnkoojpelaaGreatProg
import Derived.BigQuiet
import Derived.Laws.StructEq
import Derived.Laws.Cover1
import Derived.Laws.Strings
import Derived.Laws.IdiomStrings
import Derived.Deep.OwnRows
import Derived.Maps.AppendAt
set_option maxRecDepth 100000
set_option maxHeartbeats 32000000
namespace Go.Proofs.YtglejnkoojpelaaGreat.Page
open Go.RowKit Gen
open Lib (hid)
abbrev Bs:=List UInt8
abbrev g4v (c:UInt8):Value:=.int .u8 (c.toNat:Int)
abbrev BRow (w:World) (A:Option Addr) (l:Bs):Prop:=RowG w g4v A l
def strB (l:Bs):ByteArray:=⟨l.toArray⟩
abbrev strV (l:Bs):Value:=.string (strB l)
theorem g0m (l:Bs):(strB l).toList=l:=by rw [ByteArray.toList_eq];rfl
theorem g3b (l:Bs):(strB l).size=l.length:=rfl
abbrev numV (n:Int):Value:=.int .i64 n
abbrev SRow (w:World) (A:Option Addr) (l:List Bs):Prop:=RowG w strV A l
abbrev IRow (w:World) (A:Option Addr) (l:List Int):Prop:=RowG w numV A l
def PRow (w:World) (A:Option Addr) (l:List (Bs×Bs)):Prop:=l≠[]->∃ b off,A=some ⟨b,off,none⟩/\b<w.heap.size/\∀ j (h:j<l.length),w.cell? ⟨b,off+j*2,none⟩=some (strV l[j].1)/\w.cell? ⟨b,off+j*2+1,none⟩=some (strV l[j].2)
theorem PRow.below {w w':World} {A:Option Addr} {l:List (Bs×Bs)} (h:PRow w A l) (hb:Below w.heap.size w w'):PRow w' A l:=fun hne=>by
 obtain ⟨b,off,e,hlt,hc⟩:=h hne;refine ⟨b,off,e,Nat.lt_of_lt_of_le hlt hb.size,fun j hj=>⟨?_,?_⟩⟩
 ·exact (hb.cell (p:=⟨b,off+j*2,none⟩) hlt).trans (hc j hj).1
 ·exact (hb.cell (p:=⟨b,off+j*2+1,none⟩) hlt).trans (hc j hj).2
structure Pg where
 kind:Int
 pairs:List (Bs×Bs):=[]
 keys:List Bs:=[]
 kids:List Int:=[]
 pages:List Int:=[]
 next:Int:=0
 epoch:Nat:=0
 root:Int:=0
 depth:Int:=0
 count:Int:=0
 high:Int:=0
structure Lay where
 A1:Option Addr:=none
 c1:Nat:=0
 A2:Option Addr:=none
 c2:Nat:=0
 A3:Option Addr:=none
 c3:Nat:=0
 A4:Option Addr:=none
 c4:Nat:=0
abbrev pgC (p:Pg) (a:Lay):Array Value:=#[.int .i64 p.kind,.slice a.A1 p.pairs.length a.c1,.slice a.A2 p.keys.length a.c2,.slice a.A3 p.kids.length a.c3,.slice a.A4 p.pages.length a.c4,.int .i64 p.next,.int .u64 (p.epoch:Int),.int .i64 p.root,.int .i64 p.depth,.int .i64 p.count,.int .i64 p.high]
abbrev pgV (p:Pg) (a:Lay):Value:=.agg (pgC p a)
def I64 (n:Int):Prop:=-9223372036854775808<=n/\n<=9223372036854775807
structure PgOk (p:Pg):Prop where
 kind:I64 p.kind
 pairs:p.pairs.length<=9223372036854775807
 keys:p.keys.length<=9223372036854775807
 kids:p.kids.length<=9223372036854775807
 pages:p.pages.length<=9223372036854775807
 next:I64 p.next
 epoch:p.epoch<18446744073709551616
 root:I64 p.root
 depth:I64 p.depth
 count:I64 p.count
 high:I64 p.high
structure g0c (w:World) (p:Pg) (a:Lay):Prop where
 r1:PRow w a.A1 p.pairs
 r2:SRow w a.A2 p.keys
 r3:IRow w a.A3 p.kids
 r4:IRow w a.A4 p.pages
theorem g0c.below {w w':World} {p:Pg} {a:Lay} (h:g0c w p a) (hb:Below w.heap.size w w'):g0c w' p a:=⟨h.r1.below hb,RowG.below h.r2 hb,RowG.below h.r3 hb,RowG.below h.r4 hb⟩
def Place (n:Int):Prop:=2<=n/\n<=4095
def g3h (s:Bs):Prop:=1<=s.length/\s.length<=48
instance (n:Int):Decidable (Place n):=inferInstanceAs (Decidable (_/\_))
instance (s:Bs):Decidable (g3h s):=inferInstanceAs (Decidable (_/\_))
def less (a b:Bs):Bool:=Op.bytesLess a b
def h4j (p:Prop) (w:World) (e:Ending) (w':World):Prop:=∃ r:Bool,e=.returned (.bool r)/\(r=true↔p)/\Below w.heap.size w w'
def h3a (p:Prop) (w:World) (e:Ending) (w':World):Prop:=∃ r:Bool,e=.returned (.bool r)/\(r=true↔p)/\w=w'
theorem g4j (a b c:Int) (w:World):Calls Tryz.prog 187 #[.int .i64 a,.int .i64 b,.int .i64 c] w (h3a (b<=a/\a<=c) w):=by
 by_cases h1:b<=a
 ·have d1:decide (b<=a)=true:=by simp [h1]
  go_enter Tryz.func187,Tryz.ntmps187
  go_wp2_with fail
  go_ret
  exact ⟨_,rfl,by simp [h1],rfl⟩
 ·have d1:decide (b<=a)=false:=by simp [h1]
  go_enter Tryz.func187,Tryz.ntmps187
  go_wp2_with fail
  go_ret
  exact ⟨_,rfl,by simp;omega,rfl⟩
theorem g9s (n:Int) (w:World):Calls Tryz.prog 192 #[.int .i64 n] w (h3a (Place n) w):=by
 go_enter Tryz.func192,Tryz.ntmps192
 go_wp2_with fail
 refine (g4j _ _ _ _).mono ?_;rintro e w' ⟨r,rfl,hr,rfl⟩;go_wp2_with fail
 go_ret
 exact ⟨_,rfl,hr,rfl⟩
theorem g8r (n:Int) (w:World):Calls Tryz.prog 235 #[.int .i64 n] w (h3a (n=0\/n=1) w):=by
 go_enter Tryz.func235,Tryz.ntmps235
 go_wp2_with fail
 refine (g4j _ _ _ _).mono ?_;rintro e w' ⟨r,rfl,hr,rfl⟩;go_wp2_with fail
 go_ret
 exact ⟨_,rfl,hr.trans (by omega),rfl⟩
theorem g5b (n:Int) (w:World):Calls Tryz.prog 194 #[.int .i64 n] w (h3a (n=0\/Place n) w):=by
 by_cases h1:n=0
 ·have d1:(n==0)=true:=by simp [h1]
  go_enter Tryz.func194,Tryz.ntmps194
  go_wp2_with fail
  go_ret
  exact ⟨_,rfl,by simp [h1],rfl⟩
 ·have d1:(n==0)=false:=by simp [h1]
  go_enter Tryz.func194,Tryz.ntmps194
  go_wp2_with (go_at_call 192;refine (g9s _ _).mono ?_;rintro e w' ⟨r,rfl,hr,rfl⟩)
  go_ret
  exact ⟨_,rfl,by rw [hr];simp [h1],rfl⟩
theorem k1a (s:Bs) (w:World):Calls Tryz.prog 189 #[strV s] w (h3a (g3h s) w):=by
 go_enter Tryz.func189,Tryz.ntmps189
 go_wp2_with fail
 refine (g4j _ _ _ _).mono ?_;rintro e w' ⟨r,rfl,hr,rfl⟩;go_wp2_with fail
 go_ret
 exact ⟨_,rfl,hr.trans (by rw [g3b];unfold g3h;omega),rfl⟩
def g1l {α:Type} (lt:α->α->Prop) (l:List α):Prop:=∀ j (h:j+1<l.length),lt l[j] l[j+1]
def Drew (w w':World):Prop:=∃ n,w'=w.drewN n
theorem Drew.refl (w:World):Drew w w:=⟨0,rfl⟩
theorem Drew.drewN {w w':World} (h:Drew w w') (m:Nat):Drew w (w'.drewN m):=by
 obtain ⟨n,rfl⟩:=h;exact ⟨n+m,by rw [World.drewN_drewN]⟩
theorem Drew.cell {w w':World} (h:Drew w w') (p:Addr):w'.cell? p=w.cell? p:=by
 obtain ⟨n,rfl⟩:=h
 rfl
theorem Drew.below {w w':World} (h:Drew w w') (B:Nat):Below B w w':=by
 obtain ⟨n,rfl⟩:=h;exact ⟨rfl,rfl,rfl,Nat.le_refl _,fun _ _=>rfl⟩
def h3f (p:Prop) (w:World) (e:Ending) (w':World):Prop:=∃ r:Bool,e=.returned (.bool r)/\(r=true↔p)/\Drew w w'
theorem h4l (A:Option Addr) (n c:Nat) (l:List Bs) (w:World) (hl:l.length=n) (hn:n<=9223372036854775807) (hR:SRow w A l) :
 Calls Tryz.prog 188 #[.slice A n c,.func (.func 189) #[] #[]] w (h3a (∀ s∈l,g3h s) w):=by
 have HR:=hid hR;have HL:=hid hl;clear hR hl;go_enter Tryz.func188,Tryz.ntmps188
 go_wp2_with fail
 go_loop [9] (fun i=>∃ k:Nat,i=.int .i64 k/\k<=n/\Hid (∀ j (h:j<l.length),j<k->g3h l[j])) (fun i=>n-(intOf i).toNat)
 case atStart=>exact ⟨0,rfl,Nat.zero_le _,hid (fun j h hj=>absurd hj (Nat.not_lt_zero j))⟩
 case round =>
  obtain ⟨k,rfl,hk,hQ⟩:=hrel
  by_cases hlt:k<n
  ·have hkl:k<l.length:=by have:=HL.out;omega
   obtain ⟨b,off,rfl,hb,hc⟩:=HR.out (by intro e;subst e;simp at hkl);have hck:=hc k hkl;clear hc;have HS:Hid (∀ r:Bool,(r=true↔g3h l[k])->(r=true->∀ j (h:j<l.length),j<k+1->g3h l[j])/\(r=false->¬ ∀ s∈l,g3h s)):=hid (fun r hr=>⟨fun h j hj hjk=>by
    by_cases e:j=k
    ·subst e;exact hr.1 h
    ·exact hQ.out j hj (by omega),fun h h2=>by
     have:=hr.2 (h2 _ (List.getElem_mem hkl));rw [h] at this;cases this⟩)
   generalize hx:l[k]=x at hck HS;clear hx hQ;go_wp2_with fail
   refine (k1a _ _).mono ?_;rintro e w' ⟨r,rfl,hr,rfl⟩;obtain ⟨h1,h2⟩:=HS.out r hr;rcases r with _ | _
   ·have HN:=hid (h2 rfl);clear h1 h2 HS hr;go_wp2_with fail
    go_ret
    exact ⟨_,rfl,⟨fun h=>(by cases h),fun h=>absurd h HN.out⟩,rfl⟩
   ·have HN:=hid (h1 rfl);clear h1 h2 HS hr;go_wp2_with fail
    go_round
    case rel=>exact ⟨k+1,by go_num,by omega,HN⟩
    case measure=>simp [intOf];omega
  ·have HN:Hid (∀ s∈l,g3h s):=hid (fun s hs=>by
    obtain ⟨j,hj,rfl⟩:=List.getElem_of_mem hs;exact hQ.out j hj (by have:=HL.out;omega))
   clear hQ;go_wp2_with fail
   go_ret
   exact ⟨_,rfl,⟨fun _=>HN.out,fun _=>rfl⟩,rfl⟩
theorem h1d (A:Option Addr) (n c:Nat) (l:List Int) (w:World) (hl:l.length=n) (hn:n<=9223372036854775807) (hR:IRow w A l) :
 Calls Tryz.prog 191 #[.slice A n c,.func (.func 192) #[] #[]] w (h3a (∀ s∈l,Place s) w):=by
 have HR:=hid hR;have HL:=hid hl;clear hR hl;go_enter Tryz.func191,Tryz.ntmps191
 go_wp2_with fail
 go_loop [9] (fun i=>∃ k:Nat,i=.int .i64 k/\k<=n/\Hid (∀ j (h:j<l.length),j<k->Place l[j])) (fun i=>n-(intOf i).toNat)
 case atStart=>exact ⟨0,rfl,Nat.zero_le _,hid (fun j h hj=>absurd hj (Nat.not_lt_zero j))⟩
 case round =>
  obtain ⟨k,rfl,hk,hQ⟩:=hrel
  by_cases hlt:k<n
  ·have hkl:k<l.length:=by have:=HL.out;omega
   obtain ⟨b,off,rfl,hb,hc⟩:=HR.out (by intro e;subst e;simp at hkl);have hck:=hc k hkl;clear hc;have HS:Hid (∀ r:Bool,(r=true↔Place l[k])->(r=true->∀ j (h:j<l.length),j<k+1->Place l[j])/\(r=false->¬ ∀ s∈l,Place s)):=hid (fun r hr=>⟨fun h j hj hjk=>by
    by_cases e:j=k
    ·subst e;exact hr.1 h
    ·exact hQ.out j hj (by omega),fun h h2=>by
     have:=hr.2 (h2 _ (List.getElem_mem hkl));rw [h] at this;cases this⟩)
   generalize hx:l[k]=x at hck HS;clear hx hQ;go_wp2_with fail
   refine (g9s _ _).mono ?_;rintro e w' ⟨r,rfl,hr,rfl⟩;obtain ⟨h1,h2⟩:=HS.out r hr;rcases r with _ | _
   ·have HN:=hid (h2 rfl);clear h1 h2 HS hr;go_wp2_with fail
    go_ret
    exact ⟨_,rfl,⟨fun h=>(by cases h),fun h=>absurd h HN.out⟩,rfl⟩
   ·have HN:=hid (h1 rfl);clear h1 h2 HS hr;go_wp2_with fail
    go_round
    case rel=>exact ⟨k+1,by go_num,by omega,HN⟩
    case measure=>simp [intOf];omega
  ·have HN:Hid (∀ s∈l,Place s):=hid (fun s hs=>by
    obtain ⟨j,hj,rfl⟩:=List.getElem_of_mem hs;exact hQ.out j hj (by have:=HL.out;omega))
   clear hQ;go_wp2_with fail
   go_ret
   exact ⟨_,rfl,⟨fun _=>HN.out,fun _=>rfl⟩,rfl⟩
theorem h6q {α:Type} {lt:α->α->Prop} {l:List α} {k:Nat} (hk:k+1<l.length) (hQ:∀ j (h:j+1<l.length),j<k->lt l[j] l[j+1]) :
 (lt l[k] l[k+1]->∀ j (h:j+1<l.length),j<k+1->lt l[j] l[j+1])/\(¬ lt l[k] l[k+1]->¬ g1l lt l) :=
 ⟨fun h j hj hjk=>by
  by_cases e:j=k
  ·subst e;exact h
  ·exact hQ j hj (by omega),fun h h2=>h (h2 k hk)⟩
theorem h6g (A:Option Addr) (n c:Nat) (l:List Int) (w:World) (hl:l.length=n) (hn:n<=9223372036854775807) (hR:IRow w A l) :
 Calls Tryz.prog 193 #[.slice A n c] w (h3f (g1l (·<·) l) w):=by
 have HR:=hid hR;have HL:=hid hl;clear hR hl;go_enter Tryz.func193,Tryz.ntmps193
 go_wp2_with fail
 go_loopw [3] (fun i wr=>∃ k:Nat,i=.int .i64 ((k:Int)+1)/\(k<=n)/\Hid (∀ j (h:j+1<l.length),j<k->l[j]<l[j+1])/\Drew w wr) (fun i _=>n+1-(intOf i).toNat)
 case atStart=>exact ⟨0,rfl,Nat.zero_le _,hid (fun j h hj=>absurd hj (Nat.not_lt_zero j)),Drew.refl _⟩
 case round =>
  obtain ⟨k,rfl,hk,hQ,hD⟩:=hrel;have HD:=hid hD;clear hD
  by_cases hlt:k+1<n
  ·have hkl:k+1<l.length:=by have:=HL.out;omega
   obtain ⟨b,off,rfl,hb,hc⟩:=HR.out (by intro e;subst e;simp at hkl);have hc1:=hc k (by omega);have hc2:=hc (k+1) hkl;obtain ⟨h1,h2⟩:=h6q hkl hQ.out;have H1:=hid h1;have H2:=hid h2;generalize hx:l[k]=x at hc1 H1 H2;generalize hy:l[k+1]=y at hc2 H1 H2;rw [<- HD.out.cell] at hc1 hc2;have e1:(k:Int)+1-1=(k:Int):=by omega
   have e2:((k:Int)+1).toNat=k+1:=by omega
   clear hx hy hc h1 h2 hQ
   by_cases hxy:x<y
   ·have d:decide (y<=x)=false:=by simp;omega
    have HN:=hid (H1.out hxy);clear H1 H2 hxy;go_wp2_with fail
    go_quiet (fail)
    go_wp2_with fail
    go_roundw
    case rel=>exact ⟨k+1,by go_num,by omega,HN,HD.out.drewN _⟩
    case measure=>simp [intOf];omega
   ·have d:decide (y<=x)=true:=by simp;omega
    have HN:=hid (H2.out hxy);clear H1 H2 hxy;go_wp2_with fail
    go_quiet (fail)
    go_wp2_with fail
    go_ret
    exact ⟨_,rfl,⟨fun h=>(by cases h),fun h=>absurd h HN.out⟩,HD.out.drewN _⟩
  ·have HN:Hid (g1l (·<·) l):=hid (fun j hj=>hQ.out j hj (by have:=HL.out;omega));clear hQ;go_wp2_with fail
   go_ret
   exact ⟨_,rfl,⟨fun _=>HN.out,fun _=>rfl⟩,HD.out⟩
def Lt (a b:Bs):Prop:=less a b=true
theorem g9m (A:Option Addr) (n c:Nat) (l:List Bs) (w:World) (hl:l.length=n) (hn:n<=9223372036854775807) (hR:SRow w A l) :
 Calls Tryz.prog 190 #[.slice A n c] w (h3f (g1l Lt l) w):=by
 have HR:=hid hR;have HL:=hid hl;clear hR hl;go_enter Tryz.func190,Tryz.ntmps190
 go_wp2_with fail
 go_loopw [3] (fun i wr=>∃ k:Nat,i=.int .i64 ((k:Int)+1)/\(k<=n)/\Hid (∀ j (h:j+1<l.length),j<k->Lt l[j] l[j+1])/\Drew w wr) (fun i _=>n+1-(intOf i).toNat)
 case atStart=>exact ⟨0,rfl,Nat.zero_le _,hid (fun j h hj=>absurd hj (Nat.not_lt_zero j)),Drew.refl _⟩
 case round =>
  obtain ⟨k,rfl,hk,hQ,hD⟩:=hrel;have HD:=hid hD;clear hD
  by_cases hlt:k+1<n
  ·have hkl:k+1<l.length:=by have:=HL.out;omega
   obtain ⟨b,off,rfl,hb,hc⟩:=HR.out (by intro e;subst e;simp at hkl);have hc1:=hc k (by omega);have hc2:=hc (k+1) hkl;obtain ⟨h1,h2⟩:=h6q hkl hQ.out;have H1:=hid h1;have H2:=hid h2;generalize hx:l[k]=x at hc1 H1 H2;generalize hy:l[k+1]=y at hc2 H1 H2;rw [<- HD.out.cell] at hc1 hc2;have e1:(k:Int)+1-1=(k:Int):=by omega
   have e2:((k:Int)+1).toNat=k+1:=by omega
   have t1:(k:Int)<(n:Int):=by omega
   have t2:(k:Int)+1<(n:Int):=by omega
   have t3:(0:Int)<=(k:Int):=by omega
   have t4:(0:Int)<=(k:Int)+1:=by omega
   have e3:IntKind.i64.wrap (k:Int)=k:=by rw [IntKind.wrap_i64];omega
   obtain ⟨X,hX⟩:∃ X,strB x=X:=⟨_,rfl⟩;obtain ⟨Y,hY⟩:∃ Y,strB y=Y:=⟨_,rfl⟩;have HD1:Hid (∀ r,less x y=r->Op.bytesLess X.toList Y.toList=r):=hid (fun r h=>by rw [<- hX,<- hY,g0m,g0m];exact h);have HLt:Hid (Lt x y↔less x y=true):=hid Iff.rfl;rw [show strV x=.string X by rw [<- hX]] at hc1;rw [show strV y=.string Y by rw [<- hY]] at hc2;clear hx hy hc h1 h2 hQ hX hY
   by_cases hxy:less x y=true
   ·have d:=HD1.out _ hxy;have HN:=hid (H1.out (HLt.out.2 hxy));clear H1 H2 hxy HD1 HLt;go_wp2_with fail
    go_quiet (fail)
    go_wp2_with fail
    go_roundw
    case rel=>exact ⟨k+1,by go_num,by omega,HN,HD.out.drewN _⟩
    case measure=>simp [intOf];omega
   ·have hf:less x y=false:=by simpa using hxy
    have d:=HD1.out _ hf;have HN:=hid (H2.out (fun h=>hxy (HLt.out.1 h)));clear H1 H2 hxy HD1 HLt hf;go_wp2_with fail
    go_quiet (fail)
    go_wp2_with fail
    go_ret
    exact ⟨_,rfl,⟨fun h=>(by cases h),fun h=>absurd h HN.out⟩,HD.out.drewN _⟩
  ·have HN:Hid (g1l Lt l):=hid (fun j hj=>hQ.out j hj (by have:=HL.out;omega));clear hQ;go_wp2_with fail
   go_ret
   exact ⟨_,rfl,⟨fun _=>HN.out,fun _=>rfl⟩,HD.out⟩
abbrev rawC (k:Int) (A1:Option Addr) (n1 c1:Nat) (A2:Option Addr) (n2 c2:Nat) (A3:Option Addr) (n3 c3:Nat) (A4:Option Addr) (n4 c4:Nat) (nx:Int) (ep:Nat) (rt dp ct hg:Int):Array Value:=#[.int .i64 k,.slice A1 n1 c1,.slice A2 n2 c2,.slice A3 n3 c3,.slice A4 n4 c4,.int .i64 nx,.int .u64 (ep:Int),.int .i64 rt,.int .i64 dp,.int .i64 ct,.int .i64 hg]
theorem h3o (k:Int) (A1:Option Addr) (n1 c1:Nat) (A2:Option Addr) (n2 c2:Nat) (A3:Option Addr) (n3 c3:Nat) (A4:Option Addr) (n4 c4:Nat) (nx:Int) (ep:Nat) (rt dp ct hg:Int) (w:World) :
 Calls Tryz.prog 152 #[.agg (rawC k A1 n1 c1 A2 n2 c2 A3 n3 c3 A4 n4 c4 nx ep rt dp ct hg)] w (h4j (n1=0/\n2=0/\n3=0/\n4=0/\nx=0/\ep=0/\rt=0/\dp=0/\ct=0/\hg=0) w):=by
 unfold rawC
 by_cases h0:n1=0
 rotate_left
 ·have d0:((n1:Int)==0)=false:=by simp;omega
  have HH:=hid h0;clear h0;go_enter Tryz.func152,Tryz.ntmps152
  go_wp2_with fail
  go_ret
  exact ⟨_,rfl,⟨fun h=>(by cases h),fun h=>absurd h.1 HH.out⟩,(Below.refl _ _).alloc (Nat.le_refl _) _⟩
 subst h0
 by_cases h1:n2=0
 rotate_left
 ·have d1:((n2:Int)==0)=false:=by simp;omega
  have HH:=hid h1;clear h1;go_enter Tryz.func152,Tryz.ntmps152
  go_wp2_with fail
  go_ret
  exact ⟨_,rfl,⟨fun h=>(by cases h),fun h=>absurd h.2.1 HH.out⟩,(Below.refl _ _).alloc (Nat.le_refl _) _⟩
 subst h1
 by_cases h2:n3=0
 rotate_left
 ·have d2:((n3:Int)==0)=false:=by simp;omega
  have HH:=hid h2;clear h2;go_enter Tryz.func152,Tryz.ntmps152
  go_wp2_with fail
  go_ret
  exact ⟨_,rfl,⟨fun h=>(by cases h),fun h=>absurd h.2.2.1 HH.out⟩,(Below.refl _ _).alloc (Nat.le_refl _) _⟩
 subst h2
 by_cases h3:n4=0
 rotate_left
 ·have d3:((n4:Int)==0)=false:=by simp;omega
  have HH:=hid h3;clear h3;go_enter Tryz.func152,Tryz.ntmps152
  go_wp2_with fail
  go_ret
  exact ⟨_,rfl,⟨fun h=>(by cases h),fun h=>absurd h.2.2.2.1 HH.out⟩,(Below.refl _ _).alloc (Nat.le_refl _) _⟩
 subst h3
 by_cases h4:nx=0
 rotate_left
 ·have d4:((nx:Int)==0)=false:=by simp;omega
  have HH:=hid h4;clear h4;go_enter Tryz.func152,Tryz.ntmps152
  go_wp2_with fail
  go_ret
  exact ⟨_,rfl,⟨fun h=>(by cases h),fun h=>absurd h.2.2.2.2.1 HH.out⟩,(Below.refl _ _).alloc (Nat.le_refl _) _⟩
 subst h4
 by_cases h5:ep=0
 rotate_left
 ·have d5:((ep:Int)==0)=false:=by simp;omega
  have HH:=hid h5;clear h5;go_enter Tryz.func152,Tryz.ntmps152
  go_wp2_with fail
  go_ret
  exact ⟨_,rfl,⟨fun h=>(by cases h),fun h=>absurd h.2.2.2.2.2.1 HH.out⟩,(Below.refl _ _).alloc (Nat.le_refl _) _⟩
 subst h5
 by_cases h6:rt=0
 rotate_left
 ·have d6:((rt:Int)==0)=false:=by simp;omega
  have HH:=hid h6;clear h6;go_enter Tryz.func152,Tryz.ntmps152
  go_wp2_with fail
  go_ret
  exact ⟨_,rfl,⟨fun h=>(by cases h),fun h=>absurd h.2.2.2.2.2.2.1 HH.out⟩,(Below.refl _ _).alloc (Nat.le_refl _) _⟩
 subst h6
 by_cases h7:dp=0
 rotate_left
 ·have d7:((dp:Int)==0)=false:=by simp;omega
  have HH:=hid h7;clear h7;go_enter Tryz.func152,Tryz.ntmps152
  go_wp2_with fail
  go_ret
  exact ⟨_,rfl,⟨fun h=>(by cases h),fun h=>absurd h.2.2.2.2.2.2.2.1 HH.out⟩,(Below.refl _ _).alloc (Nat.le_refl _) _⟩
 subst h7
 by_cases h8:ct=0
 rotate_left
 ·have d8:((ct:Int)==0)=false:=by simp;omega
  have HH:=hid h8;clear h8;go_enter Tryz.func152,Tryz.ntmps152
  go_wp2_with fail
  go_ret
  exact ⟨_,rfl,⟨fun h=>(by cases h),fun h=>absurd h.2.2.2.2.2.2.2.2.1 HH.out⟩,(Below.refl _ _).alloc (Nat.le_refl _) _⟩
 subst h8
 by_cases h9:hg=0
 rotate_left
 ·have d9:((hg:Int)==0)=false:=by simp;omega
  have HH:=hid h9;clear h9;go_enter Tryz.func152,Tryz.ntmps152
  go_wp2_with fail
  go_ret
  exact ⟨_,rfl,⟨fun h=>(by cases h),fun h=>absurd h.2.2.2.2.2.2.2.2.2 HH.out⟩,(Below.refl _ _).alloc (Nat.le_refl _) _⟩
 subst h9;go_enter Tryz.func152,Tryz.ntmps152
 go_wp2_with fail
 go_ret
 exact ⟨_,rfl,by simp,(Below.refl _ _).alloc (Nat.le_refl _) _⟩
structure g6w (p:Pg):Prop where
 root:p.root=0\/Place p.root
 next:p.next=0\/Place p.next
 high:2<=p.high/\p.high<=4096
 depth:0<=p.depth/\p.depth<=20
 dz:p.depth=0↔p.root=0
 count:0<=p.count/\p.count<=2147483647
 cz:p.count=0↔p.root=0
theorem j7e {a b:Int} {r:Bool} (h:((a==0)==(b==0))=r):r=true↔(a=0↔b=0):=by
 subst h;rw [beq_iff_eq,Bool.eq_iff_iff,beq_iff_eq,beq_iff_eq]
theorem h3u (p:Pg) (a:Lay) (w:World):Calls Tryz.prog 151 #[pgV p a] w (h4j (g6w p) w):=by
 have cR:=g5b p.root;have cN:=g5b p.next;have cH:=g4j p.high 2 4096;have cD:=g4j p.depth 0 20;have cC:=g4j p.count 0 2147483647;have B1:Below w.heap.size w (w.alloc (.cells (pgC p a) 103)):=(Below.refl _ _).alloc (Nat.le_refl _) _;obtain ⟨zr,hzr⟩:∃ z,(p.root==0)=z:=⟨_,rfl⟩;obtain ⟨zd,hzd⟩:∃ z,(p.depth==0)=z:=⟨_,rfl⟩;obtain ⟨zc,hzc⟩:∃ z,(p.count==0)=z:=⟨_,rfl⟩
 obtain ⟨b1,hb1⟩:∃ z,(zd==zr)=z:=⟨_,rfl⟩;obtain ⟨b2,hb2⟩:∃ z,(zc==zr)=z:=⟨_,rfl⟩;have I1:=hid (j7e (a:=p.depth) (b:=p.root) (r:=b1) (by rw [hzd,hzr,hb1]));have I2:=hid (j7e (a:=p.count) (b:=p.root) (r:=b2) (by rw [hzc,hzr,hb2]));unfold pgV pgC;go_enter Tryz.func151,Tryz.ntmps151
 go_wp2_with fail
 refine (cR _).mono ?_;rintro e w' ⟨r1,rfl,h1,rfl⟩;rcases r1 with _ | _
 ·have H:=hid h1;clear h1 cR cN cH cD cC;go_wp2_with fail
  go_ret
  exact ⟨_,rfl,⟨fun h=>(by cases h),fun h=>(by cases (H.out.2 h.root))⟩,B1⟩
 have H1:=hid (h1.1 rfl);clear h1 cR;go_wp2_with fail
 refine (cN _).mono ?_;rintro e w' ⟨r1,rfl,h1,rfl⟩;rcases r1 with _ | _
 ·have H:=hid h1;clear h1 cN cH cD cC;go_wp2_with fail
  go_ret
  exact ⟨_,rfl,⟨fun h=>(by cases h),fun h=>(by cases (H.out.2 h.next))⟩,B1⟩
 have H2:=hid (h1.1 rfl);clear h1 cN;go_wp2_with fail
 refine (cH _).mono ?_;rintro e w' ⟨r1,rfl,h1,rfl⟩;rcases r1 with _ | _
 ·have H:=hid h1;clear h1 cH cD cC;go_wp2_with fail
  go_ret
  exact ⟨_,rfl,⟨fun h=>(by cases h),fun h=>(by cases (H.out.2 h.high))⟩,B1⟩
 have H3:=hid (h1.1 rfl);clear h1 cH;go_wp2_with fail
 refine (cD _).mono ?_;rintro e w' ⟨r1,rfl,h1,rfl⟩;rcases r1 with _ | _
 ·have H:=hid h1;clear h1 cD cC;go_wp2_with fail
  go_ret
  exact ⟨_,rfl,⟨fun h=>(by cases h),fun h=>(by cases (H.out.2 h.depth))⟩,B1⟩
 have H4:=hid (h1.1 rfl);clear h1 cD;rcases b1 with _ | _
 ·clear cC;go_wp2_with fail
  go_ret
  exact ⟨_,rfl,⟨fun h=>(by cases h),fun h=>(by cases (I1.out.2 h.dz))⟩,B1⟩
 go_wp2_with fail
 refine (cC _).mono ?_;rintro e w' ⟨r1,rfl,h1,rfl⟩;rcases r1 with _ | _
 ·have H:=hid h1;clear h1 cC;go_wp2_with fail
  go_ret
  exact ⟨_,rfl,⟨fun h=>(by cases h),fun h=>(by cases (H.out.2 h.count))⟩,B1⟩
 have H6:=hid (h1.1 rfl);clear h1 cC;rcases b2 with _ | _
 ·go_wp2_with fail
  go_ret
  exact ⟨_,rfl,⟨fun h=>(by cases h),fun h=>(by cases (I2.out.2 h.cz))⟩,B1⟩
 go_wp2_with fail
 go_ret
 exact ⟨_,rfl,⟨fun _=>⟨H1.out,H2.out,H3.out,H4.out,I1.out.1 trivial,H6.out,I2.out.1 trivial⟩,fun _=>rfl⟩,B1⟩
structure h4q (p:Pg):Prop where
 len:p.pages.length<=200
 all:∀ s∈p.pages,Place s
 rises:g1l (·<·) p.pages
 next:p.next=0\/Place p.next
theorem k9o (p:Pg) (a:Lay) (w:World) (hok:PgOk p) (hR:IRow w a.A4 p.pages):Calls Tryz.prog 150 #[pgV p a] w (h4j (h4q p) w):=by
 have B1:Below w.heap.size w (w.alloc (.cells (pgC p a) 103)):=(Below.refl _ _).alloc (Nat.le_refl _) _;have cA:=h1d a.A4 p.pages.length a.c4 p.pages _ rfl hok.pages (RowG.below hR B1);have cI:=h6g a.A4 p.pages.length a.c4 p.pages _ rfl hok.pages (RowG.below hR B1);have cN:=g5b p.next;have HB1:=hid B1;clear hR hok B1
 by_cases hl:p.pages.length<=200
 rotate_left
 ·have d:decide ((p.pages.length:Int)<=200)=false:=by simp;omega
  have H:=hid hl;clear hl cA cI cN;unfold pgV pgC;go_enter Tryz.func150,Tryz.ntmps150
  go_wp2_with fail
  go_ret
  exact ⟨_,rfl,⟨fun h=>(by cases h),fun h=>absurd h.len H.out⟩,HB1.out⟩
 have d:decide ((p.pages.length:Int)<=200)=true:=by simp;omega
 have HL:=hid hl;clear hl;unfold pgV pgC;unfold pgC at cA cI HB1;go_enter Tryz.func150,Tryz.ntmps150
 go_wp2_with fail
 refine cA.mono ?_;rintro e w' ⟨r1,rfl,h1,rfl⟩;rcases r1 with _ | _
 ·have H:=hid h1;clear h1 cA cI cN;go_wp2_with fail
  go_ret
  exact ⟨_,rfl,⟨fun h=>(by cases h),fun h=>(by cases (H.out.2 h.all))⟩,HB1.out⟩
 have H1:=hid (h1.1 rfl);clear h1 cA;go_wp2_with fail
 refine cI.mono ?_;rintro e w' ⟨r1,rfl,h1,hD⟩;have B2:=hid (HB1.out.trans ((hD.below _).mono (Nat.le_refl _)));obtain ⟨nq,rfl⟩:=hD;rcases r1 with _ | _
 ·have H:=hid h1;clear h1 cI cN;go_wp2_with fail
  go_ret
  exact ⟨_,rfl,⟨fun h=>(by cases h),fun h=>(by cases (H.out.2 h.rises))⟩,B2.out⟩
 have H2:=hid (h1.1 rfl);clear h1 cI;go_wp2_with fail
 refine (cN _).mono ?_;rintro e w' ⟨r1,rfl,h1,rfl⟩;go_wp2_with fail
 go_ret
 exact ⟨_,rfl,⟨fun h=>⟨HL.out,H1.out,H2.out,h1.1 h⟩,fun h=>h1.2 h.next⟩,B2.out⟩
structure g9b (p:Pg):Prop where
 len:1<=p.keys.length/\p.keys.length<=12
 kids:p.kids.length=p.keys.length+1
 all:∀ s∈p.keys,g3h s
 rises:g1l Lt p.keys
 places:∀ s∈p.kids,Place s
theorem j9q (p:Pg) (a:Lay) (w:World) (hok:PgOk p) (hR:SRow w a.A2 p.keys) (hK:IRow w a.A3 p.kids):Calls Tryz.prog 149 #[pgV p a] w (h4j (g9b p) w):=by
 have B1:Below w.heap.size w (w.alloc (.cells (pgC p a) 103)):=(Below.refl _ _).alloc (Nat.le_refl _) _;have cL:=g4j p.keys.length 1 12;have cA:=h4l a.A2 p.keys.length a.c2 p.keys _ rfl hok.keys (RowG.below hR B1);have cI:=g9m a.A2 p.keys.length a.c2 p.keys _ rfl hok.keys (RowG.below hR B1);have HK:=hid (fun n=>h1d a.A3 p.kids.length a.c3 p.kids ((w.alloc (.cells (pgC p a) 103)).drewN n) rfl hok.kids (RowG.below (RowG.below hK B1) ((Drew.drewN (Drew.refl _) n).below _)))
 have HB1:=hid B1;have k1:=hok.kids;have k2:=hok.keys;clear hR hok B1 hK;unfold pgV pgC;unfold pgC at cA cI HB1 HK;go_enter Tryz.func149,Tryz.ntmps149
 go_wp2_with fail
 refine (cL _).mono ?_;rintro e w' ⟨r1,rfl,h1,rfl⟩;rcases r1 with _ | _
 ·have H:=hid h1;clear h1 cL cA cI;go_wp2_with fail
  go_ret
  exact ⟨_,rfl,⟨fun h=>(by cases h),fun h=>(by have h2:=h.len;cases (H.out.2 (by omega)))⟩,HB1.out⟩
 have H1:=hid (h1.1 rfl);have k3:p.keys.length<=12:=by have:=H1.out;omega
 clear h1 cL
 by_cases hl:p.kids.length=p.keys.length+1
 rotate_left
 ·have d:((p.kids.length:Int)==(p.keys.length:Int)+1)=false:=by simp;omega
  have H:=hid hl;clear hl cA cI;go_wp2_with fail
  go_ret
  exact ⟨_,rfl,⟨fun h=>(by cases h),fun h=>absurd h.kids H.out⟩,HB1.out⟩
 have d:((p.kids.length:Int)==(p.keys.length:Int)+1)=true:=by simp;omega
 have HL:=hid hl;clear hl;go_wp2_with fail
 refine cA.mono ?_;rintro e w' ⟨r1,rfl,h1,rfl⟩;rcases r1 with _ | _
 ·have H:=hid h1;clear h1 cA cI;go_wp2_with fail
  go_ret
  exact ⟨_,rfl,⟨fun h=>(by cases h),fun h=>(by cases (H.out.2 h.all))⟩,HB1.out⟩
 have H2:=hid (h1.1 rfl);clear h1 cA;go_wp2_with fail
 refine cI.mono ?_;rintro e w' ⟨r1,rfl,h1,hD⟩;have B2:=hid (HB1.out.trans ((hD.below _).mono (Nat.le_refl _)));obtain ⟨nq,rfl⟩:=hD;rcases r1 with _ | _
 ·have H:=hid h1;clear h1 cI;go_wp2_with fail
  go_ret
  exact ⟨_,rfl,⟨fun h=>(by cases h),fun h=>(by cases (H.out.2 h.rises))⟩,B2.out⟩
 have H3:=hid (h1.1 rfl);clear h1 cI;go_wp2_with fail
 refine (HK.out _).mono ?_;rintro e w' ⟨r1,rfl,h1,rfl⟩;go_wp2_with fail
 go_ret
 exact ⟨_,rfl,⟨fun h=>⟨by have:=H1.out;omega,HL.out,H2.out,H3.out,h1.1 h⟩,fun h=>h1.2 h.places⟩,B2.out⟩
structure h5l (p:Pg):Prop where
 len:1<=p.pairs.length/\p.pairs.length<=6
 vals:∀ x∈p.pairs,x.2.length<=100
 all:∀ s∈p.pairs.map (·.1),g3h s
 rises:g1l Lt (p.pairs.map (·.1))
theorem h5g:Elem Tryz.prog 64 9 strV :=
 ⟨Tryz.underlying64,⟨_,_,16,rfl,rfl,rfl,rfl,rfl,by omega⟩,fun _=>rfl⟩
theorem j4m {α:Type} {enc:α->Value} (w:World) (C:Array Value) (t:TypeId) (fr:Nat×Nat) (l:List α) (h:∀ k (hk:k<l.length),C[k]?=some (enc l[k])):RowG (w.alloc (.cells C t fr)) enc (some ⟨w.heap.size,0,none⟩) l:=fun _ =>
 ⟨w.heap.size,0,rfl,by rw [World.size_alloc];omega,fun k hk=>by rw [Nat.zero_add,World.cell?_alloc_mark];exact h k hk⟩
theorem lit1 {α:Type} {enc:α->Value} (w:World) (v:Value) (t:TypeId) (fr:Nat×Nat) (x:α) (h:v=enc x):RowG (w.alloc (.cells #[v] t fr)) enc (some ⟨w.heap.size,0,none⟩) [x]:=by
 subst h;exact j4m _ _ _ _ _ fun k hk=>match k,hk with
  | 0,_=>rfl
  | n+1,h=>by simp at h
theorem h4d {w:World} {e:TypeId} {α:Type} {enc:α->Value} {B:Nat} {v:Value} {l:List α} (h:OwnG w e enc B v l) (o:Obj):OwnG (w.alloc o) e enc B v l:=OwnG.kept h ((Below.refl _ _).alloc (Nat.le_refl _) o)
theorem k9i {w wr:World} {B:Nat} {l:List (Bs×Bs)} {k:Nat} {v:Value} (hk:k<l.length) (hn:l.length<=6) (ho:OwnG wr 9 strV B v ((l.take k).map (·.1))) (hb:Below B w wr) (hB:B<=wr.heap.size) (o1:Obj) (X:ByteArray) (hX:strB l[k].1=X) :
 ∃ v' W',(Builtin.append_ #[64,64] 64 #[v,.slice (some ⟨wr.heap.size+1,0,none⟩) 1 1]).run Tryz.prog ((wr.alloc o1).alloc (.cells #[.string X] 9))=.ok v' W'/\OwnG W' 9 strV B v' ((l.take (k+1)).map (·.1))/\Below B w W'/\B<=W'.heap.size:=by
 have ho2:=h4d (h4d ho o1) (.cells #[.string X] 9);have hb2:=(hb.alloc hB o1).alloc (Nat.le_trans hB (by simp)) (.cells #[.string X] 9);have hB2:B<=((wr.alloc o1).alloc (.cells #[.string X] 9)).heap.size:=by simp;omega
 obtain ⟨v',W',h1,h2,h3,_⟩:=g1x h5g _ B v _ ho2 (some ⟨(wr.alloc o1).heap.size,0,none⟩) 1 1 [l[k].1] rfl (fun h=>by cases h) (lit1 _ _ _ _ _ (by rw [<- hX])) (by rw [List.length_map,List.length_take];omega) hB2;rw [show (wr.alloc o1).heap.size=wr.heap.size+1 by simp] at h1;refine ⟨v',W',h1,?_,below_grown hb2 ho2 h3 hB2,Nat.le_trans hB2 h3.size⟩;rw [List.take_succ_eq_append_getElem hk,List.map_append]
 exact h2
theorem k8b (p:Pg) (a:Lay) (w:World) (hR:PRow w a.A1 p.pairs):Calls Tryz.prog 148 #[pgV p a] w (h4j (h5l p) w):=by
 have B1:Below w.heap.size w (w.alloc (.cells (pgC p a) 103)):=(Below.refl _ _).alloc (Nat.le_refl _) _;have HB1:=hid B1;have HR:=hid hR;have cL:=g4j p.pairs.length 1 6;clear hR B1;unfold pgC at HB1;generalize hps:p.pairs=ps at *;generalize hn:ps.length=n at *;unfold pgV pgC;rw [hps,hn];generalize a.A1=A1 at *;go_enter Tryz.func148,Tryz.ntmps148
 go_wp2_with fail
 refine (cL _).mono ?_;rintro e w' ⟨r1,rfl,h1,rfl⟩;rcases r1 with _ | _
 ·have H:=hid h1;clear h1 cL;go_wp2_with fail
  go_ret
  exact ⟨_,rfl,⟨fun h=>(by cases h),fun h=>(by have h2:=h.len;rw [hps,hn] at h2;cases (H.out.2 (by omega)))⟩,HB1.out⟩
 have H1:=hid (h1.1 rfl);have h6:n<=6:=by have:=H1.out;omega
 have HN:=hid hn;have HPS:=hid hps;clear h1 cL hn hps;go_wp2_with fail
 go_loopw [3,14] (fun v i wr=>∃ k:Nat,i=.int .i64 k/\k<=n/\OwnG wr 9 strV w.heap.size v ((ps.take k).map (·.1))/\Below w.heap.size w wr/\w.heap.size<=wr.heap.size/\Hid (∀ x∈ps.take k,x.2.length<=100)) (fun _ i _=>n-(intOf i).toNat)
 case atStart=>exact ⟨0,rfl,Nat.zero_le _,OwnG.nil _ _ _ _,HB1.out,HB1.out.size,hid (fun x hx=>by simp at hx)⟩
 case round =>
  obtain ⟨k,rfl,hk,ho,hb,hB,hQ⟩:=hrel
  by_cases hlt:k<n
  ·have hkl:k<ps.length:=by have:=HN.out;omega
   obtain ⟨b,off,rfl,hlb,hc⟩:=HR.out (by intro e;subst e;simp at hkl);obtain ⟨hc1,hc2⟩:=hc k hkl;rw [<- hb.cell (p:=⟨b,off+k*2,none⟩) hlb] at hc1;rw [<- hb.cell (p:=⟨b,off+k*2+1,none⟩) hlb] at hc2;obtain ⟨X,hX⟩:∃ X,strB ps[k].1=X:=⟨_,rfl⟩;obtain ⟨Y,hY⟩:∃ Y,strB ps[k].2=Y:=⟨_,rfl⟩;have hYs:Y.size=ps[k].2.length:=by rw [<- hY];rfl
   have HYs:=hid hYs;rw [show strV ps[k].1=.string X by rw [<- hX]] at hc1;rw [show strV ps[k].2=.string Y by rw [<- hY]] at hc2;have HK:=hid (fun o1=>k9i hkl (by have:=HN.out;omega) ho hb hB o1 X hX);have HHB:=hid hb;have HHO:=hid ho;clear hc hX hY hb ho hYs
   by_cases h100:Y.size<=100
   ·have d:decide (100<(Y.size:Int))=false:=by simp;omega
    have HN2:Hid (∀ x∈ps.take (k+1),x.2.length<=100):=hid (fun x hx=>by
     rw [List.take_succ_eq_append_getElem hkl,List.mem_append] at hx;rcases hx with hx | hx
     ·exact hQ.out x hx
     ·simp only [List.mem_singleton] at hx;subst hx;have:=HYs.out;omega)
    clear HYs h100 hQ;obtain ⟨v',W',hrun,ho',hb',hB'⟩:=HK.out (.cells #[.string X,.string Y] 49);have R1:=hid hrun;have HO':=hid ho';have HB':=hid hb';clear HK hrun ho' hb' HHO;go_wp2_with (at_builtin;(refine g0e rfl (.tmp 22) (.tmp 25) _ rfl rfl rfl R1.out ?_;clear R1))
    go_roundw
    case rel=>exact ⟨k+1,by go_num,by omega,HO'.out,HB'.out,hB',HN2⟩
    case measure=>simp [intOf];omega
   ·have d:decide (100<(Y.size:Int))=true:=by simp;omega
    have HN2:Hid (¬ h5l p):=hid (fun h=>by
     have h2:=h.vals;rw [HPS.out] at h2;have:=h2 _ (List.getElem_mem hkl);have:=HYs.out;omega)
    clear HYs h100 hQ HK HHO;go_wp2_with fail
    go_ret
    exact ⟨_,rfl,⟨fun h=>(by cases h),fun h=>absurd h HN2.out⟩,HHB.out.alloc hB _⟩
  ·have hv:Hid (∀ x∈ps,x.2.length<=100):=hid (fun x hx=>hQ.out x (by rw [List.take_of_length_le (by have:=HN.out;omega)];exact hx));rw [List.take_of_length_le (by have:=HN.out;omega)] at ho;obtain ⟨A,c,rfl,_,_,_,hrow⟩:=OwnG.row ho;have hlm:(ps.map (·.1)).length=n:=by rw [List.length_map,HN.out]
   rw [hlm];have cA:=h4l A n c (ps.map (·.1)) _ hlm (by omega) hrow;have cI:=g9m A n c (ps.map (·.1)) _ hlm (by omega) hrow;have HB2:=hid hb;clear hQ ho hrow hlm hb;go_wp2_with fail
   refine cA.mono ?_;rintro e w' ⟨r1,rfl,h1,rfl⟩;rcases r1 with _ | _
   ·have H:=hid h1;clear h1 cA cI;go_wp2_with fail
    go_ret
    exact ⟨_,rfl,⟨fun h=>(by cases h),fun h=>(by have h2:=h.all;rw [HPS.out] at h2;cases (H.out.2 h2))⟩,HB2.out⟩
   have H2:=hid (h1.1 rfl);clear h1 cA;go_wp2_with fail
   refine cI.mono ?_;rintro e w' ⟨r1,rfl,h1,hD⟩;go_wp2_with fail
   go_ret
   refine ⟨_,rfl,⟨fun h=>⟨?_,?_,?_,?_⟩,fun h=>?_⟩,HB2.out.trans (hD.below _)⟩
   ·rw [HPS.out,HN.out];have:=H1.out;omega
   ·rw [HPS.out];exact hv.out
   ·rw [HPS.out];exact H2.out
   ·rw [HPS.out];exact h1.1 h
   ·have h2:=h.rises;rw [HPS.out] at h2;exact h1.2 h2
def At (w:World) (b:Nat) (C:Array Value):Prop:=b<w.heap.size/\(∀ j,w.frozen? ⟨b,j,none⟩=false)/\∀ j v,C[j]?=some v->w.cell? ⟨b,j,none⟩=some v
theorem At.of_block {w:World} {b:Nat} {C:Array Value} {t:TypeId} (h:w.heap[b]?=some (.cells C t (0,0))):At w b C :=
 ⟨(Array.getElem?_eq_some_iff.1 h).1,fun j=>frozen_of_row w b j C t h,fun j v hv=>by rw [cell_of_row w b j C _ _ h];exact hv⟩
theorem At.below {w w':World} {b:Nat} {C:Array Value} {n:Nat} (h:At w b C) (hb:Below n w w') (hn:b<n):At w' b C :=
 ⟨Nat.lt_of_lt_of_le h.1 hb.size,fun j=>(hb.frozen (p:=⟨b,j,none⟩) hn).trans (h.2.1 j),fun j v hv=>(hb.cell (p:=⟨b,j,none⟩) hn).trans (h.2.2 j v hv)⟩
theorem At.set {w:World} {b:Nat} {C:Array Value} (h:At w b C) (i:Nat) (v:Value) (hi:i<C.size):At (w.setCell ⟨b,i,none⟩ v) b (C.setIfInBounds i v):=by
 have hc:=h.2.2 i _ (Array.getElem?_eq_getElem hi);refine ⟨by simpa using h.1,fun j=>?_,fun j u hu=>?_⟩
 ·rw [World.frozen?_setCell];exact h.2.1 j
 ·rw [Array.getElem?_setIfInBounds] at hu
  by_cases e:i=j
  ·subst e;rw [if_pos rfl,if_pos hi] at hu;cases hu;exact World.cell?_setCell_same _ _ _ hc
  ·rw [if_neg e] at hu;rw [World.cell?_setCell_other _ _ _ _ (by intro h;injection h;contradiction)];exact h.2.2 j u hu
theorem At.set_other {w:World} {b b' i:Nat} {C:Array Value} {v:Value} (h:At w b C) (hne:b'≠b):At (w.setCell ⟨b',i,none⟩ v) b C :=
 ⟨by simpa using h.1,fun j=>by rw [World.frozen?_setCell];exact h.2.1 j,fun j u hu=>by
  rw [World.cell?_setCell_other _ _ _ _ (by intro h;injection h;contradiction)];exact h.2.2 j u hu⟩
def g7w (p:Pg):Prop:=p.epoch=0/\p.root=0/\p.depth=0/\p.count=0/\p.high=0
def Fine (p:Pg):Prop :=
 (p.kind=1/\h5l p/\p.keys.length=0/\p.kids.length=0/\p.pages.length=0/\p.next=0/\g7w p) \/
 (p.kind=2/\g9b p/\p.pairs.length=0/\p.pages.length=0/\p.next=0/\g7w p) \/
 (p.kind=3/\h4q p/\p.pairs.length=0/\p.keys.length=0/\p.kids.length=0/\g7w p) \/
 (p.kind=4/\g6w p/\p.pairs.length=0/\p.keys.length=0/\p.kids.length=0/\p.pages.length=0)
def h7k (p:Pg) (w:World) (e:Ending) (w':World):Prop:=∃ x:Int,e=.returned (numV x)/\(x=0/\Fine p\/x=50/\¬ Fine p)/\Below w.heap.size w w'
theorem h6f {p:Pg} (h:p.kind=1):Fine p↔h5l p/\p.keys.length=0/\p.kids.length=0/\p.pages.length=0/\p.next=0/\g7w p:=by unfold Fine;rw [h];simp
theorem g7x {p:Pg} (h:p.kind=2):Fine p↔g9b p/\p.pairs.length=0/\p.pages.length=0/\p.next=0/\g7w p:=by unfold Fine;rw [h];simp
theorem p2x {p:Pg} (h:p.kind=3):Fine p↔h4q p/\p.pairs.length=0/\p.keys.length=0/\p.kids.length=0/\g7w p:=by unfold Fine;rw [h];simp
theorem p3n {p:Pg} (h:p.kind=4):Fine p↔g6w p/\p.pairs.length=0/\p.keys.length=0/\p.kids.length=0/\p.pages.length=0:=by unfold Fine;rw [h];simp
theorem p3r (p:Pg) (a:Lay) (w:World) (hk:p.kind=1) (hR:g0c w p a):Calls Tryz.prog 103 #[pgV p a] w (h7k p w):=by
 have k1:(p.kind==1)=true:=by rw [hk];rfl
 have k2:(p.kind==2)=false:=by rw [hk];rfl
 have k3:(p.kind==3)=false:=by rw [hk];rfl
 have k4:(p.kind==4)=false:=by rw [hk];rfl
 have HF:=hid (h6f hk);have B1:Below w.heap.size w (w.alloc (.cells (pgC p a) 103)):=(Below.refl _ _).alloc (Nat.le_refl _) _;have B2:Below w.heap.size w ((w.alloc (.cells (pgC p a) 103)).alloc (.cells (pgC p a) 103)):=B1.alloc B1.size _;have HRR:=hR.below B2;have hat:At ((w.alloc (.cells (pgC p a) 103)).alloc (.cells (pgC p a) 103)) (w.heap.size+1) (pgC p a):=At.of_block (by
  have:=heap_alloc_last (w.alloc (.cells (pgC p a) 103)) (.cells (pgC p a) 103);rw [show (w.alloc (.cells (pgC p a) 103)).heap.size=w.heap.size+1 by simp] at this;exact this)
 have hsz:w.heap.size+1<((w.alloc (.cells (pgC p a) 103)).alloc (.cells (pgC p a) 103)).heap.size:=by simp
 have cL:=k8b p a _ HRR.r1;clear hk hR B1 HRR;have HAT:=hid hat;have HB2:=hid B2;have HSZ:=hid hsz;clear hat B2 hsz;unfold pgV pgC at *;go_enter Tryz.func103,Tryz.ntmps103
 go_wp2_with fail
 refine cL.mono ?_;rintro e w1 ⟨r,rfl,h1,b1⟩;have B3:=HB2.out.trans (b1.mono HB2.out.size);have a0:=HAT.out.below b1 HSZ.out;have a1:=a0.set 1 (.slice none 0 0) (by simp);have s0:=a0.2.2 1 _ rfl;have f0:=a0.2.1 1;have c0:=a1.2.2 0 _ rfl;have c1:=a1.2.2 1 _ rfl;have c2:=a1.2.2 2 _ rfl;have c3:=a1.2.2 3 _ rfl;have c4:=a1.2.2 4 _ rfl;have c5:=a1.2.2 5 _ rfl;have c6:=a1.2.2 6 _ rfl;have c7:=a1.2.2 7 _ rfl
 have c8:=a1.2.2 8 _ rfl;have c9:=a1.2.2 9 _ rfl;have c10:=a1.2.2 10 _ rfl;have H1:=hid h1;have HB3:=hid B3;clear a0 a1 b1 B3 h1 cL HAT HB2 HSZ;have HB4:Hid (Below w.heap.size w ((w1.setCell ⟨w.heap.size+1,1,none⟩ (.slice none 0 0)))):=hid ((HB3.out.setCell (p:=⟨w.heap.size+1,1,none⟩) (Nat.le_succ _) (.slice none 0 0)));rcases r with _ | _
 ·go_wp2_with fail
  go_ret
  exact ⟨_,rfl,.inr ⟨rfl,fun h=>by cases (H1.out.2 (HF.out.1 h).1)⟩,HB4.out⟩
 go_wp2_with fail
 refine (h3o _ _ _ _ _ _ _ _ _ _ _ _ _ _ _ _ _ _ _ _).mono ?_;rintro e w2 ⟨r,rfl,h2,b2⟩;have HB5:=hid (HB4.out.trans (b2.mono HB4.out.size));have H2:=hid h2;clear h2 b2 c0 c1 c2 c3 c4 c5 c6 c7 c8 c9 c10;rcases r with _ | _
 ·go_wp2_with fail
  go_ret
  exact ⟨_,rfl,.inr ⟨rfl,fun h=>by
   have g:=(HF.out.1 h).2;cases (H2.out.2 (by simpa [g7w] using g))⟩,HB5.out⟩
 go_wp2_with fail
 go_ret
 exact ⟨_,rfl,.inl ⟨rfl,HF.out.2 ⟨H1.out.1 trivial,by simpa [g7w] using H2.out.1 trivial⟩⟩,HB5.out⟩
theorem p3q (p:Pg) (a:Lay) (w:World) (hk:p.kind=2) (hok:PgOk p) (hR:g0c w p a):Calls Tryz.prog 103 #[pgV p a] w (h7k p w):=by
 have k1:(p.kind==1)=false:=by rw [hk];rfl
 have k2:(p.kind==2)=true:=by rw [hk];rfl
 have k3:(p.kind==3)=false:=by rw [hk];rfl
 have k4:(p.kind==4)=false:=by rw [hk];rfl
 have HF:=hid (g7x hk);have B1:Below w.heap.size w (w.alloc (.cells (pgC p a) 103)):=(Below.refl _ _).alloc (Nat.le_refl _) _;have B2:Below w.heap.size w ((w.alloc (.cells (pgC p a) 103)).alloc (.cells (pgC p a) 103)):=B1.alloc B1.size _;have HRR:=hR.below B2;have hat:At ((w.alloc (.cells (pgC p a) 103)).alloc (.cells (pgC p a) 103)) (w.heap.size+1) (pgC p a):=At.of_block (by
  have:=heap_alloc_last (w.alloc (.cells (pgC p a) 103)) (.cells (pgC p a) 103);rw [show (w.alloc (.cells (pgC p a) 103)).heap.size=w.heap.size+1 by simp] at this;exact this)
 have hsz:w.heap.size+1<((w.alloc (.cells (pgC p a) 103)).alloc (.cells (pgC p a) 103)).heap.size:=by simp
 have cL:=j9q p a _ hok HRR.r2 HRR.r3;clear hk hR hok B1 HRR;have HAT:=hid hat;have HB2:=hid B2;have HSZ:=hid hsz;clear hat B2 hsz;unfold pgV pgC at *;go_enter Tryz.func103,Tryz.ntmps103
 go_wp2_with fail
 refine cL.mono ?_;rintro e w1 ⟨r,rfl,h1,b1⟩;have B3:=HB2.out.trans (b1.mono HB2.out.size);have a0:=HAT.out.below b1 HSZ.out;have a1:=a0.set 2 (.slice none 0 0) (by simp);have a2:=a1.set 3 (.slice none 0 0) (by simp);have s0:=a0.2.2 2 _ rfl;have f0:=a0.2.1 2;have s1:=a1.2.2 3 _ rfl;have f1:=a1.2.1 3;have c0:=a2.2.2 0 _ rfl;have c1:=a2.2.2 1 _ rfl;have c2:=a2.2.2 2 _ rfl;have c3:=a2.2.2 3 _ rfl;have c4:=a2.2.2 4 _ rfl
 have c5:=a2.2.2 5 _ rfl;have c6:=a2.2.2 6 _ rfl;have c7:=a2.2.2 7 _ rfl;have c8:=a2.2.2 8 _ rfl;have c9:=a2.2.2 9 _ rfl;have c10:=a2.2.2 10 _ rfl;have H1:=hid h1;have HB3:=hid B3;clear a0 a1 a2 b1 B3 h1 cL HAT HB2 HSZ;have HB4:Hid (Below w.heap.size w (((w1.setCell ⟨w.heap.size+1,2,none⟩ (.slice none 0 0)).setCell ⟨w.heap.size+1,3,none⟩ (.slice none 0 0)))):=hid (((HB3.out.setCell (p:=⟨w.heap.size+1,2,none⟩) (Nat.le_succ _) (.slice none 0 0)).setCell (p:=⟨w.heap.size+1,3,none⟩) (Nat.le_succ _) (.slice none 0 0)))
 rcases r with _ | _
 ·go_wp2_with fail
  go_ret
  exact ⟨_,rfl,.inr ⟨rfl,fun h=>by cases (H1.out.2 (HF.out.1 h).1)⟩,HB4.out⟩
 go_wp2_with fail
 refine (h3o _ _ _ _ _ _ _ _ _ _ _ _ _ _ _ _ _ _ _ _).mono ?_;rintro e w2 ⟨r,rfl,h2,b2⟩;have HB5:=hid (HB4.out.trans (b2.mono HB4.out.size));have H2:=hid h2;clear h2 b2 c0 c1 c2 c3 c4 c5 c6 c7 c8 c9 c10;rcases r with _ | _
 ·go_wp2_with fail
  go_ret
  exact ⟨_,rfl,.inr ⟨rfl,fun h=>by
   have g:=(HF.out.1 h).2;cases (H2.out.2 (by simpa [g7w] using g))⟩,HB5.out⟩
 go_wp2_with fail
 go_ret
 exact ⟨_,rfl,.inl ⟨rfl,HF.out.2 ⟨H1.out.1 trivial,by simpa [g7w] using H2.out.1 trivial⟩⟩,HB5.out⟩
theorem p3d (p:Pg) (a:Lay) (w:World) (hk:p.kind=3) (hok:PgOk p) (hR:g0c w p a):Calls Tryz.prog 103 #[pgV p a] w (h7k p w):=by
 have k1:(p.kind==1)=false:=by rw [hk];rfl
 have k2:(p.kind==2)=false:=by rw [hk];rfl
 have k3:(p.kind==3)=true:=by rw [hk];rfl
 have k4:(p.kind==4)=false:=by rw [hk];rfl
 have HF:=hid (p2x hk);have B1:Below w.heap.size w (w.alloc (.cells (pgC p a) 103)):=(Below.refl _ _).alloc (Nat.le_refl _) _;have B2:Below w.heap.size w ((w.alloc (.cells (pgC p a) 103)).alloc (.cells (pgC p a) 103)):=B1.alloc B1.size _;have HRR:=hR.below B2;have hat:At ((w.alloc (.cells (pgC p a) 103)).alloc (.cells (pgC p a) 103)) (w.heap.size+1) (pgC p a):=At.of_block (by
  have:=heap_alloc_last (w.alloc (.cells (pgC p a) 103)) (.cells (pgC p a) 103);rw [show (w.alloc (.cells (pgC p a) 103)).heap.size=w.heap.size+1 by simp] at this;exact this)
 have hsz:w.heap.size+1<((w.alloc (.cells (pgC p a) 103)).alloc (.cells (pgC p a) 103)).heap.size:=by simp
 have cL:=k9o p a _ hok HRR.r4;clear hk hR hok B1 HRR;have HAT:=hid hat;have HB2:=hid B2;have HSZ:=hid hsz;clear hat B2 hsz;unfold pgV pgC at *;go_enter Tryz.func103,Tryz.ntmps103
 go_wp2_with fail
 refine cL.mono ?_;rintro e w1 ⟨r,rfl,h1,b1⟩;have B3:=HB2.out.trans (b1.mono HB2.out.size);have a0:=HAT.out.below b1 HSZ.out;have a1:=a0.set 4 (.slice none 0 0) (by simp);have a2:=a1.set 5 (.int .i64 0) (by simp);have s0:=a0.2.2 4 _ rfl;have f0:=a0.2.1 4;have s1:=a1.2.2 5 _ rfl;have f1:=a1.2.1 5;have c0:=a2.2.2 0 _ rfl;have c1:=a2.2.2 1 _ rfl;have c2:=a2.2.2 2 _ rfl;have c3:=a2.2.2 3 _ rfl;have c4:=a2.2.2 4 _ rfl
 have c5:=a2.2.2 5 _ rfl;have c6:=a2.2.2 6 _ rfl;have c7:=a2.2.2 7 _ rfl;have c8:=a2.2.2 8 _ rfl;have c9:=a2.2.2 9 _ rfl;have c10:=a2.2.2 10 _ rfl;have H1:=hid h1;have HB3:=hid B3;clear a0 a1 a2 b1 B3 h1 cL HAT HB2 HSZ;have HB4:Hid (Below w.heap.size w (((w1.setCell ⟨w.heap.size+1,4,none⟩ (.slice none 0 0)).setCell ⟨w.heap.size+1,5,none⟩ (.int .i64 0)))):=hid (((HB3.out.setCell (p:=⟨w.heap.size+1,4,none⟩) (Nat.le_succ _) (.slice none 0 0)).setCell (p:=⟨w.heap.size+1,5,none⟩) (Nat.le_succ _) (.int .i64 0)))
 rcases r with _ | _
 ·go_wp2_with fail
  go_ret
  exact ⟨_,rfl,.inr ⟨rfl,fun h=>by cases (H1.out.2 (HF.out.1 h).1)⟩,HB4.out⟩
 go_wp2_with fail
 refine (h3o _ _ _ _ _ _ _ _ _ _ _ _ _ _ _ _ _ _ _ _).mono ?_;rintro e w2 ⟨r,rfl,h2,b2⟩;have HB5:=hid (HB4.out.trans (b2.mono HB4.out.size));have H2:=hid h2;clear h2 b2 c0 c1 c2 c3 c4 c5 c6 c7 c8 c9 c10;rcases r with _ | _
 ·go_wp2_with fail
  go_ret
  exact ⟨_,rfl,.inr ⟨rfl,fun h=>by
   have g:=(HF.out.1 h).2;cases (H2.out.2 (by simpa [g7w] using g))⟩,HB5.out⟩
 go_wp2_with fail
 go_ret
 exact ⟨_,rfl,.inl ⟨rfl,HF.out.2 ⟨H1.out.1 trivial,by simpa [g7w] using H2.out.1 trivial⟩⟩,HB5.out⟩
theorem p3i (p:Pg) (a:Lay) (w:World) (hk:p.kind=4):Calls Tryz.prog 103 #[pgV p a] w (h7k p w):=by
 have k1:(p.kind==1)=false:=by rw [hk];rfl
 have k2:(p.kind==2)=false:=by rw [hk];rfl
 have k3:(p.kind==3)=false:=by rw [hk];rfl
 have k4:(p.kind==4)=true:=by rw [hk];rfl
 have HF:=hid (p3n hk);obtain ⟨C,hC⟩:∃ C,rawC p.kind a.A1 p.pairs.length a.c1 a.A2 p.keys.length a.c2 a.A3 p.kids.length a.c3 a.A4 p.pages.length a.c4 0 0 0 0 0 0=C:=⟨_,rfl⟩;have B1:Below w.heap.size w (w.alloc (.cells (pgC p a) 103)):=(Below.refl _ _).alloc (Nat.le_refl _) _;have B2:Below w.heap.size w ((w.alloc (.cells (pgC p a) 103)).alloc (.cells C 103)):=B1.alloc B1.size _;have hat:At ((w.alloc (.cells (pgC p a) 103)).alloc (.cells C 103)) (w.heap.size+1) C:=At.of_block (by
  have:=heap_alloc_last (w.alloc (.cells (pgC p a) 103)) (.cells C 103);rw [show (w.alloc (.cells (pgC p a) 103)).heap.size=w.heap.size+1 by simp] at this;exact this)
 have hsz:w.heap.size+1<((w.alloc (.cells (pgC p a) 103)).alloc (.cells C 103)).heap.size:=by simp
 subst hC;have cL:=h3u p a;clear hk B1;have HAT:=hid hat;have HB2:=hid B2;have HSZ:=hid hsz;clear hat B2 hsz;unfold pgV pgC at *;go_enter Tryz.func103,Tryz.ntmps103
 go_wp2_with fail
 refine (cL _).mono ?_;rintro e w1 ⟨r,rfl,h1,b1⟩;have B3:=HB2.out.trans (b1.mono HB2.out.size);have a0:=HAT.out.below b1 HSZ.out;have c0:=a0.2.2 0 _ rfl;have c1:=a0.2.2 1 _ rfl;have c2:=a0.2.2 2 _ rfl;have c3:=a0.2.2 3 _ rfl;have c4:=a0.2.2 4 _ rfl;have c5:=a0.2.2 5 _ rfl;have c6:=a0.2.2 6 _ rfl;have c7:=a0.2.2 7 _ rfl;have c8:=a0.2.2 8 _ rfl;have c9:=a0.2.2 9 _ rfl;have c10:=a0.2.2 10 _ rfl;have H1:=hid h1
 have HB4:=hid B3;clear a0 b1 B3 h1 cL HAT HB2 HSZ;rcases r with _ | _
 ·go_wp2_with fail
  go_ret
  exact ⟨_,rfl,.inr ⟨rfl,fun h=>by cases (H1.out.2 (HF.out.1 h).1)⟩,HB4.out⟩
 go_wp2_with fail
 refine (h3o p.kind _ _ _ _ _ _ _ _ _ _ _ _ 0 0 0 0 0 0 _).mono ?_;rintro e w2 ⟨r,rfl,h2,b2⟩;have HB5:=hid (HB4.out.trans (b2.mono HB4.out.size));have H2:=hid h2;clear h2 b2 c0 c1 c2 c3 c4 c5 c6 c7 c8 c9 c10;rcases r with _ | _
 ·go_wp2_with fail
  go_ret
  exact ⟨_,rfl,.inr ⟨rfl,fun h=>by
   have g:=(HF.out.1 h).2;cases (H2.out.2 (by simpa using g))⟩,HB5.out⟩
 go_wp2_with fail
 go_ret
 exact ⟨_,rfl,.inl ⟨rfl,HF.out.2 ⟨H1.out.1 trivial,by simpa using H2.out.1 trivial⟩⟩,HB5.out⟩
theorem p2o (p:Pg) (a:Lay) (w:World) (h1:p.kind≠1) (h2:p.kind≠2) (h3:p.kind≠3) (h4:p.kind≠4):Calls Tryz.prog 103 #[pgV p a] w (h7k p w):=by
 have k1:(p.kind==1)=false:=beq_eq_false_iff_ne.2 h1;have k2:(p.kind==2)=false:=beq_eq_false_iff_ne.2 h2;have k3:(p.kind==3)=false:=beq_eq_false_iff_ne.2 h3;have k4:(p.kind==4)=false:=beq_eq_false_iff_ne.2 h4;have HF:Hid (¬ Fine p):=hid (by unfold Fine;simp [h1,h2,h3,h4]);have B1:Below w.heap.size w (w.alloc (.cells (pgC p a) 103)):=(Below.refl _ _).alloc (Nat.le_refl _) _;have HB:=hid (B1.alloc B1.size (.cells (pgC p a) 103))
 clear h1 h2 h3 h4 B1;unfold pgV pgC at *;go_enter Tryz.func103,Tryz.ntmps103
 go_wp2_with fail
 go_ret
 exact ⟨_,rfl,.inr ⟨rfl,HF.out⟩,HB.out⟩
theorem h1g (p:Pg) (a:Lay) (w:World) (hok:PgOk p) (hR:g0c w p a):Calls Tryz.prog 103 #[pgV p a] w (h7k p w):=by
 by_cases h1:p.kind=1
 ·exact p3r p a w h1 hR
 by_cases h2:p.kind=2
 ·exact p3q p a w h2 hok hR
 by_cases h3:p.kind=3
 ·exact p3d p a w h3 hok hR
 by_cases h4:p.kind=4
 ·exact p3i p a w h4
 exact p2o p a w h1 h2 h3 h4
structure BytesAt (w:World) (A:Option Addr) (n c:Nat) (l:Bs):Prop where
 len:l.length=n
 cap:n<=c
 max:c<=maxLen
 nil:A=none->c=0
 row:BRow w A l
theorem BytesAt.below {w w':World} {A:Option Addr} {n c:Nat} {l:Bs} (h:BytesAt w A n c l) (hb:Below w.heap.size w w'):BytesAt w' A n c l:=⟨h.len,h.cap,h.max,h.nil,RowG.below h.row hb⟩
def Lays (l:Bs) (w:World) (e:Ending) (w':World):Prop:=∃ A n c,e=.returned (.slice A n c)/\BytesAt w' A n c l/\Below w.heap.size w w'/\∀ a,A=some a->w.heap.size<=a.block
theorem k0i:Elem Tryz.prog 181 5 g4v :=
 ⟨Tryz.underlying181,⟨_,_,1,rfl,rfl,rfl,rfl,rfl,by omega⟩,fun _=>rfl⟩
theorem k3x {w:World} {B:Nat} {v:Value} {l:Bs} (h:OwnG w 5 g4v B v l):∃ A n c,v=.slice A n c/\BytesAt w A n c l/\∀ a,A=some a->B<=a.block:=by
 have h0:=h;obtain ⟨A,c,e,h1,h2,h3,h4⟩:=OwnG.row h;refine ⟨A,l.length,c,e,⟨rfl,h2,h3,h1,h4⟩,fun a ha=>?_⟩;subst ha;rw [e] at h0;exact (World.ownsRow.lt h0 a.block rfl).1
abbrev Part:=Option Addr×Nat×Bs
abbrev encS (x:Part):Value:=.slice x.1 x.2.2.length x.2.1
def g1z (w:World) (xs:List Part):Prop:=∀ x∈xs,(x.1=none->x.2.1=0)/\BRow w x.1 x.2.2
def g0t (xs:List Part):Bs:=xs.flatMap (·.2.2)
theorem g7g {xs:List Part} {k:Nat} (h:k<xs.length):g0t (xs.take (k+1))=g0t (xs.take k)++xs[k].2.2:=by
 rw [g0t,List.take_succ_eq_append_getElem h,List.flatMap_append];simp [g0t]
theorem g7r (xs:List Part) (k:Nat):(g0t (xs.take k)).length<=(g0t xs).length:=by
 have:g0t xs=g0t (xs.take k)++g0t (xs.drop k):=by rw [g0t,g0t,g0t,<- List.flatMap_append,List.take_append_drop]
 rw [this,List.length_append];omega
theorem g1h (A:Option Addr) (n c:Nat) (xs:List Part) (w:World) (hl:xs.length=n) (hn:n<=1000000) (hR:RowG w encS A xs) (hP:g1z w xs) (hb:(g0t xs).length<=1000000000) :
 Calls Tryz.prog 260 #[.slice A n c] w (Lays (g0t xs) w):=by
 have HR:=hid hR;have HL:=hid hl;have HP:=hid hP;have HT:=hid (g7r xs);have HB:=hid hb;clear hR hl hP hb;go_enter Tryz.func260,Tryz.ntmps260
 go_wp2_with fail
 go_loopw [3,8] (fun v i wr=>∃ k:Nat,i=.int .i64 k/\k<=n/\OwnG wr 5 g4v w.heap.size v (g0t (xs.take k))/\Below w.heap.size w wr/\w.heap.size<=wr.heap.size) (fun _ i _=>n-(intOf i).toNat)
 case atStart=>exact ⟨0,rfl,Nat.zero_le _,OwnG.nil _ _ _ _,Below.refl _ _,Nat.le_refl _⟩
 case round =>
  obtain ⟨k,rfl,hk,ho,hb,hB⟩:=hrel
  by_cases hlt:k<n
  ·have hkl:k<xs.length:=by have:=HL.out;omega
   obtain ⟨b,off,rfl,hlb,hc⟩:=HR.out (by intro e;subst e;simp at hkl);have hck:=hc k hkl;rw [<- hb.cell (p:=⟨b,off+k,none⟩) hlb] at hck;have hin:=HP.out _ (List.getElem_mem hkl);have hle:=HT.out (k+1);rw [g7g hkl,List.length_append] at hle;have hrow:=RowG.below hin.2 hb;obtain ⟨v',W',hrun,ho',hg,_⟩:=g1x k0i wr w.heap.size _ _ ho xs[k].1 xs[k].2.2.length xs[k].2.1 xs[k].2.2 rfl hin.1 hrow (by have:=HB.out;omega) hB
   have hb':=below_grown hb ho hg hB;have hB':=Nat.le_trans hB hg.size;rw [<- g7g hkl] at ho';have hck2:wr.cell? ⟨b,off+k,none⟩=some (.slice xs[k].1 xs[k].2.2.length xs[k].2.1):=hck;have R1:=hid hrun;clear hck hrun;generalize hx1:xs[k].1=x1 at hck2 R1;generalize hx2:xs[k].2.2.length=x2 at hck2 R1;generalize hx3:xs[k].2.1=x3 at hck2 R1;have HO':=hid ho';have HB':=hid hb';clear hx1 hx2 hx3 ho' hb' hg ho hb hc hin hle hrow
   go_wp2_with (at_builtin;(refine g0e rfl (.tmp 12) (.tmp 13) _ rfl rfl rfl R1.out ?_;clear R1))
   go_roundw
   case rel=>exact ⟨k+1,by go_num,by omega,HO'.out,HB'.out,hB'⟩
   case measure=>simp [intOf];omega
  ·rw [List.take_of_length_le (by have:=HL.out;omega)] at ho;obtain ⟨A2,n2,c2,rfl,hba,hfr⟩:=k3x ho;have HO:=hid hba;have HFR:=hid hfr;have HBB:=hid hb;clear ho hba hb hfr;go_wp2_with fail
   go_ret
   exact ⟨_,_,_,rfl,HO.out,HBB.out,HFR.out⟩
def be:Nat->Nat->Bs
 | 0,_=>[]
 | k+1,n=>UInt8.ofNat (n / 256 ^ k) :: be k n
theorem g3g:∀ k n,(be k n).length=k
 | 0,_=>rfl
 | k+1,n=>by rw [be,List.length_cons,g3g k n]
def rowC (l:Bs):Array Value:=(l.map g4v).toArray
theorem j5p {l:Bs} {k:Nat} (h:k<l.length):(rowC l)[k]?=some (g4v l[k]):=by simp [rowC,h]
theorem k9e (l:Bs) (i:Nat) (z:UInt8):(rowC l).setIfInBounds i (g4v z)=rowC (l.set i z):=by
 apply Array.ext';simp [rowC,List.map_set]
theorem j6a (z:UInt8) (L:Bs):∀ m,(List.replicate (m+1) 0++L).set m z=List.replicate m 0++z :: L
 | 0=>rfl
 | m+1=>by
  have:=j6a z L m;rw [List.replicate_succ,List.cons_append,List.set_cons_succ,this,List.replicate_succ (n:=m),List.cons_append]
theorem j9e (n:Nat):madeCells #[Value.int .u8 0] n=rowC (List.replicate n 0):=by
 apply Array.ext
 ·simp [madeCells,rowC]
 ·intro i h1 h2;simp [madeCells,rowC,Nat.mod_one]
theorem k4p:(Tryz.prog.info? 5).map (fun i=>(i.zero,i.size,i.bytes))=some (some (.int .u8 0),1,1):=by kernel_rfl
theorem h8l (n:Nat) (hn:n<=1000000) (w:World):(Instr.makeSlice 181 (.int .i64 (n:Int)) (.int .i64 (n:Int))).run Tryz.prog w=.ok (.slice (some ⟨w.heap.size,0,none⟩) n n) (w.alloc (.cells (rowC (List.replicate n 0)) 5)):=by
 rw [run_make_row' _ _ _ _ Tryz.underlying181 k4p rfl .i64 .i64 n (by omega) (by omega) w,j9e]
theorem k2v {w:World} {b:Nat} {l:Bs} (h:At w b (rowC l)):BRow w (some ⟨b,0,none⟩) l:=fun _ =>
 ⟨b,0,rfl,h.1,fun k hk=>by rw [Nat.zero_add];exact h.2.2 k _ (j5p hk)⟩
theorem p0r (y:Nat):IntKind.u8.wrap (y:Int)=((UInt8.ofNat y).toNat:Int):=by
 rw [UInt8.toNat_ofNat'];simp [IntKind.wrap,IntKind.bits,IntKind.signed]
theorem g6t (k n:Nat) (w:World) (hk:k<=8) (hn:n<18446744073709551616):Calls Tryz.prog 258 #[.int .i64 (k:Int),.int .u64 (n:Int)] w (Lays (be k n) w):=by
 have hmk:=h8l k (by omega) w;have hat:At (w.alloc (.cells (rowC (List.replicate k 0)) 5)) w.heap.size (rowC (List.replicate k 0)):=At.of_block (heap_alloc_last w _);have HAT:=hid hat;have HB1:=hid ((Below.refl w.heap.size w).alloc (Nat.le_refl _) (.cells (rowC (List.replicate k 0)) 5));clear hat;have hu:IntKind.u64.signed=false:=rfl;go_enter Tryz.func258,Tryz.ntmps258
 go_wp2_with fail
 clear hmk;go_loopw [1,11] (fun x i wr=>∃ j y:Nat,i=.int .i64 j/\x=.int .u64 y/\j<=k/\y<18446744073709551616/\Hid (y=n / 256 ^ j)/\At wr w.heap.size (rowC (List.replicate (k-j) 0++be j n))/\Below w.heap.size w wr) (fun _ i _=>k-(intOf i).toNat)
 case atStart=>exact ⟨0,n,rfl,rfl,Nat.zero_le _,hn,hid (by simp),by simpa [be] using HAT.out,HB1.out⟩
 case round =>
  obtain ⟨j,y,rfl,rfl,hj,hy,hQ,hat,hb⟩:=hrel
  by_cases hlt:j<k
  ·have e1:(k:Int)-1-(j:Int)=((k-1-j:Nat):Int):=by omega
   have e2:=p0r y;have hlen:k-1-j<(List.replicate (k-j) (0:UInt8)++be j n).length:=by rw [List.length_append,List.length_replicate,g3g];omega
   obtain ⟨z0,hc⟩:∃ z0,wr.cell? ⟨w.heap.size,k-1-j,none⟩=some z0:=⟨_,hat.2.2 (k-1-j) _ (j5p hlen)⟩;have hf:=hat.2.1 (k-1-j);have hset:=hat.set (k-1-j) (g4v (UInt8.ofNat y)) (by simpa [rowC] using hlen);rw [k9e,show k-j=(k-1-j)+1 by omega,j6a] at hset;have HS:Hid (At (wr.setCell ⟨w.heap.size,k-1-j,none⟩ (g4v (UInt8.ofNat y))) w.heap.size (rowC (List.replicate (k-(j+1)) 0++be (j+1) n))):=hid (by
    rw [be,<- hQ.out,show k-(j+1)=k-1-j by omega];exact hset)
   have HB2:=hid (hb.setCell (p:=⟨w.heap.size,k-1-j,none⟩) (Nat.le_refl _) (g4v (UInt8.ofNat y)));have HQ2:Hid (y / 256=n / 256 ^ (j+1)):=hid (by rw [hQ.out,Nat.div_div_eq_div_mul,Nat.pow_succ]);have b1:k-1-j<k:=by omega
   generalize k-1-j=m at *;generalize UInt8.ofNat y=z at *;clear hset hat hb hQ hlen;go_wp2_with fail
   go_roundw
   case rel=>exact ⟨j+1,y / 256,by go_num,by go_num,by omega,by omega,HQ2,HS.out,HB2.out⟩
   case measure=>simp [intOf];omega
  ·obtain rfl:j=k:=by omega
   have HO:=hid (k2v (by simpa using hat));have HBB:=hid hb;clear hat hb hQ;go_wp2_with fail
   go_ret
   exact ⟨_,_,_,rfl,⟨g3g _ _,Nat.le_refl _,by simp only [maxLen];omega,(fun h=>by cases h),HO.out⟩,HBB.out,fun a ha=>by cases ha;exact Nat.le_refl _⟩
end Go.Proofs.YtglejnkoojpelaaGreat.Page
