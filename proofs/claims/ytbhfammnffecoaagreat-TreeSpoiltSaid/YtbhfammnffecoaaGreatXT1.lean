import Derived.Test.YtbhfammnffecoaaGreatMT13
import Derived.Laws.BitsAllLaws
set_option maxRecDepth 100000
set_option maxHeartbeats 32000000
namespace Go.Proofs.YtbhfammnffecoaaGreat.Crc
open Lib (hid)
theorem sh_none {a:Nat} (h:a<18446744073709551616) (e:sh a=0):a=0:=by
 unfold sh at e
 split at e
 ·have h1:a / 2=poly:=by
   have:=congrArg (· ^^^ poly) e;simp only [Nat.xor_assoc,Nat.xor_self,Nat.xor_zero,Nat.zero_xor] at this;exact this
  unfold poly at h1;omega
 ·omega
theorem xor_none {a b:Nat} (e:a ^^^ b=0):a=b:=by
 have:=congrArg (· ^^^ b) e
 simpa only [Nat.xor_assoc,Nat.xor_self,Nat.xor_zero,Nat.zero_xor] using this
theorem sh_inj {a b:Nat} (ha:a<18446744073709551616) (hb:b<18446744073709551616) (e:sh a=sh b):a=b :=
 xor_none (sh_none (xor_lt ha hb) (by rw [sh_xor,e,Nat.xor_self]))
theorem sh4_inj {a b:Nat} (ha:a<18446744073709551616) (hb:b<18446744073709551616) (e:sh4 a=sh4 b):a=b :=
 sh_inj ha hb (sh_inj (sh_lt ha) (sh_lt hb) (sh_inj (sh_lt (sh_lt ha)) (sh_lt (sh_lt hb)) (sh_inj (sh_lt (sh_lt (sh_lt ha))) (sh_lt (sh_lt (sh_lt hb))) e)))
theorem sh8_inj {a b:Nat} (ha:a<18446744073709551616) (hb:b<18446744073709551616) (e:sh8 a=sh8 b):a=b :=
 sh4_inj ha hb (sh4_inj (sh4_lt ha) (sh4_lt hb) e)
theorem xor_cancel {a b c:Nat} (e:a ^^^ c=b ^^^ c):a=b:=by
 have:=congrArg (· ^^^ c) e
 simpa only [Nat.xor_assoc,Nat.xor_self,Nat.xor_zero] using this
theorem xor_cancel' {a b c:Nat} (e:c ^^^ a=c ^^^ b):a=b:=xor_cancel (by rw [Nat.xor_comm a c,Nat.xor_comm b c];exact e)
theorem raw_inj:∀ (l:List UInt8) {a b:Nat},a<18446744073709551616->b<18446744073709551616->raw a l=raw b l->a=b
 | [],_,_,_,_,e=>e
 | x :: l,_,_,ha,hb,e=>xor_cancel (sh8_inj (xor_lt ha (byte_lt x)) (xor_lt hb (byte_lt x)) (raw_inj l (sh8_lt (xor_lt ha (byte_lt x))) (sh8_lt (xor_lt hb (byte_lt x))) e))
theorem inv_inj {a b:Nat} (e:inv a=inv b):a=b:=xor_cancel e
theorem raw_append:∀ (a b:List UInt8) (n:Nat),raw n (a++b)=raw (raw n a) b
 | [],_,_=>rfl
 | _ :: a,b,_=>raw_append a b _
theorem raw_turns (p q:List UInt8) (x y:UInt8) {n:Nat} (h:n<18446744073709551616):raw n (p++x :: q)=raw n (p++y :: q)↔x=y:=by
 constructor
 ·intro e;rw [raw_append,raw_append] at e;have h1:=raw_lt p h;have:=xor_cancel' (sh8_inj (xor_lt h1 (byte_lt x)) (xor_lt h1 (byte_lt y)) (raw_inj q (sh8_lt (xor_lt h1 (byte_lt x))) (sh8_lt (xor_lt h1 (byte_lt y))) e));exact UInt8.toNat_inj.1 this
 ·intro e;rw [e]
theorem more_turns (p q:List UInt8) (x y:UInt8) {s:Nat} (h:s<18446744073709551616):more s (p++x :: q)=more s (p++y :: q)↔x=y :=
 ⟨fun e=>(raw_turns p q x y (inv_lt h)).1 (inv_inj e),fun e=>by rw [e]⟩
end Go.Proofs.YtbhfammnffecoaaGreat.Crc
namespace Go.Proofs.YtbhfammnffecoaaGreat.Store
open Go.RowKit Gen
open Disk (St Dev Mod ptr)
open Page (Pg Lay PgOk PgRows pgC pgV Enc IsDec BytesAt)
open Pool (Po NAt PoAt La poC poV numV At takeP giveP backP Fresh PoolOk OwnI)
open Lib (hid)
theorem device_any {w:World} {B:Blk} {d:St} {t:T} {a:Lys} (h:Sto w B d t a):Calls Tryz.prog 20 #[ptr B.ss] w fun e w'=>e=.returned (ptr B.sb)/\w=w':=by
 have c0:=h.cells.1;clear h;go_enter Tryz.func20,Tryz.ntmps20
 go_wp2_with fail
 go_ret
 exact ⟨rfl,rfl⟩
end Go.Proofs.YtbhfammnffecoaaGreat.Store
namespace Go.Proofs.YtbhfammnffecoaaGreat.Page
open Go.RowKit Gen
open Lib (hid)
theorem twin_turn {l:Bs} {i:Nat} {x y:UInt8} (h:Twin l) (hx:l[i]?=some x) (g:Twin (l.set i y)):x=y:=by
 have hi:i<l.length:=(List.getElem?_eq_some_iff.1 hx).1;have hl:=h.len;have same:(l.set i y)[i]?=some y:=by rw [List.getElem?_set,if_pos rfl,if_pos hi]
 have other:∀ j,j≠i->(l.set i y)[j]?=l[j]?:=fun j hj=>by rw [List.getElem?_set,if_neg (fun e=>hj e.symm)]
 by_cases c1:i<8
 ·have e:=g.lead i c1;rw [same,other _ (by omega),<- h.lead i c1,hx] at e;exact (Option.some.inj e).symm
 by_cases c2:i<504
 ·have e:=g.half (i-8) (by omega);have e':=h.half (i-8) (by omega);rw [show 8+(i-8)=i by omega] at e e';rw [same,other _ (by omega),<- e',hx] at e;exact (Option.some.inj e).symm
 by_cases c3:i<512
 ·have e:=g.gap (i-504) (by omega);have e':=h.gap (i-504) (by omega);rw [show 504+(i-504)=i by omega] at e e';rw [same] at e;rw [hx] at e';rw [Option.some.inj e,Option.some.inj e']
 by_cases c4:i<1008
 ·have e:=g.half (i-512) (by omega);have e':=h.half (i-512) (by omega);rw [show 512+(i-512)=i by omega] at e e';rw [same,other _ (by omega),e',hx] at e;exact Option.some.inj e
 by_cases c5:i<1016
 ·have e:=g.gap2 (i-1008) (by omega);have e':=h.gap2 (i-1008) (by omega);rw [show 1008+(i-1008)=i by omega] at e e';rw [same] at e;rw [hx] at e';rw [Option.some.inj e,Option.some.inj e']
 ·have e:=g.lead (i-1016) (by omega);have e':=h.lead (i-1016) (by omega);rw [show 1016+(i-1016)=i by omega] at e e';rw [same,other _ (by omega),e',hx] at e;exact Option.some.inj e
theorem summed_turn {L M:Bs} (hL:L.length<=1016) (hM:M.length<=1016) {i:Nat} {x y:UInt8} (hx:(summedBs L)[i]?=some x) (h:(summedBs L).set i y=summedBs M):x=y:=by
 have hP:=pad_len hL;have hQ:=pad_len hM;unfold summedBs at hx h;have mP:=Crc.more_lt (padTo 1016 L) (s:=0) (by omega);have mQ:=Crc.more_lt (padTo 1016 M) (s:=0) (by omega);generalize padTo 1016 L=P at *;generalize padTo 1016 M=Q at *
 by_cases hi:i<1016
 ·rw [List.set_append_left _ _ (by omega)] at h;obtain ⟨h1,h2⟩:=List.append_inj h (by rw [List.length_set];omega);have h3:=be_inj h2 (by omega) (by omega);rw [List.getElem?_append_left (by omega)] at hx;obtain ⟨hi',hx'⟩:=List.getElem?_eq_some_iff.1 hx;have e1:P.set i y=P.take i++y :: P.drop (i+1):=List.set_eq_take_append_cons_drop ▸ by rw [if_pos hi']
  have e2:P=P.take i++x :: P.drop (i+1):=by rw [<- hx',<- List.drop_eq_getElem_cons hi',List.take_append_drop]
  rw [<- h1,e1] at h3;rw [e2] at h3;have h4:=h3;rw [<- e2] at h4;exact (Crc.more_turns (P.take i) (P.drop (i+1)) x y (s:=0) (by omega)).1 (by rw [<- e2];exact h4)
 ·rw [List.set_append_right _ _ (by omega)] at h;obtain ⟨h1,h2⟩:=List.append_inj h (by omega);rw [List.getElem?_append_right (by omega),hP] at hx;rw [hP,<- h1] at h2;have h3:=congrArg (fun l:Bs=>l[i-1016]?) h2;simp only [List.getElem?_set_self (List.getElem?_eq_some_iff.1 hx).1,hx] at h3;exact (Option.some.inj h3).symm
theorem enc_turn {s:Int} {p q:Pg} {l:Bs} {i:Nat} {x y:UInt8} (h:Enc s p l) (hx:l[i]?=some x) (g:Enc s q (l.set i y)):x=y:=by
 obtain ⟨hf,⟨a1,a2,rfl⟩ | ⟨a1,a2,rfl⟩⟩:=h
 ·obtain ⟨gf,⟨b1,b2,b3⟩ | ⟨b1,b2,b3⟩⟩:=g
  ·refine twin_turn (twin_doubled _ (by rw [page_len4 a1];omega)) hx ?_;rw [b3];exact twin_doubled _ (by rw [page_len4 b1];omega)
  ·unfold Place at b2;omega
 ·obtain ⟨gf,⟨b1,b2,b3⟩ | ⟨b1,b2,b3⟩⟩:=g
  ·unfold Place at a2;omega
  ·exact summed_turn (page_len hf) (page_len gf) hx b3
end Go.Proofs.YtbhfammnffecoaaGreat.Page
namespace Go.Proofs.YtbhfammnffecoaaGreat.Store
open Go.RowKit Gen
open Disk (St Dev Mod ptr)
open Page (Pg Lay PgOk PgRows pgC pgV Enc IsDec BytesAt)
open Pool (Po NAt PoAt La poC poV numV At takeP giveP backP Fresh PoolOk OwnI chunks layAll May)
open Lib (hid)
theorem Step.abort {d d1:St} {t t1:T} (s:Step d t d1 t1) (h:Pre d t):Step d t d1 (abortT t1):=s.pool (abort_part t1) s.inv.abort (by show PoolOk t1.base d.n;rw [s.part.base];exact h.bk)
end Go.Proofs.YtbhfammnffecoaaGreat.Store
namespace Go.Proofs.YtbhfammnffecoaaGreat.Tree
open Go.RowKit Gen
open Disk (St Dev Mod ptr)
open Page (Pg Lay less Enc IsDec Lt Rises KeyOk Fine FreeOk SuperOk)
open Pool (Po takeP giveP backP PoolOk chunks layAll May Rise)
open Store
open Lib (hid)
theorem Kept.back {d d':St} {t t':T} {r dp c:Int} {es:Ents} (h:Kept d t r dp c es) (hc:Store.Calm d') (s:Step d t d' t'):Good d' (abortT t') r dp c es ((es.length+2) / 2)/\Kept d' (abortT t') r dp c es:=by
 obtain ⟨ps,ha,hl,hlv,hT⟩:=h.tree;have s1:=s.abort h.safe.pre;have sf:=s1.safe h.safe;have hget:∀ z∈ps,d'.get z=d.get z:=fun z hz=>by
  have h1:=sf.get (x:=z) (.inr (.inr (by rw [s1.part.base];exact hlv z hz)));have h2:=h.safe.get (x:=z) (.inr (.inr (hlv z hz)));rw [h1,h2,s.L z (.inr (.inr (hlv z hz)))]
 have hT':(dp=0/\r=0/\es=[]/\ps=[])\/∃ m:Nat,dp=((m+1:Nat):Int)/\IsT d' (m+1) r (es,ps):=hT.imp id (fun ⟨m,e,h'⟩=>⟨m,e,h'.keep h.calm hc s.n hget⟩);have ha':Acct (abortT t') ps:=by
  obtain ⟨a1,a2,a3,a4⟩:=ha;have e1:(abortT t').pool=t.base:=s.part.base;have e2:(abortT t').own=t.own:=s.part.own;exact ⟨fun x hx=>by rw [e1];exact a1 x hx,fun x hx=>by rw [e1];rw [e2] at hx;exact a2 x hx,by rw [e2];exact a3,by rw [e1,e2];exact a4⟩
 have bk:Book (abortT t') ps ((es.length+2) / 2):=⟨ha',by
  have e:coldOf (abortT t') ps=ps.length:=by
   unfold coldOf
   congr 1
   exact List.filter_eq_self.2 (fun _ _=>rfl)
  have e1:(abortT t').pool=t.base:=s.part.base;rw [e,e1,h.limbo];simp only [List.length_nil];omega⟩
 refine ⟨⟨sf.pre,hc,?_,h.cnt⟩,⟨sf,hc,⟨ps,ha',hl,fun z hz=>?_,hT'⟩,h.cnt,?_,?_⟩⟩
 ·rcases hT' with ⟨e1,e2,e3,e4⟩ | ⟨m,e1,e2⟩
  ·exact .inl ⟨e1,e2,e3,by rw [e4] at bk;exact bk⟩
  ·exact .inr ⟨m,ps,e1,e2,bk⟩
 ·have e:(abortT t').base=t.base:=s.part.base;rw [e];exact hlv z hz
 ·have e:(abortT t').base=t.base:=s.part.base;rw [e];exact h.limbo
 ·have e:(abortT t').sup=t.sup:=s.part.sup;rw [e];exact h.sup
end Go.Proofs.YtbhfammnffecoaaGreat.Tree
namespace Go.Proofs.YtbhfammnffecoaaGreat.Disk
open Go.RowKit Go.Maps Gen
open Lib (hid)
theorem xor8 (x y:UInt8):bits .xor .u8 (x.toNat:Int) (y.toNat:Int)=((x ^^^ y).toNat:Int):=by
 rw [u8_xor_nat _ _ x.toNat_lt y.toNat_lt,UInt8.toNat_xor]
def turn (l:Bs) (k:Nat) (y:UInt8):Bs:=l.set k (l.getD k 0 ^^^ y)
theorem secC_set (l:Bs) (k:Nat) (z:UInt8):(secC l).setIfInBounds k (byteV z)=secC (l.set k z):=by
 simp [secC,List.map_set]
theorem set_world (w:World) (l:Bs) (k:Nat) (z:UInt8) (t:TypeId):w.alloc (.cells ((secC l).setIfInBounds k (byteV z)) t)=w.alloc (.cells (secC (l.set k z)) t):=by rw [secC_set]
def St.spoilE (s:St) (n at0:Int):Int:=if s.has n then (if 0<=at0/\at0<1024 then 0 else 1) else 41
def St.spoil (s:St) (n at0:Int) (y:UInt8):St:=if s.spoilE n at0=0 then (match s.C n with
 | some l=>{s with C:=upd s.C n (some (turn l at0.toNat y))}
 | none=>s.lay n (turn ((s.L n).getD zeros) at0.toNat y)) else s
theorem spoil_bad (w:World) (sb bl bc:Nat) (s:St) (n m:Int) (y:UInt8) (h:Dev w sb bl bc s) (hh:s.has n=false):Calls Tryz.prog 28 #[ptr sb,.int .i64 n,.int .i64 m,byteV y] w fun e w'=>e=.returned (.int .i64 41)/\w=w':=by
 have cH:=has_dev w sb bl bc s n h;rw [hh] at cH;clear h hh;go_enter Tryz.func28,Tryz.ntmps28
 go_wp2_with fail
 refine cH.mono ?_;rintro e w' ⟨rfl,rfl⟩;go_wp2_with fail
 go_ret
 exact ⟨rfl,rfl⟩
theorem spoil_at (w:World) (sb bl bc:Nat) (s:St) (n m:Int) (y:UInt8) (h:Dev w sb bl bc s) (hh:s.has n=true) (hm:¬ (0<=m/\m<1024)):Calls Tryz.prog 28 #[ptr sb,.int .i64 n,.int .i64 m,byteV y] w fun e w'=>e=.returned (.int .i64 1)/\w=w':=by
 have cH:=has_dev w sb bl bc s n h;rw [hh] at cH;clear h hh
 by_cases h0:m<0
 ·have b0:decide (m<0)=true:=by simpa using h0
  clear hm;go_enter Tryz.func28,Tryz.ntmps28
  go_wp2_with fail
  refine cH.mono ?_;rintro e w' ⟨rfl,rfl⟩;go_wp2_with fail
  go_ret
  exact ⟨rfl,rfl⟩
 ·have b0:decide (m<0)=false:=by simpa using h0
  have b1:decide (1024<=m)=true:=by simp;omega
  clear hm;go_enter Tryz.func28,Tryz.ntmps28
  go_wp2_with fail
  refine cH.mono ?_;rintro e w' ⟨rfl,rfl⟩;go_wp2_with fail
  go_ret
  exact ⟨rfl,rfl⟩
theorem spoil_cached (w:World) (sb bl bc:Nat) (s:St) (n:Int) (k:Nat) (x y:UInt8) (l:Bs) (h:Dev w sb bl bc s) (hh:s.has n=true) (hk:k<1024) (hc:s.C n=some l) (hx:l.getD k 0=x):Calls Tryz.prog 28 #[ptr sb,.int .i64 n,.int .i64 (k:Int),byteV y] w fun e w' =>
 e=.returned (.int .i64 0)/\Dev w' sb bl bc {s with C:=upd s.C n (some (l.set k (x ^^^ y)))}/\Mod [sb,bl,bc] w w':=by
 have cH:=has_dev w sb bl bc s n h;rw [hh] at cH;have hb:=has_bounds hh;have hle:=h.nle;have hl:=(h.cache.fit n l hc).2.2;have LK:=h.cache.lookup_ok n (by omega) (by omega);rw [hc] at LK;simp only [Option.getD_some,Option.isSome_some] at LK;have LK:=hid LK;have b0:decide ((k:Int)<0)=false:=by simp
 have b1:decide (1024<=(k:Int))=false:=by simp;omega
 have hx8:=xor8 x y;have SS:=hid (store_sec_new w (secC zeros) l hl zeros_size);have ZZ:=hid (zero_sec w);have ck:(w.alloc (.cells (secC l) 89)).cell? ⟨w.heap.size,k,none⟩=some (byteV x):=by
  rw [cell_of_row _ _ _ _ _ _ (heap_alloc_last w _),secC_get l k (by omega),<- hx];simp [List.getD,hl,hk]
 have fk:(w.alloc (.cells (secC l) 89)).frozen? ⟨w.heap.size,k,none⟩=false:=frozen_of_row _ _ _ _ _ (heap_alloc_last w _);have hset:=set_world w l k (x ^^^ y) 89;have hl2:(l.set k (x ^^^ y)).length=1024:=by simp [hl]
 have hD3:=h.alloc (.cells (secC (l.set k (x ^^^ y))) 89);have HR3:Hid (∃ w2,(Instr.mapUpdate 91 (.map (some bc)) (.int .i64 n) (.agg (secC (l.set k (x ^^^ y))))).run Tryz.prog (w.alloc (.cells (secC (l.set k (x ^^^ y))) 89)).drew=.ok () w2/\Dev w2 sb bl bc {s with C:=upd s.C n (some (l.set k (x ^^^ y)))}/\Mod [sb,bl,bc] w w2):=hid <| by
  have h2:=hD3.kept (Mod.refl [] _).drew (by simp) (by simp) (by simp);obtain ⟨w2,hrun,hm,hg2⟩:=h2.cache.store h2.nle n hb.1 hb.2 _ hl2;exact ⟨w2,hrun,h2.withC hg2 hm,((Mod.refl _ _).alloc _).drew.grown hg2 (fun k e=>.inl (by cases e;simp))⟩
 have LD2:=hid (load_sec (w:=(w.alloc (.cells (secC (l.set k (x ^^^ y))) 89)).drew) (b:=w.heap.size) hl2 (heap_alloc_last _ _));obtain ⟨c0,c1,c2,c3,c4,c5⟩:=h.cells;have hc2:(w.alloc (.cells (secC (l.set k (x ^^^ y))) 89)).drew.cell? ⟨sb,2,none⟩=some (.map (some bc)):=hD3.cells.2.2.1;have HC2:=hid hc2;rw [<- hset] at HC2 LD2 HR3;clear h hh hc hb hle c0 c1 c3 c4 c5 hl hl2 hD3 hc2 hset hx;generalize zeros=z at *
 generalize l.set k (x ^^^ y)=l2 at *;generalize x ^^^ y=u at *;go_enter Tryz.func28,Tryz.ntmps28
 go_wp2_with fail
 refine cH.mono ?_;rintro e w' ⟨rfl,rfl⟩;go_wp2_with (first
  | (refine wpList_lookup_eq rfl 91 (.tmp 31) (.tmp 32) true rfl _ _ rfl rfl LK.out ?_)
  | (refine wpList_alloc_eq rfl 89 rfl _ ZZ.out ?_)
  | (refine wpList_store_eq rfl 89 (.tmp 9) (.tmp 34) rfl _ _ rfl rfl SS.out ?_))
 refine region_tail 6 (by kernel_rfl) (by kernel_rfl) ?_;intro w2 hw2;simp only [List.take_succ_cons,List.take_zero,List.drop_succ_cons,List.drop_zero];have hc3:=HC2.out;obtain ⟨w3,hrun,HD⟩:=HR3.out;have HD':=hid HD;have LD3:=LD2.out;rw [<- hw2] at hrun hc3 LD3;have R:=hid hrun;have LD4:=hid LD3;clear hrun c2 SS LK ZZ HR3 HD hw2 LD2 LD3 HC2 ck fk
 repeat (first | (refine wpStill_load_eq rfl 89 (.tmp 9) rfl _ rfl LD4.out ?_) | still_step)
 refine wpStill_nil ?_;go_wp2_with (refine wpList_mapUpdate_eq rfl 91 (.tmp 46) (.tmp 47) (.tmp 48) rfl _ _ _ rfl rfl rfl R.out ?_)
 go_ret
 exact ⟨rfl,HD'.out⟩
theorem spoil_last (w:World) (sb bl bc:Nat) (s:St) (n:Int) (k:Nat) (x y:UInt8) (l:Bs) (h:Dev w sb bl bc s) (hh:s.has n=true) (hk:k<1024) (hc:s.C n=none) (hll:(s.L n).getD zeros=l) (hx:l.getD k 0=x):Calls Tryz.prog 28 #[ptr sb,.int .i64 n,.int .i64 (k:Int),byteV y] w fun e w' =>
 e=.returned (.int .i64 0)/\Dev w' sb bl bc (s.lay n (l.set k (x ^^^ y)))/\Mod [sb,bl,bc] w w':=by
 have cH:=has_dev w sb bl bc s n h;rw [hh] at cH;have hb:=has_bounds hh;have hle:=h.nle;have hl:=h.last.getD_len n;rw [hll] at hl;have LK:=h.cache.lookup_ok n (by omega) (by omega);rw [hc] at LK;simp only [Option.getD_none,Option.isSome_none] at LK;have LK:=hid LK;have b0:decide ((k:Int)<0)=false:=by simp
 have b1:decide (1024<=(k:Int))=false:=by simp;omega
 have hx8:=xor8 x y;have SS:=hid (store_sec_new w (secC zeros) zeros zeros_len zeros_size);have ZZ:=hid (zero_sec w);have hD1:=h.alloc (.cells (secC zeros) 89);have LL:=hD1.last.lookup n (by omega) (by omega);rw [hll] at LL;have LL:=hid LL;have SS2:=hid (store_sec_new (w.alloc (.cells (secC zeros) 89)) (secC zeros) l hl zeros_size);have ZZ2:=hid (zero_sec (w.alloc (.cells (secC zeros) 89)));have hlen:(w.alloc (.cells (secC zeros) 89)).heap.size=w.heap.size+1:=by simp
 have hcell:=heap_alloc_last (w.alloc (.cells (secC zeros) 89)) (.cells (secC l) 89);rw [hlen] at hcell;have ck:((w.alloc (.cells (secC zeros) 89)).alloc (.cells (secC l) 89)).cell? ⟨w.heap.size+1,k,none⟩=some (byteV x):=by
  rw [cell_of_row _ _ _ _ _ _ hcell,secC_get l k (by omega),<- hx];simp [List.getD,hl,hk]
 have fk:((w.alloc (.cells (secC zeros) 89)).alloc (.cells (secC l) 89)).frozen? ⟨w.heap.size+1,k,none⟩=false:=frozen_of_row _ _ _ _ _ hcell;have hl2:(l.set k (x ^^^ y)).length=1024:=by simp [hl]
 have hD2:=hD1.alloc (.cells (secC (l.set k (x ^^^ y))) 89);have hcell2:=heap_alloc_last (w.alloc (.cells (secC zeros) 89)) (.cells (secC (l.set k (x ^^^ y))) 89);rw [hlen] at hcell2;have LD:=hid (load_sec (b:=w.heap.size+1) hl2 hcell2);have cY:=hid (lay_dev _ sb bl bc s n _ hl2 hD2 hb.1 hb.2);have MM:=hid (((Mod.refl [sb,bl,bc] w).alloc (.cells (secC zeros) 89)).alloc (.cells (secC (l.set k (x ^^^ y))) 89))
 have hset:=set_world (w.alloc (.cells (secC zeros) 89)) l k (x ^^^ y) 89;rw [<- hset] at LD cY MM;obtain ⟨c0,c1,c2,c3,c4,c5⟩:=h.cells;have hlt:=h.lt;have SS3:=SS2;rw [hlen] at SS3;clear h hh hc hb hle c0 c3 c4 c5 hl hl2 hD1 hD2 hset hx hcell hcell2 hlen hll;generalize zeros=z at *;generalize l.set k (x ^^^ y)=l2 at *;generalize x ^^^ y=u at *;go_enter Tryz.func28,Tryz.ntmps28
 go_wp2_with fail
 refine cH.mono ?_;rintro e w' ⟨rfl,rfl⟩;go_wp2_with (first
  | ((with_reducible refine wpList_lookup_eq rfl 91 (.tmp 31) (.tmp 32) true rfl _ _ ?_ ?_ LK.out ?_);(next=>rfl);(next=>rfl))
  | ((with_reducible refine wpList_lookup_eq rfl 91 (.tmp 52) (.tmp 53) false rfl _ _ ?_ ?_ LL.out ?_);(next=>rfl);(next=>rfl))
  | ((with_reducible refine wpList_alloc_eq (o:=⟨some 9,_,_,_,_,_⟩) rfl 89 rfl _ ZZ.out ?_))
  | ((with_reducible refine wpList_alloc_eq (o:=⟨some 11,_,_,_,_,_⟩) rfl 89 rfl _ ZZ2.out ?_))
  | ((with_reducible refine wpList_store_eq rfl 89 (.tmp 9) (.tmp 34) rfl _ _ ?_ ?_ SS.out ?_);(next=>rfl);(next=>rfl))
  | ((with_reducible refine wpList_store_eq rfl 89 (.tmp 11) (.tmp 54) rfl _ _ ?_ ?_ SS2.out ?_);(next=>rfl);(next=>rfl))
  | ((with_reducible refine wpList_store_eq rfl 89 (.tmp 11) (.tmp 54) rfl _ _ ?_ ?_ SS3.out ?_);(next=>rfl);(next=>rfl))
  | ((with_reducible refine wpList_load_eq rfl 89 (.tmp 11) rfl _ ?_ LD.out ?_);(next=>rfl))
  | (go_at_call 41;refine cY.out.mono ?_;rintro e w' ⟨rfl,HD,HM⟩))
 go_ret
 exact ⟨rfl,HD,MM.out.trans (HM.mono (by simp))⟩
theorem spoil_dev (w:World) (sb bl bc:Nat) (s:St) (n m:Int) (y:UInt8) (h:Dev w sb bl bc s):Calls Tryz.prog 28 #[ptr sb,.int .i64 n,.int .i64 m,byteV y] w fun e w' =>
 e=.returned (.int .i64 (s.spoilE n m))/\Dev w' sb bl bc (s.spoil n m y)/\Mod [sb,bl,bc] w w':=by
 cases hh:s.has n
 ·refine (spoil_bad w sb bl bc s n m y h hh).mono ?_;rintro e w' ⟨rfl,rfl⟩;have e1:s.spoilE n m=41:=by simp [St.spoilE,hh]
  rw [St.spoil,e1,if_neg (by decide)];exact ⟨rfl,h,Mod.refl _ _⟩
 ·by_cases hm:0<=m/\m<1024
  ·have e1:s.spoilE n m=0:=by rw [St.spoilE,hh,if_pos rfl,if_pos hm]
   obtain ⟨k,rfl⟩:∃ k:Nat,m=k:=⟨m.toNat,by omega⟩;rw [St.spoil,e1,if_pos rfl];simp only [Int.toNat_natCast];cases hc:s.C n with
   | none=>exact spoil_last w sb bl bc s n k _ y _ h hh (by omega) hc rfl rfl
   | some l=>exact spoil_cached w sb bl bc s n k _ y l h hh (by omega) hc rfl
  ·refine (spoil_at w sb bl bc s n m y h hh hm).mono ?_;rintro e w' ⟨rfl,rfl⟩;have e1:s.spoilE n m=1:=by rw [St.spoilE,hh,if_pos rfl,if_neg hm]
   rw [St.spoil,e1,if_neg (by decide)];exact ⟨rfl,h,Mod.refl _ _⟩
end Go.Proofs.YtbhfammnffecoaaGreat.Disk
namespace Go.Proofs.YtbhfammnffecoaaGreat.Tree
open Go.RowKit Gen
open Disk (St Dev Mod ptr byteV)
open Page (Pg Lay PgOk PgRows pgC pgV Enc IsDec BytesAt strV strB PRow less Lt Rises KeyOk)
open Pool (Po NAt PoAt La poC poV numV At takeP giveP backP Fresh PoolOk OwnI chunks layAll May)
open Store
open Lib (hid)
def Dull (d d':St):Prop:=(∀ x,d'.readE x=d.readE x)/\∀ x p,IsDec x (d.readB x) p->d'.readB x=d.readB x\/∀ q,¬ IsDec x (d'.readB x) q
theorem PgAt.dull {d d':St} {a k k':Int} {p q:Pg} (h:PgAt d a k p) (g:Dull d d') (h':PgAt d' a k' q):PgAt d a k' q:=by
 rcases g.2 a p h.2.1 with e | e
 ·exact ⟨h.1,by rw [<- e];exact h'.2.1,h'.2.2⟩
 ·exact absurd h'.2.1 (e q)
theorem down_dull {d d':St} (g:Dull d d') {key:Disk.Bs} {r a:Int} {l:List Stp} (h:Down d' key r l a) {m:Nat} {x:Held} (hx:IsT d (m+1) r x):l.length<=m->Down d key r l a:=by
 induction h with
 | nil=>exact fun _=>.nil _
 | @snoc a l s h ha hp hk hi ih =>
  intro hm;rw [List.length_append,List.length_singleton] at hm;have hd:=ih (by omega);obtain ⟨y,hy,-,-⟩:=down_isT hd hx (by omega);obtain ⟨q,hq⟩:∃ q,m-l.length=q+1:=⟨m-l.length-1,by omega⟩;rw [hq] at hy;obtain ⟨p,L,hpp,-⟩:=hy;exact .snoc hd ha (hpp.dull g hp) hk hi
theorem way_dull {d d':St} (g:Dull d d') {key:Disk.Bs} {r:Int} {m:Nat} {x:Held} (hx:IsT d (m+1) r x) {l:List Stp} {s:Stp} (h:WayP d' key r (m+1) l s):WayP d key r (m+1) l s:=by
 obtain ⟨h1,h2,h3,h4⟩:=h;have hd:=down_dull g h1 hx (by omega);obtain ⟨y,hy,-,-⟩:=down_isT hd hx (by omega);rw [show m-l.length+1=1 by omega] at hy;obtain ⟨p,hpp,-⟩:=hy;exact ⟨hd,h2,hpp.dull g h3,h4⟩
theorem wayq_dull {d d':St} (g:Dull d d') {key:Disk.Bs} {r:Int} {m:Nat} {x:Held} (hx:IsT d (m+1) r x) {e:Int} (h:WayQ d' key r (m+1) e):e=81:=by
 obtain ⟨l,a,h1,h2,-,rfl⟩:=h;have hd:=down_dull g h1 hx (by omega);obtain ⟨y,hy,-,-⟩:=down_isT hd hx (by omega);have h0:d.readE a=0:=by
  by_cases hm:l.length=m
  ·rw [show m-l.length+1=1 by omega] at hy;obtain ⟨p,hpp,-⟩:=hy;exact hpp.1
  ·obtain ⟨q,hq⟩:∃ q,m-l.length=q+1:=⟨m-l.length-1,by omega⟩;rw [hq] at hy;obtain ⟨p,L,hpp,-⟩:=hy;exact hpp.1
 unfold tellE;rw [g.1 a,h0]
 rfl
theorem spoil_n (d:St) (n m:Int) (y:UInt8):(d.spoil n m y).n=d.n:=by
 unfold St.spoil
 split
 ·split <;> rfl
 ·rfl
theorem spoil_off (d:St) (n m:Int) (y:UInt8):(d.spoil n m y).off=d.off:=by
 unfold St.spoil
 split
 ·split <;> rfl
 ·rfl
theorem spoil_get (d:St) (n m:Int) (y:UInt8) (x:Int):(d.spoil n m y).get x=d.get x\/(x=n/\(d.spoil n m y).get x=Disk.turn (d.get x) m.toNat y):=by
 by_cases hx:x=n
 ·subst hx;unfold St.spoil
  split
  ·refine .inr ⟨rfl,?_⟩
   split
   ·rename_i l hl
    simp [St.get,Disk.upd_same,hl]
   ·rename_i hl
    simp only [St.get,St.lay,hl,Disk.upd_same]
    split
    ·rename_i hz
     rw [show (none:Option Disk.Bs).getD ((d.L x).getD Disk.zeros)=(d.L x).getD Disk.zeros from rfl,hz]
     rfl
    ·rfl
  ·exact .inl rfl
 ·left
  unfold St.spoil
  split
  ·split
   ·simp [St.get,Disk.upd_other _ _ hx]
   ·simp [St.get,St.lay,Disk.upd_other _ _ hx]
  ·rfl
theorem spoil_dull (d:St) (n m:Int) (y:UInt8):Dull d (d.spoil n m y):=by
 have hh:∀ x,(d.spoil n m y).has x=d.has x:=fun x=>by unfold St.has;rw [spoil_n]
 refine ⟨fun x=>by unfold St.readE;rw [spoil_off,hh],fun x p hp=>?_⟩;unfold St.readB at hp ⊢;rw [spoil_off,hh]
 by_cases ho:d.off=true
 ·rw [if_pos ho,if_pos ho];exact .inl rfl
 rw [if_neg ho] at hp ⊢;rw [if_neg ho]
 by_cases hx:d.has x=true
 ·rw [if_pos hx] at hp ⊢;rw [if_pos hx];rcases spoil_get d n m y x with e | ⟨-,e⟩
  ·exact .inl e
  ·rw [e];unfold Disk.turn
   by_cases hl:m.toNat<(d.get x).length
   ·have hi:(d.get x)[m.toNat]?=some ((d.get x).getD m.toNat 0):=by
     rw [List.getD_eq_getElem?_getD,List.getElem?_eq_getElem hl];rfl
    by_cases hs:(d.get x).getD m.toNat 0=(d.get x).getD m.toNat 0 ^^^ y
    ·left
     rw [<- hs];rw [List.getD_eq_getElem?_getD,List.getElem?_eq_getElem hl];simp
    ·exact .inr fun q hq=>hs (Page.enc_turn hp.2 hi hq.2)
   ·left
    exact List.set_eq_of_length_le (by omega)
 ·rw [if_neg hx,if_neg hx];exact .inl rfl
theorem TrOn.spoil {w0 w:World} {B:Blk} {tb:Nat} {d:St} {t:T} {r dp c:Int} (h:TrOn w0 w B tb d t r dp c) (n m:Int) (y:UInt8) :
 Calls Tryz.prog 28 #[ptr B.sb,.int .i64 n,.int .i64 m,byteV y] w fun e w'=>(∃ x,e=.returned (.int .i64 x))/\TrOn w0 w' B tb (d.spoil n m y) t r dp c/\Mod (tall tb B) w w':=by
 obtain ⟨a,s⟩:=h.sto.has;have hA:∀ x∈[B.sb,B.bl,B.bc],x∈B.all:=by
  intro x hx;simp only [Blk.all,List.mem_cons,List.not_mem_nil,or_false] at hx ⊢;rcases hx with h | h | h <;> simp [h]
 refine (Disk.spoil_dev w B.sb B.bl B.bc d n m y s.dev).mono ?_;rintro e w' ⟨rfl,hd,mm⟩;have m1:=mm.mono hA;exact ⟨⟨_,rfl⟩,⟨h.sto.mod ⟨a,s.withDev hd mm (spoil_n d n m y)⟩ m1,at_mod h.box m1 h.out,h.out,h.mem,h.new⟩,m1.mono (fun x hx=>List.mem_cons_of_mem _ hx)⟩
def Rot (w0 w:World) (B:Blk) (tb:Nat) (es:Ents):Prop:=∃ d d' t r dp c K,TrOn w0 w B tb d' t r dp c/\Dull d d'/\Good d t r dp c es K/\Kept d t r dp c es/\(dp=0\/∃ m:Nat,dp=((m+1:Nat):Int)/\m<=40)
theorem Rot.quiet {w0 w w':World} {B:Blk} {tb:Nat} {es:Ents} (h:Rot w0 w B tb es) (b:Below w.heap.size w w'):Rot w0 w' B tb es:=by
 obtain ⟨d,d',t,r,dp,c,K,h1,h2⟩:=h;exact ⟨d,d',t,r,dp,c,K,h1.quiet b,h2⟩
theorem Rot.below {w0 w:World} {B:Blk} {tb:Nat} {es:Ents} (h:Rot w0 w B tb es):Below w0.heap.size w0 w:=by
 obtain ⟨d,d',t,r,dp,c,K,h1,-⟩:=h;exact h1.below (Mod.refl _ _)
theorem Saves.rot {w0 w:World} {B:Blk} {tb k:Nat} {es:Ents} (h:Saves w0 w B tb k es) (hk:k<=240) (n m:Int) (y:UInt8) :
 ∃ sb,Calls Tryz.prog 19 #[ptr tb] w (fun e w'=>e=.returned (ptr sb)/\w=w') /\
  ∃ db,Calls Tryz.prog 20 #[ptr sb] w (fun e w'=>e=.returned (ptr db)/\w=w') /\
  Calls Tryz.prog 28 #[ptr db,.int .i64 n,.int .i64 m,byteV y] w fun e w'=>(∃ x,e=.returned (.int .i64 x))/\Rot w0 w' B tb es/\Mod (tall tb B) w w':=by
 obtain ⟨d,t,r,dp,c,K,h1,h2,h3⟩:=h;obtain ⟨a,s⟩:=h1.sto.has;refine ⟨B.ss,store_any h1.box,B.sb,device_any s,(h1.spoil n m y).mono ?_⟩;rintro e w' ⟨hx,g,mm⟩;refine ⟨hx,⟨d,_,t,r,dp,c,K,g,spoil_dull d n m y,h2.good,h3,?_⟩,mm⟩;rcases (h2.room hk).1 with e | ⟨q,e,hq⟩
 ·exact .inl e
 ·exact .inr ⟨q,e,by omega⟩
theorem rot_get {w0 w:World} {B:Blk} {tb:Nat} {es:Ents} (h:Rot w0 w B tb es) (key:Disk.Bs) :
 Calls Tryz.prog 29 #[ptr tb,strV key] w (fun e w'=>(e=.returned (.tuple #[strV (valOf es key),.bool (hasOf (keysOf es) key),.int .i64 0])\/e=.returned (.tuple #[.string ⟨#[]⟩,.bool false,.int .i64 81]))/\Rot w0 w' B tb es/\Mod (tall tb B) w w'):=by
 obtain ⟨d,d',t,r,dp,c,K,h1,hd,hg,hk,hdp⟩:=h;rcases hdp with rfl | ⟨m,rfl,hm⟩
 ·have hes:es=[]:=by
   rcases hg.tree with ⟨-,-,e,-⟩ | ⟨m,ps,e,-⟩
   ·exact e
   ·omega
  subst hes;refine (get_any h1 key (P:=NilP) (Q:=fun _=>False) (fun l s hp=>by have:=nilP_leaf hp;exact ⟨this.1,by omega⟩) (fun W hb=>way_nil (h1.quiet hb).box key)).mono ?_;rintro e w' (⟨l,s,⟨rfl,rfl⟩,rfl,bl⟩ | ⟨x,hq,_⟩)
  ·exact ⟨.inl rfl,⟨d,d',t,r,0,c,K,h1.quiet bl,hd,hg,hk,.inl rfl⟩,Mod.of_below _ bl⟩
  ·exact hq.elim
 ·refine (get_any h1 key (P:=WayP d' key r (m+1)) (Q:=WayQ d' key r (m+1)) (fun l s hp=>by have:=wayP_leaf hp;exact ⟨this.1,by omega⟩) (fun W hb=>?_)).mono ?_
  ·obtain ⟨a,s⟩:=(h1.quiet hb).sto.has;exact way_full s hm (h1.quiet hb).box key
  ·rcases hg.tree with ⟨h0,-⟩ | ⟨m',ps,h0,hT,hb⟩
   ·omega
   obtain rfl:m'=m:=by omega
   rintro e w' (⟨l,s,hp,rfl,bl⟩ | ⟨x,hq,hx,rfl,g,mm⟩)
   ·obtain ⟨e1,e2⟩:=get_good hg key (way_dull hd hT hp);rw [e1,e2];exact ⟨.inl rfl,⟨d,d',t,r,_,c,K,h1.quiet bl,hd,hg,hk,.inr ⟨_,rfl,hm⟩⟩,Mod.of_below _ bl⟩
   ·obtain rfl:=wayq_dull hd hT hq;obtain ⟨s1,s2,s3⟩:=hk.sup;rw [s1,s2,s3] at g;obtain ⟨g1,g2⟩:=hk.back hk.calm hk.safe.pre.refl;exact ⟨.inr rfl,⟨d,d',_,r,_,c,_,g,hd,g1,g2,.inr ⟨_,rfl,hm⟩⟩,mm⟩
end Go.Proofs.YtbhfammnffecoaaGreat.Tree
