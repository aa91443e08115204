/- Made shorter by a tool: what the statements rest on. -/
import Derived.WalkKit
import Derived.Laws.BitsAllLaws
import Derived.Below
import Derived.Laws.OwnMore
import Derived.Laws.Rows
import Derived.OwnWalk
import Derived.RangeFuncSeq
import Derived.Deep.MidRow
import Derived.Test.YtbeeenembgplmaaGreatProg
import Derived.Deep.WholeRow
import Derived.ChangeKeysEq
import Derived.Lib.Hide
import Derived.Laws.ResultCell
import Derived.Great.BuildSlice
import Derived.StillTailTactics
import Derived.OrdersIn
import Derived.RangeFuncCalls
import Derived.RangeFuncKeeps
import Derived.RangeFuncBox
import Derived.Laws.CopyOwn
import Derived.TacticsIn
import Derived.OwnWalkIn
import Derived.OrdersHeld
import Derived.StillTail
import Derived.BigQuiet
import Derived.Test.YtbeeenembgplmaaGreatRows
import Derived.ProofKit
import Derived.OpenShut
import Derived.ShutString
import Derived.ChangeOld
import Derived.Deep.Slices
import Derived.Lib.SmallJoins
import Derived.RangeFuncOwn
import Derived.RangeFuncNested
import Derived.RangeFuncBound
import Derived.Shelf.Abstract
import Derived.Laws.BytesArg
import Derived.Maps.AppendAt
import Derived.WalkMore
import Derived.LoopTactic
import Derived.Lib.AppendZerosOnto
import Derived.Lib.Overlaps
import Derived.Shelf.Sort.Plain
import Derived.Ground.Names2Prog
import Derived.Shelf.Slices.CompactI
import Derived.Lib.OwnBridge
import Derived.Sort.OwnSortedInts
import Derived.RangeFuncLeaves
import Derived.Shelf.RegionOpen
import Derived.TacticsInMore
import Derived.LoopNIn
import Derived.LoopIn
import Derived.Lib.Bytes
import Derived.Deep.Cut
import Derived.Deep.CutRange
import Derived.Deep.CutBlock
import Derived.Laws.StructEq
set_option maxRecDepth 100000
set_option maxHeartbeats 20000000
set_option linter.unusedVariables false
set_option linter.unusedSimpArgs false
open List renaming getElem?_eq_getElem -> aZ, replicate -> bg, length_cons -> bz, drop_zero -> bQ, drop_succ_cons -> bR, getElem?_eq_some_iff -> bZ, length_nil -> cx, nil_append -> cy, cons_append -> cC, length_append -> cE, range -> cI, size_toArray -> cJ, mem_map -> cM, push_toArray -> cQ, append_toArray -> cR, take_of_length_le -> de, length_take -> dj, length_drop -> dm, mem_of_getElem? -> dp, mem_cons -> dy, mem_cons_self -> dC, mem_range -> dJ, length_map -> dV, getElem?_map -> dY, mem_cons_of_mem -> ea, map_append -> ec, getElem?_eq_none -> ej, mem_singleton -> eF, getElem?_append_right -> fv, getElem?_append_left -> fS, mem_append -> gc, length_replicate -> iq, finRange -> iH, map_map -> iX, all_eq_true -> iZ, drop_drop -> ja, ext_getElem? -> jD, getElem?_of_mem -> jY, take_add_one -> jZ, eq_nil_of_length_eq_zero -> ka, append_assoc -> kb, getElem?_take -> kx, flatten_cons -> kN, getElem?_replicate -> kO, filter_append -> lG, mem_filter -> lH, getElem?_drop -> lI, getElem?_range -> mj
open Nat renaming le_refl -> aG, zero_le -> bc, le_trans -> bm, lt_of_lt_of_le -> bq, zero_add -> dP, min_eq_left -> lJ
open Int renaming le_refl -> fT, toNat_natCast -> iG, eq_ofNat_of_zero_le -> mO
open Array renaming getElem?_eq_some_iff -> bL, replicate_succ -> cO, replicate_zero -> cP
open Bool renaming and_eq_true -> cm, eq_iff_iff -> iY, true_and -> jX
open Go.Lib renaming hid -> ae
open Go renaming World -> ah, Value -> ak, Calls -> ap, undef -> az, loadVar -> aE, Addr -> aF, storeVar -> aL, TypeId -> aR, wpQuiet_nil -> aV, maxLen -> aY, bodyPost_ret -> bo, heap_alloc_new -> cD, cell_of_row -> dq, run_takeDeferred -> eU, info_parts -> fy, callsIn_of_wp_marks -> gA, run_loadVar_mid -> jF, all_oneCell_toArray -> ky, run_storeVar_new -> kQ
open Go.Boxed renaming new -> dD
open Go.Instr renaming build -> df, buildSlice -> dh
open Go.IntWalk renaming wrap64_in -> kR
open Go.KeepsOthers renaming setCell -> iK
open Go.Op renaming equalIn -> jG
open Go.Result renaming andThen_ok -> ek
open Go.RowKit renaming Below -> ag, intOf -> aS
open Go.RowKit.Below renaming refl -> aI, heap_setCell -> eG
open Go.Sem renaming run_bind -> gK
open Go.Value renaming ownBlock -> jb
open Go.World renaming size_alloc -> bO, ownsRow_nil -> jc, rangeAt_setCells_same -> kz
open Go.Ending renaming returned -> ao
open Go.IntKind renaming i64 -> ac, u8 -> ay, u32 -> aO
open Go.Obj renaming cells -> an
open Go.Value renaming int -> ab, slice -> af, agg -> al, pointer -> am, tuple -> aQ
open Or renaming inl -> aA, inr -> aD
open Go.Proofs.Tryz
open Go.Proofs.Tryz renaming prog -> aj
namespace Go.Proofs.YtbeeenembgplmaaGreat
open Go.RowKit
abbrev w9b (w x:Go.World):Prop:=Go.RowKit.Below w.heap.size w x
abbrev w9h (w x:Go.World):Prop:=Hid (w9b w x)
set_option maxRecDepth 100000 in
theorem w9x:Tryz.prog.follows .mixedOrders=true:=by kernel_rfl
theorem w9nm {α:Sort _} (a:α):∃x,a=x:=⟨a,rfl⟩
theorem w9bt {W x y:World} (h:Hid (Below W.heap.size W x)) (k:Below x.heap.size x y):Hid (Below W.heap.size W y):=h.out.trans (k.mono h.out.size)
open Go.RowKit Go.Shelf Go.Lib
section
def ju (bs:List Int):Nat->Int
 | 0=>0
 | k+1=>ju bs k+bs[k]?.getD 0*2^(8*k)
def aP (bs:List Int):Prop:=∀j:Nat,0<=bs[j]?.getD 0/\bs[j]?.getD 0<256
theorem ox (P:Nat->Prop) (h0:P 0) (h1:P 1) (h2:P 2) (h3:P 3) (h4:P 4) (h5:P 5) (h6:P 6) (h7:P 7) (k:Nat) (hk:k<8):P k:=by
 match k,hk with
 | 0,_=>exact h0
 | 1,_=>exact h1
 | 2,_=>exact h2
 | 3,_=>exact h3
 | 4,_=>exact h4
 | 5,_=>exact h5
 | 6,_=>exact h6
 | 7,_=>exact h7
def np (v y:Int) (k:Nat):Int:=bits BinOp.or IntKind.u64 v (IntKind.u64.wrap (y*2^(8*k)))
theorem xX (x:Int) (h0:0<=x) (h1:x<18446744073709551616):IntKind.u64.wrap x=x:=by
 rw[IntKind.wrap_u64];omega
theorem xY (y:Int) (k:Nat) (hk:k<8) (h0:0<=y) (h1:y<256):0<=y*2^(8*k)/\y*2^(8*k)<18446744073709551616:=by
 revert y;refine ox (fun k=>∀y:Int,0<=y->y<256->0<=y*2^(8*k)/\y*2^(8*k)<18446744073709551616) ?_ ?_ ?_ ?_ ?_ ?_ ?_ ?_ k hk<;>(intro y h0 h1;simp only[Nat.reduceMul,Int.reducePow];omega)
theorem xZ (v y:Int) (k:Nat) (hk:k<8) (hv0:0<=v) (hv1:v<18446744073709551616) (h0:0<=y) (h1:y<256):
  np v y k=((v.toNat||| (y*2^(8*k)).toNat:Nat):Int):=by
 obtain⟨a,b⟩:=xY y k hk h0 h1;unfold np;rw[xX _ a b,u64_or v _ hv0 hv1 a b]
theorem Fk (v y:Int) (k:Nat) (hk:k<8) (hv0:0<=v) (hv1:v<18446744073709551616) (h0:0<=y) (h1:y<256):
  0<=np v y k/\np v y k<18446744073709551616:=by
 obtain⟨a,b⟩:=xY y k hk h0 h1;rw[xZ v y k hk hv0 hv1 h0 h1];have:=Nat.or_lt_two_pow (n:=64) (show v.toNat<2^64 by simp only[Nat.reducePow];omega) (show(y*2^(8*k)).toNat<2^64 by simp only[Nat.reducePow];omega);simp only[Nat.reducePow]at this;omega
theorem Fl (v y:Int) (k:Nat) (hk:k<8) (hv0:0<=v) (hv1:v<18446744073709551616) (hvk:v<2^(8*k)) (h0:0<=y) (h1:y<256):
  np v y k=v+y*2^(8*k):=by
 rw[xZ v y k hk hv0 hv1 h0 h1];obtain⟨a,rfl⟩:=mO hv0;obtain⟨c,rfl⟩:=mO h0;have e1:((c:Int)*2^(8*k))=((2^(8*k)*c:Nat):Int):=by simp[Int.mul_comm]
 have ha:a<2^(8*k):=by
  have:((a:Nat):Int)< ((2^(8*k):Nat):Int):=by simpa using hvk
  omega
 rw[e1,iG,iG,Nat.or_comm,←Nat.two_pow_add_eq_or_of_lt ha c];omega
theorem oy (bs:List Int) (h:aP bs):∀k:Nat,0<=ju bs k/\ju bs k<2^(8*k)
 | 0=>by simp[ju]
 | k+1=>by
  obtain⟨a,b⟩:=oy bs h k;obtain⟨c,d⟩:=h k;have hp:(0:Int)<2^(8*k):=Int.pow_pos (by omega);have e:(2:Int)^(8*(k+1))=256*2^(8*k):=by rw[show 8*(k+1)=8*k+8 from by omega,Int.pow_add];simp[Int.mul_comm]
  rw[e];unfold ju;have h1:0<=bs[k]?.getD 0*2^(8*k):=Int.mul_nonneg c (by omega);have h2:bs[k]?.getD 0*2^(8*k)<=255*2^(8*k):=Int.mul_le_mul_of_nonneg_right (by omega) (by omega);omega
theorem Fm (bs:List Int) (h:aP bs) (k:Nat) (hk:k<8):np (ju bs k) (bs[k]?.getD 0) k=ju bs (k+1):=by
 obtain⟨a,b⟩:=oy bs h k;obtain⟨c,d⟩:=h k;have hb:ju bs k<18446744073709551616:=by
  refine Int.lt_of_lt_of_le b ?_;refine ox (fun k=>(2:Int)^(8*k)<=18446744073709551616) ?_ ?_ ?_ ?_ ?_ ?_ ?_ ?_ k hk<;>decide
 exact Fl _ _ k hk a hb b c d
def ey (size:Int):Nat:=if size<=8 then size.toNat else 8
theorem Fn (size:Int):(size<=8/\ey size=size.toNat)\/(8<size/\ey size=8):=by
 unfold ey;by_cases h:size<=8
 ·exact aA ⟨h,if_pos h⟩
 ·exact aD ⟨by omega,if_neg h⟩
theorem uB (size:Int):ey size<=8:=by unfold ey;split<;>omega
def bM (bs:List Int):Int:=ju bs (ey (bs.length:Int))
theorem Fo {m:Nat} {pre:List (Fin m)} {x:Fin m} (h:pre++ [x]<+:iH m):pre<+:iH m/\x.1=pre.length:=by
 obtain⟨t,ht⟩:=h;refine⟨⟨x::t,by rw[←ht];simp⟩, ?_⟩;have h1:(iH m)[pre.length]? =some x:=by rw[←ht];simp
 have h2:pre.length<m:=by
  have:=congrArg List.length ht;simp at this;omega
 rw[aZ (by simpa using h2)]at h1;simp at h1;rw[←h1]
def aJ (n:Int) (size:Nat):List Int:=(cI size).map fun i=>if i<8 then n / 2^(8*i)%256 else 0
theorem cu (n:Int) (size:Nat):(aJ n size).length=size:=by simp[aJ]
theorem ya (n:Int) (size j:Nat) (h:j<size):(aJ n size)[j]?.getD 0=if j<8 then n / 2^(8*j)%256 else 0:=by simp[aJ,h]
theorem gL (n:Int) (size:Nat):aP (aJ n size):=by
 intro j;by_cases h:j<size
 ·rw[ya n size j h];split<;>omega
 ·simp[aJ,h]
def kS (n:Int) (size:Nat) {m:Nat} (pre:List (Fin m)):List ak:=(cI size).map fun i=>Value.int ay (if pre.any (fun x=>x.1==i)then n / 2^(8*i)%256 else 0)
theorem Fp (n:Int) (size m:Nat):kS n size (m:=m) []=bg size (Value.int ay 0):=by
 unfold kS;apply List.ext_getElem
 ·simp
 ·intro i h1 h2;simp
theorem Fq (n:Int) (size m:Nat) (pre:List (Fin m)) (x:Fin m):kS n size (pre++ [x])=(kS n size pre).set x.1 (Value.int ay (n / 2^(8*x.1)%256)):=by
 unfold kS;apply List.ext_getElem
 ·simp
 ·intro i h1 h2;simp only[List.getElem_map,List.getElem_range,List.getElem_set,List.any_append,List.any_cons,List.any_nil,Bool.or_false];by_cases e:x.1=i
  ·subst e;simp
  ·rw[if_neg e];have:(x.1==i)=false:=by simpa using e
   rw[this,Bool.or_false]
theorem Fr (n:Int) (size:Nat):kS n size (iH (ey (size:Int)))=(aJ n size).map (Value.int ay):=by
 unfold kS aJ;rw[iX];apply List.map_congr_left;intro i hi;have hi':i<size:=by simpa using hi
 have e:(iH (ey (size:Int))).any (fun x=>x.1==i)=decide (i<8):=by
  rw[iY];simp only[List.any_eq_true,List.mem_finRange,true_and,beq_iff_eq,decide_eq_true_eq];constructor
  ·rintro⟨x,rfl⟩;have:=x.2;have:=uB (size:Int);omega
  ·intro h;exact⟨⟨i,by unfold ey;split<;>omega⟩,rfl⟩
 simp only[Function.comp,e,decide_eq_true_eq]
theorem uC (n:Int) (hn:0<=n) (K:Nat):∀j:Nat,j<=K->j<=8->ju (aJ n K) j=n%2^(8*j)
 | 0,_,_=>by simp[ju]
 | j+1,h1,h2=>by
  have ih:=uC n hn K j (by omega) (by omega);unfold ju;rw[ih,ya n K j (by omega),if_pos (by omega)];refine ox (fun j=>n%2^(8*j)+n / 2^(8*j)%256*2^(8*j)=n%2^(8*(j+1))) ?_ ?_ ?_ ?_ ?_ ?_ ?_ ?_ j (by omega)<;>(simp only[Nat.reduceMul,Nat.reduceAdd,Int.reducePow];omega)
theorem pL (n:Int) (h0:0<=n) (h1:n<18446744073709551616) (K:Nat):bM (aJ n K)=if K<8 then n%2^(8*K)else n:=by
 unfold bM;rw[cu];by_cases h:K<8
 ·rw[if_pos h,show ey (K:Int)=K from by unfold ey;rw[if_pos (by omega)];omega,uC n h0 K K (aG _) (by omega)]
 ·rw[if_neg h,show ey (K:Int)=8 from by unfold ey;split<;>omega,uC n h0 K 8 (by omega) (by omega)];simp only[Nat.reduceMul,Int.reducePow];omega
def Fs (k:IntKind) (w:ah) (a:Option aF) (bs:List Int):Prop:=
 bs= []\/∃b off,a=some ⟨b,off,none⟩/\b<w.heap.size/\∀j,j<bs.length->w.cell? ⟨b,off+j,none⟩=some (ab k (bs[j]?.getD 0))
def Sl (k:IntKind) (w:ah) (v:ak) (bs:List Int):Prop:=
 ∃a cap,v=af a bs.length cap/\bs.length<=cap/\cap<=aY/\Fs k w a bs/\(a=none->cap=0)
theorem Sl.nil (k:IntKind) (w:ah):Sl k w (af none 0 0) []:=⟨none,0,rfl,aG _,bc _,aA rfl,fun _=>rfl⟩
theorem Sl.at {k:IntKind} {w:ah} {b off cap:Nat} {bs:List Int} (h1:bs.length<=cap) (h2:cap<=aY) (h3:b<w.heap.size) (h4:∀j,j<bs.length->w.cell? ⟨b,off+j,none⟩=some (ab k (bs[j]?.getD 0))):
  Sl k w (af (some ⟨b,off,none⟩) bs.length cap) bs:=⟨_,cap,rfl,h1,h2,aD ⟨b,off,rfl,h3,h4⟩,fun e=>by cases e⟩
theorem Sl.below {k:IntKind} {w w':ah} {v:ak} {bs:List Int} (h:Sl k w v bs) (hb:ag w.heap.size w w'):Sl k w' v bs:=by
 obtain⟨a,cap,e,h1,h2,h,hn⟩:=h;refine⟨a,cap,e,h1,h2, ?_,hn⟩;rcases h with h | ⟨b,off,e,h3,h4⟩
 ·exact aA h
 ·exact aD ⟨b,off,e,bq h3 hb.size,fun j hj=>(hb.cell (p:=⟨b,off+j,none⟩) h3).trans (h4 j hj)⟩
def gM (bs:List Int) (i:Nat):Bool:=(bs[i / 8]?.getD 0).toNat.testBit (i%8)
def dE (bs:List Int) (i:Int):Bool:=decide (0<=i)&&gM bs i.toNat
def mo (x y:Int):Int:=((x.toNat||| y.toNat:Nat):Int)
def gO (bs:List Int) (i:Int):List Int:=if 0<=i/\i / 8<bs.length then bs.set (i.toNat / 8) (mo (bs[i.toNat / 8]?.getD 0) (2^(i.toNat%8)))else bs
def uD (a b:List Int):List Int:=(cI (max a.length b.length)).map fun j=>mo (a[j]?.getD 0) (b[j]?.getD 0)
def cV (bs:List Int):List Nat:=(cI (8*bs.length)).filter (gM bs)
def fa (n:Int):Nat:=if n<1\/4096<n then 0 else((n+7) / 8).toNat
def kA (bs:List Int) (n:Int):Bool:=decide (bs.length=fa n)&&(cV bs).all (fun i=>decide ((i:Int)<n))
def kT (r:Nat):List Nat:=(cI 8).filter r.testBit
def nr (r:Nat):Nat:=(kT r).headD 8
theorem Ft:∀r:Fin 256,r.1≠0->kT r.1=nr r.1::kT (r.1&&&(r.1 - 1)):=by decide+kernel
theorem Fu {r:Nat} (h:r<256) (h0:r≠0):kT r=nr r::kT (r&&&(r - 1)):=Ft ⟨r,h⟩ h0
theorem Fv:kT 0= []:=by decide+kernel
theorem Fw:∀r:Fin 256,r.1≠0->nr r.1<8:=by decide+kernel
theorem Fx (r:Nat) (h:r≠0):r&&&(r - 1)<r:=by
 have:=Nat.and_le_right (n:=r) (m:=r - 1);omega
theorem oz (bs:List Int) (h:aP bs) (j:Nat):∃n:Nat,bs[j]?.getD 0=(n:Int)/\n<256:=by
 obtain⟨a,b⟩:=h j;exact⟨(bs[j]?.getD 0).toNat,by omega,by omega⟩
theorem rl (bs:List Int) (k i:Nat) (h:i<8*k):gM (bs.take k) i=gM bs i:=by
 unfold gM;rw[kx,if_pos (by omega)]
theorem Fy (bs:List Int) (k:Nat) (hk:k<bs.length):
  cV (bs.take (k+1))=cV (bs.take k)++(kT (bs[k]?.getD 0).toNat).map (8*k+·):=by
 unfold cV;have e1:(bs.take (k+1)).length=k+1:=by rw[dj];omega
 have e2:(bs.take k).length=k:=by rw[dj];omega
 rw[e1,e2,show 8*(k+1)=8*k+8 from by omega,List.range_add,lG]
 congr 1
 ·apply List.filter_congr;intro i hi;have:=dJ.1 hi;rw[rl _ _ _ this,rl _ _ _ (by omega)]
 ·rw[List.filter_map];unfold kT
  congr 1
  apply List.filter_congr;intro i hi;have:=dJ.1 hi;show gM (bs.take (k+1)) (8*k+i)=_;rw[rl _ _ _ (by omega)];unfold gM;rw[show(8*k+i) / 8=k from by omega,show(8*k+i)%8=i from by omega]
theorem Fz (bs:List Int):(cV bs).length<=8*bs.length:=by
 have:=List.length_filter_le (gM bs) (cI (8*bs.length))
 simpa [cV]using this
theorem yb {bs:List Int} {i:Nat} (h:gM bs i=true):i / 8<bs.length:=by
 unfold gM at h;by_cases e:i / 8<bs.length
 ·exact e
 ·rw[ej (by omega)]at h;simp at h
theorem FA {bs:List Int} {i:Nat}:i ∈ cV bs↔gM bs i=true:=by
 unfold cV;rw[lH,dJ];exact⟨fun h=>h.2,fun h=>⟨by have:=yb h;omega,h⟩⟩
theorem FC (bs:List Int):(cV bs).Pairwise (·<·):=List.Pairwise.filter _ List.pairwise_lt_range
def oC (bs:List Int) (i:Nat):List Nat:=(cI i).filter (gM bs)
theorem FE (bs:List Int):oC bs (8*bs.length)=cV bs:=rfl
theorem FF {x y:Int} (h1:x<256) (h2:y<256):0<=mo x y/\mo x y<256:=by
 unfold mo;have:=Nat.or_lt_two_pow (n:=8) (x:=x.toNat) (y:=y.toNat) (by simp only[Nat.reducePow];omega) (by simp only[Nat.reducePow];omega);simp only[Nat.reducePow]at this;omega
theorem FG (x y:Int) (j:Nat):(mo x y).toNat.testBit j=(x.toNat.testBit j||y.toNat.testBit j):=by
 unfold mo;rw[iG,Nat.testBit_or]
theorem FH (j:Nat):((2:Int)^j).toNat=2^j:=by
 rw[show(2:Int)^j=((2^j:Nat):Int)from by simp,iG]
theorem yc (bs:List Int) (i:Int):(gO bs i).length=bs.length:=by unfold gO;split<;>simp
theorem FI {bs:List Int} (h:aP bs) (i:Int):aP (gO bs i):=by
 unfold gO;split
 ·intro j;rw[List.getElem?_set];split
  ·split
   ·have hp:(2:Int)^(i.toNat%8)<256:=by
     have:=ox (fun k=>(2:Int)^k<256) (by decide) (by decide) (by decide) (by decide) (by decide) (by decide) (by decide) (by decide) (i.toNat%8) (by omega);exact this
    exact FF (h _).2 hp
   ·simp
  ·exact h j
 ·exact h
theorem FJ (bs:List Int) (i:Int) (k:Nat):gM (gO bs i) k=(gM bs k||(decide (0<=i/\i / 8<bs.length)&&k==i.toNat)):=by
 unfold gO;by_cases h:0<=i/\i / 8<bs.length
 ·rw[if_pos h];have hl:i.toNat / 8<bs.length:=by omega
  unfold gM;rw[List.getElem?_set];by_cases e:i.toNat / 8=k / 8
  ·rw[if_pos e,if_pos (by omega),Option.getD_some,FG,FH,Nat.testBit_two_pow,e]
   congr 1
   simp only[h,decide_true,jX,and_self];rw[iY];simp only[decide_eq_true_eq,beq_iff_eq];omega
  ·rw[if_neg e];have:(k==i.toNat)=false:=by
    rw[beq_eq_false_iff_ne];intro e2;exact e (by rw[e2])
   rw[this,Bool.and_false,Bool.or_false]
 ·rw[if_neg h,decide_eq_false h,Bool.false_and,Bool.or_false]
theorem FK (bs:List Int) (i:Nat):dE bs (i:Int)=gM bs i:=by unfold dE;simp
theorem or_comm (a b:List Int):uD a b=uD b a:=by
 unfold uD;rw[Nat.max_comm];apply List.map_congr_left;intro j _;unfold mo;rw[Nat.or_comm]
def fG (n:Int):Prop:= -9223372036854775808<=n/\n<=9223372036854775807
def pM (l:List (Int×Int)):Prop:=∀p ∈ l,fG p.1/\fG p.2
def mP (l:List (Int×Int)) (b:Int):Option Nat:=l.findIdx? fun p=>p.1==b
theorem FM {l:List (Int×Int)} {b:Int} {i:Nat}:mP l b=some i↔(∃p,l[i]? =some p/\p.1=b)/\∀(j:Nat) (p:Int×Int),j<i->l[j]? =some p->p.1≠b:=by
 unfold mP;rw[List.findIdx?_eq_some_iff_getElem];constructor
 ·rintro⟨h,h1,h2⟩;refine⟨⟨l[i],aZ h,by simpa using h1⟩,fun j p hj hp=> ?_⟩;have:=h2 j hj;obtain⟨hl,rfl⟩:=bZ.1 hp
  simpa using this
 ·rintro⟨⟨p,hp,hb⟩,h2⟩;obtain⟨hl,rfl⟩:=bZ.1 hp;refine⟨hl,by simpa using hb,fun j hj=> ?_⟩;have:=h2 j _ hj (aZ (by omega))
  simpa using this
theorem FN {l:List (Int×Int)} {b:Int}:mP l b=none↔∀(j:Nat) (p:Int×Int),l[j]? =some p->p.1≠b:=by
 unfold mP;rw[List.findIdx?_eq_none_iff];constructor
 ·intro h j p hj;have:=h p (dp hj)
  simpa using this
 ·intro h p hp;obtain⟨j,hj⟩:=jY hp
  simpa using h j p hj
def kU (blocks area:Int):Int->List (Int×Int)->Bool
 | _, []=>true
 | last,p::l=>decide (last<p.1)&&decide (p.1<blocks)&&decide (0<=p.2)&&decide (p.2<area)&&kU blocks area p.1 l
def gB (l:List (Int×Int)) (blocks area:Int):Bool:=kU blocks area (-1) l&&decide (l.map (·.2)).Nodup
theorem FQ {l:List (Int×Int)} {k:Nat} {x y:Int} (h:l[k]? =some (x,y)) (blocks area last:Int):
  kU blocks area last (l.drop k)=(decide (last<x)&&decide (x<blocks)&&decide (0<=y)&&decide (y<area)&&kU blocks area x (l.drop (k+1))):=by
 obtain⟨hk,hp⟩:=bZ.1 h;rw[List.drop_eq_getElem_cons hk,hp]
 rfl
structure SN where
 id:Int
 ch:List Int
 tb:List (Int×Int)
structure SN.Ok (s:SN):Prop where
 id:fG s.id
 ch:aP s.ch
 tb:pM s.tb
def jd (K:Nat) (l:List SN):Prop:=l.length<=K/\∀s ∈ l,s.ch.length<=K/\s.tb.length<=K
theorem yd {α:Type} {l:List α} {k:Nat} {s:α} (h:l[k]? =some s):l.drop k=s::l.drop (k+1):=by
 obtain⟨hk,hp⟩:=bZ.1 h;rw[List.drop_eq_getElem_cons hk,hp]
theorem je {α:Type} {l:List α} {k:Nat} {s:α} (h:l[k]? =some s):l.take (k+1)=l.take k++ [s]:=by
 rw[jZ,h];rfl
def mq:List SN->Int->Nat->Int
 | [],_,_=> -1
 | s::l,id,k=>if s.id=id then(k:Int)else mq l id (k+1)
def kV (l:List SN) (id:Int):Int:=mq l id 0
theorem FR {l:List SN} {id:Int} {k:Nat} {s:SN} (h:l[k]? =some s):mq (l.drop k) id k=if s.id=id then(k:Int)else mq (l.drop (k+1)) id (k+1):=by
 rw[yd h];rfl
theorem FT {l:List SN} {id:Int} {k:Nat} (h:l.length<=k):mq (l.drop k) id k= -1:=by
 rw[List.drop_of_length_le h];rfl
def mr (i:Int):Nat:=i.toNat
def kW (l:List SN) (j:Int):Nat:=if j< (l.length:Int)then j.toNat else l.length
theorem FU (l:List SN) (j:Int):kW l j<=l.length:=by unfold kW;split<;>omega
def jw (s:SN) (bl ar:Int):Bool:=kA s.ch bl&&(gB s.tb bl ar&&s.tb.all fun p=>dE s.ch p.1)
def jf (s:SN):Bool:=decide ((cV s.ch).length=s.tb.length)
def jx (bl ar:Int):Int->List SN->Bool
 | _, []=>true
 | last,s::l=>decide (last<s.id)&&(decide (s.id<=1000000)&&(jw s bl ar&&((decide (l.length=0)||jf s)&&jx bl ar s.id l)))
theorem ye (bl ar last:Int) (s:SN) (l:List SN):jx bl ar last (s::l)=(decide (last<s.id)&&(decide (s.id<=1000000)&&(jw s bl ar&&((decide (l.length=0)||jf s)&&jx bl ar s.id l)))):=rfl
def dK (l:List SN):List Int:=(l.map fun s=>s.tb.map (·.2)).flatten
def eu (l:List SN) (bl ar:Int):Bool:=decide (l.length<=8)&&(jx bl ar 0 l&&decide (dK l).Nodup)
theorem uE (l:List SN) (s:SN):dK (l++ [s])=dK l++s.tb.map (·.2):=by unfold dK;simp
theorem FV {l:List SN} {k:Nat} {s:SN} (h:l[k]? =some s) (bl ar last:Int):jx bl ar last (l.drop k)=(decide (last<s.id)&&(decide (s.id<=1000000)&&(jw s bl ar&&((decide (l.length<=k+1)||jf s)&&jx bl ar s.id (l.drop (k+1)))))):=by
 rw[yd h];rw[ye,dm,show decide (l.length - (k+1)=0)=decide (l.length<=k+1)from by congr 1;simp;omega]
theorem FW {l:List SN} {k:Nat} (h:l.length<=k) (bl ar last:Int):jx bl ar last (l.drop k)=true:=by
 rw[List.drop_of_length_le h];rfl
theorem uF {K:Nat}:∀(l:List SN),(∀s ∈ l,s.tb.length<=K)->(dK l).length<=l.length*K
 | [],_=>by simp[dK]
 | s::l,h=>by
  have:=uF l fun t ht=>h t (ea _ ht);have h1:=h s (dC ..);show(((s::l).map fun s=>s.tb.map (·.2)).flatten).length<=_;rw[List.map_cons,kN,cE,dV,bz];rw[Nat.add_mul];unfold dK at this;omega
end
section
theorem jg {W:ah} {B:Nat} {c:List ak} {t:aR} (h:W.heap[B]? =some (an c.toArray t (0,0))):W.rangeAt B 0 c:=fun j x hx=>by
 rw[dq _ _ _ _ _ _ h,dP]
 simpa using hx
def aq (x:ah) (B:Nat) (t:aR) (C:List ak):Prop:=x.heap[B]? =some (an C.toArray t (0,0))
section
variable {x y:ah} {B:Nat} {t:aR} {C:List ak}
theorem aq.lt (h:aq x B t C):B<x.heap.size:=(bL.1 h).1
theorem aq.below (h:aq x B t C) (hb:ag x.heap.size x y):aq y B t C:=(hb.block B h.lt).trans h
theorem aq.belowN {N:Nat} (h:aq x B t C) (hb:ag N x y) (hB:B<N):aq y B t C:=(hb.block B hB).trans h
theorem aq.range (h:aq x B t C):x.rangeAt B 0 C:=jg h
theorem aq.cell (h:aq x B t C) (j:Nat) (v:ak) (hj:C[j]? =some v):x.cell? ⟨B,j,none⟩=some v:=by
 have:=h.range j v hj
 rwa [dP]at this
theorem aq.frozen (h:aq x B t C) (j:Nat):x.frozen? ⟨B,j,none⟩=false:=by
 have h':x.heap[B]? =some (an C.toArray t (0,0)):=h;simp[World.frozen?,h']
theorem aq.set (h:aq x B t C) (j:Nat) (v:ak):aq (x.setCell ⟨B,j,none⟩ v) B t (C.set j v):=by
 have h':x.heap[B]? =some (an C.toArray t (0,0)):=h;obtain⟨hlt,hk⟩:=bL.1 h';show(x.heap.modify B _)[B]? =_;rw[Array.getElem?_eq_getElem (by rw[Array.size_modify];exact hlt),Array.getElem_modify_self,hk];simp
theorem aq.new (x:ah) (t:aR) (C:List ak):aq (x.alloc (an C.toArray t)) x.heap.size t C:=cD x _
end
theorem aH (x:ah) (o:Obj):ag x.heap.size x (x.alloc o):=(aI _ x).alloc (aG _) _
theorem dQ {x x':ah} {N e sz n:Nat} {v:ak} {xs:List ak} (h:x.ownsRow N e sz v n xs) (hb:ag x.heap.size x x'):x'.ownsRow N e sz v n xs:=by
 refine⟨h.1, ?_⟩;rcases h.2 with h' | ⟨g,cap,cur,rfl,a1,a2,a3⟩
 ·exact aA h'
 ·exact aD ⟨g,cap,cur,rfl,a1,(hb.block g (bL.1 a2).1).trans a2,a3⟩
theorem fz {x:ah} {N e sz n B:Nat} {v:ak} {xs C:List ak} {t:aR} (h:x.ownsRow N e sz v n xs) (hB:aq x B t C) (hne:e≠t):v.ownBlock≠some B:=by
 rcases h.2 with⟨rfl,_⟩ | ⟨g,cap,cur,rfl,_,hg,_⟩
 ·simp[jb]
 ·intro e';obtain rfl:g=B:=by simpa [jb]using e'
  have hB':x.heap[g]? =some (an C.toArray t (0,0)):=hB;rw[hg]at hB';cases hB';exact hne rfl
theorem mQ {x:ah} {N N' e e' sz sz' n n':Nat} {v v':ak} {xs xs':List ak} (h:x.ownsRow N e sz v n xs) (h':x.ownsRow N' e' sz' v' n' xs') (hne:e≠e'):v.ownBlock=none\/v.ownBlock≠v'.ownBlock:=by
 rcases h.2 with⟨rfl,_⟩ | ⟨g,cap,cur,rfl,_,hg,_⟩
 ·exact aA rfl
 ·right
  rcases h'.2 with⟨rfl,_⟩ | ⟨g',cap',cur',rfl,_,hg',_⟩
  ·simp[jb]
  ·intro ee;obtain rfl:g=g':=by simpa [jb]using ee
   rw[hg]at hg';cases hg';exact hne rfl
theorem fH (W:ah) (b j:Nat) (v:ak):W.grownBy (W.setCell ⟨b,j,none⟩ v) (some b):=
 ⟨rfl,rfl,rfl,(KeepsWalks.setCell W _ v).size,fun k _ hk=>eG _ _ _ k (fun e=>hk (by rw[e]))⟩
theorem aq.grown {x y:ah} {B:Nat} {t:aR} {C:List ak} {row:Option Nat} (h:aq x B t C) (hg:x.grownBy y row) (hne:row≠some B):aq y B t C:=(hg.block B h.lt (fun e=>hne e.symm)).trans h
theorem ke {W:ah} {base sz n:Nat} {e:aR} {v:ak} {xs:List ak} (h:W.ownsRow base e sz v n xs):∃ra c,v=af ra n c/\(0<n->∃g,ra=some ⟨g,0,none⟩/\g<W.heap.size/\W.rangeAt g 0 xs):=by
 rcases h.2 with⟨rfl,rfl⟩ | ⟨g,cap,cur,rfl,_,hg,_⟩
 ·exact⟨_,_,rfl,fun h=>absurd h (by omega)⟩
 ·refine⟨_,_,rfl,fun _=>⟨g,rfl,(bL.1 hg).1,fun j u hj=> ?_⟩⟩;have:=h.cells (g:=g) rfl j u hj
  rwa [Addr.add_mid]at this
end
section
def cz (c:List ak):Prop:=∃bs:List Int,bs.length=64/\c=bs.map (Value.int ay)
theorem cz.length {c:List ak} (h:cz c):c.length=64:=by obtain⟨bs,h1,rfl⟩:=h;simp[h1]
theorem cz.one {c:List ak} (h:cz c):∀v ∈ c,v.oneCell'=true:=by
 obtain⟨bs,h1,rfl⟩:=h;intro v hv;obtain⟨x,_,rfl⟩:=cM.1 hv
 rfl
theorem cz.all {c:List ak} (h:cz c):c.toArray.all (·.oneCell')=true:=ky h.one
def bf (v:Int):List ak:=bg 64 (ab ay v)
theorem eV (v:Int):cz (bf v):=⟨bg 64 v,by simp,by simp[bf]⟩
theorem FY {a b:Int} (h:bf a=bf b):a=b:=by
 unfold bf at h
 simpa [List.replicate_succ]using h
def cF:Array ak:=(bf 0).toArray
theorem gk:cF.size=64:=by simp[cF,bf]
theorem uG:aj.underlying 51 =some (.array 64 5):=by kernel_rfl
theorem yf:(aj.info? 51).map (fun i=>(i.zero,i.size,i.bytes))=some (some (al cF),64,64):=by kernel_rfl
theorem rn:(aj.info? 51).map (·.size)=some 64:=by kernel_rfl
theorem bC (w:ah):(zeroValue 51).run aj w=.ok (al cF) w:=by kernel_rfl
theorem bD (w:ah):(df 51 #[]).run aj w=.ok (al cF) w:=by kernel_rfl
theorem gl {w:ah} {b o:Nat} {c:List ak} (hc:w.rangeAt b o c) (h:c.length=64):(aE 51 ⟨b,o,none⟩).run aj w=.ok (al c.toArray) w:=
 jF w b o _ c _ hc uG rfl (by rw[h];exact rn)
theorem pN {w:ah} {b o:Nat} {c:List ak} (ht:w.there b o 64) (h:cz c):(aL 51 ⟨b,o,none⟩ (al c.toArray)).run aj w=.ok () (w.setCells b o c):=by
 have:=run_storeVar_mid (P:=aj) w b o 51 c.toArray (by simpa [h.length]using ht) (by simpa [h.length]using rn) h.all
 simpa using this
theorem rt {w:ah} {c:Array ak} (h:c.size=64):(aE 51 ⟨w.heap.size,0,none⟩).run aj (w.alloc (an c 51))=.ok (al c) (w.alloc (an c 51)):=
 run_loadVar_new w _ c _ _ uG (by rw[h];exact rn)
theorem oD {w:ah} {c:Array ak} {c':List ak} (h:c.size=64) (h':cz c'):(aL 51 ⟨w.heap.size,0,none⟩ (al c'.toArray)).run aj (w.alloc (an c 51))=.ok () (w.alloc (an c'.toArray 51)):=
 kQ w _ c c'.toArray (by simpa [h'.length]using rn) (by simpa [h'.length]using h) h'.all
theorem ev {P:Program} {fn:Func} {p:Tmp} {ty:aR} {tmps:Array ak} {w:ah} {ad:aF} {v:ak} (h:fn.results=#[.cell p ty]) (ha:tmps.getD p az=am (some ad)) (hl:(aE ty ad).run P w=.ok v w):
  (results fn tmps).run P w=.ok v w:=by
 have e:(asAddr (am (some ad))).run P w=.ok ad w:=by simp[asAddr]
 have ha':tmps[p]?.getD az=am (some ad):=by simpa using ha
 simp[results,h,gK,Result.andThen,ha',e,hl]
theorem eH {P:Program} {fn:Func} {p u:Tmp} {ty:aR} {tmps:Array ak} {w:ah} {ad:aF} {v:ak} (h:fn.results=#[.cell p ty,.tmp u]) (ha:tmps.getD p az=am (some ad)) (hl:(aE ty ad).run P w=.ok v w):
  (results fn tmps).run P w=.ok (aQ #[v,tmps.getD u az]) w:=by
 have e:(asAddr (am (some ad))).run P w=.ok ad w:=by simp[asAddr]
 have ha':tmps[p]?.getD az=am (some ad):=by simpa using ha
 simp[results,h,gK,Result.andThen,ha',e,hl]
theorem fe (t:aR) (h:t≠ 51) (a:aF):aE t a=(do if←isAgg t then pure (al (←loadCells a (←sizeOf t)))else load a):=rfl
theorem ez (t:aR) (h:t≠ 51) (a:aF) (v:ak):aL t a v=(do
  if v.cells.size≠(←sizeOf t)then stuck "storeVar: the value has not the size of the variable"
  storeCells a v.cells.toList):=rfl
theorem uH {P:Program} {t:aR} (ht:P.plainKey t=true) (hu:P.underlying t=some (.int ay)) (d:Nat) (xs ys:List Int) (w:ah):∀is:List Nat,(∀i ∈ is,i<xs.length/\i<ys.length)->
  (Op.eqItems (d+1) t 1 (xs.map (Value.int ay)).toArray (ys.map (Value.int ay)).toArray is).run P w=.ok (is.all fun i=>xs[i]?.getD 0==ys[i]?.getD 0) w
 | [],_=>by simp[Op.eqItems]
 | i::is,h=>by
  obtain⟨h1,h2⟩:=h i (by simp);have e1:(xs.map (Value.int ay)).toArray[i]? =some (ab ay (xs[i]?.getD 0)):=by simp[h1]
  have e2:(ys.map (Value.int ay)).toArray[i]? =some (ab ay (ys[i]?.getD 0)):=by simp[h2]
  simp only[Op.eqItems,gK,Nat.mul_one,run_part_plain w ht e1,run_part_plain w ht e2,ek,run_equalIn_int w d t ay ay _ _ hu];by_cases e:(xs[i]?.getD 0==ys[i]?.getD 0)=true
  ·simp only[e,Bool.not_true,Bool.false_eq_true,if_false,List.all_cons,jX];exact uH ht hu d xs ys w is fun j hj=>h j (by simp[hj])
  ·simp only[Bool.not_eq_true]at e;simp only[e,Bool.not_false,if_true,List.all_cons,Bool.false_and,Sem.run_pure]
noncomputable def jh (a b:List ak):Bool:= @decide (a=b) (Classical.propDecidable _)
theorem ns {a b:List ak}:jh a b=true↔a=b:=by unfold jh;simp
theorem FZ (a:List ak):jh a a=true:=ns.2 rfl
theorem yh {a b:List ak} (h:a≠b):jh a b=false:=by
 cases e:jh a b with
 | false=>rfl
 | true=>exact absurd (ns.1 e) h
theorem uI {a b:List ak} (ha:cz a) (hb:cz b) (w:ah):(jG 10000 51 (al a.toArray) (al b.toArray)).run aj w=.ok (jh a b) w:=by
 obtain⟨xs,hx,rfl⟩:=ha;obtain⟨ys,hy,rfl⟩:=hb;obtain⟨i0,hi⟩:∃i,aj.info? 5 =some i:=Option.isSome_iff_exists.1 (show(aj.info? 5).isSome=true by kernel_rfl);rw[run_equalIn_array w 9999 (xs.map (Value.int ay)).toArray (ys.map (Value.int ay)).toArray uG hi,show aj.cellsOf 5 =1 from by kernel_rfl,
  uH (d:=9998) (by kernel_rfl) (by kernel_rfl) xs ys w (cI 64) (fun i hi=>by have:=dJ.1 hi;omega)]
 congr 1
 rw[iY,ns,iZ];constructor
 ·intro h
  congr 1
  apply List.ext_getElem (by omega);intro i h1 h2;have:=h i (dJ.2 (by omega))
  simpa [h1,h2]using this
 ·intro h i hi;have hxy:xs=ys:=by
   have e:=congrArg (List.map aS) h;rw[iX,iX,show aS ∘ Value.int ay=id from by funext x;rfl]at e
   simpa using e
  simp[hxy]
theorem yi (a b:Int) (w:ah):(jG 10000 51 (al (bf a).toArray) (al (bf b).toArray)).run aj w=.ok (a==b) w:=by
 rw[uI (eV a) (eV b)]
 congr 1
 rw[iY,ns,beq_iff_eq];exact⟨FY,fun h=>by rw[h]⟩
theorem Ga (a:Int) (w:ah):(jG 10000 51 (al (bf a).toArray) (al cF)).run aj w=.ok (a==0) w:=yi a 0 w
theorem uJ {n k:Nat} {C:Nat->Prop} (h:wrap64 ((k:Int)+1)=(k:Int)+1) (hk:k<n) (hC:C (k+1)):∃k':Nat,k'<=n/\Value.int ac (wrap64 ((k:Int)+1))=Value.int ac (k':Int)/\C k':=
 ⟨k+1,hk,by rw[h];simp,hC⟩
theorem uK {n k:Nat} (h:wrap64 ((k:Int)+1)=(k:Int)+1) (hk:k<n):n - (aS (Value.int ac (wrap64 ((k:Int)+1)))).toNat<n - (aS (Value.int ac (k:Int))).toNat:=by
 rw[h];simp only[aS];omega
structure Sec where
 c:List ak
 vs:List (List ak)
def Sec.Ok (s:Sec):Prop:=cz s.c/\∀v ∈ s.vs,cz v
def Sec.look (s:Sec):List ak:=s.vs.getLast?.getD s.c
def Sec.add (s:Sec) (b:List ak):Sec:=if 255<s.vs.length then⟨s.c,s.vs.set 255 b⟩else⟨s.c,s.vs++ [b]⟩
def Sec.settle (s:Sec) (k:Nat):Sec:=⟨if k=0 then s.c else s.vs[k - 1]?.getD s.c, []⟩
theorem Sec.Ok.look {s:Sec} (h:s.Ok):cz s.look:=by
 unfold Sec.look;cases e:s.vs.getLast? with
 | none=>exact h.1
 | some v=>exact h.2 v (List.mem_of_getLast? e)
theorem Sec.Ok.add {s:Sec} {b:List ak} (h:s.Ok) (hb:cz b):(s.add b).Ok:=by
 unfold Sec.add;split
 ·exact⟨h.1,fun v hv=>by rcases List.mem_or_eq_of_mem_set hv with h' | rfl;exact h.2 v h';exact hb⟩
 ·exact⟨h.1,fun v hv=>by rcases gc.1 hv with h' | h';exact h.2 v h';rw[eF.1 h'];exact hb⟩
theorem Sec.Ok.settle {s:Sec} {k:Nat} (h:s.Ok):(s.settle k).Ok:=by
 refine⟨?_,fun v hv=>by cases hv⟩;unfold Sec.settle
 dsimp only
 split
 ·exact h.1
 ·cases e:s.vs[k - 1]? with
  | none=>exact h.1
  | some v=>exact h.2 v (dp e)
theorem Sec.look_none {s:Sec} (h:s.vs= []):s.look=s.c:=by simp[Sec.look,h]
theorem Sec.look_some {s:Sec} (h:s.vs≠ []):s.look=s.vs[s.vs.length - 1]?.getD s.c:=by
 unfold Sec.look;rw[List.getLast?_eq_getElem?]
theorem Gb {vs:List (List ak)} (h:∀v ∈ vs,cz v) {k:Nat} {v:List ak} (hk:vs[k]? =some v) (j:Nat) (hj:j<64):vs.flatten[k*64+j]? =v[j]? :=by
 induction vs generalizing k with
 | nil=>simp at hk
 | cons x l ih=>
  have hx:=(h x (by simp)).length;cases k with
  | zero=>
   obtain rfl:x=v:=by simpa using hk
   rw[kN,fS (by omega)];simp
  | succ k=>
   rw[kN,fv (by omega),hx,show(k+1)*64+j - 64=k*64+j by omega];exact ih (fun v hv=>h v (by simp[hv])) (by simpa using hk)
def upd {α:Type} (D:Nat->α) (i:Nat) (s:α):Nat->α:=fun j=>if j=i then s else D j
theorem kg {α:Type} (D:Nat->α) (i:Nat) (s:α):upd D i s i=s:=if_pos rfl
theorem ji {α:Type} (D:Nat->α) {i j:Nat} (s:α) (h:j≠i):upd D i s j=D j:=if_neg h
end
section
section
variable {l n:Nat} {P:Program} {ops:Array Oper} {Q:Exit->Act->ah->Prop} {md:Region.Mode}
theorem uL {o:Oper} {a:Act} {w:ah} {K:Act->ah->Prop} (hd:∀c,o.op≠ .defer c) (h:o.wp P a w K Q):o.wpIn (Fence.wide.inRound l) n P a w K Q:=by
 unfold Oper.wpIn;refine⟨fun _ _=>trivial, ?_⟩;rw[Oper.semAt_eq _ _ _ hd];unfold Oper.wp at h;generalize (execOp a.eval o).run P w=r at *;cases r with
 | ok x w'=>
  cases x<;>simp only[Oper.upon,Oper.uponIn]at h ⊢<;>
   first
    | exact h
    | exact⟨fun e=>by simp[Fence.wide]at e,CallsIn.inRound l (callsIn_wide.2 h)⟩
    | exact⟨fun e=>by simp[Fence.wide]at e,fun c cs _=>let⟨v,w',r,s⟩:=h c cs;⟨v,w',r,stepsIn_wide.2 s⟩⟩
 | halt x w'=>cases x<;>simp only[Oper.upon,Oper.uponIn]at h ⊢<;>exact h
def kY (ops:Array Oper):Bool:=ops.all fun o=>match o.op with | .defer _=>false | _=>true
theorem ru {i:Nat} {o:Oper} (h:kY ops=true) (hi:ops[i]? =some o):∀c,o.op≠ .defer c:=by
 intro c e;unfold kY at h;rw[Array.all_eq_true]at h;obtain⟨hlt,hk⟩:=bL.1 hi;have:=h i hlt;rw[hk,e]at this;cases this
theorem Gc {i:Nat} {a:Act} {w:ah} {K:Act->ah->Prop} (hL:¬LetsOut Q) (hd:kY ops=true) (h:wpOp P ops Q i K a w):wpOpIn (Fence.wide.inRound l) n P ops Q i K a w:=by
 unfold wpOp at h;unfold wpOpIn;cases ho:ops[i]? with
 | none=>simpa [ho]using h
 | some o=>
  simp only[ho]at h ⊢;by_cases hw:Region.wanted o (yielded ops a.tmps)=true
  ·simp only[hw,if_true]at h ⊢;rcases h with h | h
   ·exact uL (ru hd ho) h
   ·exact absurd h.2 hL
  ·simp only[hw]at h ⊢;exact⟨fun _ _=>trivial,h⟩
theorem uM (hL:¬LetsOut Q) (hd:kY ops=true):∀(fuel:Nat) (listed:Array Bool) (a:Act) (w:ah),wpAny P md ops Q fuel listed a w->wpAnyIn (Fence.wide.inRound l) n P md ops Q fuel listed a w
 | 0,_,_,_,h=>h
 | fuel+1,listed,a,w,h=>⟨h.1,fun i hi=>wpOpIn_mono (fun a w=>uM hL hd fuel _ a w) (Gc hL hd (h.2 i hi))⟩
theorem Gd {id:Nat} {a:Act} {w:ah} {l':List Oper} (k:Nat) (hL:¬LetsOut Q) (hd:kY l'.toArray=true) (hm:P.follows .mixedOrders=true) (hB:Region.lexTailB .any l'.toArray k=true)
  (h:wpStill P l'.toArray w.drew (fun a'=>wpList P l'.toArray Q (l'.drop k) a' w.drew) (l'.take k) a):(Code.region id l'.toArray true).wpIn (Fence.wide.inRound l) n P Q a w:=by
 simp only[Region.lexTailB,cm,decide_eq_true_eq]at hB;obtain⟨⟨⟨⟨hsel,hn⟩,hs⟩,hc⟩,hlex⟩:=hB;have htl:(l'.take k).length=k:=by simp at hn ⊢;omega
 have hdl:(l'.drop k).length=l'.toArray.size - k:=by simp
 have inv0:HeadInv .any l'.toArray k (Array.replicate l'.toArray.size false):=
  ⟨by simp,fun j oj _ hl=>(by rw[getD_replicate_false]at hl;cases hl),fun t _ ht=>getD_in (by simpa using ht) (getD_replicate_false _ _)⟩
 have H:=wpAnyL_lex (md:=.any) (g:=l'.toArray.size - k) hsel hs hc hn (l'.take k) 0 _ a (fun j hj=>by
  have hj':j<k:=by rw[htl]at hj;exact hj
  simp[hj']) (by simpa using htl) inv0 (by rw[htl];exact hlex) h
 refine wpIn_region_any hm (uM hL hd _ _ _ _ ?_);have:=wpAny_of_head (Q':=Q) (g:=l'.toArray.size - k) (fun listed a' hL=>by
  have:=wpAny_of_seq (md:=.any) (Q':=Q) (l'.drop k) k listed a' w.drew (fun j=>by simp[lI]) (by rw[hdl];exact hL.1) hL.2
  rwa [hdl]at this) _ _ _ H
 rw[htl,show k+(l'.toArray.size - k)=l'.toArray.size from by simp at hn ⊢;omega]at this;exact this
theorem iL {id:Nat} (h:¬LetsOut Q):¬LetsOut (Exit.inBlock id Q):=fun⟨a,w,e⟩=>h ⟨a,w,e⟩
end
theorem Ge {F:Fence} {n:Nat} {P:Program} (w:ah) {ops:Array Oper} {rest:List Oper} {o:Oper} {a:Act} {Q:Exit->Act->ah->Prop}
  (hg:o.guard=none) (l c:Operand) (t:aR) (hop:o.op=Op.makeSlice t l c)
  (base:Nat) (e:aR) (i:TypeInfo) (z:ak) (size:Nat) (h1:P.underlying t=some (.slice e)) (h2:P.info? e=some i) (h3:i.zero=some z) (h4:i.size=size)
  (kl kc:IntKind) (L C:Int) (m:Nat) (hl:a.eval l=ab kl L) (hc:a.eval c=ab kc C) (hL:L=(m:Int)) (hC:C=(m:Int)) (b2:i.bytes*m<=281474976710656) (b3:m<=aY) (b4:base<=w.heap.size)
  (hK:∀w',w'.ownsRow base e size (af (some ⟨w.heap.size,0,none⟩) m m) m (madeCells z.cells (m*size)).toList->w.grownBy w' none->wpListIn F n P ops Q rest (a.put o.dst (af (some ⟨w.heap.size,0,none⟩) m m)) w'):
  wpListIn F n P ops Q (o::rest) a w:=by
 refine wpListIn_plain hg fun K hK'=> ?_;obtain⟨w',hrun,r1,r2⟩:=run_make_full (P:=P) w base t e i z size h1 h2 h3 h4 kl kc m b2 b3 b4;subst hL;subst hC;unfold Oper.wpIn;refine⟨?_, ?_⟩
 ·simp[Oper.about,hop]
 ·rw[Oper.semAt_plain F _ _ (by rw[hop];intro c hc';cases hc')];simp[execOp,hop,hl,hc,hrun,Result.andThen];exact hK' _ _ (hK w' r1 r2)
theorem uN {β:Type} (n₀ e size:Nat) (v:ak) (k:β->Nat) (f:β->List ak):Own (fun s W=>W.ownsRow n₀ e size v (k s) (f s)):=by
 rintro s X Y row hr hg hrow;refine hr.kept hg ?_;rcases hr.2 with⟨rfl,_⟩ | ⟨g,cap,cur,rfl,_,hgb,_⟩
 ·exact aA rfl
 ·refine aD fun e'=> ?_;obtain⟨o,ho,hc⟩:=hrow g (by simpa [jb]using e'.symm);rw[hgb]at ho;cases ho;cases hc
theorem Gf {w:ah} {base e n g:Nat} {xs:List ak} (h:w.ownsRow base e 1 (af (some ⟨g,0,none⟩) n n) n xs):w.heap[g]? =some (an xs.toArray e (0,0)):=by
 rcases h.2 with⟨h',_⟩ | ⟨g',cap,cur,h',_,hg,_,_,hs,ht⟩
 ·simp at h'
 ·simp only[Value.slice.injEq,Option.some.injEq,Addr.mk.injEq,and_true,true_and]at h';obtain⟨rfl,rfl⟩:=h';rw[hg,←ht,de (by rw[Array.length_toList];omega)]
theorem yj (cur cs:List ak) (h:cur.length=cs.length):splice cur 0 cs=cs:=by
 unfold splice;simp[h]
theorem wpList_append_run {P:Program} {w w':ah} {ops:Array Oper} {rest:List Oper} {o:Oper} {a:Act} {Q:Exit->Act->ah->Prop} (s x:Operand) (t:aR)
  (ho:o.op=.call {callee:=.builtin .append,args:=#[s,x],argTypes:=#[t,t]}) (hw:Region.wanted o (yielded ops a.tmps)=true)
  (vs vx v':ak) (hs:a.eval s=vs) (hx:a.eval x=vx) (hrun:(Builtin.append_ #[t,t] o.type #[vs,vx]).run P w=.ok v' w')
  (h:wpList P ops Q rest (a.put o.dst v') w'):wpList P ops Q (o::rest) a w:=by
 unfold wpList;rw[if_pos hw];refine aA ?_;unfold Oper.wp;simp[execOp,ho,resolve,invoke,builtin,hs,hx,hrun,Result.andThen];exact h
theorem yk {P:Program} {w w':ah} {ops:Array Oper} {rest:List Oper} {o:Oper} {a:Act} {Q:Exit->Act->ah->Prop} (s:Operand) (t:aR) (lo hi:Option Operand)
  (ho:o.op=.slice t s lo hi none) (hw:Region.wanted o (yielded ops a.tmps)=true)
  (vs v':ak) (l h:Option ak) (hs:a.eval s=vs) (hl:lo.map a.eval=l) (hh:hi.map a.eval=h) (hrun:(Instr.sliceAt t vs l h none).run P w=.ok v' w')
  (hK:wpList P ops Q rest (a.put o.dst v') w'):wpList P ops Q (o::rest) a w:=by
 unfold wpList;rw[if_pos hw];refine aA ?_;unfold Oper.wp;simp[execOp,ho,hs,hl,hh,hrun,Result.andThen];exact hK
theorem yl (k:Nat) {P:Program} {ops:Array Oper} {Q:Exit->Act->ah->Prop} {rest:List Oper} {a:Act} {w:ah} {dst:Option Tmp} {t ty:aR} {lo hi mx:Option Operand} {pos:String} {after:Array Edge} {guard:Option (Nat×Bool)}
  (h:wpList P ops Q ({dst:=dst,op:=.slice t (.tmp k) lo hi mx,type:=ty,pos:=pos,after:=after,guard:=guard}::rest) a w):
  wpList P ops Q ({dst:=dst,op:=.slice t (.tmp k) lo hi mx,type:=ty,pos:=pos,after:=after,guard:=guard}::rest) a w:=h
theorem rx {α:Type} {Kp:ah->ah->Prop} {I:List α->ah->Prop} {Ix:Code->List α->ah->Prop} {xs:List α} {W:ah}:¬LetsOut (ownPostK Kp I Ix xs W):=fun⟨a,w,e⟩=>e.elim
end
section
def pO:Op->Bool
 | .move _ | .assign _ | .pick .. | .load .. | .binOp .. | .unOp .. | .convert .. | .fieldAddr .. | .field .. | .indexAddr .. | .index .. | .extract .. | .build .. | .slice .. | .nilCheck _=>true
 | .call {callee:=.builtin .len,..}=>true
 | _=>false
theorem uO {α:Type} {s:Result α} {f:α->ak} {n:Next} {w':ah} (h:(s.andThen fun v w=>Result.ok (Next.value (f v)) w)=.ok n w'):∃v,n=.value v:=by
 cases s with
 | ok v w=>simp[Result.andThen]at h;exact⟨_,h.1.symm⟩
 | halt x w=>simp[Result.andThen]at h
theorem ym {α:Type} {s:Result α} {g:α->ah->Result Next} {n:Next} {w':ah} (hg:∀a w n w',g a w=.ok n w'->∃v,n=.value v) (h:s.andThen g=.ok n w'):∃v,n=.value v:=by
 cases s with
 | ok v w=>exact hg _ _ _ _ h
 | halt x w=>simp[Result.andThen]at h
section
variable {P:Program} {ops:Array Oper} {Q:Exit->Act->ah->Prop} {md:Region.Mode} {S:ah->Prop}
theorem Gg {o:Oper} {ρ:Operand->ak} {w w':ah} {n:Next} (h:pO o.op=true) (hr:(execOp ρ o).run P w=.ok n w'):∃v,n=.value v:=by
 obtain⟨dst,op,ty,pos,aft,gd⟩:=o;cases op;case nilCheck x=>
  unfold execOp at hr
  dsimp only at hr
  revert hr;split
  ·intro hr;simp[runtimePanic]at hr
  ·intro hr;simp[runtimePanic]at hr
  ·intro hr;simp[runtimePanic]at hr
  ·split
   ·intro hr;simp[runtimePanic]at hr
   ·intro hr;simp only[gK]at hr;refine ym (fun a w n w' hr=>ym (fun a w n w' hr=> ?_) hr) hr;split at hr
    ·simp[unsupported]at hr
    ·simp at hr;exact⟨_,hr.1.symm⟩
   ·intro hr;simp at hr;exact⟨_,hr.1.symm⟩
  ·intro hr;simp at hr;exact⟨_,hr.1.symm⟩
 case call c=>
  obtain⟨callee,args,at_⟩:=c;cases callee<;>simp[pO]at h
  rename_i b;cases b<;>simp at h
  simp only[execOp,gK,resolve,invoke,builtin,Sem.run_pure,ek]at hr;exact uO (f:=id) hr
 all_goals first
  | (simp[pO]at h;done)
  | (simp only[execOp,gK,Sem.run_pure]at hr;exact uO (f:=id) hr)
  | (simp only[execOp,gK,Sem.run_pure]at hr;exact uO hr)
  | (simp[execOp]at hr;exact⟨_,hr.1.symm⟩)
  | skip
theorem uP {i:Nat} {o:Oper} {a:Act} {K:Act->Prop} (hrd:pO o.op=true) (hne:∃w,S w) (h:if Region.wanted o (yielded ops a.tmps)then o.quiet P a S K else K (a.put o.dst az)):
  ∃v,YieldsIf P ops S o v a/\K (a.put o.dst v):=by
 by_cases hw:Region.wanted o (yielded ops a.tmps)=true
 ·rw[if_pos hw]at h;obtain⟨v,h1,h2⟩:=h;refine⟨v,aA ⟨hw,fun w hS=> ?_⟩,h2⟩;have h3:=h1 w hS;unfold Oper.quietAt at h3;cases hr:(execOp a.eval o).run P w with
  | ok n w'=>
   obtain⟨u,rfl⟩:=Gg hrd hr;rw[hr]at h3;obtain⟨rfl,rfl⟩:=h3
   rfl
  | halt x w'=>rw[hr]at h3;exact h3.elim
 ·rw[if_neg hw]at h;exact⟨az,aD ⟨by simpa using hw,rfl⟩,h⟩
def kB (P:Program) (md:Region.Mode) (ops:Array Oper) (Q:Exit->Act->ah->Prop) (S:ah->Prop) (n:Nat) (L:Array Bool->Act->ah->Prop):Nat->Array Bool->Act->ah->Prop
 | 0,listed,a,w=>L listed a w
 | f+1,listed,a,w=>Region.ready md ops listed≠ []/\∀i ∈ Region.ready md ops listed,i<n/\wpOp P ops Q i (fun a' w'=>S w'/\kB P md ops Q S n L f (listed.setIfInBounds i true) a' w') a w
theorem uQ {n g:Nat} {L:Array Bool->Act->ah->Prop} (hL:∀listed a w,L listed a w->wpAny P md ops Q g listed a w):
  ∀(f:Nat) (listed:Array Bool) (a:Act) (w:ah),kB P md ops Q S n L f listed a w->wpAny P md ops Q (f+g) listed a w
 | 0,listed,a,w,h=>by rw[dP];exact hL _ _ _ h
 | f+1,listed,a,w,h=>by
  rw[show f+1+g=(f+g)+1 by omega];exact⟨fun h0=>absurd h0 h.1,fun i hi=>wpOp_mono (fun a' w' h'=>uQ hL f _ a' w' h'.2) (h.2 i hi).2⟩
theorem yn {n i:Nat} {oi:Oper} {v:ak} {L:Array Bool->Act->ah->Prop} (hi:ops[i]? =some oi) (hsel:∀(j:Nat) (o:Oper) cs b,ops[j]? =some o->o.op≠ .select cs b)
  (hQ:∀c a w,Q (.panic c) (a.put oi.dst v) w->Q (.panic c) a w)
  (hs:Region.sinkB md ops n=true) (hc:Region.chainB md ops n=true) (hn:n<ops.size) (hin:i<n)
  (hdone:∀listed a w,L listed a w->∀j ∈ Region.ready md ops listed,n<=j):
  ∀(f:Nat) (listed:Array Bool) (a:Act) (w:ah),HeadInv md ops n listed->
   (∀j oj,ops[j]? =some oj->j≠i->listed.getD j true=false->(∀e ∈ oj.after,Region.binds md e=true->e.on≠i)->oi.apart ops oj=true)->
   i ∈ Region.ready md ops listed->YieldsIf P ops S oi v a->S w->
   kB P md ops Q S n L f (listed.setIfInBounds i true) (a.put oi.dst v) w->kB P md ops Q S n L (f+1) listed a w:=by
 intro f
 induction f with
 | zero=>
  intro listed a w inv _ hr hy hS H;have hun:=(mem_ready.1 hr).1;refine⟨fun h=>(by rw[h]at hr;cases hr),fun j hj=> ?_⟩;have hjn:j<n:=by
   rcases Nat.lt_or_ge j n with h | h
   ·exact h
   ·exact absurd hj (tail_waits hs hc hn inv _ i rfl hin hun j h)
  refine⟨hjn, ?_⟩;by_cases hji:j=i
  ·subst hji;exact hy.wpOp hi hS ⟨hS,H⟩
  ·have:=hdone _ _ _ H j (ready_mono hj hji);omega
 | succ f ih=>
  intro listed a w inv hfree hr hy hS H;have hun:=(mem_ready.1 hr).1;refine⟨fun h=>(by rw[h]at hr;cases hr),fun j hj=> ?_⟩;have hjn:j<n:=by
   rcases Nat.lt_or_ge j n with h | h
   ·exact h
   ·exact absurd hj (tail_waits hs hc hn inv _ i rfl hin hun j h)
  refine⟨hjn, ?_⟩;by_cases hji:j=i
  ·subst hji;exact hy.wpOp hi hS ⟨hS,H⟩
  ·have h1:=(H.2 j (ready_mono hj hji)).2;obtain⟨hjun,oj,hoj,hall⟩:=mem_ready.1 hj;have hnot:∀e ∈ oj.after,Region.binds md e=true->e.on≠i:=fun e he hb heq=>by
    have h1:=hall e he hb;rw[heq,getD_both hun]at h1;cases h1
   have h2:=wpOp_putIf hoj (hfree j oj hoj hji hjun hnot) (fun cs b=>hsel i oi cs b hi) (fun cs b=>hsel j oj cs b hoj) hQ hy h1;have hfree':∀k ok,ops[k]? =some ok->k≠i->(listed.setIfInBounds j true).getD k true=false->
     (∀e ∈ ok.after,Region.binds md e=true->e.on≠i)->oi.apart ops ok=true:=fun k ok hk hki hun hno=>by
    refine hfree k ok hk hki ?_ hno;by_cases hjk:j=k
    ·subst hjk;exact hjun
    ·rw[getD_set_ne true hjk]at hun;exact hun
   refine wpOp_mono (fun a' w' h3=>⟨h3.2.1,ih (listed.setIfInBounds j true) a' w' (inv.set hj hjn) hfree' (ready_mono hr (Ne.symm hji)) h3.1 h3.2.1 ?_⟩) h2;rw[Array.setIfInBounds_comm _ _ hji];exact h3.2.2
inductive Plan where
 | leaf
 | take (i:Nat) (next:Plan)
 | one (i:Nat) (next:Plan)
 | two (i j:Nat) (next1 next2:Plan)
def dL:List Oper->Nat->Oper
 | [],_=>{dst:=none,op:=.move (.tmp 0),type:=0,pos:= "",after:=#[],guard:=none}
 | o::_,0=>o
 | _::l,n+1=>dL l n
theorem aB (o:Oper) (l:List Oper):dL (o::l) 0=o:=rfl
theorem aC (o:Oper) (l:List Oper) (n:Nat):dL (o::l) (n+1)=dL l n:=rfl
theorem pP:∀(l:List Oper) (i:Nat),i<l.length->l[i]? =some (dL l i)
 | [],_,h=>by simp at h
 | o::l,0,_=>rfl
 | o::l,n+1,h=>by rw[List.getElem?_cons_succ];exact pP l n (by simpa using h)
def it (S:ah->Prop) (Q:Exit->Act->ah->Prop) (K:Act->ah->Prop):Exit->Act->ah->Prop
 | .normal,a,w=>S w/\K a w
 | .ret,a,w=>Q .ret a w
 | .exit i,a,w=>Q (.exit i) a w
 | .goto t,a,w=>Q (.goto t) a w
 | .panic c,a,w=>Q (.panic c) a w
 | .outgrown,a,w=>Q .outgrown a w
def em (P:Program) (l:List Oper) (Q:Exit->Act->ah->Prop) (S:ah->Prop) (n:Nat):Plan->Act->ah->Prop
 | .leaf,a,w=>wpList P l.toArray Q (l.drop n) a w
 | .take i next,a,w=>wpQuiet P l.toArray S (fun a'=>em P l Q S n next a' w) [dL l i] a
 | .one i next,a,w=>wpList P l.toArray (it S Q (em P l Q S n next)) [dL l i] a w
 | .two i j n1 n2,a,w=>wpList P l.toArray (it S Q (em P l Q S n n1)) [dL l i] a w/\wpList P l.toArray (it S Q (em P l Q S n n2)) [dL l j] a w
def Plan.takes:List Nat->Plan->Plan
 | [],p=>p
 | i::l,p=>.take i (Plan.takes l p)
def gC (md:Region.Mode) (l:List Oper) (n:Nat):Plan->Nat->Array Bool->Bool
 | .leaf,f,listed=>decide (f=0)&&Region.seqB md l.toArray (l.length - n) n listed
 | .take i next,f,listed=>decide (0<f)&&decide (i<n)&&pO (dL l i).op&&(Region.ready md l.toArray listed).contains i&&Region.free md l.toArray listed i&&gC md l n next (f - 1) (listed.setIfInBounds i true)
 | .one i next,f,listed=>decide (0<f)&&decide (i<n)&&decide (Region.ready md l.toArray listed= [i])&&gC md l n next (f - 1) (listed.setIfInBounds i true)
 | .two i j n1 n2,f,listed=>decide (0<f)&&decide (i<n)&&decide (j<n)&&decide (Region.ready md l.toArray listed= [i,j])&&gC md l n n1 (f - 1) (listed.setIfInBounds i true)&&gC md l n n2 (f - 1) (listed.setIfInBounds j true)
theorem cW {l:List Oper} {n:Nat} {a:Act} {w:ah}:em P l Q S n .leaf a w=wpList P l.toArray Q (l.drop n) a w:=rfl
theorem rz {l:List Oper} {n i:Nat} {p:Plan} {a:Act} {w:ah}:em P l Q S n (.take i p) a w=wpQuiet P l.toArray S (fun a'=>em P l Q S n p a' w) [dL l i] a:=rfl
theorem aT {l:List Oper} {n i:Nat} {p:Plan} {a:Act} {w:ah}:em P l Q S n (.one i p) a w=wpList P l.toArray (it S Q (em P l Q S n p)) [dL l i] a w:=rfl
theorem bt {l:List Oper} {n:Nat} {p:Plan} {a:Act} {w:ah}:em P l Q S n (.takes [] p) a w=em P l Q S n p a w:=rfl
theorem bu {l:List Oper} {n i:Nat} {is:List Nat} {p:Plan} {a:Act} {w:ah}:em P l Q S n (.takes (i::is) p) a w=wpQuiet P l.toArray S (fun a'=>em P l Q S n (.takes is p) a' w) [dL l i] a:=rfl
theorem Gh {o:Oper} {a:Act} {w:ah} {K:Act->ah->Prop} {Q':Exit->Act->ah->Prop} (hp:∀c a w,Q' (.panic c) a w->Q (.panic c) a w) (ho:∀a w,Q' .outgrown a w->Q .outgrown a w) (h:o.wp P a w K Q'):o.wp P a w K Q:=by
 unfold Oper.wp at *;generalize (execOp a.eval o).run P w=r at *;cases r with
 | ok n w'=>
  cases n<;>simp only[Oper.upon]at h ⊢<;>
   first
    | exact h
    | exact Calls.mono h (fun e w'' he=>by cases e<;>first | exact he | exact hp _ _ _ he | (obtain⟨a',w',h'⟩:=he;exact⟨a',w',ho _ _ h'⟩))
 | halt x w'=>cases x<;>simp only[Oper.upon]at h ⊢<;>first | exact h | exact hp _ _ _ h | exact ho _ _ h
theorem oE {l:List Oper} {i:Nat} {K:Act->ah->Prop} {a:Act} {w:ah} (hi:i<l.length) (h:wpList P l.toArray (it S Q K) [dL l i] a w):
  wpOp P l.toArray Q i (fun a' w'=>S w'/\K a' w') a w:=by
 have ho:l.toArray[i]? =some (dL l i):=by simpa using pP l i hi
 unfold wpOp;simp only[ho];unfold wpList at h;by_cases hw:Region.wanted (dL l i) (yielded l.toArray a.tmps)=true
 ·rw[if_pos hw]at h ⊢;rcases h with h | ⟨h1,a',w',h2⟩
  ·exact aA (Gh (fun _ _ _ h=>h) (fun _ _ h=>h) h)
  ·exact aD ⟨h1,a',w',h2⟩
 ·rw[if_neg hw]at h ⊢;exact h
theorem Gi {l:List Oper} {n:Nat} (hsel:Region.noSelect l.toArray=true) (hs:Region.sinkB md l.toArray n=true) (hc:Region.chainB md l.toArray n=true) (hn:n<l.length) (hQ:∀c (x:Option Tmp) v a w,Q (.panic c) (a.put x v) w->Q (.panic c) a w):
  ∀(p:Plan) (f:Nat) (listed:Array Bool) (a:Act) (w:ah),HeadInv md l.toArray n listed->gC md l n p f listed=true->S w->em P l Q S n p a w->
   kB P md l.toArray Q S n (fun listed' a' w'=>Region.seqB md l.toArray (l.length - n) n listed'=true/\wpList P l.toArray Q (l.drop n) a' w') f listed a w:=by
 have hn':n<l.toArray.size:=by simpa using hn
 intro p
 induction p with
 | leaf=>
  intro f listed a w inv hB hS h;simp only[gC,cm,decide_eq_true_eq]at hB;obtain⟨rfl,hB⟩:=hB;exact⟨hB,h⟩
 | take i next ih=>
  intro f listed a w inv hB hS h;simp only[gC,cm,decide_eq_true_eq]at hB;obtain⟨⟨⟨⟨⟨hf,hin⟩,hrd⟩,hr⟩,hfr⟩,hB⟩:=hB;obtain⟨f,rfl⟩:∃g,f=g+1:=⟨f - 1,by omega⟩;have ho:l.toArray[i]? =some (dL l i):=by simpa using pP l i (by omega)
  have hr':i ∈ Region.ready md l.toArray listed:=by simpa using hr
  simp only[em,wpQuiet]at h;obtain⟨v,hy,hK⟩:=uP (i:=i) hrd ⟨w,hS⟩ h;exact yn ho (Region.noSelect_spec hsel) (fun c a w=>hQ c _ v a w) hs hc hn' hin (fun listed a w hL=>seqB_ready hL.1) f listed a w inv (Region.free_spec ho hfr) hr' hy hS
   (ih f _ _ w (inv.set hr' hin) (by simpa using hB) hS hK)
 | one i next ih=>
  intro f listed a w inv hB hS h;simp only[gC,cm,decide_eq_true_eq]at hB;obtain⟨⟨⟨hf,hin⟩,hr⟩,hB⟩:=hB;obtain⟨f,rfl⟩:∃g,f=g+1:=⟨f - 1,by omega⟩;refine⟨by rw[hr];simp,fun j hj=> ?_⟩;have hj':=hj;rw[hr]at hj;obtain rfl:j=i:=by simpa using hj
  exact⟨hin,wpOp_mono (fun a' w' h'=>⟨h'.1,ih f _ _ w' (inv.set hj' hin) (by simpa using hB) h'.1 h'.2⟩) (oE (by omega) h)⟩
 | two i k n1 n2 ih1 ih2=>
  intro f listed a w inv hB hS h;simp only[gC,cm,decide_eq_true_eq]at hB;obtain⟨⟨⟨⟨⟨hf,hin⟩,hkn⟩,hr⟩,hB1⟩,hB2⟩:=hB;obtain⟨f,rfl⟩:∃g,f=g+1:=⟨f - 1,by omega⟩;obtain⟨g1,g2⟩:=h;refine⟨by rw[hr];simp,fun j hj=> ?_⟩;have hj':=hj;rw[hr]at hj;rcases(by simpa using hj:j=i\/j=k)with rfl | rfl
  ·exact⟨hin,wpOp_mono (fun a' w' h'=>⟨h'.1,ih1 f _ _ w' (inv.set hj' hin) (by simpa using hB1) h'.1 h'.2⟩) (oE (by omega) g1)⟩
  ·exact⟨hkn,wpOp_mono (fun a' w' h'=>⟨h'.1,ih2 f _ _ w' (inv.set hj' hkn) (by simpa using hB2) h'.1 h'.2⟩) (oE (by omega) g2)⟩
def oG (l:List Oper) (n:Nat) (p:Plan):Bool:=
 Region.noSelect l.toArray&&decide (n<l.length)&&Region.sinkB .any l.toArray n&&Region.chainB .any l.toArray n&&gC .any l n p n (Array.replicate l.length false)
theorem yo {l:List Oper} {a:Act} {w:ah} (S:ah->Prop) (n:Nat) (p:Plan) (hB:oG l n p=true) (hQ:∀c (x:Option Tmp) v a w,Q (.panic c) (a.put x v) w->Q (.panic c) a w) (hS:S w)
  (h:em P l Q S n p a w):wpAny P .any l.toArray Q l.toArray.size (Array.replicate l.toArray.size false) a w:=by
 simp only[oG,cm,decide_eq_true_eq]at hB;obtain⟨⟨⟨⟨hsel,hn⟩,hs⟩,hc⟩,hp⟩:=hB;have inv0:HeadInv .any l.toArray n (Array.replicate l.toArray.size false):=
  ⟨by simp,fun j oj _ hl=>(by rw[getD_replicate_false]at hl;cases hl),fun t _ ht=>getD_in (by simpa using ht) (getD_replicate_false _ _)⟩
 have H:=Gi (md:=.any) hsel hs hc hn hQ p n _ a w inv0 (by simpa using hp) hS h;have:=uQ (g:=l.length - n) (fun listed a' w' hL=>by
  have:=wpAny_of_seq (md:=.any) (Q':=Q) (l.drop n) n listed a' w' (fun j=>by simp[lI]) (by rw[dm];exact hL.1) hL.2
  rwa [dm]at this) _ _ _ _ H
 rw[show n+(l.length - n)=l.toArray.size by simp;omega]at this;exact this
theorem du {id:Nat} {a:Act} {w:ah} {l:List Oper} (S:ah->Prop) (n:Nat) (p:Plan) (hm:P.follows .mixedOrders=true) (hB:oG l n p=true) (hQ:∀c (x:Option Tmp) v a w,Q (.panic c) (a.put x v) w->Q (.panic c) a w) (hS:S w.drew)
  (h:em P l Q S n p a w.drew):(Code.region id l.toArray true).wp P Q a w:=
 wp_region_any hm (yo S n p hB hQ hS h)
theorem uR {id fuel l₀:Nat} {a:Act} {w:ah} {l:List Oper} (S:ah->Prop) (n:Nat) (p:Plan) (hL:¬LetsOut Q) (hd:kY l.toArray=true) (hm:P.follows .mixedOrders=true) (hB:oG l n p=true) (hQ:∀c (x:Option Tmp) v a w,Q (.panic c) (a.put x v) w->Q (.panic c) a w) (hS:S w.drew)
  (h:em P l Q S n p a w.drew):(Code.region id l.toArray true).wpIn (Fence.wide.inRound l₀) fuel P Q a w:=
 wpIn_region_any hm (uM hL hd _ _ _ _ (yo S n p hB hQ hS h))
theorem dR {w w':ah} {ops:Array Oper} {rest:List Oper} {o:Oper} {a:Act} {Q:Exit->Act->ah->Prop} (t:aR) (len:Nat) (parts:Array (Nat×Operand))
  (ho:o.op=.buildSlice t len parts) (hw:Region.wanted o (yielded ops a.tmps)=true) (vs:List (Nat×ak)) (v':ak) (hs:(parts.toList.map fun(i,x)=>(i,a.eval x))=vs)
  (hrun:(dh t len vs.toArray).run P w=.ok v' w') (h:wpList P ops Q rest (a.put o.dst v') w'):wpList P ops Q (o::rest) a w:=by
 unfold wpList;rw[if_pos hw];refine aA ?_;have hs':(parts.map fun(i,x)=>(i,a.eval x))=vs.toArray:=by
  apply Array.toList_inj.1;rw[Array.toList_map,hs]
 unfold Oper.wp;simp only[execOp,ho,gK,hs',hrun,ek,Sem.run_pure];exact h
theorem iu {w:ah} {ops:Array Oper} {rest:List Oper} {a:Act} {Q:Exit->Act->ah->Prop} {dst:Option Tmp} {t ty:aR} {len:Nat} {parts:Array (Nat×Operand)} {pos:String} {after:Array Edge} {guard:Option (Nat×Bool)}
  (h:wpList P ops Q ({dst:=dst,op:=.buildSlice t len parts,type:=ty,pos:=pos,after:=after,guard:=guard}::rest) a w):
  wpList P ops Q ({dst:=dst,op:=.buildSlice t len parts,type:=ty,pos:=pos,after:=after,guard:=guard}::rest) a w:=h
theorem aN {K:Act->ah->Prop} {a:Act} {w:ah} (h1:S w) (h2:K a w):it S Q K .normal a w:=⟨h1,h2⟩
end
end
section
theorem oI {w:ah} {base e n:Nat} {v:ak} {k:IntKind} {bs:List Int} (h:w.ownsRow base e 1 v n (bs.map (Value.int k))):Sl k w v bs:=by
 have hl:bs.length=n:=by simpa using h.1
 rcases h.2 with⟨rfl,h0⟩ | ⟨g,cap,cur,rfl,h1,h2,h3,h4,h5,h6⟩
 ·obtain rfl:bs= []:=ka (by omega);exact Sl.nil _ _
 ·subst hl;refine⟨_,cap,rfl,h3,h4,aD ⟨g,0,rfl,(bL.1 h2).1,fun j hj=> ?_⟩,fun e=>by cases e⟩;rw[dq _ _ _ _ _ _ h2];have:(cur.toList.take (bs.length*1))[j]? =(bs.map (Value.int k))[j]? :=by rw[h6]
  rw[kx,if_pos (by omega)]at this;simp only[dP];rw[←Array.getElem?_toList,this];simp[hj]
theorem Gj (u v:ak) (xs:List Int) (w:ah) (hu:Sl ac w u xs) (hv:Sl ac w v xs):
  ap aj 75 #[u,v] w fun e w'=>e=ao (.bool true)/\ag w.heap.size w w':=by
 obtain⟨a,ca,rfl,ha1,ha2,hla, -⟩:=hu;obtain⟨b,cb,rfl,hb1,hb2,hlb, -⟩:=hv;obtain⟨n,hn⟩:=w9nm xs.length;have HN:=ae hn;rw[hn]at ha1 hb1 ⊢;have HM:Hid (n<=aY):=bm ha1 ha2;have HLA:=ae hla;have HLB:=ae hlb;clear hla hlb hn ha1 ha2 hb1 hb2;have hmx:=w9x
 go_enter func75,ntmps75;go_wp2;go_loopw [5] (fun i wr=>∃k:Nat,k<=n/\i=ab ac k/\ag w.heap.size w wr) (fun i _=>n - (aS i).toNat)
 case atStart=>exact⟨0,bc _,rfl,aI _ _⟩
 case round=>
  obtain⟨k,hk,rfl,hB⟩:=hrel;by_cases hlt:k<n
  ·obtain⟨x,hx⟩:=w9nm (xs[k]?.getD 0);obtain⟨ba,oa,rfl,c1⟩:∃ba oa,a=some ⟨ba,oa,none⟩/\wr.cell? ⟨ba,oa+k,none⟩=some (ab ac x):=by
    rcases HLA.out with e | ⟨ba,oa,rfl,h1,h2⟩
    ·have:=HN.out;rw[e]at this;simp at this;omega
    ·exact⟨ba,oa,rfl,(hB.cell (p:=⟨ba,oa+k,none⟩) h1).trans (by rw[←hx];exact h2 k (by rw[HN.out];exact hlt))⟩
   obtain⟨bb,ob,rfl,c2⟩:∃bb ob,b=some ⟨bb,ob,none⟩/\wr.cell? ⟨bb,ob+k,none⟩=some (ab ac x):=by
    rcases HLB.out with e | ⟨bb,ob,rfl,h1,h2⟩
    ·have:=HN.out;rw[e]at this;simp at this;omega
    ·exact⟨bb,ob,rfl,(hB.cell (p:=⟨bb,ob+k,none⟩) h1).trans (by rw[←hx];exact h2 k (by rw[HN.out];exact hlt))⟩
   have g1:(k:Int)< (n:Int):=by omega
   have HLT:=ae hlt;have HB:=ae hB;have HW:Hid (wrap64 ((k:Int)+1)=(k:Int)+1):=kR _ (by have:=HM.out;unfold aY at this;omega);clear hx hlt hk hB;go_wp2_with fail;refine du (fun x=>x=wr.drew) 8 (.takes [0,1,2,3,4,5,6,7] .leaf) hmx (by kernel_rfl) (by intro c x v a w h;cases x<;>exact h) rfl ?_;repeat(rw[bu];simp only[aB,aC];go_big_quiet_step (fail);refine aV ?_)
   rw[bt,cW];simp only[bR,bQ];go_wp2_with fail;exact⟨uJ (C:=fun _=>ag w.heap.size w wr.drew) HW.out HLT.out HB.out.drew,uK HW.out HLT.out⟩
  ·obtain rfl:k=n:=by omega
   have HB:=ae hB;clear hB;go_wp2_with fail;go_ret;exact⟨rfl,HB.out⟩
end
section
open Go.ChangeShapes Go.WideShapes Go.ChangeAt Go.RowKit
theorem own:ownKnob aj.godebug=none:=by kernel_rfl
def Cells (W:ah) (t:aR) (cs:List ak):Prop:=
 ∃(H:Type) (enc:aR×ak->H) (fuel:Nat) (x:DataW H×List MemPlace),DataW.trod enc aj W 0 (fun _=>true) true fuel t cs=some x
def mR (W:ah) (t:aR) (v:ak):Prop:=(∃base,Value.okWide aj W .any base t v)/\Cells W t v.cells.toList
section
variable {W:ah} {t e:aR} {cs:List ak} {v:ak}
theorem Cells.int {k:IntKind} (h:Cells W t cs) (hu:aj.underlying t=some (.int k)):∃n,cs= [ab k n]/\(Lit.int k n).wf=true:=by
 obtain⟨H,enc,fuel,x,hx⟩:=h;obtain⟨a,e1,e2,wa⟩:=DataW.trod_int hu hx;exact⟨a,e1,wa⟩
theorem Cells.slice (h:Cells W t cs) (hu:aj.underlying t=some (.slice e)):∃a len cap,cs= [af a len cap]/\
  ((a=none/\len=0/\cap=0)\/∃x,a=some x/\len<=cap/\cap<=aY/\∀i,i<cap->∃es,W.cells? 0 (x.add (i*aj.cellsOf e)) (aj.cellsOf e)=some es/\Cells W e es):=by
 obtain⟨H,enc,fuel,x,hx⟩:=h;rcases Go.Deep.open_slice hu hx with⟨rfl,rfl⟩ | ⟨a,len,cap,m,n,D,Pl,rfl,_,h1,h2,rfl,rfl,h3⟩
 ·exact⟨_,_,_,rfl,aA ⟨rfl,rfl,rfl⟩⟩
 ·refine⟨_,_,_,rfl,aD ⟨a,rfl,h1,h2,fun i hi=> ?_⟩⟩;obtain⟨es,g1,g2⟩:=h3 i (by simpa using hi);exact⟨es,g1,H,enc,n,_,g2⟩
theorem Cells.struct {fs:Array Field} (h:Cells W t cs) (hu:aj.underlying t=some (.struct fs)):cs.length=aj.cellsOf t/\
  ∀(j:Nat) f,fs[j]? =some f->Cells W f.type ((cs.drop f.offset).take (aj.cellsOf f.type)):=by
 obtain⟨H,enc,fuel,x,hx⟩:=h;obtain⟨xs,n,_,rfl,hl,hlen,hf⟩:=DataW.trod_struct hu hx;refine⟨hl,fun j f hj=> ?_⟩;have h1:=hf j f hj;have h2:j<xs.length:=by
  rw[hlen];exact(bL.1 hj).1
 rw[aZ h2]at h1;exact⟨H,enc,n,_,h1⟩
theorem Cells.array {n:Nat} (h:Cells W t cs) (hu:aj.underlying t=some (.array n e)):cs.length=aj.cellsOf t/\
  ∀i,i<n->Cells W e ((cs.drop (i*aj.cellsOf e)).take (aj.cellsOf e)):=by
 obtain⟨H,enc,fuel,x,hx⟩:=h;obtain⟨xs,m,_,rfl,hl,hlen,hf⟩:=DataW.trod_array hu hx;refine⟨hl,fun j hj=> ?_⟩;have h1:=hf j hj;rw[aZ (by omega)]at h1;exact⟨H,enc,m,_,h1⟩
theorem mR.int {k:IntKind} (h:mR W t v) (hu:aj.underlying t=some (.int k)):∃n,v=ab k n/\(Lit.int k n).wf=true:=by
 obtain⟨⟨base,ho⟩,hc⟩:=h;obtain⟨n,rfl⟩:=okWide_int hu ho;obtain⟨m,e1,wm⟩:=hc.int hu;simp[Value.cells]at e1;subst e1;exact⟨_,rfl,wm⟩
theorem mR.bool (h:mR W t v) (hu:aj.underlying t=some .bool):∃b,v=.bool b:=by
 obtain⟨⟨base,ho⟩,hc⟩:=h;exact okWide_bool hu ho
theorem mR.slice (h:mR W t v) (hu:aj.underlying t=some (.slice e)):∃a len cap,v=af a len cap/\
  ((a=none/\len=0/\cap=0)\/∃x,a=some x/\len<=cap/\cap<=aY/\∀i,i<cap->∃es,W.cells? 0 (x.add (i*aj.cellsOf e)) (aj.cellsOf e)=some es/\Cells W e es):=by
 obtain⟨⟨base,ho⟩,hc⟩:=h;obtain⟨a,len,cap,rfl⟩:=okWide_slice hu ho;obtain⟨a',len',cap',e1,r⟩:=hc.slice hu;simp[Value.cells]at e1;obtain⟨rfl,rfl,rfl⟩:=e1;exact⟨_,_,_,rfl,r⟩
theorem mR.agg (h:mR W t v) (hu:(∃fs,aj.underlying t=some (.struct fs))\/∃n e,aj.underlying t=some (.array n e)):∃cs:List ak,v=al cs.toArray/\cs.length=aj.cellsOf t/\Cells W t cs:=by
 obtain⟨⟨base,ho⟩,hc⟩:=h;have:∃cs:Array ak,v=al cs/\cs.size=aj.cellsOf t:=by
  rcases hu with⟨fs,hu⟩ | ⟨n,e,hu⟩
  ·exact okWide_struct hu ho
  ·simp only[Value.okWide,hu]at ho;obtain⟨cs,h1,h2,_⟩:=ho;exact⟨cs,h1,h2⟩
 obtain⟨⟨cs⟩,rfl,hs⟩:=this;exact⟨cs,rfl,by simpa using hs,by simpa [Value.cells]using hc⟩
end
theorem cells_one {W:ah} {x:aF} {es:List ak} (h:W.cells? 0 x 1=some es):∃v,es= [v]/\W.cell? x=some v:=by
 unfold World.cells? at h;rw[if_pos (bc _)]at h;simp only[List.range_one,List.mapM_cons,List.mapM_nil]at h;have e:x.add 0=x:=by simp[Addr.add]
 rw[e]at h;cases hc:W.cell? x with
 | none=>rw[hc]at h;cases h
 | some v=>rw[hc]at h;exact⟨v,by simpa using h.symm,rfl⟩
theorem Gk {W:ah} {x:aF} {v:ak} (h:W.cell? x=some v):∃b off,x=⟨b,off,none⟩/\b<W.heap.size:=by
 obtain⟨b,off,spot⟩:=x;have:spot=none:=World.cell?_spot h;subst this;obtain⟨o,ho,_⟩:=cells_of_cell h;exact⟨b,off,rfl,(bL.1 ho).1⟩
theorem yp (b off j:Nat):(⟨b,off,none⟩:aF).add j=⟨b,off+j,none⟩:=by unfold Addr.add;split<;>simp_all
end
section
open Go.ChangeShapes Go.WideShapes Go.ChangeAt Go.RowKit
theorem Gl {k:IntKind} {W:ah} {e:aR} {a:Option aF} {len cap:Nat} (he:aj.underlying e=some (.int k)) (hc:aj.cellsOf e=1)
  (h:(a=none/\len=0/\cap=0)\/∃x,a=some x/\len<=cap/\cap<=aY/\∀i,i<cap->∃es,W.cells? 0 (x.add (i*aj.cellsOf e)) (aj.cellsOf e)=some es/\Cells W e es):
  ∃xs:List Int,xs.length=len/\len<=aY/\Sl k W (af a len cap) xs/\∀n ∈ xs,(Lit.int k n).wf=true:=by
 rcases h with⟨rfl,rfl,rfl⟩ | ⟨x,rfl,h1,h2,h3⟩
 ·exact⟨[],rfl,bc _,Sl.nil _ _,fun n hn=>by cases hn⟩
 ·rw[hc]at h3;have h4:∀i,i<cap->∃n,W.cell? (x.add i)=some (ab k n)/\(Lit.int k n).wf=true:=by
   intro i hi;obtain⟨es,g1,g2⟩:=h3 i hi;rw[Nat.mul_one]at g1;obtain⟨v,rfl,hv⟩:=cells_one g1;obtain⟨n,e1,wn⟩:=g2.int he;simp at e1;subst e1;exact⟨n,hv,wn⟩
  have h5:∀i,∃n,i<cap->W.cell? (x.add i)=some (ab k n)/\(Lit.int k n).wf=true:=fun i=>by
   by_cases hi:i<cap
   ·obtain⟨n,hn⟩:=h4 i hi;exact⟨n,fun _=>hn⟩
   ·exact⟨0,fun h=>absurd h hi⟩
  obtain⟨f,hf⟩:=Classical.axiomOfChoice h5;refine⟨(cI len).map f,by simp,by omega, ?_, ?_⟩
  ·refine⟨some x,cap,by simp,by simp;omega,h2, ?_,fun e=>by cases e⟩;by_cases h0:len=0
   ·subst h0;exact aA rfl
   ·obtain⟨hc0,_⟩:=hf 0 (by omega);have e0:x.add 0=x:=by simp[Addr.add]
    rw[e0]at hc0;obtain⟨b,off,rfl,hb⟩:=Gk hc0;refine aD ⟨b,off,rfl,hb,fun j hj=> ?_⟩;simp at hj;have:=(hf j (by omega)).1;rw[yp]at this;rw[this];simp[hj]
  ·intro n hn;obtain⟨i,hi,rfl⟩:=cM.1 hn;exact(hf i (by have:=dJ.1 hi;omega)).2
section
variable {W:ah} {t e:aR} {v:ak} {k:IntKind}
theorem mR.sl (h:mR W t v) (hu:aj.underlying t=some (.slice e)) (he:aj.underlying e=some (.int k)) (hc:aj.cellsOf e=1):
  ∃a len cap,∃xs:List Int,v=af a len cap/\xs.length=len/\len<=aY/\Sl k W (af a len cap) xs/\∀n ∈ xs,(Lit.int k n).wf=true:=by
 obtain⟨a,len,cap,rfl,r⟩:=h.slice hu;obtain⟨xs,r⟩:=Gl he hc r;exact⟨a,len,cap,xs,rfl,r⟩
theorem mR.bytes (h:mR W t v) (hu:aj.underlying t=some (.slice e)) (he:aj.underlying e=some (.int ay)) (hc:aj.cellsOf e=1):
  ∃a len cap,∃xs:List Int,v=af a len cap/\xs.length=len/\len<=aY/\Sl ay W (af a len cap) xs/\aP xs:=by
 obtain⟨a,len,cap,xs,rfl,h1,h2,h3,h4⟩:=h.sl hu he hc;exact⟨a,len,cap,xs,rfl,h1,h2,h3,fun j=>by have:=range_u8 h4 j;omega⟩
theorem mR.two (h:mR W t v) (hu:aj.underlying t=some (.array 2 e)) (he:aj.underlying e=some (.int k)) (hc:aj.cellsOf e=1) (hs:aj.cellsOf t=2):
  ∃a b,v=al #[ab k a,ab k b]/\(Lit.int k a).wf=true/\(Lit.int k b).wf=true:=by
 obtain⟨cs,rfl,hl,hcs⟩:=h.agg (aD ⟨_,_,hu⟩);obtain⟨_,hj⟩:=hcs.array hu;rw[hs]at hl;rw[hc]at hj
 match cs,hl with
 | [x,y],_=>
  obtain⟨a,e1,wa⟩:=(hj 0 (by omega)).int he;obtain⟨b,e2,wb⟩:=(hj 1 (by omega)).int he;simp at e1 e2;subst e1 e2;exact⟨a,b,rfl,wa,wb⟩
end
end
section
variable {F:Fence} {n:Nat} {P:Program}
def oJ {α:Type} (F:Fence) (n:Nat) (P:Program) (g:Nat) (lb:Array ak) (encs:α->Array ak) (R:List α->ah->Prop) (Ok:List α->α->Prop) (S:List α->Prop) (w:ah):Prop:=
 ∀(l:Nat) (J Jx:List α->ah->Prop) (W:ah),ag w.heap.size w W->(∀pre W,J pre W->R pre W)->AbidesFrom W.heap.size J->AbidesFrom W.heap.size Jx->
  (∀pre x W1,J pre W1->Ok pre x->YieldAt F (n - 1) P l (encs x) W1 fun e W'=>
   (e=ao (.bool true)/\J (pre++ [x]) W')\/(e=ao (.bool false)/\Jx (pre++ [x]) W'))->
  J [] W->
  CallsIn F n P g (#[.func (.yield l) #[] #[]]++lb) W fun e W'=>(∃v,e=ao v)/\((∃xs,S xs/\J xs W')\/(∃pre,Jx pre W'))
structure Books (W:ah) (B:Nat) (r:Loop):Prop where
 loop:W.heap[B+1]? =some (.loop r)
 defers:W.heap[B]? =some (.deferred (some []))
theorem Books.lt {W:ah} {B:Nat} {r:Loop} (h:Books W B r):B+1<W.heap.size:=(bL.1 h.loop).1
theorem Books.put {W:ah} {B:Nat} {r:Loop} (h:Books W B r) (r':Loop):Books (W.putObj (B+1) (.loop r')) B r':=
 ⟨World.putObj_heap_same h.lt,(World.putObj_heap_other (by omega)).trans h.defers⟩
theorem Books.from {W W':ah} {B:Nat} {r:Loop} (h:Books W B r) (hk:KeepsFrom B W W'):Books W' B r:=
 ⟨hk.same _ _ (by omega) h.loop rfl,hk.same _ _ (aG _) h.defers rfl⟩
theorem Books.kept {W W':ah} {B:Nat} {r:Loop} {row:Option Nat} (h:Books W B r) (hg:W.grownBy W' row) (hr:∀k,row=some k->∃o:Obj,W.heap[k]? =some o/\o.isWalk=true):Books W' B r:=
 ⟨(grownBy_keeps hg hr h.loop rfl).trans h.loop,(grownBy_keeps hg hr h.defers rfl).trans h.defers⟩
theorem pQ {α:Type} {g:Operand} {ps:Array Tmp} {assign body:Code} {Q:Exit->Act->ah->Prop} {a:Act} {w:ah}
  (hro:F.round=none) (h1:1<=n) {gf:Nat} {lb:Array ak} (hg:a.eval g=.func (.func gf) #[] lb) (hFg:F.fn gf) (eg:∀args w,(callFunc gf args).run P w=.ok (.enter gf args) w)
  {encs:α->Array ak} {Ok:List α->α->Prop} {S:List α->Prop} {w0:ah} (I:List α->ah->Prop) (Ix:Code->List α->ah->Prop) (hseq:oJ F (n - 1) P gf lb encs I Ok S w0)
  (hb0:ag w0.heap.size w0 w) (hps:∀x,(encs x).size=ps.size) (hI:OwnFrom w.heap.size I) (hIx:∀c,OwnFrom w.heap.size (Ix c)) (h0:I [] w) (a₁:α->Act)
  (hassign:∀(l:Nat) (x:α) (W:ah) (K:Act->ah->Prop),K (a₁ x) W->
   assign.wpIn (F.inRound l) (n - 1 - 1) P (Exit.then K (fun _ _ _=>False)) {tmps:=(ps.zip (encs x)).foldl (fun t (p,v)=>t.setIfInBounds p v) a.tmps,defers:= []} W)
  (hbody:∀(l:Nat) (pre:List α) (x:α) (W:ah),I pre W->Ok pre x->body.wpIn (F.inRound l) (n - 1 - 1) P (ownPostG w.heap.size (fun _ _=>True) I Ix (pre++ [x]) W) (a₁ x) W)
  (hdone:∀(D:Nat) (xs:List α) (W:ah),w.heap.size<=D->S xs->I xs W->W.heap[D]? =some (.deferred (some []))->Q .normal {a with defers:={target:=.collected D,args:=#[]}::a.defers} W)
  (hstop:∀(D:Nat) (c:Code) (pre:List α) (W:ah),w.heap.size<=D->Ix c pre W->W.heap[D]? =some (.deferred (some []))->c.wpIn F n P Q {a with defers:={target:=.collected D,args:=#[]}::a.defers} W):
  (Code.rangeFunc g ps assign body).wpIn F n P Q a w:=by
 refine wpIn_rangeFunc fun fn hfn=> ?_;rw[hro]
 let rc:LoopState->Option Code->Loop:=fun st pe=>{state:=st,pending:=pe,fn,tmps:=a.tmps,params:=ps,assign,body,defers:=w.heap.size}
 obtain⟨W1,hW1⟩:=w9nm ((w.alloc (.deferred (some []))).alloc (.loop (rc .ready none)));have bk1:Books W1 w.heap.size (rc .ready none):=by
  rw[←hW1];refine⟨?_,(Below.heap_alloc _ _ _ (by simp)).trans (World.alloc_heap_new w _)⟩;have:=World.alloc_heap_new (w.alloc (.deferred (some []))) (.loop (rc .ready none))
  rwa [bO]at this
 have hsz:w.heap.size<=W1.heap.size:=by rw[←hW1];simp;omega
 have bel:ag w0.heap.size w0 W1:=by
  rw[←hW1];exact hb0.trans ((((aI _ w).alloc (aG _) _).alloc (by simp) _).mono hb0.size)
 have I1:I [] W1:=by rw[←hW1];exact hI.alloc _ (hI.alloc _ h0)
 have walk:∀{A:ah} {row:Option Nat},(∀r,row=some r->W1.heap.size<=r/\∃o:Obj,A.heap[r]? =some o/\o.isWalk=true)->
   (∀r,row=some r->w.heap.size<=r/\∃o:Obj,A.heap[r]? =some o/\o.isCells=false)/\(∀r,row=some r->∃o:Obj,A.heap[r]? =some o/\o.isWalk=true):=fun hr=>
  ⟨fun r e=>by obtain⟨h,o,ho,hw⟩:=hr r e;exact⟨bm hsz h,o,ho,Obj.not_cells_of_walk hw⟩,fun r e=>(hr r e).2⟩
 refine⟨w.heap.size+1,_,W1,{target:=.fn (.func gf) lb,args:=#[.func (.yield (w.heap.size+1)) #[] #[]]},W1,gf,#[.func (.yield (w.heap.size+1)) #[] #[]]++lb,W1,
  hW1▸run_enterLoop_outer fn _ _ _ _,by simp only[resolve,hg];simp[go_sem],fun f' hf'=>by simp[Target.leads]at hf';subst hf';exact hFg,by simp[invoke,go_sem,eg],fun _=>h1, ?_⟩
 refine(hseq (w.heap.size+1) (fun pre W=>I pre W/\Books W w.heap.size (rc .ready none)) (fun pre W=>∃c,Ix c pre W/\Books W w.heap.size (rc .done (some c))) W1 bel (fun _ _ h=>h.1)
  (fun s A B row hs hgr hr=>⟨hI s A B row hs.1 hgr (walk hr).1,hs.2.kept hgr (walk hr).2⟩)
  (fun s A B row hs hgr hr=>by obtain⟨c,hc,hb⟩:=hs;exact⟨c,hIx c s A B row hc hgr (walk hr).1,hb.kept hgr (walk hr).2⟩) ?_ ⟨I1,bk1⟩).mono ?_
 ·rintro pre x W ⟨hi,bk⟩ hok;have hy:=run_yield (P:=P) (args:=encs x) bk.loop (hps x);refine⟨fn,_,assign,body,hy,roundIn_of_wpIn hfn (hassign _ x W _ ⟨_,run_beginRound bk.loop rfl, ?_⟩)⟩;have bk2:=bk.put (rc .busy none);refine wpIn_mono (hbody _ pre x _ (hI.putObj _ hi (by omega) bk.loop rfl) hok) ?_
  have out:∀(j:Option Code) (W3:ah),KeepsFrom w.heap.size (W.putObj (w.heap.size+1) (.loop (rc .busy none))) W3->(Instr.endRound (w.heap.size+1) j).run P W3=.ok (.bool j.isNone) (W3.putObj (w.heap.size+1) (.loop (rc (if j.isNone then .ready else .done) j)))/\
    W3.heap[w.heap.size+1]? =some (.loop (rc .busy none))/\Books (W3.putObj (w.heap.size+1) (.loop (rc (if j.isNone then .ready else .done) j))) w.heap.size (rc (if j.isNone then .ready else .done) j):=fun j W3 hk=>
   ⟨run_endRound j (bk2.from hk).loop,(bk2.from hk).loop,(bk2.from hk).put _⟩
  rintro(_ | id | t | _ | ch | _) a3 W3 hp
  ·obtain⟨hk, -,hi3⟩:=hp;obtain⟨h2,h3,h4⟩:=out none W3 hk;exact⟨_,_,h2,aA ⟨rfl,hI.putObj _ hi3 (by omega) h3 rfl,h4⟩⟩
  ·obtain⟨hk,hi3⟩:=hp;obtain⟨h2,h3,h4⟩:=out (some (.exit id)) W3 hk;exact⟨_,_,h2,aD ⟨rfl,_,(hIx _).putObj _ hi3 (by omega) h3 rfl,h4⟩⟩
  ·obtain⟨hk,hi3⟩:=hp;obtain⟨h2,h3,h4⟩:=out (some (.goto t)) W3 hk;exact⟨_,_,h2,aD ⟨rfl,_,(hIx _).putObj _ hi3 (by omega) h3 rfl,h4⟩⟩
  ·obtain⟨hk,hi3⟩:=hp;obtain⟨h2,h3,h4⟩:=out (some .ret) W3 hk;exact⟨_,_,h2,aD ⟨rfl,_,(hIx _).putObj _ hi3 (by omega) h3 rfl,h4⟩⟩
  ·exact hp.elim
  ·exact hp.elim
 ·rintro e W2 ⟨⟨v,rfl⟩,⟨xs,hS,hi,bk⟩ | ⟨pre,c,hi,bk⟩⟩
  ·exact⟨none,_,run_endLoop bk.loop (by simp[rc]),hdone _ xs _ (aG _) hS (hI.putObj _ hi (by omega) bk.loop rfl) (bk.put _).defers⟩
  ·exact⟨some c,_,run_endLoop bk.loop (by simp[rc]),hstop _ c pre _ (aG _) ((hIx c).putObj _ hi (by omega) bk.loop rfl) (bk.put _).defers⟩
end
section
theorem nu:(aj.info? 5).map (fun i=>(i.zero,i.size,i.bytes))=some (some (ab ay 0),1,1):=by kernel_rfl
theorem rA:(aj.info? 5).map (·.size)=some 1:=by kernel_rfl
def pR (w:ah) (a:Option aF) (len:Nat) (bs:List Int):Prop:=
 len=0\/∃b off,a=some ⟨b,off,none⟩/\b<w.heap.size/\∀j,j<len->w.cell? ⟨b,off+j,none⟩=some (ab ay (bs[j]?.getD 0))
theorem yq {w w1:ah} {a:Option aF} {len e:Nat} {bs:List Int} (HL:Hid (bs.length=len)) (hA:Hid (pR w a len bs))
  (hown1:w1.ownsRow w.heap.size e 1 (af (some ⟨w.heap.size,0,none⟩) len len) len (madeCells (Value.int ay 0).cells (len*1)).toList) (hgrow1:w.grownBy w1 none):
  w9h w w1/\Hid (w1.heap[w.heap.size]? =some (an (bg len (Value.int ay 0)).toArray e (0,0)))/\
  Hid (0< (bs.map (Value.int ay)).length->some (⟨w.heap.size,0,none⟩:aF)=some ⟨w.heap.size,0,none⟩/\∃ad,a=some ad/\∀j v,(bs.map (Value.int ay))[j]? =some v->w1.cell? (ad.add j)=some v):=by
 have hB1:w9b w w1:=(aI _ w).grown hgrow1 (aG _) (fun k e=>by cases e);refine⟨hB1, ?_, ?_⟩
 ·rw[show(Value.int ay 0).cells=#[ab ay 0]from rfl,toList_madeCells_one,Nat.mul_one]at hown1;exact Gf hown1
 ·intro h0;rw[dV,HL.out]at h0;rcases hA.out with h | ⟨b,off,e,hb,hc⟩
  ·omega
  ·refine⟨rfl,_,e,fun j v hj=> ?_⟩;have hjl:j<len:=by
    have:=(bZ.1 hj).1
    rwa [dV,HL.out]at this
   have hplain:(⟨b,off,none⟩:aF).add j=⟨b,off+j,none⟩:=by unfold Addr.add;split<;>simp_all
   rw[hplain,hB1.cell (p:=⟨b,off+j,none⟩) hb,hc j hjl];rw[dY,aZ (by rw[HL.out];exact hjl)]at hj;rw[aZ (by rw[HL.out];exact hjl)];exact hj
theorem yr {len:Nat} {bs:List Int} (HL:Hid (bs.length=len)):Hid ((bs.map (Value.int ay)).length=Nat.min len len):=by
 show _=_;rw[dV,HL.out];exact(Nat.min_self _).symm
theorem yt {bs:List Int}:Hid (∀v ∈ bs.map (Value.int ay),v.oneCell'=true):=by
 intro v hv;obtain⟨x,_,rfl⟩:=cM.1 hv
 rfl
theorem pR.of_sl {w:ah} {v:ak} {bs:List Int} (h:Sl ay w v bs):∃a cap,v=af a bs.length cap/\pR w a bs.length bs/\bs.length<=aY:=by
 obtain⟨a,cap,rfl,h1,h2,h,_⟩:=h;refine⟨a,cap,rfl, ?_,bm h1 h2⟩;rcases h with rfl | h
 ·exact aA rfl
 ·exact aD h
theorem uS (bs:List Int) (k j:Nat):(bs.drop k)[j]?.getD 0=bs[k+j]?.getD 0:=by rw[lI]
theorem rB (bs:List Int) (k j:Nat) (h:j<k):(bs.take k)[j]?.getD 0=bs[j]?.getD 0:=by rw[kx,if_pos h]
theorem dS {w w':ah} (h:ag w.heap.size w w') (row:Option Nat):w.grownBy w' row:=⟨h.os,h.tape,h.output,h.size,fun k hk _=>h.block k hk⟩
theorem lN {a b c:ah} {row:Option Nat} (h:a.grownBy b row) (k:b.grownBy c row):a.grownBy c row:=
 ⟨k.os.trans h.os,k.tape.trans h.tape,k.output.trans h.output,bm h.size k.size,fun i hi hn=>(k.block i (bq hi h.size) hn).trans (h.block i hi hn)⟩
theorem aP.take {bs:List Int} (h:aP bs) (k:Nat):aP (bs.take k):=by
 intro j;by_cases hj:j<k
 ·rw[rB bs k j hj];exact h j
 ·rw[ej (by simp;omega)];simp
theorem aP.drop {bs:List Int} (h:aP bs) (k:Nat):aP (bs.drop k):=by
 intro j;rw[uS];exact h _
theorem Sl.of_owns {w:ah} {base:Nat} {v:ak} {bs:List Int} (h:w.ownsRow base 5 1 v bs.length (bs.map (Value.int ay))):Sl ay w v bs:=by
 rcases h.2 with⟨rfl,h0⟩ | ⟨g,cap,cur,rfl,_,hg,h1,h2,h3,h4⟩
 ·obtain rfl:=ka h0;exact Sl.nil _ _
 ·refine Sl.at (off:=0) h1 h2 (bL.1 hg).1 fun j hj=> ?_;rw[dq _ _ _ _ _ _ hg];have e:(cur.toList.take (bs.length*1))[0+j]? =(bs.map (Value.int ay))[0+j]? :=by rw[h4]
  rw[kx,if_pos (by omega)]at e;rw[←Array.getElem?_toList,e];simp[hj]
theorem ms {W:ah} {g:Nat} {xs:List Int} (h:W.heap[g]? =some (an (xs.map (Value.int ay)).toArray 5 (0,0))) (hm:xs.length<=aY):
  Sl ay W (af (some ⟨g,0,none⟩) xs.length xs.length) xs:=by
 refine Sl.at (off:=0) (aG _) hm (bL.1 h).1 fun j hj=> ?_;rw[dq _ _ _ _ _ _ h];simp[hj]
set_option maxRecDepth 100000 in
theorem rC (base:Nat) (w:ah) (v:ak) (xs:List Int) (hown:w.ownsRow base 5 1 v xs.length (xs.map (Value.int ay))) (x:ak) (bs:List Int) (hx:Sl ay w x bs)
  (hlen:xs.length+bs.length<=140737488355328) (hbase:base<=w.heap.size):
  ∃v' w',(Builtin.append_ #[76, 76] 76 #[v,x]).run aj w=.ok v' w'/\w'.ownsRow base 5 1 v' (xs++bs).length ((xs++bs).map (Value.int ay))/\w.grownBy w' v.ownBlock:=by
 obtain⟨i0,hi,hz0,hz1,hz2⟩:=fy nu;obtain⟨a,cap,rfl,h1,h2,h,hnil⟩:=hx;have hap:∀ad,a=some ad->(∀j u,(bs.map (Value.int ay))[j]? =some u->w.cell? (ad.add j)=some u)->∃v' w',(Builtin.append_ #[76, 76] 76 #[v,af a bs.length cap]).run aj w=.ok v' w'/\w'.ownsRow base 5 1 v' (xs++bs).length ((xs++bs).map (Value.int ay))/\w.grownBy w' v.ownBlock:=by
  rintro ad rfl hc;obtain⟨v',w',hr,ho,hg,_⟩:=run_append_own (P:=aj) w base 76 76 5 i0 (ab ay 0) 1 1 Tryz.underlying76 hi hz0 hz1 hz2 rfl (by decide) v xs.length _ hown ad bs.length cap (bs.map (Value.int ay)) (by simp) hc
   (fun u hu=>by obtain⟨y,_,rfl⟩:=cM.1 hu;rfl) (by unfold aY;omega) (by omega) hbase
  exact⟨v',w',hr,by rw[cE,ec];exact ho,hg⟩
 rcases h with rfl | ⟨b,off,rfl,h3,h4⟩
 ·cases a with
  | some ad=>exact hap ad rfl (fun j u hj=>by simp at hj)
  | none=>
   obtain rfl:=hnil rfl;exact⟨v,w,run_append_owned_none (P:=aj) (w:=w) base 76 76 5 i0 1 Tryz.underlying76 hi v xs.length _ hown,by simpa using hown,World.grownBy.refl _ _⟩
 ·refine hap _ rfl fun j u hj=> ?_;have hjl:j<bs.length:=by
   have:=(bZ.1 hj).1
   rwa [dV]at this
  have hplain:(⟨b,off,none⟩:aF).add j=⟨b,off+j,none⟩:=by unfold Addr.add;split<;>simp_all
  rw[hplain,h4 j hjl];rw[dY,aZ hjl]at hj;rw[aZ hjl];exact hj
theorem yu (w:ah) (x:ak) (bs:List Int) (hx:Sl ay w x bs) (hlen:bs.length<=140737488355328):
  ∃v' w',Hid ((Builtin.append_ #[76, 76] 76 #[af (some ⟨w.heap.size,0,none⟩) 0 0,x]).run aj (w.alloc (an #[] 5))=.ok v' w')/\Hid (w'.ownsRow w.heap.size 5 1 v' bs.length (bs.map (Value.int ay)))/\Hid (ag w.heap.size w w'):=by
 have ho0:(w.alloc (an #[] 5)).ownsRow w.heap.size 5 1 (af (some ⟨w.heap.size,0,none⟩) 0 0) ([]:List Int).length (([]:List Int).map (Value.int ay)):=World.ownsRow_lit w #[] 0 (aG _) (by unfold aY;omega) rfl;obtain⟨v3,w3,hrun,ho3,hg3⟩:=rC w.heap.size (w.alloc (an #[] 5)) _ [] ho0 x bs (hx.below ((aI _ _).alloc (aG _) _)) (by simp;omega) (by simp);have hgB:w9b w w3:=((aI _ _).alloc (aG _) _).grown hg3 (by simp) (fun k e=>by simp[jb]at e;omega);exact⟨v3,w3,hrun,ae (by simpa using ho3),hgB⟩
theorem Gm (ra:Option aF):(ra.map fun x=>x.add 0)=ra:=by cases ra<;>simp[Addr.add]
def pcs (l:List (Int×Int)):List ak:=l.flatMap fun p=> [ab ac p.1,ab ac p.2]
theorem yv (p:Int×Int) (l:List (Int×Int)):pcs (p::l)=ab ac p.1:: ab ac p.2::pcs l:=rfl
theorem Gn (a b:List (Int×Int)):pcs (a++b)=pcs a++pcs b:=by simp[pcs]
theorem yw (l:List (Int×Int)):(pcs l).length=l.length*2:=by
 induction l with
 | nil=>rfl
 | cons p l ih=>rw[yv];simp only[bz,ih];omega
theorem yx {l:List (Int×Int)} {j:Nat} {p:Int×Int} (h:l[j]? =some p):(pcs l)[j*2]? =some (ab ac p.1)/\(pcs l)[j*2+1]? =some (ab ac p.2):=by
 induction l generalizing j with
 | nil=>simp at h
 | cons q l ih=>
  rw[yv];cases j with
  | zero=>simp at h;subst h;exact⟨rfl,rfl⟩
  | succ j=>
   have:=ih (j:=j) (by simpa using h);rw[show(j+1)*2=j*2+1+1 by omega]
   simpa using this
theorem Gp {l:List (Int×Int)}:∀u ∈ pcs l,u.oneCell'=true:=by
 intro u hu;obtain⟨p,hp,h⟩:=List.mem_flatMap.1 hu;simp at h;rcases h with rfl | rfl<;>rfl
theorem Gq {w:ah} {b off:Nat} {l:List (Int×Int)} (h:∀j p,l[j]? =some p->w.cell? ⟨b,off+j*2,none⟩=some (ab ac p.1)/\w.cell? ⟨b,off+j*2+1,none⟩=some (ab ac p.2)):
  ∀j u,(pcs l)[j]? =some u->w.cell? ⟨b,off+j,none⟩=some u:=by
 intro j u hu;have hj:j<l.length*2:=by rw[←yw];exact(bZ.1 hu).1
 have hk:j / 2<l.length:=by omega
 have hg:=aZ hk;obtain⟨c1,c2⟩:=h _ _ hg;obtain⟨f1,f2⟩:=yx hg;rcases(show j=j / 2*2\/j=j / 2*2+1 by omega)with e | e
 ·rw[e]at hu ⊢;rw[f1]at hu;cases hu;exact c1
 ·rw[e]at hu ⊢;rw[f2]at hu;cases hu;rw[show off+(j / 2*2+1)=off+j / 2*2+1 by omega];exact c2
def fU (W:ah) (v:ak) (l:List (Int×Int)):Prop:=∃a cap,v=af a l.length cap/\l.length<=cap/\cap<=aY/\pM l/\(a=none->cap=0)/\
 (l= []\/∃b off,a=some ⟨b,off,none⟩/\b<W.heap.size/\∀j p,l[j]? =some p->W.cell? ⟨b,off+j*2,none⟩=some (ab ac p.1)/\W.cell? ⟨b,off+j*2+1,none⟩=some (ab ac p.2))
theorem fU.below {W W':ah} {v:ak} {l:List (Int×Int)} (h:fU W v l) (hB:ag W.heap.size W W'):fU W' v l:=by
 obtain⟨a,cap,rfl,h1,h2,h3,hz,h4⟩:=h;refine⟨a,cap,rfl,h1,h2,h3,hz, ?_⟩;rcases h4 with h4 | ⟨b,off,rfl,h5,h6⟩
 ·exact aA h4
 ·exact aD ⟨b,off,rfl,bq h5 hB.size,fun j p hj=>⟨(hB.cell (p:=⟨b,off+j*2,none⟩) h5).trans (h6 j p hj).1,(hB.cell (p:=⟨b,off+j*2+1,none⟩) h5).trans (h6 j p hj).2⟩⟩
theorem fU.nil (W:ah):fU W (af none 0 0) []:=⟨none,0,rfl,aG _,bc _,(fun p hp=>by cases hp),(fun _=>rfl),aA rfl⟩
theorem fU.is {W:ah} {v:ak} {l:List (Int×Int)} (h:fU W v l):pM l:=by
 obtain⟨a,cap,rfl,h1,h2,h3, -⟩:=h;exact h3
theorem fU.at {W:ah} {a:Option aF} {n cap k:Nat} {l:List (Int×Int)} (h:fU W (af a n cap) l) {p:Int×Int} (hk:l[k]? =some p):
  ∃b off,a=some ⟨b,off,none⟩/\b<W.heap.size/\W.cell? ⟨b,off+k*2,none⟩=some (ab ac p.1)/\W.cell? ⟨b,off+k*2+1,none⟩=some (ab ac p.2):=by
 obtain⟨a',cap',e,h1,h2,h3,hz,h4⟩:=h;cases e;rcases h4 with rfl | ⟨b,off,rfl,h5,h6⟩
 ·simp at hk
 ·exact⟨b,off,rfl,h5,h6 k p hk⟩
def dT (N:Nat) (w:ah) (v:ak) (l:List (Int×Int)):Prop:=w.ownsRow N 191 2 v l.length (pcs l)/\pM l
theorem dT.nil (N:Nat) (w:ah):dT N w (af none 0 0) []:=⟨jc _ _ _ _,fun p hp=>by cases hp⟩
theorem dT.below {N:Nat} {w w':ah} {v:ak} {l:List (Int×Int)} (h:dT N w v l) (hB:ag w.heap.size w w'):dT N w' v l:=⟨dQ h.1 hB,h.2⟩
theorem dT.prt {N:Nat} {w:ah} {v:ak} {l:List (Int×Int)} (h:dT N w v l):fU w v l:=by
 rcases h.1.2 with⟨rfl,h0⟩ | ⟨g,cap,cur,rfl,h1,h2,h3,h4,h5,h6⟩
 ·obtain rfl:l= []:=ka h0;exact fU.nil w
 ·refine⟨_,cap,rfl,h3,h4,h.2,(fun e=>by cases e),aD ⟨g,0,rfl,(bL.1 h2).1,fun j p hj=> ?_⟩⟩;have hc:=h.1.cells (g:=g) rfl;obtain⟨f1,f2⟩:=yx hj;have c1:=hc _ _ f1;have c2:=hc _ _ f2;rw[Addr.add_mid]at c1 c2;exact⟨c1,by simpa [Nat.add_assoc]using c2⟩
theorem dT.one (w:ah) (p:Int×Int) (hp:fG p.1/\fG p.2):dT w.heap.size (w.alloc (an #[ab ac p.1,ab ac p.2] 191)) (af (some ⟨w.heap.size,0,none⟩) 1 1) [p]:=
 ⟨World.ownsRow_lit w #[ab ac p.1,ab ac p.2] 1 (aG _) (by simp[aY]) rfl,fun q hq=>by simp at hq;subst hq;exact hp⟩
theorem dT.weak {N M:Nat} {w:ah} {v:ak} {l:List (Int×Int)} (h:dT N w v l) (hM:M<=N):dT M w v l:=by
 refine⟨⟨h.1.1, ?_⟩,h.2⟩;rcases h.1.2 with h' | ⟨g,cap,cur,e,h1,h2⟩
 ·exact aA h'
 ·exact aD ⟨g,cap,cur,e,bm hM h1,h2⟩
theorem Gr:(aj.info? 191).map (fun i=>(i.zero,i.size,i.bytes))=some (some (al #[ab ac 0,ab ac 0]),2,16):=by kernel_rfl
def yy (w:ah) (ob:Option Nat) (u:ak):Prop:=u.ownBlock=ob\/∀j,u.ownBlock=some j->w.heap.size<=j
set_option maxRecDepth 100000 in
theorem yz {N:Nat} {w:ah} {v x:ak} {l m:List (Int×Int)} (h:dT N w v l) (hx:fU w x m) (hN:N<=w.heap.size) (hlen:l.length+m.length<=1000000):
  ∃v' w',(∀ty,(Builtin.append_ #[43, 43] ty #[v,x]).run aj w=.ok v' w')/\dT N w' v' (l++m)/\w.grownBy w' v.ownBlock/\yy w v.ownBlock v':=by
 obtain⟨i0,hi⟩:∃i,aj.info? 191 =some i:=⟨_,rfl⟩;have hq:=Gr;rw[hi]at hq;have hz:(i0.zero,i0.size,i0.bytes)=(some (al #[ab ac 0,ab ac 0]),2,16):=Option.some.inj hq;have hz0:=congrArg (·.1) hz;have hz1:=congrArg (·.2.1) hz;have hz2:=congrArg (·.2.2) hz;simp only at hz0 hz1 hz2;have h64:pM (l++m):=fun p hp=>by
  rcases gc.1 hp with hp | hp
  ·exact h.2 p hp
  ·exact hx.is p hp
 obtain⟨a,cap,rfl,h1,h2, -,h0,h4⟩:=hx;have hml:m.length<=aY:=by omega
 cases a with
 | none=>
  obtain rfl:=h0 rfl;obtain rfl:m= []:=ka (by omega);refine⟨v,w,fun ty=>run_append_owned_none (P:=aj) (w:=w) N 43 ty 191 i0 2 Tryz.underlying43 hi v l.length _ h.1,by simpa using h,World.grownBy.refl _ _,aA rfl⟩
 | some ad=>
  have hnews:∀j u,(pcs m)[j]? =some u->w.cell? (ad.add j)=some u:=by
   rcases h4 with rfl | ⟨b,off,e,h5,h6⟩
   ·intro j u hu;simp[pcs]at hu
   ·cases e;intro j u hu;rw[Addr.add_lit];exact Gq h6 j u hu
  have hr:∀ty,∃v' w',(Builtin.append_ #[43, 43] ty #[v,af (some ad) m.length cap]).run aj w=.ok v' w'/\w'.ownsRow N 191 2 v' (l.length+m.length) (pcs l++pcs m)/\w.grownBy w' v.ownBlock/\(v'.ownBlock=v.ownBlock\/v'.ownBlock=some w.heap.size):=fun ty=>by
   obtain⟨v',w',g1,g2,g3, -,g4⟩:=run_append_own_at (P:=aj) w N 43 ty 191 i0 (al #[ab ac 0,ab ac 0]) 2 16 Tryz.underlying43 hi hz0 hz1 hz2 rfl (by decide) v l.length _ h.1 ad m.length cap (pcs m) (yw m) hnews Gp (by unfold aY;omega) (by omega) hN;exact⟨v',w',g1,g2,g3,g4⟩
  obtain⟨v',w',g1,g2,g3,g4⟩:=hr 0;have hsm:yy w v.ownBlock v':=by
   rcases g4 with g4 | g4
   ·exact aA g4
   ·exact aD fun j e=>by rw[g4]at e;cases e;exact aG _
  refine⟨v',w',fun ty=> ?_,⟨by rw[cE,Gn];exact g2,h64⟩,g3,hsm⟩;rw[←g1]
  rfl
theorem pT (t:aR) (h:t≠ 191) (a:aF):aE t a=(do if←isAgg t then pure (al (←loadCells a (←sizeOf t)))else load a):=rfl
theorem pU (t:aR) (h:t≠ 191) (a:aF) (v:ak):aL t a v=(do
  if v.cells.size≠(←sizeOf t)then stuck "storeVar: the value has not the size of the variable"
  storeCells a v.cells.toList):=rfl
theorem eJ (w:ah):(zeroValue 191).run aj w=.ok (al #[ab ac 0,ab ac 0]) w:=by kernel_rfl
theorem rD (w:ah):(df 191 #[]).run aj w=.ok (al #[ab ac 0,ab ac 0]) w:=by kernel_rfl
theorem nw (a b:Int) (w:ah):(df 191 #[(0,ab ac a),(1,ab ac b)]).run aj w=.ok (al #[ab ac a,ab ac b]) w:=by kernel_rfl
theorem Gs:(aj.info? 191).map (·.size)=some 2:=by kernel_rfl
def oK (a b:Int):List ak:= [ab ac a,ab ac b]
set_option maxRecDepth 100000 in
theorem mt {W:ah} {b off:Nat} {x y:Int} (c1:W.cell? ⟨b,off,none⟩=some (ab ac x)) (c2:W.cell? ⟨b,off+1,none⟩=some (ab ac y)):
  (aE 191 ⟨b,off,none⟩).run aj W=.ok (al #[ab ac x,ab ac y]) W:=
 jF W b off _ (oK x y) _ (fun j v hj=>by
  match j with
  | 0=>cases hj;exact c1
  | 1=>cases hj;exact c2
  | j+2=>simp[oK]at hj) Tryz.underlying191 rfl (by kernel_rfl)
theorem mu (x:ah) (a b:Int):(aL 191 ⟨x.heap.size,0,none⟩ (al #[ab ac a,ab ac b])).run aj (x.alloc (an #[ab ac 0,ab ac 0] 191))=.ok () (x.alloc (an #[ab ac a,ab ac b] 191)):=
 kQ x _ _ (oK a b).toArray Gs rfl (by kernel_rfl)
theorem Gt (w:ah) (a b:Int):(dh 43 1 #[(0,al #[ab ac a,ab ac b])]).run aj w=.ok (af (some ⟨w.heap.size,0,none⟩) 1 1) (w.alloc (an #[ab ac a,ab ac b] 191)):=by kernel_rfl
theorem Gu (w:ah):(dh 43 0 #[]).run aj w=.ok (af (some ⟨w.heap.size,0,none⟩) 0 0) (w.alloc (an #[] 191)):=by kernel_rfl
def aM (W:ah):Type:={w:ah // ag W.heap.size W w}
instance (W:ah):Nonempty (aM W):=⟨⟨W,aI _ _⟩⟩
theorem ig {P:Program} {id:Nat} {Q:Exit->Act->ah->Prop} {a:Act} {w:ah} {l:List Oper} (hm:P.follows .mixedOrders=true) (hB:Region.lexB .any l.toArray=true)
  (h:wpQuiet P l.toArray (fun w'=>∃x:aM w,w'=x.1) (fun a'=>∀x:aM w,Q .normal a' x.1) l a):(Code.region id l.toArray true).wp P Q a w:=by
 refine wp_region_quiet (C:=fun w'=>∃x:aM w,w'=x.1) hm hB ⟨⟨w.drew,(aI _ w).drew⟩,rfl⟩ ?_;have:(fun a'=>∀w',(∃x:aM w,w'=x.1)->Q .normal a' w')=fun a'=>∀x:aM w,Q .normal a' x.1:=by
  funext a'
  exact propext ⟨fun h x=>h _ ⟨x,rfl⟩,fun h w' ⟨x,e⟩=>e▸h x⟩
 rw[this]
 simpa using h
theorem ny {P:Program} {f:FuncId} {args:Array ak} {W:ah} {v:ak} (x:aM W) (h:ap P f args x.1 fun e w'=>e=ao v/\ag x.1.heap.size x.1 w'):
  ap P f args x.1 fun e w''=>e=ao v/\∃y:aM W,w''=y.1:=
 h.mono fun e w' ⟨h1,h2⟩=>⟨h1,⟨w',x.2.trans (h2.mono x.2.size)⟩,rfl⟩
theorem aM.cell {W:ah} (x:aM W) {p:aF} (h:p.block<W.heap.size):x.1.cell? p=W.cell? p:=x.2.cell h
end
section
theorem Gv (p:aF) (n c:Nat) (w:ah):(binOp .eql 43 (af (some p) n c) (af none 0 0)).run aj w=.ok (.bool false) w:=by kernel_rfl
theorem Gw (w:ah):(binOp .eql 43 (af none 0 0) (af none 0 0)).run aj w=.ok (.bool true) w:=by kernel_rfl
attribute [local go_sem] Gw Gv
theorem yA {w:ah} {v:ak} {l:List (Int×Int)} (h:fU w v l) (hlen:l.length<=1000000):
  ap aj 187 #[v] w fun e w'=>∃u,e=ao u/\dT w.heap.size w' u l/\ag w.heap.size w w':=by
 have HP:=ae h;obtain⟨a,cap,rfl, -, -, -,h0,h4⟩:=h;cases a with
 | none=>
  obtain rfl:l= []:=by
   rcases h4 with h4 | ⟨b,off,e, -⟩
   ·exact h4
   ·cases e
  obtain rfl:=h0 rfl;go_enter func187,ntmps187;go_wp2;go_ret;exact⟨_,rfl,dT.nil _ _,aI _ _⟩
 | some ad=>
  obtain⟨W,hW⟩:=w9nm (w.alloc (an #[] 191));have SB:=Gu w;rw[hW]at SB;have hb:=aH w (an #[] 191);rw[hW]at hb;have ho:dT w.heap.size W (af (some ⟨w.heap.size,0,none⟩) 0 0) []:=by
   rw[←hW];exact⟨World.ownsRow_lit w #[] 0 (aG _) (by simp[aY]) rfl,fun p hp=>by cases hp⟩
  obtain⟨u,W2,hr,h1,h2, -⟩:=yz ho (HP.out.below hb) hb.size (by simpa using hlen);have HA:=ae hr;have HO:=ae h1;have HB:w9h w W2:=hb.grown h2 hb.size (fun j e=>by cases e;exact aG _);have HS:=ae SB;clear h0 h4 hW SB hb ho hr h1 h2 HP;go_enter func187,ntmps187;go_wp2_with (first | (refine iu ?_;refine dR 43 0 #[] rfl rfl [] _ rfl HS.out ?_) | (at_builtin;refine wpList_append_run (.tmp 5) (.tmp 6) 43 rfl rfl _ _ _ rfl rfl (HA.out _) ?_));go_ret;exact⟨_,rfl,HO.out,HB.out⟩
end
section
def bT (N:Nat) (w:ah) (v:ak) (zs:List Int):Prop:=w.ownsRow N 3 1 v zs.length (zs.map (Value.int ac))
theorem bT.nil (N:Nat) (w:ah):bT N w (af none 0 0) []:=jc _ _ _ _
theorem bT.below {N:Nat} {w w':ah} {v:ak} {zs:List Int} (h:bT N w v zs) (hB:ag w.heap.size w w'):bT N w' v zs:=dQ h hB
theorem bT.base {N:Nat} {w:ah} {v:ak} {zs:List Int} (h:bT N w v zs):∀j,v.ownBlock=some j->N<=j/\j<w.heap.size:=by
 intro j hj;rcases h.2 with⟨rfl,h0⟩ | ⟨g,cap,cur,rfl,h1,h2, -⟩
 ·cases hj
 ·cases hj;exact⟨h1,(bL.1 h2).1⟩
theorem rE:(aj.info? 3).map (fun i=>(i.zero,i.size,i.bytes))=some (some (ab ac 0),1,8):=by kernel_rfl
theorem uT (w:ah) (x:Int):(dh 41 1 #[(0,ab ac x)]).run aj w=.ok (af (some ⟨w.heap.size,0,none⟩) 1 1) (w.alloc (an #[ab ac x] 3)):=by kernel_rfl
set_option maxRecDepth 100000 in
theorem rH {N:Nat} {w:ah} {v:ak} {zs:List Int} (h:bT N w v zs) (hN:N<=w.heap.size) (x:Int) (hlen:zs.length<=900000):
  ∃v' w',(∀ty,(Builtin.append_ #[41, 41] ty #[v,af (some ⟨w.heap.size,0,none⟩) 1 1]).run aj (w.alloc (an #[ab ac x] 3))=.ok v' w')/\bT N w' v' (zs++ [x])/\w.grownBy w' v.ownBlock/\v'≠ af none 0 0:=by
 obtain⟨i0,hi⟩:∃i,aj.info? 3 =some i:=⟨_,rfl⟩;have hq:=rE;rw[hi]at hq;have hz:(i0.zero,i0.size,i0.bytes)=(some (ab ac 0),1,8):=Option.some.inj hq;have hz0:=congrArg (·.1) hz;have hz1:=congrArg (·.2.1) hz;have hz2:=congrArg (·.2.2) hz;simp only at hz0 hz1 hz2;have hr:∀ty,∃v' w',(Builtin.append_ #[41, 41] ty #[v,af (some ⟨w.heap.size,0,none⟩) 1 1]).run aj (w.alloc (an #[ab ac x] 3))=.ok v' w'/\w'.ownsRow N 3 1 v' (zs.length+1) (zs.map (Value.int ac)++ [ab ac x])/\(w.alloc (an #[ab ac x] 3)).grownBy w' v.ownBlock/\(v'=af none 0 0↔v=af none 0 0/\(1:Nat)=0):=fun ty=>by
  obtain⟨v',w',g1,g2,g3,g4⟩:=run_append_own (P:=aj) (w.alloc (an #[ab ac x] 3)) N 41 ty 3 i0 (ab ac 0) 1 8 Tryz.underlying41 hi hz0 hz1 hz2 rfl (by decide) v zs.length _ (dQ h (aH w _)) ⟨w.heap.size,0,none⟩ 1 1 [ab ac x] rfl
   (fun j u hj=>by
    have hj0:j=0:=by have:=(bZ.1 hj).1;simp at this;exact this
    subst hj0;cases hj;rw[Addr.add_lit];exact(aq.new w 3 [ab ac x]).cell 0 _ rfl) (fun u hu=>by simp at hu;subst hu;rfl) (by unfold aY;omega) (by omega) (by simp;omega)
  exact⟨v',w',g1,g2,g3,g4⟩
 obtain⟨v',w',g1,g2,g3,g4⟩:=hr 0;refine⟨v',w',fun ty=> ?_, ?_,lN (dS (aH w _) _) g3,fun e=>absurd (g4.1 e).2 (by decide)⟩
 ·rw[←g1];rfl
 ·show w'.ownsRow N _ 1 v' (zs++ [x]).length ((zs++ [x]).map _);rw[cE,ec];exact g2
end
section
open Go.Shelf
def Gx:Go.Shelf.Ren:=⟨fun | 189=>277 | 125=>299 | 257=>298 | 128=>313 | 129=>314 | 294=>304 | 295=>305 | 296=>306 | 297=>307 | 298=>308 | 299=>309 | 216=>310 | 300=>311 | 301=>312 | 328=>318 | 329=>319 | 330=>320 | 331=>321 | 332=>322 | 215=>323 | 343=>325 | n=>n,fun | 28=>41 | 3=>3 | 46=>91 | 0=>0 | 51=>110 | 53=>267 | 4=>4 | 183=>384 | 182=>383 | 131=>63 | 5=>5 | 9=>9 | 218=>394 | 222=>398 | 228=>401 | 229=>233 | n=>n,fun | n=>n⟩
set_option maxRecDepth 100000 in
theorem yB:Go.Proofs.Lays.n189 aj Gx:={
 mixed:=by kernel_rfl
 f125:=Tryz.func299.trans (congrArg some (by kernel_rfl))
 f128:=Tryz.func313.trans (congrArg some (by kernel_rfl))
 f129:=Tryz.func314.trans (congrArg some (by kernel_rfl))
 f189:=Tryz.func277.trans (congrArg some (by kernel_rfl))
 f215:=Tryz.func323.trans (congrArg some (by kernel_rfl))
 f216:=Tryz.func310.trans (congrArg some (by kernel_rfl))
 f257:=Tryz.func298.trans (congrArg some (by kernel_rfl))
 f294:=Tryz.func304.trans (congrArg some (by kernel_rfl))
 f295:=Tryz.func305.trans (congrArg some (by kernel_rfl))
 f296:=Tryz.func306.trans (congrArg some (by kernel_rfl))
 f297:=Tryz.func307.trans (congrArg some (by kernel_rfl))
 f298:=Tryz.func308.trans (congrArg some (by kernel_rfl))
 f299:=Tryz.func309.trans (congrArg some (by kernel_rfl))
 f300:=Tryz.func311.trans (congrArg some (by kernel_rfl))
 f301:=Tryz.func312.trans (congrArg some (by kernel_rfl))
 f328:=Tryz.func318.trans (congrArg some (by kernel_rfl))
 f329:=Tryz.func319.trans (congrArg some (by kernel_rfl))
 f330:=Tryz.func320.trans (congrArg some (by kernel_rfl))
 f331:=Tryz.func321.trans (congrArg some (by kernel_rfl))
 f332:=Tryz.func322.trans (congrArg some (by kernel_rfl))
 f343:=Tryz.func325.trans (congrArg some (by kernel_rfl))
 t0:=Tryz.underlying0
 a0:=Tryz.isAgg0
 z0:=Tryz.sizeOf0
 v0:=Tryz.zeroValue0
 t3:=Tryz.underlying3
 a3:=Tryz.isAgg3
 z3:=Tryz.sizeOf3
 v3:=Tryz.zeroValue3
 t4:=Tryz.underlying4
 a4:=Tryz.isAgg4
 z4:=Tryz.sizeOf4
 v4:=Tryz.zeroValue4
 t5:=Tryz.underlying5
 a5:=Tryz.isAgg5
 z5:=Tryz.sizeOf5
 v5:=Tryz.zeroValue5
 t9:=Tryz.underlying9
 a9:=Tryz.isAgg9
 z9:=Tryz.sizeOf9
 v9:=Tryz.zeroValue9
 t28:=Tryz.underlying41
 a28:=Tryz.isAgg41
 z28:=Tryz.sizeOf41
 v28:=Tryz.zeroValue41
 t46:=Tryz.underlying91
 a46:=Tryz.isAgg91
 z46:=Tryz.sizeOf91
 v46:=Tryz.zeroValue91
 t51:=Tryz.underlying110
 a51:=Tryz.isAgg110
 z51:=Tryz.sizeOf110
 v51:=Tryz.zeroValue110
 t53:=Tryz.underlying267
 a53:=Tryz.isAgg267
 z53:=Tryz.sizeOf267
 v53:=Tryz.zeroValue267
 t131:=Tryz.underlying63
 a131:=Tryz.isAgg63
 z131:=Tryz.sizeOf63
 v131:=Tryz.zeroValue63
 t182:=Tryz.underlying383
 a182:=Tryz.isAgg383
 z182:=Tryz.sizeOf383
 v182:=Tryz.zeroValue383
 t183:=Tryz.underlying384
 a183:=Tryz.isAgg384
 z183:=Tryz.sizeOf384
 v183:=Tryz.zeroValue384
 t218:=Tryz.underlying394
 a218:=Tryz.isAgg394
 z218:=Tryz.sizeOf394
 v218:=Tryz.zeroValue394
 t222:=Tryz.underlying398
 a222:=Tryz.isAgg398
 z222:=Tryz.sizeOf398
 v222:=Tryz.zeroValue398
 t228:=Tryz.underlying401
 a228:=Tryz.isAgg401
 z228:=Tryz.sizeOf401
 v228:=Tryz.zeroValue401
 t229:=Tryz.underlying233
 a229:=Tryz.isAgg233
 z229:=Tryz.sizeOf233
 v229:=Tryz.zeroValue233}
open Go.Sort Go.RowKit in
theorem Gy (blk off cap:Nat) (zs:List Int) (w:ah) (hH:Holds (Value.int ac) w blk off zs.toArray) (hblk:blk<w.heap.size) (hsz:zs.length<4611686018427387904):
  ap aj 277 #[af (some ⟨blk,off,none⟩) zs.length cap] w fun e w'=>
   e=ao (aQ #[])/\∃n os,w'=grow (putRow (Value.int ac) (Sort.ahead w n) blk off (zs.mergeSort fun x y=>decide (x<=y)).toArray) os:=Any.slices_Sort_int yB blk off cap zs w hH hblk hsz
def Gz:Go.Shelf.Ren:=⟨fun | 20=>278 | n=>n,fun | 22=>41 | 3=>3 | 4=>4 | 0=>0 | n=>n,fun | n=>n⟩
set_option maxRecDepth 100000 in
theorem yC:Go.Proofs.Lays2.n20 aj Gz:={
 mixed:=by kernel_rfl
 f20:=Tryz.func278.trans (congrArg some (by kernel_rfl))
 t0:=Tryz.underlying0
 a0:=Tryz.isAgg0
 z0:=Tryz.sizeOf0
 v0:=Tryz.zeroValue0
 t3:=Tryz.underlying3
 a3:=Tryz.isAgg3
 z3:=Tryz.sizeOf3
 v3:=Tryz.zeroValue3
 t4:=Tryz.underlying4
 a4:=Tryz.isAgg4
 z4:=Tryz.sizeOf4
 v4:=Tryz.zeroValue4
 t22:=Tryz.underlying41
 a22:=Tryz.isAgg41
 z22:=Tryz.sizeOf41
 v22:=Tryz.zeroValue41
 i3:=by kernel_rfl}
open Go.RowKit Go.Lib Go.Sort in
open Go.RowKit Go.Lib Go.Sort in
theorem GA (blk off cap:Nat) (zs:List Int) (w:ah) (hH:Holds (Value.int ac) w blk off zs.toArray) (hsz:zs.length<=9223372036854775807) (hcap:zs.length<=cap):
  ap aj 278 #[af (some ⟨blk,off,none⟩) zs.length cap] w fun e w'=>e=ao (af (some ⟨blk,off,none⟩) (Lib.compact zs).length cap)/\∃q,w'=putRow (Value.int ac) (Sort.ahead w q) blk off (Lib.compact zs++bg (zs.length - (Lib.compact zs).length) 0).toArray:=Any.slices_Compact_int yC blk off cap zs w hH hsz hcap
open Go.RowKit Go.Lib Go.Sort in
theorem GB (a:Option aF) (cap:Nat) (w:ah):
  ap aj 278 #[af a 0 cap] w fun e w'=>e=ao (af a 0 cap)/\w'=w:=Any.slices_Compact_int_empty yC a cap w
end
section
open Go.RowKit Go.Lib Go.Sort
theorem yD {α:Type} (f:α->Bool):∀l:List α,(l.filter f).length=l.length↔∀x ∈ l,f x=true
 | []=>by simp
 | a::l=>by
  have h1:=List.length_filter_le f l;have ih:=yD f l;cases h:f a with
  | true=>simp[h,ih]
  | false=>
   rw[List.filter_cons_of_neg (by simp[h])];constructor
   ·intro e;simp at e;omega
   ·intro e;have:=e a (dC ..);rw[h]at this;cases this
theorem GC (zs:List Int):(compact zs).length=zs.length↔∀j,j<zs.length->keeps zs.toArray j=true:=by
 unfold compact compactUpTo;rw[dV];have:=yD (keeps zs.toArray) (cI zs.length);rw[List.length_range]at this;rw[this];simp
theorem GD {zs:List Int} (h:zs.Pairwise (·<=·)):(compact zs).length=zs.length↔zs.Nodup:=by
 rw[GC];constructor
 ·intro hk;refine List.pairwise_iff_getElem.2 fun i j hi hj hij=> ?_;have hs:=List.pairwise_iff_getElem.1 h;have h1:=hk j hj;unfold keeps at h1;have h2:zs[j - 1]<=zs[j]:=hs (j - 1) j (by omega) hj (by omega);have h3:zs[i]<=zs[j - 1]:=by
   by_cases e:i=j - 1
   ·subst e;exact fT _
   ·exact hs i (j - 1) hi (by omega) (by omega)
  have h4:zs[j]≠zs[j - 1]:=by
   have:=of_decide_eq_true h1;rcases this with h | h
   ·omega
   ·simpa [getElem!_pos,hj,show j - 1<zs.length by omega]using h
  omega
 ·intro hn j hj;unfold keeps;refine decide_eq_true ?_;by_cases h0:j=0
  ·exact aA h0
  ·right
   have:=List.pairwise_iff_getElem.1 hn (j - 1) j (by omega) hj (by omega);have h5:zs[j]≠zs[j - 1]:=fun e=>this e.symm
   simpa [getElem!_pos,hj,show j - 1<zs.length by omega]using h5
def sorted (zs:List Int):List Int:=zs.mergeSort fun x y=>decide (x<=y)
theorem GF (zs:List Int):(sorted zs).Pairwise (·<=·):=by
 have:=List.pairwise_mergeSort (le:=fun x y:Int=>decide (x<=y)) (fun a b c h1 h2=>by simp at *;omega) (fun a b=>by simp;omega) zs;exact this.imp fun h=>by simpa using h
theorem yE (zs:List Int):(sorted zs).Perm zs:=List.mergeSort_perm zs _
theorem rI (zs:List Int):(sorted zs).length=zs.length:=(yE zs).length_eq
theorem yG (zs:List Int):(compact (sorted zs)).length=zs.length↔zs.Nodup:=by
 rw[←rI zs,GD (GF zs)];exact(yE zs).nodup_iff
theorem yH {N:Nat} {w:ah} {v:ak} {zs:List Int} (h:w.ownsRow N 3 1 v zs.length (zs.map (Value.int ac))) (hv:v≠ af none 0 0) (hlen:zs.length<=1000000):
  ap aj 277 #[v] w fun e w'=>e=ao (aQ #[])/\w'.ownsRow N 3 1 v zs.length ((sorted zs).map (Value.int ac))/\w.grownBy w' v.ownBlock:=by
 rcases h.2 with⟨e0,_⟩ | ⟨g,cap,cur,rfl,hb,hg,hn,hm,hs,ht⟩
 ·exact absurd e0 hv
 ·rw[Nat.mul_one]at ht;have hH:=holds_of_blockI hg ht;refine(Gy g 0 cap zs w hH (bL.1 hg).1 (by omega)).mono ?_;rintro e w' ⟨rfl,n,os,rfl⟩;exact⟨rfl,ownsRow_sortedI (rI zs) hb hg hn hm hs,grownBy_sortedI _⟩
theorem yI {N:Nat} {w:ah} {v:ak} {zs:List Int} (h:w.ownsRow N 3 1 v zs.length (zs.map (Value.int ac))) (hv:v≠ af none 0 0):
  ap aj 278 #[v] w fun e w'=>(∃a cap,e=ao (af a (compact zs).length cap))/\w.grownBy w' v.ownBlock:=by
 rcases h.2 with⟨e0,_⟩ | ⟨g,cap,cur,rfl,hb,hg,hn,hm,hs,ht⟩
 ·exact absurd e0 hv
 ·rw[Nat.mul_one]at ht;have hH:=holds_of_blockI hg ht;refine(GA g 0 cap zs w hH (by unfold aY at hm;omega) hn).mono ?_;rintro e w' ⟨rfl,q,rfl⟩;refine⟨⟨_,_,rfl⟩, ?_⟩;have:=grownBy_sortedI (w:=w) (g:=g) (n:=q) (os:=#[]) (compact zs++bg (zs.length - (compact zs).length) 0).toArray
  rwa [grow_empty]at this
end
section
attribute [-simp] isAgg191 zeroValue191
attribute [-go_sem] aE aL
attribute [local go_sem] pT pU eJ rD nw
set_option maxRecDepth 100000 in
theorem GG {w:ah} {v:ak} {l:List (Int×Int)} (h:fU w v l) (bl ar:Int) (hlen:l.length<=800000):
  ap aj 296 #[v,ab ac bl,ab ac ar] w fun e w'=>e=ao (.bool (gB l bl ar))/\ag w.heap.size w w':=by
 have HP:=ae h;obtain⟨pa,ca,rfl, -⟩:=h;obtain⟨n,hn⟩:=w9nm l.length;rw[hn]at HP hlen ⊢;have HN:=ae hn;clear hn;obtain⟨i0,hi,hz0,hz1,hz2⟩:=fy rE;go_enter func296,ntmps296;go_wp2_with (at_make;refine wpList_make_own _ rfl _ _ 41 rfl w.heap.size 3 i0 (ab ac 0) 1 Tryz.underlying41 hi hz0 hz1 ac ac _ n rfl rfl rfl (by rw[hz2];omega) (by unfold aY;omega) (by simp) ?_;intro w1 hown1 hgrow1);have HI0:Hid (bT w.heap.size w1 (af (some ⟨w.heap.size,0,none⟩) 0 n) []):=hown1;have HB0:w9h w w1:=(aI _ w).grown hgrow1 (aG _) (fun k e=>by cases e);clear hown1 hgrow1 hi hz0 hz1 hz2;go_loopw [7,8,16] (fun lv av iv wr=>∃(k:Nat) (last:Int),k<=n/\lv=ab ac last/\iv=ab ac (k:Int)/\Hid (kU bl ar (-1) l=kU bl ar last (l.drop k))/\Hid (bT w.heap.size wr av ((l.take k).map (·.2))/\av≠ af none 0 0)/\w9h w wr) (fun _ _ iv _=>n - (aS iv).toNat)
 case atStart=>exact⟨0, -1,bc _,rfl,rfl,rfl,⟨HI0.out,by simp⟩,HB0⟩
 case round=>
  obtain⟨k,last,hk,rfl,rfl,HR,HA,HB⟩:=hrel;by_cases hlt:k<n
  ·obtain⟨p,hp⟩:∃p,l[k]? =some p:=⟨_,aZ (by rw[HN.out];exact hlt)⟩;have hsn:l.take (k+1)=l.take k++ [p]:=by rw[jZ,hp];rfl
   obtain⟨bb,off,rfl,hbb,c1,c2⟩:=(HP.out.below HB.out).at hp;obtain⟨x0,y0⟩:=p;simp only at c1 c2;have hst:=FQ hp bl ar last;rw[←HR.out]at hst;have HST:=ae hst;have HSN:=ae hsn;have g1:(k:Int)< (n:Int):=by omega
   have HW:Hid (wrap64 ((k:Int)+1)=(k:Int)+1):=kR _ (by omega);have LD:=mt c1 c2;have ST:=mu wr x0 y0;obtain⟨W2,hW2⟩:=w9nm (wr.alloc (an #[ab ac x0,ab ac y0] 191));rw[hW2]at ST;have hb2:ag wr.heap.size wr W2:=by rw[←hW2];exact aH wr _
   have hR:aq W2 wr.heap.size 191 (oK x0 y0):=by rw[←hW2];exact aq.new wr _ _
   have d1:W2.cell? ⟨wr.heap.size,0,none⟩=some (ab ac x0):=hR.cell 0 _ rfl;have d2:W2.cell? ⟨wr.heap.size,1,none⟩=some (ab ac y0):=hR.cell 1 _ rfl;have HB2:=w9bt HB hb2;have hA2:=HA.out.1.below hb2;obtain⟨f2,W4,hr,h1,h2,h3⟩:=rH hA2 HB2.out.size y0 (by rw[dV,dj];omega);have HAP:=ae hr;have HA4:Hid (bT w.heap.size W4 f2 ((l.take (k+1)).map (·.2))/\f2≠ af none 0 0):=⟨by rw[HSN.out,ec];exact h1,h3⟩;have HB4:w9h w W4:=HB2.out.grown h2 HB2.out.size (fun j e=>(hA2.base j e).1);obtain⟨W3,hW3⟩:=w9nm (W2.alloc (an #[ab ac y0] 3));have SB:Hid ((dh 41 1 #[(0,ab ac y0)]).run aj W2=.ok (af (some ⟨W2.heap.size,0,none⟩) 1 1) W3):=by show _=_;rw[←hW3];exact uT W2 y0
   rw[hW3]at HAP;have HLT:=ae hlt;clear hp hbb c1 c2 hW2 HB hlt hb2 hsn hst hR hA2 hr h1 h2 h3 hW3 HA HR HSN;by_cases q1:x0<=last
   ·have e1:decide (x0<=last)=true:=by simpa using q1
    have HG:Hid (gB l bl ar=false):=by
     show _=_;unfold gB;rw[HST.out,show decide (last<x0)=false by simp;omega];simp
    go_wp2_with fail;go_ret;exact⟨by rw[HG.out];rfl,HB2.out⟩
   ·have e1:decide (x0<=last)=false:=by simpa using q1
    by_cases q2:bl<=x0
    ·have e2:decide (x0≥bl)=true:=by simpa using q2
     have HG:Hid (gB l bl ar=false):=by
      show _=_;unfold gB;rw[HST.out,show decide (x0<bl)=false by simp;omega];simp
     go_wp2_with fail;go_ret;exact⟨by rw[HG.out];rfl,HB2.out⟩
    ·have e2:decide (x0≥bl)=false:=by simpa using q2
     by_cases q3:y0<0
     ·have e3:decide (y0<0)=true:=by simpa using q3
      have HG:Hid (gB l bl ar=false):=by
       show _=_;unfold gB;rw[HST.out,show decide (0<=y0)=false by simp;omega];simp
      go_wp2_with fail;go_ret;exact⟨by rw[HG.out];rfl,HB2.out⟩
     ·have e3:decide (y0<0)=false:=by simpa using q3
      by_cases q4:ar<=y0
      ·have e4:decide (y0≥ar)=true:=by simpa using q4
       have HG:Hid (gB l bl ar=false):=by
        show _=_;unfold gB;rw[HST.out,show decide (y0<ar)=false by simp;omega];simp
       go_wp2_with fail;go_ret;exact⟨by rw[HG.out];rfl,HB2.out⟩
      ·have e4:decide (y0≥ar)=false:=by simpa using q4
       have HG:Hid (kU bl ar (-1) l=kU bl ar x0 (l.drop (k+1))):=by
        show _=_;rw[HST.out,show decide (last<x0)=true by simp;omega,show decide (x0<bl)=true by simp;omega,show decide (0<=y0)=true by simp;omega,show decide (y0<ar)=true by simp;omega]
        rfl
       go_wp2_with (first | (refine iu ?_;refine dR 41 1 #[(0,.tmp 45)] rfl rfl [(0,ab ac y0)] _ rfl SB.out ?_) | (at_builtin;refine wpList_append_run (.tmp 43) (.tmp 46) 41 rfl rfl _ _ _ rfl rfl (HAP.out _) ?_));exact⟨⟨k+1,x0,HLT.out,rfl,by simp,HG,HA4,HB4⟩,by simp[aS];omega⟩
  ·obtain rfl:k=n:=by omega
   rw[de (by rw[HN.out];exact aG _)]at HA;rw[List.drop_of_length_le (by rw[HN.out];exact aG _)]at HR;obtain⟨zs,hzs⟩:=w9nm (l.map (·.2));have hzl:zs.length=k:=by rw[←hzs,dV];exact HN.out
   have HG:Hid (gB l bl ar=decide zs.Nodup):=by
    show _=_;unfold gB;rw[HR.out,hzs]
    rfl
   rw[hzs]at HA;have HZL:=ae hzl;have HS:=ae (yH HA.out.1 HA.out.2 (by omega));clear hzs hzl HR hlt;go_wp2_with fail;go_at_call 277;refine HS.out.mono ?_;rintro e y ⟨rfl,hO,hG⟩;have HB1:w9h w y:=HB.out.grown hG HB.out.size (fun j e=>(HA.out.1.base j e).1);have hO2:bT w.heap.size y u8 (sorted zs):=by
    show y.ownsRow _ _ _ _ _ _;rw[rI];exact hO
   have HBA:=hO2.base;have hc:=yI hO2 HA.out.2;obtain⟨m,hm⟩:=w9nm ((Lib.compact (sorted zs)).length);rw[hm]at hc;have HM:Hid (gB l bl ar=((m:Int)==(k:Int))):=by
    show _=_;rw[HG.out];have hh:=yG zs;rw[hm,HZL.out]at hh;by_cases e:m=k
    ·rw[decide_eq_true (hh.1 e),e];simp
    ·rw[decide_eq_false (fun x=>e (hh.2 x))]
     symm
     simp;omega
   have HC:=ae hc;clear hO hG hO2 HS HA HB hc hm HG;go_wp2_with fail;go_at_call 278;refine HC.out.mono ?_;rintro e z ⟨⟨a2,c2,rfl⟩,hG⟩;have HB2:w9h w z:=HB1.out.grown hG HB1.out.size (fun j e=>(HBA j e).1);clear hG HC HB1 HBA;go_wp2_with fail;go_ret;exact⟨by rw[HM.out];rfl,HB2.out⟩
theorem yJ {P:Program} {l:List Oper} {Q:Exit->Act->ah->Prop} {S:ah->Prop} {n i j:Nat} {p q:Plan} {a:Act} {w:ah}:em P l Q S n (.two i j p q) a w=(wpList P l.toArray (it S Q (em P l Q S n p)) [dL l i] a w/\wpList P l.toArray (it S Q (em P l Q S n q)) [dL l j] a w):=rfl
end
section
theorem oL {P:Program} {w w':ah} {ops:Array Oper} {rest:List Oper} {o:Oper} {a:Act} {Q:Exit->Act->ah->Prop} (t:aR) (l c:Operand)
  (ho:o.op=.makeSlice t l c) (hw:Region.wanted o (yielded ops a.tmps)=true) (vl vc v':ak) (hl:a.eval l=vl) (hc:a.eval c=vc)
  (hrun:(Instr.makeSlice t vl vc).run P w=.ok v' w') (h:wpList P ops Q rest (a.put o.dst v') w'):wpList P ops Q (o::rest) a w:=by
 unfold wpList;rw[if_pos hw];refine aA ?_;unfold Oper.wp;simp only[execOp,ho,gK,hl,hc,hrun,ek,Sem.run_pure];exact h
theorem pV {P:Program} {w:ah} {ops:Array Oper} {rest:List Oper} {a:Act} {Q:Exit->Act->ah->Prop} {dst:Option Tmp} {t ty:aR} {l c:Operand} {pos:String} {after:Array Edge} {guard:Option (Nat×Bool)}
  (h:wpList P ops Q ({dst:=dst,op:=.makeSlice t l c,type:=ty,pos:=pos,after:=after,guard:=guard}::rest) a w):
  wpList P ops Q ({dst:=dst,op:=.makeSlice t l c,type:=ty,pos:=pos,after:=after,guard:=guard}::rest) a w:=h
theorem nz {P:Program} {w w':ah} {ops:Array Oper} {rest:List Oper} {o:Oper} {a:Act} {Q:Exit->Act->ah->Prop} (t:aR) (parts:Array (Nat×Operand))
  (ho:o.op=.build t parts) (hw:Region.wanted o (yielded ops a.tmps)=true) (vs:List (Nat×ak)) (v':ak) (hs:(parts.toList.map fun(i,x)=>(i,a.eval x))=vs)
  (hrun:(df t vs.toArray).run P w=.ok v' w') (h:wpList P ops Q rest (a.put o.dst v') w'):wpList P ops Q (o::rest) a w:=by
 unfold wpList;rw[if_pos hw];refine aA ?_;have hs':(parts.map fun(i,x)=>(i,a.eval x))=vs.toArray:=by
  apply Array.toList_inj.1;rw[Array.toList_map,hs]
 unfold Oper.wp;simp only[execOp,ho,gK,hs',hrun,ek,Sem.run_pure];exact h
theorem nA (k:aR) {P:Program} {w:ah} {ops:Array Oper} {rest:List Oper} {a:Act} {Q:Exit->Act->ah->Prop} {dst:Option Tmp} {ty:aR} {parts:Array (Nat×Operand)} {pos:String} {after:Array Edge} {guard:Option (Nat×Bool)}
  (h:wpList P ops Q ({dst:=dst,op:=.build k parts,type:=ty,pos:=pos,after:=after,guard:=guard}::rest) a w):
  wpList P ops Q ({dst:=dst,op:=.build k parts,type:=ty,pos:=pos,after:=after,guard:=guard}::rest) a w:=h
end
section
def yK:ByteArray:=⟨#[8,0,1,0,2,0,1,0,3,0,1,0,2,0,1,0,4,0,1,0,2,0,1,0,3,0,1,0,2,0,1,0,5,0,1,0,2,0,1,0,3,0,1,0,2,0,1,0,4,0,1,0,2,0,1,0,3,0,1,0,2,0,1,0,6,0,1,0,2,0,1,0,3,0,1,0,2,0,1,0,4,0,1,0,2,0,1,0,3,0,1,0,2,0,1,0,5,0,1,0,2,0,1,0,3,0,1,0,2,0,1,0,4,0,1,0,2,0,1,0,3,0,1,0,2,0,1,0,7,0,1,0,2,0,1,0,3,0,1,0,2,0,1,0,4,0,1,0,2,0,1,0,3,0,1,0,2,0,1,0,5,0,1,0,2,0,1,0,3,0,1,0,2,0,1,0,4,0,1,0,2,0,1,0,3,0,1,0,2,0,1,0,6,0,1,0,2,0,1,0,3,0,1,0,2,0,1,0,4,0,1,0,2,0,1,0,3,0,1,0,2,0,1,0,5,0,1,0,2,0,1,0,3,0,1,0,2,0,1,0,4,0,1,0,2,0,1,0,3,0,1,0,2,0,1,0]⟩
theorem GH:yK.size=256:=by decide+kernel
theorem GI:∀q:Fin 256,wrap64 ((yK[q.1]'(by rw[GH];exact q.2)).toNat:Int)=(nr q.1:Int):=by decide+kernel
theorem GJ (r:Nat) (h:r<256) (w:ah):ap aj 317 #[ab ay (r:Int)] w fun e w'=>e=ao (ab ac (nr r:Int))/\w'=w:=by
 go_enter func317,ntmps317;go_wp2;go_ret;refine⟨?_,rfl⟩;exact congrArg (fun x=>Ending.returned (Value.int ac x)) (GI ⟨r,h⟩)
theorem uU {n:Int} (h:(Lit.int ac n).wf=true): -9223372036854775808<=n/\n<=9223372036854775807:=by
 have:=range_i64 (zs:= [n]) (fun x hx=>by rw[eF.1 hx];exact h) 0
 simpa using this
theorem yL (n:Int) (w:ah):ap aj 249 #[ab ac n] w fun e w'=>e=ao (ab ac (fa n:Int))/\w'=w:=by
 obtain⟨s,hs⟩:∃s:Int,(fa n:Int)=s:=⟨_,rfl⟩;rw[hs];have HS:=ae hs;clear hs;by_cases h1:n<1
 ·have e:s=0:=by rw[←HS.out,fa,if_pos (aA h1)];rfl
  subst e;go_enter func249,ntmps249;go_wp2;go_ret;exact⟨rfl,rfl⟩
 ·by_cases h2:4096<n
  ·have e:s=0:=by rw[←HS.out,fa,if_pos (aD h2)];rfl
   subst e;go_enter func249,ntmps249;go_wp2;go_ret;exact⟨rfl,rfl⟩
  ·have e:(n+8 - 1) / 8=s:=by rw[←HS.out,fa,if_neg (by omega)];omega
   go_enter func249,ntmps249;go_wp2;go_ret;exact⟨rfl,rfl⟩
theorem yM (a:Option aF) (len cap:Nat) (i:Int) (hi:(Lit.int ac i).wf=true) (w:ah):ap aj 183 #[af a len cap,ab ac i] w fun e w'=>e=ao (.bool (decide (0<=i/\i / 8<len)))/\w'=w:=by
 obtain⟨b,hb⟩:=w9nm (decide (0<=i/\i / 8<len));rw[hb];have HB:=ae hb;have hr:=uU hi;clear hb;by_cases h1:0<=i
 ·have e:wrap64 (i.tdiv 8)=i / 8:=by
   rw[Int.tdiv_eq_ediv_of_nonneg h1];unfold wrap64;omega
  have HE:=ae e;clear e hr;go_enter func183,ntmps183;go_wp2;go_ret;refine⟨congrArg (fun x=>Ending.returned (Value.bool x)) ?_,rfl⟩;rw[HE.out,←HB.out];simp[h1]
 ·have e:b=false:=by rw[←HB.out];exact decide_eq_false (by omega)
  subst e;go_enter func183,ntmps183;go_wp2;go_ret;exact⟨rfl,rfl⟩
theorem yN (i:Nat) (hi:i<9223372036854775808) (w:ah):ap aj 184 #[ab ac (i:Int)] w fun e w'=>e=ao (ab ay (2^(i%8)))/\w'=w:=by
 have e:(2:Int)^(i%8)%256=2^(i%8):=ox (fun k=>(2:Int)^k%256=2^k) (by decide) (by decide) (by decide) (by decide) (by decide) (by decide) (by decide) (by decide) (i%8) (by omega);have HE:=ae e;clear e;go_enter func184,ntmps184;go_wp2;go_ret;exact⟨congrArg (fun x=>Ending.returned (Value.int ay x)) HE.out,rfl⟩
set_option maxRecDepth 100000 in
theorem rJ (n:Int) (w:ah):ap aj 176 #[ab ac n] w fun e w'=>∃v,e=ao v/\Sl ay w' v (bg (fa n) 0)/\ag w.heap.size w w':=by
 obtain⟨i0,hi,hz0,hz1,hz2⟩:=fy nu;have HC:=fun W=>ae (yL n W);have hs:fa n<=512:=by unfold fa;split<;>omega
 obtain⟨s,hs'⟩:∃s,fa n=s:=⟨_,rfl⟩;rw[hs']at hs ⊢;simp only[hs']at HC;clear hs';go_enter func176,ntmps176;go_wp2_with fail;refine(HC w).out.mono ?_;rintro e w' ⟨rfl,rfl⟩;clear HC;go_wp2_with (at_make;refine wpList_make_full _ rfl _ _ 76 rfl w'.heap.size 5 i0 (ab ay 0) 1 Tryz.underlying76 hi hz0 hz1 ac ac _ _ s rfl rfl rfl rfl (by rw[hz2];omega) (by unfold aY;omega) (by simp) ?_;intro w1 hown1 hgrow1);go_ret;refine⟨_,rfl, ?_,(aI _ w').grown hgrow1 (aG _) (fun k e=>by cases e)⟩;rw[show(Value.int ay 0).cells=#[ab ay 0]from rfl,toList_madeCells_one,Nat.mul_one]at hown1;have:=Sl.of_owns (bs:=bg s 0) (by rw[iq,List.map_replicate];exact hown1);exact this
theorem GK (p:aF) (n c:Nat) (w:ah):(binOp .eql 76 (af (some p) n c) (af none 0 0)).run aj w=.ok (.bool false) w:=by kernel_rfl
theorem GM (w:ah):(binOp .eql 76 (af none 0 0) (af none 0 0)).run aj w=.ok (.bool true) w:=by kernel_rfl
attribute [local go_sem] GK GM
theorem yO (v:ak) (bs:List Int) (w:ah) (hv:Sl ay w v bs) (hlen:bs.length<=140737488355328):ap aj 135 #[v] w fun e w'=>∃v',e=ao v'/\w'.ownsRow w.heap.size 5 1 v' bs.length (bs.map (Value.int ay))/\ag w.heap.size w w':=by
 obtain⟨v3,w3,HA,HO,HB⟩:=yu w v bs hv hlen;obtain⟨a,cap,rfl,hc,hm,hl,hn⟩:=hv;cases a with
 | none=>
  obtain rfl:=hn rfl;have hz:bs= []:=ka (by omega);subst hz;clear HA HO HB;go_enter func135,ntmps135;go_wp2;go_ret;exact⟨_,rfl,jc _ _ _ _,aI _ _⟩
 | some x=>
  clear hl hn hc hm;go_enter func135,ntmps135;go_wp2_with (at_builtin;refine wpList_append_run (.tmp 5) (.tmp 6) 76 rfl rfl _ _ _ rfl rfl HA.out ?_);go_ret;exact⟨_,rfl,HO.out,HB.out⟩
theorem GN {w:ah} {base g cap:Nat} {bs:List Int} (h:w.ownsRow base 5 1 (af (some ⟨g,0,none⟩) bs.length cap) bs.length (bs.map (Value.int ay))) (j:Nat) (x:Int):
  (w.setCell ⟨g,j,none⟩ (ab ay x)).ownsRow base 5 1 (af (some ⟨g,0,none⟩) (bs.set j x).length cap) (bs.set j x).length ((bs.set j x).map (Value.int ay)):=by
 have:=(h.stored j (ab ay x)).1;rw[List.length_set,List.map_set];exact this
theorem uV (v:ak) (bs:List Int) (i:Int) (hi:(Lit.int ac i).wf=true) (w:ah) (hv:Sl ay w v bs) (hb:aP bs) (hlen:bs.length<=140737488355328):
  ap aj 92 #[v,ab ac i] w fun e w'=>∃v',e=ao v'/\Sl ay w' v' (gO bs i)/\ag w.heap.size w w':=by
 have HC:=ae (yO v bs w hv hlen);have hmx:=w9x
 have HI:=ae hi;have HBs:=ae hb;have HR:=ae (uU hi);clear hv hi hb;go_enter func92,ntmps92;go_wp2_with fail;refine HC.out.mono ?_;clear HC;rintro e w1 ⟨v1,rfl,ho,hB⟩;have HB:=ae hB;have HS:Hid (Sl ay w1 v1 bs):=Sl.of_owns ho;obtain⟨a,cap,rfl,hcc,hcm, -, -⟩:=HS.out;have HO:=ae ho;clear ho hB;obtain⟨L,hL⟩:=w9nm bs.length;have HL:=ae hL;rw[hL]at hlen hcc HO ⊢;clear hL;go_wp2_with fail;refine(yM a L cap i HI.out w1).mono ?_;rintro e w' ⟨rfl,hw'⟩;obtain rfl:=hw'.symm;by_cases h:0<=i/\i / 8< (L:Int)
 ·rw[decide_eq_true h];obtain⟨n,rfl⟩:=mO h.1;have hn:n / 8<L:=by omega
  have ho:=HO.out;have hlen':=HL.out;rcases ho.2 with⟨h',h0⟩ | ⟨g,cap',cur,h',hg,_⟩
  ·exfalso;omega
  ·simp only[Value.slice.injEq]at h';obtain⟨rfl,_,rfl⟩:=h';obtain⟨x,hx⟩:=w9nm (bs[n / 8]?.getD 0);obtain⟨k,hk⟩:=w9nm (n / 8);have hxb:=HBs.out (n / 8);rw[hx]at hxb;rw[hk]at hn hx;have c1:w1.cell? ⟨g,k,none⟩=some (ab ay x):=by
    rw[ho.cellAt k (by omega),dY,aZ (by omega)];rw[aZ (by omega)]at hx
    simpa using hx
   have f1:w1.frozen? ⟨g,k,none⟩=false:=ho.frozenAt _;have hq:(n:Int) / 8=(k:Int):=by omega
   have hp:(2:Int)^(n%8)<256:=ox (fun k=>(2:Int)^k<256) (by decide) (by decide) (by decide) (by decide) (by decide) (by decide) (by decide) (by decide) (n%8) (by omega);have hp0:(0:Int)<=2^(n%8):=Int.le_of_lt (Int.pow_pos (by omega));obtain⟨y,hy⟩:=w9nm (mo x (2^(n%8)));have hor:bits .or ay x (2^(n%8))=y:=by rw[u8_or x _ hxb.1 hxb.2 hp0 hp,←hy];rfl
   have HBt:=ae (yN n (by have:=HR.out;omega));obtain⟨b,hb⟩:∃b:Int,2^(n%8)=b:=⟨_,rfl⟩;rw[hb]at hor hy hp hp0;simp only[hb]at HBt;have ho':w1.drew.ownsRow w.heap.size 5 1 (af (some ⟨g,0,none⟩) L cap) L (bs.map (Value.int ay)):=ho;have HF:Hid (w1.drew.grownBy (w1.drew.setCell ⟨g,k,none⟩ (ab ay y)) (some g)/\Sl ay (w1.drew.setCell ⟨g,k,none⟩ (ab ay y)) (af (some ⟨g,0,none⟩) L cap) (gO bs (n:Int))):=by
    refine⟨(ho'.stored k _).2, ?_⟩;have e:gO bs (n:Int)=bs.set k y:=by
     unfold gO;rw[if_pos (by omega),iG,hk,hx,hb,hy]
    rw[e];have:=GN (x:=y) (j:=k) (by rw[hlen'];exact ho');have:=Sl.of_owns this;rw[List.length_set,hlen']at this;exact this
   have HG:=ae hg;have hkL:(k:Int)< (L:Int):=by omega
   have hk0:(k:Int)<=1152921504606846975:=by have:=HR.out;omega
   clear hx hy hb hk ho ho' hn hxb hp hp0 h hlen' hg;go_wp2_with fail;refine du (fun x=>x=w1.drew) 9 (.takes [0,1,2,3,4,5] (.one 6 (.takes [7,8] .leaf))) hmx (by kernel_rfl) (by intro c x v a w h;cases x<;>exact h) rfl ?_;repeat(rw[bu];simp only[aB,aC];go_big_quiet_step (fail);refine aV ?_)
   rw[bt,aT];simp only[aB,aC];go_wp2_with fail;refine(HBt.out _).mono ?_;rintro e w2 ⟨rfl,hw2⟩;obtain rfl:=hw2.symm;go_wp2_with fail;refine aN rfl ?_;repeat(rw[bu];simp only[aB,aC];go_big_quiet_step (fail);refine aV ?_)
   rw[bt,cW];simp only[bR,bQ];go_wp2_with fail;go_ret;exact⟨_,rfl,HF.out.2,HB.out.drew.grown HF.out.1 HB.out.size (fun k e=>by cases e;exact HG.out)⟩
 ·rw[decide_eq_false h];go_wp2_with fail;go_ret;refine⟨_,rfl, ?_,HB.out⟩;unfold gO;rw[if_neg (by rw[HL.out];exact h)];have:=HS.out;rw[HL.out]at this;exact this
theorem rK (v:ak) (bs:List Int) (i:Int) (hi:(Lit.int ac i).wf=true) (w:ah) (hv:Sl ay w v bs) (hb:aP bs):
  ap aj 273 #[v,ab ac i] w fun e w'=>e=ao (.bool (dE bs i))/\ag w.heap.size w w':=by
 have hmx:=w9x
 obtain⟨a,cap,rfl,hcc,hcm,hl, -⟩:=hv;obtain⟨L,hL⟩:=w9nm bs.length;have HL:=ae hL;have HR:=ae (uU hi);have HQ:Hid (∀x:aM w,ap aj 183 #[af a L cap,ab ac i] x.1 fun e w'=>e=ao (.bool (decide (0<=i/\i / 8< (L:Int))))/\∃y:aM w,w'=y.1):=
  fun x=>(yM a L cap i hi x.1).mono fun e w' ⟨h1,h2⟩=>⟨h1,x,h2⟩
 rw[hL]at hcc ⊢;clear hL hi;by_cases h:0<=i/\i / 8< (L:Int)
 ·rw[decide_eq_true h]at HQ;obtain⟨n,rfl⟩:=mO h.1;obtain⟨x,hx⟩:=w9nm (bs[n / 8]?.getD 0);obtain⟨k,hk⟩:=w9nm (n / 8);have hn:k<L:=by omega
  obtain⟨y,rfl,hy8⟩:∃y:Nat,x=(y:Int)/\y<256:=by
   obtain⟨y,h1,h2⟩:=oz bs hb (n / 8);exact⟨y,by rw[←hx,h1],h2⟩
  obtain⟨b,o,rfl,hbw,hcs⟩:∃b o,a=some ⟨b,o,none⟩/\b<w.heap.size/\∀j,j<bs.length->w.cell? ⟨b,o+j,none⟩=some (ab ay (bs[j]?.getD 0)):=by
   rcases hl with h | h
   ·have:=HL.out;rw[h]at this;simp at this;omega
   ·exact h
  have c1:∀y':aM w,y'.1.cell? ⟨b,o+k,none⟩=some (ab ay (y:Int)):=fun y'=>by
   rw[y'.2.cell (p:=⟨b,o+k,none⟩) hbw,hcs k (by rw[HL.out];exact hn),←hk,hx]
  have hq:(n:Int) / 8=(k:Int):=by omega
  have hres:dE bs (n:Int)=y.testBit (n%8):=by
   rw[FK];unfold gM;rw[hx,iG]
  have HBt:Hid (∀x:aM w,ap aj 184 #[ab ac (n:Int)] x.1 fun e w'=>e=ao (ab ay (2^(n%8)))/\∃y:aM w,w'=y.1):=
   fun x=>(yN n (by have:=HR.out;omega) x.1).mono fun e w' ⟨h1,h2⟩=>⟨h1,x,h2⟩
  obtain⟨j,hj⟩:=w9nm (n%8);have hj8:j<8:=by omega
  obtain⟨q,hq2⟩:∃q:Int,(2:Int)^(n%8)=q:=⟨_,rfl⟩;have hpq:q=((2^j:Nat):Int):=by rw[←hq2,hj];simp
  have hp8:2^j<256:=bq (Nat.pow_lt_pow_right (by omega) hj8) (by decide);have hand:bits .and ay (y:Int) q=((y&&& 2^j:Nat):Int):=by rw[hpq,u8_and_nat y _ hy8 hp8]
  obtain⟨z,hz⟩:∃z:Int,((y&&& 2^j:Nat):Int)=z:=⟨_,rfl⟩;rw[hz]at hand;have hzz:(z != 0)=dE bs (n:Int):=by
   rw[hres,hj,←hz,nat_bit,Nat.testBit_eq_decide_div_mod_eq];have hpp:0<2^j:=Nat.two_pow_pos j;by_cases e:y / 2^j%2=1
   ·rw[e,decide_eq_true rfl,Nat.one_mul,bne_iff_ne.2 (by omega:((2^j:Nat):Int)≠0)]
   ·have e0:y / 2^j%2=0:=by omega
    rw[e0];simp
  obtain⟨r,hr⟩:=w9nm (dE bs (n:Int));rw[hr]at hzz;rw[hr];rw[hq2]at HBt;have HZ:=ae hzz;have hkL:(k:Int)< (L:Int):=by omega
  have hk0:(k:Int)<=1152921504606846975:=by have:=HR.out;omega
  clear hx hk hn hcs hl hres hpq hp8 hz hzz hr hq2 hj hj8 h hb;go_enter func273,ntmps273;go_wp2_with fail;refine ig (by kernel_rfl) (by kernel_rfl) ?_;repeat(go_big_quiet_step (with_reducible (first | exact HQ.out _ | exact HBt.out _)))
  refine aV ?_;intro x;go_wp2_with fail;go_ret;exact⟨congrArg (fun b=>Ending.returned (Value.bool b)) HZ.out,x.2⟩
 ·rw[decide_eq_false h]at HQ;have hres:dE bs i=false:=by
   unfold dE;by_cases h0:0<=i
   ·have:gM bs i.toNat=false:=by
     rw[Bool.eq_false_iff];intro hh;have:=yb hh;rw[HL.out]at this;omega
    rw[this,Bool.and_false]
   ·rw[decide_eq_false h0,Bool.false_and]
  rw[hres];clear hres hl h HR hb;go_enter func273,ntmps273;go_wp2_with fail;refine ig (by kernel_rfl) (by kernel_rfl) ?_;repeat(go_big_quiet_step (with_reducible (first | exact HQ.out _)))
  refine aV ?_;intro x;go_wp2_with fail;go_ret;exact⟨rfl,x.2⟩
theorem GO {W:ah} {base g:Nat} {xs:List Int} (h:W.heap[g]? =some (an (xs.map (Value.int ay)).toArray 5 (0,0))) (hb:base<=g) (hm:xs.length<=aY):
  W.ownsRow base 5 1 (af (some ⟨g,0,none⟩) xs.length xs.length) xs.length (xs.map (Value.int ay)):=
 ⟨by simp,aD ⟨g,xs.length,_,rfl,hb,h,aG _,hm,by simp,by rw[Nat.mul_one];exact de (by simp)⟩⟩
theorem GP {W:ah} {base g n cap:Nat} {xs:List Int} (h:W.ownsRow base 5 1 (af (some ⟨g,0,none⟩) n cap) n (xs.map (Value.int ay))) (j:Nat) (hj:j<n):
  W.cell? ⟨g,j,none⟩=some (ab ay (xs[j]?.getD 0)):=by
 have hl:xs.length=n:=by simpa using h.1
 rw[h.cellAt j (by omega),dY,aZ (by omega)]
 rfl
end
section
abbrev jj:=Option aF×Nat×Nat
def aK (x:jj):ak:=af x.1 x.2.1 x.2.2
abbrev SV:=Int×jj×jj
def cX (q:SV):List ak:= [ab ac q.1,aK q.2.1,aK q.2.2]
def dZ (q:SV):ak:=al #[ab ac q.1,aK q.2.1,aK q.2.2]
def iM (l:List SV):List ak:=l.flatMap cX
theorem GQ (p:SV) (l:List SV):iM (p::l)=ab ac p.1::aK p.2.1::aK p.2.2::iM l:=rfl
theorem GR (a b:List SV):iM (a++b)=iM a++iM b:=by simp[iM]
theorem GS {l:List SV} {j:Nat} {p:SV} (h:l[j]? =some p):(iM l)[j*3]? =some (ab ac p.1)/\(iM l)[j*3+1]? =some (aK p.2.1)/\(iM l)[j*3+2]? =some (aK p.2.2):=by
 induction l generalizing j with
 | nil=>simp at h
 | cons q l ih=>
  rw[GQ];cases j with
  | zero=>simp at h;subst h;exact⟨rfl,rfl,rfl⟩
  | succ j=>
   have:=ih (j:=j) (by simpa using h);rw[show(j+1)*3=j*3+1+1+1 by omega]
   simpa using this
structure SnIs (W:ah) (q:SV) (s:SN):Prop where
 id:q.1=s.id
 ch:Sl ay W (aK q.2.1) s.ch
 tb:fU W (aK q.2.2) s.tb
 ok:s.Ok
theorem SnIs.below {W W':ah} {q:SV} {s:SN} (h:SnIs W q s) (hB:ag W.heap.size W W'):SnIs W' q s:=⟨h.id,h.ch.below hB,h.tb.below hB,h.ok⟩
def mv (W:ah) (v:ak) (r:List SV) (l:List SN):Prop:=∃a cap,v=af a l.length cap/\l.length<=cap/\cap<=aY/\(a=none->cap=0)/\r.length=l.length/\(∀(j:Nat) (q:SV) (s:SN),r[j]? =some q->l[j]? =some s->SnIs W q s)/\
 (l= []\/∃b off,a=some ⟨b,off,none⟩/\b<W.heap.size/\∀j q,r[j]? =some q->W.cell? ⟨b,off+j*3,none⟩=some (ab ac q.1)/\W.cell? ⟨b,off+j*3+1,none⟩=some (aK q.2.1)/\W.cell? ⟨b,off+j*3+2,none⟩=some (aK q.2.2))
def ki (W:ah) (v:ak) (l:List SN):Prop:=∃r,mv W v r l
theorem mv.below {W W':ah} {v:ak} {r:List SV} {l:List SN} (h:mv W v r l) (hB:ag W.heap.size W W'):mv W' v r l:=by
 obtain⟨a,cap,rfl,h1,h2,hz,hr,hs,h4⟩:=h;refine⟨a,cap,rfl,h1,h2,hz,hr,fun j q s hq hl=>(hs j q s hq hl).below hB, ?_⟩;rcases h4 with h4 | ⟨b,off,rfl,h5,h6⟩
 ·exact aA h4
 ·exact aD ⟨b,off,rfl,bq h5 hB.size,fun j p hj=>⟨(hB.cell (p:=⟨b,off+j*3,none⟩) h5).trans (h6 j p hj).1,(hB.cell (p:=⟨b,off+j*3+1,none⟩) h5).trans (h6 j p hj).2.1,(hB.cell (p:=⟨b,off+j*3+2,none⟩) h5).trans (h6 j p hj).2.2⟩⟩
theorem ki.below {W W':ah} {v:ak} {l:List SN} (h:ki W v l) (hB:ag W.heap.size W W'):ki W' v l:=h.imp fun _ h=>h.below hB
theorem ki.nil (W:ah):ki W (af none 0 0) []:=⟨[],none,0,rfl,aG _,bc _,(fun _=>rfl),rfl,fun j q s h=>(by cases h),aA rfl⟩
theorem mv.at {W:ah} {a:Option aF} {n cap k:Nat} {r:List SV} {l:List SN} (h:mv W (af a n cap) r l) {s:SN} (hk:l[k]? =some s):
  ∃b off q,a=some ⟨b,off,none⟩/\b<W.heap.size/\r[k]? =some q/\SnIs W q s/\W.cell? ⟨b,off+k*3,none⟩=some (ab ac q.1)/\W.cell? ⟨b,off+k*3+1,none⟩=some (aK q.2.1)/\W.cell? ⟨b,off+k*3+2,none⟩=some (aK q.2.2):=by
 obtain⟨a',cap',e,h1,h2,hz,hr,hs,h4⟩:=h;cases e;rcases h4 with rfl | ⟨b,off,rfl,h5,h6⟩
 ·simp at hk
 ·have hkl:=(bZ.1 hk).1;have hq:=aZ (l:=r) (i:=k) (by omega);exact⟨b,off,_,rfl,h5,hq,hs k _ s hq hk,h6 k _ hq⟩
theorem yP (t:aR) (h:t≠ 90) (a:aF):aE t a=(do if←isAgg t then pure (al (←loadCells a (←sizeOf t)))else load a):=rfl
theorem yQ (t:aR) (h:t≠ 90) (a:aF) (v:ak):aL t a v=(do
  if v.cells.size≠(←sizeOf t)then stuck "storeVar: the value has not the size of the variable"
  storeCells a v.cells.toList):=rfl
theorem pW (t:aR) (h:t≠ 90) (h':t≠ 191) (a:aF):aE t a=(do if←isAgg t then pure (al (←loadCells a (←sizeOf t)))else load a):=rfl
theorem pX (t:aR) (h:t≠ 90) (h':t≠ 191) (a:aF) (v:ak):aL t a v=(do
  if v.cells.size≠(←sizeOf t)then stuck "storeVar: the value has not the size of the variable"
  storeCells a v.cells.toList):=rfl
theorem fB (w:ah):(zeroValue 90).run aj w=.ok (al #[ab ac 0,af none 0 0,af none 0 0]) w:=by kernel_rfl
theorem nD (a:Int) (x y:Option aF) (n m c d:Nat) (w:ah):(df 90 #[(0,ab ac a),(1,af x n c),(2,af y m d)]).run aj w=.ok (dZ (a,(x,n,c),(y,m,d))) w:=by kernel_rfl
theorem uW (a:Int) (x:Option aF) (n c:Nat) (w:ah):(df 90 #[(0,ab ac a),(1,af x n c)]).run aj w=.ok (dZ (a,(x,n,c),(none,0,0))) w:=by kernel_rfl
theorem yR:(aj.info? 90).map (·.size)=some 3:=by kernel_rfl
set_option maxRecDepth 100000 in
theorem oM {W:ah} {b off:Nat} {q:SV} (c1:W.cell? ⟨b,off,none⟩=some (ab ac q.1)) (c2:W.cell? ⟨b,off+1,none⟩=some (aK q.2.1)) (c3:W.cell? ⟨b,off+2,none⟩=some (aK q.2.2)):
  (aE 90 ⟨b,off,none⟩).run aj W=.ok (dZ q) W:=
 jF W b off _ (cX q) _ (fun j v hj=>by
  match j with
  | 0=>cases hj;exact c1
  | 1=>cases hj;exact c2
  | 2=>cases hj;exact c3
  | j+3=>simp[cX]at hj) Tryz.underlying90 rfl (by kernel_rfl)
theorem mS (x:ah) (q:SV):(aL 90 ⟨x.heap.size,0,none⟩ (dZ q)).run aj (x.alloc (an #[ab ac 0,af none 0 0,af none 0 0] 90))=.ok () (x.alloc (an (cX q).toArray 90)):=
 kQ x _ _ (cX q).toArray yR rfl (by kernel_rfl)
set_option maxRecDepth 100000 in
theorem pY {x:ah} {B:Nat} {q:SV} (hr:aq x B 90 (cX q)):(aE 90 ⟨B,0,none⟩).run aj x=.ok (dZ q) x:=
 jF x B 0 _ (cX q) _ hr.range Tryz.underlying90 rfl (by kernel_rfl)
theorem yS {x:ah} {B:Nat} {old:List ak} (q:SV) (hr:aq x B 90 old) (ho:old.length=3):
  ∃y,(aL 90 ⟨B,0,none⟩ (dZ q)).run aj x=.ok () y/\aq y B 90 (cX q)/\x.grownBy y (some B):=by
 refine⟨_,run_storeVar_row x B _ _ old.toArray (cX q).toArray hr yR (by simpa [cX]using ho) (by kernel_rfl),setRow_heap x B _ _ _ _ hr, ?_⟩;exact⟨rfl,rfl,rfl,by rw[setRow_size];exact aG _,fun k _ hk=>setRow_other x B k _ (fun e=>hk (by rw[e]))⟩
theorem yT (w:ah) (q:SV):(dh 42 1 #[(0,dZ q)]).run aj w=.ok (af (some ⟨w.heap.size,0,none⟩) 1 1) (w.alloc (an (cX q).toArray 90)):=by kernel_rfl
structure SnF (N:Nat) (W:ah) (q:SV) (s:SN):Prop where
 id:q.1=s.id
 ch:W.ownsRow N 5 1 (aK q.2.1) s.ch.length (s.ch.map (Value.int ay))
 tb:dT N W (aK q.2.2) s.tb
 ok:s.Ok
theorem SnF.below {N:Nat} {W W':ah} {q:SV} {s:SN} (h:SnF N W q s) (hB:ag W.heap.size W W'):SnF N W' q s:=⟨h.id,dQ h.ch hB,h.tb.below hB,h.ok⟩
theorem iN {N M e sz n:Nat} {W:ah} {v:ak} {xs:List ak} (h:W.ownsRow N e sz v n xs) (hM:M<=N):W.ownsRow M e sz v n xs:=by
 refine⟨h.1, ?_⟩;rcases h.2 with h' | ⟨g,cap,cur,e,h1,h2⟩
 ·exact aA h'
 ·exact aD ⟨g,cap,cur,e,bm hM h1,h2⟩
theorem SnF.weak {N M:Nat} {W:ah} {q:SV} {s:SN} (h:SnF N W q s) (hM:M<=N):SnF M W q s:=⟨h.id,iN h.ch hM,h.tb.weak hM,h.ok⟩
theorem SnF.is {N:Nat} {W:ah} {q:SV} {s:SN} (h:SnF N W q s):SnIs W q s:=⟨h.id,Sl.of_owns h.ch,h.tb.prt,h.ok⟩
def fD (N:Nat) (W:ah) (v:ak) (l:List SN):Prop:=∃r:List SV,r.length=l.length/\W.ownsRow N 90 3 v l.length (iM r)/\∀(j:Nat) (q:SV) (s:SN),r[j]? =some q->l[j]? =some s->SnF N W q s
theorem fD.nil (N:Nat) (W:ah):fD N W (af none 0 0) []:=⟨[],rfl,jc _ _ _ _,fun j q s h=>by cases h⟩
theorem fD.below {N:Nat} {W W':ah} {v:ak} {l:List SN} (h:fD N W v l) (hB:ag W.heap.size W W'):fD N W' v l:=by
 obtain⟨r,h1,h2,h3⟩:=h;exact⟨r,h1,dQ h2 hB,fun j q s a b=>(h3 j q s a b).below hB⟩
theorem fD.snp {N:Nat} {W:ah} {v:ak} {l:List SN} (h:fD N W v l):ki W v l:=by
 obtain⟨r,h1,h2,h3⟩:=h;rcases h2.2 with⟨rfl,h0⟩ | ⟨g,cap,cur,rfl,a1,a2,a3,a4,a5,a6⟩
 ·obtain rfl:l= []:=ka h0;exact ki.nil W
 ·refine⟨r,_,cap,rfl,a3,a4,(fun e=>by cases e),h1,fun j q s a b=>(h3 j q s a b).is,aD ⟨g,0,rfl,(bL.1 a2).1,fun j p hj=> ?_⟩⟩;have hc:=h2.cells (g:=g) rfl;obtain⟨f1,f2,f3⟩:=GS hj;have c1:=hc _ _ f1;have c2:=hc _ _ f2;have c3:=hc _ _ f3;rw[Addr.add_mid]at c1 c2 c3;exact⟨c1,by simpa [Nat.add_assoc]using c2,by simpa [Nat.add_assoc]using c3⟩
theorem fD.base {N:Nat} {W:ah} {v:ak} {l:List SN} (h:fD N W v l):∀j,v.ownBlock=some j->N<=j/\j<W.heap.size:=by
 obtain⟨r,h1,h2,h3⟩:=h;intro j hj;rcases h2.2 with⟨rfl,h0⟩ | ⟨g,cap,cur,rfl,a1,a2, -⟩
 ·cases hj
 ·cases hj;exact⟨a1,(bL.1 a2).1⟩
theorem fD.ne {N B:Nat} {W:ah} {v:ak} {l:List SN} {C:List ak} {t:aR} (h:fD N W v l) (hB:aq W B t C) (hne: 90 ≠t):v.ownBlock≠some B:=by
 obtain⟨r,h1,h2,h3⟩:=h;exact fz h2 hB hne
theorem GU:(aj.info? 90).map (fun i=>(i.zero,i.size,i.bytes))=some (some (al #[ab ac 0,af none 0 0,af none 0 0]),3,56):=by kernel_rfl
theorem GV {v:ak} {k:IntKind} {W:ah} {xs:List Int} (h:Sl k W v xs):v.oneCell'=true:=by
 obtain⟨a,c,rfl, -⟩:=h;rfl
theorem SnF.ones {N:Nat} {W:ah} {q:SV} {s:SN} (h:SnF N W q s):∀u ∈ iM [q],u.oneCell'=true:=by
 intro u hu;have h1:=GV (Sl.of_owns h.ch);have h2:(aK q.2.2).oneCell'=true:=rfl;simp[iM,cX]at hu;rcases hu with rfl | rfl | rfl
 ·rfl
 ·exact h1
 ·exact h2
theorem SnF.kept {N M n:Nat} {W W':ah} {q:SV} {s:SN} {v:ak} {xs:List ak} (h:SnF N W q s) (hv:W.ownsRow M 90 3 v n xs) (hg:W.grownBy W' v.ownBlock):SnF N W' q s:=
 ⟨h.id,h.ch.kept hg (mQ h.ch hv (by decide)),⟨h.tb.1.kept hg (mQ h.tb.1 hv (by decide)),h.tb.2⟩,h.ok⟩
set_option maxRecDepth 100000 in
theorem yU {N:Nat} {w:ah} {v:ak} {l:List SN} {q:SV} {s:SN} (h:fD N w v l) (hN:N<=w.heap.size) (hq:SnF N w q s) (hlen:l.length<=900000):
  ∃v' w',(∀ty,(Builtin.append_ #[42, 42] ty #[v,af (some ⟨w.heap.size,0,none⟩) 1 1]).run aj (w.alloc (an (cX q).toArray 90))=.ok v' w')/\fD N w' v' (l++ [s])/\w.grownBy w' v.ownBlock:=by
 obtain⟨i0,hi⟩:∃i,aj.info? 90 =some i:=⟨_,rfl⟩;have hqq:=GU;rw[hi]at hqq;have hz:(i0.zero,i0.size,i0.bytes)=(some (al #[ab ac 0,af none 0 0,af none 0 0]),3,56):=Option.some.inj hqq;have hz0:=congrArg (·.1) hz;have hz1:=congrArg (·.2.1) hz;have hz2:=congrArg (·.2.2) hz;simp only at hz0 hz1 hz2;obtain⟨r,h1,h2,h3⟩:=h;have hr:∀ty,∃v' w',(Builtin.append_ #[42, 42] ty #[v,af (some ⟨w.heap.size,0,none⟩) 1 1]).run aj (w.alloc (an (cX q).toArray 90))=.ok v' w'/\w'.ownsRow N 90 3 v' (l.length+1) (iM r++iM [q])/\(w.alloc (an (cX q).toArray 90)).grownBy w' v.ownBlock:=fun ty=>by
  obtain⟨v',w',g1,g2,g3,g4⟩:=run_append_own (P:=aj) (w.alloc (an (cX q).toArray 90)) N 42 ty 90 i0 (al #[ab ac 0,af none 0 0,af none 0 0]) 3 56 Tryz.underlying42 hi hz0 hz1 hz2 rfl (by decide) v l.length _ (dQ h2 (aH w _)) ⟨w.heap.size,0,none⟩ 1 1 (iM [q]) rfl
   (fun j u hj=>by
    rw[Addr.add_lit,dP];exact(aq.new w 90 (cX q)).cell j u (by simpa [iM]using hj)) hq.ones (by unfold aY;omega) (by omega) (by simp;omega)
  exact⟨v',w',g1,g2,g3⟩
 obtain⟨v',w',g1,g2,g3⟩:=hr 0;have hgg:w.grownBy w' v.ownBlock:=lN (dS (aH w _) _) g3;refine⟨v',w',fun ty=> ?_,⟨r++ [q],by simp[h1], ?_,fun j q' s' ha hb=> ?_⟩,hgg⟩
 ·rw[←g1];rfl
 ·rw[cE,GR];exact g2
 ·by_cases hj:j<l.length
  ·rw[fS (by omega)]at ha hb;exact(h3 j q' s' ha hb).kept h2 hgg
  ·obtain rfl:j=l.length:=by have:=(bZ.1 hb).1;simp at this;omega
   rw[fv (aG _)]at hb;rw[fv (by omega),h1]at ha;simp at ha hb;subst ha hb;exact hq.kept h2 hgg
end
section
variable {F:Fence} {n:Nat} {P:Program}
def oO (F:Fence) (n:Nat) (P:Program) (g:Nat) (lb:Array ak) (encs:Nat->Array ak) (R:ah->Prop) (m:Nat) (w:ah):Prop:=
 ∀(l:Nat) (J Jx:Nat->ah->Prop) (W:ah),ag w.heap.size w W->(∀k W,J k W->R W)->AbidesFrom W.heap.size J->AbidesFrom W.heap.size Jx->
  (∀k W1,k<m->J k W1->YieldAt F (n - 1) P l (encs k) W1 fun e W'=>(e=ao (.bool true)/\J (k+1) W')\/(e=ao (.bool false)/\Jx (k+1) W'))->
  J 0 W->
  CallsIn F n P g (#[.func (.yield l) #[] #[]]++lb) W fun e W'=>(∃v,e=ao v)/\(J m W'\/(∃k,k<=m/\Jx k W'))
def yV (B:Nat) (I:Nat->ah->Prop) (Ix:Code->Nat->ah->Prop) (k:Nat) (W:ah):Exit->Act->ah->Prop
 | .normal,_,W'=>KeepsFrom B W W'/\I k W'
 | .ret,_,W'=>KeepsFrom B W W'/\Ix .ret k W'
 | .exit id,_,W'=>KeepsFrom B W W'/\Ix (.exit id) k W'
 | .goto t,_,W'=>KeepsFrom B W W'/\Ix (.goto t) k W'
 | .panic _,_,_=>False
 | .outgrown,_,_=>False
theorem oQ {g:Operand} {ps:Array Tmp} {assign body:Code} {Q:Exit->Act->ah->Prop} {a:Act} {w:ah}
  (hro:F.round=none) (h1:1<=n) {gf:Nat} {lb:Array ak} (hg:a.eval g=.func (.func gf) #[] lb) (hFg:F.fn gf) (eg:∀args w,(callFunc gf args).run P w=.ok (.enter gf args) w)
  {encs:Nat->Array ak} {R:ah->Prop} {m:Nat} {w0:ah} (hseq:oO F (n - 1) P gf lb encs R m w0)
  (hb0:ag w0.heap.size w0 w) (hps:∀x,(encs x).size=ps.size)
  (I:Nat->ah->Prop) (Ix:Code->Nat->ah->Prop) (hR:∀k W,I k W->R W) (hI:OwnFrom w.heap.size I) (hIx:∀c,OwnFrom w.heap.size (Ix c)) (h0:I 0 w) (Ax:Nat->Act->ah->Prop) (hAx:∀x a',OwnFrom w.heap.size (fun(_:Unit) W=>Ax x a' W))
  (hassign:∀(l:Nat) (k:Nat) (W:ah) (K:Act->ah->Prop),k<m->I k W->(∀a' W',KeepsFrom w.heap.size W W'->I k W'->Ax k a' W'->K a' W')->
   assign.wpIn (F.inRound l) (n - 1 - 1) P (Exit.then K (fun _ _ _=>False)) {tmps:=(ps.zip (encs k)).foldl (fun t (p,v)=>t.setIfInBounds p v) a.tmps,defers:= []} W)
  (hbody:∀(l:Nat) (k:Nat) (a':Act) (W:ah),w.heap.size<=l->(∃r,W.heap[l]? =some (.loop r))->k<m->I k W->Ax k a' W->body.wpIn (F.inRound l) (n - 1 - 1) P (yV w.heap.size I Ix (k+1) W) a' W)
  (hdone:∀(D:Nat) (W:ah),w.heap.size<=D->I m W->W.heap[D]? =some (.deferred (some []))->Q .normal {a with defers:={target:=.collected D,args:=#[]}::a.defers} W)
  (hstop:∀(D:Nat) (c:Code) (k:Nat) (W:ah),w.heap.size<=D->k<=m->Ix c k W->W.heap[D]? =some (.deferred (some []))->c.wpIn F n P Q {a with defers:={target:=.collected D,args:=#[]}::a.defers} W):
  (Code.rangeFunc g ps assign body).wpIn F n P Q a w:=by
 refine wpIn_rangeFunc fun fn hfn=> ?_;rw[hro]
 let rc:LoopState->Option Code->Loop:=fun st pe=>{state:=st,pending:=pe,fn,tmps:=a.tmps,params:=ps,assign,body,defers:=w.heap.size}
 obtain⟨W1,hW1⟩:=w9nm ((w.alloc (.deferred (some []))).alloc (.loop (rc .ready none)));have bk1:Books W1 w.heap.size (rc .ready none):=by
  rw[←hW1];refine⟨?_,(Below.heap_alloc _ _ _ (by simp)).trans (World.alloc_heap_new w _)⟩;have:=World.alloc_heap_new (w.alloc (.deferred (some []))) (.loop (rc .ready none))
  rwa [bO]at this
 have hsz:w.heap.size<=W1.heap.size:=by rw[←hW1];simp;omega
 have bel:ag w0.heap.size w0 W1:=by
  rw[←hW1];exact hb0.trans ((((aI _ w).alloc (aG _) _).alloc (by simp) _).mono hb0.size)
 have I1:I 0 W1:=by rw[←hW1];exact hI.alloc _ (hI.alloc _ h0)
 have walk:∀{A:ah} {row:Option Nat},(∀r,row=some r->W1.heap.size<=r/\∃o:Obj,A.heap[r]? =some o/\o.isWalk=true)->
   (∀r,row=some r->w.heap.size<=r/\∃o:Obj,A.heap[r]? =some o/\o.isCells=false)/\(∀r,row=some r->∃o:Obj,A.heap[r]? =some o/\o.isWalk=true):=fun hr=>
  ⟨fun r e=>by obtain⟨h,o,ho,hw⟩:=hr r e;exact⟨bm hsz h,o,ho,Obj.not_cells_of_walk hw⟩,fun r e=>(hr r e).2⟩
 refine⟨w.heap.size+1,_,W1,{target:=.fn (.func gf) lb,args:=#[.func (.yield (w.heap.size+1)) #[] #[]]},W1,gf,#[.func (.yield (w.heap.size+1)) #[] #[]]++lb,W1,
  hW1▸run_enterLoop_outer fn _ _ _ _,by simp only[resolve,hg];simp[go_sem],fun f' hf'=>by simp[Target.leads]at hf';subst hf';exact hFg,by simp[invoke,go_sem,eg],fun _=>h1, ?_⟩
 refine(hseq (w.heap.size+1) (fun k W=>I k W/\Books W w.heap.size (rc .ready none)) (fun k W=>∃c,Ix c k W/\Books W w.heap.size (rc .done (some c))) W1 bel (fun _ _ h=>hR _ _ h.1)
  (fun s A B row hs hgr hr=>⟨hI s A B row hs.1 hgr (walk hr).1,hs.2.kept hgr (walk hr).2⟩)
  (fun s A B row hs hgr hr=>by obtain⟨c,hc,hb⟩:=hs;exact⟨c,hIx c s A B row hc hgr (walk hr).1,hb.kept hgr (walk hr).2⟩) ?_ ⟨I1,bk1⟩).mono ?_
 ·rintro k W hkm ⟨hi,bk⟩;have hy:=run_yield (P:=P) (args:=encs k) bk.loop (hps k);refine⟨fn,_,assign,body,hy,roundIn_of_wpIn hfn (hassign _ k W _ hkm hi ?_)⟩;clear hy;intro a' Wa hkf hia hax
  replace bk:=bk.from hkf
  refine⟨_,run_beginRound bk.loop rfl, ?_⟩;have bk2:=bk.put (rc .busy none);refine wpIn_mono (hbody _ k a' _ (by omega) ⟨_,bk2.loop⟩ hkm (hI.putObj _ hia (by omega) bk.loop rfl) ((hAx k a').putObj (s:=()) _ hax (by omega) bk.loop rfl)) ?_;have out:∀(j:Option Code) (W3:ah),KeepsFrom w.heap.size (Wa.putObj (w.heap.size+1) (.loop (rc .busy none))) W3->(Instr.endRound (w.heap.size+1) j).run P W3=.ok (.bool j.isNone) (W3.putObj (w.heap.size+1) (.loop (rc (if j.isNone then .ready else .done) j)))/\
    W3.heap[w.heap.size+1]? =some (.loop (rc .busy none))/\Books (W3.putObj (w.heap.size+1) (.loop (rc (if j.isNone then .ready else .done) j))) w.heap.size (rc (if j.isNone then .ready else .done) j):=fun j W3 hk=>
   ⟨run_endRound j (bk2.from hk).loop,(bk2.from hk).loop,(bk2.from hk).put _⟩
  rintro(_ | id | t | _ | ch | _) a3 W3 hp
  ·obtain⟨hk,hi3⟩:=hp;obtain⟨h2,h3,h4⟩:=out none W3 hk;exact⟨_,_,h2,aA ⟨rfl,hI.putObj _ hi3 (by omega) h3 rfl,h4⟩⟩
  ·obtain⟨hk,hi3⟩:=hp;obtain⟨h2,h3,h4⟩:=out (some (.exit id)) W3 hk;exact⟨_,_,h2,aD ⟨rfl,_,(hIx _).putObj _ hi3 (by omega) h3 rfl,h4⟩⟩
  ·obtain⟨hk,hi3⟩:=hp;obtain⟨h2,h3,h4⟩:=out (some (.goto t)) W3 hk;exact⟨_,_,h2,aD ⟨rfl,_,(hIx _).putObj _ hi3 (by omega) h3 rfl,h4⟩⟩
  ·obtain⟨hk,hi3⟩:=hp;obtain⟨h2,h3,h4⟩:=out (some .ret) W3 hk;exact⟨_,_,h2,aD ⟨rfl,_,(hIx _).putObj _ hi3 (by omega) h3 rfl,h4⟩⟩
  ·exact hp.elim
  ·exact hp.elim
 ·rintro e W2 ⟨⟨v,rfl⟩,⟨hi,bk⟩ | ⟨k,hk,c,hi,bk⟩⟩
  ·exact⟨none,_,run_endLoop bk.loop (by simp[rc]),hdone _ _ (aG _) (hI.putObj _ hi (by omega) bk.loop rfl) (bk.put _).defers⟩
  ·exact⟨some c,_,run_endLoop bk.loop (by simp[rc]),hstop _ c k _ (aG _) hk ((hIx c).putObj _ hi (by omega) bk.loop rfl) (bk.put _).defers⟩
end
section
attribute [local go_sem] Oper.semAt_some
theorem yW (bs:List Int) {k:Nat} (h:k<bs.length):bs.take (k+1)=bs.take k++ [bs[k]?.getD 0]:=by
 rw[List.take_succ_eq_append_getElem h,aZ h]
 rfl
theorem GW (F:Fence) (n:Nat) (hf:F.fn 324) (hro:F.round=none) (hn:1<=n) (l Bs n₀ len cap:Nat) (a:Option aF) (zs:List Int) (hz:zs.length=len) (hmax:len<=aY)
  (J Jx:List Int->ah->Prop)
  (hY:∀pre x W,J pre W->pre.length<len->YieldAt F (n - 1) aj l #[ab ay x] W fun e W'=>
   (e=ao (.bool true)/\J (pre++ [x]) W'/\ag n₀ W W')\/(e=ao (.bool false)/\Jx (pre++ [x]) W'))
  (W:ah) (hBs:W.cell? ⟨Bs,0,none⟩=some (af a len cap)) (hc:len=0\/∃b off,a=some ⟨b,off,none⟩/\b<n₀/\∀j,j<len->W.cell? ⟨b,off+j,none⟩=some (ab ay (zs[j]?.getD 0))) (h0:J [] W):
  CallsIn F n aj 324 #[.func (.yield l) #[] #[],am (some ⟨Bs,0,none⟩)] W fun e W'=>(∃v,e=ao v)/\
   ((∃ys,ys=zs/\J ys W')\/(∃pre,pre<+:zs/\Jx pre W')):=by
 have HC:=ae hc;have HM:=ae hmax;have HZ:=ae hz;clear hc hmax hz;refine callsIn_of_wp func324 rfl hf ?_ hro;simp only[ntmps324,cJ,bz,cx,Nat.reduceAdd,Nat.reduceSub,cO,cP,cQ,cR,cy,cC]
 gi_wp2
 gi_loopw [7] (fun i wr=>∃k:Nat,k<=len/\i=ab ac k/\J (zs.take k) wr/\ag n₀ W wr)
  (fun i _=>len - (aS i).toNat)
 case atStart=>exact⟨0,bc _,rfl,by simpa using h0,aI _ _⟩
 case round=>
  obtain⟨k,hk,rfl,hJs,hnx⟩:=hrel;by_cases hlt:k<len
  ·obtain⟨b,off,rfl,hb,hcs⟩:∃b off,a=some ⟨b,off,none⟩/\b<n₀/\∀j,j<len->W.cell? ⟨b,off+j,none⟩=some (ab ay (zs[j]?.getD 0)):=by
    rcases HC.out with h | h
    ·omega
    ·exact h
   have hcx:wr.cell? ⟨b,off+k,none⟩=some (ab ay (zs[k]?.getD 0)):=(hnx.cell (p:=⟨b,off+k,none⟩) hb).trans (hcs k hlt);obtain⟨fn,tmps,assign,body,hy,hR⟩:=hY _ (zs[k]?.getD 0) wr hJs (by rw[dj,HZ.out];omega);have hm:len<=9223372036854775807:=by have:=HM.out;unfold aY at this;omega
   clear hcs
   gi_wp2
   refine hR.mono ?_;rintro e W3 (⟨rfl,hJ3,hk3⟩ | ⟨rfl,hJx3⟩)
   ·gi_wp2
    go_roundw
    case rel=>exact⟨k+1,by omega,by simp,by rw[yW zs (by rw[HZ.out];exact hlt)];exact hJ3,hnx.trans hk3⟩
    case measure=>simp[aS];omega
   ·gi_wp2
    refine bo (results_none rfl _ _ _) rfl ?_;exact⟨⟨_,rfl⟩,aD ⟨_,by rw[←yW zs (by rw[HZ.out];exact hlt)];exact List.take_prefix _ _,hJx3⟩⟩
  ·obtain rfl:k=len:=by omega
   gi_wp2
   go_end0
   exact⟨⟨_,rfl⟩,aA ⟨_,rfl,by rw[←HZ.out,List.take_length]at hJs;exact hJs⟩⟩
theorem GX (F:Fence) (n:Nat) (hf:F.fn 315) (hro:F.round=none) (a:Option aF) (len cap:Nat) (w:ah):
  CallsIn F n aj 315 #[af a len cap] w fun e w'=>e=ao (.func (.func 324) #[] #[am (some ⟨w.heap.size,0,none⟩)])/\w'=w.alloc (an #[af a len cap] 76):=by
 refine callsIn_of_wp func315 rfl hf ?_ hro;simp only[ntmps315,cJ,bz,cx,Nat.reduceAdd,Nat.reduceSub,cO,cP,cQ,cR,cy,cC]
 gi_wp2
 go_ret;exact⟨rfl,rfl⟩
theorem GY (F:Fence) (n:Nat) (hf:F.fn 324) (hro:F.round=none) (hn:1<=n) (Bs n₀ len cap:Nat) (a:Option aF) (zs:List Int) (hz:zs.length=len) (hmax:len<=aY) (w:ah) (hBs:Bs<w.heap.size) (hn₀:n₀<=w.heap.size)
  (hb:w.cell? ⟨Bs,0,none⟩=some (af a len cap)) (hc:len=0\/∃b off,a=some ⟨b,off,none⟩/\b<n₀/\∀j,j<len->w.cell? ⟨b,off+j,none⟩=some (ab ay (zs[j]?.getD 0))):
  SeqStopsK F n aj 324 #[am (some ⟨Bs,0,none⟩)] (fun x:Int=>#[Value.int ay x]) (ag n₀) (fun ys=>ys=zs) (fun pre=>pre<+:zs) len w:=fun l J Jx W hW _ _ hY h0=>
 GW F n hf hro hn l Bs n₀ len cap a zs hz hmax J Jx hY W ((hW.cell (p:=⟨Bs,0,none⟩) hBs).trans hb)
  (hc.imp id fun⟨b,off,e,h1,h2⟩=>⟨b,off,e,h1,fun j hj=>((hW.mono hn₀).cell (p:=⟨b,off+j,none⟩) h1).trans (h2 j hj)⟩) h0
end
section
attribute [-simp] isAgg90 zeroValue90
attribute [-go_sem] aE aL
attribute [local go_sem] yP yQ fB
attribute [local go_sem] Oper.semAt_some
def GZ:SV:=(0,(none,0,0),(none,0,0))
def rL (r:List SV) (lo k:Nat):Array ak:=#[ab ac ((lo+k:Nat):Int),dZ (r[lo+k]?.getD GZ)]
structure SpB (Bi Bj Bl:Nat) (i j:Int) (v:ak) (r:List SV) (l:List SN) (W:ah):Prop where
 ci:W.cell? ⟨Bi,0,none⟩=some (ab ac i)
 cj:W.cell? ⟨Bj,0,none⟩=some (ab ac j)
 cl:W.cell? ⟨Bl,0,none⟩=some v
 sn:mv W v r l
def rM (n:Nat) (j:Int):Int:=if j< (n:Int)then j else(n:Int)
theorem Ha (l:List SN) (j:Int) (a:Nat):(a:Int)<rM l.length j↔a<kW l j:=by
 unfold rM kW;split<;>omega
theorem yX (F:Fence) (n:Nat) (hf:F.fn 274) (hro:F.round=none) (a:Option aF) (len cap:Nat) (i j:Int) (w:ah):
  CallsIn F n aj 274 #[af a len cap,ab ac i,ab ac j] w fun e w'=>e=ao (.func (.func 294) #[] #[am (some ⟨w.heap.size+1,0,none⟩),am (some ⟨w.heap.size+2,0,none⟩),am (some ⟨w.heap.size,0,none⟩)])/\
   w'=((w.alloc (an #[af a len cap] 42)).alloc (an #[ab ac i] 3)).alloc (an #[ab ac j] 3):=by
 refine callsIn_of_wp func274 rfl hf ?_ hro;simp only[ntmps274,cJ,bz,cx,Nat.reduceAdd,Nat.reduceSub,cO,cP,cQ,cR,cy,cC]
 gi_wp2
 go_ret;exact⟨rfl,rfl⟩
theorem yY (n:Nat) (hn:1<=n) (Bi Bj Bl:Nat) (i j:Int) (v:ak) (r:List SV) (l:List SN) (w:ah):
  oO Fence.wide n aj 294 #[am (some ⟨Bi,0,none⟩),am (some ⟨Bj,0,none⟩),am (some ⟨Bl,0,none⟩)] (rL r (mr i)) (SpB Bi Bj Bl i j v r l) (kW l j - mr i) w:=by
 intro lp J Jx W hW hJR _ _ hY h0;have hR0:=hJR 0 W h0;have HJR:=ae hJR;have HY:=ae hY;obtain⟨lo,hlo⟩:=w9nm (mr i);obtain⟨m,hm⟩:=w9nm (kW l j - mr i);have hmax:∀(ts:Array aR) (t:aR) (W:ah),(Builtin.max_ ts t #[ab ac i,ab ac 0]).run aj W=.ok (ab ac (lo:Int)) W:=fun ts t W=>by
  rw[run_max_int2,←hlo];unfold mr
  congr 2
  split<;>omega
 have hci:=hR0.ci;have hll:l.length<=aY:=by obtain⟨a,c,e,h1,h2, -⟩:=hR0.sn;omega
 have hHI:=FU l j;rw[hm,hlo]at HY;rw[hlo]at hm;obtain⟨mn,hmn⟩:=w9nm (rM l.length j);have hlt0:=Ha l j;rw[hmn]at hlt0;have hLT:∀k:Nat,((lo+k:Nat):Int)<mn↔k<m:=fun k=>by rw[hlt0];omega
 have hIN:∀k:Nat,k<m->lo+k<l.length:=fun k hk=>by omega
 have HLT:=ae hLT;have HIN:=ae hIN;have HML:=ae hll;have hmin:∀(ts:Array aR) (t:aR) (W:ah),(Builtin.min_ ts t #[ab ac j,ab ac (l.length:Int)]).run aj W=.ok (ab ac mn) W:=fun ts t W=>by
  rw[run_min_int2,←hmn];unfold rM
  congr 2
  split<;>omega
 rw[show kW l j - mr i=m from by rw[hlo];exact hm];clear hlo hm hmn hlt0 hLT hIN hll hHI hR0 hY hJR hW;refine callsIn_of_wp func294 rfl trivial ?_ rfl;simp only[ntmps294,cJ,bz,cx,Nat.reduceAdd,Nat.reduceSub,cO,cP,cQ,cR,cy,cC]
 gi_wp2
 gi_loopw [5] (fun x wr=>∃k:Nat,k<=m/\x=ab ac ((lo+k:Nat):Int)/\J k wr) (fun x _=>(lo+m) - (aS x).toNat)
 case atStart=>exact⟨0,bc _,rfl,h0⟩
 case round=>
  obtain⟨k,hk,rfl,hJs⟩:=hrel;have hb:=HJR.out k wr hJs;obtain⟨a,cap,rfl,h1,h2,h3⟩:∃a cap,v=af a l.length cap/\l.length<=cap/\cap<=aY/\True:=by obtain⟨a,c,e,h1,h2, -⟩:=hb.sn;exact⟨a,c,e,h1,h2,trivial⟩
  have c1:=hb.cj;have c2:=hb.cl;obtain⟨q,hq⟩:∃q:Nat,lo+k=q:=⟨_,rfl⟩;rw[hq];by_cases hkm:k<m
  ·have g1:(q:Int)<mn:=by rw[←hq];exact(HLT.out k).2 hkm
   have g2:(q:Int)< (l.length:Int):=by have:=HIN.out k hkm;omega
   have hml:l.length<=aY:=HML.out;have hW1:Hid (wrap64 ((q:Int)+1)=(q:Int)+1):=kR _ (by unfold aY at hml;omega);obtain⟨s,hs⟩:∃s,l[q]? =some s:=⟨_,aZ (by omega)⟩;obtain⟨b,off,x,rfl,hbl,hx, -,d1,d2,d3⟩:=hb.sn.at hs;have LD:=oM d1 d2 d3;have hy0:=HY.out k wr hkm hJs;unfold rL at hy0;rw[hq,hx]at hy0;simp only[Option.getD_some]at hy0;obtain⟨fn,tmps,assign,body,hy,hRR⟩:=hy0;have HKM:=ae hkm;have HQ:=ae hq;clear hb hs hx d1 d2 d3 hkm hq hml h1 h2 h3
   gi_wp2
   refine hRR.mono ?_;rintro e W3 (⟨rfl,hJ3⟩ | ⟨rfl,hJx3⟩)
   ·have HJ3:=ae hJ3;clear hJ3
    gi_wp2
    go_roundw
    case rel=>exact⟨k+1,HKM.out,by rw[hW1.out];have:=HQ.out;simp only[Value.int.injEq,true_and];omega,HJ3.out⟩
    case measure=>rw[hW1.out];have:=HQ.out;have:=HKM.out;simp[aS];omega
   ·have HJ3:=ae hJx3;clear hJx3
    gi_wp2
    refine bo (results_none rfl _ _ _) rfl ?_;exact⟨⟨_,rfl⟩,aD ⟨k+1,HKM.out,HJ3.out⟩⟩
  ·have g1:¬(q:Int)<mn:=by rw[←hq];exact fun h=>hkm ((HLT.out k).1 h)
   obtain rfl:k=m:=by omega
   have HJ:=ae hJs;clear hb hJs hq
   gi_wp2
   go_end0
   exact⟨⟨_,rfl⟩,aA HJ.out⟩
end
section
theorem fI {x y:ah} {B N:Nat} {t:aR} {C:List ak} {row:Option Nat} (h:aq x B t C) (hg:x.grownBy y row) (hr:∀r,row=some r->N<=r/\∃o:Obj,x.heap[r]? =some o/\o.isCells=false):aq y B t C:=
 (hg.block B h.lt (fun e=>by
  obtain⟨-,o,ho,hc⟩:=hr B e.symm;rw[show x.heap[B]? =_ from h]at ho;cases ho;cases hc)).trans h
theorem oT {N:Nat} {w x y:ah} {row:Option Nat} (h:ag N w x) (hN:N<=w.heap.size) (hg:x.grownBy y row) (hr:∀r,row=some r->w.heap.size<=r/\∃o:Obj,x.heap[r]? =some o/\o.isCells=false):ag N w y:=
 h.grown hg (bm hN h.size) (fun k e=>bm hN (hr k e).1)
theorem lO {B:Nat} {x y:ah} {b:Nat} {C:List ak} {t:aR} (h:aq x b t C) (hg:x.grownBy y (some b)):KeepsFrom B x y:=⟨hg.size,fun k o hk ho hc=>by
 refine(hg.block k (bL.1 ho).1 (fun e=> ?_)).trans ho;obtain rfl:b=k:=by cases e;rfl
 rw[show x.heap[b]? =_ from h]at ho;cases ho;cases hc⟩
theorem kj {B:Nat} {x y:ah} (h:ag x.heap.size x y):KeepsFrom B x y:=⟨h.size,fun k o _ ho _=>(h.block k (bL.1 ho).1).trans ho⟩
theorem jH {B:Nat} {x y z:ah} (h:KeepsFrom B x y) (k:KeepsFrom B y z):KeepsFrom B x z:=⟨bm h.size k.size,fun j o hj ho hc=>k.same j o hj (h.same j o hj ho hc) hc⟩
theorem oU {B N e sz n:Nat} {x y:ah} {v:ak} {xs:List ak} (h:x.ownsRow N e sz v n xs) (hg:x.grownBy y v.ownBlock):KeepsFrom B x y:=⟨hg.size,fun k o hk ho hc=>by
 refine(hg.block k (bL.1 ho).1 (fun e=> ?_)).trans ho;rcases h.2 with⟨rfl,_⟩ | ⟨g,cap,cur,rfl,_,hgg,_⟩
 ·cases e
 ·obtain rfl:g=k:=by cases e;rfl
  rw[hgg]at ho;cases ho;cases hc⟩
theorem fJ {x:ah} {B B':Nat} {t:aR} {C:List ak} (h:aq x B t C) (hne:B≠B') (j:Nat) (v:ak):aq (x.setCell ⟨B',j,none⟩ v) B t C:=h.grown (fH x B' j v) (fun e=>hne (by cases e;rfl))
theorem kk {N B':Nat} {w x:ah} (h:ag N w x) (hB:N<=B') (j:Nat) (v:ak):ag N w (x.setCell ⟨B',j,none⟩ v):=h.setCell (p:=⟨B',j,none⟩) hB v
structure SpX (N B:Nat) (i j:Int) (v:ak) (w W:ah):Prop where
 bl:aq W B 42 [v]
 bi:aq W (B+1) 3 [ab ac i]
 bj:aq W (B+2) 3 [ab ac j]
 be:ag N w W
theorem SpX.own {N B:Nat} {i j:Int} {v:ak} {w x y:ah} {row:Option Nat} {M:Nat} (h:SpX N B i j v w x) (hN:N<=w.heap.size) (hg:x.grownBy y row) (hM:w.heap.size<=M) (hr:∀r,row=some r->M<=r/\∃o:Obj,x.heap[r]? =some o/\o.isCells=false):SpX N B i j v w y:=
 ⟨fI h.bl hg hr,fI h.bi hg hr,fI h.bj hg hr,oT h.be hN hg (fun r e=>⟨bm hM (hr r e).1,(hr r e).2⟩)⟩
theorem SpX.set {N B B':Nat} {i j:Int} {v:ak} {w x:ah} (h:SpX N B i j v w x) (hN:N<=B') (h1:B'<B\/B+2<B') (k:Nat) (u:ak):SpX N B i j v w (x.setCell ⟨B',k,none⟩ u):=
 ⟨fJ h.bl (by omega) k u,fJ h.bi (by omega) k u,fJ h.bj (by omega) k u,kk h.be hN k u⟩
theorem SpX.below {N B:Nat} {i j:Int} {v:ak} {w x y:ah} (h:SpX N B i j v w x) (hx:N<=x.heap.size) (hb:ag x.heap.size x y):SpX N B i j v w y:=
 ⟨h.bl.below hb,h.bi.below hb,h.bj.below hb,h.be.trans (hb.mono hx)⟩
theorem SpX.alloc {N B:Nat} {i j:Int} {v:ak} {w x:ah} (h:SpX N B i j v w x) (hx:N<=x.heap.size) (o:Obj):SpX N B i j v w (x.alloc o):=h.below hx (aH x o)
theorem SpX.spb {B:Nat} {i j:Int} {v:ak} {w W:ah} {r:List SV} {l:List SN} {N:Nat} (h:SpX N B i j v w W) (hN:w.heap.size=N) (hs:mv w v r l):SpB (B+1) (B+2) B i j v r l W:=
 ⟨h.bi.cell 0 _ rfl,h.bj.cell 0 _ rfl,h.bl.cell 0 _ rfl,hs.below (by show ag _ _ _;rw[hN];exact h.be)⟩
theorem SpX.new {N:Nat} {w x:ah} (i j:Int) (v:ak) (hb:ag N w x) (hN:N<=x.heap.size):
  SpX N x.heap.size i j v w (((x.alloc (an #[v] 42)).alloc (an #[ab ac i] 3)).alloc (an #[ab ac j] 3)):=by
 have r1:=aq.new x 42 [v];have r2:=aq.new (x.alloc (an #[v] 42)) 3 [ab ac i];have r3:=aq.new ((x.alloc (an #[v] 42)).alloc (an #[ab ac i] 3)) 3 [ab ac j];simp only[bO]at r2 r3;refine⟨(r1.below (aH _ _)).below (aH _ _),r2.below (aH _ _),r3, ?_⟩;exact((hb.alloc hN _).alloc (by simp;omega) _).alloc (by simp;omega) _
theorem yZ {r:List SV} {k:Nat} {q:SV} (lo:Nat) (h:r[lo+k]? =some q):rL r lo k=#[ab ac ((lo+k:Nat):Int),dZ q]:=by unfold rL;rw[h];rfl
theorem rO {W:ah} {v:ak} {r:List SV} {l:List SN} (h:mv W v r l) {k:Nat} (hk:k<l.length):∃q s,r[k]? =some q/\l[k]? =some s/\SnIs W q s:=by
 obtain⟨a,cap,rfl,h1,h2,hz,hr,hs,h4⟩:=h;have a1:=aZ (l:=r) (i:=k) (by omega);have a2:=aZ hk;exact⟨_,_,a1,a2,hs k _ _ a1 a2⟩
theorem kZ {B:Nat} {I:Nat->ah->Prop} {Ix:Code->Nat->ah->Prop} {k:Nat} {W:ah}:¬LetsOut (yV B I Ix k W):=fun⟨a,w,e⟩=>e
theorem rQ {l₀ n:Nat} {P:Program} {ops:Array Oper} {Q:Exit->Act->ah->Prop} (hL:¬LetsOut Q):∀(l:List Oper) (a:Act) (w:ah),(∀o ∈ l,∀c,o.op≠ .defer c)->wpList P ops Q l a w->wpListIn (Fence.wide.inRound l₀) n P ops Q l a w
 | [],_,_,_,h=>h
 | o::rest,a,w,hd,h=>by
  have hd':∀o ∈ rest,∀c,o.op≠ .defer c:=fun o ho=>hd o (ea _ ho);unfold wpList at h;unfold wpListIn;by_cases hw:Region.wanted o (yielded ops a.tmps)=true
  ·rw[if_pos hw]at h ⊢;rcases h with h | h
   ·exact uL (hd o dC) (Oper.wp_mono (fun a' w'=>rQ hL rest a' w' hd') h)
   ·exact absurd h.2 hL
  ·rw[if_neg hw]at h ⊢;exact⟨fun _ _=>trivial,rQ hL rest _ _ hd' h⟩
theorem mT {l₀ n id:Nat} {P:Program} {l:List Oper} {Q:Exit->Act->ah->Prop} {a:Act} {w:ah} (hL:¬LetsOut Q) (hd:kY l.toArray=true) (h:wpList P l.toArray Q l a w):(Code.region id l.toArray false).wpIn (Fence.wide.inRound l₀) n P Q a w:=
 wpIn_region_lit (rQ hL l a w (fun o ho=>by
  obtain⟨i,hi⟩:=jY ho;exact ru hd (i:=i) (by simpa using hi)) h)
theorem mw {K:Act->ah->Prop} {Q:Exit->Act->ah->Prop} (h:¬LetsOut Q):¬LetsOut (Exit.then K Q):=fun⟨a,w,e⟩=>h ⟨a,w,e⟩
theorem za {P:Program} {fn:Func} {p u:Tmp} {ty tu:aR} {tmps:Array ak} {w:ah} {ad au:aF} {v x:ak} (h:fn.results=#[.cell p ty,.cell u tu]) (ha:tmps.getD p az=am (some ad)) (hb:tmps.getD u az=am (some au)) (hl:(aE ty ad).run P w=.ok v w) (hk:(aE tu au).run P w=.ok x w):
  (results fn tmps).run P w=.ok (aQ #[v,x]) w:=by
 have e:(asAddr (am (some ad))).run P w=.ok ad w:=by simp[asAddr]
 have e':(asAddr (am (some au))).run P w=.ok au w:=by simp[asAddr]
 have ha':tmps[p]?.getD az=am (some ad):=by simpa using ha
 have hb':tmps[u]?.getD az=am (some au):=by simpa using hb
 simp[results,h,gK,Result.andThen,ha',hb',e,e',hl,hk]
theorem pZ {N e sz n M:Nat} {x y:ah} {v:ak} {xs:List ak} {row:Option Nat} (h:x.ownsRow N e sz v n xs) (hg:x.grownBy y row) (hr:∀r,row=some r->M<=r/\∃o:Obj,x.heap[r]? =some o/\o.isCells=false):y.ownsRow N e sz v n xs:=by
 refine⟨h.1, ?_⟩;rcases h.2 with h' | ⟨g,cap,cur,rfl,a1,a2,a3⟩
 ·exact aA h'
 ·refine aD ⟨g,cap,cur,rfl,a1,(hg.block g (bL.1 a2).1 (fun e=> ?_)).trans a2,a3⟩;obtain⟨-,o,ho,hc⟩:=hr g e.symm;rw[a2]at ho;cases ho;cases hc
theorem iO {N e sz n:Nat} {x:ah} {v:ak} {xs:List ak} (h:x.ownsRow N e sz v n xs):∃q:jj,v=aK q/\q.2.1=n:=by
 rcases h.2 with⟨rfl,rfl⟩ | ⟨g,cap,cur,rfl, -⟩
 ·exact⟨(none,0,0),rfl,rfl⟩
 ·exact⟨(_,_,_),rfl,rfl⟩
theorem kC {N e sz n B:Nat} {x:ah} {v:ak} {xs C:List ak} {t:aR} (h:x.ownsRow N e sz v n xs) (hB:aq x B t C) (hne:e≠t) (j:Nat) (u:ak):(x.setCell ⟨B,j,none⟩ u).ownsRow N e sz v n xs:=h.kept (fH x B j u) (aD (fz h hB hne))
theorem zb {x:ah} {B:Nat} {z:Int} (h:aq x B 3 [ab ac z]):(aE 3 ⟨B,0,none⟩).run aj x=.ok (ab ac z) x:=by
 have c:=h.cell 0 _ rfl;simp[go_sem,c]
theorem uX {x:ah} {B:Nat} {z:Bool} (h:aq x B 4 [.bool z]):(aE 4 ⟨B,0,none⟩).run aj x=.ok (.bool z) x:=by
 have c:=h.cell 0 _ rfl;simp[go_sem,c]
theorem zd (l:List SN):kW l (l.length:Int)=l.length:=by unfold kW;rw[if_neg (by omega)]
theorem rR:mr 0=0:=rfl
end
section
attribute [local go_sem] Oper.semAt_some
theorem Hb (bs:List Int) (k:Nat) (h:k<=bs.length):cV (bs.take k)=oC bs (8*k):=by
 unfold cV oC;rw[dj,lJ h];apply List.filter_congr;intro i hi;exact rl bs k i (dJ.1 hi)
theorem Hc (bs:List Int) (i m:Nat):oC bs i<+:oC bs (i+m):=by
 unfold oC;rw[List.range_add,lG];exact List.prefix_append _ _
theorem ze (bs:List Int) (k:Nat) (h:k<=bs.length):cV (bs.take k)<+:cV bs:=by
 obtain⟨m,hm⟩:=Nat.exists_eq_add_of_le h;rw[Hb bs k h,←FE,hm,Nat.mul_add];exact Hc _ _ _
theorem zf (F:Fence) (n:Nat) (hf:F.fn 303) (hro:F.round=none) (a:Option aF) (len cap:Nat) (w:ah):
  CallsIn F n aj 303 #[af a len cap] w fun e w'=>e=ao (.func (.func 316) #[] #[am (some ⟨w.heap.size,0,none⟩)])/\w'=w.alloc (an #[af a len cap] 76):=by
 refine callsIn_of_wp func303 rfl hf ?_ hro;simp only[ntmps303,cJ,bz,cx,Nat.reduceAdd,Nat.reduceSub,cO,cP,cQ,cR,cy,cC]
 gi_wp2
 go_ret;exact⟨rfl,rfl⟩
theorem Hd (n:Nat) (hn:1<=n) (l Bs n₀ len cap:Nat) (a:Option aF) (zs:List Int) (hz:zs.length=len) (hb:aP zs) (hmax:len<=100000)
  (J Jx:List Nat->ah->Prop)
  (hY:∀(pre:List Nat) (x:Nat) W,J pre W->pre.length< (cV zs).length->YieldAt Fence.wide (n - 1) aj l #[ab ac (x:Int)] W fun e W'=>
   (e=ao (.bool true)/\J (pre++ [x]) W'/\ag n₀ W W')\/(e=ao (.bool false)/\Jx (pre++ [x]) W'))
  (W:ah) (hBs:W.cell? ⟨Bs,0,none⟩=some (af a len cap)) (hc:len=0\/∃b off,a=some ⟨b,off,none⟩/\b<n₀/\∀j,j<len->W.cell? ⟨b,off+j,none⟩=some (ab ay (zs[j]?.getD 0))) (h0:J [] W):
  CallsIn Fence.wide n aj 316 #[.func (.yield l) #[] #[],am (some ⟨Bs,0,none⟩)] W fun e W'=>(∃v,e=ao v)/\
   ((∃ys,ys=cV zs/\J ys W')\/(∃pre,pre<+:cV zs/\Jx pre W')):=by
 have HC:=ae hc;have HM:=ae hmax;have HZ:=ae hz;have HBy:=ae hb;clear hc hmax hz hb;refine callsIn_of_wp func316 rfl trivial ?_ rfl;simp only[ntmps316,cJ,bz,cx,Nat.reduceAdd,Nat.reduceSub,cO,cP,cQ,cR,cy,cC]
 gi_wp2
 gi_loopw [7] (fun i wr=>∃k:Nat,k<=len/\i=ab ac k/\J (cV (zs.take k)) wr/\ag n₀ W wr)
  (fun i _=>len - (aS i).toNat)
 case atStart=>exact⟨0,bc _,rfl,by simpa [cV]using h0,aI _ _⟩
 case round=>
  obtain⟨k,hk,rfl,hJs,hnx⟩:=hrel;by_cases hlt:k<len
  ·obtain⟨b,off,rfl,hb,hcs⟩:∃b off,a=some ⟨b,off,none⟩/\b<n₀/\∀j,j<len->W.cell? ⟨b,off+j,none⟩=some (ab ay (zs[j]?.getD 0)):=by
    rcases HC.out with h | h
    ·omega
    ·exact h
   obtain⟨x,hx,hx8⟩:=oz zs HBy.out k;have hcx:wr.cell? ⟨b,off+k,none⟩=some (ab ay (x:Int)):=by rw[hnx.cell (p:=⟨b,off+k,none⟩) hb,hcs k hlt,hx]
   have hm:len<=100000:=HM.out;have HT:Hid (cV (zs.take (k+1))=cV (zs.take k)++(kT x).map (8*k+·)):=by
    show _=_;rw[Fy zs k (by rw[HZ.out];exact hlt),hx,iG]
   have HLe:Hid ((cV (zs.take (k+1))).length<=(cV zs).length):=(ze zs (k+1) (by rw[HZ.out];exact hlt)).length_le;have HPr:Hid (cV (zs.take (k+1))<+:cV zs):=ze zs (k+1) (by rw[HZ.out];exact hlt);have HJ:=ae hJs;have HX:=ae hnx;have HLT:=ae hlt;clear hcs hx hJs hnx
   gi_wp2
   gi_loopw [4] (fun i ws=>∃r:Nat,∃pre,r<256/\i=ab ay (r:Int)/\Hid (pre++(kT r).map (8*k+·)=cV (zs.take (k+1)))/\Hid (J pre ws)/\Hid (ag n₀ W ws)) (fun i _=>(aS i).toNat)
   case atStart=>exact⟨x,_,hx8,rfl,HT.out.symm,HJ,HX⟩
   case round=>
    obtain⟨r,pre,hr8,rfl,HP,HJ2,HX2⟩:=hrel;by_cases hr0:r=0
    ·subst hr0;have HJ3:Hid (J (cV (zs.take (k+1))) wr):=by
      have:=HP.out;rw[Fv,List.map_nil,List.append_nil]at this;rw[←this];exact HJ2
     gi_wp2
     go_roundw
     case rel=>exact⟨k+1,HLT.out,by simp,HJ3.out,HX2.out⟩
     case measure=>have:=HLT.out;simp[aS];omega
    ·obtain⟨d,hd⟩:=w9nm (r&&&(r - 1));have hdr:d<r:=by rw[←hd];exact Fx r hr0
     have hlow:=Fu hr8 hr0;rw[hd]at hlow;have hc8:=Fw ⟨r,hr8⟩ hr0;have HTz:=ae (GJ r hr8);obtain⟨c,hcz⟩:=w9nm (nr r);rw[show nr r=c from hcz]at hlow
     replace hc8:c<8:=by rw[←hcz];exact hc8
     simp only[hcz]at HTz;have hp:=HP.out;rw[hlow,List.map_cons]at hp;have hpl:pre.length< (cV zs).length:=by
      have:=congrArg List.length hp;have:=HLe.out;simp at *;omega
     have HP2:Hid ((pre++ [8*k+c])++(kT d).map (8*k+·)=cV (zs.take (k+1))):=by
      show _=_;rw[←hp];simp
     obtain⟨q,hq⟩:∃q:Nat,8*k+c=q:=⟨_,rfl⟩;rw[hq]at HP2;have hqi:(k:Int)*8+(c:Int)=(q:Int):=by omega
     have hand:bits .and ay (r:Int) ((r:Int) - 1)=(d:Int):=by
      rw[show(r:Int) - 1=((r - 1:Nat):Int)from by omega,u8_and_nat r (r - 1) hr8 (by omega),hd]
     obtain⟨fn,tmps,assign,body,hy,hR⟩:=hY pre q wr HJ2.out hpl;have hrne:((r:Int) != 0)=true:=by simp;omega
     have hr1:1<=(r:Int):=by omega
     clear hlow hp hcz hd hq hpl
     gi_wp2_with (refine⟨trivial, ?_⟩;gi_at_call 317;refine(callsIn_wide.2 (HTz.out _)).mono ?_;rintro e w' ⟨rfl,rfl⟩)
     refine hR.mono ?_;rintro e W3 (⟨rfl,hJ3,hk3⟩ | ⟨rfl,hJx3⟩)
     ·have HJ3:=ae hJ3;have HB3:Hid (ag n₀ W W3):=HX2.out.trans hk3;have HD:=ae hdr;clear hJ3 hk3 hdr
      gi_wp2
      go_roundw
      case rel=>exact⟨d,_,Nat.lt_trans HD.out hr8,rfl,HP2,HJ3,HB3⟩
      case measure=>have:=HD.out;simp[aS];omega
     ·have HJ3:=ae hJx3;clear hJx3
      gi_wp2
      refine bo (results_none rfl _ _ _) rfl ?_;refine⟨⟨_,rfl⟩,aD ⟨_, ?_,HJ3.out⟩⟩;exact(List.prefix_append _ _).trans (HP2.out▸HPr.out)
  ·obtain rfl:k=len:=by omega
   gi_wp2
   go_end0
   exact⟨⟨_,rfl⟩,aA ⟨_,rfl,by rw[←HZ.out,List.take_length]at hJs;exact hJs⟩⟩
theorem zg (n:Nat) (hn:1<=n) (Bs n₀ len cap:Nat) (a:Option aF) (zs:List Int) (hz:zs.length=len) (hb:aP zs) (hmax:len<=100000) (w:ah) (hBs:Bs<w.heap.size) (hn₀:n₀<=w.heap.size)
  (hbx:w.cell? ⟨Bs,0,none⟩=some (af a len cap)) (hc:len=0\/∃b off,a=some ⟨b,off,none⟩/\b<n₀/\∀j,j<len->w.cell? ⟨b,off+j,none⟩=some (ab ay (zs[j]?.getD 0))):
  SeqStopsK Fence.wide n aj 316 #[am (some ⟨Bs,0,none⟩)] (fun x:Nat=>#[Value.int ac (x:Int)]) (ag n₀) (fun ys=>ys=cV zs) (fun pre=>pre<+:cV zs) (cV zs).length w:=fun l J Jx W hW _ _ hY h0=>
 Hd n hn l Bs n₀ len cap a zs hz hb hmax J Jx hY W ((hW.cell (p:=⟨Bs,0,none⟩) hBs).trans hbx)
  (hc.imp id fun⟨b,off,e,h1,h2⟩=>⟨b,off,e,h1,fun j hj=>((hW.mono hn₀).cell (p:=⟨b,off+j,none⟩) h1).trans (h2 j hj)⟩) h0
theorem zh (v:ak) (bs:List Int) (w:ah) (hv:Sl ay w v bs) (hb:aP bs) (hlen:bs.length<=100000):
  ap aj 297 #[v] w fun e w'=>e=ao (ab ac ((cV bs).length:Int))/\ag w.heap.size w w':=by
 obtain⟨a,cap,rfl,hL,hm⟩:=pR.of_sl hv;obtain⟨len,hle⟩:=w9nm bs.length;rw[hle]at hL hlen ⊢;refine(callsIn_wide (n:=3)).1 ?_;refine gA func297 rfl trivial ?_ rfl;simp only[ntmps297,cJ,bz,cx,Nat.reduceAdd,Nat.reduceSub,cO,cP,cQ,cR,cy,cC];have HA:=ae hL;have HR:=ae hb;have HL:=ae hle;have HN:Hid ((cV bs).length<=800000):=by show _<=_;have:=Fz bs;omega
 clear hL hm hb hle hv
 gi_wp2_with (refine⟨trivial, ?_⟩;gi_at_call 303;refine(zf _ _ trivial rfl _ _ _ _).mono ?_;rintro e w' ⟨rfl,rfl⟩)
 have bH:=dD w 3 (ab ac 0);have bV:=dD (w.alloc (an #[ab ac 0] 3)) 76 (af a len cap);rw[bO]at bV;have hB0:ag w.heap.size w ((w.alloc (an #[ab ac 0] 3)).alloc (an #[af a len cap] 76)):=((aI _ w).alloc (aG _) _).alloc (by simp) _;refine wpIn_rangeFunc_ownF (n:=3) rfl (by omega) (gf:= 316) (lb:=#[am (some ⟨w.heap.size+1,0,none⟩)]) rfl trivial (enters_of func316 (by kernel_rfl) rfl)
  (zg 2 (by omega) (w.heap.size+1) w.heap.size len cap a bs HL.out HR.out hlen _ (by simp) (by simp;omega) bV.cell
   (HA.out.imp id fun⟨b,off,e,h1,h2⟩=>⟨b,off,e,h1,fun j hj=>(hB0.cell (p:=⟨b,off+j,none⟩) h1).trans (h2 j hj)⟩)) belowK_t (belowK_b (by simp;omega)) (aI _ _) (fun _=>rfl)
  (fun pre W=>Boxed W w.heap.size 3 (ab ac (pre.length:Int))/\ag w.heap.size w W)
  (fun _ _ _=>False)
  ?hI (fun _ _ _ _ _ h _ _=>h.elim) ⟨bH.alloc _,hB0⟩ ?a1 ?assign ?body ?done ?stop
 case hI=>
  intro s W W' row ⟨hv,hB⟩ hg hrow;have hr':∀r,row=some r->∃o:Obj,W.heap[r]? =some o/\o.isCells=false:=fun r e=>(hrow r e).2;exact⟨boxed_own _ _ (fun _:Unit=>_) () W W' row hv hg hr',ownFrom_below (β:=Unit) (aG _) (by simp;omega) () W W' row hB hg hrow⟩
 case assign=>
  intro l x W K hK
  gi_wp2
  exact hK
 case body=>
  rintro l pre x W ⟨hv,hB⟩ hlen2;have c1:=hv.cell;have f1:=hv.frozen;have HV:=ae hv;have HB:=ae hB;have hpl:pre.length<=800000:=by have:=HN.out;omega
  obtain⟨p,hp⟩:=w9nm pre.length;have HP:Hid ((pre++ [x]).length=p+1):=by show _=_;simp[hp]
  rw[hp]at c1 hpl;clear hv hB hlen2 hp
  gi_wp2
  refine⟨iK _ _ _,(aI w.heap.size W).setCell (p:=⟨w.heap.size,0,none⟩) (aG _) _, ?_,HB.out.setCell (p:=⟨w.heap.size,0,none⟩) (aG _) _⟩;rw[HP.out];exact HV.out.set _
 case done=>
  rintro D xs W hD rfl ⟨hv,hB⟩ hK;have c1:=hv.cell;have HB:=ae hB;clear hB
  gi_wp2
  refine⟨by simp,aA ⟨_,_,rfl,eU hK, ?_⟩⟩;exact⟨_,results_tmp rfl _ _ _,rfl,HB.out.trans (belowK_b (w:=w) (aG _) W D _ _ (by simp at hD;omega) hK rfl rfl)⟩
 case stop=>
  rintro D c pre W _ _ h _;exact h.elim
theorem uY {w:ah} {B:Nat} {b:Bool} (h:w.cell? ⟨B,0,none⟩=some (.bool b)):(aE 4 ⟨B,0,none⟩).run aj w=.ok (.bool b) w:=by simp[go_sem,h]
theorem Hf {bs:List Int} {n:Int} (h1:bs.length=fa n) (h2:∀y ∈ cV bs,(y:Int)<n):kA bs n=true:=by
 unfold kA;rw[decide_eq_true h1,jX,iZ];exact fun y hy=>decide_eq_true (h2 y hy)
theorem Hg {bs:List Int} {n:Int} (h1:bs.length≠fa n):kA bs n=false:=by
 unfold kA;rw[decide_eq_false h1,Bool.false_and]
theorem Hh {bs:List Int} {n:Int} {y:Nat} (h:y ∈ cV bs) (h2:n<=(y:Int)):kA bs n=false:=by
 unfold kA;have:(cV bs).all (fun i=>decide ((i:Int)<n))=false:=by
  rw[List.all_eq_false];exact⟨y,h,by simp;omega⟩
 rw[this,Bool.and_false]
theorem Hi (v:ak) (bs:List Int) (n:Int) (w:ah) (hv:Sl ay w v bs) (hb:aP bs) (hlen:bs.length<=100000):
  ap aj 295 #[v,ab ac n] w fun e w'=>e=ao (.bool (kA bs n))/\ag w.heap.size w w':=by
 obtain⟨a,cap,rfl,hL,hm⟩:=pR.of_sl hv;obtain⟨len,hle⟩:=w9nm bs.length;rw[hle]at hL hlen ⊢;have HA:=ae hL;have HR:=ae hb;have HL:=ae hle;have HS:=fun W=>ae (yL n W);obtain⟨s,hs⟩:=w9nm (fa n);have HSZ:=ae hs;simp only[hs]at HS;have HLN:=ae hlen;clear hL hm hb hle hv hs hlen;have bN:=dD w 3 (ab ac n);obtain⟨W0,hW0⟩:=w9nm ((w.alloc (an #[ab ac n] 3)).alloc (an #[.bool false] 4));obtain⟨B,hB⟩:=w9nm w.heap.size;have b0:Boxed W0 B 3 (ab ac n):=by rw[←hW0,←hB];exact bN.alloc _
 have b1:Boxed W0 (B+1) 4 (.bool false):=by
  rw[←hW0,←hB];have:=dD (w.alloc (an #[ab ac n] 3)) 4 (.bool false)
  rwa [bO]at this
 have hB0:ag B w W0:=by rw[←hW0,←hB];exact((aI _ w).alloc (aG _) _).alloc (by simp) _
 have hsz:W0.heap.size=B+2:=by rw[←hW0,←hB];simp
 have HB0:=ae hB0;clear bN hB0;subst hB;by_cases h:len=s
 ·have hne:((len:Int) !=(s:Int))=false:=by simp;omega
  have HQ:Hid (bs.length=fa n):=by show _=_;rw[HL.out,HSZ.out,h]
  clear h;refine(callsIn_wide (n:=3)).1 ?_;refine gA func295 rfl trivial ?_ rfl;simp only[ntmps295,cJ,bz,cx,Nat.reduceAdd,Nat.reduceSub,cO,cP,cQ,cR,cy,cC];have c0:=b0.cell;have c1:=b1.cell;have f1:=b1.frozen
  gi_wp2_with (refine⟨trivial, ?_⟩;gi_at_call 249;refine(callsIn_wide.2 (HS _).out).mono ?_;rintro e w' ⟨rfl,hw'⟩;obtain rfl:=hw'.symm)
  gi_wp2_with (refine⟨trivial, ?_⟩;gi_at_call 303;refine(zf _ _ trivial rfl _ _ _ _).mono ?_;rintro e w' ⟨rfl,rfl⟩)
  have bV:=dD W0 76 (af a len cap);rw[hsz]at bV;have hB1:ag w.heap.size w (W0.alloc (an #[af a len cap] 76)):=HB0.out.alloc (by omega) _;have hl0:=(HA.out.imp id fun⟨b,off,e,h1,h2⟩=>⟨b,off,e,h1,fun j hj=>(hB1.cell (p:=⟨b,off+j,none⟩) h1).trans (h2 j hj)⟩:len=0\/∃b off,a=some ⟨b,off,none⟩/\b<w.heap.size/\∀j,j<len->(W0.alloc (an #[af a len cap] 76)).cell? ⟨b,off+j,none⟩=some (ab ay (bs[j]?.getD 0)));clear c0 c1 f1 hW0;refine wpIn_rangeFunc_ownF (n:=3) rfl (by omega) (gf:= 316) (lb:=#[am (some ⟨w.heap.size+2,0,none⟩)]) rfl trivial (enters_of func316 (by kernel_rfl) rfl)
   (zg 2 (by omega) (w.heap.size+2) w.heap.size len cap a bs HL.out HR.out HLN.out _ (by simp;omega) (by simp;omega) bV.cell hl0) belowK_t (belowK_b (by simp;omega)) (aI _ _) (fun _=>rfl)
   (fun pre W=>Boxed W w.heap.size 3 (ab ac n)/\Boxed W (w.heap.size+1) 4 (.bool false)/\ag w.heap.size w W/\∀y ∈ pre,(y:Int)<n)
   (fun c pre W=>c=.ret/\Boxed W (w.heap.size+1) 4 (.bool false)/\ag w.heap.size w W/\∃y ∈ pre,n<=(y:Int))
   ?hI ?hIx ⟨b0.alloc _,b1.alloc _,hB1,fun y hy=>by cases hy⟩ ?a1 ?assign ?body ?done ?stop
  case hI=>
   intro s X Y row ⟨h1,h2,h3,h4⟩ hg hr;exact⟨boxed_own _ _ (fun _:Unit=>_) () X Y row h1 hg (fun r e=>(hr r e).2),boxed_own _ _ (fun _:Unit=>_) () X Y row h2 hg (fun r e=>(hr r e).2),ownFrom_below (β:=Unit) (by omega) (by simp;omega) () X Y row h3 hg hr,h4⟩
  case hIx=>
   intro c s X Y row ⟨h1,h2,h3,h4⟩ hg hr;exact⟨h1,boxed_own _ _ (fun _:Unit=>_) () X Y row h2 hg (fun r e=>(hr r e).2),ownFrom_below (β:=Unit) (by omega) (by simp;omega) () X Y row h3 hg hr,h4⟩
  case assign=>
   intro l x W K hK
   gi_wp2
   exact hK
  case body=>
   rintro l pre x W ⟨h1,h2,h3,h4⟩ hlen2;have d1:=h1.cell;have d2:=h2.cell;have g2:=h2.frozen;have H1:=ae h1;have H2:=ae h2;have H3:=ae h3;have H4:=ae h4;clear h1 h2 h3 h4 hlen2;by_cases q:n<=(x:Int)
   ·have q1:decide (n<=(x:Int))=true:=decide_eq_true q;have HQx:=ae q
    gi_wp2
    exact⟨iK _ _ _,rfl,H2.out.set _,H3.out.setCell (p:=⟨w.heap.size+1,0,none⟩) (by simp) _,x,by simp,HQx.out⟩
   ·have q1:decide (n<=(x:Int))=false:=decide_eq_false q;have HQx:Hid ((x:Int)<n):=Int.not_le.1 q
    gi_wp2
    refine⟨KeepsOthers.refl _,aI _ _,H1.out,H2.out,H3.out,fun y hy=> ?_⟩;rcases gc.1 hy with hy | hy
    ·exact H4.out y hy
    ·rw[eF.1 hy];exact HQx.out
  case done=>
   rintro D xs W hD rfl ⟨h1,h2,h3,h4⟩ hK;have d2:=h2.cell;have g2:=h2.frozen;have HE:=ae (Hf HQ.out h4);have H2:=ae h2;have H3:=ae h3;have HK:=ae hK;clear h1 h2 h3 h4 hK
   gi_wp2
   have hb2:=H2.out.set (.bool true);have hK2:(W.setCell ⟨w.heap.size+1,0,none⟩ (.bool true)).heap[D]? =some (.deferred (some [])):=by
    rw[eG _ _ _ _ (by simp at hD ⊢;omega)];exact HK.out
   refine⟨by simp,aA ⟨_,_,rfl,eU hK2, ?_⟩⟩;have hg2:=grownBy_putObj' (W.setCell ⟨w.heap.size+1,0,none⟩ (.bool true)) D (.deferred none);have hb3:=boxed_own _ _ (fun _:Unit=>_) () _ _ _ hb2 hg2 (fun r e=>by cases e;exact⟨_,hK2,rfl⟩);refine⟨_,ev rfl rfl (uY hb3.cell),by rw[HE.out], ?_⟩;exact(H3.out.setCell (p:=⟨w.heap.size+1,0,none⟩) (by simp) _).trans (belowK_b (w:=w) (aG _) _ D _ _ (by simp at hD;omega) hK2 rfl rfl)
  case stop=>
   rintro D c pre W hD hpre ⟨rfl,h2,h3,y,hy,hyn⟩ hK;have HE:=ae (Hh (hpre.subset hy) hyn);have H2:=ae h2;have H3:=ae h3;have HK:=ae hK;clear h2 h3 hK hy hyn hpre
   gi_wp2
   refine⟨by simp,aA ⟨_,_,rfl,eU HK.out, ?_⟩⟩;have hg2:=grownBy_putObj' W D (.deferred none);have hb3:=boxed_own _ _ (fun _:Unit=>_) () _ _ _ H2.out hg2 (fun r e=>by cases e;exact⟨_,HK.out,rfl⟩);refine⟨_,ev rfl rfl (uY hb3.cell),by rw[HE.out], ?_⟩;exact H3.out.trans (belowK_b (w:=w) (aG _) W D _ _ (by simp at hD;omega) HK.out rfl rfl)
 ·have hne:((len:Int) !=(s:Int))=true:=by simp;omega
  rw[Hg (by rw[HL.out,HSZ.out];exact h)];have c0:=b0.cell;have c1:=b1.cell;have f1:=b1.frozen;clear h;go_enter func295,ntmps295;go_wp2_with (go_at_call 249;refine(HS _).out.mono ?_;rintro e w' ⟨rfl,hw'⟩;obtain rfl:=hw'.symm);refine bo (ev rfl rfl (uY (b1.set (.bool false)).cell)) rfl ⟨rfl, ?_⟩;exact HB0.out.setCell (p:=⟨w.heap.size+1,0,none⟩) (by simp) _
theorem nE {n:Int} (h0: -9223372036854775808<=n) (h1:n<=9223372036854775807):(Lit.int ac n).wf=true:=by
 have e1:IntKind.i64.min= -9223372036854775808:=by decide
 have e2:IntKind.i64.max=9223372036854775807:=by decide
 simp[Lit.wf];omega
theorem Hj {w:ah} {base e n s:Nat} {v:ak} {xs:List ak} (h:w.ownsRow base e s v n xs):∀k,v.ownBlock=some k->base<=k:=by
 intro k hk;rcases h.2 with⟨rfl,_⟩ | ⟨g,cap,cur,rfl,h1,_⟩
 ·cases hk
 ·cases hk;exact h1
end
section
theorem fD.isSl {N:Nat} {x:ah} {v:ak} {l:List SN} (h:fD N x v l):∃q:jj,v=aK q/\q.2.1=l.length:=by
 obtain⟨r,a1,a2,a3⟩:=h;exact iO a2
def rT (W:ah) (B C:Nat):Type:={x:ah // x.heap[B]? =W.heap[B]? /\x.heap[C]? =W.heap[C]?}
instance (W:ah) (B C:Nat):Nonempty (rT W B C):=⟨⟨W,rfl,rfl⟩⟩
theorem rT.fst {W:ah} {B C:Nat} {t:aR} {c:List ak} (z:rT W B C) (h:aq W B t c):aq z.1 B t c:=z.2.1.trans h
end
section
attribute [-simp] isAgg191 zeroValue191
attribute [-go_sem] aE aL
attribute [local go_sem] eJ rD nw
end
section
attribute [-simp] isAgg90 zeroValue90 isAgg191 zeroValue191
attribute [-go_sem] aE aL
attribute [local go_sem] pW pX fB nD uW
end
section
section
def gP (l:List (Int×Int)):Prop:=l.Pairwise fun p q=>p.1<q.1
def zi (l:List (Int×Int)):Prop:=∀p ∈ l,∀q ∈ l,p.2=q.2->p=q
def Hp (l:List (Int×Int)) (blocks area:Int):Prop:=∀p ∈ l,0<=p.1/\p.1<blocks/\0<=p.2/\p.2<area
theorem uZ (bl ar:Int):∀(l:List (Int×Int)) (last:Int),kU bl ar last l=true↔(∀p ∈ l,last<p.1/\p.1<bl/\0<=p.2/\p.2<ar)/\gP l
 | [],last=>by simp[kU,gP]
 | p::l,last=>by
  unfold kU;rw[cm,uZ bl ar l p.1];simp only[cm,decide_eq_true_eq,gP,List.pairwise_cons,dy,forall_eq_or_imp];constructor
  ·rintro⟨⟨⟨⟨h1,h2⟩,h3⟩,h4⟩,h5,h6⟩;exact⟨⟨⟨h1,h2,h3,h4⟩,fun q hq=>⟨by have:=(h5 q hq).1;omega,(h5 q hq).2⟩⟩,fun q hq=>(h5 q hq).1,h6⟩
  ·rintro⟨⟨⟨h1,h2,h3,h4⟩,h5⟩,h6,h7⟩;exact⟨⟨⟨⟨h1,h2⟩,h3⟩,h4⟩,fun q hq=>⟨h6 q hq,(h5 q hq).2⟩,h7⟩
theorem gP.nodup {l:List (Int×Int)} (h:gP l):l.Nodup:=h.imp fun h e=>by subst e;omega
theorem zj {l:List (Int×Int)} (hn:l.Nodup):(l.map (·.2)).Nodup↔zi l:=by
 constructor
 ·intro h p hp q hq e;obtain⟨i,hi⟩:=jY hp;obtain⟨j,hj⟩:=jY hq;obtain⟨hil,hie⟩:=bZ.1 hi;obtain⟨hjl,hje⟩:=bZ.1 hj;have hw:=List.pairwise_iff_getElem.1 h;rcases Nat.lt_trichotomy i j with hij | hij | hij
  ·exact absurd (by rw[List.getElem_map,List.getElem_map,hie,hje];exact e) (hw i j (by simpa using hil) (by simpa using hjl) hij)
  ·subst hij;rw[hi]at hj;cases hj;rfl
  ·exact absurd (by rw[List.getElem_map,List.getElem_map,hie,hje];exact e.symm) (hw j i (by simpa using hjl) (by simpa using hil) hij)
 ·intro h;refine List.pairwise_map.2 (hn.imp_of_mem fun ha hb hne e=>hne (h _ ha _ hb e))
theorem vb (l:List (Int×Int)) (bl ar:Int):gB l bl ar=true↔Hp l bl ar/\gP l/\zi l:=by
 unfold gB;rw[cm,decide_eq_true_eq,uZ];constructor
 ·rintro⟨⟨h1,h2⟩,h3⟩;exact⟨fun p hp=>by have:=h1 p hp;omega,h2,(zj h2.nodup).1 h3⟩
 ·rintro⟨h1,h2,h3⟩;exact⟨⟨fun p hp=>by have:=h1 p hp;omega,h2⟩,(zj h2.nodup).2 h3⟩
end
section
def rS (bl ar last:Int) (s:SN):Bool:=decide (0<s.id)&&(decide (s.id<=1000000)&&(decide (last<s.id)&&(kA s.ch bl&&gB s.tb bl ar)))
def rF (s:SN):Bool:=(cV s.ch).all fun c=>(mP s.tb (c:Int)).isSome
theorem rU:∀(a b:List Nat),a.Nodup->(∀x ∈ a,x ∈ b)->a.length<=b.length
 | [],_,_,_=>bc _
 | x::a,b,h,hs=>by
  obtain⟨h1,h2⟩:=List.nodup_cons.1 h;have hx:=hs x (dC ..);have:=rU a (b.erase x) h2 fun y hy=>(List.mem_erase_of_ne (fun(e:y=x)=>h1 (e▸hy))).2 (hs y (ea _ hy));rw[List.length_erase_of_mem hx]at this;have:=List.length_pos_of_mem hx;simp only[bz];omega
theorem Hq (bs:List Int):(cV bs).Nodup:=(FC bs).imp fun h=>Nat.ne_of_lt h
theorem Hr {s:SN} {bl ar:Int} (hg:gB s.tb bl ar=true) (hh:∀p ∈ s.tb,dE s.ch p.1=true):jf s=rF s:=by
 unfold gB at hg;rw[cm]at hg;obtain⟨hp,hasc⟩:=(uZ bl ar s.tb (-1)).1 hg.1;obtain⟨T,hT⟩:=w9nm (s.tb.map (fun p=>p.1.toNat));have hTn:T.Nodup:=by
  rw[←hT];refine List.pairwise_map.2 ?_;refine hasc.imp_of_mem ?_;intro a b ha hb h e;have h1:=hp a ha;have h2:=hp b hb;omega
 have hTs:∀x ∈ T,x ∈ cV s.ch:=by
  intro x hx;rw[←hT]at hx;obtain⟨p,hm,rfl⟩:=cM.1 hx;have:=hh p hm;unfold dE at this;rw[cm]at this;exact FA.2 this.2
 have hl:T.length=s.tb.length:=by rw[←hT,dV]
 have hle:=rU T _ hTn hTs;have hmem:∀c:Nat,(mP s.tb (c:Int)).isSome=true↔c ∈ T:=by
  intro c;constructor
  ·intro h;obtain⟨i,hi⟩:=Option.isSome_iff_exists.1 h;obtain⟨⟨p,hpi,hpc⟩, -⟩:=FM.1 hi;rw[←hT];exact cM.2 ⟨p,dp hpi,by omega⟩
  ·intro h;rw[←hT]at h;obtain⟨p,hm,hc⟩:=cM.1 h;obtain⟨j,hj⟩:=jY hm;have h0:=(hp p hm).1;cases hf:mP s.tb (c:Int)with
   | some i=>rfl
   | none=>exact absurd (show p.1=(c:Int) by omega) (FN.1 hf j p hj)
 unfold jf rF;rw[iY,decide_eq_true_eq,iZ];constructor
 ·intro he c hc;rw[hmem];by_cases hn:c ∈ T
  ·exact hn
  ·have:=rU (c::T) (cV s.ch) (List.nodup_cons.2 ⟨hn,hTn⟩) (by
    intro x hx;rcases dy.1 hx with rfl | hx
    ·exact hc
    ·exact hTs x hx)
   simp only[bz]at this;omega
 ·intro h;have:=rU _ T (Hq s.ch) fun c hc=>(hmem c).1 (h c hc);omega
end
section
attribute [-simp] isAgg191 zeroValue191
attribute [-go_sem] aE aL
attribute [local go_sem] pT pU eJ rD nw
end
section
attribute [-simp] isAgg90 zeroValue90 isAgg191 zeroValue191
attribute [-go_sem] aE aL
attribute [local go_sem] pW pX fB eJ
end
section
attribute [-simp] isAgg90 zeroValue90 isAgg191 zeroValue191
attribute [-go_sem] aE aL
attribute [local go_sem] pW pX fB eJ
theorem bT.isSl {N:Nat} {W:ah} {v:ak} {zs:List Int} (h:bT N W v zs):∃q:jj,v=aK q:=by
 obtain⟨q',e,e2⟩:=iO h;exact⟨q',e⟩
end
section
end
end
section
structure SG where
 b:Nat
 s:Nat
 y:Nat
 a:Nat
def SG.slots (g:SG):Nat:=g.s*g.y
def SG.n9 (g:SG):Nat:=fa (g.b:Int)
def SG.step (g:SG):Nat:=4+g.n9+g.b
def SG.bts (g:SG):Nat:=10+g.slots+8*g.step+g.b
structure SG.Ok (g:SG):Prop where
 b1:1<=g.b
 b64:g.b<=64
 s1:1<=g.s
 s8:g.s<=8
 y1:1<=g.y
 y4:g.y<=4
 a200:g.a<=200
structure ST where
 d:List Int
 sn:List SN
 nx:Int
 kd:Int
 id:Int
 pr:List (Int×Int)
def km (g:SG) (d:List Int) (i:Nat):Bool:=
 (d[i]?.getD 0== -1)||(decide (0<=d[i]?.getD 0)&&decide (d[i]?.getD 0< (g.b:Int))&&(d[i]?.getD 0%(g.s:Int)==(i:Int) / (g.y:Int))&& !((d.take i).contains (d[i]?.getD 0)))
def fV (g:SG) (d:List Int):Bool:=decide (d.length=g.slots)&&(cI d.length).all (km g d)
def li (l:List SN) (at_:Int):Bool:=(dK l).contains at_
def vd (l:List SN):Bool:=match l.getLast? with
 | none=>true
 | some s=>(cV s.ch).all fun c=>s.tb.any fun p=>p.1==(c:Int)
def nF (g:SG) (kd:Int) (l:List SN) (pr:List (Int×Int)) (i:Nat):Bool:=
 decide (0<=(pr[i]?.getD (0,0)).1)&&decide ((pr[i]?.getD (0,0)).1< (g.b:Int))&&(decide (i=0)||decide ((pr[i - 1]?.getD (0,0)).1< (pr[i]?.getD (0,0)).1))&&
 (if kd=1 then li l (pr[i]?.getD (0,0)).2 else((pr[i]?.getD (0,0)).2==255)||(decide (0<=(pr[i]?.getD (0,0)).2)&&decide ((pr[i]?.getD (0,0)).2< (g.a:Int))&& !(li l (pr[i]?.getD (0,0)).2)&& !((pr.take i).any fun p=>p.2==(pr[i]?.getD (0,0)).2)))
def oV (g:SG) (kd:Int) (l:List SN) (pr:List (Int×Int)):Bool:=(cI pr.length).all (nF g kd l pr)
def iP (g:SG) (s:ST):Bool:=
 if s.kd=0 then(s.id==0)&&decide (s.pr.length=0)
 else if s.kd=1 then decide (0<=kV s.sn s.id)&&oV g s.kd s.sn s.pr
 else if s.kd=2 then decide (s.nx<=s.id)&&decide (s.id<=1000000)&&decide (s.sn.length<8)&&vd s.sn&&oV g s.kd s.sn s.pr
 else false
def fE (g:SG) (s:ST):Bool:=fV g s.d&&eu s.sn (g.b:Int) (g.a:Int)&&decide (1<=s.nx)&&decide (s.nx<=1000001)&&s.sn.all (fun t=>decide (t.id<s.nx))&&iP g s
def fK (a:Int):Int:=if a=255 then 255 else a+1
def ff (v:Int):Int:=if v=255 then 255 else v - 1
def eA (b:Nat) (l:List (Int×Int)):List Int:=l.foldl (fun o p=>o.set p.1.toNat (fK p.2)) (bg b 0)
def my (g:SG):SN:=⟨0,bg g.n9 0, []⟩
def jk (g:SG) (s:SN):List Int:=aJ s.id 4++(s.ch++eA g.b s.tb)
def dM (g:SG) (l:List SN):List (List Int):=(cI 8).map fun i=>jk g (l[i]?.getD (my g))
def bK (g:SG) (s:ST):List Int:=aJ s.nx 4++([(s.sn.length:Int),s.kd]++(aJ s.id 4++(s.d.map (·+1)++((dM g s.sn).flatten++eA g.b s.pr))))
def cK:Nat->List Int->List (Int×Int)
 | _, []=> []
 | k,x::l=>if 0<x then((k:Int),ff x)::cK (k+1) l else cK (k+1) l
theorem qc (k:Nat) (x:Int) (l:List Int):cK k (x::l)=if 0<x then((k:Int),ff x)::cK (k+1) l else cK (k+1) l:=rfl
def bx (bs:List Int) (a n:Nat):List Int:=(bs.drop a).take n
def SG.at (g:SG) (i:Nat):Nat:=10+g.slots+i*g.step
def iw (g:SG) (x:List Int):SN:=⟨bM (bx x 0 4),bx x 4 g.n9,cK 0 (bx x (4+g.n9) g.b)⟩
def mz (g:SG) (bs:List Int):ST:=
 ⟨(bx bs 10 g.slots).map (·- 1),(cI (bs[4]?.getD 0).toNat).map (fun i=>iw g (bx bs (g.at i) g.step)),bM (bx bs 0 4),bs[5]?.getD 0,bM (bx bs 6 4),cK 0 (bx bs (g.at 8) g.b)⟩
def iy (g:SG) (bs:List Int):Option ST:=
 if bs.length=g.bts/\bs[4]?.getD 0<=8/\fE g (mz g bs)=true/\bK g (mz g bs)=bs then some (mz g bs)else none
theorem oX {P X R:List Int} {a n:Nat} (ha:P.length=a) (hn:X.length=n):bx (P++(X++R)) a n=X:=by
 unfold bx;subst ha hn;rw[List.drop_left,List.take_left]
theorem zk {P X:List Int} {a n:Nat} (ha:P.length=a) (hn:X.length=n):bx (P++X) a n=X:=by
 unfold bx;subst ha hn;rw[List.drop_left,List.take_length]
theorem Hs (L:List Int) {a m o n:Nat} (h:o+n<=m):bx (bx L a m) o n=bx L (a+o) n:=by
 unfold bx;rw[List.drop_take,List.take_take,ja,lJ (by omega)]
theorem zl {m:Nat}:∀(S:List (List Int)) (P R:List Int) (i:Nat) (x:List Int),(∀y ∈ S,y.length=m)->S[i]? =some x->bx (P++(S.flatten++R)) (P.length+i*m) m=x
 | [],P,R,i,x,_,h=>by simp at h
 | y::S,P,R,0,x,hm,h=>by
  simp only[List.getElem?_cons_zero,Option.some.injEq]at h;subst h;rw[kN,kb];exact oX (by omega) (hm y (dC ..))
 | y::S,P,R,i+1,x,hm,h=>by
  have hy:=hm y (dC ..);have ih:=zl S (P++y) R i x (fun z hz=>hm z (ea _ hz)) (by simpa using h);rw[cE,hy]at ih;rw[kN,kb,←kb P,show P.length+(i+1)*m=P.length+m+i*m by rw[Nat.add_mul];omega];exact ih
theorem sd {m:Nat}:∀(S:List (List Int)),(∀y ∈ S,y.length=m)->S.flatten.length=S.length*m
 | [],_=>by simp
 | y::S,hm=>by
  rw[kN,cE,hm y (dC ..),sd S (fun z hz=>hm z (ea _ hz)),bz,Nat.add_mul];omega
theorem lj (b:Nat) (l:List (Int×Int)):(eA b l).length=b:=by
 unfold eA;have key:∀(l:List (Int×Int)) (o:List Int),(l.foldl (fun o p=>o.set p.1.toNat (fK p.2)) o).length=o.length:=by
  intro l
  induction l with
  | nil=>intro o;rfl
  | cons p l ih=>intro o;rw[List.foldl_cons,ih,List.length_set]
 rw[key,iq]
theorem ve {b:Nat} {l:List (Int×Int)} (ha:gP l) (hr:∀p ∈ l,0<=p.1/\p.1< (b:Int)) {j:Nat} (hj:j<b):
  (∀p ∈ l,p.1=(j:Int)->(eA b l)[j]? =some (fK p.2))/\((∀p ∈ l,p.1≠(j:Int))->(eA b l)[j]? =some 0):=by
 unfold eA;have key:∀(l:List (Int×Int)) (o:List Int),o.length=b->gP l->(∀p ∈ l,0<=p.1/\p.1< (b:Int))->
   (∀p ∈ l,p.1=(j:Int)->(l.foldl (fun o p=>o.set p.1.toNat (fK p.2)) o)[j]? =some (fK p.2))/\((∀p ∈ l,p.1≠(j:Int))->(l.foldl (fun o p=>o.set p.1.toNat (fK p.2)) o)[j]? =o[j]?):=by
  intro l
  induction l with
  | nil=>intro o _ _ _;exact⟨fun p hp=>(by cases hp),fun _=>rfl⟩
  | cons q l ih=>
   intro o ho hasc hrr;obtain⟨h1,h2⟩:=List.pairwise_cons.1 hasc;obtain⟨i1,i2⟩:=ih (o.set q.1.toNat (fK q.2)) (by rw[List.length_set];exact ho) h2 (fun p hp=>hrr p (ea _ hp));have hq:=hrr q (dC ..);refine⟨fun p hp e=> ?_,fun hn=> ?_⟩
   ·rw[List.foldl_cons];rcases dy.1 hp with rfl | hp
    ·rw[i2 (fun r hr e2=>by have:=h1 r hr;omega),List.getElem?_set,if_pos (by omega),if_pos (by rw[ho];omega)]
    ·exact i1 p hp e
   ·rw[List.foldl_cons,i2 (fun r hr=>hn r (ea _ hr)),List.getElem?_set,if_neg (by have:=hn q (dC ..);omega)]
 obtain⟨k1,k2⟩:=key l (bg b 0) (by simp) ha hr;refine⟨k1,fun hn=> ?_⟩;rw[k2 hn,kO,if_pos hj]
theorem vf:∀(bs:List Int) (k:Nat) (p:Int×Int),p ∈ cK k bs↔∃(j:Nat) (x:Int),bs[j]? =some x/\0<x/\p=(((k+j:Nat):Int),ff x)
 | [],k,p=>by simp[cK]
 | x::l,k,p=>by
  have ih:=vf l (k+1) p;have step:(∃(j:Nat) (x':Int),(x::l)[j]? =some x'/\0<x'/\p=(((k+j:Nat):Int),ff x'))↔(0<x/\p=((k:Int),ff x))\/∃(j:Nat) (x':Int),l[j]? =some x'/\0<x'/\p=(((k+1+j:Nat):Int),ff x'):=by
   constructor
   ·rintro⟨j,x',h1,h2,h3⟩;cases j with
    | zero=>simp at h1;subst h1;exact aA ⟨h2,h3⟩
    | succ j=>exact aD ⟨j,x',by simpa using h1,h2,by rw[h3,show k+(j+1)=k+1+j by omega]⟩
   ·rintro(⟨h1,h2⟩ | ⟨j,x',h1,h2,h3⟩)
    ·exact⟨0,x,rfl,h1,h2⟩
    ·exact⟨j+1,x',by simpa using h1,h2,by rw[h3,show k+(j+1)=k+1+j by omega]⟩
  rw[step,←ih,qc];by_cases hx:0<x
  ·rw[if_pos hx,dy];simp[hx]
  ·rw[if_neg hx];simp[hx]
theorem zm:∀(bs:List Int) (k:Nat),gP (cK k bs)/\∀p ∈ cK k bs,(k:Int)<=p.1
 | [],k=>⟨List.Pairwise.nil,fun p hp=>by simp[cK]at hp⟩
 | x::l,k=>by
  obtain⟨i1,i2⟩:=zm l (k+1);unfold cK;by_cases hx:0<x
  ·rw[if_pos hx];refine⟨List.pairwise_cons.2 ⟨fun q hq=>by have:=i2 q hq;show(k:Int)<q.1;omega,i1⟩,fun p hp=> ?_⟩;rcases dy.1 hp with rfl | hp
   ·exact fT _
   ·have:=i2 p hp;omega
  ·rw[if_neg hx];exact⟨i1,fun p hp=>by have:=i2 p hp;omega⟩
theorem zn:∀{l m:List (Int×Int)},gP l->gP m->(∀p,p ∈ l↔p ∈ m)->l=m
 | [], [],_,_,_=>rfl
 | [],q::m,_,_,h=>by have:=(h q).2 (dC ..);cases this
 | p::l, [],_,_,h=>by have:=(h p).1 (dC ..);cases this
 | p::l,q::m,hl,hm,h=>by
  obtain⟨l1,l2⟩:=List.pairwise_cons.1 hl;obtain⟨m1,m2⟩:=List.pairwise_cons.1 hm;have e:p=q:=by
   rcases dy.1 ((h p).1 (dC ..))with e | e
   ·exact e
   ·rcases dy.1 ((h q).2 (dC ..))with e2 | e2
    ·exact e2.symm
    ·have:=m1 p e;have:=l1 q e2;omega
  subst e;rw[zn l2 m2 fun r=> ?_];constructor
  ·intro hr;rcases dy.1 ((h r).1 (ea _ hr))with e | e
   ·subst e;have:=l1 r hr;omega
   ·exact e
  ·intro hr;rcases dy.1 ((h r).2 (ea _ hr))with e | e
   ·subst e;have:=m1 r hr;omega
   ·exact e
theorem zo {b:Nat} {l:List (Int×Int)} (ha:gP l) (hr:∀p ∈ l,0<=p.1/\p.1< (b:Int)) (hv:∀p ∈ l,0<=p.2/\p.2≠254):cK 0 (eA b l)=l:=by
 refine zn (zm _ _).1 ha fun p=> ?_;rw[vf];constructor
 ·rintro⟨j,x,h1,h2,h3⟩;have hj:j<b:=by rw[←lj b l];exact(bZ.1 h1).1
  obtain⟨g1,g2⟩:=ve ha hr hj;by_cases hn:∃q ∈ l,q.1=(j:Int)
  ·obtain⟨q,hq,e⟩:=hn;have:=g1 q hq e;rw[this]at h1;cases h1;have hq2:=hv q hq;have e2:p=q:=by
    rw[h3];have e3:ff (fK q.2)=q.2:=by
     unfold ff fK;by_cases h5:q.2=255
     ·rw[if_pos h5,if_pos rfl,h5]
     ·rw[if_neg h5,if_neg (by omega)];omega
    rw[e3,dP,←e]
   rw[e2];exact hq
  ·have:=g2 fun q hq e=>hn ⟨q,hq,e⟩;rw[this]at h1;cases h1;omega
 ·intro hp;obtain⟨h1,h2⟩:=hr p hp;have hj:p.1.toNat<b:=by omega
  obtain⟨g1, -⟩:=ve ha hr hj;have hq2:=hv p hp;refine⟨p.1.toNat,fK p.2,g1 p hp (by omega), ?_, ?_⟩
  ·unfold fK;split<;>omega
  ·have e3:ff (fK p.2)=p.2:=by
    unfold ff fK;by_cases h5:p.2=255
    ·rw[if_pos h5,if_pos rfl,h5]
    ·rw[if_neg h5,if_neg (by omega)];omega
   rw[e3,dP,Int.toNat_of_nonneg h1]
structure PrIn (g:SG) (pr:List (Int×Int)):Prop where
 asc:gP pr
 rng:∀p ∈ pr,0<=p.1/\p.1< (g.b:Int)
 val:∀p ∈ pr,0<=p.2/\p.2≠254/\p.2<256
structure SnIn (g:SG) (s:SN):Prop where
 id0:0<=s.id
 id1:s.id<=1000000
 ch:s.ch.length=g.n9
 tb:PrIn g s.tb
structure StIn (g:SG) (s:ST):Prop where
 dl:s.d.length=g.slots
 sl:s.sn.length<=8
 sn:∀t ∈ s.sn,SnIn g t
 nx0:0<=s.nx
 nx1:s.nx<=1000001
 kd0:0<=s.kd
 id0:0<=s.id
 id1:s.id<=1000000
 pr:PrIn g s.pr
theorem Ht {g:SG} {s:SN} (h:s.ch.length=g.n9):(jk g s).length=g.step:=by
 unfold jk SG.step;rw[cE,cE,cu,lj,h];omega
theorem zp (g:SG):(my g).ch.length=g.n9:=by unfold my;simp
theorem vg {g:SG} {l:List SN} (h:∀t ∈ l,t.ch.length=g.n9):∀y ∈ dM g l,y.length=g.step:=by
 intro y hy;obtain⟨i, -,rfl⟩:=cM.1 hy;refine Ht ?_;cases e:l[i]? with
 | none=>exact zp g
 | some s=>exact h s (dp e)
theorem vh {g:SG} {s:ST} (hd:s.d.length=g.slots) (h:∀t ∈ s.sn,t.ch.length=g.n9):(bK g s).length=g.bts:=by
 unfold bK SG.bts;simp only[cE,cu,bz,cx,dV,lj,sd _ (vg h),hd];unfold dM;simp only[dV,List.length_range];omega
theorem vj {n:Int} (h0:0<=n) (h1:n<4294967296):bM (aJ n 4)=n:=by
 rw[pL n h0 (by omega) 4,if_pos (by decide)];simp only[Nat.reduceMul,Int.reducePow];omega
theorem Hu {g:SG} {s:SN} (h:SnIn g s):iw g (jk g s)=s:=by
 obtain⟨id,ch,tb⟩:=s;have h1:bx (jk g ⟨id,ch,tb⟩) 0 4=aJ id 4:=by
  have:=oX (P:= []) (X:=aJ id 4) (R:=ch++eA g.b tb) (a:=0) (n:=4) rfl (cu _ _)
  simpa [jk]using this
 have h2:bx (jk g ⟨id,ch,tb⟩) 4 g.n9=ch:=oX (P:=aJ id 4) (X:=ch) (R:=eA g.b tb) (cu _ _) h.ch;have h3:bx (jk g ⟨id,ch,tb⟩) (4+g.n9) g.b=eA g.b tb:=by
  have:=zk (P:=aJ id 4++ch) (X:=eA g.b tb) (a:=4+g.n9) (n:=g.b) (by rw[cE,cu];have:=h.ch;simp only at this;omega) (lj _ _)
  simpa [jk]using this
 unfold iw;rw[h1,h2,h3,vj h.id0 (Int.lt_of_le_of_lt h.id1 (by decide)),zo h.tb.asc h.tb.rng (fun p hp=>⟨(h.tb.val p hp).1,(h.tb.val p hp).2.1⟩)]
theorem Hv {g:SG} {s:ST} (h:StIn g s):mz g (bK g s)=s/\(bK g s)[4]?.getD 0=(s.sn.length:Int):=by
 obtain⟨d,sn,nx,kd,id,pr⟩:=s;have hsl:=vg (g:=g) (l:=sn) (fun t ht=>(h.sn t ht).ch);have hS:(dM g sn).length=8:=by unfold dM;simp
 have hD:(d.map (·+1)).length=g.slots:=by rw[dV];exact h.dl
 obtain⟨E,hE⟩:=w9nm (bK g ⟨d,sn,nx,kd,id,pr⟩);have e1:E=aJ nx 4++([(sn.length:Int),kd]++(aJ id 4++(d.map (·+1)++((dM g sn).flatten++eA g.b pr)))):=hE.symm;have p1:bx E 0 4=aJ nx 4:=by
  rw[e1];exact oX (P:= []) rfl (cu _ _)
 have p4:E[4]?.getD 0=(sn.length:Int):=by
  rw[e1,fv (by rw[cu];omega),cu];rfl
 have p5:E[5]?.getD 0=kd:=by
  rw[e1,fv (by rw[cu];omega),cu];rfl
 have p6:bx E 6 4=aJ id 4:=by
  have:=oX (P:=aJ nx 4++ [(sn.length:Int),kd]) (X:=aJ id 4) (R:=d.map (·+1)++((dM g sn).flatten++eA g.b pr)) (a:=6) (n:=4) (by simp[cu]) (cu _ _);rw[e1]
  simpa using this
 have p10:bx E 10 g.slots=d.map (·+1):=by
  have:=oX (P:=aJ nx 4++([(sn.length:Int),kd]++aJ id 4)) (X:=d.map (·+1)) (R:=(dM g sn).flatten++eA g.b pr) (a:=10) (n:=g.slots) (by simp[cu]) hD;rw[e1]
  simpa using this
 have pS:∀(i:Nat) (x:List Int),(dM g sn)[i]? =some x->bx E (g.at i) g.step=x:=fun i x hx=>by
  have:=zl (m:=g.step) (dM g sn) (aJ nx 4++([(sn.length:Int),kd]++(aJ id 4++d.map (·+1)))) (eA g.b pr) i x hsl hx;have hl:(aJ nx 4++([(sn.length:Int),kd]++(aJ id 4++d.map (·+1)))).length=10+g.slots:=by
   simp only[cE,cu,hD,bz,cx];omega
  rw[hl]at this;rw[e1];unfold SG.at
  simpa using this
 have pE:bx E (g.at 8) g.b=eA g.b pr:=by
  have:=zk (P:=aJ nx 4++([(sn.length:Int),kd]++(aJ id 4++(d.map (·+1)++(dM g sn).flatten)))) (X:=eA g.b pr) (a:=g.at 8) (n:=g.b)
   (by
    simp only[cE,cu,hD,bz,cx,sd _ hsl,hS];unfold SG.at
    omega) (lj _ _)
  rw[e1]
  simpa using this
 rw[hE];refine⟨?_,p4⟩;unfold mz;rw[p1,p4,p5,p6,p10,pE,vj h.nx0 (Int.lt_of_le_of_lt h.nx1 (by decide)),vj h.id0 (Int.lt_of_le_of_lt h.id1 (by decide)),zo h.pr.asc h.pr.rng (fun p hp=>⟨(h.pr.val p hp).1,(h.pr.val p hp).2.1⟩)];have hd2:(d.map (·+1)).map (·- 1)=d:=by
  rw[iX]
  conv=>rhs;rw[←List.map_id d]
  refine List.map_congr_left fun x _=> ?_;show x+1 - 1=x;omega
 have hs2:(cI (sn.length:Int).toNat).map (fun i=>iw g (bx E (g.at i) g.step))=sn:=by
  apply jD;intro i;by_cases hi:i<sn.length
  ·have h8:sn.length<=8:=h.sl;rw[dY,mj (by simpa using hi)];have hx:(dM g sn)[i]? =some (jk g (sn[i]?.getD (my g))):=by
    unfold dM;rw[dY,mj (by omega)]
    rfl
   show some (iw g (bx E (g.at i) g.step))=_;rw[pS i _ hx,aZ hi];show some (iw g (jk g sn[i]))=_;rw[Hu (h.sn _ (List.getElem_mem hi))]
  ·rw[ej (by simp;omega),ej (by omega)]
 rw[hd2,hs2]
def SG.v (g:SG) (r:Int):Array ak:=#[ab ac (g.b:Int),ab ac (g.s:Int),ab ac (g.y:Int),ab ac (g.a:Int),ab ac r]
theorem vk {g:SG} {d:List Int} {k:Nat} (hk:k<d.length) (h:km g d k=false):fV g d=false:=by
 unfold fV;rw[Bool.and_eq_false_iff]
 right
 rw[List.all_eq_false];exact⟨k,dJ.2 hk,by rw[h];decide⟩
theorem Hw {g:SG} {d:List Int} (hl:d.length=g.slots) (h:∀k,k<d.length->km g d k=true):fV g d=true:=by
 unfold fV;rw[cm,decide_eq_true_eq,iZ];exact⟨hl,fun k hk=>h k (dJ.1 hk)⟩
theorem Sl.cellI {w:ah} {a:Option aF} {n c:Nat} {xs:List Int} (h:Sl ac w (af a n c) xs):n=xs.length/\n<=aY/\(0<n->∃b o,a=some ⟨b,o,none⟩/\∀x:ah,ag w.heap.size w x->∀j,j<n->x.cell? ⟨b,o+j,none⟩=some (ab ac (xs[j]?.getD 0))):=by
 obtain⟨a',c',e,h1,h2,h3, -⟩:=h;cases e;refine⟨rfl,bm h1 h2,fun h0=> ?_⟩;rcases h3 with h3 | ⟨b,o,rfl,h4,h5⟩
 ·rw[h3]at h0;cases h0
 ·exact⟨b,o,rfl,fun x hx j hj=>(hx.cell (p:=⟨b,o+j,none⟩) h4).trans (h5 j hj)⟩
end
section
section
open Go.RowKit Go.Lib Go.Sort
end
section
structure PS where
 d:jj
 sn:jj
 nx:Int
 kd:Int
 id:Int
 pr:jj
def aW (q:PS):List ak:= [aK q.d,aK q.sn,ab ac q.nx,ab ac q.kd,ab ac q.id,aK q.pr]
def bI (q:PS):ak:=al (aW q).toArray
structure StIs (W:ah) (q:PS) (l:List SN) (ps:List (Int×Int)):Prop where
 sn:ki W (aK q.sn) l
 pr:fU W (aK q.pr) ps
theorem StIs.below {W W':ah} {q:PS} {l:List SN} {ps:List (Int×Int)} (h:StIs W q l ps) (hB:ag W.heap.size W W'):StIs W' q l ps:=⟨h.sn.below hB,h.pr.below hB⟩
theorem iQ (t:aR) (h:t≠ 90) (h':t≠ 191) (h'':t≠ 47) (a:aF):aE t a=(do if←isAgg t then pure (al (←loadCells a (←sizeOf t)))else load a):=rfl
theorem iR (t:aR) (h:t≠ 90) (h':t≠ 191) (h'':t≠ 47) (a:aF) (v:ak):aL t a v=(do
  if v.cells.size≠(←sizeOf t)then stuck "storeVar: the value has not the size of the variable"
  storeCells a v.cells.toList):=rfl
theorem en (w:ah):(zeroValue 47).run aj w=.ok (al #[af none 0 0,af none 0 0,ab ac 0,ab ac 0,ab ac 0,af none 0 0]) w:=by kernel_rfl
theorem vm:(aj.info? 47).map (·.size)=some 6:=by kernel_rfl
set_option maxRecDepth 100000 in
theorem fg {x:ah} {B:Nat} {q:PS} (hr:aq x B 47 (aW q)):(aE 47 ⟨B,0,none⟩).run aj x=.ok (bI q) x:=
 jF x B 0 _ (aW q) _ hr.range Tryz.underlying47 rfl (by kernel_rfl)
theorem se (x:ah) (q:PS):(aL 47 ⟨x.heap.size,0,none⟩ (bI q)).run aj (x.alloc (an #[af none 0 0,af none 0 0,ab ac 0,ab ac 0,ab ac 0,af none 0 0] 47))=.ok () (x.alloc (an (aW q).toArray 47)):=
 kQ x _ _ (aW q).toArray vm rfl (by kernel_rfl)
end
section
variable {F:Fence} {n:Nat} {P:Program}
end
end
section
theorem Hx {α:Type} {a b:List α} {k:Nat} {x y:α} (hx:a[k]? =some x) (hy:b[k]? =some y) (h:a.take k=b.take k) (e:x=y):a.take (k+1)=b.take (k+1):=by
 rw[jZ,jZ,hx,hy,h,e]
theorem Hy {α:Type} {a b:List α} {k:Nat} {x y:α} (hx:a[k]? =some x) (hy:b[k]? =some y) (e:x≠y):a≠b:=fun h=>by
 rw[h,hy]at hx;cases hx;exact e rfl
theorem Sl.cellB {w:ah} {a:Option aF} {n c:Nat} {xs:List Int} (h:Sl ay w (af a n c) xs):n=xs.length/\n<=aY/\(0<n->∃b o,a=some ⟨b,o,none⟩/\∀x:ah,ag w.heap.size w x->∀j,j<n->x.cell? ⟨b,o+j,none⟩=some (ab ay (xs[j]?.getD 0))):=by
 obtain⟨a',c',e,h1,h2,h3, -⟩:=h;cases e;refine⟨rfl,bm h1 h2,fun h0=> ?_⟩;rcases h3 with h3 | ⟨b,o,rfl,h4,h5⟩
 ·rw[h3]at h0;cases h0
 ·exact⟨b,o,rfl,fun x hx j hj=>(hx.cell (p:=⟨b,o+j,none⟩) h4).trans (h5 j hj)⟩
theorem Hz {w:ah} {u v:ak} {xs bs:List Int} (hu:Sl ay w u xs) (hv:Sl ay w v bs) (hle:xs.length<=1000000):
  ap aj 189 #[u,v] w fun e w'=>e=ao (.bool (decide (xs=bs)))/\ag w.heap.size w w':=by
 obtain⟨a,ca,rfl, -⟩:=(show Sl _ _ _ _ from hu);obtain⟨b,cb,rfl, -⟩:=(show Sl _ _ _ _ from hv);obtain⟨-,hm,hca⟩:=hu.cellB;obtain⟨-,hm2,hcb⟩:=hv.cellB;obtain⟨n,hn⟩:=w9nm xs.length;obtain⟨m,hmm⟩:=w9nm bs.length;rw[hn]at hm hca hle ⊢;rw[hmm]at hm2 hcb ⊢;have HCA:=ae hca;have HCB:=ae hcb;have HN:=ae hn;have HM:=ae hmm;clear hca hcb hu hv hn hmm;by_cases hl:n=m
 ·subst hl;have g0:((n:Int) !=(n:Int))=false:=by simp
  go_enter func189,ntmps189;go_wp2_with fail;go_loopw [13] (fun iv wr=>∃k:Nat,k<=n/\iv=ab ac (k:Int)/\Hid (xs.take k=bs.take k)/\w9h w wr) (fun iv _=>n - (aS iv).toNat)
  case atStart=>exact⟨0,bc _,rfl,by simp[Hid],aI _ _⟩
  case round=>
   obtain⟨k,hk,rfl,HP,HB⟩:=hrel;by_cases hlt:k<n
   ·have q1:(k:Int)< (n:Int):=by omega
    have HLT:=ae hlt;obtain⟨ba,oa,rfl,hC⟩:=HCA.out (by omega);obtain⟨bb,ob,rfl,hD⟩:=HCB.out (by omega);obtain⟨x,hx⟩:∃x,xs[k]? =some x:=⟨_,aZ (by rw[HN.out];exact hlt)⟩;obtain⟨y,hy⟩:∃y,bs[k]? =some y:=⟨_,aZ (by rw[HM.out];exact hlt)⟩;have c0:∀z:aM wr,z.1.cell? ⟨ba,oa+k,none⟩=some (ab ay x):=fun z=>by have:=hC z.1 (HB.out.trans (z.2.mono HB.out.size)) k hlt;rw[hx]at this;exact this
    have c1:∀z:aM wr,z.1.cell? ⟨bb,ob+k,none⟩=some (ab ay y):=fun z=>by have:=hD z.1 (HB.out.trans (z.2.mono HB.out.size)) k hlt;rw[hy]at this;exact this
    have HX:=ae hx;have HY:=ae hy;clear hx hy hC hD hlt;by_cases e:x=y
    ·have q2:(x != y)=false:=by simpa using e
     have HQ:Hid (xs.take (k+1)=bs.take (k+1)):=Hx HX.out HY.out HP.out e;clear e;go_wp2_with fail;refine ig (by kernel_rfl) (by kernel_rfl) ?_;repeat(go_big_quiet_step (fail))
     try(with_reducible refine aV ?_)
     intro z;have HZ:Hid (ag w.heap.size w z.1):=HB.out.trans (z.2.mono HB.out.size);clear c0 c1;go_wp2_with fail;exact⟨⟨k+1,HLT.out,by simp,HQ,HZ⟩,by have:=HLT.out;simp[aS];omega⟩
    ·have q2:(x != y)=true:=by simpa using e
     have HE:Hid (decide (xs=bs)=false):=by show _=_;rw[decide_eq_false_iff_not];exact Hy HX.out HY.out e
     clear e;go_wp2_with fail;refine ig (by kernel_rfl) (by kernel_rfl) ?_;repeat(go_big_quiet_step (fail))
     try(with_reducible refine aV ?_)
     intro z;have HZ:Hid (ag w.heap.size w z.1):=HB.out.trans (z.2.mono HB.out.size);clear c0 c1;go_wp2_with fail;go_ret;rw[HE.out];exact⟨rfl,HZ.out⟩
   ·obtain rfl:k=n:=by omega
    have HE:Hid (decide (xs=bs)=true):=by
     show _=_;rw[decide_eq_true_eq];have:=HP.out;rw[de (by rw[HN.out];exact aG _),de (by rw[HM.out];exact aG _)]at this;exact this
    clear hlt;go_wp2_with fail;go_ret;rw[HE.out];exact⟨rfl,HB.out⟩
 ·have g0:((n:Int) !=(m:Int))=true:=by simp;omega
  have HE:Hid (decide (xs=bs)=false):=by show _=_;rw[decide_eq_false_iff_not];intro h;rw[h,HM.out]at HN;exact hl HN.out.symm
  clear hl;go_enter func189,ntmps189;go_wp2_with fail;go_ret;rw[HE.out];exact⟨rfl,aI _ _⟩
attribute [-simp] isAgg90 zeroValue90 isAgg191 zeroValue191 isAgg47 zeroValue47
attribute [-go_sem] aE aL
attribute [local go_sem] iQ iR fB eJ en
end
section
def sf (h y:Int):Int:=IntKind.u64.wrap (bits BinOp.xor IntKind.u64 h y*1099511628211)
def jy (h:Int) (bs:List Int):Int:=bs.foldl sf h
def nG:Int:=14695981039346656037
def lP (h:Int):Prop:=0<=h/\h<18446744073709551616
theorem zq:lP nG:=by unfold lP nG;omega
theorem zr (x:Int):lP (IntKind.u64.wrap x):=by
 rw[IntKind.wrap_u64];unfold lP;omega
theorem Ia (h y:Int):lP (sf h y):=zr _
theorem Ib (h y:Int) (bs:List Int):jy h (y::bs)=jy (sf h y) bs:=rfl
theorem Ic (h:Int) (as0 bs:List Int):jy h (as0++bs)=jy (jy h as0) bs:=by simp[jy]
theorem Ie (h:Int) (as0:List Int) (y:Int):jy h (as0++ [y])=sf (jy h as0) y:=by rw[Ic];rfl
theorem If {h:Int} (bs:List Int) (hh:lP h):lP (jy h bs):=by
 induction bs generalizing h with
 | nil=>exact hh
 | cons y bs ih=>rw[Ib];exact ih (Ia h y)
theorem aP.snoc {bs:List Int} {y:Int} (h:aP bs) (hy:0<=y/\y<256):aP (bs++ [y]):=by
 intro j;by_cases hj:j<bs.length
 ·rw[fS hj];exact h j
 ·rw[fv (by omega)];rcases Nat.eq_zero_or_pos (j - bs.length)with e | e
  ·rw[e];simpa using hy
  ·rw[ej (by simp;omega)];simp
theorem zt {y:Int} (hy:0<=y/\y<256):aP [y]:=by
 have:=aP.snoc (bs:= []) (fun j=>by simp) hy
 simpa using this
structure Sct where
 mark:Int
 seq:Int
 index:Int
 body:List Int
structure Sct.Ok (p:Sct):Prop where
 mark:0<=p.mark/\p.mark<256
 seq:0<=p.seq/\p.seq<4294967296
 len:p.body.length=48
 bytes:aP p.body
def Sct.fits (p:Sct):Bool:=decide (p.mark≠0/\0<=p.index/\p.index<=65535)
def Sct.head (p:Sct):List Int:=p.mark::(aJ p.seq 4++(aJ p.index 2++p.body))
def sh (bs:List Int):Int:=jy nG bs
def Sct.bytes (p:Sct):List Int:=p.head++(aJ (sh p.head) 8++ [0])
def Sct.of (bs:List Int):Sct:=⟨bs[0]?.getD 0,bM ((bs.drop 1).take 4),bM ((bs.drop 5).take 2),(bs.drop 7).take 48⟩
def oY:Sct:=⟨0,0,0,bg 48 0⟩
theorem Ig (bs:List Int):0<=sh bs/\sh bs<18446744073709551616:=If bs zq
theorem aP.app {as0 bs:List Int} (ha:aP as0) (hb:aP bs):aP (as0++bs):=by
 intro j;by_cases hj:j<as0.length
 ·rw[fS hj];exact ha j
 ·rw[fv (by omega)];exact hb _
theorem aP.one {y:Int} {bs:List Int} (hy:0<=y/\y<256) (hb:aP bs):aP (y::bs):=by
 have:=aP.app (zt hy) hb
 simpa using this
theorem aP.cut {bs:List Int} (h:aP bs) (k n:Nat):aP ((bs.drop k).take n):=by
 intro j;rw[kx];split
 ·rw[lI];exact h _
 ·simp
theorem Sct.head_length {p:Sct} (h:p.Ok):p.head.length=55:=by simp[Sct.head,cu,h.len]
theorem Sct.bytes_length {p:Sct} (h:p.Ok):p.bytes.length=64:=by simp[Sct.bytes,Sct.head_length h,cu]
theorem Sct.head_bytes {p:Sct} (h:p.Ok):aP p.head:=aP.one h.mark ((gL _ _).app ((gL _ _).app h.bytes))
theorem Sct.bytes_bytes {p:Sct} (h:p.Ok):aP p.bytes:=(Sct.head_bytes h).app ((gL _ _).app (zt (by omega)))
theorem zu {bs:List Int} (h:0<bs.length):bs.take 1= [bs[0]?.getD 0]:=by
 cases bs with
 | nil=>simp at h
 | cons x l=>simp
theorem mU {bs:List Int} (hb:aP bs) (h:bs.length=64):(Sct.of bs).Ok:=by
 refine⟨hb 0, ?_,by simp[Sct.of,h],hb.cut 7 48⟩;have hl:((bs.drop 1).take 4).length=4:=by simp[h]
 have hn:ey (((bs.drop 1).take 4).length:Int)=4:=by rw[hl];rfl
 have:=oy _ (hb.cut 1 4) 4;show 0<=bM _/\bM _<_;unfold bM;rw[hn]
 simpa using this
theorem zv {bs:List Int} (hb:aP bs) (h:bs.length=64):0<=(Sct.of bs).index/\(Sct.of bs).index<=65535:=by
 have hl:((bs.drop 5).take 2).length=2:=by simp[h]
 have hn:ey (((bs.drop 5).take 2).length:Int)=2:=by rw[hl];rfl
 have:=oy _ (hb.cut 5 2) 2;show 0<=bM _/\bM _<=_;unfold bM;rw[hn];have h2:(2:Int)^(8*2)=65536:=rfl;rw[h2]at this;exact⟨this.1,by omega⟩
theorem Ih {p:Sct} (h:p.Ok) (hi:0<=p.index/\p.index<=65535):Sct.of p.bytes=p:=by
 have hl:=Sct.head_length h;have e0:p.bytes[0]?.getD 0=p.mark:=rfl;have e1:(p.bytes.drop 1).take 4=aJ p.seq 4:=by
  unfold Sct.bytes Sct.head;simp[cu]
 have e2:(p.bytes.drop 5).take 2=aJ p.index 2:=by
  unfold Sct.bytes Sct.head;rw[cC,bR,kb,List.drop_append,cu,List.drop_of_length_le (by rw[cu];exact aG _),cy,Nat.sub_self,bQ,kb,List.take_append_of_le_length (by rw[cu];exact aG _),de (by rw[cu];exact aG _)]
 have e3:(p.bytes.drop 7).take 48=p.body:=by
  unfold Sct.bytes Sct.head;rw[cC,bR,kb,kb,List.drop_append,cu,List.drop_of_length_le (by rw[cu];omega),cy,List.drop_append,cu,List.drop_of_length_le (by rw[cu];exact aG _),cy,bQ,List.take_append_of_le_length (by rw[h.len];exact aG _),de (by rw[h.len];exact aG _)]
 unfold Sct.of;rw[e0,e1,e2,e3,pL _ h.seq.1 (by have:=h.seq.2;omega),pL _ hi.1 (by omega),if_pos (by omega),if_pos (by omega)];have h4:p.seq%2^(8*4)=p.seq:=Int.emod_eq_of_lt h.seq.1 h.seq.2;have h2:p.index%2^(8*2)=p.index:=Int.emod_eq_of_lt hi.1 (by have:=hi.2;simp only[Nat.reduceMul,Int.reducePow];omega);rw[h4,h2]
def aw (bs:List Int):List ak:=bs.map (Value.int ay)
def Sct.cells (p:Sct):List ak:=ab ay p.mark:: ab aO p.seq:: ab ac p.index::aw p.body
theorem cw (bs:List Int):(aw bs).length=bs.length:=by simp[aw]
theorem mV (bs:List Int):∀v ∈ aw bs,v.oneCell'=true:=by
 intro v hv;obtain⟨x,_,rfl⟩:=cM.1 hv
 rfl
theorem gQ {bs:List Int} (h:bs.length=64):cz (aw bs):=⟨bs,h,rfl⟩
theorem Sct.cells_length {p:Sct} (h:p.body.length=48):p.cells.length=51:=by simp[Sct.cells,aw,h]
theorem Sct.cells_one (p:Sct):∀v ∈ p.cells,v.oneCell'=true:=by
 intro v hv;simp only[Sct.cells,dy]at hv;rcases hv with rfl | rfl | rfl | hv
 ·rfl
 ·rfl
 ·rfl
 ·exact mV _ v hv
theorem kD {W:ah} {B:Nat} {a:Array ak} {t:aR} (h:W.heap[B]? =some (an a t (0,0))) (o n:Nat) (hn:o+n<=a.size):W.there B o n:=fun j hj=>by
 refine⟨?_,by simp[World.frozen?,h]⟩;rw[dq _ _ _ _ _ _ h,Array.getElem?_eq_getElem (by omega)]
 rfl
theorem oZ {W:ah} {B:Nat} {a b:List ak} {t:aR} (h:W.heap[B]? =some (an (a++b).toArray t (0,0))):W.rangeAt B a.length b:=fun j x hx=>by
 rw[dq _ _ _ _ _ _ h];simp[fv,hx]
theorem si {W:ah} {B o:Nat} {bs:List Int} (h:W.rangeAt B o (aw bs)) (hB:B<W.heap.size) (hm:bs.length<=aY):Sl ay W (af (some ⟨B,o,none⟩) bs.length bs.length) bs:=
 Sl.at (aG _) hm hB fun j hj=>by
  rw[h j (ab ay bs[j]) (by simp[aw,hj])];simp[hj]
set_option maxRecDepth 100000 in
theorem qe {w:ah} {B o dLen dCap:Nat} {v:ak} {bs:List Int} (ty:aR) (hv:Sl ay w v bs) (hd:bs.length<=dLen) (ht:w.there B o bs.length):
  (Builtin.copy_ #[76, 76] ty #[af (some ⟨B,o,none⟩) dLen dCap,v]).run aj w=.ok (goInt bs.length) (w.setCells B o (aw bs)):=by
 obtain⟨a,cap,rfl,h1,h2,h3,h4⟩:=hv;rcases h3 with rfl | ⟨b,off,rfl,h5,h6⟩
 ·exact run_copy_none w _ _ ty 5 _ _ _ _ _ _ Tryz.underlying76 rA (by simp)
 ·have:=run_copy_cells (P:=aj) w 76 76 ty 5 B o dLen dCap ⟨b,off,none⟩ bs.length cap (aw bs) Tryz.underlying76 rA (by rw[cw];exact(lJ hd).symm)
   (fun j v hj=>by
    have hjl:j<bs.length:=by have:=(bZ.1 hj).1;rwa [cw]at this
    rw[show(⟨b,off,none⟩:aF).add j=⟨b,off+j,none⟩ by unfold Addr.add;split<;>simp_all,h6 j hjl];simp[aw,hjl]at hj ⊢;exact hj)
   (fun j hj=>(ht j (by rwa [cw]at hj)).1) (fun j hj=>(ht j (by rwa [cw]at hj)).2) (mV bs)
  rwa [cw]at this
theorem kn {N b:Nat} (h:N<=b):∀(vs:List ak) (o:Nat) (w:ah),ag N w (w.setCells b o vs)
 | [],_,w=>aI N w
 | v::vs,o,w=>((aI N w).setCell (p:=⟨b,o,none⟩) h v).trans (kn h vs (o+1) _)
theorem vo {w x:ah} {B:Nat} {u:List ak} {z:Array ak} (hw:x.heap[B]? =some (an z 51 (0,0))) (hz:z.size=64) (hB:w.heap.size<=B) (hb:ag w.heap.size w x) (hu:cz u):
  ∃x',(aL 51 ⟨B,0,none⟩ (al u.toArray)).run aj x=.ok () x'/\(aE 51 ⟨B,0,none⟩).run aj x'=.ok (al u.toArray) x'/\ag w.heap.size w x':=by
 have ht:x.there B 0 64:=kD hw 0 64 (by rw[hz];exact aG _);have hs:=pN ht hu;exact⟨_,hs,gl (kz x _ 0 u (by rw[hu.length];exact ht)) hu.length,hb.trans (kn hB _ _ _)⟩
def fM (W x:ah) (v:ak) (bs:List Int):Prop:=x.ownsRow W.heap.size 5 1 v bs.length (aw bs)
theorem fM.below {W x x':ah} {v:ak} {bs:List Int} (h:fM W x v bs) (hb:ag x.heap.size x x'):fM W x' v bs:=by
 refine⟨h.1, ?_⟩;rcases h.2 with h' | ⟨g,cap,cur,rfl,a1,a2,a3⟩
 ·exact aA h'
 ·exact aD ⟨g,cap,cur,rfl,a1,(hb.block g (bL.1 a2).1).trans a2,a3⟩
theorem fM.sl {W x:ah} {v:ak} {bs:List Int} (h:fM W x v bs):Sl ay x v bs:=Sl.of_owns h
theorem fM.app {W x:ah} {v u:ak} {xs bs:List Int} (h:fM W x v xs) (hb:ag W.heap.size W x) (hu:Sl ay x u bs) (hl:xs.length+bs.length<=1000000):
  ∃v' x',Hid ((Builtin.append_ #[76, 76] 76 #[v,u]).run aj x=.ok v' x')/\Hid (fM W x' v' (xs++bs))/\Hid (ag W.heap.size W x'):=by
 obtain⟨v',x',r1,r2,r3⟩:=rC W.heap.size x v xs h u bs hu (by omega) hb.size;exact⟨v',x',r1,r2,hb.grown r3 hb.size (fun k e=>(h.lt k e).1)⟩
theorem sj {W:ah} {B:Nat} {a c:List ak} (h1:W.rangeAt B 0 a) (h2:W.rangeAt B a.length c):W.rangeAt B 0 (a++c):=fun j x hx=>by
 by_cases hj:j<a.length
 ·rw[fS hj]at hx;exact h1 j x hx
 ·rw[fv (by omega)]at hx;have:=h2 (j - a.length) x hx
  rwa [show a.length+(j - a.length)=0+j by omega]at this
theorem Ii {N:Nat} {x y:ah} {B o n:Nat} (hb:ag N x y) (hB:B<N) (h:x.there B o n):y.there B o n:=fun j hj=>by
 have e:=hb.block B hB;refine⟨?_, ?_⟩
 ·rw[hb.cell (p:=⟨B,o+j,none⟩) hB];exact(h j hj).1
 ·rw[World.frozen?_of_block (a:=⟨B,o+j,none⟩) e];exact(h j hj).2
theorem mA {N:Nat} {x y:ah} {B o:Nat} {c:List ak} (hb:ag N x y) (hB:B<N) (h:x.rangeAt B o c):y.rangeAt B o c:=fun j v hv=>by
 rw[hb.cell (p:=⟨B,o+j,none⟩) hB];exact h j v hv
def cnt (n:Int):Int:=if n<1 then 0 else(n - 1) / 48+1
theorem zw (n:Nat):cnt n=((n+47) / 48:Nat):=by
 unfold cnt;split<;>omega
theorem Ij (n:Int) (w:ah) (h0: -9223372036854775808<=n) (h1:n<9223372036854775808):
  ap aj 77 #[ab ac n] w fun e w'=>e=ao (ab ac (cnt n))/\w'=w:=by
 by_cases hn:n<1
 ·have hc:cnt n=0:=if_pos hn;rw[hc];go_enter func77,ntmps77;go_wp2_with fail;all_goals(go_ret;exact⟨rfl,rfl⟩)
 ·have hc:cnt n=(n - 1) / 48+1:=if_neg hn;have hq:Int.tdiv (n - 1) 48=(n - 1) / 48:=Int.tdiv_eq_ediv_of_nonneg (by omega);rw[hc];go_enter func77,ntmps77;go_wp2_with fail;all_goals(go_ret;exact⟨rfl,rfl⟩)
structure Geo where
 b:Int
 s:Int
 y:Int
 a:Int
 r:Int
def Geo.v (g:Geo):Array ak:=#[ab ac g.b,ab ac g.s,ab ac g.y,ab ac g.a,ab ac g.r]
def Geo.shape (g:Geo):Prop:=1<=g.b/\g.b<=64/\1<=g.s/\g.s<=8/\1<=g.y/\g.y<=4/\0<=g.a/\g.a<=200
def Geo.slots (g:Geo):Int:=g.s*g.y
def Geo.bts (g:Geo):Int:=10+g.s*g.y+g.b+8*(4+(g.b+7) / 8+g.b)
def Geo.pgs (g:Geo):Int:=cnt g.bts
def Geo.good (g:Geo):Prop:=g.shape/\g.pgs+2<=g.r/\g.r<=256
instance (g:Geo):Decidable g.shape:=by unfold Geo.shape;infer_instance
instance (g:Geo):Decidable g.good:=by unfold Geo.good;infer_instance
def Geo.oB (g:Geo):Int:=if g.good then g.bts else 0
def Geo.oP (g:Geo):Int:=if g.good then g.pgs else 0
def Geo.oR (g:Geo):Int:=if g.good then 2 else 0
def Geo.oH (g:Geo):Int:=if g.good then 2+g.r else 0
def Geo.oS (g:Geo) (i:Int):Int:=if g.good/\0<=i/\i<g.slots then 2+g.r+g.pgs+i else 0
def Geo.oA (g:Geo) (i:Int):Int:=if g.good/\0<=i/\i<g.a then g.b+i else 0
def Geo.oF (g:Geo):Int:=if g.good then 2+g.r+g.pgs+g.slots else 0
def Geo.oW (g:Geo):Int:=if g.good then g.b+g.a else 0
theorem Geo.bounds {g:Geo} (h:g.shape):1<=g.slots/\g.slots<=32/\52<=g.bts/\g.bts<=714/\2<=g.pgs/\g.pgs<=15:=by
 obtain⟨h1,h2,h3,h4,h5,h6,h7,h8⟩:=h;have m1:1<=g.s*g.y:=by have:=Int.mul_le_mul h3 h5 (by omega) (by omega);simpa using this
 have m2:g.s*g.y<=32:=by have:=Int.mul_le_mul h4 h6 (by omega) (by omega);simpa using this
 have b1:52<=g.bts:=by unfold Geo.bts;omega
 have b2:g.bts<=714:=by unfold Geo.bts;omega
 refine⟨m1,m2,b1,b2, ?_, ?_⟩<;>(unfold Geo.pgs cnt;rw[if_neg (by omega)];omega)
theorem Ik (w:ah) (v:Array ak) (t:aR) {x:ah} (hx:ag (w.alloc (an v t)).heap.size (w.alloc (an v t)) x) (j:Nat):x.cell? ⟨w.heap.size,j,none⟩=v[j]? :=
 dq x _ j _ _ _ ((hx.block _ (by simp)).trans (cD w _))
theorem Il (x:ah) (o:Obj):ag x.heap.size x (x.alloc o):=(aI _ x).alloc (aG _) _
section
theorem Im (g:Geo) (w:ah):ap aj 111 #[al g.v] w fun e w'=>e=ao (.bool (decide g.shape))/\ag w.heap.size w w':=by
 have hB:=Il w (an g.v 23);have hc:=Ik w g.v 23 (aI _ _);have HS:Hid (decide g.shape=decide (1<=g.b/\g.b<=64/\1<=g.s/\g.s<=8/\1<=g.y/\g.y<=4/\0<=g.a/\g.a<=200)):=rfl;obtain⟨W,hW⟩:=w9nm (w.alloc (an g.v 23));rw[hW]at hB hc;have c0:=hc 0;have c1:=hc 1;have c2:=hc 2;have c3:=hc 3;have HB:=ae hB;clear hc hB;obtain⟨b,s,y,a,r⟩:=g;simp only[Geo.v]at c0 c1 c2 c3 hW ⊢;simp only[List.getElem?_toArray,List.getElem?_cons_zero,List.getElem?_cons_succ]at c0 c1 c2 c3;go_enter func111,ntmps111;go_wp2_with fail;all_goals
  go_ret;refine⟨congrArg (fun x=>Ending.returned (Value.bool x)) ?_,HB.out⟩;rw[HS.out];first
   | exact(decide_eq_false (by omega)).symm
   | exact(decide_eq_true (by omega)).symm
   | (rw[decide_eq_decide];omega)
end
end
section
attribute [local go_sem] Oper.semAt_some
def iz (m k:Nat):List (Fin m):=(iH m).take k
theorem mB (m k:Nat) (h:k<m):iz m (k+1)=iz m k++ [⟨k,h⟩]:=by
 unfold iz;rw[List.take_succ_eq_append_getElem (by simpa using h)];simp
theorem sk (m k:Nat) (h:k<=m):(iz m k).length=k:=by simp[iz,h]
theorem qf (m:Nat):iz m m=iH m:=by
 unfold iz;rw[de (by simp)]
def qg {m:Nat} (x:Fin m):Array ak:=#[ab ac (x.1:Int),ab .u64 (8*(x.1:Int))]
theorem zx (F:Fence) (n:Nat) (hf:F.fn 248) (hro:F.round=none) (size:Int) (w:ah):
  CallsIn F n aj 248 #[ab ac size] w fun e w'=>e=ao (.func (.func 285) #[] #[am (some ⟨w.heap.size,0,none⟩)])/\w'=w.alloc (an #[ab ac size] 3):=by
 refine callsIn_of_wp func248 rfl hf ?_ hro;simp only[ntmps248,cJ,bz,cx,Nat.reduceAdd,Nat.reduceSub,cO,cP,cQ,cR,cy,cC]
 gi_wp2
 go_ret;exact⟨rfl,rfl⟩
theorem Io (F:Fence) (n:Nat) (hf:F.fn 285) (hro:F.round=none) (hn:1<=n) (l Bs m:Nat) (size:Int) (hm:(size<=8/\m=size.toNat)\/(8<size/\m=8)) (J Jx:List (Fin m)->ah->Prop)
  (hY:∀pre x W,J pre W->pre.length<m->YieldAt F (n - 1) aj l (qg x) W fun e W'=>
   (e=ao (.bool true)/\J (pre++ [x]) W'/\True)\/(e=ao (.bool false)/\Jx (pre++ [x]) W'))
  (W:ah) (hBs:W.cell? ⟨Bs,0,none⟩=some (ab ac size)) (h0:J [] W):
  CallsIn F n aj 285 #[.func (.yield l) #[] #[],am (some ⟨Bs,0,none⟩)] W fun e W'=>(∃v,e=ao v)/\
   ((∃ys,ys=iH m/\J ys W')\/(∃pre,(∃k,k<=m/\pre=iz m k)/\Jx pre W')):=by
 refine callsIn_of_wp func285 rfl hf ?_ hro;simp only[ntmps285,cJ,bz,cx,Nat.reduceAdd,Nat.reduceSub,cO,cP,cQ,cR,cy,cC]
 gi_wp2
 all_goals
  gi_loopw [6] (fun i wr=>∃k:Nat,k<=m/\i=ab ac k/\J (iz m k) wr) (fun i _=>m - (aS i).toNat)
  case atStart=>exact⟨0,bc _,rfl,h0⟩
  case round=>
   obtain⟨k,hk,rfl,hJs⟩:=hrel;by_cases hlt:k<m
   ·obtain⟨fn,tmps,assign,body,hy,hR⟩:=hY _ ⟨k,hlt⟩ wr hJs (by rw[sk m k hk];exact hlt)
    dsimp only[qg]at hy
    have hb1:(k:Int)<size:=by omega
    have hb2:(k:Int)<8:=by omega
    gi_wp2
    refine hR.mono ?_;rintro e W3 (⟨rfl,hJ3,hk3⟩ | ⟨rfl,hJx3⟩)
    ·gi_wp2
     go_roundw
     case rel=>exact⟨k+1,by omega,by simp,by rw[mB m k hlt];exact hJ3⟩
     case measure=>simp[aS];omega
    ·gi_wp2
     refine bo (results_none rfl _ _ _) rfl ?_;exact⟨⟨_,rfl⟩,aD ⟨_,⟨k+1,by omega,(mB m k hlt).symm⟩,hJx3⟩⟩
   ·obtain rfl:k=m:=by omega
    gi_wp2
    go_end0
    exact⟨⟨_,rfl⟩,aA ⟨_,rfl,by rw[←qf];exact hJs⟩⟩
def sm (_ _:ah):Prop:=True
theorem zy (F:Fence) (n:Nat) (hf:F.fn 285) (hro:F.round=none) (hn:1<=n) (Bs:Nat) (size:Int) (w:ah) (hBs:Bs<w.heap.size)
  (hc:w.cell? ⟨Bs,0,none⟩=some (ab ac size)):
  SeqStopsK F n aj 285 #[am (some ⟨Bs,0,none⟩)] (qg (m:=ey size)) sm (fun ys=>ys=iH (ey size)) (fun _=>True) (ey size) w:=fun l J Jx W hW _ _ hY h0=>
 (Io F n hf hro hn l Bs (ey size) size (Fn size) J Jx
  (fun pre x W hJ hl=>(hY pre x W hJ hl).mono fun e W' h=>h.imp (fun⟨a,b,_⟩=>⟨a,b,trivial⟩) id)
  W ((hW.cell (p:=⟨Bs,0,none⟩) hBs).trans hc) h0).mono fun e W' ⟨he,h⟩=>⟨he,h.imp id fun⟨pre,_,hj⟩=>⟨pre,trivial,hj⟩⟩
theorem zz {A B C:ah} (_:sm A B) (_:sm B C):sm A C:=trivial
theorem Ip (a:Option aF) (len cap:Nat) (bs:List Int) (hlen:bs.length=len) (hcap:len<=9223372036854775807) (w:ah)
  (hA:len=0\/∃b off,a=some ⟨b,off,none⟩/\b<w.heap.size/\∀j,j<len->w.cell? ⟨b,off+j,none⟩=some (ab ay (bs[j]?.getD 0))) (hr:aP bs):
  ap aj 301 #[af a len cap] w fun e w'=>e=ao (ab .u64 (bM bs))/\ag w.heap.size w w':=by
 refine(callsIn_wide (n:=3)).1 ?_;refine gA func301 rfl trivial ?_ rfl;simp only[ntmps301,cJ,bz,cx,Nat.reduceAdd,Nat.reduceSub,cO,cP,cQ,cR,cy,cC];have hr:=ae hr;have hA:=ae hA
 gi_wp2_with (refine⟨trivial, ?_⟩;gi_at_call 248;refine(zx _ _ trivial rfl _ _).mono ?_;rintro e w' ⟨rfl,rfl⟩)
 have bB:=dD w 76 (af a len cap);have bN:=dD (w.alloc (an #[af a len cap] 76)) 267 (ab .u64 0);rw[bO]at bN;have bP:=dD ((w.alloc (an #[af a len cap] 76)).alloc (an #[ab .u64 0] 267)) 3 (ab ac (len:Int));rw[bO,bO]at bP;have hB0:ag w.heap.size w (((w.alloc (an #[af a len cap] 76)).alloc (an #[ab .u64 0] 267)).alloc (an #[ab ac (len:Int)] 3)):=(((aI _ w).alloc (aG _) _).alloc (by simp) _).alloc (by simp;omega) _;refine wpIn_rangeFunc_ownF (n:=3) rfl (by omega) (gf:= 285) (lb:=#[am (some ⟨w.heap.size+1+1,0,none⟩)]) rfl trivial (enters_of func285 (by kernel_rfl) rfl)
  (zy Fence.wide 2 trivial rfl (by omega) (w.heap.size+1+1) (len:Int) _ (by simp) bP.cell) zz (fun _ _ _ _ _ _ _ _=>trivial) (aI _ _) (fun _=>rfl)
  (fun pre W=>(∃v:Int,Boxed W (w.heap.size+1) 267 (ab .u64 v)/\0<=v/\v<18446744073709551616/\(pre<+:iH (ey (len:Int))->v=ju bs pre.length))/\Boxed W w.heap.size 76 (af a len cap)/\ag w.heap.size w W)
  (fun _ _ _=>False)
  ?hI (fun _ _ _ _ _ h _ _=>h.elim) ?h0 ?a1 ?assign ?body ?done ?stop
 case hI=>
  intro s W W' row ⟨⟨v,hv,h1,h2,h3⟩,hb,hB⟩ hg hrow;have hr':∀r,row=some r->∃o:Obj,W.heap[r]? =some o/\o.isCells=false:=fun r e=>(hrow r e).2;exact⟨⟨v,boxed_own _ _ (fun _:Unit=>_) () W W' row hv hg hr',h1,h2,h3⟩,boxed_own _ _ (fun _:Unit=>_) () W W' row hb hg hr',ownFrom_below (β:=Unit) (aG _) (by simp;omega) () W W' row hB hg hrow⟩
 case h0=>exact⟨⟨0,bN.alloc _,by omega,by omega,fun _=>rfl⟩,(bB.alloc _).alloc _,hB0⟩
 case assign=>
  intro l x W K hK
  dsimp only[qg]
  gi_wp2
  exact hK
 case body=>
  rintro l pre x W ⟨⟨v,hv,hv0,hv1,hvp⟩,hbx,hB⟩ hlen;have c1:=hv.cell;have f1:=hv.frozen;have hx:x.1<len:=by have:=x.2;unfold ey at this;split at this<;>omega
  have hx8:x.1<8:=by have:=x.2;have:=uB (len:Int);omega
  obtain⟨b,off,rfl,hb,hc⟩:∃b off,a=some ⟨b,off,none⟩/\b<w.heap.size/\∀j,j<len->w.cell? ⟨b,off+j,none⟩=some (ab ay (bs[j]?.getD 0)):=by
   rcases hA.out with h | h
   ·omega
   ·exact h
  have c2:=hbx.cell;have c3:W.cell? ⟨b,off+x.1,none⟩=some (ab ay (bs[x.1]?.getD 0)):=(hB.cell (p:=⟨b,off+x.1,none⟩) hb).trans (hc x.1 hx);have hx':((x.1:Nat):Int)< (len:Int):=by omega
  obtain⟨hr1,hr2⟩:=hr.out x.1;obtain⟨y,hy⟩:=w9nm (bs[x.1]?.getD 0);rw[hy]at c3 hr1 hr2;have HP:=ae hvp;have HY:=ae hy;clear hc hvp hy;have hmx:=w9x
  gi_wp2
  refine Gd 9 (iL rx) (by kernel_rfl) (by kernel_rfl) (by kernel_rfl) ?_;simp only[List.take_succ_cons,List.take_zero,bR,bQ];repeat still_step
  try refine wpStill_nil ?_
  go_wp2;have bd:=Fk v y x.1 hx8 hv0 hv1 hr1 hr2;refine⟨(iK _ _ _).trans (KeepsOthers.drew _),trivial,⟨np v y x.1,hv.set _,bd.1,bd.2,fun hp=> ?_⟩,hbx.other (by omega) _,(hB.setCell (p:=⟨w.heap.size+1,0,none⟩) (by simp) _).drew⟩;obtain⟨hp1,hp2⟩:=Fo hp;rw[HP.out hp1,←HY.out,hp2];rw[hp2]at hx8;rw[Fm bs hr.out pre.length hx8];simp
 case done=>
  rintro D xs W hD rfl ⟨⟨v,hv,_,_,hvp⟩,hbx,hB⟩ hK;have c1:=hv.cell;have e:=hvp (List.prefix_refl _);have He:=ae e;clear e hvp
  gi_wp2
  refine⟨by simp,aA ⟨_,_,rfl,eU hK, ?_⟩⟩;refine⟨_,results_tmp rfl _ _ _, ?_,hB.trans (belowK_b (w:=w) (aG _) W D _ _ (by simp at hD;omega) hK rfl rfl)⟩;rw[He.out];simp[bM,hlen]
 case stop=>
  rintro D c pre W _ _ h _;exact h.elim
set_option maxRecDepth 100000 in
theorem nI (n:Int) (size:Nat) (w:ah) (hs1:1<=size) (hs2:size<=16) (hn0:0<=n) (hn1:n<18446744073709551616):
  ap aj 174 #[ab .u64 n,ab ac (size:Int)] w fun e w'=>∃v,e=ao v/\w'.ownsRow w.heap.size 5 1 v size ((aJ n size).map (Value.int ay))/\ag w.heap.size w w':=by
 refine(callsIn_wide (n:=3)).1 ?_;refine gA func174 rfl trivial ?_ rfl;simp only[ntmps174,cJ,bz,cx,Nat.reduceAdd,Nat.reduceSub,cO,cP,cQ,cR,cy,cC];obtain⟨i0,hi,hz0,hz1,hz2⟩:=fy nu;have g1:¬((size:Int)<1):=by omega
 have g2:¬(16< (size:Int)):=by omega
 have g3:decide ((size:Int)<1)=false:=by simpa using g1
 have g4:decide (16< (size:Int))=false:=by simpa using g2
 gi_wp2_with (first | (gi_at_make;refine Ge _ rfl _ _ 76 rfl w.heap.size 5 i0 (ab ay 0) 1 Tryz.underlying76 hi hz0 hz1 ac ac _ _ size rfl rfl rfl rfl (by rw[hz2];omega) (by unfold aY;omega) (by simp) ?_;intro w1 hown1 hgrow1) | (refine⟨trivial, ?_⟩;gi_at_call 248;refine(zx _ _ trivial rfl _ _).mono ?_;rintro e w' ⟨rfl,rfl⟩))
 have hz:=hown1.lt _ rfl;have hown2:w1.ownsRow w.heap.size 5 1 (af (some ⟨w.heap.size+1,0,none⟩) size size) size (kS n size (m:=ey (size:Int)) []):=by
  rw[Fp];rw[show(Value.int IntKind.u8 0).cells=#[ab ay 0]from rfl,toList_madeCells_one,Nat.mul_one,bO]at hown1;exact hown1
 rw[bO]at hz;have bN1:Boxed w1 w.heap.size 267 (ab .u64 n):=(dD w 267 (ab .u64 n)).kept hgrow1 (by simp);have bS:=dD w1 76 (af (some ⟨w.heap.size+1,0,none⟩) size size);have bP:=dD (w1.alloc (an #[af (some ⟨w.heap.size+1,0,none⟩) size size] 76)) 3 (ab ac (size:Int));rw[bO]at bP;have hB1:w9b w w1:=((aI _ w).alloc (aG _) _).grown hgrow1 (by simp) (fun k e=>by cases e);have hB0:ag w.heap.size w ((w1.alloc (an #[af (some ⟨w.heap.size+1,0,none⟩) size size] 76)).alloc (an #[ab ac (size:Int)] 3)):=(hB1.alloc hB1.size _).alloc (by have:=hB1.size;simp;omega) _;clear hown1 hgrow1 g3 g4;refine wpIn_rangeFunc_ownF (n:=3) rfl (by omega) (gf:= 285) (lb:=#[am (some ⟨w1.heap.size+1,0,none⟩)]) rfl trivial (enters_of func285 (by kernel_rfl) rfl)
  (zy Fence.wide 2 trivial rfl (by omega) (w1.heap.size+1) (size:Int) _ (by simp) bP.cell) zz (fun _ _ _ _ _ _ _ _=>trivial) (aI _ _) (fun _=>rfl)
  (fun pre W=>(W.ownsRow w.heap.size 5 1 (af (some ⟨w.heap.size+1,0,none⟩) size size) size (kS n size pre)/\Boxed W w.heap.size 267 (ab .u64 n)/\Boxed W w1.heap.size 76 (af (some ⟨w.heap.size+1,0,none⟩) size size))/\ag w.heap.size w W)
  (fun _ _ _=>False)
  (OwnFrom.and (OwnFrom.and ((uN _ _ _ _ (fun _=>size) (fun pre=>kS n size pre)).from _) (OwnFrom.and ((boxed_own _ _ (fun _=>_)).from _) ((boxed_own _ _ (fun _=>_)).from _))) (ownFrom_below (aG _) (by have:=hB1.size;simp;omega)))
  (fun _ _ _ _ _ h _ _=>h.elim) ?h0 ?a1 ?assign ?body ?done ?stop
 case h0=>exact⟨⟨(hown2.alloc _).alloc _,(bN1.alloc _).alloc _,bS.alloc _⟩,hB0⟩
 case assign=>
  intro l x W K hK
  dsimp only[qg]
  gi_wp2
  exact hK
 case body=>
  rintro l pre x W ⟨⟨hrow,hbn,hbs⟩,hB⟩ hlen;have c1:=hbn.cell;have c2:=hbs.cell;have hx:x.1<size:=by have:=x.2;unfold ey at this;split at this<;>omega
  have hx8:x.1<8:=by have:=x.2;have:=uB (size:Int);omega
  have hx':((x.1:Nat):Int)< (size:Int):=by omega
  obtain⟨z,c3⟩:∃z,W.cell? ⟨w.heap.size+1,x.1,none⟩=some (ab ay z):=by
   rw[hrow.cellAt x.1 (by omega)];unfold kS;simp[hx]
  have f3:=hrow.frozenAt x.1
  gi_wp2
  have hst:=hrow.stored x.1 (ab ay (n / 2^(8*x.1)%256));refine⟨iK _ _ _,trivial,⟨?_,hbn.kept hst.2 (by simp),hbs.kept hst.2 (by have:=hz.2;simp;omega)⟩,hB.setCell (p:=⟨w.heap.size+1,x.1,none⟩) (by simp) _⟩;rw[Fq];exact hst.1
 case done=>
  rintro D xs W hD rfl ⟨⟨hrow,hbn,hbs⟩,hB⟩ hK;have c2:=hbs.cell;rw[Fr]at hrow
  gi_wp2
  refine⟨by simp,aA ⟨_,_,rfl,eU hK, ?_⟩⟩;refine⟨_,results_tmp rfl _ _ _,_,rfl,ownsRow_putObj hrow _ hK rfl,hB.trans (belowK_b (w:=w) (aG _) W D _ _ (by have:=hB1.size;simp at hD;omega) hK rfl rfl)⟩
 case stop=>
  rintro D c pre W _ _ h _;exact h.elim
theorem Iq {pre bs:List Int} {x:Int} (hr:aP bs) (h:pre++ [x]<+:bs):0<=x/\x<256:=by
 obtain⟨t,rfl⟩:=h
 simpa using hr pre.length
theorem Ir (h:Int) (hh:lP h) (a:Option aF) (len cap:Nat) (bs:List Int) (hlen:bs.length=len) (hmax:len<=aY) (hr:aP bs) (w:ah)
  (hA:len=0\/∃b off,a=some ⟨b,off,none⟩/\b<w.heap.size/\∀j,j<len->w.cell? ⟨b,off+j,none⟩=some (ab ay (bs[j]?.getD 0))):
  ap aj 302 #[ab .u64 h,af a len cap] w fun e w'=>e=ao (ab .u64 (jy h bs))/\ag w.heap.size w w':=by
 refine(callsIn_wide (n:=3)).1 ?_;refine gA func302 rfl trivial ?_ rfl;simp only[ntmps302,cJ,bz,cx,Nat.reduceAdd,Nat.reduceSub,cO,cP,cQ,cR,cy,cC];have HA:=ae hA;have HM:=ae hmax;have HR:=ae hr;have HH:=ae hh;have HL:=ae hlen;clear hA hmax hr hh hlen
 gi_wp2_with (refine⟨trivial, ?_⟩;gi_at_call 315;refine(GX _ _ trivial rfl _ _ _ _).mono ?_;rintro e w' ⟨rfl,rfl⟩)
 have bH:=dD w 267 (ab .u64 h);have bV:=dD (w.alloc (an #[ab .u64 h] 267)) 76 (af a len cap);rw[bO]at bV;have hB0:ag w.heap.size w ((w.alloc (an #[ab .u64 h] 267)).alloc (an #[af a len cap] 76)):=((aI _ w).alloc (aG _) _).alloc (by simp) _;refine wpIn_rangeFunc_ownF (n:=3) rfl (by omega) (gf:= 324) (lb:=#[am (some ⟨w.heap.size+1,0,none⟩)]) rfl trivial (enters_of func324 (by kernel_rfl) rfl)
  (GY Fence.wide 2 trivial rfl (by omega) (w.heap.size+1) w.heap.size len cap a bs HL.out HM.out _ (by simp) (by simp;omega) bV.cell
   (HA.out.imp id fun⟨b,off,e,h1,h2⟩=>⟨b,off,e,h1,fun j hj=>(hB0.cell (p:=⟨b,off+j,none⟩) h1).trans (h2 j hj)⟩)) belowK_t (belowK_b (by simp;omega)) (aI _ _) (fun _=>rfl)
  (fun pre W=>(∃v:Int,Boxed W w.heap.size 267 (ab .u64 v)/\lP v/\(pre<+:bs->v=jy h pre))/\ag w.heap.size w W)
  (fun _ _ _=>False)
  ?hI (fun _ _ _ _ _ h _ _=>h.elim) ?h0 ?a1 ?assign ?body ?done ?stop
 case hI=>
  intro s W W' row ⟨⟨v,hv,h1,h2⟩,hB⟩ hg hrow;have hr':∀r,row=some r->∃o:Obj,W.heap[r]? =some o/\o.isCells=false:=fun r e=>(hrow r e).2;exact⟨⟨v,boxed_own _ _ (fun _:Unit=>_) () W W' row hv hg hr',h1,h2⟩,ownFrom_below (β:=Unit) (aG _) (by simp;omega) () W W' row hB hg hrow⟩
 case h0=>exact⟨⟨h,bH.alloc _,HH.out,fun _=>rfl⟩,hB0⟩
 case assign=>
  intro l x W K hK
  gi_wp2
  exact hK
 case body=>
  rintro l pre x W ⟨⟨v,hv,hv0,hvp⟩,hB⟩ hlen;have c1:=hv.cell;have f1:=hv.frozen;have HP:=ae hvp;have HV:=ae hv0;clear hvp hv0
  gi_wp2
  refine⟨(iK _ _ _).trans (iK _ _ _),((aI w.heap.size W).setCell (p:=⟨w.heap.size,0,none⟩) (aG _) _).setCell (p:=⟨w.heap.size,0,none⟩) (aG _) _,⟨_,(hv.set _).set _,zr _,fun hp=> ?_⟩,(hB.setCell (p:=⟨w.heap.size,0,none⟩) (aG _) _).setCell (p:=⟨w.heap.size,0,none⟩) (aG _) _⟩;obtain⟨r1,r2⟩:=Iq HR.out hp;rw[HP.out ((List.prefix_append _ _).trans hp),Ie,xX x r1 (by omega)]
  rfl
 case done=>
  rintro D xs W hD rfl ⟨⟨v,hv,_,hvp⟩,hB⟩ hK;have c1:=hv.cell;have e:=hvp (List.prefix_refl _);have He:=ae e;clear e hvp
  gi_wp2
  refine⟨by simp,aA ⟨_,_,rfl,eU hK, ?_⟩⟩;refine⟨_,results_tmp rfl _ _ _, ?_,hB.trans (belowK_b (w:=w) (aG _) W D _ _ (by simp at hD;omega) hK rfl rfl)⟩;rw[He.out];rfl
 case stop=>
  rintro D c pre W _ _ h _;exact h.elim
theorem Is (h:Int) (v:ak) (bs:List Int) (w:ah) (hh:lP h) (hv:Sl ay w v bs) (hr:aP bs):
  ap aj 302 #[ab .u64 h,v] w fun e w'=>e=ao (ab .u64 (jy h bs))/\ag w.heap.size w w':=by
 obtain⟨a,cap,rfl,hl,h2⟩:=pR.of_sl hv;exact Ir h hh a _ cap bs rfl h2 hr w hl
theorem It (v:ak) (bs:List Int) (w:ah) (hv:Sl ay w v bs) (hr:aP bs):
  ap aj 291 #[v] w fun e w'=>e=ao (ab .u64 (jy nG bs))/\ag w.heap.size w w':=by
 have HM:=ae (Is nG v bs w zq hv hr);clear hv hr;unfold nG at *;go_enter func291,ntmps291;go_wp2_with fail;refine HM.out.mono ?_;rintro e w1 ⟨rfl,hB⟩;have HB:=ae hB;clear hB;go_wp2_with fail;go_ret;exact⟨rfl,HB.out⟩
end
section
attribute [-simp] isAgg51 zeroValue51
attribute [-go_sem] aE aL
attribute [local go_sem] bC bD fe ez
def Sct.code (p:Sct):List ak:=if p.fits=true then aw p.bytes else bf 0
def Sct.codeE (p:Sct):Int:=if p.fits=true then 0 else 11
end
section
def dF:List ak:=ab ay 0:: ab aO 0:: ab ac 0::aw (bg 48 0)
theorem mW (w:ah):(zeroValue 254).run aj w=.ok (al dF.toArray) w:=by kernel_rfl
theorem Iu (m s i:Int) (w:ah):(df 254 #[(0,ab ay m),(1,ab aO s),(2,ab ac i)]).run aj w=.ok (al (Value.int ay m:: ab aO s:: ab ac i::aw (bg 48 0)).toArray) w:=by kernel_rfl
theorem Iv (w:ah):(df 254 #[]).run aj w=.ok (al dF.toArray) w:=by kernel_rfl
theorem Iw (t:aR) (h:t≠ 51 /\t≠ 254) (a:aF):aE t a=(do if←isAgg t then pure (al (←loadCells a (←sizeOf t)))else load a):=rfl
theorem Iy (t:aR) (h:t≠ 51 /\t≠ 254) (a:aF) (v:ak):aL t a v=(do
  if v.cells.size≠(←sizeOf t)then stuck "storeVar: the value has not the size of the variable"
  storeCells a v.cells.toList):=rfl
def fi (bs:List Int):Bool:=(Sct.of bs).fits&&decide ((Sct.of bs).bytes=bs)
def ed (bs:List Int):Sct:=if fi bs=true then Sct.of bs else oY
def lk (bs:List Int):Int:=if fi bs=true then 0 else 11
theorem so (l:List ak):∀(k:Nat) (A:Array ak) (i:Nat),k+l.length<=A.size->((l.zipIdx k).foldl (fun cs (x:ak×Nat)=>cs.setIfInBounds (0+x.2) x.1) A)[i]? =if k<=i/\i<k+l.length then l[i - k]? else A[i]? :=by
 induction l with
 | nil=>intro k A i h;simp;omega
 | cons x l ih=>
  intro k A i h;rw[bz]at h;rw[List.zipIdx_cons,List.foldl_cons,ih _ _ _ (by simp;omega)];simp only[dP,bz];by_cases h1:i=k
  ·subst h1;rw[if_neg (by omega),if_pos (by omega),Nat.sub_self];simp[show i<A.size by omega]
  ·by_cases h2:k+1<=i/\i<k+1+l.length
   ·rw[if_pos h2,if_pos (by omega),show i - k=(i - (k+1))+1 by omega,List.getElem?_cons_succ]
   ·rw[if_neg h2,if_neg (by omega),Array.getElem?_setIfInBounds_ne (by omega)]
theorem sp (l:List ak) (A:Array ak) (h:l.length=A.size):(l.zipIdx.foldl (fun cs (x:ak×Nat)=>cs.setIfInBounds (0+x.2) x.1) A)=l.toArray:=by
 apply Array.ext_getElem?;intro i;rw[so l 0 A i (by omega)];split
 ·simp
 ·rw[Array.getElem?_eq_none (by omega)];simp;omega
end
end Go.Proofs.YtbeeenembgplmaaGreat
