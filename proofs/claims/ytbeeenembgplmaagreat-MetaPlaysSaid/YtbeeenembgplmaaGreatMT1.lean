/- Made shorter by a tool: what the statements rest on. -/
import Derived.Test.YtbeeenembgplmaaGreatRows
import Derived.Test.YtbeeenembgplmaaGreatProg
import Derived.WalkKit
import Derived.ProofKit
import Derived.OpenShut
import Derived.ShutString
import Derived.ChangeOld
import Derived.Below
import Derived.Deep.Slices
import Derived.Lib.SmallJoins
import Derived.Lib.Hide
import Derived.RangeFuncOwn
import Derived.Laws.BitsAllLaws
import Derived.Deep.MidRow
import Derived.Deep.WholeRow
import Derived.ChangeKeysEq
import Derived.Laws.ResultCell
import Derived.Great.BuildSlice
import Derived.OwnWalk
import Derived.LoopTactic
import Derived.Laws.OwnMore
import Derived.Laws.Rows
import Derived.RangeFuncSeq
import Derived.StillTailTactics
import Derived.OrdersIn
import Derived.RangeFuncCalls
import Derived.RangeFuncKeeps
import Derived.RangeFuncBox
import Derived.Laws.CopyOwn
import Derived.TacticsIn
import Derived.OwnWalkIn
import Derived.Shelf.Abstract
import Derived.Laws.BytesArg
import Derived.BigQuiet
import Derived.OrdersHeld
import Derived.StillTail
import Derived.Laws.StructEq
import Derived.RangeFuncWrites
import Derived.Deep.Upon
import Derived.Maps.AppendAt
import Derived.RangeFuncNested
import Derived.RangeFuncBound
import Derived.RangeFuncLeaves
import Derived.Shelf.RegionOpen
import Derived.TacticsInMore
import Derived.LoopNIn
import Derived.LoopIn
set_option maxRecDepth 100000
set_option maxHeartbeats 20000000
set_option linter.unusedVariables false
set_option linter.unusedSimpArgs false
open List renaming drop_succ_cons -> be, drop_zero -> bf, getElem?_eq_getElem -> bJ, replicate -> bK, length_cons -> cK, length_append -> cX, mem_map -> dc, range -> dm, getElem?_eq_some_iff -> dp, getElem?_map -> du, length_drop -> dx, mem_of_getElem? -> dI, mem_singleton -> dO, length_nil -> dP, nil_append -> dT, size_toArray -> dU, cons_append -> dX, mem_cons -> ec, take_of_length_le -> ey, push_toArray -> eD, append_toArray -> eF, getElem?_append_left -> eU, mem_cons_self -> eV, length_take -> fd, mem_range -> fo, map_append -> fp, getElem?_append_right -> fF, mem_cons_of_mem -> fG, length_map -> fZ, mem_append -> gW, finRange -> ik, map_map -> iA, getElem?_eq_none -> iB, eq_nil_of_length_eq_zero -> je, getElem?_replicate -> jL, getElem?_drop -> kf, getElem?_cons_succ -> kC
open Nat renaming le_refl -> aJ, lt_of_lt_of_le -> aU, le_trans -> aZ, zero_le -> bq, zero_add -> dC, mod_lt -> fO, le_of_lt -> iT
open Int renaming toNat_natCast -> gO
open Array renaming getElem?_eq_some_iff -> cj, replicate_succ -> ez, replicate_zero -> eA, replicate -> kg
open Bool renaming and_eq_true -> fN
open Go.Lib renaming hid -> ae
open Go renaming World -> ak, Value -> am, Calls -> az, loadVar -> aE, undef -> aK, storeVar -> aL, Addr -> aN, wpQuiet_nil -> aO, maxLen -> aS, TypeId -> aV, bodyPost_ret -> bl, heap_alloc_new -> bR, cell_of_row -> cl, info_parts -> eJ, all_oneCell_toArray -> gD, run_takeDeferred -> iD, run_loadVar_mid -> iL, run_storeVar_new -> iU, callsIn_of_wp_marks -> jf
open Go.Boxed renaming new -> dY
open Go.Instr renaming buildSlice -> cO, build -> cY, fill -> fe
open Go.IntWalk renaming wrap64_in -> gj
open Go.KeepsOthers renaming setCell -> iC
open Go.Op renaming equalIn -> eG
open Go.Result renaming andThen_ok -> ed
open Go.RowKit renaming Below -> ah, intOf -> aW
open Go.RowKit.Below renaming refl -> aF, heap_setCell -> gc
open Go.Sem renaming run_bind -> gR
open Go.Value renaming ownBlock -> fq
open Go.World renaming cell?_of_block -> cL, size_alloc -> dy, ownsRow_nil -> ft, rangeAt_setCells_same -> gE, rangeAt_setCells_apart -> iM, heap_setCells_other -> li
open Go.Ending renaming returned -> ar
open Go.IntKind renaming i64 -> af, u8 -> aq, u32 -> aD
open Go.Obj renaming cells -> ap
open Go.Value renaming int -> ab, slice -> ag, agg -> al, pointer -> ao, tuple -> aQ
open Or renaming inl -> aA, inr -> aC
open Go.Proofs.Tryz
open Go.Proofs.Tryz renaming prog -> aj
namespace Go.Proofs.YtbeeenembgplmaaGreat
open Go.RowKit
abbrev w9b (w x:Go.World):Prop:=Go.RowKit.Below w.heap.size w x
abbrev w9h (w x:Go.World):Prop:=Hid (w9b w x)
set_option maxRecDepth 100000 in
theorem w9x:Tryz.prog.follows .mixedOrders=true:=by kernel_rfl
theorem w9nm {α:Sort _} (a:α):∃x,a=x:=⟨a,rfl⟩
theorem w9bt {W x y:World} (h:Hid (Below W.heap.size W x)) (k:Below x.heap.size x y):Hid (Below W.heap.size W y):=h.out.trans (k.mono h.out.size)
open Go.RowKit Go.Shelf Go.Lib
section
open Go.ChangeShapes Go.WideShapes Go.ChangeAt Go.RowKit
theorem own:ownKnob aj.godebug=none:=by kernel_rfl
theorem laidOut:laidOutB aj=true:=by kernel_rfl
def gk (W:ak) (t:aV) (cs:List am):Prop:=
 ∃(H:Type) (enc:aV×am->H) (fuel:Nat) (x:DataW H×List MemPlace),DataW.trod enc aj W 0 (fun _=>true) true fuel t cs=some x
def kD (W:ak) (t:aV) (v:am):Prop:=(∃base,Value.okWide aj W .any base t v)/\gk W t v.cells.toList
theorem kD.mk {H:Type} {enc:aV×am->H} {W:ak} {base:Nat} {t:aV} {v:am} {d:DataW H} {p:List MemPlace} (h:Value.okWide aj W .any base t v) (k:DataW.Trod enc aj W 0 (fun _=>true) true t v d p):kD W t v:=by
 obtain⟨fuel,hf⟩:=k;exact⟨⟨base,h⟩,H,enc,fuel,_,hf⟩
section
variable {W:ak} {t e:aV} {cs:List am} {v:am}
theorem gk.int {k:IntKind} (h:gk W t cs) (hu:aj.underlying t=some (.int k)):∃n,cs= [ab k n]/\(Lit.int k n).wf=true:=by
 obtain⟨H,enc,fuel,x,hx⟩:=h;obtain⟨a,e1,e2,wa⟩:=DataW.trod_int hu hx;exact⟨a,e1,wa⟩
theorem gk.slice (h:gk W t cs) (hu:aj.underlying t=some (.slice e)):∃a len cap,cs= [ag a len cap]/\
  ((a=none/\len=0/\cap=0)\/∃x,a=some x/\len<=cap/\cap<=aS/\∀i,i<cap->∃es,W.cells? 0 (x.add (i*aj.cellsOf e)) (aj.cellsOf e)=some es/\gk W e es):=by
 obtain⟨H,enc,fuel,x,hx⟩:=h;rcases Go.Deep.open_slice hu hx with⟨rfl,rfl⟩ | ⟨a,len,cap,m,n,D,Pl,rfl,_,h1,h2,rfl,rfl,h3⟩
 ·exact⟨_,_,_,rfl,aA ⟨rfl,rfl,rfl⟩⟩
 ·refine⟨_,_,_,rfl,aC ⟨a,rfl,h1,h2,fun i hi=> ?_⟩⟩;obtain⟨es,g1,g2⟩:=h3 i (by simpa using hi);exact⟨es,g1,H,enc,n,_,g2⟩
theorem gk.struct {fs:Array Field} (h:gk W t cs) (hu:aj.underlying t=some (.struct fs)):cs.length=aj.cellsOf t/\
  ∀(j:Nat) f,fs[j]? =some f->gk W f.type ((cs.drop f.offset).take (aj.cellsOf f.type)):=by
 obtain⟨H,enc,fuel,x,hx⟩:=h;obtain⟨xs,n,_,rfl,hl,hlen,hf⟩:=DataW.trod_struct hu hx;refine⟨hl,fun j f hj=> ?_⟩;have h1:=hf j f hj;have h2:j<xs.length:=by
  rw[hlen];exact(cj.1 hj).1
 rw[bJ h2]at h1;exact⟨H,enc,n,_,h1⟩
theorem gk.array {n:Nat} (h:gk W t cs) (hu:aj.underlying t=some (.array n e)):cs.length=aj.cellsOf t/\
  ∀i,i<n->gk W e ((cs.drop (i*aj.cellsOf e)).take (aj.cellsOf e)):=by
 obtain⟨H,enc,fuel,x,hx⟩:=h;obtain⟨xs,m,_,rfl,hl,hlen,hf⟩:=DataW.trod_array hu hx;refine⟨hl,fun j hj=> ?_⟩;have h1:=hf j hj;rw[bJ (by omega)]at h1;exact⟨H,enc,m,_,h1⟩
theorem kD.slice (h:kD W t v) (hu:aj.underlying t=some (.slice e)):∃a len cap,v=ag a len cap/\
  ((a=none/\len=0/\cap=0)\/∃x,a=some x/\len<=cap/\cap<=aS/\∀i,i<cap->∃es,W.cells? 0 (x.add (i*aj.cellsOf e)) (aj.cellsOf e)=some es/\gk W e es):=by
 obtain⟨⟨base,ho⟩,hc⟩:=h;obtain⟨a,len,cap,rfl⟩:=okWide_slice hu ho;obtain⟨a',len',cap',e1,r⟩:=hc.slice hu;simp[Value.cells]at e1;obtain⟨rfl,rfl,rfl⟩:=e1;exact⟨_,_,_,rfl,r⟩
theorem kD.agg (h:kD W t v) (hu:(∃fs,aj.underlying t=some (.struct fs))\/∃n e,aj.underlying t=some (.array n e)):∃cs:List am,v=al cs.toArray/\cs.length=aj.cellsOf t/\gk W t cs:=by
 obtain⟨⟨base,ho⟩,hc⟩:=h;have:∃cs:Array am,v=al cs/\cs.size=aj.cellsOf t:=by
  rcases hu with⟨fs,hu⟩ | ⟨n,e,hu⟩
  ·exact okWide_struct hu ho
  ·simp only[Value.okWide,hu]at ho;obtain⟨cs,h1,h2,_⟩:=ho;exact⟨cs,h1,h2⟩
 obtain⟨⟨cs⟩,rfl,hs⟩:=this;exact⟨cs,rfl,by simpa using hs,by simpa [Value.cells]using hc⟩
end
theorem cells_one {W:ak} {x:aN} {es:List am} (h:W.cells? 0 x 1=some es):∃v,es= [v]/\W.cell? x=some v:=by
 unfold World.cells? at h;rw[if_pos (bq _)]at h;simp only[List.range_one,List.mapM_cons,List.mapM_nil]at h;have e:x.add 0=x:=by simp[Addr.add]
 rw[e]at h;cases hc:W.cell? x with
 | none=>rw[hc]at h;cases h
 | some v=>rw[hc]at h;exact⟨v,by simpa using h.symm,rfl⟩
theorem tJ {W:ak} {x:aN} {n:Nat} {es:List am} (h:W.cells? 0 x n=some es):es.length=n/\∀i,i<n->∃v,es[i]? =some v/\W.cell? (x.add i)=some v:=by
 unfold World.cells? at h;rw[if_pos (bq _)]at h;have hl:es.length=n:=by simpa using mapM_some_length h
 refine⟨hl,fun i hi=> ?_⟩;have:=mapM_some_get h i i (by simp[hi]);rw[bJ (by omega)]at this;exact⟨es[i],by rw[bJ (by omega)],this⟩
theorem qy {W:ak} {x:aN} {v:am} (h:W.cell? x=some v):∃b off,x=⟨b,off,none⟩/\b<W.heap.size:=by
 obtain⟨b,off,spot⟩:=x;have:spot=none:=World.cell?_spot h;subst this;obtain⟨o,ho,_⟩:=cells_of_cell h;exact⟨b,off,rfl,(cj.1 ho).1⟩
theorem qz (b off j:Nat):(⟨b,off,none⟩:aN).add j=⟨b,off+j,none⟩:=by unfold Addr.add;split<;>simp_all
end
section
def gF (bs:List Int):Nat->Int
 | 0=>0
 | k+1=>gF bs k+bs[k]?.getD 0*2^(8*k)
def aP (bs:List Int):Prop:=∀j:Nat,0<=bs[j]?.getD 0/\bs[j]?.getD 0<256
theorem nT (P:Nat->Prop) (h0:P 0) (h1:P 1) (h2:P 2) (h3:P 3) (h4:P 4) (h5:P 5) (h6:P 6) (h7:P 7) (k:Nat) (hk:k<8):P k:=by
 match k,hk with
 | 0,_=>exact h0
 | 1,_=>exact h1
 | 2,_=>exact h2
 | 3,_=>exact h3
 | 4,_=>exact h4
 | 5,_=>exact h5
 | 6,_=>exact h6
 | 7,_=>exact h7
def lj (v y:Int) (k:Nat):Int:=bits BinOp.or IntKind.u64 v (IntKind.u64.wrap (y*2^(8*k)))
theorem nU (x:Int) (h0:0<=x) (h1:x<18446744073709551616):IntKind.u64.wrap x=x:=by
 rw[IntKind.wrap_u64];omega
theorem qA (y:Int) (k:Nat) (hk:k<8) (h0:0<=y) (h1:y<256):0<=y*2^(8*k)/\y*2^(8*k)<18446744073709551616:=by
 revert y;refine nT (fun k=>∀y:Int,0<=y->y<256->0<=y*2^(8*k)/\y*2^(8*k)<18446744073709551616) ?_ ?_ ?_ ?_ ?_ ?_ ?_ ?_ k hk<;>(intro y h0 h1;simp only[Nat.reduceMul,Int.reducePow];omega)
theorem tK (v y:Int) (k:Nat) (hk:k<8) (hv0:0<=v) (hv1:v<18446744073709551616) (h0:0<=y) (h1:y<256):
  lj v y k=((v.toNat||| (y*2^(8*k)).toNat:Nat):Int):=by
 obtain⟨a,b⟩:=qA y k hk h0 h1;unfold lj;rw[nU _ a b,u64_or v _ hv0 hv1 a b]
theorem zI (v y:Int) (k:Nat) (hk:k<8) (hv0:0<=v) (hv1:v<18446744073709551616) (h0:0<=y) (h1:y<256):
  0<=lj v y k/\lj v y k<18446744073709551616:=by
 obtain⟨a,b⟩:=qA y k hk h0 h1;rw[tK v y k hk hv0 hv1 h0 h1];have:=Nat.or_lt_two_pow (n:=64) (show v.toNat<2^64 by simp only[Nat.reducePow];omega) (show(y*2^(8*k)).toNat<2^64 by simp only[Nat.reducePow];omega);simp only[Nat.reducePow]at this;omega
theorem zJ (v y:Int) (k:Nat) (hk:k<8) (hv0:0<=v) (hv1:v<18446744073709551616) (hvk:v<2^(8*k)) (h0:0<=y) (h1:y<256):
  lj v y k=v+y*2^(8*k):=by
 rw[tK v y k hk hv0 hv1 h0 h1];obtain⟨a,rfl⟩:=Int.eq_ofNat_of_zero_le hv0;obtain⟨c,rfl⟩:=Int.eq_ofNat_of_zero_le h0;have e1:((c:Int)*2^(8*k))=((2^(8*k)*c:Nat):Int):=by simp[Int.mul_comm]
 have ha:a<2^(8*k):=by
  have:((a:Nat):Int)< ((2^(8*k):Nat):Int):=by simpa using hvk
  omega
 rw[e1,gO,gO,Nat.or_comm,←Nat.two_pow_add_eq_or_of_lt ha c];omega
theorem kE (bs:List Int) (h:aP bs):∀k:Nat,0<=gF bs k/\gF bs k<2^(8*k)
 | 0=>by simp[gF]
 | k+1=>by
  obtain⟨a,b⟩:=kE bs h k;obtain⟨c,d⟩:=h k;have hp:(0:Int)<2^(8*k):=Int.pow_pos (by omega);have e:(2:Int)^(8*(k+1))=256*2^(8*k):=by rw[show 8*(k+1)=8*k+8 from by omega,Int.pow_add];simp[Int.mul_comm]
  rw[e];unfold gF;have h1:0<=bs[k]?.getD 0*2^(8*k):=Int.mul_nonneg c (by omega);have h2:bs[k]?.getD 0*2^(8*k)<=255*2^(8*k):=Int.mul_le_mul_of_nonneg_right (by omega) (by omega);omega
theorem zK (bs:List Int) (h:aP bs) (k:Nat) (hk:k<8):lj (gF bs k) (bs[k]?.getD 0) k=gF bs (k+1):=by
 obtain⟨a,b⟩:=kE bs h k;obtain⟨c,d⟩:=h k;have hb:gF bs k<18446744073709551616:=by
  refine Int.lt_of_lt_of_le b ?_;refine nT (fun k=>(2:Int)^(8*k)<=18446744073709551616) ?_ ?_ ?_ ?_ ?_ ?_ ?_ ?_ k hk<;>decide
 exact zJ _ _ k hk a hb b c d
theorem zL (bs:List Int) (h:aP bs) (k:Nat) (hk:k<8):IntKind.u64.wrap (gF bs k+IntKind.u64.wrap (bs[k]?.getD 0*2^(8*k)))=gF bs (k+1):=by
 obtain⟨a,b⟩:=kE bs h (k+1);obtain⟨c,d⟩:=h k;obtain⟨e,f⟩:=qA _ k hk c d;have hb:(2:Int)^(8*(k+1))<=18446744073709551616:=by
  refine nT (fun k=>(2:Int)^(8*(k+1))<=18446744073709551616) ?_ ?_ ?_ ?_ ?_ ?_ ?_ ?_ k hk<;>decide
 rw[nU _ e f];exact nU (gF bs k+bs[k]?.getD 0*2^(8*k)) a (Int.lt_of_lt_of_le b hb)
def dz (size:Int):Nat:=if size<=8 then size.toNat else 8
theorem zM (size:Int):(size<=8/\dz size=size.toNat)\/(8<size/\dz size=8):=by
 unfold dz;by_cases h:size<=8
 ·exact aA ⟨h,if_pos h⟩
 ·exact aC ⟨by omega,if_neg h⟩
theorem mL (size:Int):dz size<=8:=by unfold dz;split<;>omega
theorem tL {size:Int} {k:Nat} (h:k<dz size):(k:Int)<size:=by unfold dz at h;split at h<;>omega
def cy (bs:List Int):Int:=gF bs (dz (bs.length:Int))
theorem zN {m:Nat} {pre:List (Fin m)} {x:Fin m} (h:pre++ [x]<+:ik m):pre<+:ik m/\x.1=pre.length:=by
 obtain⟨t,ht⟩:=h;refine⟨⟨x::t,by rw[←ht];simp⟩, ?_⟩;have h1:(ik m)[pre.length]? =some x:=by rw[←ht];simp
 have h2:pre.length<m:=by
  have:=congrArg List.length ht;simp at this;omega
 rw[bJ (by simpa using h2)]at h1;simp at h1;rw[←h1]
def aH (n:Int) (size:Nat):List Int:=(dm size).map fun i=>if i<8 then n / 2^(8*i)%256 else 0
theorem bE (n:Int) (size:Nat):(aH n size).length=size:=by simp[aH]
theorem tM (n:Int) (size j:Nat) (h:j<size):(aH n size)[j]?.getD 0=if j<8 then n / 2^(8*j)%256 else 0:=by simp[aH,h]
theorem il (n:Int) (size:Nat):aP (aH n size):=by
 intro j;by_cases h:j<size
 ·rw[tM n size j h];split<;>omega
 ·simp[aH,h]
def jy (n:Int) (size:Nat) {m:Nat} (pre:List (Fin m)):List am:=(dm size).map fun i=>Value.int aq (if pre.any (fun x=>x.1==i)then n / 2^(8*i)%256 else 0)
theorem zO (n:Int) (size m:Nat):jy n size (m:=m) []=bK size (Value.int aq 0):=by
 unfold jy;apply List.ext_getElem
 ·simp
 ·intro i h1 h2;simp
theorem zP (n:Int) (size m:Nat) (pre:List (Fin m)) (x:Fin m):jy n size (pre++ [x])=(jy n size pre).set x.1 (Value.int aq (n / 2^(8*x.1)%256)):=by
 unfold jy;apply List.ext_getElem
 ·simp
 ·intro i h1 h2;simp only[List.getElem_map,List.getElem_range,List.getElem_set,List.any_append,List.any_cons,List.any_nil,Bool.or_false];by_cases e:x.1=i
  ·subst e;simp
  ·rw[if_neg e];have:(x.1==i)=false:=by simpa using e
   rw[this,Bool.or_false]
theorem zQ (n:Int) (size:Nat):jy n size (ik (dz (size:Int)))=(aH n size).map (Value.int aq):=by
 unfold jy aH;rw[iA];apply List.map_congr_left;intro i hi;have hi':i<size:=by simpa using hi
 have e:(ik (dz (size:Int))).any (fun x=>x.1==i)=decide (i<8):=by
  rw[Bool.eq_iff_iff];simp only[List.any_eq_true,List.mem_finRange,true_and,beq_iff_eq,decide_eq_true_eq];constructor
  ·rintro⟨x,rfl⟩;have:=x.2;have:=mL (size:Int);omega
  ·intro h;exact⟨⟨i,by unfold dz;split<;>omega⟩,rfl⟩
 simp only[Function.comp,e,decide_eq_true_eq]
def jM (n:Int) (size k:Nat):List am:=(dm size).map fun i=>Value.int aq (if i<k then n / 2^(8*i)%256 else 0)
theorem zR (n:Int) (size:Nat):jM n size 0=bK size (Value.int aq 0):=by
 unfold jM;apply List.ext_getElem
 ·simp
 ·intro i h1 h2;simp
theorem zS (n:Int) (size k:Nat):jM n size (k+1)=(jM n size k).set k (Value.int aq (n / 2^(8*k)%256)):=by
 unfold jM;apply List.ext_getElem
 ·simp
 ·intro i h1 h2;simp only[List.getElem_map,List.getElem_range,List.getElem_set];by_cases e:k=i
  ·subst e;simp
  ·rw[if_neg e];by_cases h:i<k
   ·rw[if_pos h,if_pos (by omega)]
   ·rw[if_neg h,if_neg (by omega)]
theorem zT (n:Int) (size:Nat):jM n size (dz (size:Int))=(aH n size).map (Value.int aq):=by
 unfold jM aH;rw[iA];apply List.map_congr_left;intro i hi;have hi':i<size:=by simpa using hi
 have e:(i<dz (size:Int))↔i<8:=by unfold dz;split<;>omega
 simp only[Function.comp,e]
theorem qB (n:Int) (hn:0<=n) (K:Nat):∀j:Nat,j<=K->j<=8->gF (aH n K) j=n%2^(8*j)
 | 0,_,_=>by simp[gF]
 | j+1,h1,h2=>by
  have ih:=qB n hn K j (by omega) (by omega);unfold gF;rw[ih,tM n K j (by omega),if_pos (by omega)];refine nT (fun j=>n%2^(8*j)+n / 2^(8*j)%256*2^(8*j)=n%2^(8*(j+1))) ?_ ?_ ?_ ?_ ?_ ?_ ?_ ?_ j (by omega)<;>(simp only[Nat.reduceMul,Nat.reduceAdd,Int.reducePow];omega)
theorem nV (n:Int) (h0:0<=n) (h1:n<18446744073709551616) (K:Nat):cy (aH n K)=if K<8 then n%2^(8*K)else n:=by
 unfold cy;rw[bE];by_cases h:K<8
 ·rw[if_pos h,show dz (K:Int)=K from by unfold dz;rw[if_pos (by omega)];omega,qB n h0 K K (aJ _) (by omega)]
 ·rw[if_neg h,show dz (K:Int)=8 from by unfold dz;split<;>omega,qB n h0 K 8 (by omega) (by omega)];simp only[Nat.reduceMul,Int.reducePow];omega
def zU (k:IntKind) (w:ak) (a:Option aN) (bs:List Int):Prop:=
 bs= []\/∃b off,a=some ⟨b,off,none⟩/\b<w.heap.size/\∀j,j<bs.length->w.cell? ⟨b,off+j,none⟩=some (ab k (bs[j]?.getD 0))
def Sl (k:IntKind) (w:ak) (v:am) (bs:List Int):Prop:=
 ∃a cap,v=ag a bs.length cap/\bs.length<=cap/\cap<=aS/\zU k w a bs/\(a=none->cap=0)
theorem Sl.nil (k:IntKind) (w:ak):Sl k w (ag none 0 0) []:=⟨none,0,rfl,aJ _,bq _,aA rfl,fun _=>rfl⟩
theorem Sl.at {k:IntKind} {w:ak} {b off cap:Nat} {bs:List Int} (h1:bs.length<=cap) (h2:cap<=aS) (h3:b<w.heap.size) (h4:∀j,j<bs.length->w.cell? ⟨b,off+j,none⟩=some (ab k (bs[j]?.getD 0))):
  Sl k w (ag (some ⟨b,off,none⟩) bs.length cap) bs:=⟨_,cap,rfl,h1,h2,aC ⟨b,off,rfl,h3,h4⟩,fun e=>by cases e⟩
theorem Sl.below {k:IntKind} {w w':ak} {v:am} {bs:List Int} (h:Sl k w v bs) (hb:w9b w w'):Sl k w' v bs:=by
 obtain⟨a,cap,e,h1,h2,h,hn⟩:=h;refine⟨a,cap,e,h1,h2, ?_,hn⟩;rcases h with h | ⟨b,off,e,h3,h4⟩
 ·exact aA h
 ·exact aC ⟨b,off,e,aU h3 hb.size,fun j hj=>(hb.cell (p:=⟨b,off+j,none⟩) h3).trans (h4 j hj)⟩
end
section
open Go.ChangeShapes Go.WideShapes Go.ChangeAt Go.RowKit
theorem tN {k:IntKind} {W:ak} {e:aV} {a:Option aN} {len cap:Nat} (he:aj.underlying e=some (.int k)) (hc:aj.cellsOf e=1)
  (h:(a=none/\len=0/\cap=0)\/∃x,a=some x/\len<=cap/\cap<=aS/\∀i,i<cap->∃es,W.cells? 0 (x.add (i*aj.cellsOf e)) (aj.cellsOf e)=some es/\gk W e es):
  ∃xs:List Int,xs.length=len/\len<=aS/\Sl k W (ag a len cap) xs/\∀n ∈ xs,(Lit.int k n).wf=true:=by
 rcases h with⟨rfl,rfl,rfl⟩ | ⟨x,rfl,h1,h2,h3⟩
 ·exact⟨[],rfl,bq _,Sl.nil _ _,fun n hn=>by cases hn⟩
 ·rw[hc]at h3;have h4:∀i,i<cap->∃n,W.cell? (x.add i)=some (ab k n)/\(Lit.int k n).wf=true:=by
   intro i hi;obtain⟨es,g1,g2⟩:=h3 i hi;rw[Nat.mul_one]at g1;obtain⟨v,rfl,hv⟩:=cells_one g1;obtain⟨n,e1,wn⟩:=g2.int he;simp at e1;subst e1;exact⟨n,hv,wn⟩
  have h5:∀i,∃n,i<cap->W.cell? (x.add i)=some (ab k n)/\(Lit.int k n).wf=true:=fun i=>by
   by_cases hi:i<cap
   ·obtain⟨n,hn⟩:=h4 i hi;exact⟨n,fun _=>hn⟩
   ·exact⟨0,fun h=>absurd h hi⟩
  obtain⟨f,hf⟩:=Classical.axiomOfChoice h5;refine⟨(dm len).map f,by simp,by omega, ?_, ?_⟩
  ·refine⟨some x,cap,by simp,by simp;omega,h2, ?_,fun e=>by cases e⟩;by_cases h0:len=0
   ·subst h0;exact aA rfl
   ·obtain⟨hc0,_⟩:=hf 0 (by omega);have e0:x.add 0=x:=by simp[Addr.add]
    rw[e0]at hc0;obtain⟨b,off,rfl,hb⟩:=qy hc0;refine aC ⟨b,off,rfl,hb,fun j hj=> ?_⟩;simp at hj;have:=(hf j (by omega)).1;rw[qz]at this;rw[this];simp[hj]
  ·intro n hn;obtain⟨i,hi,rfl⟩:=dc.1 hn;exact(hf i (by have:=fo.1 hi;omega)).2
section
variable {W:ak} {t e:aV} {v:am} {k:IntKind}
theorem kD.sl (h:kD W t v) (hu:aj.underlying t=some (.slice e)) (he:aj.underlying e=some (.int k)) (hc:aj.cellsOf e=1):
  ∃a len cap,∃xs:List Int,v=ag a len cap/\xs.length=len/\len<=aS/\Sl k W (ag a len cap) xs/\∀n ∈ xs,(Lit.int k n).wf=true:=by
 obtain⟨a,len,cap,rfl,r⟩:=h.slice hu;obtain⟨xs,r⟩:=tN he hc r;exact⟨a,len,cap,xs,rfl,r⟩
theorem gk.sl {cs:List am} (h:gk W t cs) (hu:aj.underlying t=some (.slice e)) (he:aj.underlying e=some (.int k)) (hc:aj.cellsOf e=1):
  ∃a len cap,∃xs:List Int,cs= [ag a len cap]/\xs.length=len/\len<=aS/\Sl k W (ag a len cap) xs/\∀n ∈ xs,(Lit.int k n).wf=true:=by
 obtain⟨a,len,cap,rfl,r⟩:=h.slice hu;obtain⟨xs,r⟩:=tN he hc r;exact⟨a,len,cap,xs,rfl,r⟩
theorem kD.bytes (h:kD W t v) (hu:aj.underlying t=some (.slice e)) (he:aj.underlying e=some (.int aq)) (hc:aj.cellsOf e=1):
  ∃a len cap,∃xs:List Int,v=ag a len cap/\xs.length=len/\len<=aS/\Sl aq W (ag a len cap) xs/\aP xs:=by
 obtain⟨a,len,cap,xs,rfl,h1,h2,h3,h4⟩:=h.sl hu he hc;exact⟨a,len,cap,xs,rfl,h1,h2,h3,fun j=>by have:=range_u8 h4 j;omega⟩
theorem gk.bytes {cs:List am} (h:gk W t cs) (hu:aj.underlying t=some (.slice e)) (he:aj.underlying e=some (.int aq)) (hc:aj.cellsOf e=1):
  ∃a len cap,∃xs:List Int,cs= [ag a len cap]/\xs.length=len/\len<=aS/\Sl aq W (ag a len cap) xs/\aP xs:=by
 obtain⟨a,len,cap,xs,rfl,h1,h2,h3,h4⟩:=h.sl hu he hc;exact⟨a,len,cap,xs,rfl,h1,h2,h3,fun j=>by have:=range_u8 h4 j;omega⟩
end
end
section
def bx (c:List am):Prop:=∃bs:List Int,bs.length=64/\c=bs.map (Value.int aq)
theorem bx.length {c:List am} (h:bx c):c.length=64:=by obtain⟨bs,h1,rfl⟩:=h;simp[h1]
theorem bx.one {c:List am} (h:bx c):∀v ∈ c,v.oneCell'=true:=by
 obtain⟨bs,h1,rfl⟩:=h;intro v hv;obtain⟨x,_,rfl⟩:=dc.1 hv
 rfl
theorem bx.all {c:List am} (h:bx c):c.toArray.all (·.oneCell')=true:=gD h.one
def a9 (v:Int):List am:=bK 64 (ab aq v)
theorem fv (v:Int):bx (a9 v):=⟨bK 64 v,by simp,by simp[a9]⟩
def cx:Array am:=(a9 0).toArray
theorem dj:cx.size=64:=by simp[cx,a9]
theorem qC:aj.underlying 51 =some (.array 64 5):=by kernel_rfl
theorem nW:(aj.info? 51).map (fun i=>(i.zero,i.size,i.bytes))=some (some (al cx),64,64):=by kernel_rfl
theorem nX:(aj.info? 51).map (·.size)=some 64:=by kernel_rfl
theorem bC (w:ak):(zeroValue 51).run aj w=.ok (al cx) w:=by kernel_rfl
theorem bD (w:ak):(cY 51 #[]).run aj w=.ok (al cx) w:=by kernel_rfl
theorem dd {w:ak} {b o:Nat} {c:List am} (hc:w.rangeAt b o c) (h:c.length=64):(aE 51 ⟨b,o,none⟩).run aj w=.ok (al c.toArray) w:=
 iL w b o _ c _ hc qC rfl (by rw[h];exact nX)
theorem lk {w:ak} {b o:Nat} {c:List am} (ht:w.there b o 64) (h:bx c):(aL 51 ⟨b,o,none⟩ (al c.toArray)).run aj w=.ok () (w.setCells b o c):=by
 have:=run_storeVar_mid (P:=aj) w b o 51 c.toArray (by simpa [h.length]using ht) (by simpa [h.length]using nX) h.all
 simpa using this
theorem mM {w:ak} {c:Array am} (h:c.size=64):(aE 51 ⟨w.heap.size,0,none⟩).run aj (w.alloc (ap c 51))=.ok (al c) (w.alloc (ap c 51)):=
 run_loadVar_new w _ c _ _ qC (by rw[h];exact nX)
theorem gT {w:ak} {c:Array am} {c':List am} (h:c.size=64) (h':bx c'):(aL 51 ⟨w.heap.size,0,none⟩ (al c'.toArray)).run aj (w.alloc (ap c 51))=.ok () (w.alloc (ap c'.toArray 51)):=
 iU w _ c c'.toArray (by simpa [h'.length]using nX) (by simpa [h'.length]using h) h'.all
theorem ff {P:Program} {fn:Func} {p:Tmp} {ty:aV} {tmps:Array am} {w:ak} {ad:aN} {v:am} (h:fn.results=#[.cell p ty]) (ha:tmps.getD p aK=ao (some ad)) (hl:(aE ty ad).run P w=.ok v w):
  (results fn tmps).run P w=.ok v w:=by
 have e:(asAddr (ao (some ad))).run P w=.ok ad w:=by simp[asAddr]
 have ha':tmps[p]?.getD aK=ao (some ad):=by simpa using ha
 simp[results,h,gR,Result.andThen,ha',e,hl]
theorem dl {P:Program} {fn:Func} {p u:Tmp} {ty:aV} {tmps:Array am} {w:ak} {ad:aN} {v:am} (h:fn.results=#[.cell p ty,.tmp u]) (ha:tmps.getD p aK=ao (some ad)) (hl:(aE ty ad).run P w=.ok v w):
  (results fn tmps).run P w=.ok (aQ #[v,tmps.getD u aK]) w:=by
 have e:(asAddr (ao (some ad))).run P w=.ok ad w:=by simp[asAddr]
 have ha':tmps[p]?.getD aK=ao (some ad):=by simpa using ha
 simp[results,h,gR,Result.andThen,ha',e,hl]
theorem dZ (t:aV) (h:t≠ 51) (a:aN):aE t a=(do if←isAgg t then pure (al (←loadCells a (←sizeOf t)))else load a):=rfl
theorem dQ (t:aV) (h:t≠ 51) (a:aN) (v:am):aL t a v=(do
  if v.cells.size≠(←sizeOf t)then stuck "storeVar: the value has not the size of the variable"
  storeCells a v.cells.toList):=rfl
theorem qD {P:Program} {t:aV} (ht:P.plainKey t=true) (hu:P.underlying t=some (.int aq)) (d:Nat) (xs ys:List Int) (w:ak):∀is:List Nat,(∀i ∈ is,i<xs.length/\i<ys.length)->
  (Op.eqItems (d+1) t 1 (xs.map (Value.int aq)).toArray (ys.map (Value.int aq)).toArray is).run P w=.ok (is.all fun i=>xs[i]?.getD 0==ys[i]?.getD 0) w
 | [],_=>by simp[Op.eqItems]
 | i::is,h=>by
  obtain⟨h1,h2⟩:=h i (by simp);have e1:(xs.map (Value.int aq)).toArray[i]? =some (ab aq (xs[i]?.getD 0)):=by simp[h1]
  have e2:(ys.map (Value.int aq)).toArray[i]? =some (ab aq (ys[i]?.getD 0)):=by simp[h2]
  simp only[Op.eqItems,gR,Nat.mul_one,run_part_plain w ht e1,run_part_plain w ht e2,ed,run_equalIn_int w d t aq aq _ _ hu];by_cases e:(xs[i]?.getD 0==ys[i]?.getD 0)=true
  ·simp only[e,Bool.not_true,Bool.false_eq_true,if_false,List.all_cons,Bool.true_and];exact qD ht hu d xs ys w is fun j hj=>h j (by simp[hj])
  ·simp only[Bool.not_eq_true]at e;simp only[e,Bool.not_false,if_true,List.all_cons,Bool.false_and,Sem.run_pure]
noncomputable def fg (a b:List am):Bool:= @decide (a=b) (Classical.propDecidable _)
theorem kF {a b:List am}:fg a b=true↔a=b:=by unfold fg;simp
theorem ll (a:List am):fg a a=true:=kF.2 rfl
theorem nY {a b:List am} (h:a≠b):fg a b=false:=by
 cases e:fg a b with
 | false=>rfl
 | true=>exact absurd (kF.1 e) h
theorem iN {a b:List am} (ha:bx a) (hb:bx b) (w:ak):(eG 10000 51 (al a.toArray) (al b.toArray)).run aj w=.ok (fg a b) w:=by
 obtain⟨xs,hx,rfl⟩:=ha;obtain⟨ys,hy,rfl⟩:=hb;obtain⟨i0,hi⟩:∃i,aj.info? 5 =some i:=Option.isSome_iff_exists.1 (show(aj.info? 5).isSome=true by kernel_rfl);rw[run_equalIn_array w 9999 (xs.map (Value.int aq)).toArray (ys.map (Value.int aq)).toArray qC hi,show aj.cellsOf 5 =1 from by kernel_rfl,
  qD (d:=9998) (by kernel_rfl) (by kernel_rfl) xs ys w (dm 64) (fun i hi=>by have:=fo.1 hi;omega)]
 congr 1
 rw[Bool.eq_iff_iff,kF,List.all_eq_true];constructor
 ·intro h
  congr 1
  apply List.ext_getElem (by omega);intro i h1 h2;have:=h i (fo.2 (by omega))
  simpa [h1,h2]using this
 ·intro h i hi;have hxy:xs=ys:=by
   have e:=congrArg (List.map aW) h;rw[iA,iA,show aW ∘ Value.int aq=id from by funext x;rfl]at e
   simpa using e
  simp[hxy]
theorem kk {n k:Nat} {C:Nat->Prop} (h:wrap64 ((k:Int)+1)=(k:Int)+1) (hk:k<n) (hC:C (k+1)):∃k':Nat,k'<=n/\Value.int af (wrap64 ((k:Int)+1))=Value.int af (k':Int)/\C k':=
 ⟨k+1,hk,by rw[h];simp,hC⟩
theorem km {n k:Nat} (h:wrap64 ((k:Int)+1)=(k:Int)+1) (hk:k<n):n - (aW (Value.int af (wrap64 ((k:Int)+1)))).toNat<n - (aW (Value.int af (k:Int))).toNat:=by
 rw[h];simp only[aW];omega
structure Sec where
 c:List am
 vs:List (List am)
def Sec.Ok (s:Sec):Prop:=bx s.c/\∀v ∈ s.vs,bx v
def Sec.look (s:Sec):List am:=s.vs.getLast?.getD s.c
def Sec.add (s:Sec) (b:List am):Sec:=if 255<s.vs.length then⟨s.c,s.vs.set 255 b⟩else⟨s.c,s.vs++ [b]⟩
def Sec.settle (s:Sec) (k:Nat):Sec:=⟨if k=0 then s.c else s.vs[k - 1]?.getD s.c, []⟩
theorem Sec.Ok.look {s:Sec} (h:s.Ok):bx s.look:=by
 unfold Sec.look;cases e:s.vs.getLast? with
 | none=>exact h.1
 | some v=>exact h.2 v (List.mem_of_getLast? e)
theorem Sec.Ok.add {s:Sec} {b:List am} (h:s.Ok) (hb:bx b):(s.add b).Ok:=by
 unfold Sec.add;split
 ·exact⟨h.1,fun v hv=>by rcases List.mem_or_eq_of_mem_set hv with h' | rfl;exact h.2 v h';exact hb⟩
 ·exact⟨h.1,fun v hv=>by rcases gW.1 hv with h' | h';exact h.2 v h';rw[dO.1 h'];exact hb⟩
theorem Sec.Ok.settle {s:Sec} {k:Nat} (h:s.Ok):(s.settle k).Ok:=by
 refine⟨?_,fun v hv=>by cases hv⟩;unfold Sec.settle
 dsimp only
 split
 ·exact h.1
 ·cases e:s.vs[k - 1]? with
  | none=>exact h.1
  | some v=>exact h.2 v (dI e)
theorem Sec.look_none {s:Sec} (h:s.vs= []):s.look=s.c:=by simp[Sec.look,h]
theorem Sec.look_some {s:Sec} (h:s.vs≠ []):s.look=s.vs[s.vs.length - 1]?.getD s.c:=by
 unfold Sec.look;rw[List.getLast?_eq_getElem?]
theorem tO {vs:List (List am)} (h:∀v ∈ vs,bx v) {k:Nat} {v:List am} (hk:vs[k]? =some v) (j:Nat) (hj:j<64):vs.flatten[k*64+j]? =v[j]? :=by
 induction vs generalizing k with
 | nil=>simp at hk
 | cons x l ih=>
  have hx:=(h x (by simp)).length;cases k with
  | zero=>
   obtain rfl:x=v:=by simpa using hk
   rw[List.flatten_cons,eU (by omega)];simp
  | succ k=>
   rw[List.flatten_cons,fF (by omega),hx,show(k+1)*64+j - 64=k*64+j by omega];exact ih (fun v hv=>h v (by simp[hv])) (by simpa using hk)
def dD {α:Type} (D:Nat->α) (i:Nat) (s:α):Nat->α:=fun j=>if j=i then s else D j
theorem en {α:Type} (D:Nat->α) (i:Nat) (s:α):dD D i s i=s:=if_pos rfl
theorem ef {α:Type} (D:Nat->α) {i j:Nat} (s:α) (h:j≠i):dD D i s j=D j:=if_neg h
open Go.ChangeShapes Go.WideShapes Go.ChangeAt Go.RowKit
def kG (n:Int):Prop:= -9223372036854775808<=n/\n<=9223372036854775807
def lm (W:ak) (v:am) (l:List (Int×Int)):Prop:=∃a cap,v=ag a l.length cap/\l.length<=cap/\cap<=aS/\(∀p ∈ l,kG p.1/\kG p.2)/\
 (l= []\/∃b off,a=some ⟨b,off,none⟩/\b<W.heap.size/\∀j p,l[j]? =some p->W.cell? ⟨b,off+j*2,none⟩=some (ab af p.1)/\W.cell? ⟨b,off+j*2+1,none⟩=some (ab af p.2))
theorem lm.below {W W':ak} {v:am} {l:List (Int×Int)} (h:lm W v l) (hB:w9b W W'):lm W' v l:=by
 obtain⟨a,cap,rfl,h1,h2,h3,h4⟩:=h;refine⟨a,cap,rfl,h1,h2,h3, ?_⟩;rcases h4 with h4 | ⟨b,off,rfl,h5,h6⟩
 ·exact aA h4
 ·exact aC ⟨b,off,rfl,aU h5 hB.size,fun j p hj=>⟨(hB.cell (p:=⟨b,off+j*2,none⟩) h5).trans (h6 j p hj).1,(hB.cell (p:=⟨b,off+j*2+1,none⟩) h5).trans (h6 j p hj).2⟩⟩
set_option maxRecDepth 100000 in
theorem zV {W:ak} {cs:List am} (h:gk W 222 cs):∃p:Int×Int,(kG p.1/\kG p.2)/\cs= [ab af p.1,ab af p.2]:=by
 obtain⟨hl,hj⟩:=h.array Tryz.underlying222;rw[show aj.cellsOf 3 =1 from by kernel_rfl]at hj;rw[show aj.cellsOf 222 =2 from by kernel_rfl]at hl
 match cs,hl with
 | [x,y],_=>
  obtain⟨a,e1,wa⟩:=(hj 0 (by omega)).int Tryz.underlying3;obtain⟨b,e2,wb⟩:=(hj 1 (by omega)).int Tryz.underlying3;simp at e1 e2;subst e1 e2;exact⟨(a,b),⟨bounds_i64 wa,bounds_i64 wb⟩,rfl⟩
theorem zW {W:ak} {a:Option aN} {len cap:Nat}
  (r:(a=none/\len=0/\cap=0)\/∃x,a=some x/\len<=cap/\cap<=aS/\∀i,i<cap->∃es,W.cells? 0 (x.add (i*aj.cellsOf 222)) (aj.cellsOf 222)=some es/\gk W 222 es):
  ∃l,lm W (ag a len cap) l:=by
 rcases r with⟨rfl,rfl,rfl⟩ | ⟨x,rfl,h1,h2,h3⟩
 ·exact⟨[],none,0,rfl,aJ _,bq _,(fun s hs=>by cases hs),aA rfl⟩
 ·rw[show aj.cellsOf 222 =2 from by kernel_rfl]at h3;have h4:∀i,i<cap->∃p:Int×Int,(kG p.1/\kG p.2)/\W.cell? (x.add (i*2))=some (ab af p.1)/\W.cell? ((x.add (i*2)).add 1)=some (ab af p.2):=by
   intro i hi;obtain⟨es,g1,g2⟩:=h3 i hi;obtain⟨p,hp,rfl⟩:=zV g2;have hm:=(tJ g1).2;refine⟨p,hp, ?_, ?_⟩
   ·obtain⟨u,hu1,hu2⟩:=hm 0 (by omega);cases hu1
    rwa [show(x.add (i*2)).add 0=x.add (i*2) by simp[Addr.add]]at hu2
   ·obtain⟨u,hu1,hu2⟩:=hm 1 (by omega);cases hu1;exact hu2
  have h5:∀i,∃p:Int×Int,i<cap->(kG p.1/\kG p.2)/\W.cell? (x.add (i*2))=some (ab af p.1)/\W.cell? ((x.add (i*2)).add 1)=some (ab af p.2):=fun i=>by
   by_cases hi:i<cap
   ·obtain⟨s,hs⟩:=h4 i hi;exact⟨s,fun _=>hs⟩
   ·exact⟨(0,0),fun h=>absurd h hi⟩
  obtain⟨f,hf⟩:=Classical.axiomOfChoice h5;refine⟨(dm len).map f,some x,cap,by simp,by simp;omega,h2,fun s hs=> ?_, ?_⟩
  ·obtain⟨i,hi,rfl⟩:=dc.1 hs;exact(hf i (by have:=fo.1 hi;omega)).1
  ·by_cases h0:len=0
   ·subst h0;exact aA rfl
   ·have hc0:=(hf 0 (by omega)).2.1;rw[Nat.zero_mul,show x.add 0=x by simp[Addr.add]]at hc0;obtain⟨b,off,rfl,hb⟩:=qy hc0;refine aC ⟨b,off,rfl,hb,fun j s hj=> ?_⟩;have hjl:j<len:=by have:=(dp.1 hj).1;simpa using this
    have hs:s=f j:=by rw[du]at hj;simp[hjl]at hj;exact hj.symm
    subst hs;have q:=(hf j (by omega)).2;simp only[qz]at q;exact q
set_option maxRecDepth 100000 in
theorem gk.prs {W:ak} {cs:List am} (h:gk W 106 cs):∃v l,cs= [v]/\lm W v l:=by
 obtain⟨a,len,cap,rfl,r⟩:=h.slice Tryz.underlying106;obtain⟨l,hl⟩:=zW r;exact⟨_,l,rfl,hl⟩
end
section
theorem dJ {W:ak} {B:Nat} {c:List am} {t:aV} (h:W.heap[B]? =some (ap c.toArray t (0,0))):W.rangeAt B 0 c:=fun j x hx=>by
 rw[cl _ _ _ _ _ _ h,dC]
 simpa using hx
def aB (x:ak) (B:Nat) (t:aV) (C:List am):Prop:=x.heap[B]? =some (ap C.toArray t (0,0))
section
variable {x y:ak} {B:Nat} {t:aV} {C:List am}
theorem aB.lt (h:aB x B t C):B<x.heap.size:=(cj.1 h).1
theorem aB.below (h:aB x B t C) (hb:w9b x y):aB y B t C:=(hb.block B h.lt).trans h
theorem aB.belowN {N:Nat} (h:aB x B t C) (hb:ah N x y) (hB:B<N):aB y B t C:=(hb.block B hB).trans h
theorem aB.range (h:aB x B t C):x.rangeAt B 0 C:=dJ h
theorem aB.cell (h:aB x B t C) (j:Nat) (v:am) (hj:C[j]? =some v):x.cell? ⟨B,j,none⟩=some v:=by
 have:=h.range j v hj
 rwa [dC]at this
theorem aB.frozen (h:aB x B t C) (j:Nat):x.frozen? ⟨B,j,none⟩=false:=by
 have h':x.heap[B]? =some (ap C.toArray t (0,0)):=h;simp[World.frozen?,h']
theorem aB.set (h:aB x B t C) (j:Nat) (v:am):aB (x.setCell ⟨B,j,none⟩ v) B t (C.set j v):=by
 have h':x.heap[B]? =some (ap C.toArray t (0,0)):=h;obtain⟨hlt,hk⟩:=cj.1 h';show(x.heap.modify B _)[B]? =_;rw[Array.getElem?_eq_getElem (by rw[Array.size_modify];exact hlt),Array.getElem_modify_self,hk];simp
theorem aB.new (x:ak) (t:aV) (C:List am):aB (x.alloc (ap C.toArray t)) x.heap.size t C:=bR x _
end
theorem aR (x:ak) (o:Obj):ah x.heap.size x (x.alloc o):=(aF _ x).alloc (aJ _) _
theorem eK {x x':ak} {N e sz n:Nat} {v:am} {xs:List am} (h:x.ownsRow N e sz v n xs) (hb:w9b x x'):x'.ownsRow N e sz v n xs:=by
 refine⟨h.1, ?_⟩;rcases h.2 with h' | ⟨g,cap,cur,rfl,a1,a2,a3⟩
 ·exact aA h'
 ·exact aC ⟨g,cap,cur,rfl,a1,(hb.block g (cj.1 a2).1).trans a2,a3⟩
theorem dK {x:ak} {N e sz n B:Nat} {v:am} {xs C:List am} {t:aV} (h:x.ownsRow N e sz v n xs) (hB:aB x B t C) (hne:e≠t):v.ownBlock≠some B:=by
 rcases h.2 with⟨rfl,_⟩ | ⟨g,cap,cur,rfl,_,hg,_⟩
 ·simp[fq]
 ·intro e';obtain rfl:g=B:=by simpa [fq]using e'
  have hB':x.heap[g]? =some (ap C.toArray t (0,0)):=hB;rw[hg]at hB';cases hB';exact hne rfl
theorem qE {x:ak} {N N' e e' sz sz' n n':Nat} {v v':am} {xs xs':List am} (h:x.ownsRow N e sz v n xs) (h':x.ownsRow N' e' sz' v' n' xs') (hne:e≠e'):v.ownBlock=none\/v.ownBlock≠v'.ownBlock:=by
 rcases h.2 with⟨rfl,_⟩ | ⟨g,cap,cur,rfl,_,hg,_⟩
 ·exact aA rfl
 ·right
  rcases h'.2 with⟨rfl,_⟩ | ⟨g',cap',cur',rfl,_,hg',_⟩
  ·simp[fq]
  ·intro ee;obtain rfl:g=g':=by simpa [fq]using ee
   rw[hg]at hg';cases hg';exact hne rfl
theorem iE (W:ak) (b j:Nat) (v:am):W.grownBy (W.setCell ⟨b,j,none⟩ v) (some b):=
 ⟨rfl,rfl,rfl,(KeepsWalks.setCell W _ v).size,fun k _ hk=>gc _ _ _ k (fun e=>hk (by rw[e]))⟩
theorem aB.grown {x y:ak} {B:Nat} {t:aV} {C:List am} {row:Option Nat} (h:aB x B t C) (hg:x.grownBy y row) (hne:row≠some B):aB y B t C:=(hg.block B h.lt (fun e=>hne e.symm)).trans h
theorem fR {W:ak} {base sz n:Nat} {e:aV} {v:am} {xs:List am} (h:W.ownsRow base e sz v n xs):∃ra c,v=ag ra n c/\(0<n->∃g,ra=some ⟨g,0,none⟩/\g<W.heap.size/\W.rangeAt g 0 xs):=by
 rcases h.2 with⟨rfl,rfl⟩ | ⟨g,cap,cur,rfl,_,hg,_⟩
 ·exact⟨_,_,rfl,fun h=>absurd h (by omega)⟩
 ·refine⟨_,_,rfl,fun _=>⟨g,rfl,(cj.1 hg).1,fun j u hj=> ?_⟩⟩;have:=h.cells (g:=g) rfl j u hj
  rwa [Addr.add_mid]at this
end
section
def mN (h y:Int):Int:=IntKind.u64.wrap (bits BinOp.xor IntKind.u64 h y*1099511628211)
def fH (h:Int) (bs:List Int):Int:=bs.foldl mN h
def jq:Int:=14695981039346656037
def jr (h:Int):Prop:=0<=h/\h<18446744073709551616
theorem qF:jr jq:=by unfold jr jq;omega
theorem tP (x:Int):jr (IntKind.u64.wrap x):=by
 rw[IntKind.wrap_u64];unfold jr;omega
theorem zX (h y:Int):jr (mN h y):=tP _
theorem zY (h y:Int) (bs:List Int):fH h (y::bs)=fH (mN h y) bs:=rfl
theorem zZ (h:Int) (as0 bs:List Int):fH h (as0++bs)=fH (fH h as0) bs:=by simp[fH]
theorem tQ (h:Int) (as0:List Int) (y:Int):fH h (as0++ [y])=mN (fH h as0) y:=by rw[zZ];rfl
theorem z0 {h:Int} (bs:List Int) (hh:jr h):jr (fH h bs):=by
 induction bs generalizing h with
 | nil=>exact hh
 | cons y bs ih=>rw[zY];exact ih (zX h y)
theorem aP.snoc {bs:List Int} {y:Int} (h:aP bs) (hy:0<=y/\y<256):aP (bs++ [y]):=by
 intro j;by_cases hj:j<bs.length
 ·rw[eU hj];exact h j
 ·rw[fF (by omega)];rcases Nat.eq_zero_or_pos (j - bs.length)with e | e
  ·rw[e];simpa using hy
  ·rw[iB (by simp;omega)];simp
theorem tR {y:Int} (hy:0<=y/\y<256):aP [y]:=by
 have:=aP.snoc (bs:= []) (fun j=>by simp) hy
 simpa using this
theorem aP.set {bs:List Int} {y:Int} {k:Nat} (h:aP bs) (hy:0<=y/\y<256):aP (bs.set k y):=by
 intro j;rw[List.getElem?_set];by_cases e:k=j
 ·subst e;by_cases hk:k<bs.length
  ·rw[if_pos rfl,if_pos hk];simpa using hy
  ·rw[if_pos rfl,if_neg hk];simp
 ·rw[if_neg e];exact h j
structure Sct where
 mark:Int
 seq:Int
 index:Int
 body:List Int
structure Sct.Ok (p:Sct):Prop where
 mark:0<=p.mark/\p.mark<256
 seq:0<=p.seq/\p.seq<4294967296
 len:p.body.length=48
 bytes:aP p.body
def Sct.fits (p:Sct):Bool:=decide (p.mark≠0/\0<=p.index/\p.index<=65535)
def Sct.head (p:Sct):List Int:=p.mark::(aH p.seq 4++(aH p.index 2++p.body))
def lY (bs:List Int):Int:=fH jq bs
def Sct.bytes (p:Sct):List Int:=p.head++(aH (lY p.head) 8++ [0])
def Sct.of (bs:List Int):Sct:=⟨bs[0]?.getD 0,cy ((bs.drop 1).take 4),cy ((bs.drop 5).take 2),(bs.drop 7).take 48⟩
def kH:Sct:=⟨0,0,0,bK 48 0⟩
theorem qG (bs:List Int):0<=lY bs/\lY bs<18446744073709551616:=z0 bs qF
theorem aP.app {as0 bs:List Int} (ha:aP as0) (hb:aP bs):aP (as0++bs):=by
 intro j;by_cases hj:j<as0.length
 ·rw[eU hj];exact ha j
 ·rw[fF (by omega)];exact hb _
theorem aP.one {y:Int} {bs:List Int} (hy:0<=y/\y<256) (hb:aP bs):aP (y::bs):=by
 have:=aP.app (tR hy) hb
 simpa using this
theorem aP.cut {bs:List Int} (h:aP bs) (k n:Nat):aP ((bs.drop k).take n):=by
 intro j;rw[List.getElem?_take];split
 ·rw[kf];exact h _
 ·simp
theorem Sct.head_length {p:Sct} (h:p.Ok):p.head.length=55:=by simp[Sct.head,bE,h.len]
theorem Sct.bytes_length {p:Sct} (h:p.Ok):p.bytes.length=64:=by simp[Sct.bytes,Sct.head_length h,bE]
theorem Sct.head_bytes {p:Sct} (h:p.Ok):aP p.head:=aP.one h.mark ((il _ _).app ((il _ _).app h.bytes))
theorem Sct.bytes_bytes {p:Sct} (h:p.Ok):aP p.bytes:=(Sct.head_bytes h).app ((il _ _).app (tR (by omega)))
theorem tT {bs:List Int} (h:0<bs.length):bs.take 1= [bs[0]?.getD 0]:=by
 cases bs with
 | nil=>simp at h
 | cons x l=>simp
theorem jg {bs:List Int} (hb:aP bs) (h:bs.length=64):(Sct.of bs).Ok:=by
 refine⟨hb 0, ?_,by simp[Sct.of,h],hb.cut 7 48⟩;have hl:((bs.drop 1).take 4).length=4:=by simp[h]
 have hn:dz (((bs.drop 1).take 4).length:Int)=4:=by rw[hl];rfl
 have:=kE _ (hb.cut 1 4) 4;show 0<=cy _/\cy _<_;unfold cy;rw[hn]
 simpa using this
theorem qH {bs:List Int} (hb:aP bs) (h:bs.length=64):0<=(Sct.of bs).index/\(Sct.of bs).index<=65535:=by
 have hl:((bs.drop 5).take 2).length=2:=by simp[h]
 have hn:dz (((bs.drop 5).take 2).length:Int)=2:=by rw[hl];rfl
 have:=kE _ (hb.cut 5 2) 2;show 0<=cy _/\cy _<=_;unfold cy;rw[hn];have h2:(2:Int)^(8*2)=65536:=rfl;rw[h2]at this;exact⟨this.1,by omega⟩
theorem Aa {p:Sct} (h:p.Ok) (hi:0<=p.index/\p.index<=65535):Sct.of p.bytes=p:=by
 have hl:=Sct.head_length h;have e0:p.bytes[0]?.getD 0=p.mark:=rfl;have e1:(p.bytes.drop 1).take 4=aH p.seq 4:=by
  unfold Sct.bytes Sct.head;simp[bE]
 have e2:(p.bytes.drop 5).take 2=aH p.index 2:=by
  unfold Sct.bytes Sct.head;rw[dX,be,List.append_assoc,List.drop_append,bE,List.drop_of_length_le (by rw[bE];exact aJ _),dT,Nat.sub_self,bf,List.append_assoc,List.take_append_of_le_length (by rw[bE];exact aJ _),ey (by rw[bE];exact aJ _)]
 have e3:(p.bytes.drop 7).take 48=p.body:=by
  unfold Sct.bytes Sct.head;rw[dX,be,List.append_assoc,List.append_assoc,List.drop_append,bE,List.drop_of_length_le (by rw[bE];omega),dT,List.drop_append,bE,List.drop_of_length_le (by rw[bE];exact aJ _),dT,bf,List.take_append_of_le_length (by rw[h.len];exact aJ _),ey (by rw[h.len];exact aJ _)]
 unfold Sct.of;rw[e0,e1,e2,e3,nV _ h.seq.1 (by have:=h.seq.2;omega),nV _ hi.1 (by omega),if_pos (by omega),if_pos (by omega)];have h4:p.seq%2^(8*4)=p.seq:=Int.emod_eq_of_lt h.seq.1 h.seq.2;have h2:p.index%2^(8*2)=p.index:=Int.emod_eq_of_lt hi.1 (by have:=hi.2;simp only[Nat.reduceMul,Int.reducePow];omega);rw[h4,h2]
end
section
section
variable {l n:Nat} {P:Program} {ops:Array Oper} {Q:Exit->Act->ak->Prop} {md:Region.Mode}
theorem tU {o:Oper} {a:Act} {w:ak} {K:Act->ak->Prop} (hd:∀c,o.op≠ .defer c) (h:o.wp P a w K Q):o.wpIn (Fence.wide.inRound l) n P a w K Q:=by
 unfold Oper.wpIn;refine⟨fun _ _=>trivial, ?_⟩;rw[Oper.semAt_eq _ _ _ hd];unfold Oper.wp at h;generalize (execOp a.eval o).run P w=r at *;cases r with
 | ok x w'=>
  cases x<;>simp only[Oper.upon,Oper.uponIn]at h ⊢<;>
   first
    | exact h
    | exact⟨fun e=>by simp[Fence.wide]at e,CallsIn.inRound l (callsIn_wide.2 h)⟩
    | exact⟨fun e=>by simp[Fence.wide]at e,fun c cs _=>let⟨v,w',r,s⟩:=h c cs;⟨v,w',r,stepsIn_wide.2 s⟩⟩
 | halt x w'=>cases x<;>simp only[Oper.upon,Oper.uponIn]at h ⊢<;>exact h
def jN (ops:Array Oper):Bool:=ops.all fun o=>match o.op with | .defer _=>false | _=>true
theorem qI {i:Nat} {o:Oper} (h:jN ops=true) (hi:ops[i]? =some o):∀c,o.op≠ .defer c:=by
 intro c e;unfold jN at h;rw[Array.all_eq_true]at h;obtain⟨hlt,hk⟩:=cj.1 hi;have:=h i hlt;rw[hk,e]at this;cases this
theorem Ab {i:Nat} {a:Act} {w:ak} {K:Act->ak->Prop} (hL:¬LetsOut Q) (hd:jN ops=true) (h:wpOp P ops Q i K a w):wpOpIn (Fence.wide.inRound l) n P ops Q i K a w:=by
 unfold wpOp at h;unfold wpOpIn;cases ho:ops[i]? with
 | none=>simpa [ho]using h
 | some o=>
  simp only[ho]at h ⊢;by_cases hw:Region.wanted o (yielded ops a.tmps)=true
  ·simp only[hw,if_true]at h ⊢;rcases h with h | h
   ·exact tU (qI hd ho) h
   ·exact absurd h.2 hL
  ·simp only[hw]at h ⊢;exact⟨fun _ _=>trivial,h⟩
theorem qJ (hL:¬LetsOut Q) (hd:jN ops=true):∀(fuel:Nat) (listed:Array Bool) (a:Act) (w:ak),wpAny P md ops Q fuel listed a w->wpAnyIn (Fence.wide.inRound l) n P md ops Q fuel listed a w
 | 0,_,_,_,h=>h
 | fuel+1,listed,a,w,h=>⟨h.1,fun i hi=>wpOpIn_mono (fun a w=>qJ hL hd fuel _ a w) (Ab hL hd (h.2 i hi))⟩
theorem Ac {id:Nat} {a:Act} {w:ak} {l':List Oper} (k:Nat) (hL:¬LetsOut Q) (hd:jN l'.toArray=true) (hm:P.follows .mixedOrders=true) (hB:Region.lexTailB .any l'.toArray k=true)
  (h:wpStill P l'.toArray w.drew (fun a'=>wpList P l'.toArray Q (l'.drop k) a' w.drew) (l'.take k) a):(Code.region id l'.toArray true).wpIn (Fence.wide.inRound l) n P Q a w:=by
 simp only[Region.lexTailB,fN,decide_eq_true_eq]at hB;obtain⟨⟨⟨⟨hsel,hn⟩,hs⟩,hc⟩,hlex⟩:=hB;have htl:(l'.take k).length=k:=by simp at hn ⊢;omega
 have hdl:(l'.drop k).length=l'.toArray.size - k:=by simp
 have inv0:HeadInv .any l'.toArray k (kg l'.toArray.size false):=
  ⟨by simp,fun j oj _ hl=>(by rw[getD_replicate_false]at hl;cases hl),fun t _ ht=>getD_in (by simpa using ht) (getD_replicate_false _ _)⟩
 have H:=wpAnyL_lex (md:=.any) (g:=l'.toArray.size - k) hsel hs hc hn (l'.take k) 0 _ a (fun j hj=>by
  have hj':j<k:=by rw[htl]at hj;exact hj
  simp[hj']) (by simpa using htl) inv0 (by rw[htl];exact hlex) h
 refine wpIn_region_any hm (qJ hL hd _ _ _ _ ?_);have:=wpAny_of_head (Q':=Q) (g:=l'.toArray.size - k) (fun listed a' hL=>by
  have:=wpAny_of_seq (md:=.any) (Q':=Q) (l'.drop k) k listed a' w.drew (fun j=>by simp[kf]) (by rw[hdl];exact hL.1) hL.2
  rwa [hdl]at this) _ _ _ H
 rw[htl,show k+(l'.toArray.size - k)=l'.toArray.size from by simp at hn ⊢;omega]at this;exact this
theorem lZ {id:Nat} (h:¬LetsOut Q):¬LetsOut (Exit.inBlock id Q):=fun⟨a,w,e⟩=>h ⟨a,w,e⟩
end
theorem Ad {F:Fence} {n:Nat} {P:Program} (w:ak) {ops:Array Oper} {rest:List Oper} {o:Oper} {a:Act} {Q:Exit->Act->ak->Prop}
  (hg:o.guard=none) (l c:Operand) (t:aV) (hop:o.op=Op.makeSlice t l c)
  (base:Nat) (e:aV) (i:TypeInfo) (z:am) (size:Nat) (h1:P.underlying t=some (.slice e)) (h2:P.info? e=some i) (h3:i.zero=some z) (h4:i.size=size)
  (kl kc:IntKind) (L C:Int) (m:Nat) (hl:a.eval l=ab kl L) (hc:a.eval c=ab kc C) (hL:L=(m:Int)) (hC:C=(m:Int)) (b2:i.bytes*m<=281474976710656) (b3:m<=aS) (b4:base<=w.heap.size)
  (hK:∀w',w'.ownsRow base e size (ag (some ⟨w.heap.size,0,none⟩) m m) m (madeCells z.cells (m*size)).toList->w.grownBy w' none->wpListIn F n P ops Q rest (a.put o.dst (ag (some ⟨w.heap.size,0,none⟩) m m)) w'):
  wpListIn F n P ops Q (o::rest) a w:=by
 refine wpListIn_plain hg fun K hK'=> ?_;obtain⟨w',hrun,r1,r2⟩:=run_make_full (P:=P) w base t e i z size h1 h2 h3 h4 kl kc m b2 b3 b4;subst hL;subst hC;unfold Oper.wpIn;refine⟨?_, ?_⟩
 ·simp[Oper.about,hop]
 ·rw[Oper.semAt_plain F _ _ (by rw[hop];intro c hc';cases hc')];simp[execOp,hop,hl,hc,hrun,Result.andThen];exact hK' _ _ (hK w' r1 r2)
theorem qK {β:Type} (n₀ e size:Nat) (v:am) (k:β->Nat) (f:β->List am):Own (fun s W=>W.ownsRow n₀ e size v (k s) (f s)):=by
 rintro s X Y row hr hg hrow;refine hr.kept hg ?_;rcases hr.2 with⟨rfl,_⟩ | ⟨g,cap,cur,rfl,_,hgb,_⟩
 ·exact aA rfl
 ·refine aC fun e'=> ?_;obtain⟨o,ho,hc⟩:=hrow g (by simpa [fq]using e'.symm);rw[hgb]at ho;cases ho;cases hc
theorem Ae {w:ak} {base e n g:Nat} {xs:List am} (h:w.ownsRow base e 1 (ag (some ⟨g,0,none⟩) n n) n xs):w.heap[g]? =some (ap xs.toArray e (0,0)):=by
 rcases h.2 with⟨h',_⟩ | ⟨g',cap,cur,h',_,hg,_,_,hs,ht⟩
 ·simp at h'
 ·simp only[Value.slice.injEq,Option.some.injEq,Addr.mk.injEq,and_true,true_and]at h';obtain⟨rfl,rfl⟩:=h';rw[hg,←ht,ey (by rw[Array.length_toList];omega)]
theorem tW (cur cs:List am) (h:cur.length=cs.length):splice cur 0 cs=cs:=by
 unfold splice;simp[h]
theorem wpList_append_run {P:Program} {w w':ak} {ops:Array Oper} {rest:List Oper} {o:Oper} {a:Act} {Q:Exit->Act->ak->Prop} (s x:Operand) (t:aV)
  (ho:o.op=.call {callee:=.builtin .append,args:=#[s,x],argTypes:=#[t,t]}) (hw:Region.wanted o (yielded ops a.tmps)=true)
  (vs vx v':am) (hs:a.eval s=vs) (hx:a.eval x=vx) (hrun:(Builtin.append_ #[t,t] o.type #[vs,vx]).run P w=.ok v' w')
  (h:wpList P ops Q rest (a.put o.dst v') w'):wpList P ops Q (o::rest) a w:=by
 unfold wpList;rw[if_pos hw];refine aA ?_;unfold Oper.wp;simp[execOp,ho,resolve,invoke,builtin,hs,hx,hrun,Result.andThen];exact h
theorem tX {P:Program} {w w':ak} {ops:Array Oper} {rest:List Oper} {o:Oper} {a:Act} {Q:Exit->Act->ak->Prop} (s:Operand) (t:aV) (lo hi:Option Operand)
  (ho:o.op=.slice t s lo hi none) (hw:Region.wanted o (yielded ops a.tmps)=true)
  (vs v':am) (l h:Option am) (hs:a.eval s=vs) (hl:lo.map a.eval=l) (hh:hi.map a.eval=h) (hrun:(Instr.sliceAt t vs l h none).run P w=.ok v' w')
  (hK:wpList P ops Q rest (a.put o.dst v') w'):wpList P ops Q (o::rest) a w:=by
 unfold wpList;rw[if_pos hw];refine aA ?_;unfold Oper.wp;simp[execOp,ho,hs,hl,hh,hrun,Result.andThen];exact hK
theorem tY (k:Nat) {P:Program} {ops:Array Oper} {Q:Exit->Act->ak->Prop} {rest:List Oper} {a:Act} {w:ak} {dst:Option Tmp} {t ty:aV} {lo hi mx:Option Operand} {pos:String} {after:Array Edge} {guard:Option (Nat×Bool)}
  (h:wpList P ops Q ({dst:=dst,op:=.slice t (.tmp k) lo hi mx,type:=ty,pos:=pos,after:=after,guard:=guard}::rest) a w):
  wpList P ops Q ({dst:=dst,op:=.slice t (.tmp k) lo hi mx,type:=ty,pos:=pos,after:=after,guard:=guard}::rest) a w:=h
theorem nZ {α:Type} {Kp:ak->ak->Prop} {I:List α->ak->Prop} {Ix:Code->List α->ak->Prop} {xs:List α} {W:ak}:¬LetsOut (ownPostK Kp I Ix xs W):=fun⟨a,w,e⟩=>e.elim
end
section
theorem ln:(aj.info? 5).map (fun i=>(i.zero,i.size,i.bytes))=some (some (ab aq 0),1,1):=by kernel_rfl
theorem oa:(aj.info? 5).map (·.size)=some 1:=by kernel_rfl
def lp (w:ak) (a:Option aN) (len:Nat) (bs:List Int):Prop:=
 len=0\/∃b off,a=some ⟨b,off,none⟩/\b<w.heap.size/\∀j,j<len->w.cell? ⟨b,off+j,none⟩=some (ab aq (bs[j]?.getD 0))
theorem tZ {w w1:ak} {a:Option aN} {len e:Nat} {bs:List Int} (HL:Hid (bs.length=len)) (hA:Hid (lp w a len bs))
  (hown1:w1.ownsRow w.heap.size e 1 (ag (some ⟨w.heap.size,0,none⟩) len len) len (madeCells (Value.int aq 0).cells (len*1)).toList) (hgrow1:w.grownBy w1 none):
  w9h w w1/\Hid (w1.heap[w.heap.size]? =some (ap (bK len (Value.int aq 0)).toArray e (0,0)))/\
  Hid (0< (bs.map (Value.int aq)).length->some (⟨w.heap.size,0,none⟩:aN)=some ⟨w.heap.size,0,none⟩/\∃ad,a=some ad/\∀j v,(bs.map (Value.int aq))[j]? =some v->w1.cell? (ad.add j)=some v):=by
 have hB1:w9b w w1:=(aF _ w).grown hgrow1 (aJ _) (fun k e=>by cases e);refine⟨hB1, ?_, ?_⟩
 ·rw[show(Value.int aq 0).cells=#[ab aq 0]from rfl,toList_madeCells_one,Nat.mul_one]at hown1;exact Ae hown1
 ·intro h0;rw[fZ,HL.out]at h0;rcases hA.out with h | ⟨b,off,e,hb,hc⟩
  ·omega
  ·refine⟨rfl,_,e,fun j v hj=> ?_⟩;have hjl:j<len:=by
    have:=(dp.1 hj).1
    rwa [fZ,HL.out]at this
   have hplain:(⟨b,off,none⟩:aN).add j=⟨b,off+j,none⟩:=by unfold Addr.add;split<;>simp_all
   rw[hplain,hB1.cell (p:=⟨b,off+j,none⟩) hb,hc j hjl];rw[du,bJ (by rw[HL.out];exact hjl)]at hj;rw[bJ (by rw[HL.out];exact hjl)];exact hj
theorem ua {len:Nat} {bs:List Int} (HL:Hid (bs.length=len)):Hid ((bs.map (Value.int aq)).length=Nat.min len len):=by
 show _=_;rw[fZ,HL.out];exact(Nat.min_self _).symm
theorem ub {bs:List Int}:Hid (∀v ∈ bs.map (Value.int aq),v.oneCell'=true):=by
 intro v hv;obtain⟨x,_,rfl⟩:=dc.1 hv
 rfl
theorem lp.of_sl {w:ak} {v:am} {bs:List Int} (h:Sl aq w v bs):∃a cap,v=ag a bs.length cap/\lp w a bs.length bs/\bs.length<=aS:=by
 obtain⟨a,cap,rfl,h1,h2,h,_⟩:=h;refine⟨a,cap,rfl, ?_,aZ h1 h2⟩;rcases h with rfl | h
 ·exact aA rfl
 ·exact aC h
theorem l6 (bs:List Int) (k j:Nat):(bs.drop k)[j]?.getD 0=bs[k+j]?.getD 0:=by rw[kf]
theorem l9 (bs:List Int) (k j:Nat) (h:j<k):(bs.take k)[j]?.getD 0=bs[j]?.getD 0:=by rw[List.getElem?_take,if_pos h]
theorem fS {w w':ak} (h:w9b w w') (row:Option Nat):w.grownBy w' row:=⟨h.os,h.tape,h.output,h.size,fun k hk _=>h.block k hk⟩
theorem uc {a b c:ak} {row:Option Nat} (h:a.grownBy b row) (k:b.grownBy c row):a.grownBy c row:=
 ⟨k.os.trans h.os,k.tape.trans h.tape,k.output.trans h.output,aZ h.size k.size,fun i hi hn=>(k.block i (aU hi h.size) hn).trans (h.block i hi hn)⟩
theorem aP.take {bs:List Int} (h:aP bs) (k:Nat):aP (bs.take k):=by
 intro j;by_cases hj:j<k
 ·rw[l9 bs k j hj];exact h j
 ·rw[iB (by simp;omega)];simp
theorem aP.drop {bs:List Int} (h:aP bs) (k:Nat):aP (bs.drop k):=by
 intro j;rw[l6];exact h _
theorem Sl.of_owns {w:ak} {base:Nat} {v:am} {bs:List Int} (h:w.ownsRow base 5 1 v bs.length (bs.map (Value.int aq))):Sl aq w v bs:=by
 rcases h.2 with⟨rfl,h0⟩ | ⟨g,cap,cur,rfl,_,hg,h1,h2,h3,h4⟩
 ·obtain rfl:=je h0;exact Sl.nil _ _
 ·refine Sl.at (off:=0) h1 h2 (cj.1 hg).1 fun j hj=> ?_;rw[cl _ _ _ _ _ _ hg];have e:(cur.toList.take (bs.length*1))[0+j]? =(bs.map (Value.int aq))[0+j]? :=by rw[h4]
  rw[List.getElem?_take,if_pos (by omega)]at e;rw[←Array.getElem?_toList,e];simp[hj]
theorem kn {W:ak} {g:Nat} {xs:List Int} (h:W.heap[g]? =some (ap (xs.map (Value.int aq)).toArray 5 (0,0))) (hm:xs.length<=aS):
  Sl aq W (ag (some ⟨g,0,none⟩) xs.length xs.length) xs:=by
 refine Sl.at (off:=0) (aJ _) hm (cj.1 h).1 fun j hj=> ?_;rw[cl _ _ _ _ _ _ h];simp[hj]
set_option maxRecDepth 100000 in
theorem ud {w:ak} {v:am} {xs:List Int} (h:Sl aq w v xs):(convert 76 9 v).run aj w=.ok (.string (strOfNums xs)) w:=by
 obtain⟨a,cap,rfl,h1,h2,h,_⟩:=h;rcases h with rfl | ⟨b,off,rfl,h3,h4⟩
 ·cases a with
  | none=>exact run_convert_bytes_nil w 76 5 Tryz.underlying76 Tryz.underlying5 0 cap 9 Tryz.underlying9
  | some x=>
   rw[run_convert_bytes_string w 76 9 5 _ _ cap Tryz.underlying76 Tryz.underlying5 Tryz.underlying9,run_bytesToString w x _ cap [] (by have:=run_loadCells_list (P:=aj) w x [] (fun j v hj=>by simp at hj);simpa using this)]
   rfl
 ·exact run_convert_bytes_arg w 76 5 Tryz.underlying76 Tryz.underlying5 b off _ cap xs rfl (fun i hi=>by rw[List.getD_eq_getElem?_getD];exact h4 i hi) 9 Tryz.underlying9
set_option maxRecDepth 100000 in
theorem mO (base:Nat) (w:ak) (v:am) (xs:List Int) (hown:w.ownsRow base 5 1 v xs.length (xs.map (Value.int aq))) (x:am) (bs:List Int) (hx:Sl aq w x bs)
  (hlen:xs.length+bs.length<=140737488355328) (hbase:base<=w.heap.size):
  ∃v' w',(Builtin.append_ #[76, 76] 76 #[v,x]).run aj w=.ok v' w'/\w'.ownsRow base 5 1 v' (xs++bs).length ((xs++bs).map (Value.int aq))/\w.grownBy w' v.ownBlock:=by
 obtain⟨i0,hi,hz0,hz1,hz2⟩:=eJ ln;obtain⟨a,cap,rfl,h1,h2,h,hnil⟩:=hx;have hap:∀ad,a=some ad->(∀j u,(bs.map (Value.int aq))[j]? =some u->w.cell? (ad.add j)=some u)->∃v' w',(Builtin.append_ #[76, 76] 76 #[v,ag a bs.length cap]).run aj w=.ok v' w'/\w'.ownsRow base 5 1 v' (xs++bs).length ((xs++bs).map (Value.int aq))/\w.grownBy w' v.ownBlock:=by
  rintro ad rfl hc;obtain⟨v',w',hr,ho,hg,_⟩:=run_append_own (P:=aj) w base 76 76 5 i0 (ab aq 0) 1 1 Tryz.underlying76 hi hz0 hz1 hz2 rfl (by decide) v xs.length _ hown ad bs.length cap (bs.map (Value.int aq)) (by simp) hc
   (fun u hu=>by obtain⟨y,_,rfl⟩:=dc.1 hu;rfl) (by unfold aS;omega) (by omega) hbase
  exact⟨v',w',hr,by rw[cX,fp];exact ho,hg⟩
 rcases h with rfl | ⟨b,off,rfl,h3,h4⟩
 ·cases a with
  | some ad=>exact hap ad rfl (fun j u hj=>by simp at hj)
  | none=>
   obtain rfl:=hnil rfl;exact⟨v,w,run_append_owned_none (P:=aj) (w:=w) base 76 76 5 i0 1 Tryz.underlying76 hi v xs.length _ hown,by simpa using hown,World.grownBy.refl _ _⟩
 ·refine hap _ rfl fun j u hj=> ?_;have hjl:j<bs.length:=by
   have:=(dp.1 hj).1
   rwa [fZ]at this
  have hplain:(⟨b,off,none⟩:aN).add j=⟨b,off+j,none⟩:=by unfold Addr.add;split<;>simp_all
  rw[hplain,h4 j hjl];rw[du,bJ hjl]at hj;rw[bJ hjl];exact hj
theorem mP (w:ak) (x:am) (bs:List Int) (hx:Sl aq w x bs) (hlen:bs.length<=140737488355328):
  ∃v' w',Hid ((Builtin.append_ #[76, 76] 76 #[ag (some ⟨w.heap.size,0,none⟩) 0 0,x]).run aj (w.alloc (ap #[] 5))=.ok v' w')/\Hid (w'.ownsRow w.heap.size 5 1 v' bs.length (bs.map (Value.int aq)))/\Hid (ah w.heap.size w w'):=by
 have ho0:(w.alloc (ap #[] 5)).ownsRow w.heap.size 5 1 (ag (some ⟨w.heap.size,0,none⟩) 0 0) ([]:List Int).length (([]:List Int).map (Value.int aq)):=World.ownsRow_lit w #[] 0 (aJ _) (by unfold aS;omega) rfl;obtain⟨v3,w3,hrun,ho3,hg3⟩:=mO w.heap.size (w.alloc (ap #[] 5)) _ [] ho0 x bs (hx.below ((aF _ _).alloc (aJ _) _)) (by simp;omega) (by simp);have hgB:w9b w w3:=((aF _ _).alloc (aJ _) _).grown hg3 (by simp) (fun k e=>by simp[fq]at e;omega);exact⟨v3,w3,hrun,ae (by simpa using ho3),hgB⟩
theorem oc:aj.underlying 76 =some (.slice (aj.elem 76)):=by kernel_rfl
theorem ue (W:ak):(sizeOf (aj.elem 76)).run aj W=.ok 1 W:=by kernel_rfl
theorem uf (ra:Option aN):(ra.map fun x=>x.add 0)=ra:=by cases ra<;>simp[Addr.add]
theorem Af {ra:Option aN} {R rc K:Nat} {rest:List Int} {w0:ak} (h:Sl aq w0 (ag ra R rc) rest) (hK:K<=R):
  (∀W:ak,(Instr.sliceAt 76 (ag ra R rc) none (some (ab af (K:Int))) none).run aj W=.ok (ag ra K rc) W)/\∀W:ak,Sl aq W (ag ra R rc) rest->Sl aq W (ag ra K rc) (rest.take K):=by
 obtain⟨a,cap,e,h1,h2,_,h4⟩:=h;simp only[Value.slice.injEq]at e;obtain⟨rfl,rfl,rfl⟩:=e;refine⟨fun W=> ?_,fun W hW=> ?_⟩
 ·rw[run_sliceAt_slice (h:=oc),run_slice_h (ht:=oc) (kh:=af) (h0:=by omega) (h2:=by omega),ue];simp only[Result.andThen,sliced,gO,Nat.zero_mul,uf,ite_self,Nat.sub_zero]
 ·obtain⟨a,cap,e,h1,h2,h3,h4⟩:=hW;simp only[Value.slice.injEq]at e;obtain⟨rfl,_,rfl⟩:=e;have htl:(rest.take K).length=K:=by rw[fd];omega
  refine⟨ra,rc,by rw[htl],by omega,h2, ?_,h4⟩;rcases h3 with rfl | ⟨b,off,e,h5,h6⟩
  ·exact aA (by simp)
  ·exact aC ⟨b,off,e,h5,fun j hj=>by rw[htl]at hj;rw[l9 _ _ _ hj];exact h6 j (by omega)⟩
theorem sl_lo {ra:Option aN} {R rc K:Nat} {rest:List Int} {w0:ak} (h:Sl aq w0 (ag ra R rc) rest) (hK:K<=R):
  ∃ra',(∀W:ak,(Instr.sliceAt 76 (ag ra R rc) (some (ab af (K:Int))) none none).run aj W=.ok (ag ra' (R - K) (rc - K)) W)/\∀W:ak,Sl aq W (ag ra R rc) rest->Sl aq W (ag ra' (R - K) (rc - K)) (rest.drop K):=by
 obtain⟨a,cap,e,h1,h2,_,h4⟩:=h;simp only[Value.slice.injEq]at e;obtain⟨rfl,rfl,rfl⟩:=e;refine⟨if rc=K then ra else ra.map fun x=>x.add K,fun W=> ?_,fun W hW=> ?_⟩
 ·rw[run_sliceAt_slice (h:=oc),run_slice_l (ht:=oc) (kl:=af) (h0:=by omega) (h1:=by omega),ue];simp only[Result.andThen,sliced,gO,Nat.mul_one]
 ·obtain⟨a,cap,e,h1,h2,h3,h4⟩:=hW;simp only[Value.slice.injEq]at e;obtain⟨rfl,_,rfl⟩:=e;refine⟨_,rc - K,by rw[dx],by rw[dx];omega,by omega, ?_, ?_⟩
  ·by_cases h0:rest.length=K
   ·exact aA (List.drop_of_length_le (by omega))
   ·rcases h3 with rfl | ⟨b,off,rfl,h5,h6⟩
    ·exact aA (by simp)
    ·refine aC ⟨b,off+K, ?_,h5,fun j hj=> ?_⟩
     ·rw[if_neg (by omega)];show some _=_
      congr 1
      unfold Addr.add;split<;>simp_all
     ·rw[dx]at hj;rw[l6,Nat.add_assoc];exact h6 (K+j) (by omega)
  ·intro e;split at e
   ·omega
   ·have:=h4 (by simpa using e);omega
theorem Ag {ra:Option aN} {R rc K:Nat} {rest:List Int} {W:ak} (hW:Sl aq W (ag ra R rc) rest) (hK:K<=R):
  Sl aq W (ag (if rc=K then ra else ra.map fun x=>x.add K) (R - K) (rc - K)) (rest.drop K):=by
 obtain⟨a,cap,e,h1,h2,h3,h4⟩:=hW;simp only[Value.slice.injEq]at e;obtain⟨rfl,rfl,rfl⟩:=e;refine⟨_,rc - K,by rw[dx],by rw[dx];omega,by omega, ?_, ?_⟩
 ·by_cases h0:rest.length=K
  ·exact aA (List.drop_of_length_le (by omega))
  ·rcases h3 with rfl | ⟨b,off,rfl,h5,h6⟩
   ·exact aA (by simp)
   ·refine aC ⟨b,off+K, ?_,h5,fun j hj=> ?_⟩
    ·rw[if_neg (by omega)];show some _=_
     congr 1
     unfold Addr.add;split<;>simp_all
    ·rw[dx]at hj;rw[l6,Nat.add_assoc];exact h6 (K+j) (by omega)
 ·intro e;split at e
  ·omega
  ·have:=h4 (by simpa using e);omega
def aI (W:ak):Type:={w:ak // ah W.heap.size W w}
instance (W:ak):Nonempty (aI W):=⟨⟨W,aF _ _⟩⟩
theorem ko {P:Program} {id:Nat} {Q:Exit->Act->ak->Prop} {a:Act} {w:ak} {l:List Oper} (hm:P.follows .mixedOrders=true) (hB:Region.lexB .any l.toArray=true)
  (h:wpQuiet P l.toArray (fun w'=>∃x:aI w,w'=x.1) (fun a'=>∀x:aI w,Q .normal a' x.1) l a):(Code.region id l.toArray true).wp P Q a w:=by
 refine wp_region_quiet (C:=fun w'=>∃x:aI w,w'=x.1) hm hB ⟨⟨w.drew,(aF _ w).drew⟩,rfl⟩ ?_;have:(fun a'=>∀w',(∃x:aI w,w'=x.1)->Q .normal a' w')=fun a'=>∀x:aI w,Q .normal a' x.1:=by
  funext a'
  exact propext ⟨fun h x=>h _ ⟨x,rfl⟩,fun h w' ⟨x,e⟩=>e▸h x⟩
 rw[this]
 simpa using h
theorem mQ {P:Program} {f:FuncId} {args:Array am} {W:ak} {v:am} (x:aI W) (h:az P f args x.1 fun e w'=>e=ar v/\ah x.1.heap.size x.1 w'):
  az P f args x.1 fun e w''=>e=ar v/\∃y:aI W,w''=y.1:=
 h.mono fun e w' ⟨h1,h2⟩=>⟨h1,⟨w',x.2.trans (h2.mono x.2.size)⟩,rfl⟩
theorem aI.cell {W:ak} (x:aI W) {p:aN} (h:p.block<W.heap.size):x.1.cell? p=W.cell? p:=x.2.cell h
end
section
def me:Op->Bool
 | .move _ | .assign _ | .pick .. | .load .. | .binOp .. | .unOp .. | .convert .. | .fieldAddr .. | .field .. | .indexAddr .. | .index .. | .extract .. | .build .. | .slice .. | .nilCheck _=>true
 | .call {callee:=.builtin .len,..}=>true
 | _=>false
theorem qL {α:Type} {s:Result α} {f:α->am} {n:Next} {w':ak} (h:(s.andThen fun v w=>Result.ok (Next.value (f v)) w)=.ok n w'):∃v,n=.value v:=by
 cases s with
 | ok v w=>simp[Result.andThen]at h;exact⟨_,h.1.symm⟩
 | halt x w=>simp[Result.andThen]at h
theorem ug {α:Type} {s:Result α} {g:α->ak->Result Next} {n:Next} {w':ak} (hg:∀a w n w',g a w=.ok n w'->∃v,n=.value v) (h:s.andThen g=.ok n w'):∃v,n=.value v:=by
 cases s with
 | ok v w=>exact hg _ _ _ _ h
 | halt x w=>simp[Result.andThen]at h
section
variable {P:Program} {ops:Array Oper} {Q:Exit->Act->ak->Prop} {md:Region.Mode} {S:ak->Prop}
theorem Ah {o:Oper} {ρ:Operand->am} {w w':ak} {n:Next} (h:me o.op=true) (hr:(execOp ρ o).run P w=.ok n w'):∃v,n=.value v:=by
 obtain⟨dst,op,ty,pos,aft,gd⟩:=o;cases op;case nilCheck x=>
  unfold execOp at hr
  dsimp only at hr
  revert hr;split
  ·intro hr;simp[runtimePanic]at hr
  ·intro hr;simp[runtimePanic]at hr
  ·intro hr;simp[runtimePanic]at hr
  ·split
   ·intro hr;simp[runtimePanic]at hr
   ·intro hr;simp only[gR]at hr;refine ug (fun a w n w' hr=>ug (fun a w n w' hr=> ?_) hr) hr;split at hr
    ·simp[unsupported]at hr
    ·simp at hr;exact⟨_,hr.1.symm⟩
   ·intro hr;simp at hr;exact⟨_,hr.1.symm⟩
  ·intro hr;simp at hr;exact⟨_,hr.1.symm⟩
 case call c=>
  obtain⟨callee,args,at_⟩:=c;cases callee<;>simp[me]at h
  rename_i b;cases b<;>simp at h
  simp only[execOp,gR,resolve,invoke,builtin,Sem.run_pure,ed]at hr;exact qL (f:=id) hr
 all_goals first
  | (simp[me]at h;done)
  | (simp only[execOp,gR,Sem.run_pure]at hr;exact qL (f:=id) hr)
  | (simp only[execOp,gR,Sem.run_pure]at hr;exact qL hr)
  | (simp[execOp]at hr;exact⟨_,hr.1.symm⟩)
  | skip
theorem od {i:Nat} {o:Oper} {a:Act} {K:Act->Prop} (hrd:me o.op=true) (hne:∃w,S w) (h:if Region.wanted o (yielded ops a.tmps)then o.quiet P a S K else K (a.put o.dst aK)):
  ∃v,YieldsIf P ops S o v a/\K (a.put o.dst v):=by
 by_cases hw:Region.wanted o (yielded ops a.tmps)=true
 ·rw[if_pos hw]at h;obtain⟨v,h1,h2⟩:=h;refine⟨v,aA ⟨hw,fun w hS=> ?_⟩,h2⟩;have h3:=h1 w hS;unfold Oper.quietAt at h3;cases hr:(execOp a.eval o).run P w with
  | ok n w'=>
   obtain⟨u,rfl⟩:=Ah hrd hr;rw[hr]at h3;obtain⟨rfl,rfl⟩:=h3
   rfl
  | halt x w'=>rw[hr]at h3;exact h3.elim
 ·rw[if_neg hw]at h;exact⟨aK,aC ⟨by simpa using hw,rfl⟩,h⟩
def jh (P:Program) (md:Region.Mode) (ops:Array Oper) (Q:Exit->Act->ak->Prop) (S:ak->Prop) (n:Nat) (L:Array Bool->Act->ak->Prop):Nat->Array Bool->Act->ak->Prop
 | 0,listed,a,w=>L listed a w
 | f+1,listed,a,w=>Region.ready md ops listed≠ []/\∀i ∈ Region.ready md ops listed,i<n/\wpOp P ops Q i (fun a' w'=>S w'/\jh P md ops Q S n L f (listed.setIfInBounds i true) a' w') a w
theorem oe {n g:Nat} {L:Array Bool->Act->ak->Prop} (hL:∀listed a w,L listed a w->wpAny P md ops Q g listed a w):
  ∀(f:Nat) (listed:Array Bool) (a:Act) (w:ak),jh P md ops Q S n L f listed a w->wpAny P md ops Q (f+g) listed a w
 | 0,listed,a,w,h=>by rw[dC];exact hL _ _ _ h
 | f+1,listed,a,w,h=>by
  rw[show f+1+g=(f+g)+1 by omega];exact⟨fun h0=>absurd h0 h.1,fun i hi=>wpOp_mono (fun a' w' h'=>oe hL f _ a' w' h'.2) (h.2 i hi).2⟩
theorem uh {n i:Nat} {oi:Oper} {v:am} {L:Array Bool->Act->ak->Prop} (hi:ops[i]? =some oi) (hsel:∀(j:Nat) (o:Oper) cs b,ops[j]? =some o->o.op≠ .select cs b)
  (hQ:∀c a w,Q (.panic c) (a.put oi.dst v) w->Q (.panic c) a w)
  (hs:Region.sinkB md ops n=true) (hc:Region.chainB md ops n=true) (hn:n<ops.size) (hin:i<n)
  (hdone:∀listed a w,L listed a w->∀j ∈ Region.ready md ops listed,n<=j):
  ∀(f:Nat) (listed:Array Bool) (a:Act) (w:ak),HeadInv md ops n listed->
   (∀j oj,ops[j]? =some oj->j≠i->listed.getD j true=false->(∀e ∈ oj.after,Region.binds md e=true->e.on≠i)->oi.apart ops oj=true)->
   i ∈ Region.ready md ops listed->YieldsIf P ops S oi v a->S w->
   jh P md ops Q S n L f (listed.setIfInBounds i true) (a.put oi.dst v) w->jh P md ops Q S n L (f+1) listed a w:=by
 intro f
 induction f with
 | zero=>
  intro listed a w inv _ hr hy hS H;have hun:=(mem_ready.1 hr).1;refine⟨fun h=>(by rw[h]at hr;cases hr),fun j hj=> ?_⟩;have hjn:j<n:=by
   rcases Nat.lt_or_ge j n with h | h
   ·exact h
   ·exact absurd hj (tail_waits hs hc hn inv _ i rfl hin hun j h)
  refine⟨hjn, ?_⟩;by_cases hji:j=i
  ·subst hji;exact hy.wpOp hi hS ⟨hS,H⟩
  ·have:=hdone _ _ _ H j (ready_mono hj hji);omega
 | succ f ih=>
  intro listed a w inv hfree hr hy hS H;have hun:=(mem_ready.1 hr).1;refine⟨fun h=>(by rw[h]at hr;cases hr),fun j hj=> ?_⟩;have hjn:j<n:=by
   rcases Nat.lt_or_ge j n with h | h
   ·exact h
   ·exact absurd hj (tail_waits hs hc hn inv _ i rfl hin hun j h)
  refine⟨hjn, ?_⟩;by_cases hji:j=i
  ·subst hji;exact hy.wpOp hi hS ⟨hS,H⟩
  ·have h1:=(H.2 j (ready_mono hj hji)).2;obtain⟨hjun,oj,hoj,hall⟩:=mem_ready.1 hj;have hnot:∀e ∈ oj.after,Region.binds md e=true->e.on≠i:=fun e he hb heq=>by
    have h1:=hall e he hb;rw[heq,getD_both hun]at h1;cases h1
   have h2:=wpOp_putIf hoj (hfree j oj hoj hji hjun hnot) (fun cs b=>hsel i oi cs b hi) (fun cs b=>hsel j oj cs b hoj) hQ hy h1;have hfree':∀k ok,ops[k]? =some ok->k≠i->(listed.setIfInBounds j true).getD k true=false->
     (∀e ∈ ok.after,Region.binds md e=true->e.on≠i)->oi.apart ops ok=true:=fun k ok hk hki hun hno=>by
    refine hfree k ok hk hki ?_ hno;by_cases hjk:j=k
    ·subst hjk;exact hjun
    ·rw[getD_set_ne true hjk]at hun;exact hun
   refine wpOp_mono (fun a' w' h3=>⟨h3.2.1,ih (listed.setIfInBounds j true) a' w' (inv.set hj hjn) hfree' (ready_mono hr (Ne.symm hji)) h3.1 h3.2.1 ?_⟩) h2;rw[Array.setIfInBounds_comm _ _ hji];exact h3.2.2
inductive Plan where
 | leaf
 | take (i:Nat) (next:Plan)
 | one (i:Nat) (next:Plan)
 | two (i j:Nat) (next1 next2:Plan)
def cQ:List Oper->Nat->Oper
 | [],_=>{dst:=none,op:=.move (.tmp 0),type:=0,pos:= "",after:=#[],guard:=none}
 | o::_,0=>o
 | _::l,n+1=>cQ l n
theorem au (o:Oper) (l:List Oper):cQ (o::l) 0=o:=rfl
theorem ay (o:Oper) (l:List Oper) (n:Nat):cQ (o::l) (n+1)=cQ l n:=rfl
theorem mf:∀(l:List Oper) (i:Nat),i<l.length->l[i]? =some (cQ l i)
 | [],_,h=>by simp at h
 | o::l,0,_=>rfl
 | o::l,n+1,h=>by rw[kC];exact mf l n (by simpa using h)
def eZ (S:ak->Prop) (Q:Exit->Act->ak->Prop) (K:Act->ak->Prop):Exit->Act->ak->Prop
 | .normal,a,w=>S w/\K a w
 | .ret,a,w=>Q .ret a w
 | .exit i,a,w=>Q (.exit i) a w
 | .goto t,a,w=>Q (.goto t) a w
 | .panic c,a,w=>Q (.panic c) a w
 | .outgrown,a,w=>Q .outgrown a w
def fh (P:Program) (l:List Oper) (Q:Exit->Act->ak->Prop) (S:ak->Prop) (n:Nat):Plan->Act->ak->Prop
 | .leaf,a,w=>wpList P l.toArray Q (l.drop n) a w
 | .take i next,a,w=>wpQuiet P l.toArray S (fun a'=>fh P l Q S n next a' w) [cQ l i] a
 | .one i next,a,w=>wpList P l.toArray (eZ S Q (fh P l Q S n next)) [cQ l i] a w
 | .two i j n1 n2,a,w=>wpList P l.toArray (eZ S Q (fh P l Q S n n1)) [cQ l i] a w/\wpList P l.toArray (eZ S Q (fh P l Q S n n2)) [cQ l j] a w
def Plan.takes:List Nat->Plan->Plan
 | [],p=>p
 | i::l,p=>.take i (Plan.takes l p)
def gl (md:Region.Mode) (l:List Oper) (n:Nat):Plan->Nat->Array Bool->Bool
 | .leaf,f,listed=>decide (f=0)&&Region.seqB md l.toArray (l.length - n) n listed
 | .take i next,f,listed=>decide (0<f)&&decide (i<n)&&me (cQ l i).op&&(Region.ready md l.toArray listed).contains i&&Region.free md l.toArray listed i&&gl md l n next (f - 1) (listed.setIfInBounds i true)
 | .one i next,f,listed=>decide (0<f)&&decide (i<n)&&decide (Region.ready md l.toArray listed= [i])&&gl md l n next (f - 1) (listed.setIfInBounds i true)
 | .two i j n1 n2,f,listed=>decide (0<f)&&decide (i<n)&&decide (j<n)&&decide (Region.ready md l.toArray listed= [i,j])&&gl md l n n1 (f - 1) (listed.setIfInBounds i true)&&gl md l n n2 (f - 1) (listed.setIfInBounds j true)
theorem cu {l:List Oper} {n:Nat} {a:Act} {w:ak}:fh P l Q S n .leaf a w=wpList P l.toArray Q (l.drop n) a w:=rfl
theorem og {l:List Oper} {n i:Nat} {p:Plan} {a:Act} {w:ak}:fh P l Q S n (.take i p) a w=wpQuiet P l.toArray S (fun a'=>fh P l Q S n p a' w) [cQ l i] a:=rfl
theorem aT {l:List Oper} {n i:Nat} {p:Plan} {a:Act} {w:ak}:fh P l Q S n (.one i p) a w=wpList P l.toArray (eZ S Q (fh P l Q S n p)) [cQ l i] a w:=rfl
theorem bo {l:List Oper} {n:Nat} {p:Plan} {a:Act} {w:ak}:fh P l Q S n (.takes [] p) a w=fh P l Q S n p a w:=rfl
theorem bj {l:List Oper} {n i:Nat} {is:List Nat} {p:Plan} {a:Act} {w:ak}:fh P l Q S n (.takes (i::is) p) a w=wpQuiet P l.toArray S (fun a'=>fh P l Q S n (.takes is p) a' w) [cQ l i] a:=rfl
theorem Ai {o:Oper} {a:Act} {w:ak} {K:Act->ak->Prop} {Q':Exit->Act->ak->Prop} (hp:∀c a w,Q' (.panic c) a w->Q (.panic c) a w) (ho:∀a w,Q' .outgrown a w->Q .outgrown a w) (h:o.wp P a w K Q'):o.wp P a w K Q:=by
 unfold Oper.wp at *;generalize (execOp a.eval o).run P w=r at *;cases r with
 | ok n w'=>
  cases n<;>simp only[Oper.upon]at h ⊢<;>
   first
    | exact h
    | exact Calls.mono h (fun e w'' he=>by cases e<;>first | exact he | exact hp _ _ _ he | (obtain⟨a',w',h'⟩:=he;exact⟨a',w',ho _ _ h'⟩))
 | halt x w'=>cases x<;>simp only[Oper.upon]at h ⊢<;>first | exact h | exact hp _ _ _ h | exact ho _ _ h
theorem js {l:List Oper} {i:Nat} {K:Act->ak->Prop} {a:Act} {w:ak} (hi:i<l.length) (h:wpList P l.toArray (eZ S Q K) [cQ l i] a w):
  wpOp P l.toArray Q i (fun a' w'=>S w'/\K a' w') a w:=by
 have ho:l.toArray[i]? =some (cQ l i):=by simpa using mf l i hi
 unfold wpOp;simp only[ho];unfold wpList at h;by_cases hw:Region.wanted (cQ l i) (yielded l.toArray a.tmps)=true
 ·rw[if_pos hw]at h ⊢;rcases h with h | ⟨h1,a',w',h2⟩
  ·exact aA (Ai (fun _ _ _ h=>h) (fun _ _ h=>h) h)
  ·exact aC ⟨h1,a',w',h2⟩
 ·rw[if_neg hw]at h ⊢;exact h
theorem Aj {l:List Oper} {n:Nat} (hsel:Region.noSelect l.toArray=true) (hs:Region.sinkB md l.toArray n=true) (hc:Region.chainB md l.toArray n=true) (hn:n<l.length) (hQ:∀c (x:Option Tmp) v a w,Q (.panic c) (a.put x v) w->Q (.panic c) a w):
  ∀(p:Plan) (f:Nat) (listed:Array Bool) (a:Act) (w:ak),HeadInv md l.toArray n listed->gl md l n p f listed=true->S w->fh P l Q S n p a w->
   jh P md l.toArray Q S n (fun listed' a' w'=>Region.seqB md l.toArray (l.length - n) n listed'=true/\wpList P l.toArray Q (l.drop n) a' w') f listed a w:=by
 have hn':n<l.toArray.size:=by simpa using hn
 intro p
 induction p with
 | leaf=>
  intro f listed a w inv hB hS h;simp only[gl,fN,decide_eq_true_eq]at hB;obtain⟨rfl,hB⟩:=hB;exact⟨hB,h⟩
 | take i next ih=>
  intro f listed a w inv hB hS h;simp only[gl,fN,decide_eq_true_eq]at hB;obtain⟨⟨⟨⟨⟨hf,hin⟩,hrd⟩,hr⟩,hfr⟩,hB⟩:=hB;obtain⟨f,rfl⟩:∃g,f=g+1:=⟨f - 1,by omega⟩;have ho:l.toArray[i]? =some (cQ l i):=by simpa using mf l i (by omega)
  have hr':i ∈ Region.ready md l.toArray listed:=by simpa using hr
  simp only[fh,wpQuiet]at h;obtain⟨v,hy,hK⟩:=od (i:=i) hrd ⟨w,hS⟩ h;exact uh ho (Region.noSelect_spec hsel) (fun c a w=>hQ c _ v a w) hs hc hn' hin (fun listed a w hL=>seqB_ready hL.1) f listed a w inv (Region.free_spec ho hfr) hr' hy hS
   (ih f _ _ w (inv.set hr' hin) (by simpa using hB) hS hK)
 | one i next ih=>
  intro f listed a w inv hB hS h;simp only[gl,fN,decide_eq_true_eq]at hB;obtain⟨⟨⟨hf,hin⟩,hr⟩,hB⟩:=hB;obtain⟨f,rfl⟩:∃g,f=g+1:=⟨f - 1,by omega⟩;refine⟨by rw[hr];simp,fun j hj=> ?_⟩;have hj':=hj;rw[hr]at hj;obtain rfl:j=i:=by simpa using hj
  exact⟨hin,wpOp_mono (fun a' w' h'=>⟨h'.1,ih f _ _ w' (inv.set hj' hin) (by simpa using hB) h'.1 h'.2⟩) (js (by omega) h)⟩
 | two i k n1 n2 ih1 ih2=>
  intro f listed a w inv hB hS h;simp only[gl,fN,decide_eq_true_eq]at hB;obtain⟨⟨⟨⟨⟨hf,hin⟩,hkn⟩,hr⟩,hB1⟩,hB2⟩:=hB;obtain⟨f,rfl⟩:∃g,f=g+1:=⟨f - 1,by omega⟩;obtain⟨g1,g2⟩:=h;refine⟨by rw[hr];simp,fun j hj=> ?_⟩;have hj':=hj;rw[hr]at hj;rcases(by simpa using hj:j=i\/j=k)with rfl | rfl
  ·exact⟨hin,wpOp_mono (fun a' w' h'=>⟨h'.1,ih1 f _ _ w' (inv.set hj' hin) (by simpa using hB1) h'.1 h'.2⟩) (js (by omega) g1)⟩
  ·exact⟨hkn,wpOp_mono (fun a' w' h'=>⟨h'.1,ih2 f _ _ w' (inv.set hj' hkn) (by simpa using hB2) h'.1 h'.2⟩) (js (by omega) g2)⟩
def mg (l:List Oper) (n:Nat) (p:Plan):Bool:=
 Region.noSelect l.toArray&&decide (n<l.length)&&Region.sinkB .any l.toArray n&&Region.chainB .any l.toArray n&&gl .any l n p n (kg l.length false)
theorem ui {l:List Oper} {a:Act} {w:ak} (S:ak->Prop) (n:Nat) (p:Plan) (hB:mg l n p=true) (hQ:∀c (x:Option Tmp) v a w,Q (.panic c) (a.put x v) w->Q (.panic c) a w) (hS:S w)
  (h:fh P l Q S n p a w):wpAny P .any l.toArray Q l.toArray.size (kg l.toArray.size false) a w:=by
 simp only[mg,fN,decide_eq_true_eq]at hB;obtain⟨⟨⟨⟨hsel,hn⟩,hs⟩,hc⟩,hp⟩:=hB;have inv0:HeadInv .any l.toArray n (kg l.toArray.size false):=
  ⟨by simp,fun j oj _ hl=>(by rw[getD_replicate_false]at hl;cases hl),fun t _ ht=>getD_in (by simpa using ht) (getD_replicate_false _ _)⟩
 have H:=Aj (md:=.any) hsel hs hc hn hQ p n _ a w inv0 (by simpa using hp) hS h;have:=oe (g:=l.length - n) (fun listed a' w' hL=>by
  have:=wpAny_of_seq (md:=.any) (Q':=Q) (l.drop n) n listed a' w' (fun j=>by simp[kf]) (by rw[dx];exact hL.1) hL.2
  rwa [dx]at this) _ _ _ _ H
 rw[show n+(l.length - n)=l.toArray.size by simp;omega]at this;exact this
theorem cM {id:Nat} {a:Act} {w:ak} {l:List Oper} (S:ak->Prop) (n:Nat) (p:Plan) (hm:P.follows .mixedOrders=true) (hB:mg l n p=true) (hQ:∀c (x:Option Tmp) v a w,Q (.panic c) (a.put x v) w->Q (.panic c) a w) (hS:S w.drew)
  (h:fh P l Q S n p a w.drew):(Code.region id l.toArray true).wp P Q a w:=
 wp_region_any hm (ui S n p hB hQ hS h)
theorem uj {id fuel l₀:Nat} {a:Act} {w:ak} {l:List Oper} (S:ak->Prop) (n:Nat) (p:Plan) (hL:¬LetsOut Q) (hd:jN l.toArray=true) (hm:P.follows .mixedOrders=true) (hB:mg l n p=true) (hQ:∀c (x:Option Tmp) v a w,Q (.panic c) (a.put x v) w->Q (.panic c) a w) (hS:S w.drew)
  (h:fh P l Q S n p a w.drew):(Code.region id l.toArray true).wpIn (Fence.wide.inRound l₀) fuel P Q a w:=
 wpIn_region_any hm (qJ hL hd _ _ _ _ (ui S n p hB hQ hS h))
theorem dq {w w':ak} {ops:Array Oper} {rest:List Oper} {o:Oper} {a:Act} {Q:Exit->Act->ak->Prop} (t:aV) (len:Nat) (parts:Array (Nat×Operand))
  (ho:o.op=.buildSlice t len parts) (hw:Region.wanted o (yielded ops a.tmps)=true) (vs:List (Nat×am)) (v':am) (hs:(parts.toList.map fun(i,x)=>(i,a.eval x))=vs)
  (hrun:(cO t len vs.toArray).run P w=.ok v' w') (h:wpList P ops Q rest (a.put o.dst v') w'):wpList P ops Q (o::rest) a w:=by
 unfold wpList;rw[if_pos hw];refine aA ?_;have hs':(parts.map fun(i,x)=>(i,a.eval x))=vs.toArray:=by
  apply Array.toList_inj.1;rw[Array.toList_map,hs]
 unfold Oper.wp;simp only[execOp,ho,gR,hs',hrun,ed,Sem.run_pure];exact h
theorem gG {w:ak} {ops:Array Oper} {rest:List Oper} {a:Act} {Q:Exit->Act->ak->Prop} {dst:Option Tmp} {t ty:aV} {len:Nat} {parts:Array (Nat×Operand)} {pos:String} {after:Array Edge} {guard:Option (Nat×Bool)}
  (h:wpList P ops Q ({dst:=dst,op:=.buildSlice t len parts,type:=ty,pos:=pos,after:=after,guard:=guard}::rest) a w):
  wpList P ops Q ({dst:=dst,op:=.buildSlice t len parts,type:=ty,pos:=pos,after:=after,guard:=guard}::rest) a w:=h
theorem aG {K:Act->ak->Prop} {a:Act} {w:ak} (h1:S w) (h2:K a w):eZ S Q K .normal a w:=⟨h1,h2⟩
end
end
section
def an (bs:List Int):List am:=bs.map (Value.int aq)
def Sct.cells (p:Sct):List am:=ab aq p.mark:: ab aD p.seq:: ab af p.index::an p.body
theorem bi (bs:List Int):(an bs).length=bs.length:=by simp[an]
theorem iO (bs:List Int):∀v ∈ an bs,v.oneCell'=true:=by
 intro v hv;obtain⟨x,_,rfl⟩:=dc.1 hv
 rfl
theorem dr {bs:List Int} (h:bs.length=64):bx (an bs):=⟨bs,h,rfl⟩
theorem Sct.cells_length {p:Sct} (h:p.body.length=48):p.cells.length=51:=by simp[Sct.cells,an,h]
theorem Sct.cells_one (p:Sct):∀v ∈ p.cells,v.oneCell'=true:=by
 intro v hv;simp only[Sct.cells,ec]at hv;rcases hv with rfl | rfl | rfl | hv
 ·rfl
 ·rfl
 ·rfl
 ·exact iO _ v hv
theorem fy {W:ak} {B:Nat} {a:Array am} {t:aV} (h:W.heap[B]? =some (ap a t (0,0))) (o n:Nat) (hn:o+n<=a.size):W.there B o n:=fun j hj=>by
 refine⟨?_,by simp[World.frozen?,h]⟩;rw[cl _ _ _ _ _ _ h,Array.getElem?_eq_getElem (by omega)]
 rfl
theorem jO {W:ak} {B:Nat} {a b:List am} {t:aV} (h:W.heap[B]? =some (ap (a++b).toArray t (0,0))):W.rangeAt B a.length b:=fun j x hx=>by
 rw[cl _ _ _ _ _ _ h];simp[fF,hx]
theorem mi {W:ak} {B o:Nat} {bs:List Int} (h:W.rangeAt B o (an bs)) (hB:B<W.heap.size) (hm:bs.length<=aS):Sl aq W (ag (some ⟨B,o,none⟩) bs.length bs.length) bs:=
 Sl.at (aJ _) hm hB fun j hj=>by
  rw[h j (ab aq bs[j]) (by simp[an,hj])];simp[hj]
set_option maxRecDepth 100000 in
theorem jP {w:ak} {B o dLen dCap:Nat} {v:am} {bs:List Int} (ty:aV) (hv:Sl aq w v bs) (hd:bs.length<=dLen) (ht:w.there B o bs.length):
  (Builtin.copy_ #[76, 76] ty #[ag (some ⟨B,o,none⟩) dLen dCap,v]).run aj w=.ok (goInt bs.length) (w.setCells B o (an bs)):=by
 obtain⟨a,cap,rfl,h1,h2,h3,h4⟩:=hv;rcases h3 with rfl | ⟨b,off,rfl,h5,h6⟩
 ·exact run_copy_none w _ _ ty 5 _ _ _ _ _ _ Tryz.underlying76 oa (by simp)
 ·have:=run_copy_cells (P:=aj) w 76 76 ty 5 B o dLen dCap ⟨b,off,none⟩ bs.length cap (an bs) Tryz.underlying76 oa (by rw[bi];exact(Nat.min_eq_left hd).symm)
   (fun j v hj=>by
    have hjl:j<bs.length:=by have:=(dp.1 hj).1;rwa [bi]at this
    rw[show(⟨b,off,none⟩:aN).add j=⟨b,off+j,none⟩ by unfold Addr.add;split<;>simp_all,h6 j hjl];simp[an,hjl]at hj ⊢;exact hj)
   (fun j hj=>(ht j (by rwa [bi]at hj)).1) (fun j hj=>(ht j (by rwa [bi]at hj)).2) (iO bs)
  rwa [bi]at this
theorem fi {N b:Nat} (h:N<=b):∀(vs:List am) (o:Nat) (w:ak),ah N w (w.setCells b o vs)
 | [],_,w=>aF N w
 | v::vs,o,w=>((aF N w).setCell (p:=⟨b,o,none⟩) h v).trans (fi h vs (o+1) _)
theorem mj {w x:ak} {B:Nat} {u:List am} {z:Array am} (hw:x.heap[B]? =some (ap z 51 (0,0))) (hz:z.size=64) (hB:w.heap.size<=B) (hb:w9b w x) (hu:bx u):
  ∃x',(aL 51 ⟨B,0,none⟩ (al u.toArray)).run aj x=.ok () x'/\(aE 51 ⟨B,0,none⟩).run aj x'=.ok (al u.toArray) x'/\ah w.heap.size w x':=by
 have ht:x.there B 0 64:=fy hw 0 64 (by rw[hz];exact aJ _);have hs:=lk ht hu;exact⟨_,hs,dd (gE x _ 0 u (by rw[hu.length];exact ht)) hu.length,hb.trans (fi hB _ _ _)⟩
def iP (W x:ak) (v:am) (bs:List Int):Prop:=x.ownsRow W.heap.size 5 1 v bs.length (an bs)
theorem iP.below {W x x':ak} {v:am} {bs:List Int} (h:iP W x v bs) (hb:w9b x x'):iP W x' v bs:=by
 refine⟨h.1, ?_⟩;rcases h.2 with h' | ⟨g,cap,cur,rfl,a1,a2,a3⟩
 ·exact aA h'
 ·exact aC ⟨g,cap,cur,rfl,a1,(hb.block g (cj.1 a2).1).trans a2,a3⟩
theorem iP.sl {W x:ak} {v:am} {bs:List Int} (h:iP W x v bs):Sl aq x v bs:=Sl.of_owns h
theorem uk (W x:ak) (hb:W.heap.size<=x.heap.size) (y:Int):iP W (x.alloc (ap #[ab aq y] 5)) (ag (some ⟨x.heap.size,0,none⟩) 1 1) [y]:=
 World.ownsRow_lit (base:=W.heap.size) x #[ab aq y] 1 hb (by simp[aS]) rfl
theorem iP.app {W x:ak} {v u:am} {xs bs:List Int} (h:iP W x v xs) (hb:w9b W x) (hu:Sl aq x u bs) (hl:xs.length+bs.length<=1000000):
  ∃v' x',Hid ((Builtin.append_ #[76, 76] 76 #[v,u]).run aj x=.ok v' x')/\Hid (iP W x' v' (xs++bs))/\Hid (ah W.heap.size W x'):=by
 obtain⟨v',x',r1,r2,r3⟩:=mO W.heap.size x v xs h u bs hu (by omega) hb.size;exact⟨v',x',r1,r2,hb.grown r3 hb.size (fun k e=>(h.lt k e).1)⟩
theorem kp {W:ak} {B:Nat} {a c:List am} (h1:W.rangeAt B 0 a) (h2:W.rangeAt B a.length c):W.rangeAt B 0 (a++c):=fun j x hx=>by
 by_cases hj:j<a.length
 ·rw[eU hj]at hx;exact h1 j x hx
 ·rw[fF (by omega)]at hx;have:=h2 (j - a.length) x hx
  rwa [show a.length+(j - a.length)=0+j by omega]at this
theorem Ak {N:Nat} {x y:ak} {B o n:Nat} (hb:ah N x y) (hB:B<N) (h:x.there B o n):y.there B o n:=fun j hj=>by
 have e:=hb.block B hB;refine⟨?_, ?_⟩
 ·rw[hb.cell (p:=⟨B,o+j,none⟩) hB];exact(h j hj).1
 ·rw[World.frozen?_of_block (a:=⟨B,o+j,none⟩) e];exact(h j hj).2
theorem eL {N:Nat} {x y:ak} {B o:Nat} {c:List am} (hb:ah N x y) (hB:B<N) (h:x.rangeAt B o c):y.rangeAt B o c:=fun j v hv=>by
 rw[hb.cell (p:=⟨B,o+j,none⟩) hB];exact h j v hv
def cm:List am:=ab aq 0:: ab aD 0:: ab af 0::an (bK 48 0)
theorem oh:(aj.info? 254).map (·.size)=some 51:=by kernel_rfl
set_option maxRecDepth 100000 in
theorem lr {w:ak} {b o:Nat} {c:List am} (hc:w.rangeAt b o c) (h:c.length=51):(aE 254 ⟨b,o,none⟩).run aj w=.ok (al c.toArray) w:=
 iL w b o _ c _ hc Tryz.underlying254 rfl (by rw[h];exact oh)
theorem ul {w:ak} {b o:Nat} {c:List am} (ht:w.there b o 51) (h:c.length=51) (h1:∀v ∈ c,v.oneCell'=true):(aL 254 ⟨b,o,none⟩ (al c.toArray)).run aj w=.ok () (w.setCells b o c):=by
 have:=run_storeVar_mid (P:=aj) w b o 254 c.toArray (by simpa [h]using ht) (by simpa [h]using oh) (gD h1)
 simpa using this
theorem iQ (w:ak):(zeroValue 254).run aj w=.ok (al cm.toArray) w:=by kernel_rfl
theorem Am (m s i:Int) (w:ak):(cY 254 #[(0,ab aq m),(1,ab aD s),(2,ab af i)]).run aj w=.ok (al (Value.int aq m:: ab aD s:: ab af i::an (bK 48 0)).toArray) w:=by kernel_rfl
theorem An (w:ak):(cY 254 #[]).run aj w=.ok (al cm.toArray) w:=by kernel_rfl
theorem Ao (t:aV) (h:t≠ 51 /\t≠ 254) (a:aN):aE t a=(do if←isAgg t then pure (al (←loadCells a (←sizeOf t)))else load a):=rfl
theorem Ap (t:aV) (h:t≠ 51 /\t≠ 254) (a:aN) (v:am):aL t a v=(do
  if v.cells.size≠(←sizeOf t)then stuck "storeVar: the value has not the size of the variable"
  storeCells a v.cells.toList):=rfl
theorem jt {w x:ak} {B:Nat} {u:List am} {z:Array am} (hw:x.heap[B]? =some (ap z 254 (0,0))) (hz:z.size=51) (hB:w.heap.size<=B) (hb:w9b w x) (hu:u.length=51) (h1:∀v ∈ u,v.oneCell'=true):
  ∃x',(aL 254 ⟨B,0,none⟩ (al u.toArray)).run aj x=.ok () x'/\(aE 254 ⟨B,0,none⟩).run aj x'=.ok (al u.toArray) x'/\ah w.heap.size w x':=by
 have ht:x.there B 0 51:=fy hw 0 51 (by rw[hz];exact aJ _);have hs:=ul ht hu h1;exact⟨_,hs,lr (gE x _ 0 u (by rw[hu];exact ht)) hu,hb.trans (fi hB _ _ _)⟩
theorem qM {W:ak} {B k n cap:Nat} {bs:List Int} (h:W.rangeAt B 0 (an bs)) (hB:B<W.heap.size) (hk:k+n<=bs.length) (hc:n<=cap) (hm:cap<=aS):Sl aq W (ag (some ⟨B,k,none⟩) n cap) ((bs.drop k).take n):=by
 have hl:((bs.drop k).take n).length=n:=by simp;omega
 have:=Sl.at (k:=aq) (w:=W) (b:=B) (off:=k) (cap:=cap) (bs:=(bs.drop k).take n) (by rw[hl];exact hc) hm hB (fun j hj=>by
  rw[hl]at hj;have:=h (k+j) (ab aq (bs[k+j]?.getD 0)) (by simp[an,show k+j<bs.length by omega]);rw[dC]at this;rw[this,List.getElem?_take,if_pos hj,kf])
 rwa [hl]at this
def dF (bs:List Int):Bool:=(Sct.of bs).fits&&decide ((Sct.of bs).bytes=bs)
def cN (bs:List Int):Sct:=if dF bs=true then Sct.of bs else kH
def fI (bs:List Int):Int:=if dF bs=true then 0 else 11
structure Img where
 index:Int
 body:List Int
structure Img.Ok (x:Img):Prop where
 len:x.body.length=48
 bytes:aP x.body
def Img.cells (x:Img):List am:=ab af x.index::an x.body
def Img.fits (x:Img):Prop:=0<=x.index/\x.index<=65535
theorem Img.cells_length {x:Img} (h:x.body.length=48):x.cells.length=49:=by simp[Img.cells,an,h]
theorem Img.cells_one (x:Img):∀v ∈ x.cells,v.oneCell'=true:=by
 intro v hv;simp only[Img.cells,ec]at hv;rcases hv with rfl | hv
 ·rfl
 ·exact iO _ v hv
def df (seq:Int) (x:Img):Sct:=⟨73,seq,x.index,x.body⟩
def cz (seq:Int) (n:Nat):Sct:=⟨67,seq,n,bK 48 0⟩
def cH (seq:Int):Prop:=0<=seq/\seq<4294967296
theorem mm (n:Nat):aP (bK n 0):=fun j=>by
 rw[jL];split<;>decide
theorem jz {seq:Int} {x:Img} (hs:cH seq) (hx:x.Ok):(df seq x).Ok:=⟨by show(0:Int)<=73/\(73:Int)<256;omega,hs,hx.len,hx.bytes⟩
theorem jQ {seq:Int} {n:Nat} (hs:cH seq):(cz seq n).Ok:=⟨by show(0:Int)<=67/\(67:Int)<256;omega,hs,by simp[cz],mm 48⟩
theorem lu {seq:Int} {x:Img} (hx:x.fits):(df seq x).fits=true:=decide_eq_true ⟨by show(73:Int)≠0;omega,hx⟩
theorem mR {seq:Int} {n:Nat} (hn:n<=65535):(cz seq n).fits=true:=decide_eq_true ⟨by show(67:Int)≠0;omega,by show(0:Int)<=n/\(n:Int)<=65535;omega⟩
theorem kI {p:Sct} (hp:p.Ok) (hf:p.fits=true):dF p.bytes=true/\Sct.of p.bytes=p:=by
 have hx:=of_decide_eq_true hf;have e:=Aa hp ⟨hx.2.1,hx.2.2⟩;refine⟨?_,e⟩;unfold dF;rw[e,hf];simp
theorem um:dF (bK 64 0)=false:=by
 have h:(Sct.of (bK 64 0)).fits=false:=by decide
 unfold dF;rw[h]
 rfl
def fc (g:Nat->List Int) (seq:Int):Nat->Nat->List Img->Option (List Img)
 | 0,_,_=>none
 | f+1,k,acc=>
  if dF (g k)=false\/(Sct.of (g k)).seq≠seq then none
  else if(Sct.of (g k)).mark=67 then(if k<1\/(Sct.of (g k)).index≠k\/(Sct.of (g k)).body≠bK 48 0 then none else some acc)
  else if(Sct.of (g k)).mark≠73 then none
  else fc g seq f (k+1) (acc++ [⟨(Sct.of (g k)).index,(Sct.of (g k)).body⟩])
def iF (rd:Nat->List Int) (frm count at0:Nat):Nat->List Int:=fun k=>rd (frm+(at0+k)%count)
def io (rd:Nat->List Int) (frm count at0:Nat) (seq:Int):Option (List Img):=fc (iF rd frm count at0) seq count 0 []
def fz (rd:Nat->List Int) (frm count:Nat):Nat->Nat->Int->List (List Img)->List (List Img)×Nat×Int
 | 0,at0,seq,acc=>(acc,at0,seq)
 | f+1,at0,seq,acc=>
  match io rd frm count at0 seq with
  | none=>(acc,at0,seq)
  | some t=>fz rd frm count f ((at0+t.length+1)%count) ((seq+1)%4294967296) (acc++ [t])
def cC (rd:Nat->List Int) (frm count at0:Nat) (seq:Int):List (List Img)×Nat×Int:=fz rd frm count count at0 seq []
def bu (seq:Int) (t:List Img):List (List Int):=t.map (fun x=>(df seq x).bytes)++ [(cz seq t.length).bytes]
theorem gY (seq:Int) (t:List Img):(bu seq t).length=t.length+1:=by simp[bu]
structure TxnOk (count:Nat) (t:List Img):Prop where
 least:1<=t.length
 most:t.length+1<=count
 ok:∀x ∈ t,x.Ok
 fits:∀x ∈ t,x.fits
theorem un {g:Nat->List Int} {seq:Int} {t:List Img} (hs:cH seq) (h1:1<=t.length) (h2:t.length<=65535) (hok:∀x ∈ t,x.Ok) (hft:∀x ∈ t,x.fits)
  (hg:∀k,k<=t.length->(bu seq t)[k]? =some (g k)):∀f k:Nat,k<=t.length->t.length<f+k->fc g seq f k (t.take k)=some t
 | 0,k,hk,hf=>by omega
 | f+1,k,hk,hf=>by
  have hgk:=hg k hk;unfold fc;by_cases hlt:k<t.length
  ·have e:g k=(df seq t[k]).bytes:=by
    unfold bu at hgk;rw[eU (by simpa using hlt),du,bJ hlt]at hgk
    simpa using hgk.symm
   have hm:=List.getElem_mem hlt;obtain⟨d1,d2⟩:=kI (jz hs (hok _ hm)) (lu (seq:=seq) (hft _ hm));rw[e,d1,d2,if_neg (by simp[df]),if_neg (by simp[df]),if_neg (by simp[df])];have:=un hs h1 h2 hok hft hg f (k+1) hlt (by omega);rw[List.take_succ_eq_append_getElem hlt]at this;exact this
  ·obtain rfl:k=t.length:=by omega
   have e:g t.length=(cz seq t.length).bytes:=by
    unfold bu at hgk;rw[fF (by simp)]at hgk
    simpa using hgk.symm
   obtain⟨d1,d2⟩:=kI (jQ (n:=t.length) hs) (mR (seq:=seq) h2);rw[e,d1,d2,if_neg (by simp[cz]),if_pos (by simp[cz]),if_neg (by rintro(h | h | h)<;>first | omega | exact h rfl),List.take_length]
theorem Aq {rd:Nat->List Int} {frm count at0:Nat} {seq:Int} {t:List Img} (hs:cH seq) (ht:TxnOk count t) (hc:count<=65535)
  (hg:∀k,k<=t.length->(bu seq t)[k]? =some (rd (frm+(at0+k)%count))):io rd frm count at0 seq=some t:=
 un hs ht.least (by have:=ht.most;omega) ht.ok ht.fits hg count 0 (bq _) (by have:=ht.most;omega)
def mS (rd:Nat->List Int) (frm count:Nat):Nat->Int->List (List Img)->Nat->Int->Prop
 | at0,seq, [],at1,seq1=>at1=at0/\seq1=seq
 | at0,seq,t::ts,at1,seq1=>io rd frm count at0 seq=some t/\mS rd frm count ((at0+t.length+1)%count) ((seq+1)%4294967296) ts at1 seq1
theorem uo {rd:Nat->List Int} {frm count:Nat} {at1:Nat} {seq1:Int} (hn:io rd frm count at1 seq1=none):
  ∀(ts:List (List Img)) (f at0:Nat) (seq:Int) (acc:List (List Img)),mS rd frm count at0 seq ts at1 seq1->ts.length<=f->fz rd frm count f at0 seq acc=(acc++ts,at1,seq1)
 | [],f,at0,seq,acc,h,hf=>by
  obtain⟨rfl,rfl⟩:=h;cases f with
  | zero=>simp[fz]
  | succ f=>unfold fz;rw[hn];simp
 | t::ts,0,at0,seq,acc,h,hf=>by simp at hf
 | t::ts,f+1,at0,seq,acc,h,hf=>by
  unfold fz;rw[h.1];have:=uo hn ts f _ _ (acc++ [t]) h.2 (by simpa using hf)
  simpa using this
theorem Ar {rd:Nat->List Int} {frm count at0 at1:Nat} {seq seq1:Int} {ts:List (List Img)} (h:mS rd frm count at0 seq ts at1 seq1) (hn:io rd frm count at1 seq1=none) (hf:ts.length<=count):
  cC rd frm count at0 seq=(ts,at1,seq1):=by
 have:=uo hn ts count at0 seq [] h hf;rw[dT]at this;exact this
def bO:Int->List (List Img)->List (List Int)
 | _, []=> []
 | seq,t::ts=>bu seq t++bO ((seq+1)%4294967296) ts
def gm (seq:Int) (n:Nat):Int:=(seq+n)%4294967296
theorem uq {seq:Int}:cH ((seq+1)%4294967296):=⟨by omega,by omega⟩
theorem ur {rd:Nat->List Int} {frm count:Nat} (hc:count<=65535) (h0:0<count):∀(ts:List (List Img)) (at0:Nat) (seq:Int),cH seq->(∀t ∈ ts,TxnOk count t)->
  (∀k,k< (bO seq ts).length->(bO seq ts)[k]? =some (rd (frm+(at0+k)%count)))->at0<count->mS rd frm count at0 seq ts ((at0+(bO seq ts).length)%count) (gm seq ts.length)
 | [],at0,seq,hs,_,_,ha=>by
  refine⟨?_, ?_⟩
  ·show(at0+0)%count=at0;rw[Nat.add_zero,Nat.mod_eq_of_lt ha]
  ·show(seq+((0:Nat):Int))%4294967296=seq;have:=hs.1;have:=hs.2;omega
 | t::ts,at0,seq,hs,hok,hg,ha=>by
  have hlen:(bO seq (t::ts)).length=t.length+1+(bO ((seq+1)%4294967296) ts).length:=by
   show(bu seq t++_).length=_;rw[cX,gY]
  refine⟨Aq hs (hok t eV) hc fun k hk=> ?_, ?_⟩
  ·have:=hg k (by rw[hlen];omega);unfold bO at this;rw[eU (by rw[gY];omega)]at this;exact this
  ·have e:=ur hc h0 ts ((at0+t.length+1)%count) ((seq+1)%4294967296) uq (fun u hu=>hok u (fG _ hu)) (fun k hk=>by
    have:=hg (t.length+1+k) (by rw[hlen];omega);unfold bO at this;rw[fF (by rw[gY];omega),gY,Nat.add_sub_cancel_left]at this;rw[this,Nat.mod_add_mod,show at0+(t.length+1+k)=at0+t.length+1+k by omega]) (fO _ h0)
   rw[Nat.mod_add_mod]at e;have e2:at0+(bO seq (t::ts)).length=at0+t.length+1+(bO ((seq+1)%4294967296) ts).length:=by rw[hlen];omega
   have e3:gm seq (t::ts).length=gm ((seq+1)%4294967296) ts.length:=by
    unfold gm;rw[cK];omega
   rw[e2,e3];exact e
theorem As {seq:Int} (hs:cH seq):gm seq 0=seq:=by
 unfold gm;have:=hs.1;have:=hs.2;omega
theorem At (seq:Int) (n:Nat):gm seq (n+1)=gm ((seq+1)%4294967296) n:=by
 unfold gm;omega
theorem qN (us:List (List Img)):∀(ts:List (List Img)) (seq:Int),cH seq->bO seq (ts++us)=bO seq ts++bO (gm seq ts.length) us
 | [],seq,hs=>by
  show bO seq us= []++bO (gm seq 0) us;rw[As hs]
  rfl
 | t::ts,seq,hs=>by
  show bu seq t++bO ((seq+1)%4294967296) (ts++us)=(bu seq t++bO ((seq+1)%4294967296) ts)++_;rw[qN us ts _ uq,List.append_assoc,cK,At]
theorem ut (seq:Int) (t:List Img):bO seq [t]=bu seq t:=by
 show bu seq t++ []=_;rw[List.append_nil]
end
section
attribute [-simp] isAgg51 zeroValue51
attribute [-go_sem] aE aL
attribute [local go_sem] bC bD dZ dQ
structure SecAt (w:ak) (N sb o:Nat) (s:Sec) (v:am):Prop where
 ok:s.Ok
 cont:w.rangeAt sb o s.c
 ver:w.cell? ⟨sb,o+64,none⟩=some v
 there:w.there sb o 65
 row:w.ownsRow N 51 64 v s.vs.length s.vs.flatten
 apart:v.ownBlock≠some sb
theorem SecAt.lt {w:ak} {N sb o:Nat} {s:Sec} {v:am} (h:SecAt w N sb o s v):sb<w.heap.size:=World.block_lt_of_cell? w _ h.ver
theorem SecAt.form {w:ak} {N sb o:Nat} {s:Sec} {v:am} (h:SecAt w N sb o s v):∃a cap,v=ag a s.vs.length cap/\s.vs.length<=cap/\cap<=aS/\(s.vs≠ []->∃g,a=some ⟨g,0,none⟩/\g≠sb/\g<w.heap.size/\N<=g/\∀k u,s.vs[k]? =some u->w.rangeAt g (k*64) u):=by
 have hap:=h.apart;rcases h.row.2 with⟨rfl,h0⟩ | ⟨g,cap,cur,rfl,h1,h2,h3,h4,h5,h6⟩
 ·exact⟨none,0,by rw[h0],by omega,by simp[aS],fun hn=>absurd (je h0) hn⟩
 ·refine⟨some ⟨g,0,none⟩,cap,rfl,h3,h4,fun _=>⟨g,rfl,fun e=>hap (by rw[e];rfl),(cj.1 h2).1,h1,fun k u hu j x hx=> ?_⟩⟩;have hk:k<s.vs.length:=(dp.1 hu).1;have hj:j<64:=by have:=(dp.1 hx).1;rw[(h.ok.2 u (dI hu)).length]at this;exact this
  have hf:=tO h.ok.2 hu j hj;rw[cl _ _ _ _ _ _ h2,←Array.getElem?_toList];rw[←h6,List.getElem?_take,if_pos (by omega)]at hf;rw[hf,hx]
theorem Au (N sb o:Nat) (s:Sec) (v:am) (w:ak) (h:SecAt w N sb o s v):
  az aj 240 #[ao (some ⟨sb,o,none⟩)] w fun e w'=>e=ar (al s.look.toArray)/\ah w.heap.size w w':=by
 obtain⟨a,cap,rfl,hcap,hmax,hv⟩:=h.form;obtain⟨W,hW⟩:=w9nm (w.alloc (ap cx 51));have hsz:w.heap.size<W.heap.size:=by rw[←hW];simp
 have c1:W.cell? ⟨sb,o+64,none⟩=some (ag a s.vs.length cap):=by rw[←hW,World.cell?_alloc_lt _ _ _ h.lt];exact h.ver
 have hB:ah w.heap.size w (w.alloc (ap s.look.toArray 51)):=(aF _ w).alloc (aJ _) _;have hok:=h.ok.look;by_cases hn:s.vs= []
 ·have hl:s.look=s.c:=Sec.look_none hn;rw[hl]at hB hok ⊢;have h0:s.vs.length=0:=by rw[hn];rfl
  have L:(aE 51 ⟨sb,o,none⟩).run aj W=.ok (al s.c.toArray) W:=by rw[←hW];exact dd (World.rangeAt_alloc h.cont _) h.ok.1.length
  have S:(aL 51 ⟨w.heap.size,0,none⟩ (al s.c.toArray)).run aj W=.ok () (w.alloc (ap s.c.toArray 51)):=by rw[←hW];exact gT dj h.ok.1
  have R:(aE 51 ⟨w.heap.size,0,none⟩).run aj (w.alloc (ap s.c.toArray 51))=.ok (al s.c.toArray) (w.alloc (ap s.c.toArray 51)):=mM (by simpa using h.ok.1.length);have HB:=ae hB;rw[h0]at c1;clear hB hok hl hn h0 hv h hsz hcap hmax;go_enter func240,ntmps240;go_wp2_with (with_reducible (rw[hW];clear hW));refine bl (ff rfl rfl R) rfl ⟨rfl,HB.out⟩
 ·obtain⟨g,rfl,hg1,hg2,hg3,hv⟩:=hv hn;obtain⟨m,hm⟩:∃m,s.vs.length=m+1:=⟨s.vs.length - 1,by have:=List.length_pos_iff.2 hn;omega⟩;have hu:s.vs[m]? =some s.look:=by
   have:=Sec.look_some hn;rw[hm,Nat.add_sub_cancel]at this;rw[bJ (by omega)]at this ⊢;rw[this];rfl
  have hr:=hv m _ hu;obtain⟨u,hul⟩:=w9nm s.look;rw[hul]at hr hB hok hu ⊢;have L:(aE 51 ⟨g,m*64,none⟩).run aj W.drew=.ok (al u.toArray) W.drew:=by rw[←hW];exact dd (by simpa using World.rangeAt_alloc hr _) hok.length
  have S:(aL 51 ⟨w.heap.size,0,none⟩ (al u.toArray)).run aj W.drew=.ok () (w.alloc (ap u.toArray 51)).drew:=by rw[←hW];exact gT (w:=w.drew) dj hok
  have R:(aE 51 ⟨w.heap.size,0,none⟩).run aj (w.alloc (ap u.toArray 51)).drew=.ok (al u.toArray) (w.alloc (ap u.toArray 51)).drew:=mM (w:=w.drew) (by simpa using hok.length);have HB:=ae hB;have hmx:=w9x
  rw[hm]at c1 hcap;have HM1:Hid (m+1<=aS):=by show _<=_;omega
  clear hB hok hul hn hm hu hr hv h hsz hg1 hg2 hg3 hcap hmax;go_enter func240,ntmps240;go_wp2_with (with_reducible (rw[hW];clear hW));have hm1:(m:Int)+1<=9223372036854775807:=by have:=HM1.out;unfold aS at this;omega
  refine cM (fun x=>x=W.drew) 12 (.takes [0,1,2,3,4,5,6,7,8,9,10,11] .leaf) hmx (by kernel_rfl) (by intro c x v a w h;cases x<;>exact h) rfl ?_;repeat(rw[bj];simp only[au,ay];go_big_quiet_step (fail);refine aO ?_)
  rw[bo,cu];simp only[be,bf];go_wp2_with fail;refine bl (ff rfl rfl R) rfl ⟨rfl,HB.out.drew⟩
end
section
theorem qO (b:Nat):∀(vs:List am) (o:Nat) (w:ak),KeepsOthers w (w.setCells b o vs)
 | [],_,w=>KeepsOthers.refl w
 | v::r,o,w=>(iC w _ v).trans (qO b r (o+1) _)
theorem kJ {N b:Nat} (h:N<=b):∀(vs:List am) (o:Nat) (w:ak),ah N w (w.setCells b o vs)
 | [],_,w=>aF N w
 | v::r,o,w=>((aF N w).setCell (p:=⟨b,o,none⟩) h v).trans (kJ h r (o+1) _)
theorem qP (b:Nat):∀(vs:List am) (o:Nat) (w:ak),(w.setCells b o vs).heap.size=w.heap.size
 | [],_,w=>rfl
 | v::r,o,w=>(qP b r (o+1) _).trans (by simp[World.setCell])
theorem Av (w:ak) (p:aN) (v:am):w.grownBy (w.setCell p v) (some p.block):=
 ⟨rfl,rfl,rfl,by simp[World.setCell],fun k _ hne=>gc _ _ _ k (fun e=>hne (by rw[e]))⟩
theorem lw (w:ak) (p:aN) (v:am):(w.setCell p v).heap.size=w.heap.size:=by simp[World.setCell]
theorem om {a b c:ak} (h:b.os=a.os/\b.tape=a.tape/\b.output=a.output) (k:c.os=b.os/\c.tape=b.tape/\c.output=b.output):c.os=a.os/\c.tape=a.tape/\c.output=a.output:=
 ⟨k.1.trans h.1,k.2.1.trans h.2.1,k.2.2.trans h.2.2⟩
theorem uu (b:Nat) (vs:List am) (o:Nat) (w:ak):(w.setCells b o vs).os=w.os/\(w.setCells b o vs).tape=w.tape/\(w.setCells b o vs).output=w.output:=by
 have:=kJ (bq b) vs o w;exact⟨this.os,this.tape,this.output⟩
structure Step (w w':ak) (sb o:Nat) (v:am):Prop where
 still:w'.os=w.os/\w'.tape=w.tape/\w'.output=w.output
 others:KeepsOthers w w'
 blocks:∀k,k<w.heap.size->k≠sb->some k≠v.ownBlock->w'.heap[k]? =w.heap[k]?
 cells:∀j,j<o\/o+65<=j->w'.cell? ⟨sb,j,none⟩=w.cell? ⟨sb,j,none⟩
 there:∀i m,w.there sb i m->w'.there sb i m
theorem Step.size {w w':ak} {sb o:Nat} {v:am} (h:Step w w' sb o v):w.heap.size<=w'.heap.size:=h.others.size
theorem Step.refl (w:ak) (sb o:Nat) (v:am):Step w w sb o v:=⟨⟨rfl,rfl,rfl⟩,KeepsOthers.refl w,fun _ _ _ _=>rfl,fun _ _=>rfl,fun _ _ h=>h⟩
theorem Step.trans {a b c:ak} {sb o:Nat} {v:am} (h:Step a b sb o v) (k:Step b c sb o v):Step a c sb o v:=
 ⟨om h.still k.still,h.others.trans k.others,fun i hi h1 h2=>(k.blocks i (aU hi h.size) h1 h2).trans (h.blocks i hi h1 h2),fun j hj=>(k.cells j hj).trans (h.cells j hj),fun i m ht=>k.there i m (h.there i m ht)⟩
theorem Step.drew {a b:ak} {sb o:Nat} {v:am} (h:Step a b sb o v):Step a b.drew sb o v:=⟨h.still,h.others.trans (KeepsOthers.drew b),h.blocks,h.cells,h.there⟩
theorem Step.alloc {a b:ak} {sb o:Nat} {v:am} (h:Step a b sb o v) (hsb:sb<b.heap.size) (ob:Obj):Step a (b.alloc ob) sb o v:=
 h.trans ⟨⟨rfl,rfl,rfl⟩,KeepsOthers.alloc b ob,fun k hk _ _=>Below.heap_alloc b ob k hk,fun j _=>World.cell?_alloc_lt _ _ _ hsb,fun i m ht=>World.there_alloc ht ob⟩
theorem Step.setCell {a b:ak} {sb o j:Nat} {v:am} (h:Step a b sb o v) (h1:o<=j) (h2:j<o+65) (hs:(b.cell? ⟨sb,j,none⟩).isSome=true) (u:am):Step a (b.setCell ⟨sb,j,none⟩ u) sb o v:=
 h.trans ⟨⟨rfl,rfl,rfl⟩,iC b _ u,fun k hk hne _=>gc _ _ _ k (fun e=>hne e),fun i hi=>World.cell?_setCell_other b _ _ u (fun e=>by cases e;omega),fun i m ht=>World.there_setCells ht sb j [u]⟩
theorem Step.setCells {a b:ak} {sb o:Nat} {v:am} {c:List am} (h:Step a b sb o v) (hsb:sb<b.heap.size) (hl:c.length=64):Step a (b.setCells sb o c) sb o v:=
 h.trans ⟨uu sb c o b,qO sb c o b,fun k hk hne _=>li b sb o c hk hne,fun i hi=>World.cell?_setCells_out sb c o b _ (fun _ _=>by rw[hl];show i<o\/o+64<=i;omega),fun i m ht=>World.there_setCells ht sb o c⟩
theorem Step.grown {a b c:ak} {sb o:Nat} {v:am} (h:Step a b sb o v) (hg:b.grownBy c v.ownBlock) (hsb:sb<b.heap.size) (hne:v.ownBlock≠some sb) (hv:∀j ob,v.ownBlock=some j->b.heap[j]? =some ob->ob.isCells=true):Step a c sb o v:=by
 have hb:c.heap[sb]? =b.heap[sb]? :=hg.block sb hsb (fun e=>hne e.symm);exact h.trans ⟨⟨hg.os,hg.tape,hg.output⟩,KeepsOthers.of_grownBy hg hv,fun k hk _ h2=>hg.block k hk h2,fun i _=>cL (a:=⟨sb,i,none⟩) hb,
  fun i m ht j hj=>by rw[cL (a:=⟨sb,i+j,none⟩) hb,World.frozen?_of_block (a:=⟨sb,i+j,none⟩) hb];exact ht j hj⟩
theorem qQ {w:ak} {N e size n:Nat} {v:am} {xs:List am} (h:w.ownsRow N e size v n xs):∀j ob,v.ownBlock=some j->w.heap[j]? =some ob->ob.isCells=true:=by
 intro j ob hj hb;rcases h.2 with⟨rfl,_⟩ | ⟨g,cap,cur,rfl,_,h2,_⟩
 ·simp[fq]at hj
 ·obtain rfl:g=j:=by simpa [fq]using hj
  rw[h2]at hb;cases hb
  rfl
attribute [-simp] isAgg51 zeroValue51
attribute [-go_sem] aE aL
attribute [local go_sem] bC bD dZ dQ
theorem Aw (N sb o:Nat) (s:Sec) (v:am) (w:ak) (h:SecAt w N sb o s v):
  az aj 207 #[ao (some ⟨sb,o,none⟩),ab af 0] w fun e w'=>e=ar (aQ #[])/\SecAt w' N sb o (s.settle 0) (ag none 0 0)/\Step w w' sb o v:=by
 have c1:=h.ver;have f1:w.frozen? ⟨sb,o+64,none⟩=false:=(h.there 64 (by omega)).2;have HH:=ae h;clear h;go_enter func207,ntmps207;go_wp2_with fail
 go_end0
 have h:=HH.out;have hst:Step w (w.setCell ⟨sb,o+64,none⟩ (ag none 0 0)) sb o v:=(Step.refl w sb o v).setCell (by omega) (by omega) (by rw[h.ver];rfl) _;refine⟨rfl,⟨h.ok.settle, ?_,World.cell?_setCell_same' _ _ _ (by rw[h.ver];rfl),hst.there _ _ h.there,ft _ _ _ _,by simp[fq]⟩,hst⟩;exact iM h.cont sb (o+64) [ag none 0 0] (by rw[h.ok.1.length];omega)
theorem Ax (N sb o m:Nat) (s:Sec) (v:am) (w:ak) (h:SecAt w N sb o s v) (hm:m<s.vs.length):
  az aj 207 #[ao (some ⟨sb,o,none⟩),ab af ((m:Int)+1)] w fun e w'=>e=ar (aQ #[])/\SecAt w' N sb o (s.settle (m+1)) (ag none 0 0)/\Step w w' sb o v:=by
 have hn:s.vs≠ []:=fun e=>by rw[e]at hm;simp at hm
 have hsb:=h.lt;obtain⟨a,cap,rfl,hcap,hmax,hv⟩:=h.form;obtain⟨g,rfl,hg1,hg2,hg3,hv⟩:=hv hn;obtain⟨u,hu⟩:∃u,s.vs[m]? =some u:=⟨_,bJ hm⟩;have hub:=h.ok.2 u (dI hu);have c1:=h.ver;have L:(aE 51 ⟨g,m*64,none⟩).run aj w=.ok (al u.toArray) w:=dd (hv m u hu) hub.length;obtain⟨W,hW⟩:=w9nm (w.setCells sb o u);have S:(aL 51 ⟨sb,o,none⟩ (al u.toArray)).run aj w=.ok () W:=by rw[←hW];exact lk (fun j hj=>h.there j (by omega)) hub
 have hst0:Step w W sb o (ag (some ⟨g,0,none⟩) s.vs.length cap):=by rw[←hW];exact(Step.refl w sb o _).setCells hsb hub.length
 have c2:W.cell? ⟨sb,o+64,none⟩=some (ag (some ⟨g,0,none⟩) s.vs.length cap):=by
  rw[←hW,World.cell?_setCells_out sb u o w _ (fun _ _=>by rw[hub.length];exact aC (aJ _))];exact h.ver
 have f2:W.frozen? ⟨sb,o+64,none⟩=false:=(hst0.there _ _ h.there 64 (by omega)).2;have r2:W.rangeAt sb o u:=by rw[←hW];exact gE w sb o u (fun j hj=>h.there j (by rw[hub.length]at hj;omega))
 have e1:(s.settle (m+1)).c=u:=by simp[Sec.settle,hu]
 have g1:decide (0< (m:Int)+1)=true:=by simp
 have g2:(m:Int)< (s.vs.length:Int):=by omega
 obtain⟨n,hnn⟩:=w9nm s.vs.length;have HM:Hid ((m:Int)<=(aS:Int)):=by show _<=_;omega
 have HH:=ae h;have H0:=ae hst0;have HE:=ae e1;have HR:=ae r2;have HU:=ae hub;have hm1:wrap64 (m:Int)=(m:Int):=by
  have:=HM.out;unfold aS at this;have e:=IntKind.wrap_i64 (m:Int);show wrap64 _=_;unfold wrap64;omega
 have HNN:=ae hnn;rw[hnn]at c1 c2 g2;clear h hst0 e1 r2 hub hm hn hu hv hcap hmax hW hnn hg1 hg2 hg3 hsb;go_enter func207,ntmps207;go_wp2_with fail
 go_end0
 have h:=HH.out;have hst:Step w (W.setCell ⟨sb,o+64,none⟩ (ag none 0 0)) sb o _:=H0.out.setCell (by omega) (by omega) (by rw[c2];rfl) _;refine⟨rfl,⟨h.ok.settle, ?_,World.cell?_setCell_same' _ _ _ (by rw[c2];rfl),hst.there _ _ h.there,ft _ _ _ _,by simp[fq]⟩,by rw[HNN.out]at hst ⊢;exact hst⟩;rw[HE.out];exact iM HR.out sb (o+64) [ag none 0 0] (by rw[HU.out.length];omega)
theorem uv (N sb o k:Nat) (s:Sec) (v:am) (w:ak) (h:SecAt w N sb o s v) (hk:k<=s.vs.length):
  az aj 207 #[ao (some ⟨sb,o,none⟩),ab af (k:Int)] w fun e w'=>e=ar (aQ #[])/\SecAt w' N sb o (s.settle k) (ag none 0 0)/\Step w w' sb o v:=by
 cases k with
 | zero=>exact Aw N sb o s v w h
 | succ m=>exact Ax N sb o m s v w h hk
end
section
theorem mT (l:List am):∀(k:Nat) (A:Array am) (i:Nat),k+l.length<=A.size->((l.zipIdx k).foldl (fun cs (x:am×Nat)=>cs.setIfInBounds (0+x.2) x.1) A)[i]? =if k<=i/\i<k+l.length then l[i - k]? else A[i]? :=by
 induction l with
 | nil=>intro k A i h;simp;omega
 | cons x l ih=>
  intro k A i h;rw[cK]at h;rw[List.zipIdx_cons,List.foldl_cons,ih _ _ _ (by simp;omega)];simp only[dC,cK];by_cases h1:i=k
  ·subst h1;rw[if_neg (by omega),if_pos (by omega),Nat.sub_self];simp[show i<A.size by omega]
  ·by_cases h2:k+1<=i/\i<k+1+l.length
   ·rw[if_pos h2,if_pos (by omega),show i - k=(i - (k+1))+1 by omega,kC]
   ·rw[if_neg h2,if_neg (by omega),Array.getElem?_setIfInBounds_ne (by omega)]
theorem mU (l:List am) (A:Array am) (h:l.length=A.size):(l.zipIdx.foldl (fun cs (x:am×Nat)=>cs.setIfInBounds (0+x.2) x.1) A)=l.toArray:=by
 apply Array.ext_getElem?;intro i;rw[mT l 0 A i (by omega)];split
 ·simp
 ·rw[Array.getElem?_eq_none (by omega)];simp;omega
theorem oo (w:ak) (b:List am) (h:b.length=64):(cO 54 1 #[(0,al b.toArray)]).run aj w=.ok (ag (some ⟨w.heap.size,0,none⟩) 1 1) (w.alloc (ap b.toArray 51)):=by
 have e:(b.zipIdx.foldl (fun cs (x:am×Nat)=>cs.setIfInBounds (0+x.2) x.1) ((Array.range 64).map (cx[·%cx.size]!)))=b.toArray:=mU b _ (by simp[h]);have e2:b.toArray.zipIdx.foldl (fun cs (x:am×Nat)=>cs.setIfInBounds (0+x.2) x.1) ((Array.range 64).map (cx[·%cx.size]!))=b.toArray:=by
  rw[←Array.foldl_toList,Array.toList_zipIdx];exact e
 obtain⟨i0,hi,hz0,hz1,hz2⟩:=eJ nW;refine run_buildSlice (P:=aj) w 54 51 1 _ b.toArray i0 (al cx) (by kernel_rfl) hi hz0 (by rw[hz1];decide) (by rw[hz1];decide) ?_;rw[hz1];show fe _ _ [(0,Value.agg b.toArray)]=_;simp only[fe];rw[if_neg (by simp[Value.cells,h])]
 congr 1
end
section
attribute [-simp] isAgg51 zeroValue51
attribute [-go_sem] aE aL
attribute [local go_sem] bC bD dZ dQ
theorem uw:(aj.info? 51).map (fun i=>(i.zero,i.size,i.bytes))=some (some (al cx),64,64):=nW
set_option maxRecDepth 100000 in
theorem oq (N:Nat) (w:ak) (v:am) (vs:List (List am)) (b:List am) (B:Nat) (hown:w.ownsRow N 51 64 v vs.length vs.flatten) (hb:bx b) (hB:w.rangeAt B 0 b) (hlen:vs.length<=1000000) (hN:N<=w.heap.size):
  ∃v' w',(Builtin.append_ #[54, 54] 54 #[v,ag (some ⟨B,0,none⟩) 1 1]).run aj w=.ok v' w'/\w'.ownsRow N 51 64 v' (vs++ [b]).length (vs++ [b]).flatten/\w.grownBy w' v.ownBlock/\(v'.ownBlock=v.ownBlock\/v'.ownBlock=some w.heap.size):=by
 obtain⟨i0,hi,hz0,hz1,hz2⟩:=eJ uw;obtain⟨v',w',hr,h1,h2,_,h3⟩:=run_append_own_at (P:=aj) w N 54 54 51 i0 (al cx) 64 64 Tryz.underlying54 hi hz0 hz1 hz2 dj (by omega) v vs.length vs.flatten hown
  ⟨B,0,none⟩ 1 1 b (by rw[hb.length]) (fun j u hj=>by have:=hB j u hj;rwa [Addr.add_mid]) hb.one (by unfold aS;omega) (by omega) hN
 exact⟨v',w',hr,by simpa using h1,h2,h3⟩
def lx (sb o B:Nat) (v:am) (b:List am):Type:={x:ak // x.cell? ⟨sb,o+64,none⟩=some v/\x.rangeAt B 0 b}
theorem add_few (N sb o:Nat) (s:Sec) (v:am) (b:List am) (w:ak) (h:SecAt w N sb o s v) (hb:bx b) (hN:N<=w.heap.size) (hk:¬255<s.vs.length):
  az aj 228 #[ao (some ⟨sb,o,none⟩),al b.toArray] w fun e w'=>e=ar (aQ #[])/\∃v',SecAt w' N sb o (s.add b) v'/\Step w w' sb o v/\(v'.ownBlock=v.ownBlock\/∃k,v'.ownBlock=some k/\w.heap.size<=k):=by
 have hsb:=h.lt;have hf:=h.form;have hown:=h.row;obtain⟨W,hW⟩:=w9nm (w.alloc (ap b.toArray 51));have hsz:W.heap.size=w.heap.size+1:=by rw[←hW];simp
 have hst:Step w W sb o v:=by rw[←hW];exact(Step.refl w sb o v).alloc hsb _
 have c1:W.cell? ⟨sb,o+64,none⟩=some v:=by rw[←hW,World.cell?_alloc_lt _ _ _ hsb];exact h.ver
 have r1:W.rangeAt w.heap.size 0 b:=by
  rw[←hW];intro j x hx;rw[cl _ _ _ _ _ _ (bR w _)];simpa using hx
 have hown1:W.ownsRow N 51 64 v s.vs.length s.vs.flatten:=by rw[←hW];exact hown.alloc _
 obtain⟨W2,hW2⟩:=w9nm (W.drew.alloc (ap b.toArray 51));have hsb1:sb<W.heap.size:=by omega
 have hsz2:W2.heap.size=W.heap.size+1:=by rw[←hW2];simp
 have hst2:Step w W2 sb o v:=by rw[←hW2];exact hst.drew.alloc hsb1 _
 have c2:W2.cell? ⟨sb,o+64,none⟩=some v:=by rw[←hW2,World.cell?_alloc_lt _ _ _ hsb1];exact c1
 have r2:W2.rangeAt w.heap.size 0 b:=by rw[←hW2];exact World.rangeAt_alloc (by simpa using r1) _
 have r3:W2.rangeAt W.heap.size 0 b:=by
  rw[←hW2];intro j x hx;have:=cl _ _ (0+j) _ _ _ (bR W.drew (ap b.toArray 51));exact this.trans (by simpa using hx)
 have hown2:W2.ownsRow N 51 64 v s.vs.length s.vs.flatten:=by rw[←hW2];exact hown1.drew.alloc _
 obtain⟨v',w3,hrun,ho3,hg3,hb3⟩:=oq N W2 v s.vs b W.heap.size hown2 hb r3 (by omega) (by omega);have hap:v.ownBlock≠some sb:=h.apart;have hst3:Step w w3 sb o v:=hst2.grown hg3 (by omega) hap (qQ hown2);have c3:w3.cell? ⟨sb,o+64,none⟩=some v:=hg3.cell c2 (fun e=>hap e.symm);have f3:w3.frozen? ⟨sb,o+64,none⟩=false:=(hst3.there _ _ h.there 64 (by omega)).2;have r4:w3.rangeAt w.heap.size 0 b:=fun j x hx=>hg3.cell (r2 j x hx) (fun e=>by have:=(hown.lt _ e.symm).2;simp at this);have hv'sb:v'.ownBlock≠some sb:=by rcases hb3 with e | e<;>rw[e];exact hap;simp;omega
 have hst4:Step w (w3.setCell ⟨sb,o+64,none⟩ v') sb o v:=hst3.setCell (by omega) (by omega) (by rw[c3];rfl) v';have hc4:w3.rangeAt sb o s.c:=fun j x hx=>by
  have hj:j<64:=by have:=(dp.1 hx).1;rw[h.ok.1.length]at this;exact this
  have e1:W.cell? ⟨sb,o+j,none⟩=some x:=by rw[←hW,World.cell?_alloc_lt _ _ _ hsb];exact h.cont j x hx
  have e2:W2.cell? ⟨sb,o+j,none⟩=some x:=by rw[←hW2,World.cell?_alloc_lt _ _ _ hsb1];exact e1
  exact hg3.cell e2 (fun e=>hap e.symm)
 have hadd:s.add b=⟨s.c,s.vs++ [b]⟩:=by unfold Sec.add;rw[if_neg hk]
 have hfin:SecAt (w3.setCell ⟨sb,o+64,none⟩ v') N sb o (s.add b) v':=by
  refine⟨h.ok.add hb, ?_,World.cell?_setCell_same' _ _ _ (by rw[c3];rfl),hst4.there _ _ h.there, ?_,hv'sb⟩
  ·rw[hadd];exact iM hc4 sb (o+64) [v'] (by rw[h.ok.1.length];omega)
  ·rw[hadd];exact ho3.kept (Av w3 ⟨sb,o+64,none⟩ v') (aC hv'sb)
 have HF:=ae hfin;have HV:Hid (∃a' cap',v'=ag a' (s.add b).vs.length cap'):=by obtain⟨a',cap',e,_⟩:=hfin.form;exact⟨a',cap',e⟩
 have HB:Hid ((cO 54 1 #[(0,al b.toArray)]).run aj W.drew=.ok (ag (some ⟨W.heap.size,0,none⟩) 1 1) W2):=by rw[←hW2];exact oo W.drew b hb.length
 have HS:=ae hst4;have HN:Hid (v'.ownBlock=v.ownBlock\/∃k,v'.ownBlock=some k/\w.heap.size<=k):=hb3.imp id fun e=>⟨_,e,by omega⟩;have HA:=ae hrun;have hC:∀x:lx sb o w.heap.size v b,x.1.cell? ⟨sb,o+64,none⟩=some v:=fun x=>x.2.1;have hL:∀x:lx sb o w.heap.size v b,(aE 51 ⟨w.heap.size,0,none⟩).run aj x.1=.ok (al b.toArray) x.1:=fun x=>dd x.2.2 hb.length
 haveI hne:Nonempty (lx sb o w.heap.size v b):=⟨⟨W,c1,r1⟩⟩
 have K1:Hid (∃y:lx sb o w.heap.size v b,W.drew=y.1):=⟨⟨W.drew,c1,by simpa using r1⟩,rfl⟩;have K2:Hid (∃y:lx sb o w.heap.size v b,W2=y.1):=⟨⟨W2,c2,r2⟩,rfl⟩;have K3:Hid (∃y:lx sb o w.heap.size v b,w3=y.1):=⟨⟨w3,c3,r4⟩,rfl⟩;obtain⟨a,cap,hva, -, -, -⟩:=hf;obtain⟨n,hn⟩:=w9nm s.vs.length;rw[hn]at hva hk;have g1:decide ((255:Int)< (n:Int))=false:=by simp;omega
 subst hva;have hmx:=w9x
 have HSZ:=ae hsz;clear h hown hst hown1 hsz2 hst2 hown2 ho3 hg3 hb3 hap hst3 hv'sb hst4 hc4 hadd hfin hrun hn hk c2 r1 r2 r3 r4 hsb hsb1 hsz;go_enter func228,ntmps228;go_wp2_with (with_reducible (rw[hW];clear hW));refine cM (fun x=>∃y:lx sb o w.heap.size (ag a n cap) b,x=y.1) 8 (.takes [0,1,2,3,4,5] (.one 6 (.one 7 .leaf))) hmx (by kernel_rfl) (by intro c x v a w h;cases x<;>exact h) K1.out ?_;repeat(rw[bj];simp only[au,ay];go_big_quiet_step (fail);refine aO ?_)
 rw[bo,aT];simp only[au,ay]
 (with_reducible refine gG ?_)
 refine dq _ _ _ rfl rfl [(0,al b.toArray)] _ rfl HB.out ?_;go_wp2_with fail;refine aG K2.out ?_;rw[aT];simp only[au,ay];refine wpList_append_run (.tmp 20) (.tmp 22) 54 rfl rfl _ _ _ rfl rfl HA.out ?_;go_wp2_with fail;refine aG K3.out ?_;rw[cu];simp only[be,bf];obtain⟨a',cap',rfl⟩:=HV.out;go_wp2_with fail
 go_end0
 exact⟨rfl,_,HF.out,HS.out,HN.out⟩
def iG (rb sb n:Nat) (sv:Nat->am) (k:Nat):Prop:=k=rb\/k=sb\/∃i,i<n/\(sv i).ownBlock=some k
structure DskAt (w:ak) (rb sb n:Nat) (sv:Nat->am) (D:Nat->Sec):Prop where
 head:Boxed w rb 263 (ag (some ⟨sb,0,none⟩) n n)
 ne:rb≠sb
 max:n<=4096
 secs:∀i,i<n->SecAt w 0 sb (i*65) (D i) (sv i)
 far:∀i,i<n->(sv i).ownBlock≠some rb
 apart:∀i j,i<n->j<n->i≠j->∀k,(sv i).ownBlock=some k->(sv j).ownBlock≠some k
def Disk (w:ak) (rb n:Nat) (f:Nat->Prop) (D:Nat->Sec):Prop:=∃sb sv,DskAt w rb sb n sv D/\f=iG rb sb n sv
structure Turn (f f':Nat->Prop) (w w':ak):Prop where
 still:w'.os=w.os/\w'.tape=w.tape/\w'.output=w.output
 others:KeepsOthers w w'
 out:∀k,k<w.heap.size->¬f k->w'.heap[k]? =w.heap[k]?
 new:∀k,f' k->f k\/w.heap.size<=k
theorem Turn.size {f f':Nat->Prop} {w w':ak} (h:Turn f f' w w'):w.heap.size<=w'.heap.size:=h.others.size
theorem Turn.refl (f:Nat->Prop) (w:ak):Turn f f w w:=⟨⟨rfl,rfl,rfl⟩,KeepsOthers.refl w,fun _ _ _=>rfl,fun k h=>aA h⟩
theorem Turn.trans {f f' f'':Nat->Prop} {a b c:ak} (h:Turn f f' a b) (k:Turn f' f'' b c):Turn f f'' a c:=
 ⟨om h.still k.still,h.others.trans k.others,fun i hi hn=>(k.out i (aU hi h.size) (fun hf=>(h.new i hf).elim hn (fun h'=>absurd h' (Nat.not_le.2 hi)))).trans (h.out i hi hn),
  fun i hi=>(k.new i hi).elim (h.new i) (fun h'=>aC (aZ h.size h'))⟩
theorem SecAt.kept {w w':ak} {N sb o:Nat} {s:Sec} {v:am} (h:SecAt w N sb o s v) (h1:w'.heap[sb]? =w.heap[sb]?) (h2:∀g,v.ownBlock=some g->w'.heap[g]? =w.heap[g]?):SecAt w' N sb o s v:=by
 refine⟨h.ok,fun j x hx=>(cL (a:=⟨sb,o+j,none⟩) h1).trans (h.cont j x hx),(cL (a:=⟨sb,o+64,none⟩) h1).trans h.ver,
  fun j hj=>⟨by rw[cL (a:=⟨sb,o+j,none⟩) h1];exact(h.there j hj).1,by rw[World.frozen?_of_block (a:=⟨sb,o+j,none⟩) h1];exact(h.there j hj).2⟩,⟨h.row.1, ?_⟩,h.apart⟩
 rcases h.row.2 with h' | ⟨g,cap,cur,rfl,a1,a2,a3⟩
 ·exact aA h'
 ·exact aC ⟨g,cap,cur,rfl,a1,(h2 g rfl).trans a2,a3⟩
theorem DskAt.kept {w w':ak} {rb sb n:Nat} {sv:Nat->am} {D:Nat->Sec} (h:DskAt w rb sb n sv D) (hk:∀k,iG rb sb n sv k->w'.heap[k]? =w.heap[k]?):DskAt w' rb sb n sv D:=
 ⟨(hk rb (aA rfl)).trans h.head,h.ne,h.max,fun i hi=>(h.secs i hi).kept (hk sb (aC (aA rfl))) (fun g hg=>hk g (aC (aC ⟨i,hi,hg⟩))),h.far,h.apart⟩
theorem DskAt.lt {w:ak} {rb sb n:Nat} {sv:Nat->am} {D:Nat->Sec} (h:DskAt w rb sb n sv D) (hn:0<n) {k:Nat} (hk:iG rb sb n sv k):k<w.heap.size:=by
 rcases hk with rfl | rfl | ⟨i,hi,hk⟩
 ·exact h.head.lt
 ·exact(h.secs 0 hn).lt
 ·exact((h.secs i hi).row.lt k hk).2
theorem DskAt.isCells {w:ak} {rb sb n:Nat} {sv:Nat->am} {D:Nat->Sec} (h:DskAt w rb sb n sv D) (hn:0<n) {k:Nat} (hk:iG rb sb n sv k) {ob:Obj} (ho:w.heap[k]? =some ob):ob.isCells=true:=by
 rcases hk with rfl | rfl | ⟨i,hi,hk⟩
 ·rw[show w.heap[k]? =_ from h.head]at ho;cases ho;rfl
 ·have:=(h.secs 0 hn).ver;obtain⟨o,h1,h2⟩:=cells_of_cell this;rw[h1]at ho;cases ho;exact h2
 ·exact qQ (h.secs i hi).row k ob hk ho
theorem DskAt.step {w w':ak} {rb sb n i:Nat} {sv:Nat->am} {D:Nat->Sec} {s':Sec} {v':am} (h:DskAt w rb sb n sv D) (hi:i<n) (hs:Step w w' sb (i*65) (sv i)) (hs':SecAt w' 0 sb (i*65) s' v')
  (hv:v'.ownBlock=none\/v'.ownBlock=(sv i).ownBlock\/∃k,v'.ownBlock=some k/\w.heap.size<=k):DskAt w' rb sb n (dD sv i v') (dD D i s'):=by
 have hlt:∀j,j<n->∀k,(sv j).ownBlock=some k->k<w.heap.size:=fun j hj k hk=>((h.secs j hj).row.lt k hk).2;have hfar:∀j,j<n->(dD sv i v' j).ownBlock≠some rb:=fun j hj=>by
  by_cases e:j=i
  ·subst e;rw[en];rcases hv with e | e | ⟨k,e,hk⟩<;>rw[e]
   ·simp
   ·exact h.far j hj
   ·have:=h.head.lt;simp;omega
  ·rw[ef _ _ e];exact h.far j hj
 refine⟨(hs.blocks rb h.head.lt h.ne (fun e=>h.far i hi e.symm)).trans h.head,h.ne,h.max,fun j hj=> ?_,hfar,fun a b ha hb hab k hka hkb=> ?_⟩
 ·by_cases e:j=i
  ·subst e;rw[en,en];exact hs'
  ·rw[ef _ _ e,ef _ _ e];have hj':=h.secs j hj;have hr:j*65+65<=i*65\/i*65+65<=j*65:=by omega
   refine⟨hj'.ok,fun m x hx=> ?_,(hs.cells _ (by omega)).trans hj'.ver,hs.there _ _ hj'.there,⟨hj'.row.1, ?_⟩,hj'.apart⟩
   ·have hm:m<64:=by have:=(dp.1 hx).1;rw[hj'.ok.1.length]at this;exact this
    exact(hs.cells _ (by omega)).trans (hj'.cont m x hx)
   ·rcases hj'.row.2 with h' | ⟨g,cap,cur,hg,a1,a2,a3⟩
    ·exact aA h'
    ·refine aC ⟨g,cap,cur,hg,a1, ?_,a3⟩;have hg':(sv j).ownBlock=some g:=by rw[hg];rfl
     rw[hs.blocks g (hlt j hj g hg') (fun e'=>hj'.apart (by rw[hg',e'])) (fun e'=>h.apart j i hj hi e g hg' e'.symm)];exact a2
 ·have key:∀j,j<n->j≠i->∀k,v'.ownBlock=some k->(sv j).ownBlock≠some k:=fun j hj hji k hk hk'=>by
   rcases hv with e | e | ⟨k',e,hk2⟩
   ·rw[e]at hk;cases hk
   ·rw[e]at hk;exact h.apart j i hj hi hji k hk' hk
   ·rw[e]at hk;cases hk;have:=hlt j hj _ hk';omega
  by_cases e1:a=i
  ·by_cases e2:b=i
   ·omega
   ·subst e1;rw[en]at hka;rw[ef _ _ e2]at hkb;exact key b hb e2 k hka hkb
  ·rw[ef _ _ e1]at hka;by_cases e2:b=i
   ·subst e2;rw[en]at hkb;exact key a ha e1 k hkb hka
   ·rw[ef _ _ e2]at hkb;exact h.apart a b ha hb hab k hka hkb
theorem DskAt.turn {w w':ak} {rb sb n i:Nat} {sv:Nat->am} {D:Nat->Sec} {v':am} (h:DskAt w rb sb n sv D) (hi:i<n) (hs:Step w w' sb (i*65) (sv i))
  (hv:v'.ownBlock=none\/v'.ownBlock=(sv i).ownBlock\/∃k,v'.ownBlock=some k/\w.heap.size<=k):Turn (iG rb sb n sv) (iG rb sb n (dD sv i v')) w w':=by
 refine⟨hs.still,hs.others,fun k hk hn=>hs.blocks k hk (fun e=>hn (aC (aA e))) (fun e=>hn (aC (aC ⟨i,hi,e.symm⟩))),fun k hk=> ?_⟩;rcases hk with rfl | rfl | ⟨j,hj,hk⟩
 ·exact aA (aA rfl)
 ·exact aA (aC (aA rfl))
 ·by_cases e:j=i
  ·subst e;rw[en]at hk;rcases hv with e | e | ⟨k',e,hk2⟩
   ·rw[e]at hk;cases hk
   ·rw[e]at hk;exact aA (aC (aC ⟨j,hj,hk⟩))
   ·rw[e]at hk;cases hk;exact aC hk2
  ·rw[ef _ _ e]at hk;exact aA (aC (aC ⟨j,hj,hk⟩))
theorem Disk.out {w w':ak} {rb n:Nat} {f:Nat->Prop} {D:Nat->Sec} (h:Disk w rb n f D) (hk:∀k,f k->w'.heap[k]? =w.heap[k]?):Disk w' rb n f D:=by
 obtain⟨sb,sv,h,rfl⟩:=h;exact⟨sb,sv,h.kept hk,rfl⟩
theorem Disk.lt {w:ak} {rb n:Nat} {f:Nat->Prop} {D:Nat->Sec} (h:Disk w rb n f D) (hn:0<n):∀k,f k->k<w.heap.size:=by
 obtain⟨sb,sv,h,rfl⟩:=h;exact fun k hk=>h.lt hn hk
theorem Disk.below {w w':ak} {rb n:Nat} {f:Nat->Prop} {D:Nat->Sec} (h:Disk w rb n f D) (hn:0<n) (hb:w9b w w'):Disk w' rb n f D:=
 h.out fun k hk=>hb.block k (h.lt hn k hk)
theorem Disk.ok {w:ak} {rb n:Nat} {f:Nat->Prop} {D:Nat->Sec} (h:Disk w rb n f D) {i:Nat} (hi:i<n):(D i).Ok:=by obtain⟨sb,sv,h,rfl⟩:=h;exact(h.secs i hi).ok
theorem mV (rb n:Nat) (f:Nat->Prop) (D:Nat->Sec) (w:ak) (h:Disk w rb n f D):
  az aj 226 #[ao (some ⟨rb,0,none⟩)] w fun e w'=>e=ar (ab af (n:Int))/\w'=w:=by
 obtain⟨sb,sv,h,rfl⟩:=h;have c1:=h.head.cell;clear h;go_enter func226,ntmps226;go_wp2;go_ret;exact⟨rfl,rfl⟩
theorem ux (w:ak):
  az aj 226 #[ao none] w fun e w'=>e=ar (ab af 0)/\w'=w:=by
 go_enter func226,ntmps226;go_wp2;go_ret;exact⟨rfl,rfl⟩
theorem uy (p:Option aN) (n:Nat) (i:Int) (w:ak) (hl:az aj 226 #[ao p] w fun e w'=>e=ar (ab af (n:Int))/\w'=w):
  az aj 227 #[ao p,ab af i] w fun e w'=>e=ar (.bool (decide (0<=i/\i< (n:Int))))/\w'=w:=by
 have HL:=ae hl;clear hl;by_cases h0:0<=i
 ·have g0:decide (0<=i)=true:=by simpa using h0
  have HE:Hid (decide (i< (n:Int))=decide (0<=i/\i< (n:Int))):=by show _=_;simp[h0]
  go_enter func227,ntmps227;go_wp2_with fail;refine HL.out.mono ?_;rintro e w' ⟨rfl,rfl⟩;go_wp2_with fail;go_ret;exact⟨by rw[←HE.out];rfl,rfl⟩
 ·have g0:decide (0<=i)=false:=by simpa using h0
  have HE:Hid (false=decide (0<=i/\i< (n:Int))):=by show _=_;simp[h0]
  go_enter func227,ntmps227;go_wp2_with fail;go_ret;exact⟨rfl,rfl⟩
theorem uz (rb n i:Nat) (f:Nat->Prop) (D:Nat->Sec) (w:ak) (h:Disk w rb n f D) (hi:i<n):
  az aj 165 #[ao (some ⟨rb,0,none⟩),ab af (i:Int)] w fun e w'=>e=ar (aQ #[al (D i).look.toArray,ab af 0])/\ah w.heap.size w w':=by
 obtain⟨W,hW⟩:=w9nm (w.alloc (ap cx 51));have hB:ah w.heap.size w W:=by rw[←hW];exact(aF _ w).alloc (aJ _) _
 have h':=h.below (by omega) hB;have hok:bx (D i).look:=(h.ok hi).look;have HH:=ae (uy _ n (i:Int) W (mV rb n f D W h'));have HE:Hid (decide (0<=(i:Int)/\(i:Int)< (n:Int))=true):=by show _=_;simp;omega
 obtain⟨sb,sv,hd,rfl⟩:=h';have c1:=hd.head.cell;have HY:=ae (Au 0 sb (i*65) (D i) (sv i) W (hd.secs i hi));obtain⟨u,hu⟩:=w9nm ((D i).look);rw[hu]at HY hok ⊢;have g1:(i:Int)< (n:Int):=by omega
 have K:Hid (∀w',w9b W w'->∃w'',(aL 51 ⟨w.heap.size,0,none⟩ (al u.toArray)).run aj w'=.ok () w''/\(aE 51 ⟨w.heap.size,0,none⟩).run aj w''=.ok (al u.toArray) w''/\ah w.heap.size w w''):=by
  intro w' hb;have hlt:w.heap.size<W.heap.size:=by rw[←hW];simp
  have hblk:w'.heap[w.heap.size]? =some (ap cx 51 (0,0)):=(hb.block _ hlt).trans (by rw[←hW];exact bR w _);have ht:w'.there w.heap.size 0 64:=fun j hj=>by
   have hcell:=cl w' w.heap.size (0+j) cx _ _ hblk;refine⟨?_, ?_⟩
   ·rw[hcell];simp[dj];omega
   ·simp[World.frozen?,hblk]
  have hs:=lk ht hok;refine⟨_,hs,dd (gE w' _ 0 u (by rw[hok.length];exact ht)) hok.length, ?_⟩;exact hB.trans ((hb.mono (iT hlt)).trans (kJ (aJ _) _ _ _))
 clear hd hB h hok hi hu;go_enter func165,ntmps165;go_wp2_with fail;clear hW;refine HH.out.mono ?_;rintro e w' ⟨rfl,rfl⟩;rw[HE.out];go_wp2_with fail;refine HY.out.mono ?_;rintro e w' ⟨rfl,hb⟩;obtain⟨w'',S,R,hB2⟩:=K.out w' hb;have HB2:=ae hB2;clear hb hB2;go_wp2_with fail;exact bl (dl rfl rfl R) rfl ⟨rfl,HB2.out⟩
theorem Turn.of_below {f:Nat->Prop} {w W:ak} (h:w9b w W):Turn f f w W:=
 ⟨⟨h.os,h.tape,h.output⟩,⟨h.size,fun k o hk _=>(h.block k (cj.1 hk).1).trans hk⟩,fun k hk _=>h.block k hk,fun _ hk=>aA hk⟩
theorem Turn.below {f f':Nat->Prop} {w W:ak} {N:Nat} (h:Turn f f' w W) (hN:N<=w.heap.size) (hf:∀k,f k->N<=k):ah N w W:=
 ⟨h.still.1,h.still.2.1,h.still.2.2,h.size,fun k hk=>h.out k (by omega) (fun hfk=>by have:=hf k hfk;omega)⟩
theorem uA (rb n i:Nat) (f:Nat->Prop) (D:Nat->Sec) (b:List am) (w:ak) (h:Disk w rb n f D) (hi:i<n) (hb:bx b) (hk:¬255< (D i).vs.length):
  az aj 152 #[ao (some ⟨rb,0,none⟩),ab af (i:Int),al b.toArray] w fun e w'=>e=ar (ab af 0)/\∃f',Disk w' rb n f' (dD D i ((D i).add b))/\Turn f f' w w':=by
 obtain⟨W,hW⟩:=w9nm (w.alloc (ap b.toArray 51));have hB:ah w.heap.size w W:=by rw[←hW];exact(aF _ w).alloc (aJ _) _
 have h':=h.below (by omega) hB;have HH:=ae (uy _ n (i:Int) W (mV rb n f D W h'));have HE:Hid (decide (0<=(i:Int)/\(i:Int)< (n:Int))=true):=by show _=_;simp;omega
 obtain⟨sb,sv,hd,rfl⟩:=h';have HA:Hid (az aj 228 #[ao (some ⟨sb,i*65,none⟩),al b.toArray] W.drew fun e w'=>e=ar (aQ #[])/\∃f',Disk w' rb n f' (dD D i ((D i).add b))/\Turn (iG rb sb n sv) f' w w'):=by
  have hs:SecAt W.drew 0 sb (i*65) (D i) (sv i):=(hd.secs i hi).kept rfl (fun _ _=>rfl);refine(add_few 0 sb (i*65) (D i) (sv i) b W.drew hs hb (bq _) hk).mono ?_;rintro e w' ⟨rfl,v',h1,h2,h3⟩;have hd':DskAt W.drew rb sb n sv D:=hd.kept fun _ _=>rfl;have h3':v'.ownBlock=none\/v'.ownBlock=(sv i).ownBlock\/∃k,v'.ownBlock=some k/\W.drew.heap.size<=k:=aC h3;exact⟨rfl,_,⟨sb,_,hd'.step hi h2 h1 h3',rfl⟩,(Turn.of_below hB.drew).trans (hd'.turn hi h2 h3')⟩
 have c1:=hd.head.cell;have L:(aE 51 ⟨w.heap.size,0,none⟩).run aj W.drew=.ok (al b.toArray) W.drew:=by rw[←hW];exact mM (w:=w.drew) (by simpa using hb.length)
 have hmx:=w9x
 have G1:Hid ((i:Int)< (n:Int)):=by show _<_;omega
 clear hd h hi hb hk hB;go_enter func152,ntmps152;go_wp2_with fail;clear hW;refine HH.out.mono ?_;rintro e w' ⟨rfl,hw⟩;obtain rfl:=hw.symm;rw[HE.out];go_wp2_with fail;have g1:=G1.out;refine cM (fun x=>x=W.drew) 7 (.takes [0,1,2,3,4,5,6] .leaf) hmx (by kernel_rfl) (by intro c x v a w h;cases x<;>exact h) rfl ?_;repeat(rw[bj];simp only[au,ay];go_big_quiet_step (fail);refine aO ?_)
 rw[bo,cu];simp only[be,bf];go_wp2_with fail;refine HA.out.mono ?_;rintro e w' ⟨rfl,hf⟩;have HF:=ae hf;clear hf;go_wp2_with fail;go_ret;exact⟨rfl,HF.out⟩
def kK:Sec:=⟨a9 0, []⟩
theorem ot:kK.Ok:=⟨fv 0,fun v hv=>by cases hv⟩
def kr:Array am:=(a9 0++ [Value.slice none 0 0]).toArray
theorem uB:kr.size=65:=by simp[kr,a9]
theorem Ay:(aj.info? 298).map (fun i=>(i.zero,i.size,i.bytes))=some (some (al kr),65,88):=by kernel_rfl
theorem qR (z:Array am) (k:Nat) (hz:z.size=k) (hk:0<k) (n i j:Nat) (hi:i<n) (hj:j<k):(madeCells z (n*k))[i*k+j]? =z[j]? :=by
 have h1:i*k+j<n*k:=by
  have:(i+1)*k<=n*k:=Nat.mul_le_mul_right k hi;rw[Nat.add_mul]at this;omega
 have h2:(i*k+j)%k=j:=by rw[Nat.mul_comm,Nat.mul_add_mod,Nat.mod_eq_of_lt hj]
 unfold madeCells;simp only[Array.getElem?_map,hz];rw[Array.getElem?_range,if_pos h1];simp only[Option.map_some,h2];rw[getElem!_pos z j (by omega),Array.getElem?_eq_getElem (by omega)]
theorem mW {w:ak} {base e n g size:Nat} {xs:List am} (h:w.ownsRow base e size (ag (some ⟨g,0,none⟩) n n) n xs):w.heap[g]? =some (ap xs.toArray e (0,0)):=by
 rcases h.2 with⟨h',_⟩ | ⟨g',cap,cur,h',_,hg,_,_,hs,ht⟩
 ·simp at h'
 ·simp only[Value.slice.injEq,Option.some.injEq,Addr.mk.injEq,and_true,true_and]at h';obtain⟨rfl,rfl⟩:=h';rw[hg,←ht,ey (by rw[Array.length_toList];omega)]
theorem Az {w:ak} {rb sb n:Nat} (hr:Boxed w rb 263 (ag (some ⟨sb,0,none⟩) n n)) (hs:w.heap[sb]? =some (ap (madeCells kr (n*65)) 298 (0,0))) (hne:rb≠sb) (hn:n<=4096):
  DskAt w rb sb n (fun _=>ag none 0 0) (fun _=>kK):=by
 have hc:∀i j,i<n->j<65->w.cell? ⟨sb,i*65+j,none⟩=kr[j]? :=fun i j hi hj=>by
  rw[cl _ _ _ _ _ _ hs];exact qR kr 65 uB (by omega) n i j hi hj
 refine⟨hr,hne,hn,fun i hi=>⟨ot,fun j x hx=> ?_, ?_,fun j hj=>⟨?_,by simp[World.frozen?,hs]⟩,ft _ _ _ _,by simp[fq]⟩,fun _ _=>by simp[fq],fun _ _ _ _ _ _ h=>by simp[fq]at h⟩
 ·have hj:j<64:=by have:=(dp.1 hx).1;rw[ot.1.length]at this;exact this
  rw[hc i j hi (by omega),←hx];show((a9 0++ [Value.slice none 0 0]).toArray)[j]? =(a9 0)[j]?;rw[List.getElem?_toArray,eU (by rw[(fv 0).length];exact hj)]
 ·rw[hc i 64 hi (by omega)];rfl
 ·rw[hc i j hi hj,Array.getElem?_eq_getElem (by rw[uB];exact hj)];rfl
theorem uC (n:Int) (w:ak) (h:n<1\/4096<n):
  az aj 78 #[ab af n] w fun e w'=>e=ar (aQ #[ao none,ab af 1])/\w'=w:=by
 by_cases h1:n<1
 ·have g1:decide (n<1)=true:=by simpa using h1
  clear h;go_enter func78,ntmps78;go_wp2_with fail;go_ret2;exact⟨rfl,rfl⟩
 ·have g1:decide (n<1)=false:=by simpa using h1
  have g2:decide (4096<n)=true:=by simp;omega
  clear h h1;go_enter func78,ntmps78;go_wp2_with fail;go_ret2;exact⟨rfl,rfl⟩
set_option maxRecDepth 100000 in
theorem qS (n:Nat) (w:ak) (h1:1<=n) (h2:n<=4096):
  az aj 78 #[ab af (n:Int)] w fun e w'=>∃rb,e=ar (aQ #[ao (some ⟨rb,0,none⟩),ab af 0])/\(∃f,Disk w' rb n f (fun _=>kK)/\∀k,f k->w.heap.size<=k)/\ah w.heap.size w w':=by
 obtain⟨i0,hi,hz0,hz1,hz2⟩:=eJ Ay;have g1:decide ((n:Int)<1)=false:=by simp;omega
 have g2:decide (4096< (n:Int))=false:=by simp;omega
 go_enter func78,ntmps78;go_wp2_with (first | (at_make;refine wpList_make_full _ rfl _ _ 261 rfl w.heap.size 298 i0 (al kr) 65 Tryz.underlying261 hi hz0 hz1 af af _ _ n rfl rfl rfl rfl (by rw[hz2];omega) (by unfold aS;omega) (by simp) ?_;intro w1 hown1 hgrow1));have hrow:=mW hown1;rw[show(Value.agg kr).cells=kr from rfl]at hrow;have hlt:w.heap.size<w1.heap.size:=(cj.1 hrow).1;go_ret2;refine⟨_,rfl,⟨_,⟨w.heap.size,_,Az (dY _ _ _) ?_ (by omega) h2,rfl⟩, ?_⟩, ?_⟩
 ·rw[Below.heap_alloc _ _ _ hlt];simpa using hrow
 ·intro k hk;rcases hk with rfl | rfl | ⟨i,hi,hk⟩
  ·omega
  ·omega
  ·simp[fq]at hk
 ·exact((aF _ w).grown hgrow1 (aJ _) (fun k e=>by cases e)).alloc (by omega) _
end
section
variable {F:Fence} {n:Nat} {P:Program}
def mn {α:Type} (F:Fence) (n:Nat) (P:Program) (g:Nat) (lb:Array am) (encs:α->Array am) (R:List α->ak->Prop) (Ok:List α->α->Prop) (S:List α->Prop) (w:ak):Prop:=
 ∀(l:Nat) (J Jx:List α->ak->Prop) (W:ak),w9b w W->(∀pre W,J pre W->R pre W)->AbidesFrom W.heap.size J->AbidesFrom W.heap.size Jx->
  (∀pre x W1,J pre W1->Ok pre x->YieldAt F (n - 1) P l (encs x) W1 fun e W'=>
   (e=ar (.bool true)/\J (pre++ [x]) W')\/(e=ar (.bool false)/\Jx (pre++ [x]) W'))->
  J [] W->
  CallsIn F n P g (#[.func (.yield l) #[] #[]]++lb) W fun e W'=>(∃v,e=ar v)/\((∃xs,S xs/\J xs W')\/(∃pre,Jx pre W'))
structure Books (W:ak) (B:Nat) (r:Loop):Prop where
 loop:W.heap[B+1]? =some (.loop r)
 defers:W.heap[B]? =some (.deferred (some []))
theorem Books.lt {W:ak} {B:Nat} {r:Loop} (h:Books W B r):B+1<W.heap.size:=(cj.1 h.loop).1
theorem Books.put {W:ak} {B:Nat} {r:Loop} (h:Books W B r) (r':Loop):Books (W.putObj (B+1) (.loop r')) B r':=
 ⟨World.putObj_heap_same h.lt,(World.putObj_heap_other (by omega)).trans h.defers⟩
theorem Books.from {W W':ak} {B:Nat} {r:Loop} (h:Books W B r) (hk:KeepsFrom B W W'):Books W' B r:=
 ⟨hk.same _ _ (by omega) h.loop rfl,hk.same _ _ (aJ _) h.defers rfl⟩
theorem Books.kept {W W':ak} {B:Nat} {r:Loop} {row:Option Nat} (h:Books W B r) (hg:W.grownBy W' row) (hr:∀k,row=some k->∃o:Obj,W.heap[k]? =some o/\o.isWalk=true):Books W' B r:=
 ⟨(grownBy_keeps hg hr h.loop rfl).trans h.loop,(grownBy_keeps hg hr h.defers rfl).trans h.defers⟩
theorem mX {α:Type} {g:Operand} {ps:Array Tmp} {assign body:Code} {Q:Exit->Act->ak->Prop} {a:Act} {w:ak}
  (hro:F.round=none) (h1:1<=n) {gf:Nat} {lb:Array am} (hg:a.eval g=.func (.func gf) #[] lb) (hFg:F.fn gf) (eg:∀args w,(callFunc gf args).run P w=.ok (.enter gf args) w)
  {encs:α->Array am} {Ok:List α->α->Prop} {S:List α->Prop} {w0:ak} (I:List α->ak->Prop) (Ix:Code->List α->ak->Prop) (hseq:mn F (n - 1) P gf lb encs I Ok S w0)
  (hb0:w9b w0 w) (hps:∀x,(encs x).size=ps.size) (hI:OwnFrom w.heap.size I) (hIx:∀c,OwnFrom w.heap.size (Ix c)) (h0:I [] w) (a₁:α->Act)
  (hassign:∀(l:Nat) (x:α) (W:ak) (K:Act->ak->Prop),K (a₁ x) W->
   assign.wpIn (F.inRound l) (n - 1 - 1) P (Exit.then K (fun _ _ _=>False)) {tmps:=(ps.zip (encs x)).foldl (fun t (p,v)=>t.setIfInBounds p v) a.tmps,defers:= []} W)
  (hbody:∀(l:Nat) (pre:List α) (x:α) (W:ak),I pre W->Ok pre x->body.wpIn (F.inRound l) (n - 1 - 1) P (ownPostG w.heap.size (fun _ _=>True) I Ix (pre++ [x]) W) (a₁ x) W)
  (hdone:∀(D:Nat) (xs:List α) (W:ak),w.heap.size<=D->S xs->I xs W->W.heap[D]? =some (.deferred (some []))->Q .normal {a with defers:={target:=.collected D,args:=#[]}::a.defers} W)
  (hstop:∀(D:Nat) (c:Code) (pre:List α) (W:ak),w.heap.size<=D->Ix c pre W->W.heap[D]? =some (.deferred (some []))->c.wpIn F n P Q {a with defers:={target:=.collected D,args:=#[]}::a.defers} W):
  (Code.rangeFunc g ps assign body).wpIn F n P Q a w:=by
 refine wpIn_rangeFunc fun fn hfn=> ?_;rw[hro]
 let rc:LoopState->Option Code->Loop:=fun st pe=>{state:=st,pending:=pe,fn,tmps:=a.tmps,params:=ps,assign,body,defers:=w.heap.size}
 obtain⟨W1,hW1⟩:=w9nm ((w.alloc (.deferred (some []))).alloc (.loop (rc .ready none)));have bk1:Books W1 w.heap.size (rc .ready none):=by
  rw[←hW1];refine⟨?_,(Below.heap_alloc _ _ _ (by simp)).trans (World.alloc_heap_new w _)⟩;have:=World.alloc_heap_new (w.alloc (.deferred (some []))) (.loop (rc .ready none))
  rwa [dy]at this
 have hsz:w.heap.size<=W1.heap.size:=by rw[←hW1];simp;omega
 have bel:ah w0.heap.size w0 W1:=by
  rw[←hW1];exact hb0.trans ((((aF _ w).alloc (aJ _) _).alloc (by simp) _).mono hb0.size)
 have I1:I [] W1:=by rw[←hW1];exact hI.alloc _ (hI.alloc _ h0)
 have walk:∀{A:ak} {row:Option Nat},(∀r,row=some r->W1.heap.size<=r/\∃o:Obj,A.heap[r]? =some o/\o.isWalk=true)->
   (∀r,row=some r->w.heap.size<=r/\∃o:Obj,A.heap[r]? =some o/\o.isCells=false)/\(∀r,row=some r->∃o:Obj,A.heap[r]? =some o/\o.isWalk=true):=fun hr=>
  ⟨fun r e=>by obtain⟨h,o,ho,hw⟩:=hr r e;exact⟨aZ hsz h,o,ho,Obj.not_cells_of_walk hw⟩,fun r e=>(hr r e).2⟩
 refine⟨w.heap.size+1,_,W1,{target:=.fn (.func gf) lb,args:=#[.func (.yield (w.heap.size+1)) #[] #[]]},W1,gf,#[.func (.yield (w.heap.size+1)) #[] #[]]++lb,W1,
  hW1▸run_enterLoop_outer fn _ _ _ _,by simp only[resolve,hg];simp[go_sem],fun f' hf'=>by simp[Target.leads]at hf';subst hf';exact hFg,by simp[invoke,go_sem,eg],fun _=>h1, ?_⟩
 refine(hseq (w.heap.size+1) (fun pre W=>I pre W/\Books W w.heap.size (rc .ready none)) (fun pre W=>∃c,Ix c pre W/\Books W w.heap.size (rc .done (some c))) W1 bel (fun _ _ h=>h.1)
  (fun s A B row hs hgr hr=>⟨hI s A B row hs.1 hgr (walk hr).1,hs.2.kept hgr (walk hr).2⟩)
  (fun s A B row hs hgr hr=>by obtain⟨c,hc,hb⟩:=hs;exact⟨c,hIx c s A B row hc hgr (walk hr).1,hb.kept hgr (walk hr).2⟩) ?_ ⟨I1,bk1⟩).mono ?_
 ·rintro pre x W ⟨hi,bk⟩ hok;have hy:=run_yield (P:=P) (args:=encs x) bk.loop (hps x);refine⟨fn,_,assign,body,hy,roundIn_of_wpIn hfn (hassign _ x W _ ⟨_,run_beginRound bk.loop rfl, ?_⟩)⟩;have bk2:=bk.put (rc .busy none);refine wpIn_mono (hbody _ pre x _ (hI.putObj _ hi (by omega) bk.loop rfl) hok) ?_
  have out:∀(j:Option Code) (W3:ak),KeepsFrom w.heap.size (W.putObj (w.heap.size+1) (.loop (rc .busy none))) W3->(Instr.endRound (w.heap.size+1) j).run P W3=.ok (.bool j.isNone) (W3.putObj (w.heap.size+1) (.loop (rc (if j.isNone then .ready else .done) j)))/\
    W3.heap[w.heap.size+1]? =some (.loop (rc .busy none))/\Books (W3.putObj (w.heap.size+1) (.loop (rc (if j.isNone then .ready else .done) j))) w.heap.size (rc (if j.isNone then .ready else .done) j):=fun j W3 hk=>
   ⟨run_endRound j (bk2.from hk).loop,(bk2.from hk).loop,(bk2.from hk).put _⟩
  rintro(_ | id | t | _ | ch | _) a3 W3 hp
  ·obtain⟨hk, -,hi3⟩:=hp;obtain⟨h2,h3,h4⟩:=out none W3 hk;exact⟨_,_,h2,aA ⟨rfl,hI.putObj _ hi3 (by omega) h3 rfl,h4⟩⟩
  ·obtain⟨hk,hi3⟩:=hp;obtain⟨h2,h3,h4⟩:=out (some (.exit id)) W3 hk;exact⟨_,_,h2,aC ⟨rfl,_,(hIx _).putObj _ hi3 (by omega) h3 rfl,h4⟩⟩
  ·obtain⟨hk,hi3⟩:=hp;obtain⟨h2,h3,h4⟩:=out (some (.goto t)) W3 hk;exact⟨_,_,h2,aC ⟨rfl,_,(hIx _).putObj _ hi3 (by omega) h3 rfl,h4⟩⟩
  ·obtain⟨hk,hi3⟩:=hp;obtain⟨h2,h3,h4⟩:=out (some .ret) W3 hk;exact⟨_,_,h2,aC ⟨rfl,_,(hIx _).putObj _ hi3 (by omega) h3 rfl,h4⟩⟩
  ·exact hp.elim
  ·exact hp.elim
 ·rintro e W2 ⟨⟨v,rfl⟩,⟨xs,hS,hi,bk⟩ | ⟨pre,c,hi,bk⟩⟩
  ·exact⟨none,_,run_endLoop bk.loop (by simp[rc]),hdone _ xs _ (aJ _) hS (hI.putObj _ hi (by omega) bk.loop rfl) (bk.put _).defers⟩
  ·exact⟨some c,_,run_endLoop bk.loop (by simp[rc]),hstop _ c pre _ (aJ _) ((hIx c).putObj _ hi (by omega) bk.loop rfl) (bk.put _).defers⟩
end
section
attribute [-simp] isAgg51 zeroValue51
attribute [-go_sem] aE aL
attribute [local go_sem] bC bD dZ dQ
attribute [local go_sem] Oper.semAt_some
def bF (D:Nat->Sec) (k:Nat):List Nat:=(dm k).filter fun i=> !(D i).vs.isEmpty
theorem ou {D:Nat->Sec} {k:Nat} (h:(D k).vs≠ []):bF D (k+1)=bF D k++ [k]:=by
 unfold bF;rw[List.range_succ,List.filter_append];simp[h]
theorem qT {D:Nat->Sec} {k:Nat} (h:(D k).vs= []):bF D (k+1)=bF D k:=by
 unfold bF;rw[List.range_succ,List.filter_append];simp[h]
theorem ow {D:Nat->Sec} {k i:Nat} (h:i ∈ bF D k):i<k:=by
 have:=(List.mem_filter.1 h).1
 simpa using this
theorem mY {D:Nat->Sec} {k i:Nat} (h:i ∈ bF D k):(D i).vs≠ []:=by
 have:=(List.mem_filter.1 h).2
 simpa using this
theorem uD (D:Nat->Sec) (k:Nat):∀d,bF D k<+:bF D (k+d)
 | 0=>List.prefix_refl _
 | d+1=>by
  refine(uD D k d).trans ?_;by_cases h:(D (k+d)).vs= []
  ·rw[←Nat.add_assoc,qT h];exact List.prefix_refl _
  ·rw[←Nat.add_assoc,ou h];exact List.prefix_append _ _
theorem ox {D:Nat->Sec} {k i:Nat} (hi:i<k) (h:(D i).vs≠ []):i ∈ bF D k:=by
 unfold bF;rw[List.mem_filter];exact⟨by simpa using hi,by simpa using h⟩
theorem qU (D:Nat->Sec) (k:Nat):(bF D k).length<=k:=by
 have:=List.length_filter_le (fun i=> !(D i).vs.isEmpty) (dm k)
 simpa [bF]using this
def mZ (sb:Nat) (i:Nat):Array am:=#[ab af (i:Int),ao (some ⟨sb,i*65,none⟩)]
def uE (Bd rb sb n:Nat) (D0:Nat->Sec) (pre:List Nat) (W:ak):Prop:=
 Boxed W Bd 134 (ao (some ⟨rb,0,none⟩))/\∃sv D,DskAt W rb sb n sv D/\∀i,i<n->i ∉ pre->(D i).vs.length=(D0 i).vs.length
def uF (n:Nat) (D0:Nat->Sec) (pre:List Nat) (x:Nat):Prop:=∃k,k<n/\pre=bF D0 k/\x=k/\(D0 k).vs≠ []
theorem AA (Bd rb sb n:Nat) (D0:Nat->Sec) (l:Nat) (J Jx:List Nat->ak->Prop) (hR:∀pre W,J pre W->uE Bd rb sb n D0 pre W)
  (hY:∀pre x W,J pre W->uF n D0 pre x->YieldAt Fence.wide 1 aj l (mZ sb x) W fun e W'=>
   (e=ar (.bool true)/\J (pre++ [x]) W')\/(e=ar (.bool false)/\Jx (pre++ [x]) W'))
  (W:ak) (h0:J [] W):
  CallsIn Fence.wide 2 aj 262 #[.func (.yield l) #[] #[],ao (some ⟨Bd,0,none⟩)] W fun e W'=>(∃v,e=ar v)/\
   ((∃xs,xs=bF D0 n/\J xs W')\/(∃pre,Jx pre W')):=by
 refine callsIn_of_wp func262 rfl trivial ?_ rfl;simp only[ntmps262,dU,cK,dP,Nat.reduceAdd,Nat.reduceSub,ez,eA,eD,eF,dT,dX];obtain⟨hbx,sv,D,hd,hD⟩:=hR _ _ h0;have hbc:=hbx.cell;have HL:=ae (mV rb n _ D W ⟨sb,sv,hd,rfl⟩);clear hbx hd hD
 gi_wp2_with (refine⟨trivial, ?_⟩;gi_at_call 226;refine(callsIn_wide.2 HL.out).mono ?_;rintro e w' ⟨rfl,rfl⟩)
 clear hbc HL
 gi_loopw [7] (fun i wr=>∃k:Nat,k<=n/\i=ab af k/\J (bF D0 k) wr) (fun i _=>n - (aW i).toNat)
 case atStart=>exact⟨0,bq _,rfl,h0⟩
 case round=>
  obtain⟨k,hk,rfl,hJs⟩:=hrel;by_cases hlt:k<n
  ·obtain⟨hbx,sv,D,hd,hD⟩:=hR _ _ hJs;have hbc:=hbx.cell;have hhc:=hd.head.cell;have hlen:=hD k hlt (fun hm=>by have:=ow hm;omega);have hver:=(hd.secs k hlt).ver;obtain⟨a,cap,hf, -⟩:=(hd.secs k hlt).form;rw[hf,hlen]at hver;have hb1:(k:Int)< (n:Int):=by omega
   have HW:Hid (wrap64 ((k:Int)+1)=(k:Int)+1):=gj _ (by have:=hd.max;omega);clear hbx hd hD hlen hf;by_cases hv:(D0 k).vs= []
   ·have hz:(D0 k).vs.length=0:=by rw[hv];rfl
    rw[hz]at hver;have hnext:=qT hv;have HN:=ae hnext;clear hv hz hnext
    gi_wp2
    refine⟨fun _ h=>(by cases h), ?_⟩
    gi_wp2
    go_roundw
    case rel=>exact kk (C:=fun k=>J (bF D0 k) wr) HW.out hlt (by rw[HN.out];exact hJs)
    case measure=>
      exact km HW.out hlt
   ·obtain⟨fn,tmps,assign,body,hy,hYr⟩:=hY _ k wr hJs ⟨k,hlt,rfl,rfl,hv⟩
    dsimp only[mZ]at hy
    obtain⟨m,hm⟩:=w9nm ((D0 k).vs.length);have hm0:(0:Int)< (m:Int):=by have:=List.length_pos_iff.2 hv;omega
    rw[hm]at hver;have hnext:=ou hv;have HN:=ae hnext;clear hv hm hnext
    gi_wp2
    refine hYr.mono ?_;rintro e W3 (⟨rfl,hJ3⟩ | ⟨rfl,hJx3⟩)
    ·gi_wp2
     go_roundw
     case rel=>exact kk (C:=fun k=>J (bF D0 k) W3) HW.out hlt (by rw[HN.out];exact hJ3)
     case measure=>
      exact km HW.out hlt
    ·gi_wp2
     refine bl (results_none rfl _ _ _) rfl ?_;exact⟨⟨_,rfl⟩,aC ⟨_,hJx3⟩⟩
  ·obtain rfl:k=n:=by omega
   gi_wp2
   go_end0
   exact⟨⟨_,rfl⟩,aA ⟨_,rfl,hJs⟩⟩
theorem mn.mono {α:Type} {F:Fence} {n:Nat} {P:Program} {g:Nat} {lb:Array am} {encs:α->Array am} {R R':List α->ak->Prop} {Ok:List α->α->Prop} {S:List α->Prop} {w:ak}
  (h:mn F n P g lb encs R Ok S w) (hR:∀pre W,R' pre W->R pre W):mn F n P g lb encs R' Ok S w:=
 fun l J Jx W hW hJ hA hAx hY h0=>h l J Jx W hW (fun pre W' hj=>hR pre W' (hJ pre W' hj)) hA hAx hY h0
theorem uG (Bd rb sb n:Nat) (D0:Nat->Sec) (w:ak):mn Fence.wide 2 aj 262 #[ao (some ⟨Bd,0,none⟩)] (mZ sb) (uE Bd rb sb n D0) (uF n D0) (fun xs=>xs=bF D0 n) w:=
 fun l J Jx W _ hR _ _ hY h0=>AA Bd rb sb n D0 l J Jx hR hY W h0
theorem uH (F:Fence) (n:Nat) (hf:F.fn 206) (hro:F.round=none) (p:Option aN) (w:ak):
  CallsIn F n aj 206 #[ao p] w fun e w'=>e=ar (.func (.func 262) #[] #[ao (some ⟨w.heap.size,0,none⟩)])/\w'=w.alloc (ap #[ao p] 134):=by
 refine callsIn_of_wp func206 rfl hf ?_ hro;simp only[ntmps206,dU,cK,dP,Nat.reduceAdd,Nat.reduceSub,ez,eA,eD,eF,dT,dX]
 gi_wp2
 go_ret;exact⟨rfl,rfl⟩
theorem AB:(aj.info? 3).map (fun i=>(i.zero,i.size,i.bytes))=some (some (ab af 0),1,8):=by kernel_rfl
def ly (l:List Nat):List am:=l.map fun i:Nat=>Value.int af (i:Int)
theorem AD (l:List Nat) (x:Nat):ly (l++ [x])=ly l++ [ab af (x:Int)]:=by simp[ly]
theorem jA {β:Type} (B:Nat) (t:aV) (f:β->am) (N:Nat):OwnFrom N (fun s W=>Boxed W B t (f s)):=(boxed_own B t f).from N
open Classical in
noncomputable def cR (D:Nat->Sec) (g:Nat->Nat) (pre:List Nat):Nat->Sec:=fun j=>if j ∈ pre then(D j).settle (g j)else D j
theorem qV (D:Nat->Sec) (g:Nat->Nat):cR D g []=D:=by funext j;simp[cR]
theorem ji {D:Nat->Sec} {g:Nat->Nat} {pre:List Nat} {j:Nat} (h:j ∉ pre):cR D g pre j=D j:=if_neg h
theorem lz {D:Nat->Sec} {g:Nat->Nat} {pre:List Nat} {j:Nat} (h:j ∈ pre):cR D g pre j=(D j).settle (g j):=if_pos h
theorem qW (D:Nat->Sec) (g:Nat->Nat) (pre:List Nat) (x:Nat):cR D g (pre++ [x])=dD (cR D g pre) x ((D x).settle (g x)):=by
 funext j
 by_cases e:j=x
 ·subst e;rw[en,lz (by simp)]
 ·rw[ef _ _ e];by_cases h:j ∈ pre
  ·rw[lz h,lz (by simp[h])]
  ·rw[ji h,ji (by simp[h,e])]
theorem m4 (D:Nat->Sec) (x:Nat):x ∉ bF D x:=fun h=>by have:=ow h;omega
def jB (w:ak) (rb sb n:Nat) (f:Nat->Prop) (D:Nat->Sec) (g:Nat->Nat) (pre:List Nat) (W:ak):Prop:=∃sv,DskAt W rb sb n sv (cR D g pre)/\Turn f (iG rb sb n sv) w W
theorem Turn.kept {f f':Nat->Prop} {w W W':ak} {row:Option Nat} (h:Turn f f' w W) (hg:W.grownBy W' row) (hr:∀r,row=some r->w.heap.size<=r):Turn f f' w W':=by
 have hb:∀k,k<w.heap.size->W'.heap[k]? =W.heap[k]? :=fun k hk=>hg.block k (aU hk h.size) (fun e=>by have:=hr k e.symm;omega);exact⟨om h.still ⟨hg.os,hg.tape,hg.output⟩,⟨aZ h.size hg.size,fun k o hk ho=>(hb k (cj.1 hk).1).trans (h.others.same k o hk ho)⟩,
  fun k hk hn=>(hb k hk).trans (h.out k hk hn),h.new⟩
theorem DskAt.grown {W W':ak} {rb sb n:Nat} {sv:Nat->am} {D:Nat->Sec} {row:Option Nat} (h:DskAt W rb sb n sv D) (hn:0<n) (hg:W.grownBy W' row) (hr:∀r,row=some r->∃o:Obj,W.heap[r]? =some o/\o.isCells=false):DskAt W' rb sb n sv D:=
 h.kept fun k hk=>hg.block k (h.lt hn hk) fun e=>by
  obtain⟨o,ho,hc⟩:=hr k e.symm;rw[h.isCells hn hk ho]at hc;cases hc
theorem uI (w:ak) (rb sb n:Nat) (f:Nat->Prop) (D:Nat->Sec) (g:Nat->Nat) (hn:0<n) (N:Nat) (hN:w.heap.size<=N):OwnFrom N (jB w rb sb n f D g):=by
 rintro pre W W' row ⟨sv,h1,h2⟩ hg hr;exact⟨sv,h1.grown hn hg (fun r e=>(hr r e).2),h2.kept hg (fun r e=>aZ hN (hr r e).1)⟩
theorem jB.next {w W W':ak} {rb sb n x:Nat} {f:Nat->Prop} {D:Nat->Sec} {g:Nat->Nat} {sv:Nat->am} {pre:List Nat} (h1:DskAt W rb sb n sv (cR D g pre)) (h2:Turn f (iG rb sb n sv) w W) (hx:x<n) (hp:x ∉ pre)
  (hs':SecAt W' 0 sb (x*65) ((cR D g pre x).settle (g x)) (ag none 0 0)) (hs:Step W W' sb (x*65) (sv x)):jB w rb sb n f D g (pre++ [x]) W':=by
 rw[ji hp]at hs';refine⟨dD sv x (ag none 0 0), ?_,h2.trans (h1.turn hx hs (aA rfl))⟩;rw[qW];exact h1.step hx hs hs' (aA rfl)
theorem Boxed.step {W W':ak} {B t sb o N n:Nat} {u v:am} {xs:List am} (h:Boxed W B t u) (hs:Step W W' sb o v) (hr:W.ownsRow N 51 64 v n xs) (ht:t≠ 51) (hne:B≠sb):Boxed W' B t u:=
 (hs.blocks B h.lt hne (h.not_row ht hr)).trans h
theorem uJ (rb n:Nat) (f:Nat->Prop) (D:Nat->Sec) (w:ak) (h:Disk w rb n f D) (hn:0<n):
  az aj 169 #[ao (some ⟨rb,0,none⟩)] w fun e w'=>e=ar (ab af 0)/\∃f',Disk w' rb n f' (cR D (fun j=>(D j).vs.length) (bF D n))/\Turn f f' w w':=by
 obtain⟨g,hg⟩:∃g:Nat->Nat,(fun j=>(D j).vs.length)=g:=⟨_,rfl⟩;rw[hg];refine(callsIn_wide (n:=3)).1 ?_;refine jf func169 rfl trivial ?_ rfl;simp only[ntmps169,dU,cK,dP,Nat.reduceAdd,Nat.reduceSub,ez,eA,eD,eF,dT,dX];obtain⟨sb,sv,hd,rfl⟩:=h;have hmax:=hd.max;have HD:=ae hd;have HG:=ae hg;clear hd hg
 gi_wp2_with (refine⟨trivial, ?_⟩;gi_at_call 206;refine(uH _ _ trivial rfl _ _).mono ?_;rintro e w' ⟨rfl,rfl⟩)
 obtain⟨W0,hW0⟩:=w9nm (w.alloc (ap #[ao (some ⟨rb,0,none⟩)] 134));have bd0:Boxed W0 w.heap.size 134 (ao (some ⟨rb,0,none⟩)):=by rw[←hW0];exact dY w _ _
 have hB0:ah w.heap.size w W0:=by rw[←hW0];exact(aF _ w).alloc (aJ _) _
 have hsz0:W0.heap.size=w.heap.size+1:=by rw[←hW0];simp
 rw[hW0];clear hW0;have P0:jB w rb sb n (iG rb sb n sv) D g [] W0:=⟨sv,by rw[qV];exact HD.out.kept (fun k hk=>hB0.block k (HD.out.lt hn hk)),Turn.of_below hB0⟩;refine mX (n:=3) rfl (by omega) (gf:= 262) (lb:=#[ao (some ⟨w.heap.size,0,none⟩)]) rfl trivial (enters_of func262 (by kernel_rfl) rfl)
  (fun pre W=>Boxed W w.heap.size 134 (ao (some ⟨rb,0,none⟩))/\jB w rb sb n (iG rb sb n sv) D g pre W)
  (fun _ _ _=>False)
  ((uG w.heap.size rb sb n D W0).mono fun pre W hI=>⟨hI.1,by obtain⟨sv',h1,_⟩:=hI.2;exact⟨sv',_,h1,fun i _ hi=>by rw[ji hi]⟩⟩)
  (aF _ _) (fun _=>rfl)
  ((jA _ _ (fun _=>ao (some ⟨rb,0,none⟩)) _).and (uI w rb sb n _ D g hn _ (by omega)))
  (fun _ _ _ _ _ h _ _=>h.elim) ⟨bd0,P0⟩ ?a1 ?assign ?body ?done ?stop
 case assign=>
  intro l x W K hK
  dsimp only[mZ]
  gi_wp2
  exact hK
 case body=>
  rintro l pre x W ⟨hbd,sv',h1,h2⟩ ⟨k,hk,rfl,rfl,hvs⟩;have hs:=h1.secs x hk;have hsv:=hs.ver;have hsx:cR D g (bF D x) x=D x:=ji (m4 D x);obtain⟨a,cap,hf, -⟩:=hs.form;have hS:=uv 0 sb (x*65) (g x) _ _ W hs (by rw[hsx,←HG.out];exact aJ _);have hlen:(cR D g (bF D x) x).vs.length=g x:=by rw[hsx,←HG.out]
  rw[hlen]at hf;rw[hf]at hsv;have HS:=ae hS;have H1:=ae h1;have H2:=ae h2;have HK:=ae hk;have hsb:=hs.lt;have HB:=ae hbd;have HSB:Hid (sb<w.heap.size):=(HD.out.secs x hk).lt;obtain⟨m,hm⟩:=w9nm (g x);have HM:=ae hm;rw[hm]at hsv HS;clear hs hf hS hlen hsx h1 h2 hk hsb hvs hbd hm
  gi_wp2_with (refine⟨trivial, ?_⟩;gi_at_call 207;refine(CallsIn.inRound l (callsIn_wide.2 HS.out)).mono ?_;rintro e w' ⟨rfl,hsa,hst⟩)
  refine⟨hst.others.from _,trivial,Boxed.step HB.out hst (H1.out.secs x HK.out).row (by decide) (by have:=HSB.out;omega),jB.next H1.out H2.out HK.out (m4 D x) (by rw[HM.out];exact hsa) hst⟩
 case done=>
  rintro Dd xs W hDd rfl ⟨hbd,sv',h1,h2⟩ hK
  gi_wp2
  refine⟨by simp,aA ⟨_,_,rfl,iD hK, ?_⟩⟩;have hgr:=grownBy_putObj' W Dd (.deferred none);exact⟨_,results_tmp rfl _ _ _,rfl,_,⟨sb,sv',h1.grown hn hgr (fun r e=>by cases e;exact⟨_,hK,rfl⟩),rfl⟩,h2.kept hgr (fun r e=>by cases e;omega)⟩
 case stop=>
  rintro D c pre W _ h _;exact h.elim
def kt (bs:List Int) (i m:Nat):Nat:=if i<bs.length then(bs[i]?.getD 0).toNat%(m+1)else 0
theorem uK (bs:List Int) (i m:Nat):kt bs i m<=m:=by
 unfold kt;split
 ·exact Nat.le_of_lt_succ (fO _ (by omega))
 ·omega
def ip (D:Nat->Sec) (bs:List Int) (j:Nat):Nat:=kt bs (bF D j).length (D j).vs.length
def ju (f:Nat->Prop) (v:am):Prop:=∀b off len cap,v=ag (some ⟨b,off,none⟩) len cap->¬f b
theorem uL {α:Type} {B:Nat} {Kp:ak->ak->Prop} {I:List α->ak->Prop} {Ix:Code->List α->ak->Prop} {xs:List α} {W:ak}:¬LetsOut (ownPostG B Kp I Ix xs W):=fun⟨a,w,e⟩=>e.elim
theorem jB.box {w W:ak} {rb sb n B t:Nat} {f:Nat->Prop} {D:Nat->Sec} {g:Nat->Nat} {pre:List Nat} {u:am} (h:jB w rb sb n f D g pre W) (hb:Boxed W B t u) (ht:t≠ 51) (hB:w.heap.size<=B) (h1:rb<w.heap.size) (h2:sb<w.heap.size) (u':am):
  jB w rb sb n f D g pre (W.setCell ⟨B,0,none⟩ u'):=by
 obtain⟨sv,hd,htn⟩:=h;refine⟨sv,hd.kept fun k hk=>gc _ _ _ k (fun e=> ?_),htn.kept (grownBy_setCell' W B u') (fun r e=>by cases e;exact hB)⟩;have e:B=k:=e.symm;subst e;rcases hk with rfl | rfl | ⟨i,hi,hk⟩
 ·omega
 ·omega
 ·exact hb.not_row ht (hd.secs i hi).row hk.symm
theorem uM {w W w':ak} {rb sb n K N:Nat} {sv:Nat->am} {D:Nat->Sec} {g:Nat->Nat} {pv dv:am} {pre:List Nat} {x:Nat} {a:Act} (HD:DskAt w rb sb n sv D) (hn:0<n) (hK:pre.length=K)
  (e1:Boxed w' w.heap.size 76 pv) (e2:Boxed w' (w.heap.size+1) 3 (ab af (K:Int))) (e3:Boxed w' (w.heap.size+1+1) 134 dv) (e4:KeepsOthers W w') (e5:jB w rb sb n (iG rb sb n sv) D g (pre++ [x]) w') (hN:w.heap.size<=N):
  ownPostG N (fun _ _=>True) (fun pre W=>Boxed W w.heap.size 76 pv/\Boxed W (w.heap.size+1) 3 (ab af (pre.length:Int))/\Boxed W (w.heap.size+1+1) 134 dv/\jB w rb sb n (iG rb sb n sv) D g pre W)
   (fun _ _ _=>False) (pre++ [x]) W Exit.normal a (w'.setCell ⟨w.heap.size+1,0,none⟩ (ab af ((K:Int)+1))):=by
 refine⟨(e4.trans (iC _ _ _)).from _,trivial,e1.other (by omega) _, ?_,e3.other (by omega) _,e5.box e2 (by decide) (by omega) (HD.lt hn (aA rfl)) (HD.lt hn (aC (aA rfl))) _⟩;have:=e2.set (ab af ((K:Int)+1));rw[cX,hK];exact this
theorem uN (rb n:Nat) (f:Nat->Prop) (D:Nat->Sec) (v:am) (bs:List Int) (w:ak) (h:Disk w rb n f D) (hn:0<n) (hv:Sl aq w v bs) (hB:aP bs) (hc:bs≠ []->ju f v) (hl:∀i,i<n->(D i).vs.length<=1000000):
  az aj 119 #[ao (some ⟨rb,0,none⟩),v] w fun e w'=>e=ar (aQ #[])/\∃f',Disk w' rb n f' (cR D (ip D bs) (bF D n))/\Turn f f' w w':=by
 obtain⟨g,hg⟩:∃g:Nat->Nat,ip D bs=g:=⟨_,rfl⟩;rw[hg];obtain⟨ad,cap,rfl,hcap,hmaxc,hlies, -⟩:=hv;refine(callsIn_wide (n:=3)).1 ?_;refine jf func119 rfl trivial ?_ rfl;simp only[ntmps119,dU,cK,dP,Nat.reduceAdd,Nat.reduceSub,ez,eA,eD,eF,dT,dX];obtain⟨sb,sv,hd,rfl⟩:=h;have hmax:=hd.max;have HD:=ae hd;have HG:=ae hg;have HC:=ae hc;have HLI:=ae hlies;have HBY:=ae hB;have HMC:=ae hmaxc;have HCAP:=ae hcap;obtain⟨L,hL⟩:=w9nm bs.length;have HL:=ae hL;rw[hL];clear hd hg hc hlies hB hmaxc hcap hL
 gi_wp2_with (refine⟨trivial, ?_⟩;gi_at_call 206;refine(uH _ _ trivial rfl _ _).mono ?_;rintro e w' ⟨rfl,rfl⟩)
 obtain⟨W0,hW0⟩:=w9nm ((((w.alloc (ap #[ag ad L cap] 76)).alloc (ap #[ab af 0] 3)).alloc (ap #[ao (some ⟨rb,0,none⟩)] 134)));have bp0:Boxed W0 w.heap.size 76 (ag ad L cap):=by rw[←hW0];exact((dY w _ _).alloc _).alloc _
 have bk0:Boxed W0 (w.heap.size+1) 3 (ab af 0):=by
  rw[←hW0];have:=(dY (w.alloc (ap #[ag ad L cap] 76)) 3 (ab af 0)).alloc (ap #[ao (some ⟨rb,0,none⟩)] 134)
  rwa [dy]at this
 have bd0:Boxed W0 (w.heap.size+1+1) 134 (ao (some ⟨rb,0,none⟩)):=by
  rw[←hW0];have:=dY ((w.alloc (ap #[ag ad L cap] 76)).alloc (ap #[ab af 0] 3)) 134 (ao (some ⟨rb,0,none⟩))
  rwa [dy,dy]at this
 have hB0:ah w.heap.size w W0:=by rw[←hW0];exact(((aF _ w).alloc (aJ _) _).alloc (by simp) _).alloc (by simp;omega) _
 have hsz0:W0.heap.size=w.heap.size+3:=by rw[←hW0];simp
 rw[hW0];clear hW0;have P0:jB w rb sb n (iG rb sb n sv) D g [] W0:=⟨sv,by rw[qV];exact HD.out.kept (fun k hk=>hB0.block k (HD.out.lt hn hk)),Turn.of_below hB0⟩;refine mX (n:=3) rfl (by omega) (gf:= 262) (lb:=#[ao (some ⟨w.heap.size+1+1,0,none⟩)]) rfl trivial (enters_of func262 (by kernel_rfl) rfl)
  (fun pre W=>Boxed W w.heap.size 76 (ag ad L cap)/\Boxed W (w.heap.size+1) 3 (ab af (pre.length:Int))/\Boxed W (w.heap.size+1+1) 134 (ao (some ⟨rb,0,none⟩))/\jB w rb sb n (iG rb sb n sv) D g pre W)
  (fun _ _ _=>False)
  ((uG (w.heap.size+1+1) rb sb n D W0).mono fun pre W hI=>⟨hI.2.2.1,by obtain⟨sv',h1,_⟩:=hI.2.2.2;exact⟨sv',_,h1,fun i _ hi=>by rw[ji hi]⟩⟩)
  (aF _ _) (fun _=>rfl)
  ((jA _ _ (fun _=>ag ad L cap) _).and ((jA _ _ (fun pre:List Nat=>ab af (pre.length:Int)) _).and ((jA _ _ (fun _=>ao (some ⟨rb,0,none⟩)) _).and (uI w rb sb n _ D g hn _ (by omega)))))
  (fun _ _ _ _ _ h _ _=>h.elim) ⟨bp0,bk0,bd0,P0⟩ ?a1 ?assign ?body ?done ?stop
 case assign=>
  intro l x W K hK
  dsimp only[mZ]
  gi_wp2
  exact hK
 case body=>
  rintro l pre x W ⟨hbp,hbk,hbd,sv',h1,h2⟩ ⟨k,hk,rfl,rfl,hvs⟩;have hs:=h1.secs x hk;have hsv:=hs.ver;have hsx:cR D g (bF D x) x=D x:=ji (m4 D x);obtain⟨a,cap',hf,hc1,hc2, -⟩:=hs.form;rw[hsx]at hf hc1;obtain⟨m,hm⟩:=w9nm ((D x).vs.length);rw[hf,hm]at hsv;rw[hm]at hc1;obtain⟨K,hK⟩:=w9nm ((bF D x).length);have hKx:K<=x:=by rw[←hK];exact qU D x
  have hgx:g x=kt bs K m:=by rw[←HG.out,ip,hK,hm]
  have hgm:g x<=m:=by rw[hgx];exact uK _ _ _
  obtain⟨q,hq⟩:=w9nm (g x);have hS:∀W':ak,W'=W\/W'=W.drew->az aj 207 #[ao (some ⟨sb,x*65,none⟩),ab af (q:Int)] W' fun e w'=>e=ar (aQ #[])/\Boxed w' w.heap.size 76 (ag ad L cap)/\Boxed w' (w.heap.size+1) 3 (ab af (K:Int))/\Boxed w' (w.heap.size+1+1) 134 (ao (some ⟨rb,0,none⟩))/\KeepsOthers W w'/\jB w rb sb n (iG rb sb n sv) D g (bF D x++ [x]) w':=by
   intro W' hW';have hsec:SecAt W' 0 sb (x*65) (cR D g (bF D x) x) (sv' x):=by rcases hW' with rfl | rfl;exact hs;exact hs.kept rfl (fun _ _=>rfl)
   have hlt:sb<w.heap.size:=(HD.out.secs x hk).lt;refine(uv 0 sb (x*65) q _ _ W' hsec (by rw[hsx,←hq,hm];exact hgm)).mono ?_;rintro e w' ⟨rfl,hsa,hst⟩;have hst':Step W w' sb (x*65) (sv' x):=by rcases hW' with rfl | rfl;exact hst;exact(Step.refl W sb (x*65) (sv' x)).drew.trans hst
   exact⟨rfl,Boxed.step hbp hst' hs.row (by decide) (by omega),Boxed.step (by rw[←hK];exact hbk) hst' hs.row (by decide) (by omega),Boxed.step hbd hst' hs.row (by decide) (by omega),hst'.others,jB.next h1 h2 hk (m4 D x) (by rw[hq];exact hsa) hst'⟩
  have HS:=ae hS;have d1:=hbp.cell;have d2:=hbk.cell;rw[hK]at d2;have HK:=ae hK;have HW1:Hid (wrap64 ((K:Int)+1)=(K:Int)+1):=gj _ (by omega);by_cases hKL:K<L
  ·obtain⟨b,off,rfl,hbw,hby⟩:∃b off,ad=some ⟨b,off,none⟩/\b<w.heap.size/\∀j,j<bs.length->w.cell? ⟨b,off+j,none⟩=some (ab aq (bs[j]?.getD 0)):=by
    rcases HLI.out with e | e
    ·have:=HL.out;rw[e]at this;simp at this;omega
    ·exact e
   obtain⟨y,hy⟩:=w9nm (bs[K]?.getD 0);obtain⟨y0,y1⟩:=HBY.out K;rw[hy]at y0 y1;have d3:W.cell? ⟨b,off+K,none⟩=some (ab aq y):=by
    rw[←hy,←hby K (by rw[HL.out];exact hKL)];exact cL (a:=⟨b,off+K,none⟩) (h2.out b hbw (HC.out (fun e=>by have:=HL.out;rw[e]at this;simp at this;omega) b off _ _ rfl))
   have hqy:q=y.toNat%(m+1):=by rw[←hq,hgx,kt,if_pos (by rw[HL.out];exact hKL),hy]
   have hlt:(K:Int)< (L:Int):=by omega
   have HY0:Hid (0<=y):=y0;have HY1:Hid (y<256):=y1;have HQY:Hid (y%((m:Int)+1)=(q:Int)):=by
    show _=_;obtain⟨z,rfl⟩:=Int.eq_ofNat_of_zero_le y0;rw[hqy,gO,Int.natCast_emod,Int.natCast_add]
    rfl
   have HM:Hid ((m:Int)<=1000000):=by have:=hl x hk;show _<=_;omega
   have hmx:=w9x
   clear hs hf hsx hm hgx hgm hq hS h1 h2 hk hvs hbp hbk hbd hc1 hc2 hK hKx hKL hby hy y0 y1 hqy hbw
   gi_wp2
   ·have hm1:=HM.out;have y0:=HY0.out;have y1:=HY1.out;refine uj (fun x=>x=W.drew) 12 (.takes [0,1,2,3,4,5,6,7,8,9,10,11] .leaf) (fun⟨a,w,e⟩=>False.elim e) (by kernel_rfl) hmx (by kernel_rfl) (by intro c x v a w h;cases x<;>exact h) rfl ?_;repeat(rw[bj];simp only[au,ay];go_big_quiet_step (fail);refine aO ?_)
    rw[bo,cu];simp only[be,bf];rw[HQY.out];clear hm1 y0 y1;go_wp2_with fail
    gi_wp2_with (refine⟨trivial, ?_⟩;gi_at_call 207;refine(CallsIn.inRound l (callsIn_wide.2 (HS.out _ (aC rfl)))).mono ?_;rintro e w' ⟨rfl,e1,e2,e3,e4,e5⟩;have e2c:=e2.cell;have e2f:=e2.frozen;have E1:=ae e1;have E2:=ae e2;have E3:=ae e3;have E4:=ae e4;have E5:=ae e5;clear e1 e2 e3 e4 e5)
    have HLT:=HD.out;rw[HW1.out];exact uM HLT hn HK.out E1.out E2.out E3.out E4.out E5.out (by omega)
  ·have hq0:q=0:=by rw[←hq,hgx];unfold kt;rw[if_neg (by rw[HL.out];exact hKL)]
   subst hq0;have g1:¬((K:Int)< (L:Int)):=by omega
   clear hs hf hsx hm hgx hgm hq hS h1 h2 hk hvs hbp hbk hbd hc1 hc2 hK hKx hKL
   gi_wp2_with (refine⟨trivial, ?_⟩;gi_at_call 207;refine(CallsIn.inRound l (callsIn_wide.2 (HS.out _ (aA rfl)))).mono ?_;rintro e w' ⟨rfl,e1,e2,e3,e4,e5⟩;have e2c:=e2.cell;have e2f:=e2.frozen;have E1:=ae e1;have E2:=ae e2;have E3:=ae e3;have E4:=ae e4;have E5:=ae e5;clear e1 e2 e3 e4 e5)
   have HLT:=HD.out;rw[HW1.out];exact uM HLT hn HK.out E1.out E2.out E3.out E4.out E5.out (by omega)
 case done=>
  rintro Dd xs W hDd rfl ⟨-, -,hbd,sv',h1,h2⟩ hK
  gi_wp2
  refine⟨by simp,aA ⟨_,_,rfl,iD hK, ?_⟩⟩;have hgr:=grownBy_putObj' W Dd (.deferred none);exact⟨_,results_none rfl _ _ _,rfl,_,⟨sb,sv',h1.grown hn hgr (fun r e=>by cases e;exact⟨_,hK,rfl⟩),rfl⟩,h2.kept hgr (fun r e=>by cases e;omega)⟩
 case stop=>
  rintro D c pre W _ h _;exact h.elim
end
section
theorem Sl.same {k:IntKind} {w w':ak} {v:am} {bs:List Int} (h:Sl k w v bs) (hs:w.heap.size<=w'.heap.size) (hb:∀b,v.ownBlock=some b->w'.heap[b]? =w.heap[b]?):Sl k w' v bs:=by
 obtain⟨a,cap,rfl,h1,h2,h3,h4⟩:=h;refine⟨a,cap,rfl,h1,h2, ?_,h4⟩;rcases h3 with h3 | ⟨b,off,rfl,h5,h6⟩
 ·exact aA h3
 ·exact aC ⟨b,off,rfl,aU h5 hs,fun j hj=>(cL (a:=⟨b,off+j,none⟩) (hb b rfl)).trans (h6 j hj)⟩
theorem uO {w:ak} {B:Nat} {c:List am} (h:w.heap[B]? =some (ap c.toArray 51 (0,0))) (hc:bx c):(aE 51 ⟨B,0,none⟩).run aj w=.ok (al c.toArray) w:=
 dd (fun j x hx=>by rw[cl _ _ _ _ _ _ h];simpa using hx) hc.length
end
section
abbrev ea:=ak->(Nat->Prop)->Prop
structure IsRes (P:ea):Prop where
 out:∀{w w':ak} {f:Nat->Prop},P w f->(∀k,f k->w'.heap[k]? =w.heap[k]?)->P w' f
 lt:∀{w:ak} {f:Nat->Prop},P w f->∀k,f k->k<w.heap.size
 cells:∀{w:ak} {f:Nat->Prop},P w f->∀k,f k->∀ob,w.heap[k]? =some ob->ob.isCells=true
section
variable {P P' Q Q':ea} {w w' w0 W W':ak} {f:Nat->Prop} {own:Nat->Prop}
theorem IsRes.below (hP:IsRes P) (h:P w f) (hb:w9b w w'):P w' f:=hP.out h fun k hk=>hb.block k (hP.lt h k hk)
theorem IsRes.grown {row:Option Nat} (hP:IsRes P) (h:P w f) (hg:w.grownBy w' row) (hr:∀r,row=some r->∃o:Obj,w.heap[r]? =some o/\o.isCells=false):P w' f:=
 hP.out h fun k hk=>hg.block k (hP.lt h k hk) fun e=>by
  obtain⟨o,ho,hc⟩:=hr k e.symm;rw[hP.cells h k hk o ho]at hc;cases hc
def cS (P Q:ea):ea:=fun w f=>∃f1 f2,P w f1/\Q w f2/\(∀k,f1 k->¬f2 k)/\f=fun k=>f1 k\/f2 k
theorem IsRes.sep (hP:IsRes P) (hQ:IsRes Q):IsRes (cS P Q) where
 out:=by
  rintro w w' f ⟨f1,f2,h1,h2,h3,rfl⟩ hk;exact⟨f1,f2,hP.out h1 (fun k h=>hk k (aA h)),hQ.out h2 (fun k h=>hk k (aC h)),h3,rfl⟩
 lt:=by
  rintro w f ⟨f1,f2,h1,h2,h3,rfl⟩ k hk;exact hk.elim (hP.lt h1 k) (hQ.lt h2 k)
 cells:=by
  rintro w f ⟨f1,f2,h1,h2,h3,rfl⟩ k hk;exact hk.elim (hP.cells h1 k) (hQ.cells h2 k)
theorem cS.swap (h:cS P Q w f):cS Q P w f:=by
 obtain⟨f1,f2,h1,h2,h3,rfl⟩:=h;exact⟨f2,f1,h2,h1,fun k a b=>h3 k b a,by funext k;exact propext or_comm⟩
theorem Turn.first (hP:IsRes P) (hQ:IsRes Q) {f1 f2:Nat->Prop} (h1:P w f1) (h2:Q w f2) (h3:∀k,f1 k->¬f2 k) (h:∃f1',P' w' f1'/\Turn f1 f1' w w'):∃f',cS P' Q w' f'/\Turn (fun k=>f1 k\/f2 k) f' w w':=by
 obtain⟨f1',g1,g2⟩:=h;refine⟨_,⟨f1',f2,g1,hQ.out h2 (fun k hk=>g2.out k (hQ.lt h2 k hk) (fun h=>h3 k h hk)),fun k a b=> ?_,rfl⟩,⟨g2.still,g2.others,fun k hk hn=>g2.out k hk (fun h=>hn (aA h)),fun k hk=> ?_⟩⟩
 ·rcases g2.new k a with h | h
  ·exact h3 k h b
  ·have:=hQ.lt h2 k b;omega
 ·rcases hk with hk | hk
  ·exact(g2.new k hk).imp aA id
  ·exact aA (aC hk)
theorem cS.first {g:FuncId} {args:Array am} {R:Ending->ak->Prop} (hP:IsRes P) (hQ:IsRes Q) (h:cS P Q w f)
  (hc:∀f1,P w f1->az aj g args w fun e w'=>R e w'/\∃f1',P' w' f1'/\Turn f1 f1' w w'):az aj g args w fun e w'=>R e w'/\∃f',cS P' Q w' f'/\Turn f f' w w':=by
 obtain⟨f1,f2,h1,h2,h3,rfl⟩:=h;exact(hc f1 h1).mono fun e w' ⟨hr,h⟩=>⟨hr,Turn.first hP hQ h1 h2 h3 h⟩
theorem cS.second {g:FuncId} {args:Array am} {R:Ending->ak->Prop} (hP:IsRes P) (hQ:IsRes Q) (h:cS P Q w f)
  (hc:∀f2,Q w f2->az aj g args w fun e w'=>R e w'/\∃f2',Q' w' f2'/\Turn f2 f2' w w'):az aj g args w fun e w'=>R e w'/\∃f',cS P Q' w' f'/\Turn f f' w w':=
 (cS.first hQ hP h.swap hc).mono fun e w' ⟨hr,f',h1,h2⟩=>⟨hr,f',h1.swap,h2⟩
def dL (P:ea) (w0 W:ak) (own:Nat->Prop):Prop:=∃f,P W f/\(∀k,f k->w0.heap.size<=k/\¬own k)/\(∀k,own k->k<W.heap.size)/\ah w0.heap.size w0 W
theorem dL.bel (h:dL P w0 W own):ah w0.heap.size w0 W:=by obtain⟨f,h1,h2,h3,h4⟩:=h;exact h4
theorem dL.size (h:dL P w0 W own):w0.heap.size<=W.heap.size:=h.bel.size
theorem dL.lt (h:dL P w0 W own) {B:Nat} (hB:own B):B<W.heap.size:=by obtain⟨f,h1,h2,h3,h4⟩:=h;exact h3 B hB
theorem dL.below (hP:IsRes P) (h:dL P w0 W own) (hb:w9b W W') (own':Nat->Prop) (ho:∀k,own' k->own k\/(W.heap.size<=k/\k<W'.heap.size)):dL P w0 W' own':=by
 obtain⟨f,h1,h2,h3,h4⟩:=h;refine⟨f,hP.below h1 hb,fun k hk=>⟨(h2 k hk).1,fun h'=> ?_⟩,fun k hk=> ?_,h4.trans (hb.mono h4.size)⟩
 ·rcases ho k h' with h' | ⟨h',_⟩
  ·exact(h2 k hk).2 h'
  ·have:=hP.lt h1 k hk;omega
 ·rcases ho k hk with h' | ⟨_,h'⟩
  ·exact aU (h3 k h') hb.size
  ·exact h'
theorem dL.beside (hP:IsRes P) (h:dL P w0 W own) (hb:w9b W W'):dL P w0 W' own:=h.below hP hb own fun _ h=>aA h
theorem dL.less (h:dL P w0 W own) (own':Nat->Prop) (ho:∀k,own' k->own k):dL P w0 W own':=by
 obtain⟨f,h1,h2,h3,h4⟩:=h;exact⟨f,h1,fun k hk=>⟨(h2 k hk).1,fun h'=>(h2 k hk).2 (ho k h')⟩,fun k hk=>h3 k (ho k hk),h4⟩
theorem dL.owned (hP:IsRes P) (h:dL P w0 W own) {B:Nat} (hB:own B) (hw:w0.heap.size<=B) (W':ak) (hb:ah B W W') (hs:∀k,k<W.heap.size->k≠B->W'.heap[k]? =W.heap[k]?) (hsz:W'.heap.size=W.heap.size):dL P w0 W' own:=by
 obtain⟨f,h1,h2,h3,h4⟩:=h;exact⟨f,hP.out h1 (fun k hk=>hs k (hP.lt h1 k hk) (fun e=>(h2 k hk).2 (e▸hB))),h2,fun k hk=>by rw[hsz];exact h3 k hk,h4.trans (hb.mono hw)⟩
theorem dL.setCell (hP:IsRes P) (h:dL P w0 W own) {B k:Nat} (hB:own B) (hw:w0.heap.size<=B) (u:am):dL P w0 (W.setCell ⟨B,k,none⟩ u) own:=
 h.owned hP hB hw _ ((aF B W).setCell (p:=⟨B,k,none⟩) (aJ _) u) (fun j _ hj=>gc _ _ _ j (fun e=>hj e)) (lw _ _ _)
theorem dL.turned (hP':IsRes P') {f:Nat->Prop} (h2:∀k,f k->w0.heap.size<=k/\¬own k) (h3:∀k,own k->k<W.heap.size) (h4:w9b w0 W)
  (h:∃f',P' W' f'/\Turn f f' W W'):dL P' w0 W' own/\∀k,own k->W'.heap[k]? =W.heap[k]? :=by
 obtain⟨f',g1,g2⟩:=h;refine⟨⟨f',g1,fun k hk=> ?_,fun k hk=>aU (h3 k hk) g2.size,h4.trans (g2.below h4.size (fun k hk=>(h2 k hk).1))⟩,fun k hk=>g2.out k (h3 k hk) (fun h'=>(h2 k h').2 hk)⟩;rcases g2.new k hk with h' | h'
 ·exact h2 k h'
 ·exact⟨aZ h4.size h',fun ho=>by have:=h3 k ho;omega⟩
theorem dL.call {g:FuncId} {args:Array am} {R:Ending->ak->Prop} (hP':IsRes P') (h:dL P w0 W own)
  (hc:∀f,P W f->(∀k,f k->w0.heap.size<=k/\¬own k)->az aj g args W fun e w'=>R e w'/\∃f',P' w' f'/\Turn f f' W w'):
  az aj g args W fun e w'=>R e w'/\dL P' w0 w' own/\∀k,own k->w'.heap[k]? =W.heap[k]? :=by
 obtain⟨f,h1,h2,h3,h4⟩:=h;exact(hc f h1 h2).mono fun e w' ⟨hr,h⟩=>⟨hr,dL.turned hP' h2 h3 h4 h⟩
end
def kL (B:Nat) (a:Array am) (t:aV):ea:=fun w f=>w.heap[B]? =some (ap a t (0,0))/\f=fun k=>k=B
theorem kL.isRes (B:Nat) (a:Array am) (t:aV):IsRes (kL B a t) where
 out:=by rintro w w' f ⟨h1,rfl⟩ hk;exact⟨(hk B rfl).trans h1,rfl⟩
 lt:=by rintro w f ⟨h1,rfl⟩ k rfl;exact(cj.1 h1).1
 cells:=by rintro w f ⟨h1,rfl⟩ k rfl ob ho;rw[h1]at ho;cases ho;rfl
theorem AE {w:ak} {B:Nat} {a:Array am} {t:aV} (h:w.heap[B]? =some (ap a t (0,0))) (j:Nat) (v:am):(w.setCell ⟨B,j,none⟩ v).heap[B]? =some (ap (a.setIfInBounds j v) t (0,0)):=by
 obtain⟨hlt,hk⟩:=cj.1 h;show(w.heap.modify B _)[B]? =_;rw[Array.getElem?_eq_getElem (by rw[Array.size_modify];exact hlt),Array.getElem_modify_self,hk]
 rfl
theorem jR (w:ak) (B j:Nat) (v:am) {f:Nat->Prop} (hB:f B):Turn f f w (w.setCell ⟨B,j,none⟩ v):=
 ⟨⟨rfl,rfl,rfl⟩,iC _ _ _,fun k hk hn=>gc _ _ _ k (fun e=>hn (e▸hB)),fun k hk=>aA hk⟩
theorem cS.set {R:ea} {B:Nat} {a:Array am} {t:aV} {w:ak} {f:Nat->Prop} (hR:IsRes R) (h:cS (kL B a t) R w f) (j:Nat) (v:am):
  cS (kL B (a.setIfInBounds j v) t) R (w.setCell ⟨B,j,none⟩ v) f/\Turn f f w (w.setCell ⟨B,j,none⟩ v):=by
 obtain⟨f1,f2,⟨h1,rfl⟩,h2,h3,rfl⟩:=h;exact⟨⟨_,f2,⟨AE h1 j v,rfl⟩,hR.out h2 (fun k hk=>gc _ _ _ k (fun e=>h3 k e hk)),h3,rfl⟩,jR w B j v (aA rfl)⟩
theorem cS.cell {R:ea} {B:Nat} {a:Array am} {t:aV} {w:ak} {f:Nat->Prop} (h:cS (kL B a t) R w f) (j:Nat):w.cell? ⟨B,j,none⟩=a[j]? :=by
 obtain⟨f1,f2,⟨h1,rfl⟩,h2,h3,rfl⟩:=h;exact cl _ _ _ _ _ _ h1
theorem cS.frozen {R:ea} {B:Nat} {a:Array am} {t:aV} {w:ak} {f:Nat->Prop} (h:cS (kL B a t) R w f) (j:Nat):w.frozen? ⟨B,j,none⟩=false:=by
 obtain⟨f1,f2,⟨h1,rfl⟩,h2,h3,rfl⟩:=h;simp[World.frozen?,h1]
def qX (p n:Nat) (D:Nat->Sec):ea:=fun w f=>Disk w p n f D/\0<n
theorem qX.isRes (p n:Nat) (D:Nat->Sec):IsRes (qX p n D) where
 out:=fun h hk=>⟨h.1.out hk,h.2⟩
 lt:=fun h=>h.1.lt h.2
 cells:=by
  rintro w f ⟨⟨sb,sv,h,rfl⟩,hn⟩ k hk ob ho;exact h.isCells hn hk ho
end
section
attribute [-simp] isAgg51 zeroValue51
attribute [-go_sem] aE aL
attribute [local go_sem] bC bD dZ dQ
attribute [local go_sem] Oper.semAt_some
structure RS where
 n0:Nat
 n1:Nat
 D0:Nat->Sec
 D1:Nat->Sec
 fuse:Int
 down:Bool
 done:Int
def RS.head (p0 p1:Nat) (S:RS):Array am:=#[ao (some ⟨p0,0,none⟩),ao (some ⟨p1,0,none⟩),ab af S.fuse,.bool S.down,ab af S.done]
def RS.disks (p0 p1:Nat) (S:RS):ea:=cS (qX p0 S.n0 S.D0) (qX p1 S.n1 S.D1)
theorem RS.disks_isRes (p0 p1:Nat) (S:RS):IsRes (S.disks p0 p1):=(qX.isRes _ _ _).sep (qX.isRes _ _ _)
def aX (rb p0 p1:Nat) (S:RS):ea:=cS (kL rb (S.head p0 p1) 139) (S.disks p0 p1)
theorem aX.isRes (rb p0 p1:Nat) (S:RS):IsRes (aX rb p0 p1 S):=(kL.isRes _ _ _).sep (S.disks_isRes p0 p1)
def RS.ok (S:RS):Bool:= !S.down&&decide (S.fuse≠0)
def RS.after (S:RS):RS:=if S.ok=true then{S with fuse:=if 0<S.fuse then S.fuse - 1 else S.fuse,done:=S.done+1}else{S with down:=true}
structure RS.Fit (S:RS):Prop where
 fuse:0<S.fuse->wrap64 (S.fuse - 1)=S.fuse - 1
 done:wrap64 (S.done+1)=S.done+1
theorem oy (rb p0 p1:Nat) (S:RS) (f:Nat->Prop) (w:ak) (h:aX rb p0 p1 S w f) (hS:S.Fit):
  az aj 151 #[ao (some ⟨rb,0,none⟩)] w fun e w'=>e=ar (.bool S.ok)/\∃f',aX rb p0 p1 S.after w' f'/\Turn f f' w w':=by
 have hR:=S.disks_isRes p0 p1;have c2:w.cell? ⟨rb,2,none⟩=some (ab af S.fuse):=h.cell 2;have c3:w.cell? ⟨rb,3,none⟩=some (.bool S.down):=h.cell 3;have c4:w.cell? ⟨rb,4,none⟩=some (ab af S.done):=h.cell 4;have r2:=h.frozen 2;have r3:=h.frozen 3;have r4:=h.frozen 4;have HF:=ae hS.fuse;have HD:=hS.done;have H:=ae h;obtain⟨fu,hfu⟩:=w9nm S.fuse;obtain⟨dn,hdn⟩:=w9nm S.done;obtain⟨dw,hdw⟩:=w9nm S.down;have EF:=ae hfu;have ED:=ae hdn;have EW:=ae hdw;rw[hfu]at c2 HF;rw[hdn]at c4 HD;rw[hdw]at c3;clear h hS hfu hdn hdw;by_cases h0:fu=0
 ·subst h0;have HE:Hid (S.ok=false):=by show _=_;simp[RS.ok,EF.out]
  have HA:Hid ({S with down:=true}=S.after):=by show _=_;unfold RS.after;rw[if_neg (by rw[HE.out];simp)]
  go_enter func151,ntmps151;go_wp2;go_ret;obtain⟨g1,g2⟩:=H.out.set hR 3 (.bool true);rw[HE.out,←HA.out];exact⟨rfl,f,g1,g2⟩
 ·have q0:(fu==0)=false:=by simpa using h0
  cases dw with
  | true=>
   have HE:Hid (S.ok=false):=by show _=_;simp[RS.ok,EW.out]
   have HA:Hid (S=S.after):=by show _=_;unfold RS.after;rw[if_neg (by rw[HE.out];simp)];cases S;simp at *;exact EW.out
   go_enter func151,ntmps151;go_wp2;go_ret;rw[HE.out,←HA.out];exact⟨rfl,f,H.out,Turn.refl _ _⟩
  | false=>
   have HE:Hid (S.ok=true):=by show _=_;simp[RS.ok,EW.out,EF.out,h0]
   by_cases h1:0<fu
   ·have HA:Hid ({S with fuse:=fu - 1,done:=dn+1}=S.after):=by show _=_;unfold RS.after;rw[if_pos HE.out,EF.out,ED.out,if_pos h1]
    have HF1:=HF.out h1;have r2':(w.setCell ⟨rb,2,none⟩ (ab af (fu - 1))).frozen? ⟨rb,4,none⟩=false:=by rw[World.frozen?_setCell];exact r4
    clear HF;go_enter func151,ntmps151;go_wp2;go_ret;obtain⟨g1,g2⟩:=H.out.set hR 2 (ab af (fu - 1));obtain⟨g3,g4⟩:=g1.set hR 4 (ab af (dn+1));rw[HE.out,←HA.out];exact⟨rfl,f,g3,g2.trans g4⟩
   ·have HA:Hid ({S with done:=dn+1}=S.after):=by show _=_;unfold RS.after;rw[if_pos HE.out,EF.out,ED.out,if_neg h1]
    clear HF;go_enter func151,ntmps151;go_wp2;go_ret;obtain⟨g1,g2⟩:=H.out.set hR 4 (ab af (dn+1));rw[HE.out,←HA.out];exact⟨rfl,f,g1,g2⟩
end
section
attribute [-simp] isAgg51 zeroValue51
attribute [-go_sem] aE aL
attribute [local go_sem] bC bD dZ dQ
attribute [local go_sem] Oper.semAt_some
theorem AF (a b:Option aN) (w:ak):(Instr.index 137 (al #[ao a,ao b]) (ab af 0)).run aj w=.ok (ao a) w:=by kernel_rfl
theorem AG (a b:Option aN) (w:ak):(Instr.index 137 (al #[ao a,ao b]) (ab af 1)).run aj w=.ok (ao b) w:=by kernel_rfl
attribute [local go_sem] AF AG
def jS (p0 p1 i:Nat):Nat:=if i=0 then p0 else p1
def m5 (p0 p1:Nat) (i:Nat):Array am:=#[ab af (i:Int),ao (some ⟨jS p0 p1 i,0,none⟩)]
def AH (Bd rb p0 p1:Nat) (W:ak):Prop:=Boxed W Bd 31 (ao (some ⟨rb,0,none⟩))/\W.cell? ⟨rb,0,none⟩=some (ao (some ⟨p0,0,none⟩))/\W.cell? ⟨rb,0+1,none⟩=some (ao (some ⟨p1,0,none⟩))
def uP (pre:List Nat) (x:Nat):Prop:=(pre= []/\x=0)\/(pre= [0]/\x=1)
theorem uQ (Bd rb p0 p1:Nat) (w:ak):mn Fence.wide 2 aj 205 #[ao (some ⟨Bd,0,none⟩)] (m5 p0 p1) (fun _ W=>AH Bd rb p0 p1 W) uP (fun xs=>xs= [0,1]) w:=by
 intro l J Jx W _ hR _ _ hY h0;refine callsIn_of_wp func205 rfl trivial ?_ rfl;simp only[ntmps205,dU,cK,dP,Nat.reduceAdd,Nat.reduceSub,ez,eA,eD,eF,dT,dX];obtain⟨hbx,c0,c1⟩:=hR _ _ h0;have hbc:=hbx.cell;clear hbx
 gi_wp2
 clear hbc c0 c1
 gi_loopw [11] (fun i wr=>(i=ab af 0/\J [] wr)\/(i=ab af 1/\J [0] wr)\/(i=ab af 2/\J [0,1] wr)) (fun i _=>2 - (aW i).toNat)
 case atStart=>exact aA ⟨rfl,h0⟩
 case round=>
  rcases hrel with⟨rfl,hJ⟩ | ⟨rfl,hJ⟩ | ⟨rfl,hJ⟩
  ·obtain⟨fn,tmps,assign,body,hy0,hYr⟩:=hY [] 0 wr hJ (aA ⟨rfl,rfl⟩);have hy:(Instr.yield l #[ab af 0,ao (some ⟨p0,0,none⟩)]).run aj wr=_:=hy0;clear hy0
   gi_wp2
   refine hYr.mono ?_;rintro e W3 (⟨rfl,hJ3⟩ | ⟨rfl,hJx3⟩)
   ·gi_wp2
    go_roundw
    case rel=>exact aC (aA ⟨rfl,hJ3⟩)
    case measure=>simp[aW]
   ·gi_wp2
    refine bl (results_none rfl _ _ _) rfl ?_;exact⟨⟨_,rfl⟩,aC ⟨_,hJx3⟩⟩
  ·obtain⟨fn,tmps,assign,body,hy0,hYr⟩:=hY [0] 1 wr hJ (aC ⟨rfl,rfl⟩);have hy:(Instr.yield l #[ab af 1,ao (some ⟨p1,0,none⟩)]).run aj wr=_:=hy0;clear hy0
   gi_wp2
   refine hYr.mono ?_;rintro e W3 (⟨rfl,hJ3⟩ | ⟨rfl,hJx3⟩)
   ·gi_wp2
    go_roundw
    case rel=>exact aC (aC ⟨rfl,hJ3⟩)
    case measure=>simp[aW]
   ·gi_wp2
    refine bl (results_none rfl _ _ _) rfl ?_;exact⟨⟨_,rfl⟩,aC ⟨_,hJx3⟩⟩
  ·gi_wp2
   go_end0
   exact⟨⟨_,rfl⟩,aA ⟨_,rfl,hJ⟩⟩
theorem AI (Bd:Nat) (encs:Nat->Array am) (w:ak):mn Fence.wide 2 aj 205 #[ao (some ⟨Bd,0,none⟩)] encs (fun _ W=>Boxed W Bd 31 (ao none)) (fun _ _=>False) (fun xs=>xs= []) w:=by
 intro l J Jx W _ hR _ _ _ h0;refine callsIn_of_wp func205 rfl trivial ?_ rfl;simp only[ntmps205,dU,cK,dP,Nat.reduceAdd,Nat.reduceSub,ez,eA,eD,eF,dT,dX];have hbc:=(hR _ _ h0).cell
 gi_wp2
 refine bl (results_none rfl _ _ _) rfl ?_;exact⟨⟨_,rfl⟩,aA h0⟩
theorem qY (F:Fence) (n:Nat) (hf:F.fn 118) (hro:F.round=none) (p:Option aN) (w:ak):
  CallsIn F n aj 118 #[ao p] w fun e w'=>e=ar (.func (.func 205) #[] #[ao (some ⟨w.heap.size,0,none⟩)])/\w'=w.alloc (ap #[ao p] 31):=by
 refine callsIn_of_wp func118 rfl hf ?_ hro;simp only[ntmps118,dU,cK,dP,Nat.reduceAdd,Nat.reduceSub,ez,eA,eD,eF,dT,dX]
 gi_wp2
 go_ret;exact⟨rfl,rfl⟩
end
section
attribute [-simp] isAgg51 zeroValue51
attribute [-go_sem] aE aL
attribute [local go_sem] bC bD dZ dQ
attribute [local go_sem] Oper.semAt_some
def dk (p0 p1:Nat) (dev:Int):Option aN:=if dev=0 then some ⟨p0,0,none⟩else if dev=1 then some ⟨p1,0,none⟩else none
set_option maxRecDepth 100000 in
theorem AJ (rb p0 p1:Nat) (dev:Int) (w:ak) (hlt:rb<w.heap.size) (hc0:w.cell? ⟨rb,0,none⟩=some (ao (some ⟨p0,0,none⟩))) (hc1:w.cell? ⟨rb,1,none⟩=some (ao (some ⟨p1,0,none⟩))):
  az aj 149 #[ao (some ⟨rb,0,none⟩),ab af dev] w fun e w'=>e=ar (ao (dk p0 p1 dev))/\ah w.heap.size w w':=by
 refine(callsIn_wide (n:=3)).1 ?_;refine jf func149 rfl trivial ?_ rfl;simp only[ntmps149,dU,cK,dP,Nat.reduceAdd,Nat.reduceSub,ez,eA,eD,eF,dT,dX];have C0:=ae hc0;have C1:=ae hc1;have HLT:=ae hlt;clear hc0 hc1 hlt
 gi_wp2_with (refine⟨trivial, ?_⟩;gi_at_call 118;refine(qY _ _ trivial rfl _ _).mono ?_;rintro e w' ⟨rfl,rfl⟩)
 obtain⟨W0,hW0⟩:=w9nm (((w.alloc (ap #[ab af dev] 3)).alloc (ap #[ao none] 134)).alloc (ap #[ao (some ⟨rb,0,none⟩)] 31));have bv:Boxed W0 w.heap.size 3 (ab af dev):=by rw[←hW0];exact((dY w _ _).alloc _).alloc _
 have br:Boxed W0 (w.heap.size+1) 134 (ao none):=by
  rw[←hW0];have:=(dY (w.alloc (ap #[ab af dev] 3)) 134 (ao none)).alloc (ap #[ao (some ⟨rb,0,none⟩)] 31)
  rwa [dy]at this
 have bd:Boxed W0 (w.heap.size+1+1) 31 (ao (some ⟨rb,0,none⟩)):=by
  rw[←hW0];have:=dY ((w.alloc (ap #[ab af dev] 3)).alloc (ap #[ao none] 134)) 31 (ao (some ⟨rb,0,none⟩))
  rwa [dy,dy]at this
 have hB0:ah w.heap.size w W0:=by rw[←hW0];exact(((aF _ w).alloc (aJ _) _).alloc (by simp) _).alloc (by simp;omega) _
 have hsz0:W0.heap.size=w.heap.size+3:=by rw[←hW0];simp
 rw[hW0];clear hW0;refine mX (n:=3) rfl (by omega) (gf:= 205) (lb:=#[ao (some ⟨w.heap.size+1+1,0,none⟩)]) rfl trivial (enters_of func205 (by kernel_rfl) rfl)
  (fun pre W=>Boxed W w.heap.size 3 (ab af dev)/\Boxed W (w.heap.size+1) 134 (ao none)/\Boxed W (w.heap.size+1+1) 31 (ao (some ⟨rb,0,none⟩))/\ah w.heap.size w W/\∀y:Nat,y ∈ pre->(y:Int)≠dev)
  (fun c pre W=>c=.ret/\Boxed W (w.heap.size+1) 134 (ao (dk p0 p1 dev))/\ah w.heap.size w W)
  ((uQ (w.heap.size+1+1) rb p0 p1 W0).mono fun pre W hI=>⟨hI.2.2.1,(hI.2.2.2.1.cell (p:=⟨rb,0,none⟩) HLT.out).trans C0.out,(hI.2.2.2.1.cell (p:=⟨rb,1,none⟩) HLT.out).trans C1.out⟩)
  (aF _ _) (fun _=>rfl)
  ((jA _ _ (fun _=>ab af dev) _).and ((jA _ _ (fun _=>ao none) _).and ((jA _ _ (fun _=>ao (some ⟨rb,0,none⟩)) _).and ((ownFrom_below (aJ _) (by omega)).and (fun s W W' row hs hg hr=>hs)))))
  (fun c=>OwnFrom.and (fun s W W' row hs hg hr=>hs) ((jA _ _ (fun _=>ao (dk p0 p1 dev)) _).and (ownFrom_below (aJ _) (by omega))))
  ⟨bv,br,bd,hB0,fun y hy=>by cases hy⟩ ?a1 ?assign ?body ?done ?stop
 case assign=>
  intro l x W K hK
  dsimp only[m5]
  gi_wp2
  exact hK
 case body=>
  rintro l pre x W ⟨hbv,hbr,hbd,hB,hne⟩ hok;have d1:=hbv.cell;have d2:=hbr.cell;have d3:=hbr.frozen;have HBV:=ae hbv;have HBR:=ae hbr;have HBD:=ae hbd;have HB:=ae hB;have HNE:=ae hne;have HOK:=ae hok;obtain⟨p,hp⟩:=w9nm (jS p0 p1 x);have HP:=ae hp;rw[hp];clear hbv hbr hbd hB hne hok hp;by_cases q:(x:Int)=dev
  ·have q1:((x:Int)==dev)=true:=by simpa using q
   have HQ:=ae q;clear q
   gi_wp2
   have e:dk p0 p1 dev=some ⟨p,0,none⟩:=by
    rw[←HQ.out,←HP.out];rcases HOK.out with⟨_,rfl⟩ | ⟨_,rfl⟩<;>simp[dk,jS]
   rw[e];exact⟨(iC _ _ _).from _,rfl,HBR.out.set _,HB.out.setCell (p:=⟨w.heap.size+1,0,none⟩) (by simp) _⟩
  ·have q1:((x:Int)==dev)=false:=by simpa using q
   have HQ:=ae q;clear q
   gi_wp2
   refine⟨(KeepsOthers.refl _).from _,trivial,HBV.out,HBR.out,HBD.out,HB.out,fun y hy=> ?_⟩;rcases gW.1 hy with hy | hy
   ·exact HNE.out y hy
   ·rw[dO.1 hy];exact HQ.out
 case done=>
  rintro Dd xs W hDd rfl ⟨hbv,hbr,hbd,hB,hne⟩ hK;have d2:=hbr.cell;have d3:=hbr.frozen;have e:dk p0 p1 dev=none:=by
   have h0:=hne 0 (by simp);have h1:=hne 1 (by simp);unfold dk;rw[if_neg (fun h=>h0 (by simp[h])),if_neg (fun h=>h1 (by simp[h]))]
  have HE:=ae e;clear e
  gi_wp2
  have hK':=(iC W ⟨w.heap.size+1,0,none⟩ (ao none)).same Dd _ hK rfl;refine⟨by simp,aA ⟨_,_,rfl,iD hK', ?_⟩⟩;have hc5:=cell_kept (hbr.set (ao none)).cell (grownBy_putObj' _ Dd (.deferred none)) (fun r e=>by cases e;exact⟨_,hK',rfl⟩);refine⟨ao none, ?_,by rw[HE.out],(hB.setCell (p:=⟨w.heap.size+1,0,none⟩) (by simp) _).trans (belowK_b (w:=w) (aJ _) _ Dd _ _ (by omega) hK' rfl rfl)⟩;simp[results,Tryz.f149,go_sem,hc5]
 case stop=>
  rintro Dd c pre W hDd ⟨rfl,hbr,hB⟩ hK
  gi_wp2
  refine⟨by simp,aA ⟨_,_,rfl,iD hK, ?_⟩⟩;have hc5:=cell_kept hbr.cell (grownBy_putObj' _ Dd (.deferred none)) (fun r e=>by cases e;exact⟨_,hK,rfl⟩);refine⟨ao (dk p0 p1 dev), ?_,rfl,hB.trans (belowK_b (w:=w) (aJ _) W Dd _ _ (by omega) hK rfl rfl)⟩;simp[results,Tryz.f149,go_sem,hc5]
set_option maxRecDepth 100000 in
theorem AK (dev:Int) (w:ak):
  az aj 149 #[ao none,ab af dev] w fun e w'=>e=ar (ao none)/\ah w.heap.size w w':=by
 refine(callsIn_wide (n:=3)).1 ?_;refine jf func149 rfl trivial ?_ rfl;simp only[ntmps149,dU,cK,dP,Nat.reduceAdd,Nat.reduceSub,ez,eA,eD,eF,dT,dX]
 gi_wp2_with (refine⟨trivial, ?_⟩;gi_at_call 118;refine(qY _ _ trivial rfl _ _).mono ?_;rintro e w' ⟨rfl,rfl⟩)
 obtain⟨W0,hW0⟩:=w9nm (((w.alloc (ap #[ab af dev] 3)).alloc (ap #[ao none] 134)).alloc (ap #[ao none] 31));have br:Boxed W0 (w.heap.size+1) 134 (ao none):=by
  rw[←hW0];have:=(dY (w.alloc (ap #[ab af dev] 3)) 134 (ao none)).alloc (ap #[ao none] 31)
  rwa [dy]at this
 have bd:Boxed W0 (w.heap.size+1+1) 31 (ao none):=by
  rw[←hW0];have:=dY ((w.alloc (ap #[ab af dev] 3)).alloc (ap #[ao none] 134)) 31 (ao none)
  rwa [dy,dy]at this
 have hB0:ah w.heap.size w W0:=by rw[←hW0];exact(((aF _ w).alloc (aJ _) _).alloc (by simp) _).alloc (by simp;omega) _
 have hsz0:W0.heap.size=w.heap.size+3:=by rw[←hW0];simp
 rw[hW0];clear hW0;refine mX (n:=3) rfl (by omega) (gf:= 205) (lb:=#[ao (some ⟨w.heap.size+1+1,0,none⟩)]) rfl trivial (enters_of func205 (by kernel_rfl) rfl)
  (fun pre W=>Boxed W (w.heap.size+1) 134 (ao none)/\Boxed W (w.heap.size+1+1) 31 (ao none)/\ah w.heap.size w W)
  (fun _ _ _=>False)
  ((AI (w.heap.size+1+1) (m5 0 0) W0).mono fun pre W hI=>hI.2.1)
  (aF _ _) (fun _=>rfl)
  ((jA _ _ (fun _=>ao none) _).and ((jA _ _ (fun _=>ao none) _).and (ownFrom_below (aJ _) (by omega))))
  (fun _ _ _ _ _ h _ _=>h.elim) ⟨br,bd,hB0⟩ ?a1 ?assign ?body ?done ?stop
 case assign=>
  intro l x W K hK
  dsimp only[m5]
  gi_wp2
  exact hK
 case body=>
  rintro l pre x W _ h;exact h.elim
 case done=>
  rintro Dd xs W hDd rfl ⟨hbr,hbd,hB⟩ hK;have d2:=hbr.cell;have d3:=hbr.frozen
  gi_wp2
  have hK':=(iC W ⟨w.heap.size+1,0,none⟩ (ao none)).same Dd _ hK rfl;refine⟨by simp,aA ⟨_,_,rfl,iD hK', ?_⟩⟩;have hc5:=cell_kept (hbr.set (ao none)).cell (grownBy_putObj' _ Dd (.deferred none)) (fun r e=>by cases e;exact⟨_,hK',rfl⟩);refine⟨ao none, ?_,rfl,(hB.setCell (p:=⟨w.heap.size+1,0,none⟩) (by simp) _).trans (belowK_b (w:=w) (aJ _) _ Dd _ _ (by omega) hK' rfl rfl)⟩;simp[results,Tryz.f149,go_sem,hc5]
 case stop=>
  rintro D c pre W _ h _;exact h.elim
theorem AL (p:Option aN) (n:Nat) (i:Int) (w:ak) (hl:az aj 226 #[ao p] w fun e w'=>e=ar (ab af (n:Int))/\w'=w):
  az aj 150 #[ao p,ab af i] w fun e w'=>e=ar (.bool (decide (0<=i/\i< (n:Int))))/\w'=w:=by
 have HL:=ae hl;clear hl;by_cases h0:0<=i
 ·have g0:decide (0<=i)=true:=by simpa using h0
  have HE:Hid (decide (i< (n:Int))=decide (0<=i/\i< (n:Int))):=by show _=_;simp[h0]
  go_enter func150,ntmps150;go_wp2_with fail;refine HL.out.mono ?_;rintro e w' ⟨rfl,rfl⟩;go_wp2_with fail;go_ret;exact⟨by rw[←HE.out];rfl,rfl⟩
 ·have g0:decide (0<=i)=false:=by simpa using h0
  have HE:Hid (false=decide (0<=i/\i< (n:Int))):=by show _=_;simp[h0]
  go_enter func150,ntmps150;go_wp2_with fail;go_ret;exact⟨rfl,rfl⟩
end
section
theorem AM (D:Nat->Sec) (n j:Nat) (hj:j<n):(cR D (fun j=>(D j).vs.length) (bF D n) j).look=(D j).look:=by
 by_cases h:(D j).vs= []
 ·rw[ji (fun hm=>mY hm h)]
 ·rw[lz (ox hj h),Sec.look_some h];have hp:=List.length_pos_iff.2 h;unfold Sec.settle Sec.look;simp only[List.getLast?_nil,Option.getD_none];rw[if_neg (by omega)]
theorem add_look (s:Sec) (b:List am) (h:s.vs.length<=255):(s.add b).look=b:=by
 unfold Sec.add Sec.look;rw[if_neg (by omega)];simp
theorem uR (s:Sec) (b:List am) (h:s.vs.length<=255):(s.add b).vs.length=s.vs.length+1:=by
 unfold Sec.add;rw[if_neg (by omega)];simp
theorem uS (D:Nat->Sec) (n j:Nat) (hj:j<n):(cR D (fun j=>(D j).vs.length) (bF D n) j).vs= []:=by
 by_cases h:(D j).vs= []
 ·rw[ji (fun hm=>mY hm h)];exact h
 ·rw[lz (ox hj h)];rfl
theorem AN (D:Nat->Sec) (n j:Nat) (hj:j<n):(cR D (fun j=>(D j).vs.length) (bF D n) j).c=(D j).look:=by
 rw[←AM D n j hj,Sec.look_none (uS D n j hj)]
theorem m6 (D:Nat->Sec) (g:Nat->Nat) (n j:Nat) (hj:j<n):(cR D g (bF D n) j).vs= []:=by
 by_cases h:(D j).vs= []
 ·rw[ji (fun hm=>mY hm h)];exact h
 ·rw[lz (ox hj h)];rfl
theorem AO (D:Nat->Sec) (g:Nat->Nat) (n j:Nat) (hj:j<n):(cR D g (bF D n) j).look=(D j).c\/(cR D g (bF D n) j).look ∈(D j).vs:=by
 rw[Sec.look_none (m6 D g n j hj)];by_cases h:(D j).vs= []
 ·rw[ji (fun hm=>mY hm h)];exact aA rfl
 ·rw[lz (ox hj h)];unfold Sec.settle
  dsimp only
  split
  ·exact aA rfl
  ·cases e:(D j).vs[g j - 1]? with
   | none=>exact aA rfl
   | some v=>exact aC (dI e)
end
section
attribute [-simp] isAgg51 zeroValue51
attribute [-go_sem] aE aL
attribute [local go_sem] bC bD dZ dQ
def eX (rq ss vb n:Nat) (sv:Nat->am) (k:Nat):Prop:=k=rq\/k=ss\/k=vb\/∃i,i<n/\(sv i).ownBlock=some k
structure RefAt (w:ak) (rq ss vb n:Nat) (sv:Nat->am) (D:Nat->Sec):Prop where
 head:w.heap[rq]? =some (ap #[ag (some ⟨ss,0,none⟩) n n,ag (some ⟨vb,0,none⟩) n n] 125 (0,0))
 d1:rq≠ss
 d2:rq≠vb
 d3:ss≠vb
 max:n<=4096
 ok:∀i,i<n->(D i).Ok
 cont:∀i,i<n->w.rangeAt ss (i*64) (D i).c
 thereS:w.there ss 0 (n*64)
 ver:∀i,i<n->w.cell? ⟨vb,i,none⟩=some (sv i)
 thereV:w.there vb 0 n
 row:∀i,i<n->w.ownsRow 0 51 64 (sv i) (D i).vs.length (D i).vs.flatten
 a1:∀i,i<n->(sv i).ownBlock≠some rq
 a2:∀i,i<n->(sv i).ownBlock≠some ss
 a3:∀i,i<n->(sv i).ownBlock≠some vb
def fT (w:ak) (rq n:Nat) (f:Nat->Prop) (D:Nat->Sec):Prop:=∃ss vb sv,RefAt w rq ss vb n sv D/\f=eX rq ss vb n sv
theorem oz {w w':ak} {N e size n:Nat} {v:am} {xs:List am} (h:w.ownsRow N e size v n xs) (h2:∀g,v.ownBlock=some g->w'.heap[g]? =w.heap[g]?):w'.ownsRow N e size v n xs:=by
 refine⟨h.1, ?_⟩;rcases h.2 with h' | ⟨g,cap,cur,rfl,a1,a2,a3⟩
 ·exact aA h'
 ·exact aC ⟨g,cap,cur,rfl,a1,(h2 g rfl).trans a2,a3⟩
theorem da {w w':ak} {b o:Nat} {c:List am} (h:w.rangeAt b o c) (hb:w'.heap[b]? =w.heap[b]?):w'.rangeAt b o c:=fun j x hx=>(cL (a:=⟨b,o+j,none⟩) hb).trans (h j x hx)
theorem oA {w w':ak} {b o n:Nat} (h:w.there b o n) (hb:w'.heap[b]? =w.heap[b]?):w'.there b o n:=fun j hj=>
 ⟨by rw[cL (a:=⟨b,o+j,none⟩) hb];exact(h j hj).1,by rw[World.frozen?_of_block (a:=⟨b,o+j,none⟩) hb];exact(h j hj).2⟩
theorem RefAt.kept {w w':ak} {rq ss vb n:Nat} {sv:Nat->am} {D:Nat->Sec} (h:RefAt w rq ss vb n sv D) (hk:∀k,eX rq ss vb n sv k->w'.heap[k]? =w.heap[k]?):RefAt w' rq ss vb n sv D:=
 ⟨(hk rq (aA rfl)).trans h.head,h.d1,h.d2,h.d3,h.max,h.ok,fun i hi=>da (h.cont i hi) (hk ss (aC (aA rfl))),oA h.thereS (hk ss (aC (aA rfl))),
  fun i hi=>(cL (a:=⟨vb,i,none⟩) (hk vb (aC (aC (aA rfl))))).trans (h.ver i hi),oA h.thereV (hk vb (aC (aC (aA rfl)))),
  fun i hi=>oz (h.row i hi) (fun g hg=>hk g (aC (aC (aC ⟨i,hi,hg⟩)))),h.a1,h.a2,h.a3⟩
theorem RefAt.lt {w:ak} {rq ss vb n:Nat} {sv:Nat->am} {D:Nat->Sec} (h:RefAt w rq ss vb n sv D) (hn:0<n) {k:Nat} (hk:eX rq ss vb n sv k):k<w.heap.size:=by
 rcases hk with rfl | rfl | rfl | ⟨i,hi,hk⟩
 ·exact(cj.1 h.head).1
 ·obtain⟨u,hu⟩:=Option.isSome_iff_exists.1 (h.thereS 0 (by omega)).1;exact World.block_lt_of_cell? w _ hu
 ·exact World.block_lt_of_cell? w _ (h.ver 0 hn)
 ·exact((h.row i hi).lt k hk).2
theorem fT.out {w w':ak} {rq n:Nat} {f:Nat->Prop} {D:Nat->Sec} (h:fT w rq n f D) (hk:∀k,f k->w'.heap[k]? =w.heap[k]?):fT w' rq n f D:=by
 obtain⟨ss,vb,sv,h,rfl⟩:=h;exact⟨ss,vb,sv,h.kept hk,rfl⟩
theorem fT.lt {w:ak} {rq n:Nat} {f:Nat->Prop} {D:Nat->Sec} (h:fT w rq n f D) (hn:0<n):∀k,f k->k<w.heap.size:=by
 obtain⟨ss,vb,sv,h,rfl⟩:=h;exact fun k hk=>h.lt hn hk
theorem fT.below {w w':ak} {rq n:Nat} {f:Nat->Prop} {D:Nat->Sec} (h:fT w rq n f D) (hn:0<n) (hb:w9b w w'):fT w' rq n f D:=h.out fun k hk=>hb.block k (h.lt hn k hk)
theorem qZ {w:ak} {v:am} {vs:List (List am)} (hok:∀u ∈ vs,bx u) (h:w.ownsRow 0 51 64 v vs.length vs.flatten):∃a cap,v=ag a vs.length cap/\vs.length<=cap/\cap<=aS/\(a=none->cap=0/\vs= [])/\(∀x,a=some x->∃g,x=⟨g,0,none⟩/\v.ownBlock=some g/\g<w.heap.size/\∀k u,vs[k]? =some u->w.rangeAt g (k*64) u):=by
 rcases h.2 with⟨rfl,h0⟩ | ⟨g,cap,cur,rfl,h1,h2,h3,h4,h5,h6⟩
 ·exact⟨none,0,by rw[h0],by omega,by simp[aS],fun _=>⟨rfl,je h0⟩,(fun x e=>by cases e)⟩
 ·refine⟨some ⟨g,0,none⟩,cap,rfl,h3,h4,(fun e=>by cases e),fun x e=> ?_⟩;cases e;refine⟨g,rfl,rfl,(cj.1 h2).1,fun k u hu j x hx=> ?_⟩;have hk:k<vs.length:=(dp.1 hu).1;have hj:j<64:=by have:=(dp.1 hx).1;rw[(hok u (dI hu)).length]at this;exact this
  have hf:=tO hok hu j hj;rw[cl _ _ _ _ _ _ h2,←Array.getElem?_toList];rw[←h6,List.getElem?_take,if_pos (by omega)]at hf;rw[hf,hx]
theorem uT (rq n:Nat) (f:Nat->Prop) (D:Nat->Sec) (i:Int) (w:ak) (h:fT w rq n f D):
  az aj 229 #[ao (some ⟨rq,0,none⟩),ab af i] w fun e w'=>e=ar (.bool (decide (0<=i/\i< (n:Int))))/\w'=w:=by
 obtain⟨ss,vb,sv,h,rfl⟩:=h;have c0:w.cell? ⟨rq,0,none⟩=some (ag (some ⟨ss,0,none⟩) n n):=by rw[cl _ _ _ _ _ _ h.head];rfl
 clear h;by_cases h0:0<=i
 ·have g0:decide (0<=i)=true:=by simpa using h0
  have HE:Hid (decide (i< (n:Int))=decide (0<=i/\i< (n:Int))):=by show _=_;simp[h0]
  go_enter func229,ntmps229;go_wp2;go_ret;exact⟨by rw[←HE.out];rfl,rfl⟩
 ·have g0:decide (0<=i)=false:=by simpa using h0
  have HE:Hid (false=decide (0<=i/\i< (n:Int))):=by show _=_;simp[h0]
  go_enter func229,ntmps229;go_wp2;go_ret;exact⟨rfl,rfl⟩
theorem re (rq n i:Nat) (f:Nat->Prop) (D:Nat->Sec) (w:ak) (h:fT w rq n f D) (hi:i<n):
  az aj 73 #[ao (some ⟨rq,0,none⟩),ab af (i:Int)] w fun e w'=>e=ar (al (D i).look.toArray)/\ah w.heap.size w w':=by
 obtain⟨ss,vb,sv,h,rfl⟩:=h;obtain⟨a,cap,hf,hcap,hmax,hnone,hsome⟩:=qZ (h.ok i hi).2 (h.row i hi);obtain⟨W,hW⟩:=w9nm (w.alloc (ap cx 51));have hB:ah w.heap.size w W:=by rw[←hW];exact(aF _ w).alloc (aJ _) _
 have hW':RefAt W rq ss vb n sv D:=h.kept fun k hk=>hB.block k (h.lt (by omega) hk);have c0:W.cell? ⟨rq,0,none⟩=some (ag (some ⟨ss,0,none⟩) n n):=by rw[cl _ _ _ _ _ _ hW'.head];rfl
 have c1:W.cell? ⟨rq,1,none⟩=some (ag (some ⟨vb,0,none⟩) n n):=by rw[cl _ _ _ _ _ _ hW'.head];rfl
 have c2:=hW'.ver i hi;rw[hf]at c2;have hok:=(h.ok i hi).look;have HB:Hid (ah w.heap.size w (w.alloc (ap (D i).look.toArray 51))):=(aF _ w).alloc (aJ _) _;have S:(aL 51 ⟨w.heap.size,0,none⟩ (al (D i).look.toArray)).run aj W=.ok () (w.alloc (ap (D i).look.toArray 51)):=by rw[←hW];exact gT dj hok
 have R:(aE 51 ⟨w.heap.size,0,none⟩).run aj (w.alloc (ap (D i).look.toArray 51))=.ok (al (D i).look.toArray) (w.alloc (ap (D i).look.toArray 51)):=mM (by simpa using hok.length);have g1:(i:Int)< (n:Int):=by omega
 by_cases hn:(D i).vs= []
 ·have L:(aE 51 ⟨ss,i*64,none⟩).run aj W=.ok (al (D i).look.toArray) W:=by rw[Sec.look_none hn];exact dd (hW'.cont i hi) (h.ok i hi).1.length
  have h0:(D i).vs.length=0:=by rw[hn];rfl
  rw[h0]at c2;obtain⟨u,hu⟩:=w9nm ((D i).look);rw[hu]at HB S R L ⊢;clear hB hW' h hf hcap hmax hnone hsome hok hn h0 hi hu;go_enter func73,ntmps73;go_wp2_with (with_reducible (rw[hW];clear hW));refine bl (ff rfl rfl R) rfl ⟨rfl,HB.out⟩
 ·obtain⟨m,hm⟩:∃m,(D i).vs.length=m+1:=⟨(D i).vs.length - 1,by have:=List.length_pos_iff.2 hn;omega⟩;obtain⟨g,rfl,hg⟩:∃g,a=some ⟨g,0,none⟩/\∀k u,(D i).vs[k]? =some u->w.rangeAt g (k*64) u:=by
   cases a with
   | none=>exact absurd (hnone rfl).2 hn
   | some x=>obtain⟨g,rfl,_,_,h4⟩:=hsome x rfl;exact⟨g,rfl,h4⟩
  have hu:(D i).vs[m]? =some (D i).look:=by
   have:=Sec.look_some hn;rw[hm,Nat.add_sub_cancel]at this;rw[bJ (by omega)]at this ⊢;rw[this];rfl
  have L:(aE 51 ⟨g,m*64,none⟩).run aj W=.ok (al (D i).look.toArray) W:=dd (by rw[←hW];exact World.rangeAt_alloc (hg m _ hu) _) hok.length;rw[hm]at c2 hcap;have hw1:Hid (wrap64 (m:Int)=(m:Int)):=gj _ (by unfold aS at hmax;omega);obtain⟨u,hue⟩:=w9nm ((D i).look);rw[hue]at HB S R L ⊢;have hw2:=hw1.out;have g2:decide ((0:Int)< (m:Int)+1)=true:=by simp
  clear hB hW' h hf hcap hmax hnone hsome hok hn hi hue hu hm hg hw1;go_enter func73,ntmps73;go_wp2_with (with_reducible (rw[hW];clear hW));refine bl (ff rfl rfl R) rfl ⟨rfl,HB.out⟩
theorem AP:(aj.info? 54).map (fun i=>(i.zero,i.size,i.bytes))=some (some (ag none 0 0),1,24):=by kernel_rfl
theorem AQ {w:ak} {rq ss vb n:Nat} (hr:w.heap[rq]? =some (ap #[ag (some ⟨ss,0,none⟩) n n,ag (some ⟨vb,0,none⟩) n n] 125 (0,0))) (hs:w.heap[ss]? =some (ap (madeCells cx (n*64)) 51 (0,0)))
  (hv:w.heap[vb]? =some (ap (madeCells #[ag none 0 0] (n*1)) 54 (0,0))) (d1:rq≠ss) (d2:rq≠vb) (d3:ss≠vb) (hn:n<=4096):
  RefAt w rq ss vb n (fun _=>ag none 0 0) (fun _=>kK):=by
 have hc:∀i j,i<n->j<64->w.cell? ⟨ss,i*64+j,none⟩=cx[j]? :=fun i j hi hj=>by
  rw[cl _ _ _ _ _ _ hs];exact qR cx 64 dj (by omega) n i j hi hj
 have hcv:∀i,i<n->w.cell? ⟨vb,i,none⟩=some (ag none 0 0):=fun i hi=>by
  have:=qR #[Value.slice none 0 0] 1 rfl (by omega) n i 0 hi (by omega);rw[cl _ _ _ _ _ _ hv];rw[Nat.mul_one,Nat.add_zero]at this
  simpa using this
 refine⟨hr,d1,d2,d3,hn,fun _ _=>ot,fun i hi j x hx=> ?_,fun j hj=>⟨?_,by simp[World.frozen?,hs]⟩,hcv,fun j hj=>⟨?_,by simp[World.frozen?,hv]⟩,fun _ _=>ft _ _ _ _,fun _ _=>by simp[fq],fun _ _=>by simp[fq],fun _ _=>by simp[fq]⟩
 ·have hj:j<64:=by have:=(dp.1 hx).1;rw[ot.1.length]at this;exact this
  rw[hc i j hi hj,←hx];show(a9 0).toArray[j]? =(a9 0)[j]?;rw[List.getElem?_toArray]
 ·have h1:=hc (j / 64) (j%64) (by omega) (by omega);rw[show j / 64*64+j%64=j by omega]at h1;rw[dC,h1,Array.getElem?_eq_getElem (by rw[dj];omega)];rfl
 ·rw[dC,hcv j hj];rfl
theorem uU {w W W':ak} {ss vb n:Nat} (hs:W.heap[ss]? =some (ap (madeCells cx (n*64)) 51 (0,0))) (hv:W.heap[vb]? =some (ap (madeCells #[ag none 0 0] (n*1)) 54 (0,0)))
  (hne:ss≠vb) (b1:w.heap.size<=ss) (b2:w.heap.size<=vb) (hB:w9b w W) (hn:n<=4096)
  (hW':W'=W.alloc (ap #[ag (some ⟨ss,0,none⟩) n n,ag (some ⟨vb,0,none⟩) n n] 125 (0,0))):
  (∃f,fT W' W.heap.size n f (fun _=>kK)/\∀k,f k->w.heap.size<=k)/\ah w.heap.size w W':=by
 subst hW';have l1:=(cj.1 hs).1;have l2:=(cj.1 hv).1;have hsz:w.heap.size<=W.heap.size:=by omega
 refine⟨⟨_,⟨ss,vb,fun _=>ag none 0 0,AQ ?_ ?_ ?_ (by omega) (by omega) hne hn,rfl⟩, ?_⟩,hB.alloc hsz _⟩
 ·show(W.heap.push _)[W.heap.size]? =_;simp
 ·rw[Below.heap_alloc _ _ _ l1];exact hs
 ·rw[Below.heap_alloc _ _ _ l2];exact hv
 ·rintro k (rfl | rfl | rfl | ⟨i,hi,hk⟩)
  ·exact hsz
  ·exact b1
  ·exact b2
  ·simp[fq]at hk
theorem AR (n:Int) (w:ak) (h:n<1\/4096<n):
  az aj 125 #[ab af n] w fun e w'=>e=ar (aQ #[ao none,ab af 1])/\w'=w:=by
 by_cases h1:n<1
 ·have g1:decide (n<1)=true:=by simpa using h1
  clear h;go_enter func125,ntmps125;go_wp2_with fail;go_ret2;exact⟨rfl,rfl⟩
 ·have g1:decide (n<1)=false:=by simpa using h1
  have g2:decide (4096<n)=true:=by simp;omega
  clear h h1;go_enter func125,ntmps125;go_wp2_with fail;go_ret2;exact⟨rfl,rfl⟩
set_option maxRecDepth 100000 in
theorem rf (n:Nat) (w:ak) (h1:1<=n) (h2:n<=4096):
  az aj 125 #[ab af (n:Int)] w fun e w'=>∃rq,e=ar (aQ #[ao (some ⟨rq,0,none⟩),ab af 0])/\(∃f,fT w' rq n f (fun _=>kK)/\∀k,f k->w.heap.size<=k)/\ah w.heap.size w w':=by
 obtain⟨i0,hi,hz0,hz1,hz2⟩:=eJ nW;obtain⟨i1,hj,hy0,hy1,hy2⟩:=eJ AP;have g1:decide ((n:Int)<1)=false:=by simp;omega
 have g2:decide (4096< (n:Int))=false:=by simp;omega
 have hmx:=w9x
 go_enter func125,ntmps125;go_wp2_with fail;refine cM (fun _=>True) 4 (.takes [0,2] (.two 1 3 (.one 3 .leaf) (.one 1 .leaf))) hmx (by kernel_rfl) (by intro c x v a w h;cases x<;>exact h) trivial ?_
 haveI:Nonempty {x:ak // True}:=⟨⟨w,trivial⟩⟩
 repeat(rw[bj];simp only[au,ay];go_big_quiet_step (fail);refine aO ?_)
 rw[bo];refine⟨?_, ?_⟩
 ·simp only[au,ay];go_wp2_with (first | (at_make;refine wpList_make_full _ rfl _ _ 54 rfl w.heap.size 51 i0 (al cx) 64 Tryz.underlying54 hi hz0 hz1 af af _ _ n rfl rfl rfl rfl (by rw[hz2];omega) (by unfold aS;omega) (by simp) ?_;intro w1 hown1 hgrow1));refine aG trivial ?_;rw[aT];simp only[au,ay];go_wp2_with (first | (at_make;refine wpList_make_full _ rfl _ _ 123 rfl w.heap.size 54 i1 (ag none 0 0) 1 Tryz.underlying123 hj hy0 hy1 af af _ _ n rfl rfl rfl rfl (by rw[hy2];omega) (by unfold aS;omega) (by have:=hgrow1.size;simp at this;omega) ?_;intro w2 hown2 hgrow2));refine aG trivial ?_;rw[cu];simp only[be,bf];go_wp2_with fail;have hr1:=mW hown1;have hr2:=mW hown2;rw[Array.toArray_toList]at hr1 hr2;have hl1:=(cj.1 hr1).1;have hB:=(((aF w.heap.size w).drew).grown hgrow1 (aJ _) (fun k e=>by cases e)).grown hgrow2 (by have:=hgrow1.size;simp at this;omega) (fun k e=>by cases e);have hE:=uU (w:=w) (W:=w2) (ss:=w.heap.size) (vb:=w1.heap.size) (n:=n) (by rw[hgrow2.block w.heap.size hl1 (by simp)];exact hr1) hr2 (by have:w.heap.size<w1.heap.size:=hl1;omega) (aJ _) (by have:w.heap.size<w1.heap.size:=hl1;omega) hB h2 rfl;go_ret2;exact⟨_,rfl,hE⟩
 ·simp only[au,ay];go_wp2_with (first | (at_make;refine wpList_make_full _ rfl _ _ 123 rfl w.heap.size 54 i1 (ag none 0 0) 1 Tryz.underlying123 hj hy0 hy1 af af _ _ n rfl rfl rfl rfl (by rw[hy2];omega) (by unfold aS;omega) (by simp) ?_;intro w1 hown1 hgrow1));refine aG trivial ?_;rw[aT];simp only[au,ay];go_wp2_with (first | (at_make;refine wpList_make_full _ rfl _ _ 54 rfl w.heap.size 51 i0 (al cx) 64 Tryz.underlying54 hi hz0 hz1 af af _ _ n rfl rfl rfl rfl (by rw[hz2];omega) (by unfold aS;omega) (by have:=hgrow1.size;simp at this;omega) ?_;intro w2 hown2 hgrow2));refine aG trivial ?_;rw[cu];simp only[be,bf];go_wp2_with fail;have hr1:=mW hown1;have hr2:=mW hown2;rw[Array.toArray_toList]at hr1 hr2;have hl1:=(cj.1 hr1).1;have hB:=(((aF w.heap.size w).drew).grown hgrow1 (aJ _) (fun k e=>by cases e)).grown hgrow2 (by have:=hgrow1.size;simp at this;omega) (fun k e=>by cases e);have hE:=uU (w:=w) (W:=w2) (ss:=w1.heap.size) (vb:=w.heap.size) (n:=n) hr2 (by rw[hgrow2.block w.heap.size hl1 (by simp)];exact hr1) (by have:w.heap.size<w1.heap.size:=hl1;omega) (by have:w.heap.size<w1.heap.size:=hl1;omega) (aJ _) hB h2 rfl;go_ret2;exact⟨_,rfl,hE⟩
end
section
theorem RefAt.setV {w x:ak} {rq ss vb n i:Nat} {sv:Nat->am} {D:Nat->Sec} {v':am} {vs':List (List am)} (h:RefAt w rq ss vb n sv D) (hi:i<n) (hb:w9b w x) (hvs:∀u ∈ vs',bx u) (ho:x.ownsRow w.heap.size 51 64 v' vs'.length vs'.flatten):
  RefAt (x.setCell ⟨vb,i,none⟩ v') rq ss vb n (dD sv i v') (dD D i ⟨(D i).c,vs'⟩)/\Turn (eX rq ss vb n sv) (eX rq ss vb n (dD sv i v')) w (x.setCell ⟨vb,i,none⟩ v'):=by
 have hn:0<n:=by omega
 have hx:RefAt x rq ss vb n sv D:=h.kept fun k hk=>hb.block k (h.lt hn hk);have lq:=h.lt hn (aA rfl);have ls:=h.lt hn (aC (aA rfl));have lv:=h.lt hn (aC (aC (aA rfl)));have hnew:∀k,v'.ownBlock=some k->w.heap.size<=k:=fun k hk=>(ho.lt k hk).1;have heq:∀k,k≠vb->(x.setCell ⟨vb,i,none⟩ v').heap[k]? =x.heap[k]? :=fun k hk=>gc _ _ _ k hk;refine⟨⟨(heq rq h.d2).trans hx.head,h.d1,h.d2,h.d3,h.max,fun j hj=> ?_,fun j hj=> ?_,oA hx.thereS (heq ss h.d3),fun j hj=> ?_,World.there_setCells hx.thereV vb i [v'],fun j hj=> ?_,fun j hj=> ?_,fun j hj=> ?_,fun j hj=> ?_⟩, ?_⟩
 ·by_cases e:j=i
  ·subst e;rw[en];exact⟨(h.ok j hj).1,hvs⟩
  ·rw[ef _ _ e];exact h.ok j hj
 ·by_cases e:j=i
  ·subst e;rw[en];exact da (hx.cont j hj) (heq ss h.d3)
  ·rw[ef _ _ e];exact da (hx.cont j hj) (heq ss h.d3)
 ·by_cases e:j=i
  ·subst e;rw[en];exact World.cell?_setCell_same' _ _ _ (by rw[hx.ver j hj];rfl)
  ·rw[ef _ _ e,World.cell?_setCell_other _ _ _ _ (fun e'=>e (by cases e';rfl))];exact hx.ver j hj
 ·by_cases e:j=i
  ·subst e;rw[en,en];exact oz (ho.mono (bq _)) (fun g hg=>heq g (by have:=hnew g hg;omega))
  ·rw[ef _ _ e,ef _ _ e];exact oz (hx.row j hj) (fun g hg=>heq g (fun e'=>h.a3 j hj (by rw[hg,e'])))
 ·by_cases e:j=i
  ·subst e;rw[en];exact fun e'=>by have:=hnew _ e';omega
  ·rw[ef _ _ e];exact h.a1 j hj
 ·by_cases e:j=i
  ·subst e;rw[en];exact fun e'=>by have:=hnew _ e';omega
  ·rw[ef _ _ e];exact h.a2 j hj
 ·by_cases e:j=i
  ·subst e;rw[en];exact fun e'=>by have:=hnew _ e';omega
  ·rw[ef _ _ e];exact h.a3 j hj
 ·have t0:Turn (eX rq ss vb n sv) (eX rq ss vb n sv) w x:=Turn.of_below hb;refine⟨t0.still,t0.others.trans (iC x _ v'),fun k hk hf=>(heq k (fun e=>hf (aC (aC (aA e))))).trans (hb.block k hk), ?_⟩;rintro k (e | e | e | ⟨j,hj,hk⟩)
  ·exact aA (aA e)
  ·exact aA (aC (aA e))
  ·exact aA (aC (aC (aA e)))
  ·by_cases e:j=i
   ·subst e;rw[en]at hk;exact aC (hnew k hk)
   ·rw[ef _ _ e]at hk;exact aA (aC (aC (aC ⟨j,hj,hk⟩)))
theorem RefAt.setS {w x:ak} {rq ss vb n i:Nat} {sv:Nat->am} {D:Nat->Sec} {b:List am} (h:RefAt w rq ss vb n sv D) (hi:i<n) (hb:w9b w x) (hB:bx b):
  RefAt (x.setCells ss (i*64) b) rq ss vb n sv (dD D i ⟨b,(D i).vs⟩)/\Turn (eX rq ss vb n sv) (eX rq ss vb n sv) w (x.setCells ss (i*64) b):=by
 have hn:0<n:=by omega
 have hx:RefAt x rq ss vb n sv D:=h.kept fun k hk=>hb.block k (h.lt hn hk);have hl:=hB.length;have heq:∀k,k<x.heap.size->k≠ss->(x.setCells ss (i*64) b).heap[k]? =x.heap[k]? :=fun k hk hne=>li x ss (i*64) b hk hne;have lt:∀k,eX rq ss vb n sv k->k<x.heap.size:=fun k hk=>hx.lt hn hk;refine⟨⟨(heq rq (lt rq (aA rfl)) h.d1).trans hx.head,h.d1,h.d2,h.d3,h.max,fun j hj=> ?_,fun j hj=> ?_,World.there_setCells hx.thereS ss (i*64) b,fun j hj=>(cL (a:=⟨vb,j,none⟩) (heq vb (lt vb (aC (aC (aA rfl)))) h.d3.symm)).trans (hx.ver j hj),
  oA hx.thereV (heq vb (lt vb (aC (aC (aA rfl)))) h.d3.symm),fun j hj=> ?_,h.a1,h.a2,h.a3⟩, ?_⟩
 ·by_cases e:j=i
  ·subst e;rw[en];exact⟨hB,(h.ok j hj).2⟩
  ·rw[ef _ _ e];exact h.ok j hj
 ·by_cases e:j=i
  ·subst e;rw[en];exact gE x ss (j*64) b (fun m hm=>by
    have:=hx.thereS (j*64+m) (by rw[hl]at hm;omega)
    rwa [dC]at this)
  ·rw[ef _ _ e];exact iM (hx.cont j hj) ss (i*64) b (by rw[hl,(h.ok j hj).1.length];omega)
 ·have hr:(dD D i ⟨b,(D i).vs⟩ j).vs=(D j).vs:=by
   by_cases e:j=i
   ·subst e;rw[en]
   ·rw[ef _ _ e]
  rw[hr];exact oz (hx.row j hj) (fun g hg=>heq g (lt g (aC (aC (aC ⟨j,hj,hg⟩)))) (fun e'=>h.a2 j hj (by rw[hg,e'])))
 ·have t0:Turn (eX rq ss vb n sv) (eX rq ss vb n sv) w x:=Turn.of_below hb;exact⟨om t0.still (uu ss b (i*64) x),t0.others.trans (qO ss b (i*64) x),fun k hk hf=>(heq k (aU hk hb.size) (fun e=>hf (aC (aA e)))).trans (hb.block k hk),fun k hk=>aA hk⟩
set_option maxRecDepth 100000 in
theorem AS (N:Nat) (w:ak) (v u:am) (vs us:List (List am)) (hown:w.ownsRow N 51 64 v vs.length vs.flatten) (hu:w.ownsRow 0 51 64 u us.length us.flatten) (hok:∀x ∈ us,bx x) (hlen:vs.length+us.length<=1000000) (hN:N<=w.heap.size):
  ∃v' w',(Builtin.append_ #[54, 54] 54 #[v,u]).run aj w=.ok v' w'/\w'.ownsRow N 51 64 v' (vs++us).length (vs++us).flatten/\w.grownBy w' v.ownBlock/\(v'.ownBlock=v.ownBlock\/v'.ownBlock=some w.heap.size):=by
 obtain⟨i0,hi,hz0,hz1,hz2⟩:=eJ uw;rcases hu.2 with⟨rfl,h0⟩ | ⟨g,cap,cur,rfl,_⟩
 ·obtain rfl:=je h0;exact⟨v,w,run_append_owned_none (P:=aj) (w:=w) N 54 54 51 i0 64 Tryz.underlying54 hi v vs.length _ hown,by simpa using hown,World.grownBy.refl _ _,aA rfl⟩
 ·obtain⟨v',w',hr,h1,h2,_,h3⟩:=run_append_own_at (P:=aj) w N 54 54 51 i0 (al cx) 64 64 Tryz.underlying54 hi hz0 hz1 hz2 dj (by omega) v vs.length vs.flatten hown
   ⟨g,0,none⟩ us.length cap us.flatten hu.1 (hu.cells rfl) (fun x hx=>by obtain⟨y,hy,hxy⟩:=List.mem_flatten.1 hx;exact(hok y hy).one x hxy) (by unfold aS;omega) (by omega) hN
  exact⟨v',w',hr,by simpa using h1,h2,h3⟩
theorem AT (w:ak):(cO 54 0 #[]).run aj w=.ok (ag (some ⟨w.heap.size,0,none⟩) 0 0) (w.alloc (ap #[] 51)):=by
 obtain⟨i0,hi,hz0,hz1,hz2⟩:=eJ nW;have hu:aj.underlying 54 =some (.slice 51):=by kernel_rfl
 simp[cO,run_underlying hu,sizeOf,typeInfo,hi,fe,newRow];rw[show Array.range 0=#[] by decide,Array.map_empty]
end
section
attribute [-simp] isAgg51 zeroValue51
attribute [-go_sem] aE aL
attribute [local go_sem] bC bD dZ dQ
def Own (W x:ak) (v:am) (vs:List (List am)):Prop:=x.ownsRow W.heap.size 51 64 v vs.length vs.flatten
def One (W x:ak) (B:Nat) (b:List am):Prop:=W.heap.size<=B/\B<x.heap.size/\x.rangeAt B 0 b
theorem One.alloc {W x:ak} {B:Nat} {b:List am} (h:One W x B b) (o:Obj):One W (x.alloc o) B b:=⟨h.1,by have:=h.2.1;simp;omega,World.rangeAt_alloc h.2.2 o⟩
theorem AU {W x:ak} (hb:w9b W x) {b:List am} (hB:bx b):One W (x.alloc (ap b.toArray 51)) x.heap.size b:=
 ⟨hb.size,by simp,fun j u hj=>by rw[cl _ _ _ _ _ _ (bR x _)];simpa using hj⟩
theorem AV {W x:ak} (hb:w9b W x):Own W (x.alloc (ap #[] 51)) (ag (some ⟨x.heap.size,0,none⟩) 0 0) []:=
 World.ownsRow_lit x #[] 0 hb.size (by unfold aS;omega) rfl
theorem Own.append {W x:ak} {v u:am} {vs us:List (List am)} (h:Own W x v vs) (hb:w9b W x) (hu:x.ownsRow 0 51 64 u us.length us.flatten) (hok:∀x ∈ us,bx x) (hlen:vs.length+us.length<=1000000):
  ∃v' x',(Builtin.append_ #[54, 54] 54 #[v,u]).run aj x=.ok v' x'/\Own W x' v' (vs++us)/\ah W.heap.size W x'/\∀B b,One W x B b->v.ownBlock≠some B->One W x' B b:=by
 obtain⟨v',x',h1,h2,h3,h4⟩:=AS W.heap.size x v u vs us h hu hok hlen hb.size;refine⟨v',x',h1,h2,hb.grown h3 hb.size (fun k hk=>(h.lt k hk).1),fun B b hB hne=>⟨hB.1,aU hB.2.1 h3.size,fun j x hx=>h3.cell (hB.2.2 j x hx) (fun e=>hne e.symm)⟩⟩
theorem Own.push {W x:ak} {v:am} {vs:List (List am)} {B:Nat} {b:List am} (h:Own W x v vs) (hb:w9b W x) (hB:One W x B b) (hok:bx b) (hlen:vs.length<=1000000):
  ∃v' x',(Builtin.append_ #[54, 54] 54 #[v,ag (some ⟨B,0,none⟩) 1 1]).run aj x=.ok v' x'/\Own W x' v' (vs++ [b])/\ah W.heap.size W x':=by
 obtain⟨v',x',h1,h2,h3,h4⟩:=oq W.heap.size x v vs b B h hok hB.2.2 hlen hb.size;exact⟨v',x',h1,h2,hb.grown h3 hb.size (fun k hk=>(h.lt k hk).1)⟩
theorem Own.form {W x:ak} {v:am} {vs:List (List am)} (h:Own W x v vs):∃a cap,v=ag a vs.length cap:=by
 rcases h.2 with⟨rfl,h0⟩ | ⟨g,cap,cur,rfl,_⟩
 ·exact⟨none,0,by rw[h0]⟩
 ·exact⟨_,_,rfl⟩
theorem uV (rq n i:Nat) (f:Nat->Prop) (D:Nat->Sec) (b:List am) (w:ak) (h:fT w rq n f D) (hi:i<n) (hb:bx b) (hlen:(D i).vs.length<=500000):
  az aj 155 #[ao (some ⟨rq,0,none⟩),ab af (i:Int),al b.toArray] w fun e w'=>e=ar (aQ #[])/\∃f',fT w' rq n f' (dD D i ⟨(D i).c,(D i).vs++ [b]⟩)/\Turn f f' w w':=by
 obtain⟨ss,vb,sv,h,rfl⟩:=h;have hn:0<n:=by omega
 obtain⟨W,hW⟩:=w9nm (w.alloc (ap b.toArray 51));have hsz:W.heap.size=w.heap.size+1:=by rw[←hW];simp
 have hB0:ah w.heap.size w W:=by rw[←hW];exact(aF _ w).alloc (aJ _) _
 have h':RefAt W rq ss vb n sv D:=h.kept fun k hk=>hB0.block k (h.lt hn hk);have r1:W.rangeAt w.heap.size 0 b:=by
  rw[←hW];intro j x hx;rw[cl _ _ _ _ _ _ (bR w _)];simpa using hx
 have key:∀x:aI W,RefAt x.1 rq ss vb n sv D:=fun x=>h'.kept fun k hk=>x.2.block k (h'.lt hn hk);have hC0:∀x:aI W,x.1.cell? ⟨rq,1,none⟩=some (ag (some ⟨vb,0,none⟩) n n):=fun x=>by rw[cl _ _ _ _ _ _ (key x).head];rfl
 have hC1:∀x:aI W,x.1.cell? ⟨vb,i,none⟩=some (sv i):=fun x=>(key x).ver i hi;have hL:∀x:aI W,(aE 51 ⟨w.heap.size,0,none⟩).run aj x.1=.ok (al b.toArray) x.1:=fun x=>dd (da r1 (x.2.block _ (by omega))) hb.length;have hF:∀x:aI W,x.1.frozen? ⟨vb,i,none⟩=false:=fun x=>by have:=((key x).thereV i hi).2;rwa [dC]at this
 have K0:Hid (∃y:aI W,W.drew=y.1):=⟨⟨W.drew,(aF _ W).drew⟩,rfl⟩;have HE:Hid (∀x:ak,(cO 54 0 #[]).run aj x=.ok (ag (some ⟨x.heap.size,0,none⟩) 0 0) (x.alloc (ap #[] 51))):=AT;have HO:Hid (∀x:ak,(cO 54 1 #[(0,al b.toArray)]).run aj x=.ok (ag (some ⟨x.heap.size,0,none⟩) 1 1) (x.alloc (ap b.toArray 51))):=fun x=>oo x b hb.length;have HAl:Hid (∀(x:ak) (o:Obj),(∃y:aI W,x=y.1)->∃y:aI W,x.alloc o=y.1):=by
  rintro x o ⟨y,rfl⟩;exact⟨⟨y.1.alloc o,y.2.alloc y.2.size o⟩,rfl⟩
 have HEn:Hid (∀x:ak,(∃y:aI W,x=y.1)->Own W (x.alloc (ap #[] 51)) (ag (some ⟨x.heap.size,0,none⟩) 0 0) []):=by rintro x ⟨y,rfl⟩;exact AV y.2
 have HOn:Hid (∀x:ak,(∃y:aI W,x=y.1)->One W (x.alloc (ap b.toArray 51)) x.heap.size b):=by rintro x ⟨y,rfl⟩;exact AU y.2 hb
 have HCp:Hid (∀(x:ak) (B0:Nat),(∃y:aI W,x=y.1)->Own W x (ag (some ⟨B0,0,none⟩) 0 0) []->
   ∃v' x',(Builtin.append_ #[54, 54] 54 #[ag (some ⟨B0,0,none⟩) 0 0,sv i]).run aj x=.ok v' x'/\Own W x' v' (D i).vs/\(∃y:aI W,x'=y.1)/\∀B b,One W x B b->B0≠B->One W x' B b):=by
  rintro x B0 ⟨y,rfl⟩ ho;obtain⟨v',x',h1,h2,h3,h4⟩:=ho.append y.2 ((key y).row i hi) (h.ok i hi).2 (by simp;omega);exact⟨v',x',h1,by simpa using h2,⟨⟨x',h3⟩,rfl⟩,fun B b hB hne=>h4 B b hB (by simp[fq];exact hne)⟩
 have HPu:Hid (∀(x:ak) (v:am) (B:Nat),(∃y:aI W,x=y.1)->Own W x v (D i).vs->One W x B b->
   ∃a cap x',(Builtin.append_ #[54, 54] 54 #[v,ag (some ⟨B,0,none⟩) 1 1]).run aj x=.ok (ag a ((D i).vs.length+1) cap) x'/\Own W x' (ag a ((D i).vs.length+1) cap) ((D i).vs++ [b])/\∃y:aI W,x'=y.1):=by
  rintro x v B ⟨y,rfl⟩ ho hB;obtain⟨v',x',h1,h2,h3⟩:=ho.push y.2 hB hb (by omega);obtain⟨a,cap,hv⟩:=h2.form;rw[cX,List.length_singleton]at hv;subst hv;exact⟨a,cap,x',h1,h2,⟨x',h3⟩,rfl⟩
 have HEnd:Hid (∀(x:ak) (v:am),(∃y:aI W,x=y.1)->Own W x v ((D i).vs++ [b])->∃f',fT (x.setCell ⟨vb,i,none⟩ v) rq n f' (dD D i ⟨(D i).c,(D i).vs++ [b]⟩)/\Turn (eX rq ss vb n sv) f' w (x.setCell ⟨vb,i,none⟩ v)):=by
  rintro x v ⟨y,rfl⟩ ho;obtain⟨g1,g2⟩:=h'.setV hi y.2 (fun u hu=>by rcases gW.1 hu with hu | hu;exact(h.ok i hi).2 u hu;simp at hu;exact hu▸hb) ho;exact⟨_,⟨ss,vb,_,g1,rfl⟩,(Turn.of_below hB0).trans g2⟩
 have g1:(i:Int)< (n:Int):=by omega
 have hmx:=w9x
 obtain⟨u,hu⟩:=w9nm (sv i);rw[hu]at hC1 HCp;have hCu:=hC1;clear h h' hB0 r1 key hu hlen hsz;go_enter func155,ntmps155;go_wp2_with (with_reducible (rw[hW];clear hW));refine cM (fun x=>∃y:aI W,x=y.1) 17 (.takes [0,1,2,3,4,6,7,8,9,10,11,12,14] (.two 5 15 (.two 13 15 (.one 15 (.one 16 .leaf)) (.one 13 (.one 16 .leaf))) (.one 5 (.one 13 (.one 16 .leaf))))) hmx (by kernel_rfl) (by intro c x v a w h;cases x<;>exact h) K0.out ?_;repeat(rw[bj];simp only[au,ay];go_big_quiet_step (fail);refine aO ?_)
 rw[bo];refine⟨?_, ?_⟩
 ·obtain⟨x1,hx1⟩:=w9nm (W.drew.alloc (ap #[] 51));have k1:Hid (∃y:aI W,x1=y.1):=by rw[←hx1];exact HAl.out _ _ K0.out
  have o1:Hid (Own W x1 (ag (some ⟨W.heap.size,0,none⟩) 0 0) []):=by rw[←hx1];exact HEn.out _ K0.out
  have s1:Hid (W.heap.size<x1.heap.size):=by rw[←hx1];show _<_;simp
  simp only[au,ay]
  (with_reducible refine gG ?_)
  refine dq _ _ _ rfl rfl [] _ rfl (HE.out _) ?_;rw[hx1];go_wp2_with fail;refine aG k1.out ?_;clear hx1;refine⟨?_, ?_⟩
  ·obtain⟨v1,x2,r2,o2,k2,t2⟩:=HCp.out x1 _ k1.out o1.out;have R2:=ae r2;have K2:=ae k2;obtain⟨x3,hx3⟩:=w9nm (x2.alloc (ap b.toArray 51));have k3:Hid (∃y:aI W,x3=y.1):=by rw[←hx3];exact HAl.out _ _ k2
   have o3:Hid (Own W x3 v1 (D i).vs):=by rw[←hx3];exact World.ownsRow.alloc o2 _
   have n3:Hid (One W x3 x2.heap.size b):=by rw[←hx3];exact HOn.out _ k2
   obtain⟨a4,cap4,x4,r4,q4,k4⟩:=HPu.out x3 v1 _ k3.out o3.out n3.out;have R4:=ae r4;have o4:=ae q4
   replace k4:=ae k4
   clear r2 k2 o2 t2 r4 q4;simp only[au,ay];refine wpList_append_run (.tmp 11) (.tmp 18) 54 rfl rfl _ _ _ rfl rfl R2.out ?_;go_wp2_with fail;refine aG K2.out ?_;rw[aT];simp only[au,ay]
   (with_reducible refine gG ?_)
   refine dq _ _ _ rfl rfl [(0,al b.toArray)] _ rfl (HO.out _) ?_;rw[hx3];go_wp2_with fail;refine aG k3.out ?_;clear hx3;rw[aT];simp only[au,ay];refine wpList_append_run (.tmp 19) (.tmp 21) 54 rfl rfl _ _ _ rfl rfl R4.out ?_;go_wp2_with fail;refine aG k4.out ?_;rw[cu];simp only[be,bf];have c4:x4.cell? ⟨vb,i,none⟩=some u:=by obtain⟨y,rfl⟩:=k4.out;exact hC1 y
   have f4:x4.frozen? ⟨vb,i,none⟩=false:=by obtain⟨y,rfl⟩:=k4.out;exact hF y
   go_wp2_with fail
   go_end0
   exact⟨rfl,HEnd.out _ _ k4.out o4.out⟩
  ·obtain⟨x2,hx2⟩:=w9nm (x1.alloc (ap b.toArray 51));have k2:Hid (∃y:aI W,x2=y.1):=by rw[←hx2];exact HAl.out _ _ k1.out
   have o2:Hid (Own W x2 (ag (some ⟨W.heap.size,0,none⟩) 0 0) []):=by rw[←hx2];exact World.ownsRow.alloc o1.out _
   have n2:Hid (One W x2 x1.heap.size b):=by rw[←hx2];exact HOn.out _ k1.out
   obtain⟨v1,x3,r3,o3,k3,t3⟩:=HCp.out x2 _ k2.out o2.out;have n3:=t3 _ _ n2.out (Nat.ne_of_lt s1.out);obtain⟨a4,cap4,x4,r4,q4,k4⟩:=HPu.out x3 v1 _ k3 o3 n3;have R3:=ae r3;have K3:=ae k3;have R4:=ae r4;have o4:=ae q4
   replace k4:=ae k4
   clear r3 k3 o3 t3 n3 r4 q4;simp only[au,ay]
   (with_reducible refine gG ?_)
   refine dq _ _ _ rfl rfl [(0,al b.toArray)] _ rfl (HO.out _) ?_;rw[hx2];go_wp2_with fail;refine aG k2.out ?_;clear hx2;rw[aT];simp only[au,ay];refine wpList_append_run (.tmp 11) (.tmp 18) 54 rfl rfl _ _ _ rfl rfl R3.out ?_;go_wp2_with fail;refine aG K3.out ?_;rw[aT];simp only[au,ay];refine wpList_append_run (.tmp 19) (.tmp 21) 54 rfl rfl _ _ _ rfl rfl R4.out ?_;go_wp2_with fail;refine aG k4.out ?_;rw[cu];simp only[be,bf];have c4:x4.cell? ⟨vb,i,none⟩=some u:=by obtain⟨y,rfl⟩:=k4.out;exact hC1 y
   have f4:x4.frozen? ⟨vb,i,none⟩=false:=by obtain⟨y,rfl⟩:=k4.out;exact hF y
   go_wp2_with fail
   go_end0
   exact⟨rfl,HEnd.out _ _ k4.out o4.out⟩
 ·obtain⟨x1,hx1⟩:=w9nm (W.drew.alloc (ap b.toArray 51));have k1:Hid (∃y:aI W,x1=y.1):=by rw[←hx1];exact HAl.out _ _ K0.out
  have n1:Hid (One W x1 W.heap.size b):=by rw[←hx1];exact HOn.out _ K0.out
  obtain⟨x2,hx2⟩:=w9nm (x1.alloc (ap #[] 51));have k2:Hid (∃y:aI W,x2=y.1):=by rw[←hx2];exact HAl.out _ _ k1.out
  have o2:Hid (Own W x2 (ag (some ⟨x1.heap.size,0,none⟩) 0 0) []):=by rw[←hx2];exact HEn.out _ k1.out
  have n2:Hid (One W x2 W.heap.size b):=by rw[←hx2];exact n1.out.alloc _
  obtain⟨v1,x3,r3,o3,k3,t3⟩:=HCp.out x2 _ k2.out o2.out;have n3:=t3 _ _ n2.out (Nat.ne_of_gt n1.out.2.1);obtain⟨a4,cap4,x4,r4,q4,k4⟩:=HPu.out x3 v1 _ k3 o3 n3;have R3:=ae r3;have K3:=ae k3;have R4:=ae r4;have o4:=ae q4
  replace k4:=ae k4
  clear r3 k3 o3 t3 n3 r4 q4;simp only[au,ay]
  (with_reducible refine gG ?_)
  refine dq _ _ _ rfl rfl [(0,al b.toArray)] _ rfl (HO.out _) ?_;rw[hx1];go_wp2_with fail;refine aG k1.out ?_;clear hx1;rw[aT];simp only[au,ay]
  (with_reducible refine gG ?_)
  refine dq _ _ _ rfl rfl [] _ rfl (HE.out _) ?_;rw[hx2];go_wp2_with fail;refine aG k2.out ?_;clear hx2;rw[aT];simp only[au,ay];refine wpList_append_run (.tmp 11) (.tmp 18) 54 rfl rfl _ _ _ rfl rfl R3.out ?_;go_wp2_with fail;refine aG K3.out ?_;rw[aT];simp only[au,ay];refine wpList_append_run (.tmp 19) (.tmp 21) 54 rfl rfl _ _ _ rfl rfl R4.out ?_;go_wp2_with fail;refine aG k4.out ?_;rw[cu];simp only[be,bf];have c4:x4.cell? ⟨vb,i,none⟩=some u:=by obtain⟨y,rfl⟩:=k4.out;exact hC1 y
  have f4:x4.frozen? ⟨vb,i,none⟩=false:=by obtain⟨y,rfl⟩:=k4.out;exact hF y
  go_wp2_with fail
  go_end0
  exact⟨rfl,HEnd.out _ _ k4.out o4.out⟩
def dA (D:Nat->Sec) (k:Nat):Nat->Sec:=fun j=>if j<k then⟨(D j).look, []⟩else D j
theorem AW (D:Nat->Sec):dA D 0=D:=by funext j;simp[dA]
theorem AX (D:Nat->Sec) (k:Nat):dA D (k+1)=dD (dA D k) k ⟨(D k).look, []⟩:=by
 funext j
 by_cases e:j=k
 ·subst e;rw[en];simp[dA]
 ·rw[ef _ _ e];unfold dA;by_cases h:j<k
  ·rw[if_pos (by omega),if_pos h]
  ·rw[if_neg (by omega),if_neg h]
theorem uW (D:Nat->Sec) (k:Nat):dA D k k=D k:=by simp[dA]
theorem uX (D:Nat->Sec) (n:Nat):cR D (fun j=>(D j).vs.length) (bF D n)=dA D n:=by
 funext j
 unfold dA;by_cases h:j<n
 ·rw[if_pos h];have h1:=uS D n j h;have h2:=AN D n j h;cases e:cR D (fun j=>(D j).vs.length) (bF D n) j with
  | mk c vs=>rw[e]at h1 h2;simp only at h1 h2;rw[h1,h2]
 ·rw[if_neg h,ji (fun hm=>h (ow hm))]
def jC (w:ak) (rq ss vb n:Nat) (f:Nat->Prop) (D':Nat->Sec) (W:ak):Prop:=∃sv,RefAt W rq ss vb n sv D'/\Turn f (eX rq ss vb n sv) w W
theorem uY (rq n:Nat) (f:Nat->Prop) (D:Nat->Sec) (w:ak) (h:fT w rq n f D):
  az aj 265 #[ao (some ⟨rq,0,none⟩)] w fun e w'=>e=ar (aQ #[])/\∃f',fT w' rq n f' (dA D n)/\Turn f f' w w':=by
 obtain⟨ss,vb,sv0,h,rfl⟩:=h;have HM:Hid (n<=aS):=aZ h.max (by unfold aS;omega);have HP:Hid (jC w rq ss vb n (eX rq ss vb n sv0) (dA D 0) w):=by rw[AW];exact⟨sv0,h,Turn.refl _ _⟩
 clear h;have hmx:=w9x
 go_enter func265,ntmps265;go_wp2;go_loopw [2] (fun i wr=>∃k:Nat,k<=n/\i=ab af k/\jC w rq ss vb n (eX rq ss vb n sv0) (dA D k) wr) (fun i _=>n - (aW i).toNat)
 case atStart=>exact⟨0,bq _,rfl,HP.out⟩
 case round=>
  obtain⟨k,hk,rfl,sv,hR,hT⟩:=hrel;have c0:wr.cell? ⟨rq,0,none⟩=some (ag (some ⟨ss,0,none⟩) n n):=by rw[cl _ _ _ _ _ _ hR.head];rfl
  by_cases hlt:k<n
  ·have hn:0<n:=by omega
   have key:∀x:aI wr,RefAt x.1 rq ss vb n sv (dA D k):=fun x=>hR.kept fun q hq=>x.2.block q (hR.lt hn hq);have hC0:∀x:aI wr,x.1.cell? ⟨rq,0,none⟩=some (ag (some ⟨ss,0,none⟩) n n):=fun x=>by rw[cl _ _ _ _ _ _ (key x).head];rfl
   have HRd:=ae (re rq n k _ _ wr.drew ⟨ss,vb,sv,key ⟨wr.drew,(aF _ wr).drew⟩,rfl⟩ hlt);rw[uW]at HRd;have hok:bx (D k).look:=by have:=(hR.ok k hlt).look;rwa [uW]at this
   obtain⟨u,hu⟩:=w9nm ((D k).look);rw[hu]at HRd hok;have HSt:Hid (∀x:aI wr,∃x2,(aL 51 ⟨ss,k*64,none⟩ (al u.toArray)).run aj x.1=.ok () x2/\x2.cell? ⟨rq,1,none⟩=some (ag (some ⟨vb,0,none⟩) n n)/\(∃v,x2.cell? ⟨vb,k,none⟩=some v)/\x2.frozen? ⟨vb,k,none⟩=false/\jC w rq ss vb n (eX rq ss vb n sv0) (dA D (k+1)) (x2.setCell ⟨vb,k,none⟩ (ag none 0 0))):=by
    intro x;have hx:=key x;obtain⟨g1,g2⟩:=hR.setS hlt x.2 hok;refine⟨_,lk (fun j hj=> ?_) hok, ?_,⟨_,g1.ver k hlt⟩, ?_, ?_⟩
    ·have:=hx.thereS (k*64+j) (by omega)
     rwa [dC]at this
    ·rw[cl _ _ _ _ _ _ g1.head];rfl
    ·have:=(g1.thereV k hlt).2;rwa [dC]at this
    ·obtain⟨q1,q2⟩:=g1.setV (v':=ag none 0 0) (vs':= []) hlt (aF _ _) (by simp) (ft _ _ _ _);refine⟨_, ?_,(hT.trans g2).trans q2⟩;rw[AX,hu];have e:dD (dD (dA D k) k ⟨u,(dA D k k).vs⟩) k ⟨(dD (dA D k) k ⟨u,(dA D k k).vs⟩ k).c, []⟩=dD (dA D k) k ⟨u, []⟩:=by
      funext j
      by_cases ej:j=k
      ·subst ej;rw[en,en,en]
      ·rw[ef _ _ ej,ef _ _ ej,ef _ _ ej]
     rw[←e];exact q1
   have g1:(k:Int)< (n:Int):=by omega
   have HLT:=ae hlt;have HW:Hid (wrap64 ((k:Int)+1)=(k:Int)+1):=gj _ (by have:=HM.out;unfold aS at this;omega);clear hlt hk hR hT key hn hok hu;go_wp2_with fail;refine cM (fun x=>∃y:aI wr,x=y.1) 8 (.takes [0,1,2,3,4,5,6] (.one 7 .leaf)) hmx (by kernel_rfl) (by intro c x v a w h;cases x<;>exact h) ⟨⟨wr.drew,(aF _ wr).drew⟩,rfl⟩ ?_;repeat(rw[bj];simp only[au,ay];go_big_quiet_step (fail);refine aO ?_)
   rw[bo,aT];simp only[au,ay];go_wp2_with fail;refine HRd.out.mono ?_;rintro e x1 ⟨rfl,hb⟩;have X1:w9h wr x1:=(aF _ wr).drew.trans hb;clear hb;go_wp2_with fail;refine aG ⟨⟨x1,X1.out⟩,rfl⟩ ?_;rw[cu];simp only[be,bf];obtain⟨x2,s1,s2,⟨v,s3⟩,s4,s5⟩:=HSt.out ⟨x1,X1.out⟩;have S5:=ae s5;clear s5;go_wp2_with fail;exact⟨kk (C:=fun k=>jC w rq ss vb n (eX rq ss vb n sv0) (dA D k) _) HW.out HLT.out S5.out,km HW.out HLT.out⟩
  ·obtain rfl:k=n:=by omega
   have HE:Hid (∃f',fT wr rq k f' (dA D k)/\Turn (eX rq ss vb k sv0) f' w wr):=⟨_,⟨ss,vb,sv,hR,rfl⟩,hT⟩;clear hR hT hk;go_wp2_with fail
   go_end0
   exact⟨rfl,HE.out⟩
end
section
attribute [-simp] isAgg51 zeroValue51
attribute [-go_sem] aE aL
attribute [local go_sem] bC bD dZ dQ
def RS.len (S:RS) (dev:Int):Nat:=if dev=0 then S.n0 else if dev=1 then S.n1 else 0
def RS.has (S:RS) (dev i:Int):Bool:=decide (0<=i/\i< (S.len dev:Int))
def RS.look (S:RS) (dev:Int) (i:Nat):List am:=if dev=0 then(S.D0 i).look else(S.D1 i).look
def RS.put (S:RS) (dev:Int) (i:Nat) (b:List am):RS:=if dev=0 then{S with D0:=dD S.D0 i ((S.D0 i).add b)}else{S with D1:=dD S.D1 i ((S.D1 i).add b)}
def RS.fl (S:RS) (dev:Int):RS:=if dev=0 then{S with D0:=dA S.D0 S.n0}else{S with D1:=dA S.D1 S.n1}
noncomputable def RS.crash (S:RS) (b0 b1:List Int):RS:={S with D0:=cR S.D0 (ip S.D0 b0) (bF S.D0 S.n0),D1:=cR S.D1 (ip S.D1 b1) (bF S.D1 S.n1),fuse:= -1,down:=false}
def RS.read (S:RS) (dev i:Int):List am:=if S.has dev i=true/\S.down=false then S.look dev i.toNat else a9 0
def RS.readE (S:RS) (dev i:Int):Int:=if S.has dev i=true then(if S.down=true then 14 else 0)else 1
def RS.write (S:RS) (dev i:Int) (b:List am):RS:=if S.has dev i=true then(if S.ok=true then S.after.put dev i.toNat b else S.after)else S
def RS.writeE (S:RS) (dev i:Int):Int:=if S.has dev i=true then(if S.ok=true then 0 else 14)else 1
def RS.flush (S:RS) (dev:Int):RS:=if dev=0\/dev=1 then(if S.ok=true then S.after.fl dev else S.after)else S
def RS.flushE (S:RS) (dev:Int):Int:=if dev=0\/dev=1 then(if S.ok=true then 0 else 14)else 1
theorem RS.after_same (S:RS):S.after.n0=S.n0/\S.after.n1=S.n1/\S.after.D0=S.D0/\S.after.D1=S.D1:=by unfold RS.after;split<;>exact⟨rfl,rfl,rfl,rfl⟩
theorem RS.after_len (S:RS) (dev:Int):S.after.len dev=S.len dev:=by unfold RS.len;rw[S.after_same.1,S.after_same.2.1]
section
variable {rb p0 p1:Nat} {S:RS} {w:ak} {f:Nat->Prop}
theorem aX.d0 (h:aX rb p0 p1 S w f):∃g,Disk w p0 S.n0 g S.D0/\0<S.n0:=by
 obtain⟨f1,f2,_,⟨f3,f4,h1,h2,_⟩,_⟩:=h;exact⟨f3,h1⟩
theorem aX.d1 (h:aX rb p0 p1 S w f):∃g,Disk w p1 S.n1 g S.D1/\0<S.n1:=by
 obtain⟨f1,f2,_,⟨f3,f4,h1,h2,_⟩,_⟩:=h;exact⟨f4,h2⟩
theorem aX.rb_lt (h:aX rb p0 p1 S w f):rb<w.heap.size:=by
 obtain⟨f1,f2,⟨h1,_⟩,_⟩:=h;exact(cj.1 h1).1
theorem uZ (p0 p1:Nat) (dev:Int):(dev=0/\dk p0 p1 dev=some ⟨p0,0,none⟩)\/(dev=1/\dk p0 p1 dev=some ⟨p1,0,none⟩)\/(dev≠0/\dev≠1/\dk p0 p1 dev=none):=by
 by_cases h0:dev=0
 ·exact aA ⟨h0,by rw[h0];rfl⟩
 ·by_cases h1:dev=1
  ·exact aC (aA ⟨h1,by rw[h1];rfl⟩)
  ·exact aC (aC ⟨h0,h1,by unfold dk;rw[if_neg h0,if_neg h1]⟩)
theorem aX.disk (h:aX rb p0 p1 S w f) (dev:Int):
  az aj 149 #[ao (some ⟨rb,0,none⟩),ab af dev] w fun e w'=>e=ar (ao (dk p0 p1 dev))/\ah w.heap.size w w':=
 AJ rb p0 p1 dev w h.rb_lt (h.cell 0) (h.cell 1)
theorem aX.lenOf (h:aX rb p0 p1 S w f) (dev:Int):
  az aj 226 #[ao (dk p0 p1 dev)] w fun e w'=>e=ar (ab af (S.len dev:Int))/\w'=w:=by
 rcases uZ p0 p1 dev with⟨rfl,e⟩ | ⟨rfl,e⟩ | ⟨e0,e1,e⟩<;>rw[e]
 ·obtain⟨g,h1,_⟩:=h.d0;exact mV p0 S.n0 g S.D0 w h1
 ·obtain⟨g,h1,_⟩:=h.d1;exact mV p1 S.n1 g S.D1 w h1
 ·have:S.len dev=0:=by unfold RS.len;rw[if_neg e0,if_neg e1]
  rw[this];exact ux w
theorem aX.hasOf (h:aX rb p0 p1 S w f) (dev i:Int):
  az aj 150 #[ao (dk p0 p1 dev),ab af i] w fun e w'=>e=ar (.bool (S.has dev i))/\w'=w:=
 AL _ _ i w (h.lenOf dev)
theorem RS.has_lt {dev i:Int} (h:S.has dev i=true):(dev=0\/dev=1)/\∃k:Nat,i=(k:Int)/\k<S.len dev:=by
 unfold RS.has at h;have h:=of_decide_eq_true h;obtain⟨k,rfl⟩:=Int.eq_ofNat_of_zero_le h.1;refine⟨?_,k,rfl,by omega⟩;by_cases h0:dev=0
 ·exact aA h0
 ·by_cases h1:dev=1
  ·exact aC h1
  ·have:S.len dev=0:=by unfold RS.len;rw[if_neg h0,if_neg h1]
   omega
theorem aX.readOf (h:aX rb p0 p1 S w f) {dev i:Int} (hi:S.has dev i=true):
  az aj 165 #[ao (dk p0 p1 dev),ab af i] w fun e w'=>e=ar (aQ #[al (S.look dev i.toNat).toArray,ab af 0])/\ah w.heap.size w w':=by
 obtain⟨hd,k,rfl,hk⟩:=RS.has_lt hi;rcases hd with rfl | rfl
 ·obtain⟨g,h1,_⟩:=h.d0;exact uz p0 S.n0 k g S.D0 w h1 hk
 ·obtain⟨g,h1,_⟩:=h.d1;exact uz p1 S.n1 k g S.D1 w h1 hk
theorem aX.okLook (h:aX rb p0 p1 S w f) {dev i:Int} (hi:S.has dev i=true):bx (S.look dev i.toNat):=by
 obtain⟨hd,k,rfl,hk⟩:=RS.has_lt hi;rcases hd with rfl | rfl
 ·obtain⟨g,h1,_⟩:=h.d0;exact(h1.ok hk).look
 ·obtain⟨g,h1,_⟩:=h.d1;exact(h1.ok hk).look
def RS.Few (S:RS) (m:Nat):Prop:=(∀i,i<S.n0->(S.D0 i).vs.length<=m)/\(∀i,i<S.n1->(S.D1 i).vs.length<=m)
theorem RS.Few.mono {m m':Nat} (h:S.Few m) (hm:m<=m'):S.Few m':=⟨fun i hi=>aZ (h.1 i hi) hm,fun i hi=>aZ (h.2 i hi) hm⟩
theorem RS.after_few {m:Nat} (h:S.Few m):S.after.Few m:=by
 unfold RS.after;split<;>exact h
theorem aX.putOf (h:aX rb p0 p1 S w f) {dev i:Int} {b:List am} (hi:S.has dev i=true) (hb:bx b) (hm:S.Few 255):
  az aj 152 #[ao (dk p0 p1 dev),ab af i,al b.toArray] w fun e w'=>e=ar (ab af 0)/\∃f',aX rb p0 p1 (S.put dev i.toNat b) w' f'/\Turn f f' w w':=by
 obtain⟨hd,k,rfl,hk⟩:=RS.has_lt hi;rcases hd with rfl | rfl
 ·have hk':k<S.n0:=hk;refine cS.second (R:=fun e _=>e=ar (ab af 0)) (kL.isRes _ _ _) (S.disks_isRes p0 p1) h (Q':=(S.put 0 k b).disks p0 p1) fun f2 h2=> ?_;refine cS.first (R:=fun e _=>e=ar (ab af 0)) (qX.isRes _ _ _) (qX.isRes _ _ _) h2 fun f3 h3=> ?_;refine(uA p0 S.n0 k f3 S.D0 b w h3.1 hk' hb (by have:=hm.1 k hk';omega)).mono ?_;rintro e w' ⟨rfl,f',g1,g2⟩;exact⟨rfl,f',⟨g1,h3.2⟩,g2⟩
 ·have hk':k<S.n1:=hk;refine cS.second (R:=fun e _=>e=ar (ab af 0)) (kL.isRes _ _ _) (S.disks_isRes p0 p1) h (Q':=(S.put 1 k b).disks p0 p1) fun f2 h2=> ?_;refine cS.second (R:=fun e _=>e=ar (ab af 0)) (qX.isRes _ _ _) (qX.isRes _ _ _) h2 fun f3 h3=> ?_;refine(uA p1 S.n1 k f3 S.D1 b w h3.1 hk' hb (by have:=hm.2 k hk';omega)).mono ?_;rintro e w' ⟨rfl,f',g1,g2⟩;exact⟨rfl,f',⟨g1,h3.2⟩,g2⟩
theorem aX.flOf (h:aX rb p0 p1 S w f) {dev:Int} (hd:dev=0\/dev=1):
  az aj 169 #[ao (dk p0 p1 dev)] w fun e w'=>e=ar (ab af 0)/\∃f',aX rb p0 p1 (S.fl dev) w' f'/\Turn f f' w w':=by
 rcases hd with rfl | rfl
 ·refine cS.second (R:=fun e _=>e=ar (ab af 0)) (kL.isRes _ _ _) (S.disks_isRes p0 p1) h (Q':=(S.fl 0).disks p0 p1) fun f2 h2=> ?_;refine cS.first (R:=fun e _=>e=ar (ab af 0)) (qX.isRes _ _ _) (qX.isRes _ _ _) h2 fun f3 h3=> ?_;refine(uJ p0 S.n0 f3 S.D0 w h3.1 h3.2).mono ?_;rintro e w' ⟨rfl,f',g1,g2⟩;rw[uX]at g1;exact⟨rfl,f',⟨g1,h3.2⟩,g2⟩
 ·refine cS.second (R:=fun e _=>e=ar (ab af 0)) (kL.isRes _ _ _) (S.disks_isRes p0 p1) h (Q':=(S.fl 1).disks p0 p1) fun f2 h2=> ?_;refine cS.second (R:=fun e _=>e=ar (ab af 0)) (qX.isRes _ _ _) (qX.isRes _ _ _) h2 fun f3 h3=> ?_;refine(uJ p1 S.n1 f3 S.D1 w h3.1 h3.2).mono ?_;rintro e w' ⟨rfl,f',g1,g2⟩;rw[uX]at g1;exact⟨rfl,f',⟨g1,h3.2⟩,g2⟩
end
end
section
attribute [-simp] isAgg51 zeroValue51
attribute [-go_sem] aE aL
attribute [local go_sem] bC bD dZ dQ
section
variable {rb p0 p1:Nat} {S:RS} {w:ak} {f:Nat->Prop}
theorem aX.beside {w':ak} (h:aX rb p0 p1 S w f) (hb:w9b w w'):aX rb p0 p1 S w' f:=(aX.isRes rb p0 p1 S).below h hb
theorem aX.len (h:aX rb p0 p1 S w f) (dev:Int):
  az aj 167 #[ao (some ⟨rb,0,none⟩),ab af dev] w fun e w'=>e=ar (ab af (S.len dev:Int))/\ah w.heap.size w w':=by
 have H1:=ae (h.disk dev);have H:=ae h;clear h;go_enter func167,ntmps167;go_wp2_with fail;refine H1.out.mono ?_;rintro e x1 ⟨rfl,hb⟩;have HB:=ae hb;have H2:=ae ((H.out.beside hb).lenOf dev);clear hb;go_wp2_with fail;refine H2.out.mono ?_;rintro e w' ⟨rfl,rfl⟩;go_wp2_with fail;go_ret;exact⟨rfl,HB.out⟩
theorem aX.flush (h:aX rb p0 p1 S w f) (hS:S.Fit) (dev:Int):
  az aj 81 #[ao (some ⟨rb,0,none⟩),ab af dev] w fun e w'=>e=ar (ab af (S.flushE dev))/\∃f',aX rb p0 p1 (S.flush dev) w' f'/\Turn f f' w w':=by
 have H1:=ae (h.disk dev);have H:=ae h;have HS:=ae hS;clear h hS;by_cases hd:dev=0\/dev=1
 ·obtain⟨p,hp⟩:∃p,dk p0 p1 dev=some ⟨p,0,none⟩:=by rcases uZ p0 p1 dev with⟨_,e⟩ | ⟨_,e⟩ | ⟨e0,e1,_⟩;exact⟨_,e⟩;exact⟨_,e⟩;exact absurd hd (by simp[e0,e1])
  have HP:=ae hp;rw[hp]at H1;have HD:=ae hd;by_cases hok:S.ok=true
  ·have hE:Hid (S.flushE dev=0/\S.flush dev=S.after.fl dev):=by refine(?_:_/\_);unfold RS.flushE RS.flush;rw[if_pos hd,if_pos hok,if_pos hd,if_pos hok];exact⟨rfl,rfl⟩
   have HK:=ae hok;clear hp hd hok;go_enter func81,ntmps81;go_wp2_with fail;go_at_call 149;refine H1.out.mono ?_;rintro e x1 ⟨rfl,hb⟩;have HB:=ae hb;have H2:=ae (oy rb p0 p1 S f x1 (H.out.beside hb) HS.out);rw[HK.out]at H2;clear hb;go_wp2_with fail;go_at_call 151;refine H2.out.mono ?_;rintro e x2 ⟨rfl,f2,g1,g2⟩;have H3:=ae (g1.flOf HD.out);rw[HP.out]at H3;have HT:=ae g2;clear g1 g2;go_wp2_with fail;go_at_call 169;refine H3.out.mono ?_;rintro e x3 ⟨rfl,f3,g1,g2⟩;have HR:=ae g1;have HU:=ae g2;clear g1 g2;go_wp2_with fail;go_ret;rw[hE.out.1,hE.out.2];exact⟨rfl,f3,HR.out,(Turn.of_below HB.out).trans (HT.out.trans HU.out)⟩
  ·have hok:S.ok=false:=by simpa using hok
   have hE:Hid (S.flushE dev=14/\S.flush dev=S.after):=by refine(?_:_/\_);unfold RS.flushE RS.flush;rw[if_pos hd,if_neg (by simp[hok]),if_pos hd,if_neg (by simp[hok])];exact⟨rfl,rfl⟩
   have HK:=ae hok;clear hp hd hok;go_enter func81,ntmps81;go_wp2_with fail;go_at_call 149;refine H1.out.mono ?_;rintro e x1 ⟨rfl,hb⟩;have HB:=ae hb;have H2:=ae (oy rb p0 p1 S f x1 (H.out.beside hb) HS.out);rw[HK.out]at H2;clear hb;go_wp2_with fail;go_at_call 151;refine H2.out.mono ?_;rintro e x2 ⟨rfl,f2,g1,g2⟩;have HR:=ae g1;have HT:=ae g2;clear g1 g2;go_wp2_with fail;go_ret;rw[hE.out.1,hE.out.2];exact⟨rfl,f2,HR.out,(Turn.of_below HB.out).trans HT.out⟩
 ·have hp:dk p0 p1 dev=none:=by unfold dk;rw[if_neg (fun h=>hd (aA h)),if_neg (fun h=>hd (aC h))]
  rw[hp]at H1;have hE:Hid (S.flushE dev=1/\S.flush dev=S):=by refine(?_:_/\_);unfold RS.flushE RS.flush;rw[if_neg hd,if_neg hd];exact⟨rfl,rfl⟩
  clear hp hd;go_enter func81,ntmps81;go_wp2_with fail;go_at_call 149;refine H1.out.mono ?_;rintro e x1 ⟨rfl,hb⟩;have HB:=ae hb;clear hb;go_wp2_with fail;go_ret;rw[hE.out.1,hE.out.2];exact⟨rfl,f,H.out.beside HB.out,Turn.of_below HB.out⟩
theorem aX.write (h:aX rb p0 p1 S w f) (hS:S.Fit) (hm:S.Few 255) (dev i:Int) {b:List am} (hb:bx b):
  az aj 63 #[ao (some ⟨rb,0,none⟩),ab af dev,ab af i,al b.toArray] w fun e w'=>e=ar (ab af (S.writeE dev i))/\∃f',aX rb p0 p1 (S.write dev i b) w' f'/\Turn f f' w w':=by
 obtain⟨W,hW⟩:=w9nm (w.alloc (ap b.toArray 51));have hB:ah w.heap.size w W:=by rw[←hW];exact(aF _ w).alloc (aJ _) _
 have K:Hid (W.heap[w.heap.size]? =some (ap b.toArray 51 (0,0))):=by rw[←hW];exact bR w _
 have hlt:∀k,f k->k<w.heap.size:=(aX.isRes rb p0 p1 S).lt h;have H:=ae (h.beside hB);have H1:=ae (H.out.disk dev);have HB0:=ae hB;have HS:=ae hS;have HM:=ae hm;have HBL:=ae hb;have HLT:=ae hlt;clear h hS hm hb hB hlt;obtain⟨p,hp⟩:=w9nm (dk p0 p1 dev);have HP:=ae hp;rw[hp]at H1;clear hp;have H2:Hid (∀x:ak,w9b W x->az aj 150 #[ao p,ab af i] x fun e w'=>e=ar (.bool (S.has dev i))/\w'=x):=fun x hx=>by
  have:=(H.out.beside hx).hasOf dev i;rw[HP.out]at this;exact this
 by_cases hh:S.has dev i=true
 ·have HH:=ae hh;rw[hh]at H2;by_cases hok:S.ok=true
  ·have hE:Hid (S.writeE dev i=0/\S.write dev i b=S.after.put dev i.toNat b):=by refine(?_:_/\_);unfold RS.writeE RS.write;rw[if_pos hh,if_pos hok,if_pos hh,if_pos hok];exact⟨rfl,rfl⟩
   have HK:=ae hok;clear hh hok;go_enter func63,ntmps63;go_wp2_with (with_reducible (rw[hW];clear hW));go_at_call 149;refine H1.out.mono ?_;rintro e x1 ⟨rfl,hb⟩;have HB:=ae hb;clear hb;go_wp2_with fail;go_at_call 150;refine(H2.out x1 HB.out).mono ?_;rintro e w' ⟨rfl,hx⟩;obtain rfl:=hx.symm;clear hx;have H3:=ae (oy rb p0 p1 S f x1 (H.out.beside HB.out) HS.out);rw[HK.out]at H3;go_wp2_with fail;go_at_call 151;refine H3.out.mono ?_;rintro e x2 ⟨rfl,f2,g1,g2⟩;have L2:(aE 51 ⟨w.heap.size,0,none⟩).run aj x2=.ok (al b.toArray) x2:=by
    have hz:=(cj.1 K.out).1;refine uO ?_ HBL.out;rw[g2.out _ (aU hz HB.out.size) (fun hf=>by have:=HLT.out _ hf;omega)];exact(HB.out.block _ hz).trans K.out
   have H4:Hid (az aj 152 #[ao p,ab af i,al b.toArray] x2 fun e w'=>e=ar (ab af 0)/\∃f',aX rb p0 p1 (S.after.put dev i.toNat b) w' f'/\Turn f2 f' x2 w'):=by
    have:=g1.putOf (dev:=dev) (i:=i) (b:=b) (by unfold RS.has;rw[S.after_len];exact HH.out) HBL.out (RS.after_few HM.out);rw[HP.out]at this;exact this
   have HT:=ae g2;clear g1 g2;go_wp2_with fail;go_at_call 152;refine H4.out.mono ?_;rintro e x3 ⟨rfl,f3,g1,g2⟩;have HR:=ae g1;have HU:=ae g2;clear g1 g2 L2;go_wp2_with fail;go_ret;rw[hE.out.1,hE.out.2];exact⟨rfl,f3,HR.out,(Turn.of_below (HB0.out.trans (HB.out.mono HB0.out.size))).trans (HT.out.trans HU.out)⟩
  ·have hok:S.ok=false:=by simpa using hok
   have hE:Hid (S.writeE dev i=14/\S.write dev i b=S.after):=by refine(?_:_/\_);unfold RS.writeE RS.write;rw[if_pos hh,if_neg (by simp[hok]),if_pos hh,if_neg (by simp[hok])];exact⟨rfl,rfl⟩
   have HK:=ae hok;clear hh hok;go_enter func63,ntmps63;go_wp2_with (with_reducible (rw[hW];clear hW));go_at_call 149;refine H1.out.mono ?_;rintro e x1 ⟨rfl,hb⟩;have HB:=ae hb;clear hb;go_wp2_with fail;go_at_call 150;refine(H2.out x1 HB.out).mono ?_;rintro e w' ⟨rfl,hx⟩;obtain rfl:=hx.symm;clear hx;have H3:=ae (oy rb p0 p1 S f x1 (H.out.beside HB.out) HS.out);rw[HK.out]at H3;go_wp2_with fail;go_at_call 151;refine H3.out.mono ?_;rintro e x2 ⟨rfl,f2,g1,g2⟩;have HR:=ae g1;have HT:=ae g2;clear g1 g2;go_wp2_with fail;go_ret;rw[hE.out.1,hE.out.2];exact⟨rfl,f2,HR.out,(Turn.of_below (HB0.out.trans (HB.out.mono HB0.out.size))).trans HT.out⟩
 ·have hh:S.has dev i=false:=by simpa using hh
  rw[hh]at H2;have hE:Hid (S.writeE dev i=1/\S.write dev i b=S):=by refine(?_:_/\_);unfold RS.writeE RS.write;rw[if_neg (by simp[hh]),if_neg (by simp[hh])];exact⟨rfl,rfl⟩
  clear hh;go_enter func63,ntmps63;go_wp2_with (with_reducible (rw[hW];clear hW));go_at_call 149;refine H1.out.mono ?_;rintro e x1 ⟨rfl,hb⟩;have HB:=ae hb;clear hb;go_wp2_with fail;go_at_call 150;refine(H2.out x1 HB.out).mono ?_;rintro e w' ⟨rfl,hx⟩;obtain rfl:=hx.symm;clear hx;go_wp2_with fail;go_ret;rw[hE.out.1,hE.out.2];exact⟨rfl,f,H.out.beside HB.out,Turn.of_below (HB0.out.trans (HB.out.mono HB0.out.size))⟩
end
end
end Go.Proofs.YtbeeenembgplmaaGreat
