/- Made shorter by a tool: what the statements rest on. -/
import Derived.Test.YtbeeenembgplmaaGreatMT2
import Derived.WalkKit
import Derived.Laws.OwnMore
import Derived.LoopTactic
import Derived.Test.YtbeeenembgplmaaGreatProg
import Derived.Below
import Derived.Lib.Hide
import Derived.Lib.Bytes
import Derived.Laws.BitsAllLaws
import Derived.RangeFuncNested
set_option maxRecDepth 100000
set_option maxHeartbeats 20000000
set_option linter.unusedVariables false
set_option linter.unusedSimpArgs false
open List renaming drop_succ_cons -> be, drop_zero -> bf, getElem?_eq_getElem -> bJ, replicate -> bK, length_cons -> cK, length_append -> cX, mem_map -> dc, range -> dm, getElem?_eq_some_iff -> dp, getElem?_map -> du, length_drop -> dx, mem_of_getElem? -> dI, mem_singleton -> dO, length_nil -> dP, nil_append -> dT, size_toArray -> dU, cons_append -> dX, mem_cons -> ec, take_of_length_le -> ey, push_toArray -> eD, append_toArray -> eF, getElem?_append_left -> eU, mem_cons_self -> eV, length_take -> fd, mem_range -> fo, map_append -> fp, getElem?_append_right -> fF, mem_cons_of_mem -> fG, length_map -> fZ, mem_append -> gW, mem_of_mem_take -> gX, finRange -> ik, map_map -> iA, getElem?_eq_none -> iB, eq_nil_of_length_eq_zero -> je, getElem?_replicate -> jL, take_append_drop -> ki, flatten_append -> kj, getElem?_cons_succ -> kC
open Nat renaming le_refl -> aJ, lt_of_lt_of_le -> aU, le_trans -> aZ, zero_le -> bq, zero_add -> dC, mod_lt -> fO, lt_irrefl -> gQ, le_of_lt -> iT
open Int renaming le_refl -> fP
open Array renaming getElem?_eq_some_iff -> cj, replicate_succ -> ez, replicate_zero -> eA
open Go.Lib renaming hid -> ae
open Go renaming World -> ak, Value -> am, Calls -> az, loadVar -> aE, undef -> aK, storeVar -> aL, Addr -> aN, wpQuiet_nil -> aO, maxLen -> aS, TypeId -> aV, bodyPost_ret -> bl, heap_alloc_new -> bR, cell_of_row -> cl, run_equalIn_agg -> cZ, info_parts -> eJ, all_oneCell_toArray -> gD, run_takeDeferred -> iD, run_loadVar_mid -> iL, run_storeVar_new -> iU, callsIn_of_wp_marks -> jf
open Go.Boxed renaming new -> dY
open Go.Instr renaming buildSlice -> cO, build -> cY
open Go.IntWalk renaming wrap64_in -> gj
open Go.KeepsOthers renaming setCell -> iC
open Go.Op renaming equalIn -> eG
open Go.Result renaming andThen_ok -> ed
open Go.RowKit renaming Below -> ah, intOf -> aW
open Go.RowKit.Below renaming refl -> aF, heap_setCell -> gc
open Go.Sem renaming run_bind -> gR
open Go.World renaming cell?_of_block -> cL, size_alloc -> dy, ownsRow_nil -> ft
open Go.Ending renaming returned -> ar
open Go.IntKind renaming i64 -> af, u8 -> aq, u32 -> aD
open Go.Obj renaming cells -> ap
open Go.Value renaming int -> ab, slice -> ag, agg -> al, pointer -> ao, tuple -> aQ
open Or renaming inl -> aA, inr -> aC
open Go.Proofs.Tryz
open Go.Proofs.Tryz renaming prog -> aj
namespace Go.Proofs.YtbeeenembgplmaaGreat
open Go.RowKit Go.Shelf Go.Lib
section
attribute [-simp] isAgg51 zeroValue51
attribute [-go_sem] aE aL
attribute [local go_sem] bC bD dZ dQ
section
variable {rq q0 q1:Nat} {S:RS} {w:ak} {f:Nat->Prop}
theorem bG.rq_lt (h:bG rq q0 q1 S w f):rq<w.heap.size:=by
 obtain⟨f1,f2,⟨h1,_⟩,_⟩:=h;exact(cj.1 h1).1
theorem bG.flush (h:bG rq q0 q1 S w f) (hS:S.Fit) (dev:Int):
  az aj 217 #[ao (some ⟨rq,0,none⟩),ab af dev] w fun e w'=>e=ar (ab af (S.flushE dev))/\∃f',bG rq q0 q1 (S.flush dev) w' f'/\Turn f f' w w':=by
 have H1:=ae (h.through hS);have H:=ae h;clear h hS;by_cases hd:dev=0\/dev=1
 ·have q1':decide (dev<0)=false:=by simp;omega
  have q2':¬1<dev:=by omega
  have q3':decide (1<dev)=false:=by simp;omega
  by_cases hok:S.ok=true
  ·have hE:Hid (S.flushE dev=0/\S.flush dev=S.after.fl dev):=by refine(?_:_/\_);unfold RS.flushE RS.flush;rw[if_pos hd,if_pos hok,if_pos hd,if_pos hok];exact⟨rfl,rfl⟩
   rw[hok]at H1;have H2:Hid (∀(x:ak) (f2:Nat->Prop),bG rq q0 q1 S.after x f2->az aj 265 #[ao (some ⟨jS q0 q1 dev.toNat,0,none⟩)] x fun e w'=>e=ar (aQ #[])/\∃f',bG rq q0 q1 (S.after.fl dev) w' f'/\Turn f2 f' x w'):=fun x f2 hx=>hx.flOf hd;clear hok;rcases hd with rfl | rfl;all_goals
    go_enter func217,ntmps217;go_wp2_with fail;go_at_call 154;refine H1.out.mono ?_;rintro e x2 ⟨rfl,f2,g1,g2⟩;have c0:x2.cell? ⟨rq,0,none⟩=some (ao (some ⟨q0,0,none⟩)):=g1.cell 0;have c1:x2.cell? ⟨rq,1,none⟩=some (ao (some ⟨q1,0,none⟩)):=g1.cell 1;have H3:=ae (H2.out x2 f2 g1);have HT:=ae g2;clear g1 g2;go_wp2_with fail;go_at_call 265;refine H3.out.mono ?_;rintro e x3 ⟨rfl,f3,g1,g2⟩;have HR:=ae g1;have HU:=ae g2;clear g1 g2 c0 c1;go_wp2_with fail;go_ret;rw[hE.out.1,hE.out.2];exact⟨rfl,f3,HR.out,HT.out.trans HU.out⟩
  ·have hok:S.ok=false:=by simpa using hok
   have hE:Hid (S.flushE dev=14/\S.flush dev=S.after):=by refine(?_:_/\_);unfold RS.flushE RS.flush;rw[if_pos hd,if_neg (by simp[hok]),if_pos hd,if_neg (by simp[hok])];exact⟨rfl,rfl⟩
   rw[hok]at H1;clear hd hok;go_enter func217,ntmps217;go_wp2_with fail;go_at_call 154;refine H1.out.mono ?_;rintro e x2 ⟨rfl,f2,g1,g2⟩;have HR:=ae g1;have HT:=ae g2;clear g1 g2;go_wp2_with fail;go_ret;rw[hE.out.1,hE.out.2];exact⟨rfl,f2,HR.out,HT.out⟩
 ·have hE:Hid (S.flushE dev=1/\S.flush dev=S):=by refine(?_:_/\_);unfold RS.flushE RS.flush;rw[if_neg hd,if_neg hd];exact⟨rfl,rfl⟩
  have hq:decide (dev<0)=true\/(decide (dev<0)=false/\decide (1<dev)=true):=by
   by_cases h0:dev<0
   ·exact aA (by simpa using h0)
   ·exact aC ⟨by simpa using h0,by simp;omega⟩
  clear hd;rcases hq with z1 | ⟨z1,z2⟩;all_goals
   go_enter func217,ntmps217;go_wp2_with fail;go_ret;rw[hE.out.1,hE.out.2];exact⟨rfl,f,H.out,Turn.refl _ _⟩
theorem bG.write (h:bG rq q0 q1 S w f) (hS:S.Fit) (hm:S.Few 255) (dev i:Int) {b:List am} (hb:bx b):
  az aj 64 #[ao (some ⟨rq,0,none⟩),ab af dev,ab af i,al b.toArray] w fun e w'=>e=ar (ab af (S.writeE dev i))/\∃f',bG rq q0 q1 (S.write dev i b) w' f'/\Turn f f' w w':=by
 obtain⟨W,hW⟩:=w9nm (w.alloc (ap b.toArray 51));have hB:ah w.heap.size w W:=by rw[←hW];exact(aF _ w).alloc (aJ _) _
 have K:Hid (W.heap[w.heap.size]? =some (ap b.toArray 51 (0,0))):=by rw[←hW];exact bR w _
 have HLT:Hid (∀k,f k->k<w.heap.size):=(bG.isRes rq q0 q1 S).lt h;have H:=ae (h.beside hB);have H1:=ae (H.out.has dev i);have H3:=ae (H.out.through hS);have HB0:=ae hB;have HM:=ae hm;have HBL:=ae hb;clear h hS hm hb hB;by_cases hh:S.has dev i=true
 ·have HH:=ae hh;rw[hh]at H1;by_cases hok:S.ok=true
  ·have hE:Hid (S.writeE dev i=0/\S.write dev i b=S.after.put dev i.toNat b):=by refine(?_:_/\_);unfold RS.writeE RS.write;rw[if_pos hh,if_pos hok,if_pos hh,if_pos hok];exact⟨rfl,rfl⟩
   rw[hok]at H3;have H4:Hid (∀(x:ak) (f2:Nat->Prop),bG rq q0 q1 S.after x f2->az aj 155 #[ao (some ⟨jS q0 q1 dev.toNat,0,none⟩),ab af i,al b.toArray] x fun e w'=>e=ar (aQ #[])/\∃f',bG rq q0 q1 (S.after.put dev i.toNat b) w' f'/\Turn f2 f' x w'):=
    fun x f2 hx=>hx.putOf (by unfold RS.has;rw[S.after_len];exact HH.out) HBL.out (RS.after_few HM.out)
   have hmx:=w9x
   have hdv:=(RS.has_lt hh).1;clear hh hok;rcases hdv with rfl | rfl;all_goals
    go_enter func64,ntmps64;go_wp2_with (with_reducible (rw[hW];clear hW));go_at_call 153;refine H1.out.mono ?_;rintro e w' ⟨rfl,hx⟩;obtain rfl:=hx.symm;clear hx;go_wp2_with fail;go_at_call 154;refine H3.out.mono ?_;rintro e x2 ⟨rfl,f2,g1,g2⟩;have g1':bG rq q0 q1 S.after x2.drew f2:=(bG.isRes _ _ _ _).out g1 (fun _ _=>rfl);have c0:x2.drew.cell? ⟨rq,0,none⟩=some (ao (some ⟨q0,0,none⟩)):=g1'.cell 0;have c1:x2.drew.cell? ⟨rq,1,none⟩=some (ao (some ⟨q1,0,none⟩)):=g1'.cell 1;have L2:(aE 51 ⟨w.heap.size,0,none⟩).run aj x2.drew=.ok (al b.toArray) x2.drew:=by
     have hz:=(cj.1 K.out).1;refine uO ?_ HBL.out;show x2.heap[w.heap.size]? =_;rw[g2.out _ hz (fun hf=>by have:=HLT.out _ hf;omega)];exact K.out
    have H5:=ae (H4.out x2.drew f2 g1');have HT:=ae g2;clear g1 g1' g2;go_wp2_with fail;refine cM (fun x=>x=x2.drew) 8 (.takes [0,1,2,3,4,5,6,7] .leaf) hmx (by kernel_rfl) (by intro c x v a w h;cases x<;>exact h) rfl ?_;repeat(rw[bj];simp only[au,ay];go_big_quiet_step (fail);refine aO ?_)
    rw[bo,cu];simp only[be,bf];go_wp2_with fail;go_at_call 155;refine H5.out.mono ?_;rintro e x3 ⟨rfl,f3,g1,g2⟩;have HR:=ae g1;have HU:=ae g2;clear g1 g2 L2 c0 c1;go_wp2_with fail;go_ret;rw[hE.out.1,hE.out.2];have hdr:Turn f2 f2 x2 x2.drew:=Turn.of_below (aF _ x2).drew;exact⟨rfl,f3,HR.out,(Turn.of_below HB0.out).trans (HT.out.trans (hdr.trans HU.out))⟩
  ·have hok:S.ok=false:=by simpa using hok
   have hE:Hid (S.writeE dev i=14/\S.write dev i b=S.after):=by refine(?_:_/\_);unfold RS.writeE RS.write;rw[if_pos hh,if_neg (by simp[hok]),if_pos hh,if_neg (by simp[hok])];exact⟨rfl,rfl⟩
   rw[hok]at H3;clear hh hok;go_enter func64,ntmps64;go_wp2_with (with_reducible (rw[hW];clear hW));go_at_call 153;refine H1.out.mono ?_;rintro e w' ⟨rfl,hx⟩;obtain rfl:=hx.symm;clear hx;go_wp2_with fail;go_at_call 154;refine H3.out.mono ?_;rintro e x2 ⟨rfl,f2,g1,g2⟩;have HR:=ae g1;have HT:=ae g2;clear g1 g2;go_wp2_with fail;go_ret;rw[hE.out.1,hE.out.2];exact⟨rfl,f2,HR.out,(Turn.of_below HB0.out).trans HT.out⟩
 ·have hh:S.has dev i=false:=by simpa using hh
  rw[hh]at H1;have hE:Hid (S.writeE dev i=1/\S.write dev i b=S):=by refine(?_:_/\_);unfold RS.writeE RS.write;rw[if_neg (by simp[hh]),if_neg (by simp[hh])];exact⟨rfl,rfl⟩
  clear hh;go_enter func64,ntmps64;go_wp2_with (with_reducible (rw[hW];clear hW));go_at_call 153;refine H1.out.mono ?_;rintro e w' ⟨rfl,hx⟩;obtain rfl:=hx.symm;clear hx;go_wp2_with fail;go_ret;rw[hE.out.1,hE.out.2];exact⟨rfl,f,H.out,Turn.of_below HB0.out⟩
theorem bG.read (h:bG rq q0 q1 S w f) (dev i:Int):
  az aj 162 #[ao (some ⟨rq,0,none⟩),ab af dev,ab af i] w fun e w'=>e=ar (aQ #[al (S.read dev i).toArray,ab af (S.readE dev i)])/\ah w.heap.size w w':=by
 obtain⟨W,hW⟩:=w9nm (w.alloc (ap cx 51));have hB:ah w.heap.size w W:=by rw[←hW];exact(aF _ w).alloc (aJ _) _
 have K:Hid (W.heap[w.heap.size]? =some (ap cx 51 (0,0))/\w.heap.size<W.heap.size):=by rw[←hW];exact⟨bR w _,by simp⟩
 have H:=ae (h.beside hB);have H1:=ae (H.out.has dev i);have HB0:=ae hB;clear h hB;have SZ:Hid (∀x u,w9b W x->bx u->∃x',(aL 51 ⟨w.heap.size,0,none⟩ (al u.toArray)).run aj x=.ok () x'/\(aE 51 ⟨w.heap.size,0,none⟩).run aj x'=.ok (al u.toArray) x'/\ah w.heap.size w x'):=fun x u hx hu=>
  own_cell ((hx.block _ K.out.2).trans K.out.1) dj (HB0.out.trans (hx.mono HB0.out.size)) hu
 by_cases hh:S.has dev i=true
 ·have HH:=ae hh;rw[hh]at H1;cases hdw:S.down with
  | true=>
   have hE:Hid (S.readE dev i=14/\S.read dev i=a9 0):=by refine(?_:_/\_);unfold RS.readE RS.read;rw[if_pos hh,if_pos hdw,if_neg (by simp[hdw])];exact⟨rfl,rfl⟩
   have c3:W.cell? ⟨rq,3,none⟩=some (.bool true):=by rw[←hdw];exact H.out.cell 3
   obtain⟨x2,st,ld,hb2⟩:=SZ.out W (a9 0) (aF _ _) (fv 0);have st':(aL 51 ⟨w.heap.size,0,none⟩ (al cx)).run aj W=.ok () x2:=st;have HB2:=ae hb2;clear hh hdw st hb2;go_enter func162,ntmps162;go_wp2_with (with_reducible (rw[hW];clear hW));go_at_call 153;refine H1.out.mono ?_;rintro e w' ⟨rfl,hx⟩;obtain rfl:=hx.symm;clear hx;go_wp2_with fail;rw[hE.out.1,hE.out.2];exact bl (dl rfl rfl ld) rfl ⟨rfl,HB2.out⟩
  | false=>
   have hE:Hid (S.readE dev i=0/\S.read dev i=S.look dev i.toNat):=by refine(?_:_/\_);unfold RS.readE RS.read;rw[if_pos hh,if_neg (by simp[hdw]),if_pos ⟨hh,hdw⟩];exact⟨rfl,rfl⟩
   have c3:W.cell? ⟨rq,3,none⟩=some (.bool false):=by rw[←hdw];exact H.out.cell 3
   have c0:W.cell? ⟨rq,0,none⟩=some (ao (some ⟨q0,0,none⟩)):=H.out.cell 0;have c1:W.cell? ⟨rq,1,none⟩=some (ao (some ⟨q1,0,none⟩)):=H.out.cell 1;obtain⟨u,hu⟩:=w9nm (S.look dev i.toNat);have HU:Hid (bx u):=by rw[←hu];exact H.out.okLook HH.out
   have H3:Hid (az aj 73 #[ao (some ⟨jS q0 q1 dev.toNat,0,none⟩),ab af i] W fun e w'=>e=ar (al u.toArray)/\ah W.heap.size W w'):=by
    have:=H.out.readOf HH.out;rw[hu]at this;exact this
   rw[hu]at hE;have hdv:=(RS.has_lt hh).1;clear hh hdw hu;rcases hdv with rfl | rfl;all_goals
    go_enter func162,ntmps162;go_wp2_with (with_reducible (rw[hW];clear hW));go_at_call 153;refine H1.out.mono ?_;rintro e w' ⟨rfl,hx⟩;obtain rfl:=hx.symm;clear hx;go_wp2_with fail;go_at_call 73;refine H3.out.mono ?_;rintro e x2 ⟨rfl,hb⟩;obtain⟨x3,st,ld,hb2⟩:=SZ.out x2 u hb HU.out;have HB2:=ae hb2;clear hb hb2 c3 c0 c1;go_wp2_with fail;rw[hE.out.1,hE.out.2];exact bl (dl rfl rfl ld) rfl ⟨rfl,HB2.out⟩
 ·have hh:S.has dev i=false:=by simpa using hh
  rw[hh]at H1;have hE:Hid (S.readE dev i=1/\S.read dev i=a9 0):=by refine(?_:_/\_);unfold RS.readE RS.read;rw[if_neg (by simp[hh]),if_neg (by simp[hh])];exact⟨rfl,rfl⟩
  obtain⟨x2,st,ld,hb2⟩:=SZ.out W (a9 0) (aF _ _) (fv 0);have st':(aL 51 ⟨w.heap.size,0,none⟩ (al cx)).run aj W=.ok () x2:=st;have HB2:=ae hb2;clear hh st hb2;go_enter func162,ntmps162;go_wp2_with (with_reducible (rw[hW];clear hW));go_at_call 153;refine H1.out.mono ?_;rintro e w' ⟨rfl,hx⟩;obtain rfl:=hx.symm;clear hx;go_wp2_with fail;rw[hE.out.1,hE.out.2];exact bl (dl rfl rfl ld) rfl ⟨rfl,HB2.out⟩
end
end
section
attribute [-simp] isAgg51 zeroValue51
attribute [-go_sem] aE aL
attribute [local go_sem] bC bD dZ dQ
def iq (n:Nat) (frm count at0:Int):Bool:=decide (0<=frm/\2<=count/\count<=256/\frm<=n/\count<=n - frm/\0<=at0/\at0<count)
section
variable {rq q0 q1:Nat} {S:RS} {w:ak} {f:Nat->Prop}
theorem vS (h:bG rq q0 q1 S w f) (frm count at0:Int) (hn:S.n0<=4096):
  az aj 224 #[ao (some ⟨rq,0,none⟩),ab af frm,ab af count,ab af at0] w fun e w'=>e=ar (.bool (iq S.n0 frm count at0))/\w'=w:=by
 have c0:w.cell? ⟨rq,0,none⟩=some (ao (some ⟨q0,0,none⟩)):=h.cell 0;obtain⟨g,⟨ss,vb,sv,h1,rfl⟩,h2⟩:=h.d0;have c1:w.cell? ⟨q0,0,none⟩=some (ag (some ⟨ss,0,none⟩) S.n0 S.n0):=by rw[cl _ _ _ _ _ _ h1.head];rfl
 have HB:Hid (iq S.n0 frm count at0=decide (0<=frm/\2<=count/\count<=256/\frm<=S.n0/\count<=S.n0 - frm/\0<=at0/\at0<count)):=rfl;obtain⟨n,hN⟩:=w9nm S.n0;rw[hN]at c1 hn HB ⊢;clear h h1 h2 hN;go_enter func224,ntmps224;go_wp2_with fail;all_goals
  go_ret;refine⟨congrArg (fun b=>Ending.returned (Value.bool b)) ?_,rfl⟩;rw[HB.out];first
   | exact(decide_eq_false (by omega)).symm
   | (rw[decide_eq_decide];omega)
end
end
section
theorem vT {P:Program} {w w':ak} {ops:Array Oper} {rest:List Oper} {o:Oper} {a:Act} {Q:Exit->Act->ak->Prop} (t:aV) (l c:Operand)
  (ho:o.op=.makeSlice t l c) (hw:Region.wanted o (yielded ops a.tmps)=true) (vl vc v':am) (hl:a.eval l=vl) (hc:a.eval c=vc)
  (hrun:(Instr.makeSlice t vl vc).run P w=.ok v' w') (h:wpList P ops Q rest (a.put o.dst v') w'):wpList P ops Q (o::rest) a w:=by
 unfold wpList;rw[if_pos hw];refine aA ?_;unfold Oper.wp;simp only[execOp,ho,gR,hl,hc,hrun,ed,Sem.run_pure];exact h
theorem vU {P:Program} {w:ak} {ops:Array Oper} {rest:List Oper} {a:Act} {Q:Exit->Act->ak->Prop} {dst:Option Tmp} {t ty:aV} {l c:Operand} {pos:String} {after:Array Edge} {guard:Option (Nat×Bool)}
  (h:wpList P ops Q ({dst:=dst,op:=.makeSlice t l c,type:=ty,pos:=pos,after:=after,guard:=guard}::rest) a w):
  wpList P ops Q ({dst:=dst,op:=.makeSlice t l c,type:=ty,pos:=pos,after:=after,guard:=guard}::rest) a w:=h
theorem fJ {P:Program} {w w':ak} {ops:Array Oper} {rest:List Oper} {o:Oper} {a:Act} {Q:Exit->Act->ak->Prop} (t:aV) (parts:Array (Nat×Operand))
  (ho:o.op=.build t parts) (hw:Region.wanted o (yielded ops a.tmps)=true) (vs:List (Nat×am)) (v':am) (hs:(parts.toList.map fun(i,x)=>(i,a.eval x))=vs)
  (hrun:(cY t vs.toArray).run P w=.ok v' w') (h:wpList P ops Q rest (a.put o.dst v') w'):wpList P ops Q (o::rest) a w:=by
 unfold wpList;rw[if_pos hw];refine aA ?_;have hs':(parts.map fun(i,x)=>(i,a.eval x))=vs.toArray:=by
  apply Array.toList_inj.1;rw[Array.toList_map,hs]
 unfold Oper.wp;simp only[execOp,ho,gR,hs',hrun,ed,Sem.run_pure];exact h
theorem gU (k:aV) {P:Program} {w:ak} {ops:Array Oper} {rest:List Oper} {a:Act} {Q:Exit->Act->ak->Prop} {dst:Option Tmp} {ty:aV} {parts:Array (Nat×Operand)} {pos:String} {after:Array Edge} {guard:Option (Nat×Bool)}
  (h:wpList P ops Q ({dst:=dst,op:=.build k parts,type:=ty,pos:=pos,after:=after,guard:=guard}::rest) a w):
  wpList P ops Q ({dst:=dst,op:=.build k parts,type:=ty,pos:=pos,after:=after,guard:=guard}::rest) a w:=h
end
section
attribute [-simp] isAgg51 zeroValue51 isAgg205 zeroValue205 isAgg254 zeroValue254 isAgg232 zeroValue232
attribute [-go_sem] aE aL cZ
attribute [local go_sem] bC bD cV iR iQ kv rI rJ
def RS.Byt (S:RS):Prop:=∀i,i<S.n0->aP (S.rd i)/\(S.rd i).length=64/\(S.D0 i).look=an (S.rd i)
theorem Cy {rq q0 q1:Nat} {S:RS} {w:ak} {f:Nat->Prop} (h:bG rq q0 q1 S w f) (hby:S.Byt) (hup:S.down=false) {F C A:Nat} (hC2:2<=C) (hC:C<=256) (hF:F+C<=S.n0) (hA:A<C) (hn:S.n0<=4096) {seq:Int} (hs:cH seq):
  az aj 239 #[ao (some ⟨rq,0,none⟩),ab af (F:Int),ab af (C:Int),ab af (A:Int),ab aD seq] w fun e w'=>
   (∃v,e=ar (aQ #[v,ab af 0])/\(match io S.rd F C A seq with | none=>v=ag none 0 0 | some t=>0<t.length/\w'.ownsRow w.heap.size 232 49 v t.length (bI t).flatten))/\ah w.heap.size w w':=by
 have H:=ae h;have HBY:=ae hby;have HUP:=ae hup;obtain⟨res,hres⟩:=w9nm (io S.rd F C A seq);have HR:Hid (fc (iF S.rd F C A) seq C 0 []=res):=hres;have HSQ:=ae hs;have HFN:=ae hF;rw[hres];clear h hby hup hs hres hF;go_enter func239,ntmps239;go_wp2_with fail;go_loopw [12,13] (fun out i wr=>∃(k:Nat) (acc:List Img),k<=C/\i=ab af (k:Int)/\acc.length=k/\Hid (wr.ownsRow w.heap.size 232 49 out (bI acc).length (bI acc).flatten)/\w9h w wr/\Hid (fc (iF S.rd F C A) seq (C - k) k acc=res)) (fun _ i _=>C - (aW i).toNat)
 case atStart=>exact⟨0, [],bq _,rfl,rfl,ft _ _ _ _,aF _ _,HR.out⟩
 case round=>
  obtain⟨k,acc,hk,rfl,hacc,HO,HB,HG⟩:=hrel;have HAC:=ae hacc;clear hacc;by_cases hlt:k<C
  ·have g1:(k:Int)< (C:Int):=by omega
   have g2:decide ((k:Int)< (C:Int))=true:=by simpa using g1
   obtain⟨i,hi⟩:=w9nm (F+(A+k)%C);have hmod:((A:Int)+(k:Int))%(C:Int)=(((A+k)%C:Nat):Int):=by rw[Int.natCast_emod,Int.natCast_add]
   have hin:i<S.n0:=by have:=fO (A+k) (show 0<C by omega);have:=HFN.out;omega
   have hii:(F:Int)+((A:Int)+(k:Int))%(C:Int)=(i:Int):=by rw[hmod];omega
   have hi4:(i:Int)<4096:=by omega
   have HT:Hid (iF S.rd F C A k=S.rd i):=by show S.rd (F+(A+k)%C)=_;rw[hi]
   have hCz:¬((C:Int)=0):=by omega
   have hrb:=(HBY.out i hin);have HRD:Hid (∀x:ak,w9b w x->az aj 162 #[ao (some ⟨rq,0,none⟩),ab af 0,ab af (i:Int)] x fun e w'=>e=ar (aQ #[al (an (S.rd i)).toArray,ab af 0])/\ah x.heap.size x w'):=fun x hx=>by
    have hh:=(H.out.beside hx).read 0 (i:Int);have e1:S.read 0 (i:Int)=an (S.rd i):=by
     unfold RS.read;rw[if_pos ⟨RS.has0 hin,HUP.out⟩];unfold RS.look;rw[if_pos rfl];exact hrb.2.2
    have e2:S.readE 0 (i:Int)=0:=by
     unfold RS.readE;rw[if_pos (RS.has0 hin),if_neg (by rw[HUP.out];simp)]
    rw[e1,e2]at hh;exact hh
   have HIB:=ae hrb.1;have HIL:=ae hrb.2.1;clear hi hrb hmod;obtain⟨bs,hbs⟩:=w9nm (S.rd i);rw[hbs]at HT HRD HIB HIL;clear hbs;go_wp2_with fail;go_at_call 162;refine(HRD.out wr HB.out).mono ?_;rintro e x1 ⟨rfl,hb⟩;obtain⟨x2,ST2,hr2,hb2⟩:=ib x1 (dr HIL.out);have b2:w9b wr x2:=hb.trans (hb2.mono hb.size);have B2:=w9bt HB b2;have O2:=ae (gI HO.out b2);have L2:=hr2.blk (by rw[bi];exact HIL.out);clear hb hb2 b2 hr2 HRD;go_wp2_with fail;clear ST2 L2 hii hi4;go_at_call 163;refine(rD bs HIB.out HIL.out x2).mono ?_;rintro e x3 ⟨rfl,hb⟩;obtain⟨x4,ST4,hr4,hb4⟩:=nl x3 (cN bs) (nn HIB.out HIL.out).len;have b4:w9b x2 x4:=hb.trans (hb4.mono hb.size);have B4:=w9bt B2 b4;have O4:=ae (gI O2.out b4);have R4:=ae hr4;clear hb hb4 b4 hr4 O2;have hgo:=HG.out;rw[show C - k=(C - k - 1)+1 by omega]at hgo;unfold fc at hgo;rw[HT.out]at hgo;by_cases hd:dF bs=true
   ·have eS:cN bs=Sct.of bs/\fI bs=0:=by unfold cN fI;rw[if_pos hd,if_pos hd];exact⟨rfl,rfl⟩
    have hok:=jg HIB.out HIL.out;rw[eS.1]at R4 ST4;rw[eS.1,eS.2];obtain⟨P,hP⟩:=w9nm (Sct.of bs);rw[hP]at R4 ST4 hok hgo ⊢;have HPO:=ae hok;have c0:x4.cell? ⟨x3.heap.size,0,none⟩=some (ab aq P.mark):=R4.out.cell 0 _ rfl;have c1:x4.cell? ⟨x3.heap.size,1,none⟩=some (ab aD P.seq):=R4.out.cell 1 _ rfl;have c2:x4.cell? ⟨x3.heap.size,2,none⟩=some (ab af P.index):=R4.out.cell 2 _ rfl;have c3:=R4.out.bod hok.len;have EQ:=nh hok.len (show(bK 48 (0:Int)).length=48 by simp) x4;obtain⟨z,hz⟩:=w9nm (fg (an P.body) (an (bK 48 0)));rw[hz]at EQ;have hz2:z=true↔P.body=bK 48 0:=by
     rw[←hz,kF];exact⟨ni,fun e=>by rw[e]⟩
    have EQ2:(eG 10000 205 (al (an P.body).toArray) (al dR.toArray)).run aj x4=.ok z x4:=EQ;obtain⟨mk,hmk⟩:=w9nm P.mark;obtain⟨sq,hsq⟩:=w9nm P.seq;obtain⟨ix,hix⟩:=w9nm P.index;rw[hmk]at c0 hgo;rw[hsq]at c1 hgo;rw[hix]at c2 hgo;have EM:=ae hmk;have EX:=ae hix;rw[hd]at hgo;clear hok hz EQ hmk hsq hix hd eS hP;by_cases h1:sq=seq
    ·have g3:(sq==seq)=true:=by simpa using h1
     rw[if_neg (by simp[h1])]at hgo;by_cases h2:mk=67
     ·have g4:(mk==67)=true:=by simpa using h2
      rw[if_pos h2]at hgo;by_cases h3:k<1
      ·have g5:decide ((k:Int)<1)=true:=by simp;omega
       rw[if_pos (aA h3)]at hgo;subst hgo;clear h1 h2 h3 hz2;go_wp2_with fail;go_ret2;first | exact⟨rfl,B4.out⟩ | exact⟨⟨_,rfl,rfl⟩,B4.out⟩
      ·have g5:decide ((k:Int)<1)=false:=by simp;omega
       by_cases h4:ix=(k:Int)
       ·subst h4;cases z with
        | false=>
         have h5:P.body≠bK 48 0:=fun e=>by have:=hz2.2 e;cases this
         rw[if_pos (aC (aC h5))]at hgo;subst hgo;clear h1 h2 h3 hz2 h5;go_wp2_with fail;go_ret2;first | exact⟨rfl,B4.out⟩ | exact⟨⟨_,rfl,rfl⟩,B4.out⟩
        | true=>
         have h5:P.body=bK 48 0:=hz2.1 rfl;rw[if_neg (by rintro(h | h | h);exact h3 h;exact h rfl;exact h h5)]at hgo;subst hgo;have hpos:Hid (0<acc.length):=by show _<_;rw[HAC.out];omega
         have HO4:Hid (x4.ownsRow w.heap.size 232 49 u12 acc.length (bI acc).flatten):=by
          have:=O4.out;rw[jF]at this;exact this
         clear h1 h2 h3 hz2 h5;go_wp2_with fail;go_ret2;exact⟨⟨_,rfl,hpos.out,HO4.out⟩,B4.out⟩
       ·have g6:(ix==(k:Int))=false:=by simpa using h4
        have g7:¬ix=(k:Int):=h4;rw[if_pos (aC (aA h4))]at hgo;subst hgo;clear h1 h2 h3 h4 hz2;go_wp2_with fail;go_ret2;first | exact⟨rfl,B4.out⟩ | exact⟨⟨_,rfl,rfl⟩,B4.out⟩
     ·have g4:(mk==67)=false:=by simpa using h2
      rw[if_neg h2]at hgo;by_cases h3:mk=73
      ·have g5:(mk==73)=true:=by simpa using h3
       rw[if_neg (by simpa using h3)]at hgo;obtain⟨X,hX⟩:∃X:Img,X=⟨ix,P.body⟩:=⟨_,rfl⟩;rw[←hX]at hgo;have hXc:X.cells=Value.int af ix::an P.body:=by rw[hX];rfl
       have hXl:X.cells.length=49:=Img.cells_length (by rw[hX];exact HPO.out.len);have BI:Hid ((cY 232 #[(0,ab af ix),(1,al (an P.body).toArray)]).run aj x4=.ok (al X.cells.toArray) x4):=by
        show _=_;rw[hXc];exact vJ ix (an P.body) (by rw[bi];exact HPO.out.len) x4
       obtain⟨x5,hx5⟩:=w9nm (x4.alloc (ap X.cells.toArray 232));have SB:Hid ((cO 231 1 #[(0,al X.cells.toArray)]).run aj x4=.ok (ag (some ⟨x4.heap.size,0,none⟩) 1 1) x5):=by show _=_;rw[←hx5];exact vK x4 _ hXl
       have b5:ah x4.heap.size x4 x5:=by rw[←hx5];exact aR x4 _
       have B5:w9b w x5:=B4.out.trans (b5.mono B4.out.size);have O5:=gI O4.out b5;obtain⟨v6,x6,r6,o6,g6, -⟩:=vL w.heap.size x5 u12 (bI acc) X.cells x4.heap.size O5 hXl (Img.cells_one X) (dJ (t:= 232) (by rw[←hx5];exact bR x4 _)) (by rw[jF,HAC.out];omega) B5.size;have R6:=ae r6;have B6:w9h w x6:=B5.grown g6 B5.size (fun j e=>(O5.lt j e).1);have O6:Hid (x6.ownsRow w.heap.size 232 49 v6 (bI (acc++ [X])).length (bI (acc++ [X])).flatten):=by
        have e:bI (acc++ [X])=bI acc++ [X.cells]:=by unfold bI;rw[fp];rfl
        show World.ownsRow _ _ _ _ _ _ _;rw[e];exact o6
       have HLT:=ae hlt;have HGO:Hid (fc (iF S.rd F C A) seq (C - (k+1)) (k+1) (acc++ [X])=res):=by
        show _=_;rw[show C - (k+1)=C - k - 1 by omega];exact hgo
       clear h1 h2 h3 hz2 hX hXc hXl hx5 b5 B5 O5 r6 o6 g6 hgo EQ2;go_wp2_with (first | ((with_reducible refine gU 232 ?_);refine fJ _ _ rfl rfl [(0,ab af ix),(1,al (an P.body).toArray)] _ rfl BI.out ?_) | ((with_reducible refine gG ?_);refine dq _ _ _ rfl rfl [(0,al X.cells.toArray)] _ rfl SB.out ?_) | (at_builtin;refine wpList_append_run (.tmp 72) (.tmp 78) 231 rfl rfl _ _ _ rfl rfl R6.out ?_));go_roundw
       case rel=>exact⟨k+1,acc++ [X],HLT.out,by go_num,by rw[cX,HAC.out];rfl,O6,B6,HGO⟩
       case measure=>have:=HLT.out;simp[aW];omega
      ·have g5:(mk==73)=false:=by simpa using h3
       rw[if_pos (by simpa using h3)]at hgo;subst hgo;clear h1 h2 h3 hz2;go_wp2_with fail;go_ret2;first | exact⟨rfl,B4.out⟩ | exact⟨⟨_,rfl,rfl⟩,B4.out⟩
    ·have g3:(sq==seq)=false:=by simpa using h1
     rw[if_pos (by simp[h1])]at hgo;subst hgo;clear h1 hz2;go_wp2_with fail;go_ret2;first | exact⟨rfl,B4.out⟩ | exact⟨⟨_,rfl,rfl⟩,B4.out⟩
   ·have hd:dF bs=false:=by simpa using hd
    have eS:cN bs=kH/\fI bs=11:=by unfold cN fI;rw[hd];exact⟨rfl,rfl⟩
    rw[eS.1]at R4 ST4;rw[eS.1,eS.2];rw[if_pos (aA hd)]at hgo;subst hgo;clear hd eS;go_wp2_with fail;go_ret2;first | exact⟨rfl,B4.out⟩ | exact⟨⟨_,rfl,rfl⟩,B4.out⟩
  ·have g2:decide ((k:Int)< (C:Int))=false:=by simp;omega
   have hgo:=HG.out;rw[show C - k=0 by omega]at hgo;have hr:none=res:=hgo;subst hr;clear hgo;go_wp2_with fail;go_ret2;first | exact⟨rfl,HB.out⟩ | exact⟨⟨_,rfl,rfl⟩,HB.out⟩
end
section
def BB (c:List am):Prop:=∃bs,c=an bs/\aP bs/\bs.length=64
structure Sec.BB (s:Sec):Prop where
 c:Go.Proofs.YtbeeenembgplmaaGreat.BB s.c
 vs:∀v ∈ s.vs,Go.Proofs.YtbeeenembgplmaaGreat.BB v
theorem BB.fill {n:Int} (h:0<=n/\n<256):BB (a9 n):=⟨bK 64 n,by unfold a9 an;rw[List.map_replicate],fun j=>by
 rw[jL];split
 ·exact h
 ·decide,List.length_replicate⟩
theorem Sec.BB.look {s:Sec} (h:s.BB):Go.Proofs.YtbeeenembgplmaaGreat.BB s.look:=by
 unfold Sec.look;cases e:s.vs.getLast? with
 | none=>exact h.c
 | some v=>exact h.vs v (List.mem_of_getLast? e)
theorem Sec.BB.add {s:Sec} (h:s.BB) {b:List am} (hb:Go.Proofs.YtbeeenembgplmaaGreat.BB b):(s.add b).BB:=by
 unfold Sec.add;split
 ·exact⟨h.c,fun v hv=>by
   rcases List.mem_or_eq_of_mem_set hv with h1 | h1
   ·exact h.vs v h1
   ·exact h1▸hb⟩
 ·exact⟨h.c,fun v hv=>by
   rcases gW.1 hv with h1 | h1
   ·exact h.vs v h1
   ·rw[dO]at h1;exact h1▸hb⟩
theorem Sec.BB.settle {s:Sec} (h:s.BB) (k:Nat):(s.settle k).BB:=by
 unfold Sec.settle;refine⟨?_,fun v hv=>by cases hv⟩;show Go.Proofs.YtbeeenembgplmaaGreat.BB (if k=0 then s.c else s.vs[k - 1]?.getD s.c);split
 ·exact h.c
 ·cases e:s.vs[k - 1]? with
  | none=>exact h.c
  | some v=>exact h.vs v (dI e)
def RS.BB (S:RS):Prop:=∀i,(S.D0 i).BB
section
variable {S:RS}
theorem rO (n0 n1:Nat):(gq n0 n1).BB:=fun i=>⟨BB.fill (by omega),fun v hv=>by cases hv⟩
theorem RS.after_bb (h:S.BB):S.after.BB:=fun i=>by rw[S.after_same.2.2.1];exact h i
theorem RS.BB.put (h:S.BB) (dev:Int) (i:Nat) {b:List am} (hb:Go.Proofs.YtbeeenembgplmaaGreat.BB b):(S.put dev i b).BB:=by
 unfold RS.put;split
 ·intro j;show(dD S.D0 i ((S.D0 i).add b) j).BB;unfold dD;split
  ·exact(h i).add hb
  ·exact h j
 ·exact h
theorem RS.BB.fl (h:S.BB) (dev:Int):(S.fl dev).BB:=by
 unfold RS.fl;split
 ·intro j;show(dA S.D0 S.n0 j).BB;unfold dA;split
  ·exact⟨(h j).look,fun v hv=>by cases hv⟩
  ·exact h j
 ·exact h
theorem RS.BB.write (h:S.BB) (dev i:Int) {b:List am} (hb:Go.Proofs.YtbeeenembgplmaaGreat.BB b):(S.write dev i b).BB:=by
 unfold RS.write;split
 ·split
  ·exact(RS.after_bb h).put dev i.toNat hb
  ·exact RS.after_bb h
 ·exact h
theorem RS.BB.flush (h:S.BB) (dev:Int):(S.flush dev).BB:=by
 unfold RS.flush;split
 ·split
  ·exact(RS.after_bb h).fl dev
  ·exact RS.after_bb h
 ·exact h
theorem RS.BB.wrs:∀(l:List (Nat×List am)) {S:RS},S.BB->(∀x ∈ l,Go.Proofs.YtbeeenembgplmaaGreat.BB x.2)->(S.wrs l).1.BB
 | [],S,h,_=>h
 | (i,b)::l,S,h,hl=>by
  have h1:=h.write 0 (i:Int) (hl (i,b) eV);unfold RS.wrs;split
  ·exact RS.BB.wrs l h1 fun x hx=>hl x (fG _ hx)
  ·exact h1
theorem vV {frm count at0:Nat} {seq:Int} {t:List Img} (hs:cH seq) (hok:∀x ∈ t,x.Ok):∀x ∈ bQ frm count at0 seq t,BB x.2:=by
 intro x hx;unfold bQ at hx;obtain⟨y,hy,rfl⟩:=dc.1 hx;have hm:y.1 ∈ bu seq t:=by
  have:=List.mem_zipIdx hy;simp only[dC]at this;rw[this.2.2];exact List.getElem_mem _
 unfold bu at hm;rcases gW.1 hm with h | h
 ·obtain⟨z,hz,e⟩:=dc.1 h;exact⟨y.1,rfl,e▸Sct.bytes_bytes (jz hs (hok z hz)),e▸Sct.bytes_length (jz hs (hok z hz))⟩
 ·rw[dO]at h;exact⟨y.1,rfl,h▸Sct.bytes_bytes (jQ hs),h▸Sct.bytes_length (jQ hs)⟩
theorem RS.BB.crash (h:S.BB) (b0 b1:List Int):(S.crash b0 b1).BB:=by
 intro j;show(cR S.D0 (ip S.D0 b0) (bF S.D0 S.n0) j).BB;unfold cR;split
 ·exact(h j).settle _
 ·exact h j
theorem RS.BB.byt (h:S.BB):S.Byt:=fun i _=>by
 obtain⟨bs,e,h1,h2⟩:=(h i).look;have:S.rd i=bs:=by unfold RS.rd;rw[e,jT]
 rw[this];exact⟨h1,h2,e⟩
end
end
section
abbrev cA:=List (Nat×List am)
def RS.bat (S:RS):List cA->RS×Int
 | []=>(S,0)
 | l::ls=>if(S.wrs l).2=false then((S.wrs l).1,14)else if(S.wrs l).1.flushE 0≠0 then((S.wrs l).1.flush 0,14)else((S.wrs l).1.flush 0).bat ls
theorem RS.app_bat (S:RS) (frm count at0:Nat) (seq:Int) (t:List Img):S.app frm count at0 seq t=S.bat [(bQ frm count at0 seq t).take t.length,(bQ frm count at0 seq t).drop t.length]:=by
 unfold RS.app;simp only[RS.bat]
theorem RS.bat_cons (S:RS) (l:cA) (ls:List cA):S.bat (l::ls)=if(S.wrs l).2=false then((S.wrs l).1,14)else if(S.wrs l).1.flushE 0≠0 then((S.wrs l).1.flush 0,14)else((S.wrs l).1.flush 0).bat ls:=rfl
theorem RS.bat_append:∀(ls ks:List cA) (S:RS),S.bat (ls++ks)=if(S.bat ls).2=0 then(S.bat ls).1.bat ks else S.bat ls
 | [],ks,S=>by simp[RS.bat]
 | l::ls,ks,S=>by
  rw[dX,RS.bat_cons,RS.bat_cons];by_cases h1:(S.wrs l).2=false
  ·simp[h1]
  ·rw[if_neg h1,if_neg h1];by_cases h2:(S.wrs l).1.flushE 0≠0
   ·rw[if_pos h2,if_pos h2];simp
   ·rw[if_neg h2,if_neg h2];exact RS.bat_append ls ks _
def RS.Dry (S:RS):Prop:=∀i,i<S.n0->(S.D0 i).vs= []
structure FullW (S T:RS) (W:cA):Prop where
 n0:T.n0=S.n0
 n1:T.n1=S.n1
 dry:T.Dry
 bb:T.BB
 else_:∀i,i<S.n0->i ∉ W.map (·.1)->T.rd i=S.rd i
 at_:∀i b,(i,b)∈ W->T.rd i=byt b
structure PartW (S T:RS) (W:cA):Prop where
 n0:T.n0=S.n0
 n1:T.n1=S.n1
 dry:T.Dry
 bb:T.BB
 or_:∀i,i<S.n0->T.rd i=S.rd i\/∃b,(i,b)∈ W/\T.rd i=byt b
inductive AllW:RS->List cA->RS->Prop
 | nil {S T:RS}:FullW S T []->AllW S [] T
 | step {S U T:RS} {l:cA} {ls:List cA}:FullW S U l->AllW U ls T->AllW S (l::ls) T
inductive GoesW:RS->List cA->RS->Prop
 | nil {S T:RS}:FullW S T []->GoesW S [] T
 | part {S T:RS} {l:cA} {ls:List cA}:PartW S T l->GoesW S (l::ls) T
 | step {S U T:RS} {l:cA} {ls:List cA}:FullW S U l->GoesW U ls T->GoesW S (l::ls) T
theorem FullW.else' {S T:RS} {W:cA} (h:FullW S T W) {i:Nat} (hi:i<S.n0) (hn:∀b,(i,b)∉ W):T.rd i=S.rd i:=h.else_ i hi fun hm=>by
 obtain⟨x,hx,rfl⟩:=dc.1 hm;exact hn x.2 hx
theorem PartW.one {S T:RS} {i:Nat} {b:List am} (h:PartW S T [(i,b)]) (hi:i<S.n0):FullW S T []\/FullW S T [(i,b)]:=by
 rcases h.or_ i hi with h1 | ⟨c,hc,h1⟩
 ·refine aA ⟨h.n0,h.n1,h.dry,h.bb,fun j hj _=> ?_,fun j c hc=>by cases hc⟩;rcases h.or_ j hj with h2 | ⟨c,hc,h2⟩
  ·exact h2
  ·obtain⟨rfl,rfl⟩:j=i/\c=b:=by simpa using hc
   exact h1
 ·obtain rfl:c=b:=by simpa using hc
  refine aC ⟨h.n0,h.n1,h.dry,h.bb,fun j hj hn=> ?_,fun j d hd=> ?_⟩
  ·rcases h.or_ j hj with h2 | ⟨d,hd,h2⟩
   ·exact h2
   ·obtain⟨rfl,rfl⟩:j=i/\d=c:=by simpa using hd
    simp at hn
  ·obtain⟨rfl,rfl⟩:j=i/\d=c:=by simpa using hd
   exact h1
theorem Sec.add_may {s:Sec} {b c:List am} (h:(s.add b).may c):s.may c\/c=b:=by
 unfold Sec.add at h;split at h
 ·rcases h with h | h
  ·exact aA (aA h)
  ·rcases List.mem_or_eq_of_mem_set h with h | h
   ·exact aA (aC h)
   ·exact aC h
 ·rcases h with h | h
  ·exact aA (aA h)
  ·rcases gW.1 h with h | h
   ·exact aA (aC h)
   ·exact aC (dO.1 h)
theorem vW {i:Nat} {c:List am}:∀(l:cA) (D:Nat->Sec),(jE D l i).may c->(D i).may c\/∃b,(i,b)∈ l/\c=b
 | [],D,h=>aA h
 | (j,b)::l,D,h=>by
  rcases vW l _ h with h | ⟨d,hd,e⟩
  ·by_cases hj:i=j
   ·subst hj;rw[en]at h;rcases Sec.add_may h with h | h
    ·exact aA h
    ·exact aC ⟨b,eV,h⟩
   ·rw[ef _ _ hj]at h;exact aA h
  ·exact aC ⟨d,fG _ hd,e⟩
theorem Cz {c d:List am} (h:Sec.may ⟨d, []⟩ c):c=d:=by
 rcases h with h | h
 ·exact h
 ·simp at h
theorem rQ {S:RS} {i:Nat} {c:List am} (h:S.D0 i=⟨c, []⟩):S.rd i=byt c:=by
 unfold RS.rd;rw[h]
 rfl
theorem CA {S:RS} {D:Nat->Sec} {l:cA} {m:Nat} (hS:S.Dry) (hD:D=jE S.D0 (l.take m)) {i:Nat} {c:List am} (hi:i<S.n0) (h:(D i).may c):c=(S.D0 i).look\/∃b,(i,b)∈ l/\c=b:=by
 rw[hD]at h;rcases vW _ _ h with h | ⟨b,hb,e⟩
 ·rw[Sec.eta (hS i hi)]at h;exact aA (Cz h)
 ·exact aC ⟨b,gX hb,e⟩
theorem RS.crash_bb {S:RS} (h:S.BB) (b0 b1:List Int):(S.crash b0 b1).BB:=h.crash b0 b1
theorem RS.crash_part {S T:RS} {l:cA} {m:Nat} (hS:S.Dry) (hb:T.BB) (hn0:T.n0=S.n0) (hn1:T.n1=S.n1) (hD:T.D0=jE S.D0 (l.take m)) (b0 b1:List Int):PartW S (T.crash b0 b1) l:=by
 have hcr:=fun i (hi:i<S.n0)=>Bu T b0 b1 (i:=i) (by rw[hn0];exact hi);refine⟨hn0,hn1,fun i hi=> ?_,RS.crash_bb hb b0 b1,fun i hi=> ?_⟩
 ·obtain⟨c,e,_⟩:=hcr i (by have:(T.crash b0 b1).n0=S.n0:=hn0;omega);rw[e]
 ·obtain⟨c,e,h⟩:=hcr i hi;rw[rQ e];rcases CA hS hD hi h with h | ⟨b,hb,h⟩
  ·left;rw[h];rfl
  ·exact aC ⟨b,hb,by rw[h]⟩
structure BatOk (S:RS) (l:cA):Prop where
 lt:∀x ∈ l,x.1<S.n0
 nodup:(l.map (·.1)).Nodup
 bb:∀x ∈ l,Go.Proofs.YtbeeenembgplmaaGreat.BB x.2
theorem RS.flush_full {S T:RS} {l:cA} (hl:BatOk S l) (hS:S.Dry) (hb:T.BB) (hn0:T.n0=S.n0) (hn1:T.n1=S.n1) (hD:T.D0=dA (jE S.D0 l) S.n0):FullW S T l:=by
 have hat:∀i,i<S.n0->T.D0 i=⟨(jE S.D0 l i).look, []⟩:=fun i hi=>by rw[hD];unfold dA;rw[if_pos hi]
 refine⟨hn0,hn1,fun i hi=>by rw[hat i (by omega)],hb,fun i hi hn=> ?_,fun i b hib=> ?_⟩
 ·rw[rQ (hat i hi),oC _ _ hn];rfl
 ·have hi:=hl.lt _ hib;rw[rQ (hat i hi),rj _ _ hl.nodup hib,Sec.look_add (by rw[hS i hi];exact bq _)]
theorem BatOk.n0 {S T:RS} {l:cA} (h:BatOk S l) (e:T.n0=S.n0):BatOk T l:=⟨fun x hx=>by rw[e];exact h.lt x hx,h.nodup,h.bb⟩
theorem RS.dry_full {S T:RS} (hb:T.BB) (hn0:T.n0=S.n0) (hn1:T.n1=S.n1) (hd:T.Dry) (hD:∀i,i<S.n0->T.rd i=S.rd i):FullW S T []:=⟨hn0,hn1,hd,hb,fun i hi _=>hD i hi,fun i b h=>by cases h⟩
theorem RS.crash_dry {S:RS} (hS:S.Dry) (hb:S.BB) (b0 b1:List Int):FullW S (S.crash b0 b1) []:=by
 have h:=RS.crash_part (S:=S) (T:=S) (l:= []) (m:=0) hS hb rfl rfl rfl b0 b1;exact RS.dry_full h.bb rfl rfl h.dry fun i hi=>by
  rcases h.or_ i hi with h | ⟨b,hb,_⟩
  ·exact h
  ·cases hb
theorem RS.bat_spec:∀(ls:List cA) (S:RS),S.Dry->S.BB->(∀l ∈ ls,BatOk S l)->∃T e,S.bat ls=(T,e)/\T.n0=S.n0/\T.n1=S.n1/\T.BB/\((e=0/\AllW S ls T)\/(e=14/\∀b0 b1,GoesW S ls (T.crash b0 b1)))
 | [],S,hS,hb,_=>⟨S,0,rfl,rfl,rfl,hb,aA ⟨rfl,.nil (RS.dry_full hb rfl rfl hS fun _ _=>rfl)⟩⟩
 | l::ls,S,hS,hb,hl=>by
  have hl0:=hl l eV;obtain⟨s1,m,m1,m2,m3⟩:=RS.wrs_spec l S hl0.lt;have hb1:=RS.BB.wrs l hb hl0.bb;rw[RS.bat_cons];generalize hR:S.wrs l=R at *;obtain⟨U,z⟩:=R
  dsimp only at s1 m2 m3 hb1 ⊢
  cases z with
  | false=>
   rw[if_pos rfl];exact⟨U,14,rfl,s1.n0,s1.n1,hb1,aC ⟨rfl,fun b0 b1=>.part (RS.crash_part hS hb1 s1.n0 s1.n1 m2 b0 b1)⟩⟩
  | true=>
   rw[if_neg (by simp)];have hm:=m3 rfl;rw[hm,List.take_length]at m2;obtain⟨s2,hf⟩:=RS.flush0 U;rcases hf with⟨_,h2,h3⟩ | ⟨_,h2,h3⟩
   ·rw[if_neg (by omega)];have hF:FullW S (U.flush 0) l:=RS.flush_full hl0 hS (hb1.flush 0) (s2.n0.trans s1.n0) (s2.n1.trans s1.n1) (by rw[h3,m2,s1.n0]);obtain⟨T,e,hT,t0,t1,tb,hc⟩:=RS.bat_spec ls (U.flush 0) hF.dry hF.bb (fun k hk=>(hl k (fG _ hk)).n0 hF.n0);refine⟨T,e,hT,t0.trans hF.n0,t1.trans hF.n1,tb, ?_⟩;rcases hc with⟨he,hA⟩ | ⟨he,hG⟩
    ·exact aA ⟨he,.step hF hA⟩
    ·exact aC ⟨he,fun b0 b1=>.step hF (hG b0 b1)⟩
   ·rw[if_pos (by omega)];refine⟨U.flush 0,14,rfl,s2.n0.trans s1.n0,s2.n1.trans s1.n1,hb1.flush 0,aC ⟨rfl,fun b0 b1=>.part (RS.crash_part (m:=l.length) hS (hb1.flush 0) (s2.n0.trans s1.n0) (s2.n1.trans s1.n1) (by rw[h3,m2,List.take_length]) b0 b1)⟩⟩
structure Geo where
 b:Int
 s:Int
 y:Int
 a:Int
 r:Int
def Geo.v (g:Geo):Array am:=#[ab af g.b,ab af g.s,ab af g.y,ab af g.a,ab af g.r]
def Geo.shape (g:Geo):Prop:=1<=g.b/\g.b<=64/\1<=g.s/\g.s<=8/\1<=g.y/\g.y<=4/\0<=g.a/\g.a<=200
def Geo.slots (g:Geo):Int:=g.s*g.y
def Geo.bts (g:Geo):Int:=10+g.s*g.y+g.b+8*(4+(g.b+7) / 8+g.b)
def Geo.pgs (g:Geo):Int:=cnt g.bts
def Geo.good (g:Geo):Prop:=g.shape/\g.pgs+2<=g.r/\g.r<=256
instance (g:Geo):Decidable g.shape:=by unfold Geo.shape;infer_instance
instance (g:Geo):Decidable g.good:=by unfold Geo.good;infer_instance
def Geo.oB (g:Geo):Int:=if g.good then g.bts else 0
def Geo.oP (g:Geo):Int:=if g.good then g.pgs else 0
def Geo.oR (g:Geo):Int:=if g.good then 2 else 0
def Geo.oH (g:Geo):Int:=if g.good then 2+g.r else 0
def Geo.oF (g:Geo):Int:=if g.good then 2+g.r+g.pgs+g.slots else 0
def Geo.oW (g:Geo):Int:=if g.good then g.b+g.a else 0
theorem Geo.bounds {g:Geo} (h:g.shape):1<=g.slots/\g.slots<=32/\52<=g.bts/\g.bts<=714/\2<=g.pgs/\g.pgs<=15:=by
 obtain⟨h1,h2,h3,h4,h5,h6,h7,h8⟩:=h;have m1:1<=g.s*g.y:=by have:=Int.mul_le_mul h3 h5 (by omega) (by omega);simpa using this
 have m2:g.s*g.y<=32:=by have:=Int.mul_le_mul h4 h6 (by omega) (by omega);simpa using this
 have b1:52<=g.bts:=by unfold Geo.bts;omega
 have b2:g.bts<=714:=by unfold Geo.bts;omega
 refine⟨m1,m2,b1,b2, ?_, ?_⟩<;>(unfold Geo.pgs cnt;rw[if_neg (by omega)];omega)
theorem CB (w:ak) (v:Array am) (t:aV) {x:ak} (hx:ah (w.alloc (ap v t)).heap.size (w.alloc (ap v t)) x) (j:Nat):x.cell? ⟨w.heap.size,j,none⟩=v[j]? :=
 cl x _ j _ _ _ ((hx.block _ (by simp)).trans (bR w _))
theorem CC (x:ak) (o:Obj):ah x.heap.size x (x.alloc o):=(aF _ x).alloc (aJ _) _
section
theorem CD (g:Geo) (w:ak):az aj 111 #[al g.v] w fun e w'=>e=ar (.bool (decide g.shape))/\ah w.heap.size w w':=by
 have hB:=CC w (ap g.v 23);have hc:=CB w g.v 23 (aF _ _);have HS:Hid (decide g.shape=decide (1<=g.b/\g.b<=64/\1<=g.s/\g.s<=8/\1<=g.y/\g.y<=4/\0<=g.a/\g.a<=200)):=rfl;obtain⟨W,hW⟩:=w9nm (w.alloc (ap g.v 23));rw[hW]at hB hc;have c0:=hc 0;have c1:=hc 1;have c2:=hc 2;have c3:=hc 3;have HB:=ae hB;clear hc hB;obtain⟨b,s,y,a,r⟩:=g;simp only[Geo.v]at c0 c1 c2 c3 hW ⊢;simp only[List.getElem?_toArray,List.getElem?_cons_zero,kC]at c0 c1 c2 c3;go_enter func111,ntmps111;go_wp2_with fail;all_goals
  go_ret;refine⟨congrArg (fun x=>Ending.returned (Value.bool x)) ?_,HB.out⟩;rw[HS.out];first
   | exact(decide_eq_false (by omega)).symm
   | exact(decide_eq_true (by omega)).symm
   | (rw[decide_eq_decide];omega)
end
end
section
def fU (g:Geo) (a:Nat) (q:Int):List Int:= [82,86,84,49]++(aH g.b 2++(aH g.s 1++(aH g.y 1++(aH g.a 2++(aH g.r 2++(aH a 2++(aH q 4++bK 30 0)))))))
def dt (gen:Int) (g:Geo) (a:Nat) (q:Int):Sct:=⟨83,gen,0,fU g a q⟩
def de (i:Nat) (body:List Int):Sct:=⟨72,0,i,body⟩
def fV (x:List Int):Geo:=⟨cy ((x.drop 4).take 2),x[6]?.getD 0,x[7]?.getD 0,cy ((x.drop 8).take 2),cy ((x.drop 10).take 2)⟩
def fA (x:List Int):Int:=cy ((x.drop 12).take 2)
def fW (x:List Int):Int:=cy ((x.drop 14).take 4)
structure Sup where
 gen:Int
 g:Geo
 a:Nat
 q:Int
def jW (n0 n1:Nat) (bs:List Int):Prop:=
 dF bs=true/\(Sct.of bs).mark=83/\(Sct.of bs).index=0/\(fV (Sct.of bs).body).good/\(fV (Sct.of bs).body).oF<=n0/\(fV (Sct.of bs).body).oW<=n1/\
  fA (Sct.of bs).body< (fV (Sct.of bs).body).r/\(Sct.of bs).body=fU (fV (Sct.of bs).body) (fA (Sct.of bs).body).toNat (fW (Sct.of bs).body)
instance (n0 n1:Nat) (bs:List Int):Decidable (jW n0 n1 bs):=by unfold jW;infer_instance
def eo (n0 n1:Nat) (bs:List Int):Option Sup:=if jW n0 n1 bs then some ⟨(Sct.of bs).seq,fV (Sct.of bs).body,(fA (Sct.of bs).body).toNat,fW (Sct.of bs).body⟩else none
theorem CE (g:Geo) (a:Nat) (q:Int):(fU g a q).length=48:=by simp[fU,bE]
theorem CF (g:Geo) (a:Nat) (q:Int):aP (fU g a q):=
 aP.app (by intro j;match j with | 0=>decide | 1=>decide | 2=>decide | 3=>decide | j+4=>simp) ((il _ _).app ((il _ _).app ((il _ _).app ((il _ _).app ((il _ _).app ((il _ _).app ((il _ _).app (mm 30))))))))
section
variable (g:Geo) (a:Nat) (q:Int)
theorem CG:((fU g a q).drop 4).take 2=aH g.b 2:=rfl
theorem CH:((fU g a q).drop 8).take 2=aH g.a 2:=rfl
theorem CI:((fU g a q).drop 10).take 2=aH g.r 2:=rfl
theorem CJ:((fU g a q).drop 12).take 2=aH a 2:=rfl
theorem CK:((fU g a q).drop 14).take 4=aH q 4:=rfl
theorem CM:(fU g a q)[6]?.getD 0=g.s%256:=by
 show(if(0:Nat)<8 then g.s / 2^(8*0)%256 else 0)=_;simp
theorem CN:(fU g a q)[7]?.getD 0=g.y%256:=by
 show(if(0:Nat)<8 then g.y / 2^(8*0)%256 else 0)=_;simp
end
theorem pf {n:Int} (h:0<=n/\n<65536):cy (aH n 2)=n:=by
 rw[nV n h.1 (by omega) 2,if_pos (by decide)];omega
theorem CO {n:Int} (h:cH n):cy (aH n 4)=n:=by
 rw[nV n h.1 (by have:=h.2;omega) 4,if_pos (by decide)];have:=h.1;have:=h.2;omega
theorem vX {g:Geo} (hg:g.good) {a:Nat} (ha:(a:Int)<g.r) {q:Int} (hq:cH q):fV (fU g a q)=g/\fA (fU g a q)=a/\fW (fU g a q)=q:=by
 obtain⟨⟨h1,h2,h3,h4,h5,h6,h7,h8⟩,h9,h10⟩:=hg;have hr:0<=g.r:=by
  have:=(Geo.bounds ⟨h1,h2,h3,h4,h5,h6,h7,h8⟩).2.2.2.2.1;omega
 refine⟨?_, ?_, ?_⟩
 ·unfold fV;rw[CG,CH,CI,CM,CN,pf (by omega),pf (by omega),pf (by omega)];have e1:g.s%256=g.s:=by omega
  have e2:g.y%256=g.y:=by omega
  rw[e1,e2]
 ·unfold fA;rw[CJ,pf (by omega)]
 ·unfold fW;rw[CK,CO hq]
theorem kw {gen:Int} (hn:cH gen) (g:Geo) (a:Nat) (q:Int):(dt gen g a q).Ok:=⟨by show(0:Int)<=83/\(83:Int)<256;omega,hn,CE g a q,CF g a q⟩
theorem rR (gen:Int) (g:Geo) (a:Nat) (q:Int):(dt gen g a q).fits=true:=decide_eq_true ⟨by show(83:Int)≠0;omega,by show(0:Int)<=0/\(0:Int)<=65535;omega⟩
theorem jX {i:Nat} {body:List Int} (h1:body.length=48) (h2:aP body):(de i body).Ok:=⟨by show(0:Int)<=72/\(72:Int)<256;omega,by show(0:Int)<=0/\(0:Int)<4294967296;omega,h1,h2⟩
theorem pi {i:Nat} (hi:i<=65535) (body:List Int):(de i body).fits=true:=decide_eq_true ⟨by show(72:Int)≠0;omega,by show(0:Int)<=i/\(i:Int)<=65535;omega⟩
theorem vY {n0 n1:Nat} {gen:Int} (hn:cH gen) {g:Geo} (hg:g.good) (h0:g.oF<=n0) (h1:g.oW<=n1) {a:Nat} (ha:(a:Int)<g.r) {q:Int} (hq:cH q):
  eo n0 n1 (dt gen g a q).bytes=some ⟨gen,g,a,q⟩:=by
 obtain⟨d1,d2⟩:=kI (kw hn g a q) (rR gen g a q);obtain⟨e1,e2,e3⟩:=vX hg ha hq;have eb:(dt gen g a q).body=fU g a q:=rfl;have hp:jW n0 n1 (dt gen g a q).bytes:=by
  unfold jW;rw[d2,eb,e1,e2,e3];exact⟨d1,rfl,rfl,hg,h0,h1,ha,rfl⟩
 unfold eo;rw[if_pos hp,d2,eb,e1,e2,e3]
 rfl
def newer (x y:Option Sup):Option (Nat×Sup):=
 match y with
 | none=>x.map fun x=>(0,x)
 | some y=>match x with
  | none=>some (1,y)
  | some x=>if x.gen<y.gen then some (1,y)else some (0,x)
def eP (bs:List Int) (i:Nat):Prop:=dF bs=true/\(Sct.of bs).mark=72/\(Sct.of bs).seq=0/\(Sct.of bs).index=i
instance (bs:List Int) (i:Nat):Decidable (eP bs i):=by unfold eP;infer_instance
theorem CP {i:Nat} (hi:i<=65535) {body:List Int} (h1:body.length=48) (h2:aP body):eP (de i body).bytes i/\(Sct.of (de i body).bytes).body=body:=by
 obtain⟨d1,d2⟩:=kI (jX (i:=i) h1 h2) (pi hi body);unfold eP;rw[d2];exact⟨⟨d1,rfl,rfl,rfl⟩,rfl⟩
def cD (now:List (List Int)) (x:Img):List (List Int):=if x.index<now.length then now.set x.index.toNat x.body else now
def kP (now:List (List Int)) (t:List Img):List (List Int):=t.foldl cD now
def dV (now:List (List Int)) (ts:List (List Img)):List (List Int):=ts.foldl kP now
def cE (ts:List (List Img)):Nat:=(ts.map fun t=>t.length+1).sum
def aM (bs:List Int):List (List Int):=(dm (cB bs)).map (bM bs)
def jY (was now:List (List Int)):List Img:=((dm now.length).filter fun i=>decide (now[i]? ≠was[i]?)).map fun(i:Nat)=>(⟨(i:Int),now[i]?.getD []⟩:Img)
structure MS where
 g:Geo
 b:List Int
 home:List (List Int)
 gen:Int
 sup:Nat
 at0:Nat
 seq:Int
 used:Nat
def Geo.C (g:Geo):Nat:=g.r.toNat
def Geo.P (g:Geo):Nat:=g.pgs.toNat
def Geo.H (g:Geo):Nat:=2+g.C
def RS.supAt (S:RS) (i:Nat):Option Sup:=if i<S.n0 then eo S.n0 S.n1 (S.rd i)else none
def RS.homes (S:RS) (h n:Nat):List (List Int):=(dm n).map fun i=>(Sct.of (S.rd (h+i))).body
def RS.opn (S:RS):Option MS:=
 match newer (S.supAt 0) (S.supAt 1)with
 | none=>none
 | some (k,x)=>
  if∀i,i<x.g.P->eP (S.rd (x.g.H+i)) i then
   some {g:=x.g,b:=((dV (S.homes x.g.H x.g.P) (cC S.rd 2 x.g.C x.a x.q).1).flatten).take x.g.bts.toNat,home:=S.homes x.g.H x.g.P,gen:=x.gen,sup:=k,at0:=(cC S.rd 2 x.g.C x.a x.q).2.1,seq:=(cC S.rd 2 x.g.C x.a x.q).2.2,used:=cE (cC S.rd 2 x.g.C x.a x.q).1}
  else none
def MS.room (M:MS):Int:=M.g.r - M.used
def MS.dif (M:MS) (b:List Int):List Img:=jY (aM M.b) (aM b)
def MS.homW (M:MS):cA:=((dm M.g.P).filter fun i=>decide ((aM M.b)[i]? ≠M.home[i]?)).map fun i=>(M.g.H+i,an (de i (bM M.b i)).bytes)
def MS.supW (M:MS):cA:= [(1 - M.sup,an (dt (M.gen+1) M.g M.at0 M.seq).bytes)]
def MS.ckpt (M:MS):MS:={M with home:=aM M.b,gen:=M.gen+1,sup:=1 - M.sup,used:=0}
def MS.full (M:MS) (b:List Int):Prop:=M.room< (M.dif b).length+1
instance (M:MS) (b:List Int):Decidable (M.full b):=by unfold MS.full;infer_instance
def MS.appW (M:MS) (b:List Int):List cA:= [(bQ 2 M.g.C M.at0 M.seq (M.dif b)).take (M.dif b).length,(bQ 2 M.g.C M.at0 M.seq (M.dif b)).drop (M.dif b).length]
def MS.bats (M:MS) (b:List Int):List cA:=if M.dif b= []then []else(if M.full b then [M.homW,M.supW]else [])++M.appW b
def MS.app (M:MS) (b:List Int):MS:={M with b:=b,at0:=(M.at0+(M.dif b).length+1)%M.g.C,seq:=M.seq+1,used:=M.used+(M.dif b).length+1}
def MS.next (M:MS) (b:List Int):MS:=if M.dif b= []then M else if M.full b then M.ckpt.app b else M.app b
def RS.cmt (S:RS) (M:MS) (b:List Int):RS×Int:=S.bat (M.bats b)
def co (g:Geo) (b:List Int):List cA:= [[(0,a9 0),(1,a9 0)],((dm g.C).map fun i=>(2+i,a9 0))++((dm g.P).map fun i=>(g.H+i,an (de i (bM b i)).bytes)), [(0,an (dt 1 g 0 1).bytes)]]
def MS.new (g:Geo) (b:List Int):MS:={g:=g,b:=b,home:=aM b,gen:=1,sup:=0,at0:=0,seq:=1,used:=0}
end
section
def ms (S:RS) (C p0 L:Nat) (q:Int):Prop:=∀k,L<=k->k<C->dF (S.rd (cI 2 C p0 k))=false\/(Sct.of (S.rd (cI 2 C p0 k))).seq<q\/((Sct.of (S.rd (cI 2 C p0 k))).seq=q/\(Sct.of (S.rd (cI 2 C p0 k))).mark≠67)
theorem vZ {g:Nat->List Int} {seq:Int} {N:Nat} (h:∀k,k<N->dF (g k)=false\/(Sct.of (g k)).seq≠seq\/(Sct.of (g k)).mark≠67):∀f k acc,f+k<=N->fc g seq f k acc=none
 | 0,_,_,_=>rfl
 | f+1,k,acc,hk=>by
  unfold fc;by_cases h0:dF (g k)=false\/(Sct.of (g k)).seq≠seq
  ·rw[if_pos h0]
  ·rw[if_neg h0];have hm:(Sct.of (g k)).mark≠67:=by
    rcases h k (by omega)with h | h | h
    ·exact absurd (aA h) h0
    ·exact absurd (aC h) h0
    ·exact h
   rw[if_neg hm];by_cases h1:(Sct.of (g k)).mark≠73
   ·rw[if_pos h1]
   ·rw[if_neg h1];exact vZ h f (k+1) _ (by omega)
theorem CQ {seq:Int} {t:List Img} {count:Nat} (hs:cH seq) (hc:count<=65535) (ht:TxnOk count t) {k:Nat} {b:List Int} (h:(bu seq t)[k]? =some b):(Sct.of b).seq=seq:=by
 have hm:=dI h;unfold bu at hm;rcases gW.1 hm with h | h
 ·obtain⟨x,hx,rfl⟩:=dc.1 h;rw[(kI (jz hs (ht.ok x hx)) (lu (seq:=seq) (ht.fits x hx))).2]
  rfl
 ·rw[dO]at h;rw[h,(kI (jQ (n:=t.length) hs) (mR (seq:=seq) (by have:=ht.most;omega))).2]
  rfl
theorem wg {count:Nat} (hc:count<=65535):∀(ts:List (List Img)) (q0:Int) (k:Nat) (b:List Int),0<=q0->q0+ts.length<4294967296->(∀t ∈ ts,TxnOk count t)->(bO q0 ts)[k]? =some b->q0<=(Sct.of b).seq/\(Sct.of b).seq<q0+ts.length
 | [],q0,k,b,_,_,_,h=>by simp[bO]at h
 | t::ts,q0,k,b,h0,h1,hok,h=>by
  rw[cK]at h1;have hs:cH q0:=⟨h0,by omega⟩;unfold bO at h;by_cases hk:k< (bu q0 t).length
  ·rw[eU hk]at h;rw[CQ hs hc (hok t eV) h,cK];omega
  ·rw[fF (by omega)]at h;have e:(q0+1)%4294967296=q0+1:=by omega
   rw[e]at h;have:=wg hc ts (q0+1) _ b (by omega) (by omega) (fun u hu=>hok u (fG _ hu)) h;rw[cK];omega
theorem rU {q0:Int} {n:Nat} (h0:0<=q0) (h1:q0+n<4294967296):gm q0 n=q0+n:=by
 unfold gm;omega
theorem wi {S:RS} {C p0:Nat} {q0:Int} {ts:List (List Img)} (h:RingIs S 2 C p0 q0 ts) (hq:q0+ts.length<4294967296) (hj:ms S C p0 (bO q0 ts).length (q0+ts.length)) {k:Nat} (hk:k<C):
  dF (S.rd (cI 2 C p0 ((bO q0 ts).length+k)))=false\/(Sct.of (S.rd (cI 2 C p0 ((bO q0 ts).length+k)))).seq<q0+ts.length\/
   ((Sct.of (S.rd (cI 2 C p0 ((bO q0 ts).length+k)))).seq=q0+ts.length/\(Sct.of (S.rd (cI 2 C p0 ((bO q0 ts).length+k)))).mark≠67):=by
 by_cases hl:(bO q0 ts).length+k<C
 ·exact hj _ (by omega) hl
 ·have hf:=h.fits;obtain⟨j,hj'⟩:∃j,(bO q0 ts).length+k=C+j:=⟨(bO q0 ts).length+k - C,by omega⟩;rw[hj',By h.at0];have hl:=h.lay j (by omega);exact aC (aA (wg (count:=C) (by have:=h.most;omega) ts q0 j _ h.seq.1 hq h.ok hl).2)
theorem ms.none {S:RS} {C p0:Nat} {q0:Int} {ts:List (List Img)} (h:RingIs S 2 C p0 q0 ts) (hq:q0+ts.length<4294967296) (hj:ms S C p0 (bO q0 ts).length (q0+ts.length)):
  io S.rd 2 C ((p0+(bO q0 ts).length)%C) (gm q0 ts.length)=none:=by
 rw[rU h.seq.1 hq];unfold io;refine vZ (N:=C) (fun k hk=> ?_) C 0 [] (aJ _);have e:iF S.rd 2 C ((p0+(bO q0 ts).length)%C) k=S.rd (cI 2 C p0 ((bO q0 ts).length+k)):=by
  rw[←mo];rfl
 rw[e];rcases wi h hq hj hk with h | h | h
 ·exact aA h
 ·exact aC (aA (by omega))
 ·exact aC (aC h.2)
theorem wj:∀(ts:List (List Img)) (q:Int),cE ts=(bO q ts).length
 | [],_=>rfl
 | t::ts,q=>by
  show(t.length+1)+cE ts=(bu q t++bO _ ts).length;rw[wj ts ((q+1)%4294967296),cX,gY]
structure Inv (S:RS) (M:MS) (n:Nat) (p0:Nat) (q0:Int) (ts:List (List Img)):Prop where
 good:M.g.good
 n0:M.g.oF<=S.n0
 n1:M.g.oW<=S.n1
 dry:S.Dry
 bb:S.BB
 sup1:M.sup<=1
 sb:S.rd M.sup=(dt M.gen M.g p0 q0).bytes
 other:∀x,eo S.n0 S.n1 (S.rd (1 - M.sup))=some x->x.gen<M.gen
 gen:1<=M.gen/\M.gen<=n+1
 homl:M.home.length=M.g.P
 homb:∀x ∈ M.home,x.length=48/\aP x
 hom:∀i x,M.home[i]? =some x->S.rd (M.g.H+i)=(de i x).bytes
 ring:RingIs S 2 M.g.C p0 q0 ts
 q:1<=q0/\q0+ts.length<=n+1
 junk:ms S M.g.C p0 (bO q0 ts).length (q0+ts.length)
 at0:M.at0=(p0+(bO q0 ts).length)%M.g.C
 seq:M.seq=q0+ts.length
 used:M.used=(bO q0 ts).length
 len:M.b.length=M.g.bts.toNat
 bytes:aP M.b
 rows:dV M.home ts=aM M.b
structure Geo.Nats (g:Geo):Prop where
 c:(g.C:Int)=g.r
 p:(g.P:Int)=g.pgs
 f:g.oF=2+g.C+g.P+g.slots
 c1:g.P+2<=g.C
 c2:g.C<=256
 p1:2<=g.P
 p2:g.P<=15
 b:(g.bts.toNat:Int)=g.bts
 bp:g.P=(g.bts.toNat+47) / 48
 b2:g.bts.toNat<=714
 s1:1<=g.slots
theorem Geo.nats {g:Geo} (hg:g.good):g.Nats:=by
 obtain⟨b1,b2,b3,b4,b5,b6⟩:=Geo.bounds hg.1;have h9:=hg.2.1;have h10:=hg.2.2;have hf:g.oF=2+g.r+g.pgs+g.slots:=if_pos hg;have hc:(g.C:Int)=g.r:=by unfold Geo.C;omega
 have hp:(g.P:Int)=g.pgs:=by unfold Geo.P;omega
 have hb:(g.bts.toNat:Int)=g.bts:=by omega
 have hcn:g.pgs=((g.bts.toNat+47) / 48:Nat):=by
  have:=vj g.bts.toNat;rw[hb]at this;exact this
 exact⟨hc,hp,by rw[hf,hc,hp],by omega,by omega,by omega,by omega,hb,by omega,by omega,b1⟩
theorem gJ (b:List Int):(aM b).length=cB b:=by simp[aM]
theorem lF (b:List Int) {i:Nat} (h:i<cB b):(aM b)[i]? =some (bM b i):=by simp[aM,h]
theorem ir {b:List Int} (h:aP b) (i:Nat):aP (bM b i):=(h.cut (48*i) 48).app (mm _)
theorem wk (b:List Int):∀n,(((dm n).map (bM b)).flatten).length=48*n
 | 0=>rfl
 | n+1=>by
  rw[List.range_succ,fp,kj,cX,wk b n,List.map_cons,List.map_nil];simp[gH];omega
theorem wl (b:List Int):∀n,48*n<=b.length+47->(((dm n).map (bM b)).flatten).take b.length=b.take (48*n)
 | 0,_=>by simp
 | n+1,h=>by
  have ih:=wl b n (by omega);rw[List.range_succ,fp,kj];have hl:(((dm n).map (bM b)).flatten).length=48*n:=wk b n;rw[List.take_append,ih,hl];have e:([bM b n]:List (List Int)).flatten=bM b n:=by simp
  rw[List.map_cons,List.map_nil,e];have e2:(bM b n).take (b.length - 48*n)=(b.drop (48*n)).take 48:=by
   unfold bM;rw[List.take_append];have:(b.drop (48*n)).length=b.length - 48*n:=dx;by_cases hc:b.length - 48*n<=48
   ·have e3:(b.drop (48*n)).take 48=b.drop (48*n):=ey (by omega);rw[e3,ey (by omega),this,Nat.sub_self,List.take_zero,List.append_nil]
   ·have e4:((b.drop (48*n)).take 48).length=48:=by rw[fd];omega
    rw[ey (by omega),e4];simp
  rw[e2,show 48*(n+1)=48*n+48 by omega,List.take_add]
theorem ns (b:List Int):((aM b).flatten).take b.length=b:=by
 unfold aM;rw[wl b (cB b) (by unfold cB;omega),ey (by unfold cB;omega)]
theorem wm {n:Nat} {q:Int} (hn:n<=100000) (h:1<=q/\q<=n+1):cH q:=⟨by omega,by omega⟩
theorem Inv.opn {S:RS} {M:MS} {n p0:Nat} {q0:Int} {ts:List (List Img)} (h:Inv S M n p0 q0 ts) (hn:n<=100000):S.opn=some M:=by
 have hN:=Geo.nats h.good;have hq0:=h.q;have hp0:(p0:Int)<M.g.r:=by have:=h.ring.at0;have:=hN.c;omega
 have hsup:=vY (wm hn h.gen) h.good h.n0 h.n1 hp0 h.ring.seq;have hn0:2<=S.n0:=by have:=h.n0;have:=hN.f;have:=hN.s1;omega
 have hat:S.supAt M.sup=some ⟨M.gen,M.g,p0,q0⟩:=by
  unfold RS.supAt;rw[if_pos (by have:=h.sup1;omega),h.sb];exact hsup
 have hot:∀x,S.supAt (1 - M.sup)=some x->x.gen<M.gen:=fun x hx=>by
  unfold RS.supAt at hx;rw[if_pos (by omega)]at hx;exact h.other x hx
 have hnew:newer (S.supAt 0) (S.supAt 1)=some (M.sup,⟨M.gen,M.g,p0,q0⟩):=by
  rcases(show M.sup=0\/M.sup=1 by have:=h.sup1;omega)with e | e
  ·rw[e]at hat hot ⊢;rw[hat];cases h1:S.supAt 1 with
   | none=>rfl
   | some y=>
    have:=hot y h1;show(if M.gen<y.gen then _ else _)=_;rw[if_neg (by omega)]
  ·rw[e]at hat hot ⊢;rw[hat];cases h1:S.supAt 0 with
   | none=>rfl
   | some y=>
    have:=hot y h1;show(if y.gen<M.gen then _ else _)=_;rw[if_pos this]
 have hhp:∀i,i<M.g.P->∃x,M.home[i]? =some x/\eP (S.rd (M.g.H+i)) i/\(Sct.of (S.rd (M.g.H+i))).body=x:=fun i hi=>by
  have hl:i<M.home.length:=by rw[h.homl];exact hi
  refine⟨M.home[i],bJ hl, ?_⟩;have hb:=h.homb _ (List.getElem_mem hl);rw[h.hom i _ (bJ hl)];exact CP (by have:=hN.p2;omega) hb.1 hb.2
 have hhom:S.homes M.g.H M.g.P=M.home:=by
  refine List.ext_getElem? fun i=> ?_;unfold RS.homes;by_cases hi:i<M.g.P
  ·obtain⟨x,hx,_,e⟩:=hhp i hi;rw[hx,du,List.getElem?_range hi];simp[e]
  ·rw[iB (by simp;omega),iB (by rw[h.homl];omega)]
 have hrep:=h.ring.rep (ms.none h.ring (by omega) h.junk);rw[rU h.ring.seq.1 (by omega)]at hrep;unfold RS.opn;rw[hnew]
 dsimp only
 rw[if_pos (fun i hi=>by obtain⟨x,_,hp,_⟩:=hhp i hi;exact hp),hhom,hrep]
 dsimp only
 rw[h.rows,wj ts q0];have hb:((aM M.b).flatten).take M.g.bts.toNat=M.b:=by rw[←h.len];exact ns M.b
 rw[hb,←h.at0,←h.seq,←h.used]
def jG (i:Nat) (o:List Int) (x:Img):List Int:=if x.index=(i:Int)then x.body else o
def gK (i:Nat) (o:List Int) (t:List Img):List Int:=t.foldl (jG i) o
def sa (ts:List (List Img)):Prop:=∀t ∈ ts,∀x ∈ t,0<=x.index
theorem CR (now:List (List Int)) (x:Img):(cD now x).length=now.length:=by
 unfold cD;split
 ·simp
 ·rfl
theorem se:∀(t:List Img) (now:List (List Int)),(kP now t).length=now.length
 | [],_=>rfl
 | x::t,now=>by
  show(kP (cD now x) t).length=_;rw[se t,CR]
theorem pj:∀(ts:List (List Img)) (now:List (List Int)),(dV now ts).length=now.length
 | [],_=>rfl
 | t::ts,now=>by
  show(dV (kP now t) ts).length=_;rw[pj ts,se]
theorem CS {now:List (List Int)} {x:Img} (hx:0<=x.index) {i:Nat} {o:List Int} (h:now[i]? =some o):(cD now x)[i]? =some (jG i o x):=by
 have hi:=(dp.1 h).1;unfold cD jG;by_cases hl:x.index<now.length
 ·rw[if_pos hl,List.getElem?_set];by_cases he:x.index=(i:Int)
  ·rw[if_pos (by omega),if_pos he,if_pos (by omega)]
  ·rw[if_neg (by omega),if_neg he];exact h
 ·rw[if_neg hl,if_neg (by omega)];exact h
theorem sf:∀(t:List Img) (now:List (List Int)) {i:Nat} {o:List Int},(∀x ∈ t,0<=x.index)->now[i]? =some o->(kP now t)[i]? =some (gK i o t)
 | [],_,_,_,_,h=>h
 | x::t,now,i,o,hx,h=>sf t (cD now x) (fun y hy=>hx y (fG _ hy)) (CS (hx x eV) h)
theorem sg:∀(ts:List (List Img)) (now:List (List Int)) {i:Nat} {o:List Int},sa ts->now[i]? =some o->(dV now ts)[i]? =some (ts.foldl (gK i) o)
 | [],_,_,_,_,h=>h
 | t::ts,now,i,o,hx,h=>sg ts (kP now t) (fun u hu=>hx u (fG _ hu)) (sf t now (hx t eV) h)
theorem wq (i:Nat):∀(t:List Img) (o:List Int),gK i o t=o\/∀o',gK i o' t=gK i o t
 | [],_=>aA rfl
 | x::t,o=>by
  show gK i (jG i o x) t=o\/∀o',gK i (jG i o' x) t=gK i (jG i o x) t;by_cases h:x.index=(i:Int)
  ·right
   intro o';have e:∀o,jG i o x=x.body:=fun o=>if_pos h;rw[e,e]
  ·have e:∀o,jG i o x=o:=fun o=>if_neg h;simp only[e];exact wq i t o
theorem ws (i:Nat):∀(ts:List (List Img)) (o:List Int),ts.foldl (gK i) o=o\/∀o',ts.foldl (gK i) o'=ts.foldl (gK i) o
 | [],_=>aA rfl
 | t::ts,o=>by
  show ts.foldl (gK i) (gK i o t)=o\/∀o',ts.foldl (gK i) (gK i o' t)=ts.foldl (gK i) (gK i o t);rcases wq i t o with h | h
  ·rw[h];rcases ws i ts o with h2 | h2
   ·exact aA h2
   ·exact aC fun o'=>h2 _
  ·exact aC fun o'=>by rw[h o']
theorem wt {ts:List (List Img)} {home hm now:List (List Int)} (hi:sa ts) (h:dV home ts=now) (hl:hm.length=home.length) (hor:∀i:Nat,hm[i]? =home[i]? \/hm[i]? =now[i]?):dV hm ts=now:=by
 refine List.ext_getElem? fun i=> ?_;by_cases hlt:i<hm.length
 ·have e1:=bJ hlt;have hlt2:i<home.length:=by omega
  have e2:=bJ hlt2;have g2:=sg ts home hi e2;rw[sg ts hm hi e1,←h,g2];rcases hor i with h1 | h1
  ·rw[e1,e2]at h1;rw[Option.some.inj h1]
  ·rw[←h,g2,e1]at h1;have h1:=Option.some.inj h1;rcases ws i ts hm[i]with h2 | h2
   ·rw[h2,h1]
   ·rw[h2 home[i]]
 ·rw[iB (by rw[pj];omega),iB (by rw[←h,pj];omega)]
theorem CT (now:List (List Int)) (ts:List (List Img)) (t:List Img):dV now (ts++ [t])=kP (dV now ts) t:=by
 unfold dV;rw[List.foldl_append]
 rfl
theorem wu (now:List (List Int)) (i:Nat):∀(l:List Nat) (o:List Int),gK i o (l.map fun(j:Nat)=>(⟨(j:Int),now[j]?.getD []⟩:Img))=if i ∈ l then now[i]?.getD []else o
 | [],o=>by simp[gK]
 | j::l,o=>by
  show gK i (jG i o ⟨(j:Int),now[j]?.getD []⟩) (l.map fun(j:Nat)=>(⟨(j:Int),now[j]?.getD []⟩:Img))=_;rw[wu now i l];by_cases hj:j=i
  ·subst hj;have e:jG j o ⟨(j:Int),now[j]?.getD []⟩=now[j]?.getD []:=if_pos rfl;rw[e,if_pos eV];split<;>rfl
  ·have e:jG i o ⟨(j:Int),now[j]?.getD []⟩=o:=if_neg (by show¬((j:Nat):Int)=(i:Int);omega);rw[e];by_cases hm:i ∈ l
   ·rw[if_pos hm,if_pos (fG _ hm)]
   ·rw[if_neg hm,if_neg (fun h=>by rcases ec.1 h with h | h;exact hj h.symm;exact hm h)]
theorem pk (was now:List (List Int)):∀x ∈ jY was now,∃i:Nat,x=⟨(i:Int),now[i]?.getD []⟩/\i<now.length/\now[i]? ≠was[i]? :=by
 intro x hx;unfold jY at hx;obtain⟨i,hi,rfl⟩:=dc.1 hx;obtain⟨h1,h2⟩:=List.mem_filter.1 hi;exact⟨i,rfl,fo.1 h1,of_decide_eq_true h2⟩
theorem sh {was now:List (List Int)} (hl:was.length=now.length):kP was (jY was now)=now:=by
 refine List.ext_getElem? fun i=> ?_;by_cases hlt:i<was.length
 ·have e1:=bJ hlt;have hlt2:i<now.length:=by omega
  have e2:=bJ hlt2;rw[sf _ was (fun x hx=>by obtain⟨i,rfl,_⟩:=pk was now x hx;exact Int.natCast_nonneg i) e1];unfold jY;rw[wu,e2];by_cases hm:i ∈(dm now.length).filter fun i=>decide (now[i]? ≠was[i]?)
  ·rw[if_pos hm];rfl
  ·rw[if_neg hm];have:¬now[i]? ≠was[i]? :=fun h=>hm (List.mem_filter.2 ⟨fo.2 hlt2,decide_eq_true h⟩);rw[e1,e2]at this;exact(Classical.not_not.1 this).symm
 ·rw[iB (by rw[se];omega),iB (by omega)]
theorem pm (was now:List (List Int)):(jY was now).length<=now.length:=by
 unfold jY;rw[fZ];exact aZ (List.length_filter_le _ _) (by simp)
theorem PartW.far {S T:RS} {W:cA} (h:PartW S T W) {i:Nat} (hi:i<S.n0) (hn:∀b,(i,b)∉ W):T.rd i=S.rd i:=by
 rcases h.or_ i hi with h | ⟨b,hb,_⟩
 ·exact h
 ·exact absurd hb (hn b)
theorem kQ {C:Nat} (hC:0<C) (a k:Nat):2<=cI 2 C a k/\cI 2 C a k<2+C:=by
 have:=fO (a+k) hC;unfold cI;omega
theorem Inv.idx {S:RS} {M:MS} {n p0:Nat} {q0:Int} {ts:List (List Img)} (h:Inv S M n p0 q0 ts):sa ts:=fun t ht x hx=>((h.ring.ok t ht).fits x hx).1
theorem Inv.C0 {S:RS} {M:MS} {n p0:Nat} {q0:Int} {ts:List (List Img)} (h:Inv S M n p0 q0 ts):0<M.g.C:=by have:=(Geo.nats h.good).c1;omega
theorem Inv.room {S:RS} {M:MS} {n p0:Nat} {q0:Int} {ts:List (List Img)} (h:Inv S M n p0 q0 ts):2+M.g.C+M.g.P<S.n0:=by
 have hN:=Geo.nats h.good;have:=h.n0;have:=hN.f;have:=hN.s1;omega
theorem RingIs.to {S T:RS} {C p0:Nat} {q0:Int} {ts:List (List Img)} (h:RingIs S 2 C p0 q0 ts) (hn:T.n0=S.n0) (hr:∀k,k< (bO q0 ts).length->T.rd (cI 2 C p0 k)=S.rd (cI 2 C p0 k)):RingIs T 2 C p0 q0 ts:=
 ⟨by rw[hn];exact h.room,h.two,h.most,h.at0,h.seq,h.ok,h.fits,fun k hk=>by rw[hr k hk];exact h.lay k hk⟩
theorem Inv.move {S T:RS} {M:MS} {n p0:Nat} {q0:Int} {ts:List (List Img)} (h:Inv S M n p0 q0 ts) (hn0:T.n0=S.n0) (hn1:T.n1=S.n1) (hd:T.Dry) (hb:T.BB)
  (hsup:∀i,i<2->T.rd i=S.rd i) (hm:List (List Int)) (hl:hm.length=M.g.P) (hmb:∀x ∈ hm,x.length=48/\aP x) (hmh:∀i x,hm[i]? =some x->T.rd (M.g.H+i)=(de i x).bytes)
  (hring:∀k,k< (bO q0 ts).length->T.rd (cI 2 M.g.C p0 k)=S.rd (cI 2 M.g.C p0 k)) (hj:ms T M.g.C p0 (bO q0 ts).length (q0+ts.length)) (hrows:dV hm ts=aM M.b):
  Inv T {M with home:=hm} n p0 q0 ts where
 good:=h.good
 n0:=by rw[hn0];exact h.n0
 n1:=by rw[hn1];exact h.n1
 dry:=hd
 bb:=hb
 sup1:=h.sup1
 sb:=by
  show T.rd M.sup=_;rw[hsup _ (by have:=h.sup1;omega)];exact h.sb
 other:=fun x hx=>by
  rw[hn0,hn1,hsup _ (by show 1 - M.sup<2;omega)]at hx;exact h.other x hx
 gen:=h.gen
 homl:=hl
 homb:=hmb
 hom:=hmh
 ring:=h.ring.to hn0 hring
 q:=h.q
 junk:=hj
 at0:=h.at0
 seq:=h.seq
 used:=h.used
 len:=h.len
 bytes:=h.bytes
 rows:=hrows
theorem ms.to {S T:RS} {C p0 L:Nat} {q:Int} (h:ms S C p0 L q) (hr:∀k,L<=k->k<C->T.rd (cI 2 C p0 k)=S.rd (cI 2 C p0 k)):ms T C p0 L q:=fun k h1 h2=>by
 rw[hr k h1 h2];exact h k h1 h2
theorem Inv.same {S T:RS} {M:MS} {n p0:Nat} {q0:Int} {ts:List (List Img)} (h:Inv S M n p0 q0 ts) (k:FullW S T []):Inv T M n p0 q0 ts:=by
 have hr:=h.room;have hC:=h.C0;have hp:=fun k=>kQ hC p0 k;have e:∀i,i<S.n0->T.rd i=S.rd i:=fun i hi=>k.else_ i hi (by simp);refine h.move k.n0 k.n1 k.dry k.bb (fun i hi=>e i (by omega)) M.home h.homl h.homb (fun i x hx=> ?_) (fun k _=>e _ (by have:=hp k;omega)) (h.junk.to fun k _ _=>e _ (by have:=hp k;omega)) h.rows;have hi:i<M.g.P:=by rw[←h.homl];exact(dp.1 hx).1
 rw[e _ (by unfold Geo.H;omega)];exact h.hom i x hx
theorem Inv.mono {S:RS} {M:MS} {n p0:Nat} {q0:Int} {ts:List (List Img)} (h:Inv S M n p0 q0 ts):Inv S M (n+1) p0 q0 ts:=
 {h with gen:=⟨h.gen.1,by have:=h.gen.2;omega⟩,q:=⟨h.q.1,by have:=h.q.2;omega⟩}
theorem kR {M:MS} {i:Nat} {v:List am} (h:(i,v)∈ M.homW):∃j,j<M.g.P/\i=M.g.H+j/\(aM M.b)[j]? ≠M.home[j]? /\v=an (de j (bM M.b j)).bytes:=by
 unfold MS.homW at h;obtain⟨j,hj,e⟩:=dc.1 h;obtain⟨h1,h2⟩:=List.mem_filter.1 hj;cases e;exact⟨j,fo.1 h1,rfl,of_decide_eq_true h2,rfl⟩
theorem CU {M:MS} {j:Nat} (hj:j<M.g.P) (hne:(aM M.b)[j]? ≠M.home[j]?):(M.g.H+j,an (de j (bM M.b j)).bytes)∈ M.homW:=by
 unfold MS.homW;exact dc.2 ⟨j,List.mem_filter.2 ⟨fo.2 hj,decide_eq_true hne⟩,rfl⟩
theorem Inv.pcs {S:RS} {M:MS} {n p0:Nat} {q0:Int} {ts:List (List Img)} (h:Inv S M n p0 q0 ts):cB M.b=M.g.P:=by
 unfold cB;rw[h.len,(Geo.nats h.good).bp]
theorem Inv.cut_get {S:RS} {M:MS} {n p0:Nat} {q0:Int} {ts:List (List Img)} (h:Inv S M n p0 q0 ts) {i:Nat} (hi:i<M.g.P):(aM M.b)[i]? =some (bM M.b i):=lF _ (by rw[h.pcs];exact hi)
theorem Inv.home_part {S T:RS} {M:MS} {n p0:Nat} {q0:Int} {ts:List (List Img)} (h:Inv S M n p0 q0 ts) (k:PartW S T M.homW):∃hm,Inv T {M with home:=hm} n p0 q0 ts:=by
 have hr:=h.room;have hC:=h.C0;have hp:=fun k=>kQ hC p0 k;have e:∀i,i<2+M.g.C->T.rd i=S.rd i:=fun i hi=>k.far (by omega) fun b hb=>by
  obtain⟨j,_,e,_⟩:=kR hb;unfold Geo.H at e;omega
 have hget:∀i,i<M.g.P->∃x,M.home[i]? =some x:=fun i hi=>⟨_,bJ (by rw[h.homl];exact hi)⟩;have hpcb:=ir h.bytes;obtain⟨f,hf⟩:∃f:Nat->List Int,f=fun i=>if T.rd (M.g.H+i)=S.rd (M.g.H+i)then M.home[i]?.getD []else bM M.b i:=⟨_,rfl⟩
 have hfi:∀i x,((dm M.g.P).map f)[i]? =some x->i<M.g.P/\x=f i:=fun i x hx=>by
  have hi:i<M.g.P:=by have:=(dp.1 hx).1;simpa using this
  rw[du,List.getElem?_range hi]at hx;exact⟨hi,(Option.some.inj hx).symm⟩
 have hfa:∀i,i<M.g.P->((dm M.g.P).map f)[i]? =some (f i):=fun i hi=>by rw[du,List.getElem?_range hi];rfl
 have hcase:∀i,i<M.g.P->(f i=M.home[i]?.getD []/\T.rd (M.g.H+i)=S.rd (M.g.H+i))\/(f i=bM M.b i/\T.rd (M.g.H+i)=(de i (bM M.b i)).bytes):=fun i hi=>by
  by_cases hs:T.rd (M.g.H+i)=S.rd (M.g.H+i)
  ·left;rw[hf];exact⟨if_pos hs,hs⟩
  ·right
   rcases k.or_ (M.g.H+i) (by unfold Geo.H;omega)with h1 | ⟨b,hb,h1⟩
   ·exact absurd h1 hs
   ·obtain⟨j,hj,e1,_,e2⟩:=kR hb;obtain rfl:i=j:=by omega
    rw[hf];exact⟨if_neg hs,by rw[h1,e2];exact jT _⟩
 refine⟨(dm M.g.P).map f,h.move k.n0 k.n1 k.dry k.bb (fun i hi=>e i (by omega)) _ (by simp) (fun x hx=> ?_) (fun i x hx=> ?_) (fun k _=>e _ (by have:=hp k;omega)) (h.junk.to fun k _ _=>e _ (by have:=hp k;omega)) ?_⟩
 ·obtain⟨i,hi0⟩:=List.mem_iff_getElem?.1 hx;obtain⟨hi,rfl⟩:=hfi i x hi0;rcases hcase i hi with h1 | h1
  ·obtain⟨y,hy⟩:=hget i hi;rw[h1.1,hy];exact h.homb _ (dI hy)
  ·rw[h1.1];exact⟨gH _ _,hpcb i⟩
 ·obtain⟨hi,rfl⟩:=hfi i x hx;rcases hcase i hi with h1 | h1
  ·obtain⟨y,hy⟩:=hget i hi;rw[h1.1,h1.2,hy];exact h.hom i y hy
  ·rw[h1.1,h1.2]
 ·refine wt h.idx h.rows (by simp[h.homl]) fun i=> ?_;by_cases hi:i<M.g.P
  ·rw[hfa i hi];rcases hcase i hi with h1 | h1
   ·left
    obtain⟨y,hy⟩:=hget i hi;rw[h1.1,hy]
    rfl
   ·right;rw[h1.1,h.cut_get hi]
  ·left
   rw[iB (by simp;omega),iB (by rw[h.homl];omega)]
theorem Inv.home_full {S T:RS} {M:MS} {n p0:Nat} {q0:Int} {ts:List (List Img)} (h:Inv S M n p0 q0 ts) (k:FullW S T M.homW):Inv T {M with home:=aM M.b} n p0 q0 ts:=by
 have hr:=h.room;have hC:=h.C0;have hp:=fun k=>kQ hC p0 k;have hpcb:=ir h.bytes;have e:∀i,i<2+M.g.C->T.rd i=S.rd i:=fun i hi=>k.else' (by omega) fun b hb=>by
  obtain⟨j,_,e,_⟩:=kR hb;unfold Geo.H at e;omega
 have hci:∀i x,(aM M.b)[i]? =some x->i<M.g.P/\x=bM M.b i:=fun i x hx=>by
  have hi:i<M.g.P:=by have:=(dp.1 hx).1;rwa [gJ,h.pcs]at this
  rw[h.cut_get hi]at hx;exact⟨hi,(Option.some.inj hx).symm⟩
 refine h.move k.n0 k.n1 k.dry k.bb (fun i hi=>e i (by omega)) _ (by rw[gJ,h.pcs]) (fun x hx=> ?_) (fun i x hx=> ?_) (fun k _=>e _ (by have:=hp k;omega)) (h.junk.to fun k _ _=>e _ (by have:=hp k;omega)) ?_
 ·obtain⟨i,hi0⟩:=List.mem_iff_getElem?.1 hx;obtain⟨hi,rfl⟩:=hci i x hi0;exact⟨gH _ _,hpcb i⟩
 ·obtain⟨hi,rfl⟩:=hci i x hx;by_cases hne:(aM M.b)[i]? ≠M.home[i]?
  ·rw[k.at_ _ _ (CU hi hne)];exact jT _
  ·rw[k.else' (by unfold Geo.H;omega) fun b hb=>by
    obtain⟨j,_,e1,h2,_⟩:=kR hb;obtain rfl:i=j:=by omega
    exact hne h2]
   exact h.hom i _ ((Classical.not_not.1 hne).symm.trans hx)
 ·exact wt h.idx h.rows (by rw[gJ,h.pcs,h.homl]) fun i=>aC rfl
theorem Inv.sup_full {S T:RS} {M:MS} {n p0:Nat} {q0:Int} {ts:List (List Img)} (h:Inv S M n p0 q0 ts) (hn:n<=100000) (hh:M.home=aM M.b) (k:FullW S T M.supW):Inv T M.ckpt (n+1) M.at0 M.seq []:=by
 have hN:=Geo.nats h.good;have hr:=h.room;have hC:=h.C0;have hp:=fun a k=>kQ hC a k;have hs1:=h.sup1;have hq:=h.q;have e:∀i,i<S.n0->i≠1 - M.sup->T.rd i=S.rd i:=fun i hi hne=>k.else_ i hi (by simp[MS.supW];exact hne);have hat:T.rd (1 - M.sup)=(dt (M.gen+1) M.g M.at0 M.seq).bytes:=by
  rw[k.at_ (1 - M.sup) (an (dt (M.gen+1) M.g M.at0 M.seq).bytes) (by simp[MS.supW])];exact jT _
 have hsq:cH M.seq:=by rw[h.seq];exact⟨by omega,by omega⟩
 have ha:M.at0<M.g.C:=by rw[h.at0];exact fO _ hC
 have hsup:=vY (wm hn h.gen) h.good h.n0 h.n1 (show(p0:Int)<M.g.r by have:=h.ring.at0;have:=hN.c;omega) h.ring.seq;refine{good:=h.good,n0:=by rw[k.n0];exact h.n0,n1:=by rw[k.n1];exact h.n1,dry:=k.dry,bb:=k.bb,sup1:=by show 1 - M.sup<=1;omega,sb:=hat,other:=fun x hx=> ?_,gen:= ?_,homl:= ?_,homb:= ?_,hom:=fun i x hx=> ?_,ring:=⟨by rw[k.n0];show 2+M.g.C<=_;omega,by show 2<=M.g.C;have:=hN.c1;omega,hN.c2,ha,hsq,fun t ht=>(by cases ht),bq _,fun k hk=>(by simp[bO]at hk)⟩,q:= ?_,junk:=fun j _ hj=> ?_,at0:= ?_,seq:= ?_,used:=rfl,len:=h.len,bytes:=h.bytes,rows:=rfl}
 ·have e1:(1 - M.ckpt.sup)=M.sup:=by show 1 - (1 - M.sup)=M.sup;omega
  rw[e1,k.n0,k.n1,e _ (by omega) (by omega),h.sb,hsup]at hx;cases hx;show M.gen<M.gen+1;omega
 ·have:=h.gen;show 1<=M.gen+1/\M.gen+1<=((n+1:Nat):Int)+1;omega
 ·show(aM M.b).length=M.g.P;rw[←hh];exact h.homl
 ·show∀x ∈ aM M.b,_;rw[←hh];exact h.homb
 ·have hx:(aM M.b)[i]? =some x:=hx;rw[←hh]at hx;have hi:i<M.g.P:=by rw[←h.homl];exact(dp.1 hx).1
  show T.rd (M.g.H+i)=_;rw[e _ (by unfold Geo.H;omega) (by unfold Geo.H;omega)];exact h.hom i x hx
 ·rw[h.seq];show 1<=q0+ts.length/\q0+ts.length+((0:Nat):Int)<=((n+1:Nat):Int)+1;omega
 ·have hj:j<M.g.C:=hj;have e2:M.seq+(([]:List (List Img)).length:Int)=q0+ts.length:=by rw[h.seq];simp
  rw[e2];have eT:T.rd (cI 2 M.ckpt.g.C M.at0 j)=S.rd (cI 2 M.g.C p0 ((bO q0 ts).length+j)):=by
   show T.rd (cI 2 M.g.C M.at0 j)=_;rw[e _ (by have:=hp M.at0 j;omega) (by have:=hp M.at0 j;omega),h.at0,mo]
  rw[eT];exact wi h.ring (by omega) h.junk hj
 ·show M.at0=(M.at0+0)%M.g.C;rw[Nat.add_zero,Nat.mod_eq_of_lt ha]
 ·show M.seq=M.seq+((0:Nat):Int);omega
end
section
section
variable {S T U:RS} {M:MS} {n p0:Nat} {q0:Int} {ts:List (List Img)} {b:List Int}
theorem sj {C a:Nat} {q:Int} {t:List Img} {i:Nat} {v:List am} (h:(i,v)∈(bQ 2 C a q t).take t.length):∃k x,k<t.length/\t[k]? =some x/\i=cI 2 C a k/\v=an (df q x).bytes:=by
 obtain⟨k,hk⟩:=List.mem_iff_getElem?.1 h;rw[List.getElem?_take]at hk;split at hk
 case isTrue hlt=>
  have hx:=bJ hlt;have hb:(bu q t)[k]? =some (df q t[k]).bytes:=by
   unfold bu;rw[eU (by simpa using hlt),du,hx]
   rfl
  have:=lB (frm:=2) (count:=C) (at0:=a) hb;rw[this]at hk;cases hk;exact⟨k,t[k],hlt,hx,rfl,rfl⟩
 case isFalse=>cases hk
theorem CX {C a:Nat} {q:Int} {t:List Img} {k:Nat} {x:Img} (h:t[k]? =some x):(cI 2 C a k,an (df q x).bytes)∈(bQ 2 C a q t).take t.length:=by
 have hlt:=(dp.1 h).1;have hb:(bu q t)[k]? =some (df q x).bytes:=by
  unfold bu;rw[eU (by simpa using hlt),du,h]
  rfl
 refine List.mem_iff_getElem?.2 ⟨k, ?_⟩;rw[List.getElem?_take,if_pos hlt];exact lB hb
theorem sk (C a:Nat) (q:Int) (t:List Img):(bQ 2 C a q t).drop t.length= [(cI 2 C a t.length,an (cz q t.length).bytes)]:=Br (vh q t)
theorem Inv.txn (h:Inv S M n p0 q0 ts) (hl:b.length=M.b.length) (hb:aP b) (hd:M.dif b≠ []):TxnOk M.g.C (M.dif b):=by
 have hN:=Geo.nats h.good;have hp:cB b=M.g.P:=by unfold cB;rw[hl,h.len,hN.bp]
 have hle:(M.dif b).length<=M.g.P:=by
  have:=pm (aM M.b) (aM b)
  rwa [gJ b,hp]at this
 have hx:∀x ∈ M.dif b,∃i:Nat,i<M.g.P/\x=⟨(i:Int),bM b i⟩:=fun x hx=>by
  obtain⟨i,rfl,hi,_⟩:=pk _ _ x hx;rw[gJ,hp]at hi;refine⟨i,hi, ?_⟩;rw[lF b (by rw[hp];exact hi)]
  rfl
 refine⟨?_,by have:=hN.c1;omega,fun x hxm=> ?_,fun x hxm=> ?_⟩
 ·rcases Nat.eq_zero_or_pos (M.dif b).length with h0 | h0
  ·exact absurd (je h0) hd
  ·exact h0
 ·obtain⟨i,hi,rfl⟩:=hx x hxm;exact⟨gH _ _,ir hb i⟩
 ·obtain⟨i,hi,rfl⟩:=hx x hxm;have:=hN.p2;exact⟨Int.natCast_nonneg i,by show(i:Int)<=65535;omega⟩
theorem Inv.app_part (h:Inv S M n p0 q0 ts) (hn:n<=100000) {t:List Img} (ht:TxnOk M.g.C t) (hfit:M.used+t.length+1<=M.g.C) (k:PartW S T ((bQ 2 M.g.C M.at0 M.seq t).take t.length)):Inv T M n p0 q0 ts:=by
 have hr:=h.room;have hC:=h.C0;have hq:=h.q;have hp:=fun a k=>kQ hC a k;have hsq:cH M.seq:=by rw[h.seq];exact⟨by omega,by omega⟩
 have hu:=h.used;have far:∀i,i<S.n0->(∀j,j<t.length->i≠cI 2 M.g.C p0 ((bO q0 ts).length+j))->T.rd i=S.rd i:=fun i hi hne=>k.far hi fun v hv=>by
  obtain⟨j,x,hj,_,e,_⟩:=sj hv;rw[h.at0,mo]at e;exact hne j hj e
 have inj:∀i j,i<M.g.C->j<M.g.C->cI 2 M.g.C p0 i=cI 2 M.g.C p0 j->i=j:=fun i j hi hj e=>oD (frm:=2) (at0:=p0) hi hj e;refine h.move k.n0 k.n1 k.dry k.bb (fun i hi=>far i (by omega) fun j _=>by have:=hp p0 ((bO q0 ts).length+j);omega) M.home h.homl h.homb (fun i x hx=> ?_) (fun j hj=>far _ (by have:=hp p0 j;omega) fun i hi e=> ?_) (fun j h1 h2=> ?_) h.rows
 ·have hi:i<M.g.P:=by rw[←h.homl];exact(dp.1 hx).1
  rw[far _ (by unfold Geo.H;omega) fun j _=>by have:=hp p0 ((bO q0 ts).length+j);unfold Geo.H;omega];exact h.hom i x hx
 ·have:=inj j ((bO q0 ts).length+i) (by omega) (by omega) e;omega
 ·rcases k.or_ (cI 2 M.g.C p0 j) (by have:=hp p0 j;omega)with e | ⟨v,hv,e⟩
  ·rw[e];exact h.junk j h1 h2
  ·obtain⟨i,x,hi,hx,e1,e2⟩:=sj hv;have hm:=dI hx;have hv':T.rd (cI 2 M.g.C p0 j)=(df M.seq x).bytes:=by rw[e,e2];exact jT _
   rw[hv',(kI (jz hsq (ht.ok x hm)) (lu (seq:=M.seq) (ht.fits x hm))).2];exact aC (aC ⟨h.seq,by show(73:Int)≠67;omega⟩)
theorem Inv.app_full (h:Inv S M n p0 q0 ts) (hn:n<=100000) (hl:b.length=M.b.length) (hb:aP b) (hd:M.dif b≠ []) (hfit:M.used+(M.dif b).length+1<=M.g.C)
  (k1:FullW S U ((bQ 2 M.g.C M.at0 M.seq (M.dif b)).take (M.dif b).length)) (k2:FullW U T ((bQ 2 M.g.C M.at0 M.seq (M.dif b)).drop (M.dif b).length)):Inv T (M.app b) (n+1) p0 q0 (ts++ [M.dif b]):=by
 have hN:=Geo.nats h.good;have ht:=h.txn hl hb hd;generalize htt:M.dif b=t at *;have hr:=h.room;have hC:=h.C0;have hq:=h.q;have hp:=fun a k=>kQ hC a k;have hsq:cH M.seq:=by rw[h.seq];exact⟨by omega,by omega⟩
 have hu:=h.used;have eseq:gm q0 ts.length=M.seq:=by rw[rU h.ring.seq.1 (by omega),h.seq]
 rw[sk]at k2;have inj:∀i j,i<M.g.C->j<M.g.C->cI 2 M.g.C p0 i=cI 2 M.g.C p0 j->i=j:=fun i j hi hj e=>oD (frm:=2) (at0:=p0) hi hj e;have hpl:∀k,cI 2 M.g.C M.at0 k=cI 2 M.g.C p0 ((bO q0 ts).length+k):=fun k=>by rw[h.at0,mo]
 have hn0:T.n0=S.n0:=k2.n0.trans k1.n0;have far:∀i,i<S.n0->(∀j,j<=t.length->i≠cI 2 M.g.C M.at0 j)->T.rd i=S.rd i:=fun i hi hne=>by
  rw[k2.else' (by rw[k1.n0];exact hi) fun v hv=>by
   simp only[dO,Prod.mk.injEq]at hv;exact hne _ (aJ _) hv.1]
  exact k1.else' hi fun v hv=>by
   obtain⟨j,x,hj,_,e,_⟩:=sj hv;exact hne j (by omega) e
 have new:∀j v,(bu M.seq t)[j]? =some v->T.rd (cI 2 M.g.C M.at0 j)=v:=fun j v hv=>by
  have hj:j<t.length+1:=by have:=(dp.1 hv).1;rwa [gY]at this
  by_cases hjt:j=t.length
  ·subst hjt;rw[vh]at hv;cases hv;rw[k2.at_ _ _ (dO.2 rfl)];exact jT _
  ·have hx:t[j]? =some t[j]:=bJ (by omega);have hv':v=(df M.seq t[j]).bytes:=by
    unfold bu at hv;rw[eU (by simp;omega),du,hx]at hv;exact(Option.some.inj hv).symm
   rw[k2.else' (by rw[k1.n0];have:=hp M.at0 j;omega) fun w hw=>by
    simp only[dO,Prod.mk.injEq]at hw;have:=oD (frm:=2) (at0:=M.at0) (count:=M.g.C) (j:=j) (k:=t.length) (by omega) (by omega) hw.1;omega]
   rw[k1.at_ _ _ (CX hx),hv'];exact jT _
 have hring:RingIs T 2 M.g.C p0 q0 (ts++ [t]):=by
  refine h.ring.more ht (by omega) hn0 (fun k v hv=> ?_) (fun i hi hno=>far i hi fun j hj=> ?_)
  ·rw[eseq]at hv;rw[←h.at0];exact new k v hv
  ·have:=hno j hj
   rwa [←h.at0]at this
 have hlen:(bO q0 (ts++ [t])).length=(bO q0 ts).length+t.length+1:=by
  rw[qN _ _ _ h.ring.seq,ut,cX,gY];omega
 have hlow:∀i,i<2->T.rd i=S.rd i:=fun i hi=>far i (by omega) fun j _=>by have:=hp M.at0 j;omega
 have hP:cB b=M.g.P:=by unfold cB;rw[hl,h.len,hN.bp]
 refine{good:=h.good,n0:=by rw[hn0];exact h.n0,n1:=by rw[k2.n1,k1.n1];exact h.n1,dry:=k2.dry,bb:=k2.bb,sup1:=h.sup1,sb:= ?_,other:=fun x hx=> ?_,gen:=⟨h.gen.1,by have:=h.gen.2;show M.gen<=((n+1:Nat):Int)+1;omega⟩,homl:=h.homl,homb:=h.homb,hom:=fun i x hx=> ?_,ring:=hring,q:=⟨hq.1, ?_⟩,junk:=fun j h1 h2=> ?_,at0:= ?_,seq:= ?_,used:= ?_,len:=by show b.length=_;rw[hl];exact h.len,bytes:=hb,rows:= ?_}
 ·show T.rd M.sup=_;rw[hlow _ (by have:=h.sup1;omega)];exact h.sb
 ·rw[hn0,k2.n1,k1.n1,hlow _ (by show 1 - M.sup<2;omega)]at hx;exact h.other x hx
 ·have hi:i<M.g.P:=by rw[←h.homl];exact(dp.1 hx).1
  show T.rd (M.g.H+i)=_;rw[far _ (by unfold Geo.H;omega) fun j _=>by have:=hp M.at0 j;unfold Geo.H;omega];exact h.hom i x hx
 ·rw[cX,List.length_singleton];omega
 ·rw[hlen]at h1;have h2:j<M.g.C:=h2;show dF (T.rd (cI 2 M.g.C p0 j))=false\/(Sct.of (T.rd (cI 2 M.g.C p0 j))).seq<q0+((ts++ [t]).length:Int)\/((Sct.of (T.rd (cI 2 M.g.C p0 j))).seq=q0+((ts++ [t]).length:Int)/\(Sct.of (T.rd (cI 2 M.g.C p0 j))).mark≠67);rw[far _ (by have:=hp p0 j;omega) fun i hi e=>by
   rw[hpl]at e;have:=inj j ((bO q0 ts).length+i) h2 (by omega) e;omega]
  rw[cX,List.length_singleton];rcases h.junk j (by omega) h2 with h3 | h3 | h3
  ·exact aA h3
  ·exact aC (aA (by omega))
  ·exact aC (aA (by have:=h3.1;omega))
 ·show(M.at0+(M.dif b).length+1)%M.g.C=(p0+(bO q0 (ts++ [t])).length)%M.g.C;rw[htt,h.at0,hlen,Nat.add_assoc,Nat.mod_add_mod]
  congr 1
  omega
 ·show M.seq+1=q0+((ts++ [t]).length:Int);rw[h.seq,cX,List.length_singleton];omega
 ·show M.used+(M.dif b).length+1=(bO q0 (ts++ [t])).length;rw[htt,hlen,h.used]
 ·show dV M.home (ts++ [t])=aM b;rw[CT,h.rows,←htt];exact sh (by rw[gJ,gJ,h.pcs,hP])
end
end
section
theorem FullW.part {S T:RS} {W:cA} (h:FullW S T W):PartW S T W:=⟨h.n0,h.n1,h.dry,h.bb,fun i hi=>by
 by_cases hm:i ∈ W.map (·.1)
 ·obtain⟨x,hx,rfl⟩:=dc.1 hm;exact aC ⟨x.2,hx,h.at_ _ _ hx⟩
 ·exact aA (h.else_ i hi hm)⟩
theorem PartW.then0 {S U T:RS} {W:cA} (h:PartW S U W) (k:FullW U T []):PartW S T W:=⟨k.n0.trans h.n0,k.n1.trans h.n1,k.dry,k.bb,fun i hi=>by
 rw[k.else_ i (by rw[h.n0];exact hi) (by simp)];exact h.or_ i hi⟩
theorem mt {p:Sct} (h:p.Ok):BB (an p.bytes):=⟨p.bytes,rfl,Sct.bytes_bytes h,Sct.bytes_length h⟩
section
variable {S T U:RS} {M:MS} {n p0:Nat} {q0:Int} {ts:List (List Img)} {b:List Int}
theorem Inv.homW_ok (h:Inv S M n p0 q0 ts):BatOk S M.homW:=by
 have hr:=h.room;refine⟨fun x hx=> ?_, ?_,fun x hx=> ?_⟩
 ·obtain⟨j,hj,e,_⟩:=kR (i:=x.1) (v:=x.2) hx;rw[e];unfold Geo.H;omega
 ·unfold MS.homW;rw[iA];refine List.pairwise_map.2 ((List.nodup_range.filter _).imp fun{i j} hne e=>hne ?_);have e:M.g.H+i=M.g.H+j:=e;omega
 ·obtain⟨j,hj,_,_,e⟩:=kR (i:=x.1) (v:=x.2) hx;rw[e];exact mt (jX (gH _ _) (ir h.bytes j))
theorem Inv.supW_ok (h:Inv S M n p0 q0 ts) (hn:n<=100000):BatOk S M.supW:=by
 have hr:=h.room;have hg:=h.gen;refine⟨fun x hx=> ?_,by simp[MS.supW],fun x hx=> ?_⟩
 ·rw[dO.1 hx];show 1 - M.sup<_;omega
 ·rw[dO.1 hx];exact mt (kw ⟨by omega,by omega⟩ _ _ _)
theorem Inv.appW_ok (h:Inv S M n p0 q0 ts) (hn:n<=100000) (ht:TxnOk M.g.C (M.dif b)):∀l ∈ M.appW b,BatOk S l:=by
 have hr:=h.room;have hq:=h.q;have hC:=h.C0;have hsq:cH M.seq:=by rw[h.seq];exact⟨by omega,by omega⟩
 have hlt:=Bm (S:=S) (frm:=2) (at0:=M.at0) (seq:=M.seq) (t:=M.dif b) hC (by omega);have hnd:=vf (frm:=2) (at0:=M.at0) (seq:=M.seq) ht.most;have hbb:=vV (frm:=2) (count:=M.g.C) (at0:=M.at0) hsq ht.ok;intro l hl;unfold MS.appW at hl;rcases ec.1 hl with rfl | hl
 ·exact⟨fun x hx=>hlt x (gX hx),by rw[List.map_take];exact hnd.sublist (List.take_sublist _ _),fun x hx=>hbb x (gX hx)⟩
 ·obtain rfl:=dO.1 hl;exact⟨fun x hx=>hlt x (List.mem_of_mem_drop hx),by rw[List.map_drop];exact hnd.sublist (List.drop_sublist _ _),fun x hx=>hbb x (List.mem_of_mem_drop hx)⟩
theorem Inv.bats_ok (h:Inv S M n p0 q0 ts) (hn:n<=100000) (hl:b.length=M.b.length) (hb:aP b):∀l ∈ M.bats b,BatOk S l:=by
 intro l hm;unfold MS.bats at hm;split at hm
 ·cases hm
 ·next hd=>
  have ht:=h.txn hl hb hd;rcases gW.1 hm with hm | hm
  ·split at hm
   ·rcases ec.1 hm with rfl | hm
    ·exact h.homW_ok
    ·obtain rfl:=dO.1 hm;exact h.supW_ok hn
   ·cases hm
  ·exact h.appW_ok hn ht l hm
theorem Inv.app_goes (h:Inv S M n p0 q0 ts) (hn:n<=100000) (hl:b.length=M.b.length) (hb:aP b) (hd:M.dif b≠ []) (hfit:M.used+(M.dif b).length+1<=M.g.C) (k:GoesW S (M.appW b) T):
  ∃M' us,Inv T M' (n+1) p0 q0 us/\M'.g=M.g/\(M'.b=M.b\/M'.b=b):=by
 have ht:=h.txn hl hb hd;have hr:=h.room;unfold MS.appW at k;cases k with
 | part k=>exact⟨M,ts,(h.app_part hn ht hfit k).mono,rfl,aA rfl⟩
 | step k1 k=>
  cases k with
  | part k=>
   rw[sk]at k;rcases k.one (by rw[k1.n0];have:=kQ h.C0 M.at0 (M.dif b).length;omega)with k | k
   ·exact⟨M,ts,(h.app_part hn ht hfit (k1.part.then0 k)).mono,rfl,aA rfl⟩
   ·exact⟨M.app b,_,h.app_full hn hl hb hd hfit k1 (by rw[sk];exact k),rfl,aC rfl⟩
  | step k2 k=>
   cases k with
   | nil k=>exact⟨M.app b,_,(h.app_full hn hl hb hd hfit k1 k2).same k,rfl,aC rfl⟩
theorem Inv.app_all (h:Inv S M n p0 q0 ts) (hn:n<=100000) (hl:b.length=M.b.length) (hb:aP b) (hd:M.dif b≠ []) (hfit:M.used+(M.dif b).length+1<=M.g.C) (k:AllW S (M.appW b) T):Inv T (M.app b) (n+1) p0 q0 (ts++ [M.dif b]):=by
 unfold MS.appW at k;cases k with
 | step k1 k=>
  cases k with
  | step k2 k=>
   cases k with
   | nil k=>exact(h.app_full hn hl hb hd hfit k1 k2).same k
theorem Inv.fits (h:Inv S M n p0 q0 ts) (hf:¬M.full b):M.used+(M.dif b).length+1<=M.g.C:=by
 have hN:=Geo.nats h.good;unfold MS.full MS.room at hf;have:=hN.c;omega
theorem Inv.cmt (h:Inv S M n p0 q0 ts) (hn:n<=1000) (hl:b.length=M.b.length) (hb:aP b):∃T e,S.cmt M b=(T,e)/\T.n0=S.n0/\T.n1=S.n1/\T.BB/\
  ((e=0/\∃p q us,Inv T (M.next b) (n+2) p q us)\/(e=14/\∀b0 b1,∃M' p q us,Inv (T.crash b0 b1) M' (n+2) p q us/\M'.g=M.g/\(M'.b=M.b\/M'.b=b))):=by
 obtain⟨T,e,hT,t0,t1,tb,hc⟩:=RS.bat_spec (M.bats b) S h.dry h.bb (h.bats_ok (by omega) hl hb);refine⟨T,e,hT,t0,t1,tb, ?_⟩;by_cases hd:M.dif b= []
 ·have e1:M.bats b= []:=if_pos hd;have e2:M.next b=M:=if_pos hd;rw[e1]at hc;rw[e2];rcases hc with⟨he,hA⟩ | ⟨he,hG⟩
  ·cases hA with
   | nil k=>exact aA ⟨he,p0,q0,ts,(h.same k).mono.mono⟩
  ·refine aC ⟨he,fun b0 b1=> ?_⟩;cases hG b0 b1 with
   | nil k=>exact⟨M,p0,q0,ts,(h.same k).mono.mono,rfl,aA rfl⟩
 ·by_cases hf:M.full b
  ·have e1:M.bats b=M.homW::M.supW::M.appW b:=by unfold MS.bats;rw[if_neg hd,if_pos hf];rfl
   have e2:M.next b=M.ckpt.app b:=by unfold MS.next;rw[if_neg hd,if_pos hf]
   have hfit:M.ckpt.used+(M.ckpt.dif b).length+1<=M.ckpt.g.C:=by
    have:=(h.txn hl hb hd).most;show 0+(M.dif b).length+1<=M.g.C;omega
   rw[e1]at hc;rw[e2];rcases hc with⟨he,hA⟩ | ⟨he,hG⟩
   ·refine aA ⟨he, ?_⟩;cases hA with
    | step k1 k=>
     cases k with
     | step k2 k=>
      have h1:=h.home_full k1;have h2:=h1.sup_full (by omega) rfl k2;exact⟨_,_,_,h2.app_all (by omega) hl hb hd hfit k⟩
   ·refine aC ⟨he,fun b0 b1=> ?_⟩;cases hG b0 b1 with
    | part k=>
     obtain⟨hm,h1⟩:=h.home_part k;exact⟨_,_,_,_,h1.mono.mono,rfl,aA rfl⟩
    | step k1 k=>
     have h1:=h.home_full k1;cases k with
     | part k=>
      rcases PartW.one k (by rw[k1.n0];have:=h.room;omega)with k | k
      ·exact⟨_,_,_,_,(h1.same k).mono.mono,rfl,aA rfl⟩
      ·exact⟨_,_,_,_,(h1.sup_full (by omega) rfl k).mono,rfl,aA rfl⟩
     | step k2 k=>
      have h2:=h1.sup_full (by omega) rfl k2;obtain⟨M',us,hI,e3,e4⟩:=h2.app_goes (by omega) hl hb hd hfit k;exact⟨M',_,_,us,hI,e3,e4⟩
  ·have e1:M.bats b=M.appW b:=by unfold MS.bats;rw[if_neg hd,if_neg hf];rfl
   have e2:M.next b=M.app b:=by unfold MS.next;rw[if_neg hd,if_neg hf]
   rw[e1]at hc;rw[e2];rcases hc with⟨he,hA⟩ | ⟨he,hG⟩
   ·exact aA ⟨he,_,_,_,(h.app_all (by omega) hl hb hd (h.fits hf) hA).mono⟩
   ·refine aC ⟨he,fun b0 b1=> ?_⟩;obtain⟨M',us,hI,e3,e4⟩:=h.app_goes (by omega) hl hb hd (h.fits hf) (hG b0 b1);exact⟨M',_,_,us,hI.mono,e3,e4⟩
theorem MS.next_g (M:MS) (b:List Int):(M.next b).g=M.g:=by
 unfold MS.next;split
 ·rfl
 ·split<;>rfl
theorem Inv.next_b (h:Inv S M n p0 q0 ts) (hl:b.length=M.b.length):(M.next b).b=b:=by
 unfold MS.next;split
 ·next hd=>
  have hp:cB b=cB M.b:=by unfold cB;rw[hl]
  have e:aM b=aM M.b:=by
   have:=sh (was:=aM M.b) (now:=aM b) (by rw[gJ,gJ,hp]);unfold MS.dif at hd;rw[hd]at this;exact this.symm
  have e1:=ns b;rw[e,hl,ns]at e1;exact e1
 ·split<;>rfl
end
end
section
theorem so (n:Int):byt (a9 n)=bK 64 n:=by
 unfold byt a9;rw[List.map_replicate]
 rfl
theorem RS.bat_up:∀(ls:List cA) (S:RS),S.Up->(∀l ∈ ls,∀x ∈ l,x.1<S.n0)->(S.bat ls).2=0/\(S.bat ls).1.Up
 | [],S,hu,_=>⟨rfl,hu⟩
 | l::ls,S,hu,h=>by
  obtain⟨h1,h2⟩:=RS.Up.wrs l hu (h l eV);have s1:=(RS.wrs_spec l S (h l eV)).1;rw[RS.bat_cons,if_neg (by rw[h1];simp)];obtain⟨u1,u2⟩:=h2.flush 0;obtain⟨s2,hf⟩:=RS.flush0 (S.wrs l).1;have hE:(S.wrs l).1.flushE 0=0:=by
   rcases hf with⟨_,h3,_⟩ | ⟨h3,_,_⟩
   ·exact h3
   ·rw[h2.ok]at h3;cases h3
  rw[if_neg (by omega)];exact RS.bat_up ls _ u1 fun k hk x hx=>by rw[s2.n0,s1.n0];exact h k (fG _ hk) x hx
theorem po {C i:Nat} {v:List am} (h:(i,v)∈(dm C).map fun i=>(2+i,a9 0)):∃j,j<C/\i=2+j/\v=a9 0:=by
 obtain⟨j,hj,e⟩:=dc.1 h;cases e;exact⟨j,fo.1 hj,rfl,rfl⟩
theorem pp {g:Geo} {b:List Int} {i:Nat} {v:List am} (h:(i,v)∈(dm g.P).map fun i=>(g.H+i,an (de i (bM b i)).bytes)):∃j,j<g.P/\i=g.H+j/\v=an (de j (bM b j)).bytes:=by
 obtain⟨j,hj,e⟩:=dc.1 h;cases e;exact⟨j,fo.1 hj,rfl,rfl⟩
theorem Geo.room {g:Geo} (hg:g.good) {n0:Nat} (h:g.oF<=n0):2+g.C+g.P<n0:=by
 have hN:=Geo.nats hg;have:=hN.f;have:=hN.s1;omega
theorem mu {S:RS} {g:Geo} {b:List Int} (hg:g.good) (h0:g.oF<=S.n0) (hb:aP b):∀l ∈ co g b,BatOk S l:=by
 have hr:=Geo.room hg h0;have hz:BB (a9 0):=BB.fill (by omega);intro l hl;unfold co at hl;rcases ec.1 hl with rfl | hl
 ·refine⟨fun x hx=> ?_,by simp,fun x hx=> ?_⟩
  ·rcases ec.1 hx with rfl | hx
   ·show 0<_;omega
   ·rw[dO.1 hx];show 1<_;omega
  ·rcases ec.1 hx with rfl | hx
   ·exact hz
   ·rw[dO.1 hx];exact hz
 ·rcases ec.1 hl with rfl | hl
  ·refine⟨fun x hx=> ?_, ?_,fun x hx=> ?_⟩
   ·rcases gW.1 hx with hx | hx
    ·obtain⟨j,hj,e,_⟩:=po (i:=x.1) (v:=x.2) hx;rw[e];omega
    ·obtain⟨j,hj,e,_⟩:=pp (i:=x.1) (v:=x.2) hx;rw[e];unfold Geo.H;omega
   ·rw[fp,iA,iA];have q1:((dm g.C).map ((fun x:Nat×List am=>x.1)∘ fun i=>(2+i,a9 0))).Nodup:=List.pairwise_map.2 (List.nodup_range.imp fun{i j} hne e=>hne (by
     have e:2+i=2+j:=e;omega))
    have q2:((dm g.P).map ((fun x:Nat×List am=>x.1)∘ fun i=>(g.H+i,an (de i (bM b i)).bytes))).Nodup:=List.pairwise_map.2 (List.nodup_range.imp fun{i j} hne e=>hne (by
     have e:g.H+i=g.H+j:=e;omega))
    refine List.nodup_append.2 ⟨q1,q2,fun a ha c hc e=> ?_⟩;obtain⟨i,hi,rfl⟩:=dc.1 ha;obtain⟨j,hj,rfl⟩:=dc.1 hc;have e:2+i=g.H+j:=e;have:=fo.1 hi;unfold Geo.H at e;omega
   ·rcases gW.1 hx with hx | hx
    ·obtain⟨j,hj,_,e⟩:=po (i:=x.1) (v:=x.2) hx;rw[e];exact hz
    ·obtain⟨j,hj,_,e⟩:=pp (i:=x.1) (v:=x.2) hx;rw[e];exact mt (jX (gH _ _) (ir hb j))
  ·obtain rfl:=dO.1 hl;refine⟨fun x hx=> ?_,by simp,fun x hx=> ?_⟩
   ·rw[dO.1 hx];show 0<_;omega
   ·rw[dO.1 hx];exact mt (kw ⟨by omega,by omega⟩ _ _ _)
theorem CY {S T:RS} {g:Geo} {b:List Int} (hg:g.good) (h0:g.oF<=S.n0) (h1:g.oW<=S.n1) (hl:b.length=g.bts.toNat) (hb:aP b) (k:AllW S (co g b) T):Inv T (MS.new g b) 0 0 1 []:=by
 have hN:=Geo.nats hg;have hr:=Geo.room hg h0;have hpc:cB b=g.P:=by unfold cB;rw[hl,hN.bp]
 unfold co at k;cases k with
 | @step _ U1 _ _ _ k1 k=>
  cases k with
  | @step _ U2 _ _ _ k2 k=>
   cases k with
   | @step _ U3 _ _ _ k3 k=>
    cases k with
    | nil k4=>
     have n3:U2.n0=S.n0:=k2.n0.trans k1.n0;have hn0:T.n0=S.n0:=k4.n0.trans (k3.n0.trans n3);have hn1:T.n1=S.n1:=k4.n1.trans (k3.n1.trans (k2.n1.trans k1.n1));have hU3:U3.n0=S.n0:=k3.n0.trans n3;have hlast:∀i,i<S.n0->i≠0->T.rd i=U2.rd i:=fun i hi hne=>by
      rw[k4.else_ i (by rw[hU3];exact hi) (by simp),k3.else' (by rw[n3];exact hi) fun v hv=>by
       simp only[dO,Prod.mk.injEq]at hv;exact hne hv.1]
     have hz:∀i,2<=i->i<2+g.C->T.rd i=bK 64 0:=fun i h2 h3=>by
      rw[hlast i (by omega) (by omega),k2.at_ i (a9 0) (List.mem_append_left _ (dc.2 ⟨i - 2,fo.2 (by omega),by rw[show 2+(i - 2)=i by omega]⟩))];exact so 0
     have h1z:T.rd 1=bK 64 0:=by
      rw[hlast 1 (by omega) (by omega),k2.else' (by rw[k1.n0];omega) fun v hv=>by
       rcases gW.1 hv with hv | hv
       ·obtain⟨j,hj,e,_⟩:=po hv;omega
       ·obtain⟨j,hj,e,_⟩:=pp hv;unfold Geo.H at e;omega]
      rw[k1.at_ 1 (a9 0) (by simp)];exact so 0
     have hh:∀i,i<g.P->T.rd (g.H+i)=(de i (bM b i)).bytes:=fun i hi=>by
      rw[hlast _ (by unfold Geo.H;omega) (by unfold Geo.H;omega),k2.at_ (g.H+i) _ (List.mem_append_right _ (dc.2 ⟨i,fo.2 hi,rfl⟩))];exact jT _
     have hsb:T.rd 0=(dt 1 g 0 1).bytes:=by
      rw[k4.else_ 0 (by rw[hU3];omega) (by simp),k3.at_ 0 _ (dO.2 rfl)];exact jT _
     have hci:∀i x,(aM b)[i]? =some x->i<g.P/\x=bM b i:=fun i x hx=>by
      have hi:i<g.P:=by have:=(dp.1 hx).1;rwa [gJ,hpc]at this
      rw[lF b (by rw[hpc];exact hi)]at hx;exact⟨hi,(Option.some.inj hx).symm⟩
     refine{good:=hg,n0:=by rw[hn0];exact h0,n1:=by rw[hn1];exact h1,dry:=k4.dry,bb:=k4.bb,sup1:=bq _,sb:=hsb,other:=fun x hx=> ?_,gen:=⟨by show(1:Int)<=1;omega,by show(1:Int)<=_;omega⟩,homl:=by show(aM b).length=_;rw[gJ];exact hpc,homb:=fun x hx=> ?_,hom:=fun i x hx=> ?_,ring:=⟨by rw[hn0];show 2+g.C<=_;omega,by show 2<=g.C;have:=hN.c1;omega,hN.c2,by show 0<g.C;have:=hN.c1;omega,⟨by omega,by omega⟩,fun t ht=>(by cases ht),bq _,fun k hk=>(by simp[bO]at hk)⟩,q:=⟨by omega,by simp⟩,junk:=fun j _ hj=> ?_,at0:=(Nat.zero_mod _).symm,seq:=rfl,used:=rfl,len:=hl,bytes:=hb,rows:=rfl}
     ·have hx:eo T.n0 T.n1 (T.rd 1)=some x:=hx;rw[h1z]at hx;unfold eo at hx;rw[if_neg (fun h=>by have:=h.1;rw[um]at this;cases this)]at hx;cases hx
     ·obtain⟨i,hi0⟩:=List.mem_iff_getElem?.1 hx;obtain⟨hi,rfl⟩:=hci i x hi0;exact⟨gH _ _,ir hb i⟩
     ·obtain⟨hi,rfl⟩:=hci i x hx;exact hh i hi
     ·left
      have hp:=kQ (show 0<g.C by have:=hN.c1;omega) 0 j;show dF (T.rd (cI 2 g.C 0 j))=false;rw[hz _ hp.1 hp.2];exact um
theorem RS.fmt {S:RS} {g:Geo} {b:List Int} (hu:S.Up) (hd:S.Dry) (hbb:S.BB) (hg:g.good) (h0:g.oF<=S.n0) (h1:g.oW<=S.n1) (hl:b.length=g.bts.toNat) (hb:aP b):
  ∃T,S.bat (co g b)=(T,0)/\T.Up/\T.n0=S.n0/\T.n1=S.n1/\Inv T (MS.new g b) 0 0 1 []:=by
 have hok:=mu (S:=S) hg h0 hb;obtain⟨T,e,hT,t0,t1,tb,hc⟩:=RS.bat_spec (co g b) S hd hbb hok;obtain⟨u1,u2⟩:=RS.bat_up (co g b) S hu fun l hl x hx=>(hok l hl).lt x hx;rw[hT]at u1 u2;have u1:e=0:=u1;subst u1;refine⟨T,hT,u2,t0,t1, ?_⟩;rcases hc with⟨_,hA⟩ | ⟨he,_⟩
 ·exact CY hg h0 h1 hl hb hA
 ·cases he
theorem Inv.cmt_up {S:RS} {M:MS} {n p0:Nat} {q0:Int} {ts:List (List Img)} {b:List Int} (h:Inv S M n p0 q0 ts) (hu:S.Up) (hn:n<=1000) (hl:b.length=M.b.length) (hb:aP b):
  ∃T,S.cmt M b=(T,0)/\T.Up/\T.n0=S.n0/\T.n1=S.n1/\∃p q us,Inv T (M.next b) (n+2) p q us:=by
 obtain⟨T,e,hT,t0,t1,tb,hc⟩:=h.cmt hn hl hb;obtain⟨u1,u2⟩:=RS.bat_up (M.bats b) S hu fun l hl' x hx=>(h.bats_ok (by omega) hl hb l hl').lt x hx;unfold RS.cmt at hT;rw[hT]at u1 u2;have u1:e=0:=u1;subst u1;refine⟨T,hT,u2,t0,t1, ?_⟩;rcases hc with⟨_,hI⟩ | ⟨he,_⟩
 ·exact hI
 ·cases he
structure RS.Rdy (S:RS):Prop where
 n0:S.n0<=4096
 n1:S.n1<=4096
 d0:0<=S.done
 d1:S.done<=500000
 fu:S.fuse<=1000000
 few:S.Few 100
 bb:S.BB
structure MS.Ok (M:MS) (S:RS):Prop where
 good:M.g.good
 n0:M.g.oF<=S.n0
 n1:M.g.oW<=S.n1
 sup1:M.sup<=1
 gen:0<=M.gen/\M.gen<=1000000
 seq:0<=M.seq/\M.seq<=1000000
 at0:M.at0<M.g.C
 used:M.used<=M.g.C
 homl:M.home.length=M.g.P
 homb:∀x ∈ M.home,x.length=48/\aP x
 len:M.b.length=M.g.bts.toNat
 bytes:aP M.b
def fB (ls:List cA):Nat:=(ls.map fun l=>l.length+1).sum
theorem RS.write_wyM (S:RS) (dev i:Int) (b:List am):S.done<=(S.write dev i b).done/\(S.write dev i b).done<=S.done+1/\((S.write dev i b).fuse<=S.fuse\/(S.write dev i b).fuse<=0):=by
 have ha:S.done<=S.after.done/\S.after.done<=S.done+1/\(S.after.fuse<=S.fuse\/S.after.fuse<=0):=by
  unfold RS.after;split
  ·refine⟨by show S.done<=S.done+1;omega,by show S.done+1<=_;omega,aA ?_⟩;show(if 0<S.fuse then S.fuse - 1 else S.fuse)<=S.fuse;split<;>omega
  ·exact⟨fP _,by show S.done<=_;omega,aA (fP _)⟩
 unfold RS.write;split
 ·split
  ·obtain⟨p1,p2,p3,p4,p5⟩:=S.after.put_rest dev i.toNat b;rw[p1,p3];exact ha
  ·exact ha
 ·exact⟨fP _,by omega,aA (fP _)⟩
theorem RS.flush_wyM (S:RS) (dev:Int):S.done<=(S.flush dev).done/\(S.flush dev).done<=S.done+1/\((S.flush dev).fuse<=S.fuse\/(S.flush dev).fuse<=0):=by
 have ha:S.done<=S.after.done/\S.after.done<=S.done+1/\(S.after.fuse<=S.fuse\/S.after.fuse<=0):=by
  unfold RS.after;split
  ·refine⟨by show S.done<=S.done+1;omega,by show S.done+1<=_;omega,aA ?_⟩;show(if 0<S.fuse then S.fuse - 1 else S.fuse)<=S.fuse;split<;>omega
  ·exact⟨fP _,by show S.done<=_;omega,aA (fP _)⟩
 unfold RS.flush;split
 ·split
  ·obtain⟨p1,p2,p3,p4,p5⟩:=S.after.fl_rest dev;rw[p1,p3];exact ha
  ·exact ha
 ·exact⟨fP _,by omega,aA (fP _)⟩
theorem RS.wrs_wyM:∀(l:cA) (S:RS),S.done<=(S.wrs l).1.done/\(S.wrs l).1.done<=S.done+l.length/\((S.wrs l).1.fuse<=S.fuse\/(S.wrs l).1.fuse<=0)
 | [],S=>⟨fP _,by show S.done<=_;simp,aA (fP _)⟩
 | (i,b)::l,S=>by
  obtain⟨w1,w2,w3⟩:=S.write_wyM 0 (i:Int) b;unfold RS.wrs;split
  ·obtain⟨v1,v2,v3⟩:=RS.wrs_wyM l (S.write 0 (i:Int) b);rw[cK];exact⟨by omega,by omega,by omega⟩
  ·rw[cK];exact⟨w1,by show(S.write 0 (i:Int) b).done<=_;omega,w3⟩
theorem RS.bat_way:∀(ls:List cA) (S:RS),S.done<=(S.bat ls).1.done/\(S.bat ls).1.done<=S.done+fB ls/\((S.bat ls).1.fuse<=S.fuse\/(S.bat ls).1.fuse<=0)
 | [],S=>⟨fP _,by show S.done<=_;simp[fB],aA (fP _)⟩
 | l::ls,S=>by
  obtain⟨w1,w2,w3⟩:=RS.wrs_wyM l S;obtain⟨f1,f2,f3⟩:=(S.wrs l).1.flush_wyM 0;have e:fB (l::ls)=l.length+1+fB ls:=rfl;rw[RS.bat_cons,e];split
  ·exact⟨w1,by show(S.wrs l).1.done<=_;omega,w3⟩
  ·split
   ·exact⟨by show S.done<=((S.wrs l).1.flush 0).done;omega,by show((S.wrs l).1.flush 0).done<=_;omega,by show((S.wrs l).1.flush 0).fuse<=_\/((S.wrs l).1.flush 0).fuse<=0;omega⟩
   ·obtain⟨v1,v2,v3⟩:=RS.bat_way ls ((S.wrs l).1.flush 0);exact⟨by omega,by omega,by omega⟩
theorem RS.wrs_D1 (l:cA) (S:RS) (h:∀x ∈ l,x.1<S.n0):(S.wrs l).1.D1=S.D1/\(S.wrs l).1.n0=S.n0/\(S.wrs l).1.n1=S.n1:=by
 have:=(RS.wrs_spec l S h).1;exact⟨this.D1,this.n0,this.n1⟩
theorem RS.bat_D1:∀(ls:List cA) (S:RS),(∀l ∈ ls,∀x ∈ l,x.1<S.n0)->(S.bat ls).1.D1=S.D1/\(S.bat ls).1.n0=S.n0/\(S.bat ls).1.n1=S.n1
 | [],S,_=>⟨rfl,rfl,rfl⟩
 | l::ls,S,h=>by
  obtain⟨w1,w2,w3⟩:=RS.wrs_D1 l S (h l eV);have s2:=((S.wrs l).1.flush0).1;rw[RS.bat_cons];split
  ·exact⟨w1,w2,w3⟩
  ·split
   ·exact⟨s2.D1.trans w1,s2.n0.trans w2,s2.n1.trans w3⟩
   ·obtain⟨v1,v2,v3⟩:=RS.bat_D1 ls ((S.wrs l).1.flush 0) (fun k hk x hx=>by rw[s2.n0,w2];exact h k (fG _ hk) x hx);exact⟨v1.trans (s2.D1.trans w1),v2.trans (s2.n0.trans w2),v3.trans (s2.n1.trans w3)⟩
theorem MS.bats_total {S:RS} {M:MS} {n p0:Nat} {q0:Int} {ts:List (List Img)} {b:List Int} (h:Inv S M n p0 q0 ts) (hl:b.length=M.b.length):fB (M.bats b)<=40:=by
 have hN:=Geo.nats h.good;have hp:cB b=M.g.P:=by unfold cB;rw[hl,h.len,hN.bp]
 have hle:(M.dif b).length<=M.g.P:=by
  have:=pm (aM M.b) (aM b)
  rwa [gJ b,hp]at this
 have hh:M.homW.length<=M.g.P:=by
  unfold MS.homW;rw[fZ];exact aZ (List.length_filter_le _ _) (by simp)
 have hp2:=hN.p2;have ha:fB (M.appW b)=(M.dif b).length+3:=by
  unfold MS.appW fB;simp[lA]
 unfold MS.bats;split
 ·simp[fB]
 ·split
  ·have e:fB ([M.homW,M.supW]++M.appW b)=M.homW.length+1+(2+fB (M.appW b)):=rfl;rw[e,ha];omega
  ·have e:fB ([]++M.appW b)=fB (M.appW b):=rfl;rw[e,ha];omega
theorem Inv.ok {S:RS} {M:MS} {n p0:Nat} {q0:Int} {ts:List (List Img)} (h:Inv S M n p0 q0 ts) (hn:n<=1000):M.Ok S:=by
 have hg:=h.gen;have hq:=h.q;exact⟨h.good,h.n0,h.n1,h.sup1,⟨by omega,by omega⟩,by rw[h.seq];exact⟨by omega,by omega⟩,by rw[h.at0];exact fO _ h.C0,by rw[h.used];exact h.ring.fits,h.homl,h.homb,h.len,h.bytes⟩
theorem sp {S T:RS} {m:Nat} (hd:T.Dry) (h:S.Few m) (h1:T.D1=S.D1) (h2:T.n1=S.n1):T.Few m:=⟨fun i hi=>by rw[hd i hi];exact bq _,fun i hi=>by rw[h1];exact h.2 i (by rw[←h2];exact hi)⟩
end
section
theorem lG (t:aV) (h:t≠ 23 /\t≠ 29) (a:aN):aE t a=(do if←isAgg t then pure (al (←loadCells a (←sizeOf t)))else load a):=rfl
theorem lH (t:aV) (h:t≠ 23 /\t≠ 29) (a:aN) (v:am):aL t a v=(do
  if v.cells.size≠(←sizeOf t)then stuck "storeVar: the value has not the size of the variable"
  storeCells a v.cells.toList):=rfl
attribute [-go_sem] aE aL
attribute [local go_sem] lG lH
def Geo.cs (g:Geo):List am:= [ab af g.b,ab af g.s,ab af g.y,ab af g.a,ab af g.r]
set_option maxRecDepth 100000 in
theorem cF {x:ak} {B:Nat} {t:aV} {g:Geo} (h:aB x B t g.cs):(aE 23 ⟨B,0,none⟩).run aj x=.ok (al g.v) x:=
 iL x B 0 _ g.cs _ h.range Tryz.underlying23 rfl (by kernel_rfl)
theorem wv:(aj.info? 29).map (·.size)=some 8:=by kernel_rfl
def db (a b c d e f h i:Int):List am:= [ab af a,ab af b,ab af c,ab af d,ab af e,ab af f,ab af h,ab af i]
set_option maxRecDepth 100000 in
theorem sr {x:ak} {B:Nat} {t:aV} {a b c d e f h i:Int} (hr:aB x B t (db a b c d e f h i)):(aE 29 ⟨B,0,none⟩).run aj x=.ok (al (db a b c d e f h i).toArray) x:=
 iL x B 0 _ (db a b c d e f h i) _ hr.range Tryz.underlying29 rfl (by kernel_rfl)
theorem su {x:ak} {B:Nat} {old:List am} {a b c d e f h i:Int} (hr:aB x B 29 old) (ho:old.length=8):
  ∃y,(aL 29 ⟨B,0,none⟩ (al (db a b c d e f h i).toArray)).run aj x=.ok () y/\aB y B 29 (db a b c d e f h i)/\x.grownBy y (some B):=by
 refine⟨_,run_storeVar_row x B _ _ old.toArray (db a b c d e f h i).toArray hr wv (by simpa [db]using ho) (by kernel_rfl),setRow_heap x B _ _ _ _ hr, ?_⟩;exact⟨rfl,rfl,rfl,by rw[setRow_size];exact aJ _,fun k _ hk=>setRow_other x B k _ (fun e=>hk (by rw[e]))⟩
theorem nt (x:ak) (a b c d e f h i:Int):∃y,(aL 29 ⟨x.heap.size,0,none⟩ (al (db a b c d e f h i).toArray)).run aj (x.alloc (ap (db 0 0 0 0 0 0 0 0).toArray 29))=.ok () y/\aB y x.heap.size 29 (db a b c d e f h i)/\ah x.heap.size x y:=
 ⟨_,iU x _ _ (db a b c d e f h i).toArray wv rfl (by kernel_rfl),aB.new x _ _,aR x _⟩
theorem nu (W:ak) (b j:Nat) (v:am):W.grownBy (W.setCell ⟨b,j,none⟩ v) (some b):=
 ⟨rfl,rfl,rfl,(KeepsWalks.setCell W _ v).size,fun k _ hk=>gc _ _ _ k (fun e=>hk (by rw[e]))⟩
section
theorem ww (g:Geo) (hs:g.shape) (w:ak):az aj 76 #[al g.v] w fun e w'=>e=ar (ab af g.bts)/\ah w.heap.size w w':=by
 obtain⟨b1,b2,b3,b4,b5,b6⟩:=Geo.bounds hs;have HBT:Hid (g.bts=10+g.s*g.y+g.b+8*(4+(g.b+7) / 8+g.b)):=rfl;obtain⟨W,hW⟩:=w9nm (w.alloc (ap g.v 23));have r:aB W w.heap.size 23 g.cs:=by rw[←hW];exact aB.new w _ _
 have HB:Hid (ah w.heap.size w W):=by show ah _ _ _;rw[←hW];exact aR w _
 have c0:=r.cell 0 _ rfl;have c1:=r.cell 1 _ rfl;have c2:=r.cell 2 _ rfl;obtain⟨h1,h2,h3,h4,h5,h6,h7,h8⟩:=hs;have m1:1<=g.s*g.y:=b1;have m2:g.s*g.y<=32:=b2;obtain⟨b,hb⟩:=w9nm g.b;obtain⟨s,hs⟩:=w9nm g.s;obtain⟨y,hy⟩:=w9nm g.y;obtain⟨m,hm⟩:=w9nm (s*y);obtain⟨k,hk⟩:=w9nm ((b+7).tdiv 8);rw[hb]at c0 h1 h2 HBT;rw[hs,hy]at m1 m2 HBT;rw[hs]at c1 h3 h4;rw[hy]at c2 h5 h6;rw[hm]at m1 m2 HBT;have hk2:(b+7) / 8=k:=by rw[←hk,Int.tdiv_eq_ediv_of_nonneg (by omega)]
 have hk3:1<=k/\k<=8:=by omega
 have HK2:=ae hk2;obtain⟨k1,k2⟩:=hk3;clear r b1 b2 b3 b4 b5 b6 h7 h8 hb hs hy hk2;go_enter func76,ntmps76;go_wp2_with fail;go_ret;refine⟨?_,HB.out⟩;rw[HBT.out,HK2.out];first
  | rfl
  | exact congrArg (fun x=>Ending.returned (Value.int af x)) (by omega)
theorem nw (g:Geo) (w:ak):az aj 39 #[al g.v] w fun e w'=>e=ar (.bool (decide g.good))/\ah w.heap.size w w':=by
 obtain⟨W,hW⟩:=w9nm (w.alloc (ap g.v 23));have r:aB W w.heap.size 23 g.cs:=by rw[←hW];exact aB.new w _ _
 have HB:Hid (ah w.heap.size w W):=by show ah _ _ _;rw[←hW];exact aR w _
 obtain⟨B,hB⟩:=w9nm w.heap.size;rw[hB]at r;have LG:∀x:aI W,(aE 23 ⟨B,0,none⟩).run aj x.1=.ok (al g.v) x.1:=fun x=>cF (r.below x.2);have c4:∀x:aI W,x.1.cell? ⟨B,4,none⟩=some (ab af g.r):=fun x=>(r.below x.2).cell 4 _ rfl;obtain⟨z,hz⟩:=w9nm (decide g.shape);have C1:Hid (∀x:aI W,az aj 111 #[al g.v] x.1 fun e w''=>e=ar (.bool z)/\∃y:aI W,w''=y.1):=fun x=>mQ x (by have:=CD g x.1;rwa [hz]at this);cases z with
 | false=>
  have hg:Hid (decide g.good=false):=decide_eq_false (fun h=>of_decide_eq_false hz h.1);clear r hz;go_enter func39,ntmps39;go_wp2_with fail;refine ko (by kernel_rfl) (by kernel_rfl) ?_;repeat(go_big_quiet_step (with_reducible (first | exact C1.out _)))
  refine aO ?_;intro x;have HX:Hid (ah w.heap.size w x.1):=HB.out.trans (x.2.mono HB.out.size);clear LG c4;go_wp2_with fail;go_ret;rw[hg.out];exact⟨rfl,HX.out⟩
 | true=>
  have hs:g.shape:=of_decide_eq_true hz;obtain⟨b1,b2,b3,b4,b5,b6⟩:=Geo.bounds hs;have C2:Hid (∀x:aI W,az aj 76 #[al g.v] x.1 fun e w''=>e=ar (ab af g.bts)/\∃y:aI W,w''=y.1):=fun x=>mQ x (ww g hs x.1);have C3:Hid (∀x:aI W,az aj 77 #[ab af g.bts] x.1 fun e w''=>e=ar (ab af g.pgs)/\∃y:aI W,w''=y.1):=fun x=>(vk g.bts x.1 (by omega) (by omega)).mono fun e w'' ⟨h1,h2⟩=>⟨h1,x,h2⟩;have hg:Hid (decide g.good=decide (g.pgs+2<=g.r/\g.r<=256)):=by
   show _=_;rw[decide_eq_decide];exact⟨fun h=>h.2,fun h=>⟨hs,h⟩⟩
  obtain⟨P,hP⟩:=w9nm g.pgs;obtain⟨T,hT⟩:=w9nm g.bts;obtain⟨R,hR⟩:=w9nm g.r;rw[hP,hT]at C3;rw[hT]at C2;rw[hR]at c4;rw[hP,hR]at hg;rw[hP]at b5 b6;clear r hz hs b1 b2 b3 b4 hP hT hR;by_cases q1:P+2<=R
  ·have g1:decide (P+2<=R)=true:=by simpa using q1
   have g1':decide (R≥P+2)=true:=g1;by_cases q2:R<=256
   ·have g2:decide (R<=256)=true:=by simpa using q2
    have hgd:Hid (decide g.good=true):=by show _=_;rw[hg.out];exact decide_eq_true ⟨q1,q2⟩
    go_enter func39,ntmps39;go_wp2_with fail;refine ko (by kernel_rfl) (by kernel_rfl) ?_;repeat(go_big_quiet_step (with_reducible (first | exact C1.out _ | exact C2.out _ | exact C3.out _)))
    refine aO ?_;intro x;have HX:Hid (ah w.heap.size w x.1):=HB.out.trans (x.2.mono HB.out.size);clear LG c4;go_wp2_with fail;go_ret;rw[hgd.out];exact⟨rfl,HX.out⟩
   ·have g2:decide (R<=256)=false:=by simpa using q2
    have hgd:Hid (decide g.good=false):=by show _=_;rw[hg.out];exact decide_eq_false (fun h=>q2 h.2)
    go_enter func39,ntmps39;go_wp2_with fail;refine ko (by kernel_rfl) (by kernel_rfl) ?_;repeat(go_big_quiet_step (with_reducible (first | exact C1.out _ | exact C2.out _ | exact C3.out _)))
    refine aO ?_;intro x;have HX:Hid (ah w.heap.size w x.1):=HB.out.trans (x.2.mono HB.out.size);clear LG c4;go_wp2_with fail;go_ret;rw[hgd.out];exact⟨rfl,HX.out⟩
  ·have g1:decide (P+2<=R)=false:=by simpa using q1
   have g1':decide (R≥P+2)=false:=g1;have hgd:Hid (decide g.good=false):=by show _=_;rw[hg.out];exact decide_eq_false (fun h=>q1 h.1)
   go_enter func39,ntmps39;go_wp2_with fail;refine ko (by kernel_rfl) (by kernel_rfl) ?_;repeat(go_big_quiet_step (with_reducible (first | exact C1.out _ | exact C2.out _ | exact C3.out _)))
   refine aO ?_;intro x;have HX:Hid (ah w.heap.size w x.1):=HB.out.trans (x.2.mono HB.out.size);clear LG c4;go_wp2_with fail;go_ret;rw[hgd.out];exact⟨rfl,HX.out⟩
end
end
section
attribute [-simp] isAgg29 zeroValue29
attribute [-go_sem] aE aL
theorem jZ (w:ak):(zeroValue 29).run aj w=.ok (al (db 0 0 0 0 0 0 0 0).toArray) w:=by kernel_rfl
theorem wy (w:ak):(cY 29 #[]).run aj w=.ok (al (db 0 0 0 0 0 0 0 0).toArray) w:=by kernel_rfl
theorem sw (a c d:Int) (w:ak):(cY 29 #[(0,ab af a),(2,ab af c),(3,ab af d)]).run aj w=.ok (al (db a 0 c d 0 0 0 0).toArray) w:=by kernel_rfl
attribute [local go_sem] lG lH jZ wy
def Geo.szl (g:Geo):List am:=if g.good then db g.bts g.pgs g.slots 2 (2+g.r) (2+g.r+g.pgs) (2+g.r+g.pgs+g.slots) (g.b+g.a)else db 0 0 0 0 0 0 0 0
section
theorem mw (g:Geo) (w:ak):az aj 11 #[al g.v] w fun e w'=>e=ar (al g.szl.toArray)/\ah w.heap.size w w':=by
 have hmx:=w9x
 obtain⟨V,hV⟩:=w9nm (w.alloc (ap g.v 23));have r:aB V w.heap.size 23 g.cs:=by rw[←hV];exact aB.new w _ _
 have hb0:ah w.heap.size w V:=by rw[←hV];exact aR w _
 obtain⟨W,hW⟩:=w9nm (V.alloc (ap (db 0 0 0 0 0 0 0 0).toArray 29));have hb1:ah V.heap.size V W:=by rw[←hW];exact aR V _
 have rz:aB W V.heap.size 29 (db 0 0 0 0 0 0 0 0):=by rw[←hW];exact aB.new V _ _
 have r:=r.below hb1;have HB:w9h w W:=hb0.trans (hb1.mono hb0.size);have HV:Hid (w.heap.size<=V.heap.size):=hb0.size;obtain⟨B,hB⟩:=w9nm w.heap.size;obtain⟨Z,hZ⟩:=w9nm V.heap.size;rw[hZ]at rz HV;have HVW:Hid (w.heap.size<=Z):=HV;rw[hB]at r;have HR:=ae r;have HLG:Hid (∀x,w9b W x->(aE 23 ⟨B,0,none⟩).run aj x=.ok (al g.v) x):=fun x hx=>cF (r.below hx);have HRZ:=ae rz;have L0:=cF r;have HG:=ae (fun x=>nw g x);clear r rz hb0 hb1;by_cases hg:g.good
 ·have hgd:decide g.good=true:=by simpa using hg
  have e1:g.szl=db g.bts g.pgs g.slots 2 (2+g.r) (2+g.r+g.pgs) (2+g.r+g.pgs+g.slots) (g.b+g.a):=by unfold Geo.szl;rw[if_pos hg]
  rw[hgd]at HG;obtain⟨b1,b2,b3,b4,b5,b6⟩:=Geo.bounds hg.1;have HBT:=ae (fun x=>ww g hg.1 x);have HCN:=ae (fun x=>vk g.bts x (by omega) (by omega));have g1:=hg.1;obtain⟨h1,h2,h3,h4,h5,h6,h7,h8⟩:=g1;have h9:=hg.2.1;have h10:=hg.2.2;rw[e1];have hpg:cnt g.bts=g.pgs:=rfl;rw[hpg]at HCN;obtain⟨P,hP⟩:=w9nm g.pgs;obtain⟨T,hT⟩:=w9nm g.bts;obtain⟨M,hM⟩:=w9nm g.slots;obtain⟨bb,hbb⟩:=w9nm g.b;obtain⟨ss,hss⟩:=w9nm g.s;obtain⟨yy,hyy⟩:=w9nm g.y;obtain⟨aa,haa⟩:=w9nm g.a;obtain⟨rr,hrr⟩:=w9nm g.r;have hsy:ss*yy=M:=by rw[←hss,←hyy,←hM];rfl
  have HC:Hid (∀x,w9b W x->x.cell? ⟨B,0,none⟩=some (ab af bb)/\x.cell? ⟨B,1,none⟩=some (ab af ss)/\x.cell? ⟨B,2,none⟩=some (ab af yy)/\x.cell? ⟨B,3,none⟩=some (ab af aa)/\x.cell? ⟨B,4,none⟩=some (ab af rr)):=fun x hx=>by
   have r:=HR.out.below hx;have k0:=r.cell 0 _ rfl;have k1:=r.cell 1 _ rfl;have k2:=r.cell 2 _ rfl;have k3:=r.cell 3 _ rfl;have k4:=r.cell 4 _ rfl;rw[hbb]at k0;rw[hss]at k1;rw[hyy]at k2;rw[haa]at k3;rw[hrr]at k4;exact⟨k0,k1,k2,k3,k4⟩
  rw[hP,hT]at HCN;rw[hT]at HBT;rw[hP,hT,hM,hbb,haa,hrr];rw[hM]at b1 b2;rw[hT]at b3 b4;rw[hP]at b5 b6 h9;rw[hbb]at h1 h2;rw[hss]at h3 h4;rw[hyy]at h5 h6;rw[haa]at h7 h8;rw[hrr]at h9 h10;clear e1 hgd hpg hP hT hM hbb hss hyy haa hrr hg;go_enter func11,ntmps11;go_wp2_with fail;go_at_call 39;refine(HG.out _).mono ?_;rintro e x ⟨rfl,hbx⟩;have HX:=ae hbx;have LG:∀z:aI x,(aE 23 ⟨B,0,none⟩).run aj z.1=.ok (al g.v) z.1:=fun z=>HLG.out z.1 (hbx.trans (z.2.mono hbx.size));have C1:∀z:aI x,z.1.cell? ⟨B,1,none⟩=some (ab af ss):=fun z=>(HC.out z.1 (hbx.trans (z.2.mono hbx.size))).2.1;have C2:∀z:aI x,z.1.cell? ⟨B,2,none⟩=some (ab af yy):=fun z=>(HC.out z.1 (hbx.trans (z.2.mono hbx.size))).2.2.1;clear hbx L0;go_wp2_with fail;refine cM (fun u=>∃y:aI x,u=y.1) 9 (.takes [0,2,3,4,5,6] (.two 1 8 (.two 7 8 (.one 8 .leaf) (.one 7 .leaf)) (.one 1 (.one 7 .leaf)))) hmx (by kernel_rfl) (by intro c x v a w h;cases x<;>exact h) ⟨⟨x.drew,(aF _ x).drew⟩,rfl⟩ ?_;repeat(rw[bj];simp only[au,ay];go_big_quiet_step (fail);refine aO ?_)
  rw[bo];clear LG C1 C2;obtain⟨X,hX⟩:=w9nm x.drew;have HXX:Hid (ah x.heap.size x X):=by show ah _ _ _;rw[←hX];exact(aF _ x).drew
  rw[hX];clear hX;refine⟨?_, ?_⟩
  rotate_left
  focus
   simp only[au,ay];obtain⟨x1,hx1⟩:=w9nm (X.alloc (ap (db 0 0 0 0 0 0 0 0).toArray 29));have hrz:aB x1 X.heap.size 29 (db 0 0 0 0 0 0 0 0):=by rw[←hx1];exact aB.new X _ _
   have HX1:w9h x x1:=HXX.out.trans (by rw[←hx1];exact(aR X _).mono HXX.out.size);obtain⟨Bk,hBk⟩:=w9nm X.heap.size;rw[hBk]at hrz;have HKW:Hid (W.heap.size<=Bk):=by show _<=_;rw[←hBk];exact aZ HX.out.size HXX.out.size
   have HRK:=ae hrz;clear hrz;go_wp2_with fail;try rw[hx1]
   refine aG ⟨⟨x1,HX1.out⟩,rfl⟩ ?_;clear hx1;rw[aT];simp only[au,ay];go_wp2_with fail;go_at_call 76;refine(HBT.out _).mono ?_;rintro e x2 ⟨rfl,hbq⟩;have HX2:=w9bt HX1 hbq;have B3:Hid ((cY 29 #[(0,ab af T),(2,ab af M),(3,ab af 2)]).run aj x2=.ok (al (db T 0 M 2 0 0 0 0).toArray) x2):=sw T M 2 x2;obtain⟨y0,ST,hk,hgk⟩:=su (a:=T) (b:=0) (c:=M) (d:=2) (e:=0) (f:=0) (h:=0) (i:=0) (HRK.out.below hbq) rfl;have RK:=ae hk;have hb2:=HX.out.trans (HX2.out.mono HX.out.size);have HBY:w9h W y0:=hb2.grown hgk hb2.size (fun j e=>by cases e;exact HKW.out);have HST:=ae ST;clear hbq hk hgk hb2 ST;go_wp2_with fail;refine aG ⟨⟨x2,HX2.out⟩,rfl⟩ ?_;rw[aT];simp only[au,ay];refine fJ _ _ rfl rfl [(0,ab af T),(2,ab af M),(3,ab af 2)] _ rfl B3.out ?_;refine wpList_nil ?_
  rotate_left
  focus
   simp only[au,ay];go_wp2_with fail;go_at_call 76;refine(HBT.out _).mono ?_;rintro e x1 ⟨rfl,hbq⟩;have HX1:=w9bt HXX hbq;clear hbq;go_wp2_with fail;refine aG ⟨⟨x1,HX1.out⟩,rfl⟩ ?_;have B3:Hid ((cY 29 #[(0,ab af T),(2,ab af M),(3,ab af 2)]).run aj x1=.ok (al (db T 0 M 2 0 0 0 0).toArray) x1):=sw T M 2 x1;obtain⟨x2,hx2⟩:=w9nm (x1.alloc (ap (db 0 0 0 0 0 0 0 0).toArray 29));have HX2:w9h x x2:=HX1.out.trans (by rw[←hx2];exact(aR x1 _).mono HX1.out.size);have B3':Hid ((cY 29 #[(0,ab af T),(2,ab af M),(3,ab af 2)]).run aj x2=.ok (al (db T 0 M 2 0 0 0 0).toArray) x2):=sw T M 2 x2;obtain⟨y0,ST,hk,hbk⟩:=nt x1 T 0 M 2 0 0 0 0;obtain⟨Bk,hBk⟩:=w9nm x1.heap.size;rw[hx2,hBk]at ST;rw[hBk]at hk;have RK:=ae hk;have HKW:Hid (W.heap.size<=Bk):=by show _<=_;rw[←hBk];exact aZ HX.out.size HX1.out.size
   have HBY:w9h W y0:=HX.out.trans ((HX1.out.trans (hbk.mono HX1.out.size)).mono HX.out.size);have HST:=ae ST;clear hk hbk ST;refine⟨?_, ?_⟩
   rotate_left
   focus
    simp only[au,ay];go_wp2_with fail;try rw[hx2]
    refine aG ⟨⟨x2,HX2.out⟩,rfl⟩ ?_;rw[aT];simp only[au,ay];refine fJ _ _ rfl rfl [(0,ab af T),(2,ab af M),(3,ab af 2)] _ rfl B3'.out ?_;refine wpList_nil ?_
   rotate_left
   focus
    simp only[au,ay];refine fJ _ _ rfl rfl [(0,ab af T),(2,ab af M),(3,ab af 2)] _ rfl B3.out ?_;refine wpList_nil ?_;refine aG ⟨⟨x1,HX1.out⟩,rfl⟩ ?_;rw[aT];simp only[au,ay];go_wp2_with fail;try rw[hx2]
  all_goals
   refine aG ⟨⟨x2,HX2.out⟩,rfl⟩ ?_;rw[cu];simp only[be,bf];have ST:=HST.out;obtain⟨y1,h1'⟩:∃y,y0.setCell ⟨Bk,1,none⟩ (ab af P)=y:=⟨_,rfl⟩;obtain⟨y2,h2'⟩:∃y,y1.setCell ⟨Bk,4,none⟩ (ab af (2+rr))=y:=⟨_,rfl⟩;obtain⟨y3,h3'⟩:∃y,y2.setCell ⟨Bk,5,none⟩ (ab af (2+rr+P))=y:=⟨_,rfl⟩;obtain⟨y4,h4'⟩:∃y,y3.setCell ⟨Bk,6,none⟩ (ab af (2+rr+P+M))=y:=⟨_,rfl⟩;obtain⟨y5,h5'⟩:∃y,y4.setCell ⟨Bk,7,none⟩ (ab af (bb+aa))=y:=⟨_,rfl⟩;have k0:=RK.out;have k1:aB y1 Bk 29 (db T P M 2 0 0 0 0):=by rw[←h1'];exact k0.set 1 _
   have k2:aB y2 Bk 29 (db T P M 2 (2+rr) 0 0 0):=by rw[←h2'];exact k1.set 4 _
   have k3:aB y3 Bk 29 (db T P M 2 (2+rr) (2+rr+P) 0 0):=by rw[←h3'];exact k2.set 5 _
   have k4:aB y4 Bk 29 (db T P M 2 (2+rr) (2+rr+P) (2+rr+P+M) 0):=by rw[←h4'];exact k3.set 6 _
   have k5:aB y5 Bk 29 (db T P M 2 (2+rr) (2+rr+P) (2+rr+P+M) (bb+aa)):=by rw[←h5'];exact k4.set 7 _
   have e1':y0.grownBy y1 (some Bk):=by rw[←h1'];exact nu y0 Bk 1 _
   have e2':y1.grownBy y2 (some Bk):=by rw[←h2'];exact nu y1 Bk 4 _
   have e3':y2.grownBy y3 (some Bk):=by rw[←h3'];exact nu y2 Bk 5 _
   have e4':y3.grownBy y4 (some Bk):=by rw[←h4'];exact nu y3 Bk 6 _
   have e5':y4.grownBy y5 (some Bk):=by rw[←h5'];exact nu y4 Bk 7 _
   have bw:∀y,y0.grownBy y (some Bk)->ah W.heap.size W y:=fun y hg=>HBY.out.grown hg HBY.out.size (fun j e=>by cases e;exact HKW.out);have q1:=bw y1 e1';have q2:=bw y2 (e1'.trans e2');have q3:=bw y3 ((e1'.trans e2').trans e3');have q4:=bw y4 (((e1'.trans e2').trans e3').trans e4');have q5:=bw y5 ((((e1'.trans e2').trans e3').trans e4').trans e5');have a0:y0.cell? ⟨Bk,0,none⟩=some (ab af T):=k0.cell 0 _ rfl;have a01:y0.cell? ⟨Bk,1,none⟩=some (ab af 0):=k0.cell 1 _ rfl;have a0':=k0.frozen 1;have a1:y1.cell? ⟨Bk,3,none⟩=some (ab af 2):=k1.cell 3 _ rfl;have a11:y1.cell? ⟨Bk,4,none⟩=some (ab af 0):=k1.cell 4 _ rfl;have a1':=k1.frozen 4;have a12:=(HC.out y1 q1).2.2.2.2;have a2:y2.cell? ⟨Bk,4,none⟩=some (ab af (2+rr)):=k2.cell 4 _ rfl;have a21:y2.cell? ⟨Bk,1,none⟩=some (ab af P):=k2.cell 1 _ rfl;have a22:y2.cell? ⟨Bk,5,none⟩=some (ab af 0):=k2.cell 5 _ rfl;have a2':=k2.frozen 5;have a3:y3.cell? ⟨Bk,5,none⟩=some (ab af (2+rr+P)):=k3.cell 5 _ rfl;have a31:y3.cell? ⟨Bk,2,none⟩=some (ab af M):=k3.cell 2 _ rfl;have a32:y3.cell? ⟨Bk,6,none⟩=some (ab af 0):=k3.cell 6 _ rfl;have a3':=k3.frozen 6;have a4:=(HC.out y4 q4).1;have a41:=(HC.out y4 q4).2.2.2.1;have a42:y4.cell? ⟨Bk,7,none⟩=some (ab af 0):=k4.cell 7 _ rfl;have a4':=k4.frozen 7;have l5:=sr k5;obtain⟨y6,ST6,hr6,hg6⟩:=su (a:=T) (b:=P) (c:=M) (d:=2) (e:=2+rr) (f:=2+rr+P) (h:=2+rr+P+M) (i:=bb+aa) (HRZ.out.below q5) rfl;have LD6:=sr hr6;have q6:w9b w y6:=(HB.out.trans (q5.mono HB.out.size)).grown hg6 (HB.out.trans (q5.mono HB.out.size)).size (fun j e=>by cases e;exact HVW.out);have HQ6:=ae q6;clear k0 k1 k2 k3 k4 k5 e1' e2' e3' e4' e5' bw q1 q2 q3 q4 q5 q6 hr6 hg6;go_wp2_with fail;go_at_call 77;refine(HCN.out y0).mono ?_;rintro e zz ⟨rfl,hz⟩;obtain rfl:=hz.symm;clear hz;go_wp2_with fail;refine bl (ff rfl rfl LD6) rfl ⟨rfl,HQ6.out⟩
 ·have hgd:decide g.good=false:=by simpa using hg
  have e1:g.szl=db 0 0 0 0 0 0 0 0:=by unfold Geo.szl;rw[if_neg hg]
  rw[hgd]at HG;rw[e1];clear hg hgd e1;go_enter func11,ntmps11;go_wp2_with fail;go_at_call 39;refine(HG.out _).mono ?_;rintro e x ⟨rfl,hbx⟩;obtain⟨y6,ST6,hr6,hg6⟩:=su (a:=0) (b:=0) (c:=0) (d:=0) (e:=0) (f:=0) (h:=0) (i:=0) (HRZ.out.below hbx) rfl;have LD6:=sr hr6;have hb2:=HB.out.trans (hbx.mono HB.out.size);have HQ6:w9h w y6:=hb2.grown hg6 hb2.size (fun j e=>by cases e;exact HVW.out);clear hbx hr6 hg6 hb2 L0;go_wp2_with fail;refine bl (ff rfl rfl LD6) rfl ⟨rfl,HQ6.out⟩
end
end
section
attribute [-simp] isAgg29 zeroValue29
attribute [-go_sem] aE aL
attribute [local go_sem] lG lH jZ wy
section
theorem Geo.szl_eq (g:Geo):∃a b c d e f h i,g.szl=db a b c d e f h i/\c=(if g.good then g.slots else 0)/\(g.good->f=2+g.r+g.pgs)/\(a=g.oB/\b=g.oP/\d=g.oR/\e=g.oH/\h=g.oF/\i=g.oW):=by
 unfold Geo.szl Geo.oB Geo.oP Geo.oR Geo.oH Geo.oF Geo.oW;by_cases hg:g.good
 ·simp only[if_pos hg];exact⟨_,_,_,_,_,_,_,_,rfl,rfl,fun _=>rfl,rfl,rfl,rfl,rfl,rfl,rfl⟩
 ·simp only[if_neg hg];exact⟨_,_,_,_,_,_,_,_,rfl,rfl,fun h=>absurd h hg,rfl,rfl,rfl,rfl,rfl,rfl⟩
end
def Geo.In (g:Geo):Prop:=∀n ∈ [g.b,g.s,g.y,g.a,g.r], -9223372036854775808<=n/\n<=9223372036854775807
end
section
structure MetaRes where
 Mem:Nat->Nat->MS->ea
 isRes:∀m rb M,IsRes (Mem m rb M)
def jw (v:am) (f:Nat->Prop):Prop:=∀b off len cap,v=ag (some ⟨b,off,none⟩) len cap->¬f b
def kS (v:am) (w w':ak):Prop:=∀b off len cap,v=ag (some ⟨b,off,none⟩) len cap->w.heap.size<=b
abbrev MetaRes.Both (R:MetaRes) (rb p0 p1 m:Nat) (S:RS) (M:MS):ea:=cS (aX rb p0 p1 S) (R.Mem m rb M)
theorem MetaRes.both (R:MetaRes) (rb p0 p1 m:Nat) (S:RS) (M:MS):IsRes (R.Both rb p0 p1 m S M):=(aX.isRes _ _ _ _).sep (R.isRes _ _ _)
structure MetaOk (R:MetaRes):Prop where
 format:∀{rb p0 p1:Nat} {S:RS} {w:ak} {f:Nat->Prop},aX rb p0 p1 S w f->S.Rdy->S.Up->∀{g:Geo},g.In->g.good->g.oF<=S.n0->g.oW<=S.n1->∀{v:am} {bs:List Int},Sl aq w v bs->aP bs->bs.length=g.bts.toNat->(bs≠ []->jw v f)->
  az aj 57 #[ao (some ⟨rb,0,none⟩),al g.v,v] w fun e w'=>∃m,e=ar (aQ #[ao (some ⟨m,0,none⟩),ab af 0])/\∃f',R.Both rb p0 p1 m (S.bat (co g bs)).1 (MS.new g bs) w' f'/\Turn f f' w w'
 format_no:∀{rb p0 p1:Nat} {S:RS} {w:ak} {f:Nat->Prop},aX rb p0 p1 S w f->S.Rdy->∀{g:Geo},g.In->∀{v:am} {bs:List Int},Sl aq w v bs->¬(g.good/\g.oF<=S.n0/\g.oW<=S.n1/\bs.length=g.bts.toNat)->
  az aj 57 #[ao (some ⟨rb,0,none⟩),al g.v,v] w fun e w'=>e=ar (aQ #[ao none,ab af 1])/\ah w.heap.size w w'
 open_:∀{rb p0 p1:Nat} {S:RS} {w:ak} {f:Nat->Prop},aX rb p0 p1 S w f->S.Rdy->S.Up->∀{M:MS},S.opn=some M->
  az aj 65 #[ao (some ⟨rb,0,none⟩)] w fun e w'=>∃m,e=ar (aQ #[ao (some ⟨m,0,none⟩),ab af 0])/\∃f',R.Both rb p0 p1 m S M w' f'/\Turn f f' w w'
 open_no:∀{rb p0 p1:Nat} {S:RS} {w:ak} {f:Nat->Prop},aX rb p0 p1 S w f->S.Rdy->S.Up->2<=S.n0->S.opn=none->
  az aj 65 #[ao (some ⟨rb,0,none⟩)] w fun e w'=>e=ar (aQ #[ao none,ab af 11])/\ah w.heap.size w w'
 open_nil:∀w:ak,az aj 65 #[ao none] w fun e w'=>e=ar (aQ #[ao none,ab af 1])/\ah w.heap.size w w'
 bytes:∀{m rb:Nat} {M:MS} {w:ak} {f:Nat->Prop},R.Mem m rb M w f->M.b.length<=100000->aP M.b->az aj 68 #[ao (some ⟨m,0,none⟩)] w fun e w'=>∃v,e=ar v/\Sl aq w' v M.b/\kS v w w'/\ah w.heap.size w w'
 bytes_nil:∀w:ak,az aj 68 #[ao none] w fun e w'=>∃v,e=ar v/\Sl aq w' v []/\ah w.heap.size w w'
 room:∀{m rb:Nat} {M:MS} {w:ak} {f:Nat->Prop},R.Mem m rb M w f->M.g.good->M.used<=M.g.C->az aj 69 #[ao (some ⟨m,0,none⟩)] w fun e w'=>e=ar (ab af M.room)/\ah w.heap.size w w'
 room_nil:∀w:ak,az aj 69 #[ao none] w fun e w'=>e=ar (ab af 0)/\ah w.heap.size w w'
 geom:∀{m rb:Nat} {M:MS} {w:ak} {f:Nat->Prop},R.Mem m rb M w f->az aj 71 #[ao (some ⟨m,0,none⟩)] w fun e w'=>e=ar (al M.g.v)/\ah w.heap.size w w'
 geom_nil:∀w:ak,az aj 71 #[ao none] w fun e w'=>e=ar (al (Geo.mk 0 0 0 0 0).v)/\ah w.heap.size w w'
 commit:∀{rb p0 p1 m:Nat} {S:RS} {M:MS} {w:ak} {f:Nat->Prop},R.Both rb p0 p1 m S M w f->S.Rdy->S.down=false->M.Ok S->∀{v:am} {bs:List Int},Sl aq w v bs->aP bs->bs.length=M.b.length->(bs≠ []->jw v f)->
  az aj 60 #[ao (some ⟨m,0,none⟩),v] w fun e w'=>e=ar (ab af (S.cmt M bs).2)/\∃f',(if(S.cmt M bs).2=0 then R.Both rb p0 p1 m (S.cmt M bs).1 (M.next bs)else aX rb p0 p1 (S.cmt M bs).1) w' f'/\Turn f f' w w'
 commit_no:∀{m rb:Nat} {M:MS} {w:ak} {f:Nat->Prop},R.Mem m rb M w f->∀{v:am} {bs:List Int},Sl aq w v bs->bs.length≠M.b.length->
  az aj 60 #[ao (some ⟨m,0,none⟩),v] w fun e w'=>e=ar (ab af 1)/\ah w.heap.size w w'
 commit_nil:∀(w:ak) {v:am} {bs:List Int},Sl aq w v bs->az aj 60 #[ao none,v] w fun e w'=>e=ar (ab af 1)/\ah w.heap.size w w'
theorem dL.split {P Q:ea} {w0 W:ak} {own:Nat->Prop} (hQ:IsRes Q) (h:dL (cS P Q) w0 W own):∃fQ,Q W fQ/\(∀k,fQ k->w0.heap.size<=k/\¬own k)/\dL P w0 W (fun k=>own k\/fQ k):=by
 obtain⟨f,⟨f1,f2,h1,h2,h3,rfl⟩,h4,h5,h6⟩:=h;exact⟨f2,h2,fun k hk=>h4 k (aC hk),f1,h1,fun k hk=>⟨(h4 k (aA hk)).1,fun ho=>ho.elim (h4 k (aA hk)).2 (h3 k hk)⟩,fun k hk=>hk.elim (h5 k) (hQ.lt h2 k),h6⟩
theorem dL.join {P Q:ea} {w0 W:ak} {own fQ:Nat->Prop} (h2:Q W fQ) (hf:∀k,fQ k->w0.heap.size<=k/\¬own k) (h:dL P w0 W (fun k=>own k\/fQ k)):dL (cS P Q) w0 W own:=by
 obtain⟨f,h1,h4,h5,h6⟩:=h;exact⟨_,⟨f,fQ,h1,h2,fun k a b=>(h4 k a).2 (aC b),rfl⟩,fun k hk=>by
  rcases hk with hk | hk
  ·exact⟨(h4 k hk).1,fun ho=>(h4 k hk).2 (aA ho)⟩
  ·exact hf k hk,fun k hk=>h5 k (aA hk),h6⟩
theorem CZ (va vb:am) (xs:List Int) (w:ak) (ha:Sl aq w va xs) (hb:Sl aq w vb xs):
  az aj 67 #[va,vb] w fun e w'=>e=ar (.bool true)/\w'=w:=by
 have k1:=ud ha;have k2:=ud hb;clear ha hb;go_enter func67,ntmps67;go_wp2;go_ret;exact⟨rfl,rfl⟩
def jH (k n:Int):Int:=if n<1 then 0 else k%n
theorem wz {k n:Int} (h:1<=n):0<=jH k n/\jH k n<n:=by
 unfold jH;rw[if_neg (by omega)];exact⟨Int.emod_nonneg _ (by omega),Int.emod_lt_of_pos _ (by omega)⟩
theorem Da (k n:Int) (w:ak) (hn:n<4611686018427387904):
  az aj 142 #[ab af k,ab af n] w fun e w'=>e=ar (ab af (jH k n))/\w'=w:=by
 by_cases h:n<1
 ·go_enter func142,ntmps142;go_wp2;go_ret;exact⟨by simp[jH,h],rfl⟩
 ·go_enter func142,ntmps142;go_wp2;have e:(wrap64 (k.tmod n+n)).tmod n=jH k n:=by
   have h1:k.tmod n=k - n*k.tdiv n:=by have:=Int.mul_tdiv_add_tmod k n;omega
   have h2:k.tmod n<n:=Int.tmod_lt_of_pos k (by omega);have h3: -n<k.tmod n:=by
    have:=Int.tmod_lt_of_pos (-k) (show 0<n by omega);rw[Int.neg_tmod]at this;omega
   have h4:wrap64 (k.tmod n+n)=k.tmod n+n:=by unfold wrap64;omega
   rw[h4,Int.tmod_eq_emod_of_nonneg (by omega),Int.add_emod_right,h1];unfold jH;rw[if_neg (by omega),Int.sub_mul_emod_self_left]
  rw[e];go_ret;exact⟨rfl,rfl⟩
end
section
attribute [-simp] isAgg23 zeroValue23
attribute [-go_sem] aE aL cZ
set_option maxRecDepth 100000 in
theorem wA (g:Geo) (w:ak):(eG 10000 23 (al g.v) (al g.v)).run aj w=.ok true w:=by
 rw[run_equalIn_struct w 9999 23 _ _ (by kernel_rfl) (by kernel_rfl)];have h0:∃f0 f1 f2 f3 f4:Field,aj.fieldsOf 23 =#[f0,f1,f2,f3,f4]/\(f0.name≠ "_" /\f0.type= 3 /\f0.offset=0)/\(f1.name≠ "_" /\f1.type= 3 /\f1.offset=1)/\(f2.name≠ "_" /\f2.type= 3 /\f2.offset=2)/\(f3.name≠ "_" /\f3.type= 3 /\f3.offset=3)/\(f4.name≠ "_" /\f4.type= 3 /\f4.offset=4):=
  ⟨_,_,_,_,_,rfl,⟨by decide,rfl,rfl⟩,⟨by decide,rfl,rfl⟩,⟨by decide,rfl,rfl⟩,⟨by decide,rfl,rfl⟩,⟨by decide,rfl,rfl⟩⟩
 obtain⟨f0,f1,f2,f3,f4,h0,⟨n0,t0,o0⟩,⟨n1,t1,o1⟩,⟨n2,t2,o2⟩,⟨n3,t3,o3⟩,⟨n4,t4,o4⟩⟩:=h0;rw[h0];simp only[Op.eqFields,gR,if_pos n0,if_pos n1,if_pos n2,if_pos n3,if_pos n4,t0,t1,t2,t3,t4,o0,o1,o2,o3,o4];have a0:g.v[0]? =some (ab af g.b):=rfl;have a1:g.v[1]? =some (ab af g.s):=rfl;have a2:g.v[2]? =some (ab af g.y):=rfl;have a3:g.v[3]? =some (ab af g.a):=rfl;have a4:g.v[4]? =some (ab af g.r):=rfl;rw[iI Tryz.underlying3 a0,ed,iI Tryz.underlying3 a0,ed,run_equalIn_int w 9998 3 af af _ _ Tryz.underlying3,ed];simp only[beq_self_eq_true,Bool.not_true,Bool.false_eq_true,if_false,gR];rw[iI Tryz.underlying3 a1,ed,iI Tryz.underlying3 a1,ed,run_equalIn_int w 9998 3 af af _ _ Tryz.underlying3,ed];simp only[beq_self_eq_true,Bool.not_true,Bool.false_eq_true,if_false,gR];rw[iI Tryz.underlying3 a2,ed,iI Tryz.underlying3 a2,ed,run_equalIn_int w 9998 3 af af _ _ Tryz.underlying3,ed];simp only[beq_self_eq_true,Bool.not_true,Bool.false_eq_true,if_false,gR];rw[iI Tryz.underlying3 a3,ed,iI Tryz.underlying3 a3,ed,run_equalIn_int w 9998 3 af af _ _ Tryz.underlying3,ed];simp only[beq_self_eq_true,Bool.not_true,Bool.false_eq_true,if_false,gR];rw[iI Tryz.underlying3 a4,ed,iI Tryz.underlying3 a4,ed,run_equalIn_int w 9998 3 af af _ _ Tryz.underlying3,ed];simp only[beq_self_eq_true,Bool.not_true,Bool.false_eq_true,if_false];first | rfl | simp
set_option maxRecDepth 100000 in
theorem wB (x:ak) (K:Nat) (hK:K<=1000000):∃x',(Instr.makeSlice 76 (ab af (K:Int)) (ab af (K:Int))).run aj x=.ok (ag (some ⟨x.heap.size,0,none⟩) K K) x'/\Sl aq x' (ag (some ⟨x.heap.size,0,none⟩) K K) (bK K 0)/\x.grownBy x' none/\
  x'.ownsRow x.heap.size 5 1 (ag (some ⟨x.heap.size,0,none⟩) K K) K ((bK K 0).map (Value.int aq)):=by
 obtain⟨i0,hi,hz0,hz1,hz2⟩:=eJ ln;obtain⟨x',r,ho,hg⟩:=run_make_full (P:=aj) x x.heap.size 76 5 i0 (ab aq 0) 1 Tryz.underlying76 hi hz0 hz1 af af K (by rw[hz2];omega) (by unfold aS;omega) (aJ _);rw[show(Value.int IntKind.u8 0).cells=#[ab aq 0]from rfl,toList_madeCells_one,Nat.mul_one]at ho;have:=Sl.of_owns (bs:=bK K 0) (by rw[List.map_replicate,List.length_replicate];exact ho);exact⟨x',r,this,hg,by rw[List.map_replicate];exact ho⟩
def Geo.light (g:Geo):Prop:=g.good->g.r<=60/\g.b<=20
instance (g:Geo):Decidable g.light:=by unfold Geo.light;infer_instance
attribute [local go_sem] lG lH
theorem Db (g:Geo) (w:ak):az aj 53 #[al g.v] w fun e w'=>e=ar (.bool (decide g.light))/\ah w.heap.size w w':=by
 obtain⟨W,hW⟩:=w9nm (w.alloc (ap g.v 23));have r:aB W w.heap.size 23 g.cs:=by rw[←hW];exact aB.new w _ _
 have HB:Hid (ah w.heap.size w W):=by show ah _ _ _;rw[←hW];exact aR w _
 obtain⟨B,hB⟩:=w9nm w.heap.size;rw[hB]at r;have HG:=ae (nw g W);have L0:=cF r;have HR:=ae r;obtain⟨rr,hrr⟩:=w9nm g.r;obtain⟨bb,hbb⟩:=w9nm g.b;have HC:Hid (∀x,w9b W x->x.cell? ⟨B,4,none⟩=some (ab af rr)/\x.cell? ⟨B,0,none⟩=some (ab af bb)):=fun x hx=>by
  have r:=HR.out.below hx;have k4:=r.cell 4 _ rfl;have k0:=r.cell 0 _ rfl;rw[hrr]at k4;rw[hbb]at k0;exact⟨k4,k0⟩
 clear r;by_cases hg:g.good
 ·rw[decide_eq_true hg]at HG;by_cases h1:rr<=60
  ·have g1:decide (rr<=60)=true:=by simpa using h1
   by_cases h2:bb<=20
   ·have g2:decide (bb<=20)=true:=by simpa using h2
    have hv:Hid (decide g.light=true):=decide_eq_true fun _=>⟨by omega,by omega⟩;clear hg hrr hbb;go_enter func53,ntmps53;go_wp2_with fail;refine HG.out.mono ?_;rintro e x ⟨rfl,hb⟩;obtain⟨k4,k0⟩:=HC.out x hb;have HX:=w9bt HB hb;clear hb L0;go_wp2_with fail;go_ret;rw[hv.out];first | exact⟨rfl,HX.out⟩ | exact⟨rfl,by rw[←hB];exact HX.out⟩
   ·have g2:decide (bb<=20)=false:=by simpa using h2
    have hv:Hid (decide g.light=false):=decide_eq_false fun h=>by have:=(h hg).2;omega
    clear hg hrr hbb;go_enter func53,ntmps53;go_wp2_with fail;refine HG.out.mono ?_;rintro e x ⟨rfl,hb⟩;obtain⟨k4,k0⟩:=HC.out x hb;have HX:=w9bt HB hb;clear hb L0;go_wp2_with fail;go_ret;rw[hv.out];first | exact⟨rfl,HX.out⟩ | exact⟨rfl,by rw[←hB];exact HX.out⟩
  ·have g1:decide (rr<=60)=false:=by simpa using h1
   have hv:Hid (decide g.light=false):=decide_eq_false fun h=>by have:=(h hg).1;omega
   clear hg hrr hbb;go_enter func53,ntmps53;go_wp2_with fail;refine HG.out.mono ?_;rintro e x ⟨rfl,hb⟩;obtain⟨k4,k0⟩:=HC.out x hb;have HX:=w9bt HB hb;clear hb L0;go_wp2_with fail;go_ret;rw[hv.out];first | exact⟨rfl,HX.out⟩ | exact⟨rfl,by rw[←hB];exact HX.out⟩
 ·rw[decide_eq_false hg]at HG;have hv:Hid (decide g.light=true):=decide_eq_true fun h=>absurd h hg;clear hg hrr hbb;go_enter func53,ntmps53;go_wp2_with fail;refine HG.out.mono ?_;rintro e x ⟨rfl,hb⟩;have HX:=w9bt HB hb;clear hb L0;go_wp2_with fail;go_ret;rw[hv.out];first | exact⟨rfl,HX.out⟩ | exact⟨rfl,by rw[←hB];exact HX.out⟩
end
section
open Go.ChangeShapes Go.WideShapes Go.ChangeAt Go.RowKit Go.Shelf
def xb (y p:Int):Int:=bits BinOp.xor IntKind.u8 y (IntKind.u8.wrap p)
theorem Dc {y p:Int} (h:0<=y/\y<256):0<=xb y p/\xb y p<256:=by
 have hp:0<=IntKind.u8.wrap p/\IntKind.u8.wrap p<256:=by
  have h:IntKind.u8.wrap p=p%256:=by simp[IntKind.wrap,IntKind.bits,IntKind.signed]
  omega
 unfold xb;rw[u8_xor y _ h.1 h.2 hp.1 hp.2];have:=Nat.xor_lt_two_pow (n:=8) (show y.toNat<2^8 by have:=h.2;simp only[Nat.reducePow];omega) (show(IntKind.u8.wrap p).toNat<2^8 by have:=hp.2;simp only[Nat.reducePow];omega);simp only[Nat.reducePow]at this;omega
def lI (bs:List Int) (p:Int×Int):List Int:=bs.set (jH p.1 bs.length).toNat (xb (bs[(jH p.1 bs.length).toNat]?.getD 0) p.2)
def gV (bs:List Int) (ps:List (Int×Int)):List Int:=ps.foldl lI bs
theorem De (bs:List Int) (p:Int×Int):(lI bs p).length=bs.length:=by simp[lI]
theorem my:∀(ps:List (Int×Int)) (bs:List Int),(gV bs ps).length=bs.length
 | [],_=>rfl
 | p::ps,bs=>by
  show(gV (lI bs p) ps).length=_;rw[my ps,De]
theorem pq:∀(ps:List (Int×Int)) (bs:List Int),aP bs->aP (gV bs ps)
 | [],_,h=>h
 | p::ps,bs,h=>pq ps (lI bs p) (h.set (Dc (h _)))
theorem Df (bs:List Int) (ps:List (Int×Int)) (p:Int×Int):gV bs (ps++ [p])=lI (gV bs ps) p:=by
 unfold gV;rw[List.foldl_append]
 rfl
theorem Dg (ps:List (Int×Int)):gV [] ps= []:=je (my ps [])
def sx (bs:List Int) (ps:List (Int×Int)) (v:am) (w w':ak):Prop:=bs≠ []->∃g cap rest,v=ag (some ⟨g,0,none⟩) bs.length cap/\aB w' g 5 ((gV bs ps).map (Value.int aq)++rest)/\w.heap.size<=g/\bs.length<=cap/\cap<=aS
theorem Dh (vb vl:am) (bs:List Int) (ps:List (Int×Int)) (w:ak) (hb:Sl aq w vb bs) (hB:aP bs) (hp:lm w vl ps) (hl:bs.length<=100000):
  az aj 59 #[vb,vl] w fun e w'=>∃v,e=ar v/\Sl aq w' v (gV bs ps)/\kS v w w'/\sx bs ps v w w'/\ah w.heap.size w w':=by
 have hmx:=w9x
 obtain⟨v',w',HA,HO,HBW⟩:=mP w vb bs hb (by omega);obtain⟨a,pcap,rfl,p1,p2,p3,p4⟩:=hp;obtain⟨n,hn⟩:=w9nm ps.length;have HN:=ae hn;have HM:Hid (n<=aS):=by show _<=_;omega
 have HP3:=ae p3;have HP4:=ae p4;have HBB:=ae hB;rw[hn];have hO:=HO.out;clear hb p1 p2 p3 p4 hn hB;rcases hO.2 with⟨rfl,h0⟩ | ⟨g,cap,cur,rfl,hg,hcur,hc1,hc2,hc3,hc4⟩
 ·obtain rfl:bs= []:=je h0;have HS:Hid (Sl aq w' (ag none 0 0) (gV [] ps)):=by show Sl _ _ _ _;rw[Dg];exact Sl.nil _ _
  have HF:Hid (kS (ag none 0 0) w w'):=fun b off len cap e=>by cases e
  have HT:Hid (sx [] ps (ag none 0 0) w w'):=fun h=>absurd rfl h;clear h0 hO HO hl;go_enter func59,ntmps59;go_wp2_with (at_builtin;refine wpList_append_run (.tmp 7) (.tmp 8) 76 rfl rfl _ _ _ rfl rfl HA.out ?_);go_loopw [6] (fun i wr=>i=ab af 0/\wr=w') (fun i _=>0)
  case atStart=>exact⟨rfl,rfl⟩
  case round=>
   obtain⟨rfl,rfl⟩:=hrel;by_cases h0:n=0
   ·subst h0;go_wp2;all_goals(go_ret;exact⟨_,rfl,HS.out,HF.out,HT.out,HBW.out⟩)
   ·have h1:decide ((0:Int)< (n:Int))=true:=by simp;omega
    clear h0;go_wp2;all_goals(go_ret;exact⟨_,rfl,HS.out,HF.out,HT.out,HBW.out⟩)
 ·obtain⟨len,hlen⟩:=w9nm bs.length;rw[hlen]at hl hc1 hc4 HA;have HLEN:=ae hlen;obtain⟨rest,hrest⟩:∃rest,cur.toList=bs.map (Value.int aq)++rest:=⟨cur.toList.drop (len*1),by rw[←hc4,ki]⟩;have hrow:aB w' g 5 (bs.map (Value.int aq)++rest):=by
   show w'.heap[g]? =_;rw[hcur,←hrest]
  have HG:Hid (w.heap.size<=g):=hg;have HC2:Hid (cap<=aS):=hc2;have HC1:Hid (len<=cap):=hc1;have hcap:cap<=9223372036854775807:=by unfold aS at hc2;omega
  clear hO HO hg hcur hc2 hc3 hc4 hrest hlen;go_enter func59,ntmps59;go_wp2_with (at_builtin;refine wpList_append_run (.tmp 7) (.tmp 8) 76 rfl rfl _ _ _ rfl rfl HA.out ?_);go_loopw [6] (fun i wr=>∃k:Nat,k<=n/\i=ab af k/\Hid (aB wr g 5 ((gV bs (ps.take k)).map (Value.int aq)++rest))/\w9h w wr) (fun i _=>n - (aW i).toNat)
  case atStart=>exact⟨0,bq _,rfl,hrow,HBW⟩
  case round=>
   obtain⟨k,hk,rfl,HR,HB⟩:=hrel;obtain⟨L,hL⟩:=w9nm (gV bs (ps.take k));rw[hL]at HR;have hLl:L.length=len:=by rw[←hL,my,HLEN.out]
   have hLb:aP L:=by rw[←hL];exact pq _ _ HBB.out
   have hfin:(k=n\/len=0)->∃v:am,v=ag (some ⟨g,0,none⟩) len cap/\Sl aq wr v (gV bs ps)/\kS v w wr/\sx bs ps v w wr:=fun e=>by
    have e2:gV bs ps=L:=by
     rcases e with e | e
     ·rw[←hL,e,←HN.out,List.take_length]
     ·rw[je (hLl.trans e),je ((my ps bs).trans (HLEN.out.trans e))]
    refine⟨_,rfl, ?_,fun b off l c e=>by cases e;exact HG.out,fun _=>⟨g,cap,rest,by rw[HLEN.out],by rw[e2];exact HR.out,HG.out,by rw[HLEN.out];exact HC1.out,HC2.out⟩⟩;rw[e2];have:=Sl.at (k:=aq) (w:=wr) (b:=g) (off:=0) (cap:=cap) (bs:=L) (by rw[hLl];exact HC1.out) HC2.out HR.out.lt (fun j hj=>by
     refine HR.out.cell _ _ ?_;rw[dC,eU (by simpa using hj),du,bJ hj]
     rfl)
    rwa [hLl]at this
   have HFIN:=ae hfin;clear hfin;by_cases hlt:k<n
   ·have g1:decide ((k:Int)< (n:Int))=true:=by simp;omega
    by_cases hz:0<len
    ·have g2:decide ((0:Int)< (len:Int))=true:=by simp;omega
     have g2':decide ((len:Int)>0)=true:=g2;obtain⟨p,hp⟩:∃p,ps[k]? =some p:=⟨_,bJ (by rw[HN.out];exact hlt)⟩;obtain⟨b,off,rfl,q1,q2⟩:∃b off,a=some ⟨b,off,none⟩/\wr.cell? ⟨b,off+k*2,none⟩=some (ab af p.1)/\wr.cell? ⟨b,off+k*2+1,none⟩=some (ab af p.2):=by
      rcases HP4.out with e | ⟨b,off,rfl,h5,h6⟩
      ·rw[e]at hp;simp at hp
      ·exact⟨b,off,rfl,(HB.out.cell (p:=⟨b,off+k*2,none⟩) h5).trans (h6 k p hp).1,(HB.out.cell (p:=⟨b,off+k*2+1,none⟩) h5).trans (h6 k p hp).2⟩
     obtain⟨⟨i1,i2⟩,⟨i3,i4⟩⟩:=HP3.out p (dI hp);obtain⟨P1,hP1⟩:=w9nm p.1;obtain⟨P2,hP2⟩:=w9nm p.2;rw[hP1]at q1 i1 i2;rw[hP2]at q2 i3 i4;obtain⟨m,hm⟩:∃m:Nat,jH P1 (len:Int)=(m:Int):=⟨(jH P1 (len:Int)).toNat,by have:=(wz (k:=P1) (n:=(len:Int)) (by omega)).1;omega⟩;have hml:m<len:=by have:=(wz (k:=P1) (n:=(len:Int)) (by omega)).2;omega
     obtain⟨y,hy⟩:=w9nm (L[m]?.getD 0);have hyb:=hLb m;rw[hy]at hyb;have d1:wr.cell? ⟨g,m,none⟩=some (ab aq y):=HR.out.cell m _ (by
      rw[eU (by simp;omega),du,bJ (by omega),←hy,bJ (by omega)]
      rfl)
     have f1:wr.frozen? ⟨g,m,none⟩=false:=HR.out.frozen m;have hstep:gV bs (ps.take (k+1))=L.set m (xb y P2):=by
      rw[List.take_succ_eq_append_getElem (by rw[HN.out];exact hlt),Df,hL];have hpe:ps[k]'(by rw[HN.out];exact hlt)=p:=Option.some.inj ((bJ _).symm.trans hp);rw[hpe];unfold lI;rw[hLl,hP1,hP2,hm];show L.set m (xb (L[m]?.getD 0) P2)=_;rw[hy]
     obtain⟨X,hX⟩:=w9nm wr.drew;have HRX:Hid (aB X g 5 (L.map (Value.int aq)++rest)):=by show aB _ _ _ _;rw[←hX];exact HR.out
     have HBX:Hid (ah w.heap.size w X):=by show ah _ _ _;rw[←hX];exact HB.out.drew
     have HXE:Hid (ah wr.heap.size wr X):=by show ah _ _ _;rw[←hX];exact(aF _ wr).drew
     have d2:X.cell? ⟨g,m,none⟩=some (ab aq y):=by rw[←hX];exact d1
     have f2:X.frozen? ⟨g,m,none⟩=false:=HRX.out.frozen m;have hset:=HRX.out.set m (ab aq (xb y P2));rw[List.set_append_left _ _ (by simp;omega),←List.map_set,←hstep]at hset;have HSET:=ae hset;have HBS:Hid (ah w.heap.size w (X.setCell ⟨g,m,none⟩ (ab aq (xb y P2)))):=HBX.out.setCell HG.out _;have HW:Hid (wrap64 ((k:Int)+1)=(k:Int)+1):=gj _ (by have:=HM.out;unfold aS at this;omega);have HLT:=ae hlt;obtain⟨hy1,hy2⟩:=hyb;have Q1:∀z:aI wr,z.1.cell? ⟨b,off+k*2,none⟩=some (ab af P1):=fun z=>(z.2.cell (p:=⟨b,off+k*2,none⟩) (by
      rcases HP4.out with e | ⟨b',off',e',h5,h6⟩
      ·rw[e]at hp;simp at hp
      ·cases e';exact aU h5 HB.out.size)).trans q1
     have Q2:∀z:aI wr,z.1.cell? ⟨b,off+k*2+1,none⟩=some (ab af P2):=fun z=>(z.2.cell (p:=⟨b,off+k*2+1,none⟩) (by
      rcases HP4.out with e | ⟨b',off',e',h5,h6⟩
      ·rw[e]at hp;simp at hp
      ·cases e';exact aU h5 HB.out.size)).trans q2
     have D1:∀z:aI wr,z.1.cell? ⟨g,m,none⟩=some (ab aq y):=fun z=>(z.2.cell (p:=⟨g,m,none⟩) HR.out.lt).trans d1;have HMO:=ae hm;clear hL hLl hLb hp hP1 hP2 hm hset hstep hy hlt hk d1 f1 q1 q2;go_wp2_with fail;refine cM (fun u=>∃y:aI wr,u=y.1) 18 (.takes [0,1,2,3,4,5,6,7,11,12,13,14,15,16] (.one 8 (.takes [9,10,17] .leaf))) hmx (by kernel_rfl) (by intro c x v a w h;cases x<;>exact h) ⟨⟨wr.drew,(aF _ wr).drew⟩,rfl⟩ ?_;rw[hX];repeat(rw[bj];simp only[au,ay];go_big_quiet_step (fail);refine aO ?_)
     rw[bo,aT];simp only[au,ay];clear hX;go_wp2_with fail;refine(Da P1 (len:Int) X (by omega)).mono ?_;rintro e zz ⟨rfl,hz⟩;obtain rfl:=hz.symm;rw[HMO.out];clear hz;go_wp2_with fail;refine aG ⟨⟨X,HXE.out⟩,rfl⟩ ?_;repeat(rw[bj];simp only[au,ay];go_big_quiet_step (fail);refine aO ?_)
     rw[bo,cu];simp only[be,bf];clear Q1 Q2 D1;go_wp2_with fail;refine⟨kk (C:=fun k'=>Hid (aB _ g 5 ((gV bs (ps.take k')).map (Value.int aq)++rest))/\w9h w _) HW.out HLT.out ⟨HSET,HBS⟩,km HW.out HLT.out⟩
    ·obtain rfl:len=0:=by omega
     obtain⟨v,rfl,hs,hf,ht⟩:=HFIN.out (aC rfl);have HS:=ae hs;have HF:=ae hf;have HT:=ae ht;clear hs hf ht hL hLl hLb hz;go_wp2_with fail;all_goals(go_ret;exact⟨_,rfl,HS.out,HF.out,HT.out,HB.out⟩)
   ·obtain rfl:k=n:=by omega
    obtain⟨v,rfl,hs,hf,ht⟩:=HFIN.out (aA rfl);have HS:=ae hs;have HF:=ae hf;have HT:=ae ht;clear hs hf ht hL hLl hLb;go_wp2_with fail;all_goals(go_ret;exact⟨_,rfl,HS.out,HF.out,HT.out,HB.out⟩)
theorem wC (vb vl:am) (bs:List Int) (ps:List (Int×Int)) (w:ak) (hb:Sl aq w vb bs) (hB:aP bs) (hp:lm w vl ps) (hl:bs.length<=100000):
  az aj 59 #[vb,vl] w fun e w'=>∃v,e=ar v/\Sl aq w' v (gV bs ps)/\kS v w w'/\ah w.heap.size w w':=
 (Dh vb vl bs ps w hb hB hp hl).mono fun e w' ⟨v,h1,h2,h3,_,h5⟩=>⟨v,h1,h2,h3,h5⟩
end
section
structure KeptV (own:Nat->Prop) (W:ak) (v:am) (bs:List Int):Prop where
 sl:Sl aq W v bs
 bytes:aP bs
 own:bs≠ []->∀b off len cap,v=ag (some ⟨b,off,none⟩) len cap->own b
section
variable {R:MetaRes} {rb p0 p1 m:Nat} {S:RS} {M:MS} {w0 W W':ak} {own own':Nat->Prop} {v:am} {bs:List Int} {f:Nat->Prop}
theorem KeptV.over (h:KeptV own W v bs) (hs:W.heap.size<=W'.heap.size) (hk:∀k,own k->W'.heap[k]? =W.heap[k]?):KeptV own W' v bs:=
 ⟨h.sl.stay hs fun hn b off len cap e _=>hk b (h.own hn b off len cap e),h.bytes,h.own⟩
theorem KeptV.overA {P:ea} (h:KeptV own W v bs) (hA:dL P w0 W' own) (hk:∀k,own k->W'.heap[k]? =W.heap[k]?):KeptV own W' v bs:=by
 refine⟨?_,h.bytes,h.own⟩;obtain⟨a,cap,rfl,h1,h2,h3,h4⟩:=h.sl;refine⟨a,cap,rfl,h1,h2, ?_,h4⟩;by_cases hn:bs= []
 ·exact aA hn
 ·rcases h3 with h3 | ⟨b,off,rfl,h5,h6⟩
  ·exact aA h3
  ·have ho:=h.own hn b off _ _ rfl;exact aC ⟨b,off,rfl,hA.lt ho,fun j hj=>(cL (a:=⟨b,off+j,none⟩) (hk b ho)).trans (h6 j hj)⟩
theorem KeptV.below (h:KeptV own W v bs) (hb:w9b W W'):KeptV own W' v bs:=⟨h.sl.below hb,h.bytes,h.own⟩
theorem KeptV.more (h:KeptV own W v bs) (ho:∀k,own k->own' k):KeptV own' W v bs:=⟨h.sl,h.bytes,fun hn b off len cap e=>ho b (h.own hn b off len cap e)⟩
theorem KeptV.away (h:KeptV own W v bs) (hf:∀k,f k->¬own k):bs≠ []->jw v f:=fun hn b off len cap e hfb=>hf b hfb (h.own hn b off len cap e)
def et (own:Nat->Prop) (W W':ak):Nat->Prop:=fun k=>own k\/(W.heap.size<=k/\k<W'.heap.size)
theorem KeptV.new (h:Sl aq W' v bs) (hb:aP bs) (hf:kS v W W'):KeptV (et own W W') W' v bs:=⟨h,hb,fun hn b off len cap e=>aC ⟨hf b off len cap e,h.lt_of hn e⟩⟩
theorem dL.plus {P:ea} (hP:IsRes P) (h:dL P w0 W own) (hb:w9b W W'):dL P w0 W' (et own W W'):=h.below hP hb _ fun k hk=>hk
theorem nx {B:Nat} {t:aV} {C:List am} (hr:aB W B t C) (hB:own B) (hk:∀k,own k->W'.heap[k]? =W.heap[k]?):aB W' B t C:=(hk B hB).trans hr
theorem dL.forget {P Q:ea} (hQ:IsRes Q) (h:dL (cS P Q) w0 W own):dL P w0 W own:=by
 obtain⟨fQ,_,_,h⟩:=h.split hQ;exact h.less own fun k hk=>aA hk
abbrev jk (R:MetaRes) (w0 W:ak) (rb p0 p1 m:Nat) (S:RS) (M:MS) (own:Nat->Prop):Prop:=dL (R.Both rb p0 p1 m S M) w0 W own
theorem jk.rat (h:jk R w0 W rb p0 p1 m S M own):jD w0 W rb p0 p1 S own:=dL.forget (R.isRes _ _ _) h
theorem jD.format (HK:MetaOk R) (h:jD w0 W rb p0 p1 S own) (hr:S.Rdy) (hu:S.Up) {g:Geo} (hi:g.In) (hg:g.good) (h0:g.oF<=S.n0) (h1:g.oW<=S.n1) (hv:KeptV own W v bs) (hl:bs.length=g.bts.toNat):
  az aj 57 #[ao (some ⟨rb,0,none⟩),al g.v,v] W fun e w'=>∃m,e=ar (aQ #[ao (some ⟨m,0,none⟩),ab af 0])/\jk R w0 w' rb p0 p1 m (S.bat (co g bs)).1 (MS.new g bs) own/\(∀k,own k->w'.heap[k]? =W.heap[k]?)/\W.heap.size<=w'.heap.size:=by
 obtain⟨f,g1,g2,g3,g4⟩:=h;refine(HK.format g1 hr hu hi hg h0 h1 hv.sl hv.bytes hl (hv.away fun k hk=>(g2 k hk).2)).mono ?_;rintro e w' ⟨m,rfl,h⟩;have hs:W.heap.size<=w'.heap.size:=by obtain⟨f',_,t⟩:=h;exact t.size
 obtain⟨k1,k2⟩:=dL.turned (R.both _ _ _ _ _ _) g2 g3 g4 h;exact⟨m,rfl,k1,k2,hs⟩
theorem jD.openM (HK:MetaOk R) (h:jD w0 W rb p0 p1 S own) (hr:S.Rdy) (hu:S.Up) (ho:S.opn=some M):
  az aj 65 #[ao (some ⟨rb,0,none⟩)] W fun e w'=>∃m,e=ar (aQ #[ao (some ⟨m,0,none⟩),ab af 0])/\jk R w0 w' rb p0 p1 m S M own/\(∀k,own k->w'.heap[k]? =W.heap[k]?)/\W.heap.size<=w'.heap.size:=by
 obtain⟨f,g1,g2,g3,g4⟩:=h;refine(HK.open_ g1 hr hu ho).mono ?_;rintro e w' ⟨m,rfl,h⟩;have hs:W.heap.size<=w'.heap.size:=by obtain⟨f',_,t⟩:=h;exact t.size
 obtain⟨k1,k2⟩:=dL.turned (R.both _ _ _ _ _ _) g2 g3 g4 h;exact⟨m,rfl,k1,k2,hs⟩
theorem jk.mem (h:jk R w0 W rb p0 p1 m S M own):∃f,R.Mem m rb M W f:=by
 obtain⟨f,⟨f1,f2,h1,h2,_⟩,_⟩:=h;exact⟨f2,h2⟩
theorem jk.commit (HK:MetaOk R) (h:jk R w0 W rb p0 p1 m S M own) (hr:S.Rdy) (hd:S.down=false) (hM:M.Ok S) (hv:KeptV own W v bs) (hl:bs.length=M.b.length) {T:RS} {E:Int} (hc:S.cmt M bs=(T,E)):
  az aj 60 #[ao (some ⟨m,0,none⟩),v] W fun e w'=>e=ar (ab af E)/\(E=0->jk R w0 w' rb p0 p1 m T (M.next bs) own)/\jD w0 w' rb p0 p1 T own/\(∀k,own k->w'.heap[k]? =W.heap[k]?)/\W.heap.size<=w'.heap.size:=by
 obtain⟨f,g1,g2,g3,g4⟩:=h;refine(HK.commit g1 hr hd hM hv.sl hv.bytes hl (hv.away fun k hk=>(g2 k hk).2)).mono ?_;rintro e w' ⟨rfl,h⟩;rw[hc]at h ⊢
 dsimp only at h ⊢
 have hs:W.heap.size<=w'.heap.size:=by obtain⟨f',_,t⟩:=h;exact t.size
 by_cases hE:E=0
 ·rw[if_pos hE]at h;obtain⟨k1,k2⟩:=dL.turned (R.both _ _ _ _ _ _) g2 g3 g4 h;exact⟨rfl,fun _=>k1,jk.rat k1,k2,hs⟩
 ·rw[if_neg hE]at h;obtain⟨k1,k2⟩:=dL.turned (aX.isRes _ _ _ _) g2 g3 g4 h;exact⟨rfl,fun e=>absurd e hE,k1,k2,hs⟩
theorem jk.onRig {g:FuncId} {args:Array am} {T:RS} {e0:Ending} (h:jk R w0 W rb p0 p1 m S M own)
  (hc:∀own,jD w0 W rb p0 p1 S own->az aj g args W fun e w'=>e=e0/\jD w0 w' rb p0 p1 T own/\∀k,own k->w'.heap[k]? =W.heap[k]?) (hs:True):
  az aj g args W fun e w'=>e=e0/\jk R w0 w' rb p0 p1 m T M own/\∀k,own k->w'.heap[k]? =W.heap[k]? :=by
 obtain⟨fQ,q1,q2,hP⟩:=h.split (R.isRes _ _ _);refine(hc _ hP).mono ?_;rintro e w' ⟨rfl,a,b⟩;exact⟨rfl,dL.join ((R.isRes _ _ _).out q1 fun k hk=>b k (aC hk)) q2 a,fun k hk=>b k (aA hk)⟩
theorem lJ (hs:Sl aq W v bs) (hb:aP bs) (hl:bs.length<=100000) (own:Nat->Prop):∃v' W',Hid ((Builtin.append_ #[76, 76] 76 #[ag (some ⟨W.heap.size,0,none⟩) 0 0,v]).run aj (W.alloc (ap #[] 5))=.ok v' W')/\Hid (KeptV (et own W W') W' v' bs)/\Hid (ah W.heap.size W W'):=by
 obtain⟨v',W',h1,h2,h3⟩:=mP W v bs hs (by omega);refine⟨v',W',h1,⟨Sl.of_owns h2.out,hb,fun hn b off len cap e=>aC ?_⟩,h3⟩;rcases h2.out.2 with⟨e',h0⟩ | ⟨g,cap',cur,e',hg,hcur,_⟩
 ·exact absurd (je h0) hn
 ·rw[e]at e';cases e';exact⟨hg,(cj.1 hcur).1⟩
end
end
section
structure Sit (S:RS) (M:MS) (k:Nat):Prop where
 inv:∃p q us,Inv S M (2*k) p q us
 up:S.Up
 n0:S.n0<=4096
 n1:S.n1<=4096
 d0:0<=S.done
 d1:S.done<=1000+40*k
 few:S.Few 10
section
variable {S T:RS} {M:MS} {k:Nat} {b:List Int}
theorem Sit.bb (h:Sit S M k):S.BB:=by obtain⟨p,q,us,h⟩:=h.inv;exact h.bb
theorem Sit.rdy (h:Sit S M k) (hk:k<=200):S.Rdy:=⟨h.n0,h.n1,h.d0,by have:=h.d1;omega,by rw[h.up.fuse];omega,h.few.mono (by omega),h.bb⟩
theorem Sit.ok (h:Sit S M k) (hk:k<=200):M.Ok S:=by obtain⟨p,q,us,h⟩:=h.inv;exact h.ok (by omega)
theorem Sit.opn (h:Sit S M k) (hk:k<=200):S.opn=some M:=by obtain⟨p,q,us,h⟩:=h.inv;exact h.opn (by omega)
theorem Sit.good (h:Sit S M k):M.g.good:=by obtain⟨p,q,us,h⟩:=h.inv;exact h.good
theorem Sit.used (h:Sit S M k):M.used<=M.g.C:=by obtain⟨p,q,us,h⟩:=h.inv;rw[h.used];exact h.ring.fits
theorem Sit.next_b (h:Sit S M k) (hl:b.length=M.b.length):(M.next b).b=b:=by obtain⟨p,q,us,h⟩:=h.inv;exact h.next_b hl
theorem Sit.commit (h:Sit S M k) (hk:k<=200) (hl:b.length=M.b.length) (hb:aP b):∃T,S.cmt M b=(T,0)/\Sit T (M.next b) (k+1):=by
 obtain⟨p,q,us,hI⟩:=h.inv;obtain⟨T,hT,hu,t0,t1,p',q',us',hI'⟩:=hI.cmt_up h.up (by omega) hl hb;have hlt:=fun l hl' x hx=>(hI.bats_ok (by omega) hl hb l hl').lt x hx;obtain⟨w1,w2,w3⟩:=RS.bat_way (M.bats b) S;obtain⟨v1,v2,v3⟩:=RS.bat_D1 (M.bats b) S hlt;have ht:=MS.bats_total hI hl;have hT':S.bat (M.bats b)=(T,0):=hT;rw[hT']at w1 w2 v1 v2 v3
 dsimp only at w1 w2 v1 v2 v3
 have:=h.d0;have:=h.d1;exact⟨T,hT,⟨p',q',us',by rw[show 2*(k+1)=2*k+2 by omega];exact hI'⟩,hu,by rw[t0];exact h.n0,by rw[t1];exact h.n1,by omega,by omega,sp hI'.dry h.few v1 v3⟩
theorem Di (n0 n1:Nat):(gq n0 n1).Dry:=fun i _=>rfl
theorem Sit.fmt {n0 n1:Nat} (h0:n0<=4096) (h1:n1<=4096) {g:Geo} (hg:g.good) (hf:g.oF<=n0) (hw:g.oW<=n1) (hl:b.length=g.bts.toNat) (hb:aP b):Sit ((gq n0 n1).bat (co g b)).1 (MS.new g b) 0:=by
 obtain⟨T,hT,hu,t0,t1,hI⟩:=RS.fmt (S:=gq n0 n1) (rg n0 n1) (Di n0 n1) (rO n0 n1) hg hf hw hl hb;have hok:=mu (S:=gq n0 n1) hg hf hb;obtain⟨w1,w2,w3⟩:=RS.bat_way (co g b) (gq n0 n1);obtain⟨v1,v2,v3⟩:=RS.bat_D1 (co g b) (gq n0 n1) fun l hl' x hx=>(hok l hl').lt x hx;have hN:=Geo.nats hg;have ht:fB (co g b)<=300:=by
  have:=hN.c2;have:=hN.p2;unfold fB co;simp;omega
 rw[hT]at w1 w2 v1 v2 v3 ⊢;have e0:(gq n0 n1).done=0:=rfl
 dsimp only at w1 w2 v1 v2 v3 ⊢
 rw[e0]at w1 w2;exact⟨⟨0,1, [],hI⟩,hu,by rw[t0];exact h0,by rw[t1];exact h1,w1,by omega,sp hI.dry (rh n0 n1 10) v1 v3⟩
theorem Sit.crash (h:Sit S M k) (b0 b1:List Int):Sit (S.crash b0 b1) M k:=by
 obtain⟨p,q,us,hI⟩:=h.inv;exact⟨⟨p,q,us,hI.same (RS.crash_dry hI.dry hI.bb b0 b1)⟩,(RS.crash_up S b0 b1).1,h.n0,h.n1,by rw[(RS.crash_up S b0 b1).2];exact h.d0,by rw[(RS.crash_up S b0 b1).2];exact h.d1,RS.few_crash S b0 b1 10⟩
end
end
section
attribute [-simp] isAgg29 zeroValue29 isAgg23 zeroValue23
attribute [-go_sem] aE aL
theorem sy (w:ak):(zeroValue 23).run aj w=.ok (al (Geo.mk 0 0 0 0 0).v) w:=by kernel_rfl
def gS:Geo:=⟨8,2,2,4,12⟩
def gN:Geo:=⟨8,2,2,4,4⟩
theorem Dj (w:ak):(cY 23 #[(0,ab af 8),(1,ab af 2),(2,ab af 2),(3,ab af 4),(4,ab af 12)]).run aj w=.ok (al gS.v) w:=by kernel_rfl
theorem Dk (w:ak):(cY 23 #[(0,ab af 8),(1,ab af 2),(2,ab af 2),(3,ab af 4),(4,ab af 4)]).run aj w=.ok (al gN.v) w:=by kernel_rfl
theorem setS:((((((Geo.mk 0 0 0 0 0).v.setIfInBounds 0 (ab af 8)).setIfInBounds 1 (ab af 2)).setIfInBounds 2 (ab af 2)).setIfInBounds 3 (ab af 4)).setIfInBounds 4 (ab af 12))=gS.v:=rfl
theorem Dl:(aj.info? 23).map (·.size)=some 5:=by kernel_rfl
theorem wD (x:ak) (g:Geo):∃y,(aL 23 ⟨x.heap.size,0,none⟩ (al g.v)).run aj (x.alloc (ap (Geo.mk 0 0 0 0 0).v 23))=.ok () y/\aB y x.heap.size 23 g.cs/\ah x.heap.size x y:=
 ⟨_,iU x _ _ g.v Dl rfl (by kernel_rfl),aB.new x _ _,aR x _⟩
attribute [local go_sem] lG lH sy Dj Dk
theorem Dm:gS.In:=by intro n hn;simp only[gS,ec,List.mem_nil_iff,or_false]at hn;omega
section
theorem Dn (w:ak):az aj 74 #[] w fun e w'=>e=ar (al gS.v)/\ah w.heap.size w w':=by
 obtain⟨y,ST,hr,hb⟩:=wD w gS;rw[←setS]at ST;have L0:=cF hr;go_enter func74,ntmps74;go_wp2_with fail;exact bl (ff rfl rfl L0) rfl ⟨rfl,hb⟩
end
end
section
attribute [-simp] isAgg23 zeroValue23 isAgg51 zeroValue51
attribute [-go_sem] aE aL cZ
theorem Do (t:aV) (h:t≠ 23 /\t≠ 51) (a:aN):aE t a=(do if←isAgg t then pure (al (←loadCells a (←sizeOf t)))else load a):=rfl
theorem Dp (t:aV) (h:t≠ 23 /\t≠ 51) (a:aN) (v:am):aL t a v=(do
  if v.cells.size≠(←sizeOf t)then stuck "storeVar: the value has not the size of the variable"
  storeCells a v.cells.toList):=rfl
attribute [local go_sem] Do Dp sy
def j0:List Int:=bK 126 0
def iJ:List Int:=j0.set 50 7
def jl:MS:=MS.new gS j0
theorem pt:gS.good:=by decide
theorem sA:aP j0:=mm 126
theorem sB:aP iJ:=sA.set (by omega)
theorem sC:(jl.dif iJ).length=1/\jl.dif iJ≠ []:=by
 have h:(jl.dif iJ).length=1:=by decide+kernel
 exact⟨h,fun e=>by rw[e]at h;cases h⟩
theorem wE:jl.room=12:=by decide
theorem wF:(jl.next iJ).room=10:=by
 have hf:¬jl.full iJ:=by
  unfold MS.full;rw[sC.1,wE];decide
 unfold MS.next;rw[if_neg sC.2,if_neg hf];unfold MS.room MS.app;show gS.r - ((jl.used+(jl.dif iJ).length+1:Nat):Int)=10;rw[sC.1];decide
section
theorem Dq {R:MetaRes} (HK:MetaOk R) (w:ak):az aj 55 #[] w fun e w'=>e=ar (.bool true)/\ah w.heap.size w w':=by
 have hmx:=w9x
 have HKH:=ae HK;clear HK;go_enter func55,ntmps55;go_wp2_with fail;refine(Dn w).mono ?_;rintro e x ⟨rfl,hb⟩;obtain⟨y,ST,hr,hby⟩:=wD x gS;obtain⟨G,hG⟩:=w9nm x.heap.size;have HBY:w9h w y:=hb.trans (hby.mono hb.size);rw[hG]at hr ST;have HRG:=ae hr;clear hb hr hby;go_wp2_with fail;have hnew:=jD.new 30 20 w y HBY.out (by decide) (by decide) (by decide) (by decide) (fun k=>k=G) (fun k hk=>by rw[hk];exact HRG.out.lt);refine hnew.mono ?_;rintro e x1 ⟨rb,p0,p1,rfl,hR1,hb1⟩;have HR1:=ae hR1;have HG1:=ae (HRG.out.below hb1);clear hnew hR1 hb1 ST;obtain⟨x2,hmk,hs2,hg2,ho2⟩:=wB x1 126 (by decide);have HMK:Hid ((Instr.makeSlice 76 (ab af 126) (ab af 126)).run aj x1=.ok (ag (some ⟨x1.heap.size,0,none⟩) 126 126) x2):=hmk;obtain⟨B,hB⟩:=w9nm x1.heap.size;have hb12:w9b x1 x2:=(aF _ _).grown hg2 (aJ _) (fun k e=>by cases e);have hrow:aB x2 B 5 (j0.map (Value.int aq)):=by
  rcases ho2.2 with⟨e,_⟩ | ⟨g,cap,cur,e,_,hcur,_,_,hsz,htk⟩
  ·cases e
  ·simp only[Value.slice.injEq,Option.some.injEq,Addr.mk.injEq]at e;obtain⟨⟨rfl,_⟩,_,rfl⟩:=e;show x2.heap[B]? =_;rw[←hB,hcur];have e2:cur.toList=j0.map (Value.int aq):=by
    unfold j0;rw[←htk,ey (by rw[Array.length_toList,hsz];exact aJ _)]
   rw[←e2]
 have hR2:jD w x2 rb p0 p1 (gq 30 20) (et (fun k=>k=G) x1 x2):=dL.plus (aX.isRes _ _ _ _) HR1.out hb12;have hK2:KeptV (et (fun k=>k=G) x1 x2) x2 (ag (some ⟨x1.heap.size,0,none⟩) 126 126) j0:=KeptV.new hs2 sA fun b off len cap e=>by cases e;exact aJ _
 have hoB:et (fun k=>k=G) x1 x2 B:=aC ⟨by rw[hB];exact aJ _,hrow.lt⟩;obtain⟨own,hown⟩:∃o,et (fun k=>k=G) x1 x2=o:=⟨_,rfl⟩;have hoG:own G:=by rw[←hown];exact aA rfl
 rw[hown]at hR2 hK2 hoB;rw[hB]at hK2 HMK;have HR2:=ae hR2;have HK2:=ae hK2;have HROW2:=ae hrow;have HG2:Hid (aB x2 G 23 gS.cs):=HG1.out.below hb12;have HOB:=ae hoB;have HOG:=ae hoG;have L2:=cF HG2.out;have hBG:Hid (w.heap.size<=B):=by show _<=_;rw[←hB];exact HR1.out.size
 clear hmk hs2 hg2 ho2 hb12 hrow hR2 hK2 hoB hoG hown;go_wp2_with ((with_reducible refine vU ?_);refine vT _ _ _ rfl rfl _ _ _ rfl rfl HMK.out ?_);have hfm:=jD.format HKH.out HR2.out ⟨by decide,by decide,fP _,by decide,by decide,rh _ _ _,rO _ _⟩ (rg _ _) Dm pt (by decide) (by decide) HK2.out (by decide);refine hfm.mono ?_;rintro e x3 ⟨m,rfl,hM3,hk3,hsz3⟩;have HS3:=ae (Sit.fmt (n0:=30) (n1:=20) (g:=gS) (b:=j0) (by decide) (by decide) pt (by decide) (by decide) (by decide) sA);obtain⟨S3,hS3⟩:=w9nm (((gq 30 20).bat (co gS j0)).1);rw[hS3]at hM3 HS3;have HS3:Hid (Sit S3 jl 0):=HS3;have HM3:Hid (jk R w x3 rb p0 p1 m S3 jl own):=hM3;have HROW3:Hid (aB x3 B 5 (j0.map (Value.int aq))):=nx HROW2.out HOB.out hk3;have HG3:Hid (aB x3 G 23 gS.cs):=nx HG2.out HOG.out hk3;have d3:x3.cell? ⟨B,50,none⟩=some (ab aq 0):=HROW3.out.cell 50 _ rfl;have f3:x3.frozen? ⟨B,50,none⟩=false:=HROW3.out.frozen 50;obtain⟨x4,hx4⟩:=w9nm (x3.setCell ⟨B,50,none⟩ (ab aq 7));have HROW4:Hid (aB x4 B 5 (iJ.map (Value.int aq))):=by
  show aB _ _ _ _;rw[←hx4];have:=HROW3.out.set 50 (ab aq 7);rw[←List.map_set]at this;exact this
 have HM4:Hid (jk R w x4 rb p0 p1 m S3 jl own):=by
  show jk _ _ _ _ _ _ _ _ _ _;rw[←hx4];exact dL.setCell (R.both _ _ _ _ _ _) HM3.out HOB.out hBG.out _
 have HK4:Hid (KeptV own x4 (ag (some ⟨B,0,none⟩) 126 126) iJ):=by
  refine⟨?_,sB,fun _ b off len cap e=>by cases e;exact HOB.out⟩;have:=Sl.at (k:=aq) (w:=x4) (b:=B) (off:=0) (cap:=126) (bs:=iJ) (by decide) (by unfold aS;decide) HROW4.out.lt (fun j hj=>by
   refine HROW4.out.cell _ _ ?_;rw[dC,du,bJ hj]
   rfl)
  exact this
 have HG4:Hid (aB x4 G 23 gS.cs):=by
  show aB _ _ _ _;rw[←hx4];have hne:G≠B:=by
   have:=HG1.out.lt;omega
  exact(gc x3 ⟨B,50,none⟩ _ G hne).trans HG3.out
 clear hfm hM3 hk3 hsz3 L2 hS3;go_wp2_with fail;obtain⟨f4,hf4⟩:=HM4.out.mem;refine(HKH.out.room hf4 pt (by decide)).mono ?_;rintro e x5 ⟨rfl,hb5⟩;rw[wE];have HM5:Hid (jk R w x5 rb p0 p1 m S3 jl own):=dL.beside (R.both _ _ _ _ _ _) HM4.out hb5;have HK5:Hid (KeptV own x5 (ag (some ⟨B,0,none⟩) 126 126) iJ):=HK4.out.below hb5;have HG5:Hid (aB x5 G 23 gS.cs):=HG4.out.below hb5;clear hf4 hb5 d3 f3 hx4;go_wp2_with fail;obtain⟨T,hcm,hsit⟩:=HS3.out.commit (b:=iJ) (by decide) (by decide) sB;have HST:=ae hsit;have hcall:=jk.commit HKH.out HM5.out (HS3.out.rdy (by decide)) HS3.out.up.down (HS3.out.ok (by decide)) HK5.out (by decide) hcm;refine hcall.mono ?_;rintro e x6 ⟨rfl,hM6, -,hk6,hsz6⟩;have HM6:=ae (hM6 rfl);have HG6:Hid (aB x6 G 23 gS.cs):=nx HG5.out HOG.out hk6;clear hcall hM6 hk6 hsz6 hcm hsit;go_wp2_with fail;obtain⟨f6,hf6⟩:=HM6.out.mem;refine(HKH.out.room hf6 HST.out.good HST.out.used).mono ?_;rintro e x7 ⟨rfl,hb7⟩;rw[wF];obtain⟨M2,hM2⟩:=w9nm (jl.next iJ);have e1:M2.b=iJ:=by rw[←hM2];exact HS3.out.next_b (b:=iJ) (by decide)
 have e2:M2.g=gS:=by rw[←hM2];exact MS.next_g _ _
 have e3:M2.room=10:=by rw[←hM2];exact wF
 rw[hM2]at HM6 HST;have HE1:=ae e1;have HE2:=ae e2;have HE3:=ae e3;have HM7:Hid (jk R w x7 rb p0 p1 m T M2 own):=dL.beside (R.both _ _ _ _ _ _) HM6.out hb7;have HG7:Hid (aB x7 G 23 gS.cs):=HG6.out.below hb7;clear hf6 hb7 e1 e2 e3 hM2;go_wp2_with fail;have hcr:=jk.onRig (T:=T.crash [] []) (e0:=ar (aQ #[])) HM7.out (fun own h=>jD.crash h (Sl.nil _ _) (Sl.nil _ _) (fun j=>by simp) (fun j=>by simp) (fun h=>absurd rfl h) (fun h=>absurd rfl h) (HST.out.few.mono (by decide))) trivial;refine hcr.mono ?_;rintro e x8 ⟨rfl,hM8,hk8⟩;have HG8:Hid (aB x8 G 23 gS.cs):=nx HG7.out HOG.out hk8;obtain⟨fQ,q1,q2,hP8⟩:=hM8.split (R.isRes _ _ _);have HS8:=ae (HST.out.crash [] []);obtain⟨S8,hS8⟩:=w9nm (T.crash [] []);rw[hS8]at hP8 HS8;have HP8:=ae hP8;have HQ8:=ae q1;clear hcr hM8 hk8 q1 q2 hP8 hS8;go_wp2_with fail;have hop:=jD.openM HKH.out HP8.out (HS8.out.rdy (by decide)) HS8.out.up (HS8.out.opn (by decide));refine hop.mono ?_;rintro e x9 ⟨n,rfl,hM9,hk9,hsz9⟩;have HM9:=ae hM9;have HQ9:Hid (R.Mem m rb M2 x9 fQ):=(R.isRes _ _ _).out HQ8.out fun k hk=>hk9 k (aC hk);have HG9:Hid (aB x9 G 23 gS.cs):=nx HG8.out HOG.out fun k hk=>hk9 k (aA hk);clear hop hM9 hk9 hsz9;go_wp2_with fail;obtain⟨f9,hf9⟩:=HM9.out.mem;have HF9:=ae hf9;have HN:Hid (∀z:ak,w9b x9 z->R.Mem n rb M2 z f9):=fun z hz=>(R.isRes _ _ _).below HF9.out hz;have HQ:Hid (∀z:ak,w9b x9 z->R.Mem m rb M2 z fQ):=fun z hz=>(R.isRes _ _ _).below HQ9.out hz;have HBY9:w9h w x9:=HM9.out.bel;have HBS:Hid (∀z:ak,w9b x9 z->az aj 68 #[ao (some ⟨n,0,none⟩)] z fun e w'=>∃a cap b off,e=ar (ag a 126 cap)/\a=some ⟨b,off,none⟩/\126<=cap/\cap<=9223372036854775807/\w'.cell? ⟨b,off+50,none⟩=some (ab aq 7)/\ah z.heap.size z w'):=fun z hz=>by
  refine(HKH.out.bytes (HN.out z hz) (by rw[HE1.out];decide) (by rw[HE1.out];exact sB)).mono ?_;rintro e w' ⟨v,rfl,⟨a,cap,rfl,l1,l2,l3, -⟩, -,hb⟩;rw[HE1.out]at l1 l3 ⊢;have hl:iJ.length=126:=by decide
  rcases l3 with l3 | ⟨b,off,rfl,_,l4⟩
  ·rw[l3]at hl;cases hl
  ·refine⟨_,cap,b,off,by rw[hl],rfl,by rw[hl]at l1;exact l1,by unfold aS at l2;omega, ?_,hb⟩;rw[l4 50 (by rw[hl];decide)]
   rfl
 have LG:∀z:aI x9,(aE 23 ⟨G,0,none⟩).run aj z.1=.ok (al gS.v) z.1:=fun z=>cF (HG9.out.below z.2);have EQG:Hid (∀z:aI x9,(eG 10000 23 (al gS.v) (al gS.v)).run aj z.1=.ok true z.1):=fun z=>wA gS z.1;obtain⟨X,hX⟩:=w9nm x9.drew;have HXX:Hid (ah x9.heap.size x9 X):=by show ah _ _ _;rw[←hX];exact(aF _ x9).drew
 clear hf9;refine cM (fun u=>∃y:aI x9,u=y.1) 33 (.takes [0,1,2,3,4,5,6,7] (.one 8 (.takes [9,10,11,12,13] (.one 14 (.takes [15] (.one 16 (.takes [17,18,19,20,22] (.one 21 (.takes [23,24,25,26] (.one 27 (.takes [28,29,30,31] (.one 32 .leaf)))))))))))) hmx (by kernel_rfl) (by intro c x v a w h;cases x<;>exact h) ⟨⟨x9.drew,(aF _ x9).drew⟩,rfl⟩ ?_;rw[hX];clear hX;repeat(rw[bj];simp only[au,ay];go_big_quiet_step (fail);refine aO ?_)
 rw[bo,aT];simp only[au,ay];go_wp2_with fail;refine(HBS.out X HXX.out).mono ?_;rintro e y1 ⟨a1,cap1,b1,off1,rfl, -,h1,h1', -,hb1⟩;have HY1:=w9bt HXX hb1;clear hb1;go_wp2_with fail;refine aG ⟨⟨y1,HY1.out⟩,rfl⟩ ?_;repeat(rw[bj];simp only[au,ay];go_big_quiet_step (fail);refine aO ?_)
 rw[bo,aT];simp only[au,ay];go_wp2_with fail;refine(HBS.out y1 HY1.out).mono ?_;rintro e y2 ⟨a2,cap2,b2,off2,rfl,rfl,h2,h2',hc2,hb2⟩;have HY2:=w9bt HY1 hb2;clear hb2 h1 h1';go_wp2_with fail;refine aG ⟨⟨y2,HY2.out⟩,rfl⟩ ?_;repeat(rw[bj];simp only[au,ay];go_big_quiet_step (fail);refine aO ?_)
 rw[bo,aT];simp only[au,ay];go_wp2_with fail;refine aG ⟨⟨y2,HY2.out⟩,rfl⟩ ?_;clear hc2;repeat(rw[bj];simp only[au,ay];go_big_quiet_step (fail);refine aO ?_)
 rw[bo,aT];simp only[au,ay];go_wp2_with fail;refine(HKH.out.geom (HN.out y2 HY2.out)).mono ?_;rintro e y3 ⟨rfl,hb3⟩;rw[HE2.out];have HY3:=w9bt HY2 hb3;clear hb3;go_wp2_with fail;refine aG ⟨⟨y3,HY3.out⟩,rfl⟩ ?_;have EQ:=EQG.out;repeat(rw[bj];simp only[au,ay];go_big_quiet_step (fail);refine aO ?_)
 clear EQ;rw[bo,aT];simp only[au,ay];go_wp2_with fail;refine(HKH.out.room (HN.out y3 HY3.out) (by rw[HE2.out];exact pt) HS8.out.used).mono ?_;rintro e y4 ⟨rfl,hb4⟩;rw[HE3.out];have HY4:=w9bt HY3 hb4;clear hb4;go_wp2_with fail;refine aG ⟨⟨y4,HY4.out⟩,rfl⟩ ?_;repeat(rw[bj];simp only[au,ay];go_big_quiet_step (fail);refine aO ?_)
 rw[bo,aT];simp only[au,ay];go_wp2_with fail;refine(HKH.out.commit_no (HQ.out y4 HY4.out) (Sl.nil aq y4) (by rw[HE1.out];decide)).mono ?_;rintro e y5 ⟨rfl,hb5⟩;have HY5:=w9bt HY4 hb5;clear hb5;go_wp2_with fail;refine aG ⟨⟨y5,HY5.out⟩,rfl⟩ ?_;rw[cu];simp only[be,bf];go_wp2_with fail;go_ret;exact⟨rfl,HBY9.out.trans (HY5.out.mono HBY9.out.size)⟩
end
end
section
attribute [-go_sem] aE aL
attribute [local go_sem] lG lH
section
theorem Dr (n lo hi:Int) (w:ak):az aj 241 #[ab af n,ab af lo,ab af hi] w fun e w'=>e=ar (.bool (decide (lo<=n/\n<=hi)))/\w'=w:=by
 obtain⟨z,hz⟩:=w9nm (decide (lo<=n/\n<=hi));by_cases h1:lo<=n
 ·have g1:decide (lo<=n)=true:=by simpa using h1
  have g1':decide (n≥lo)=true:=g1;have g2:decide (n<=hi)=z:=by rw[←hz];simp[h1]
  rw[hz];clear hz;go_enter func241,ntmps241;go_wp2_with fail;go_ret;first | exact⟨rfl,rfl⟩ | exact⟨by rw[←g2],rfl⟩ | exact⟨by rw[g2],rfl⟩
 ·have g1:decide (lo<=n)=false:=by simpa using h1
  have g1':decide (n≥lo)=false:=g1;have hzz:z=false:=by rw[←hz];simp[h1]
  rw[hz,hzz];clear hz hzz;go_enter func241,ntmps241;go_wp2_with fail;go_ret;exact⟨rfl,rfl⟩
theorem wG (g:Geo) (hs:g.shape) (w:ak):az aj 196 #[al g.v] w fun e w'=>e=ar (ab af g.slots)/\ah w.heap.size w w':=by
 obtain⟨b1,b2,b3,b4,b5,b6⟩:=Geo.bounds hs;have HBT:Hid (g.slots=g.s*g.y):=rfl;obtain⟨W,hW⟩:=w9nm (w.alloc (ap g.v 23));have r:aB W w.heap.size 23 g.cs:=by rw[←hW];exact aB.new w _ _
 have HB:Hid (ah w.heap.size w W):=by show ah _ _ _;rw[←hW];exact aR w _
 have c1:=r.cell 1 _ rfl;have c2:=r.cell 2 _ rfl;obtain⟨h1,h2,h3,h4,h5,h6,h7,h8⟩:=hs;have m1:1<=g.s*g.y:=b1;have m2:g.s*g.y<=32:=b2;obtain⟨s,hs⟩:=w9nm g.s;obtain⟨y,hy⟩:=w9nm g.y;obtain⟨m,hm⟩:=w9nm (s*y);rw[hs,hy]at m1 m2 HBT;rw[hs]at c1 h3 h4;rw[hy]at c2 h5 h6;rw[hm]at m1 m2 HBT;clear r b1 b2 b3 b4 b5 b6 h7 h8 h1 h2 hs hy;go_enter func196,ntmps196;go_wp2_with fail;go_ret;rw[HBT.out];exact⟨rfl,HB.out⟩
theorem wH (g:Geo) (hs:g.shape) (w:ak):az aj 208 #[al g.v] w fun e w'=>e=ar (ab af g.bts)/\ah w.heap.size w w':=by
 have SC:=fun x=>wG g hs x;obtain⟨b1,b2,b3,b4,b5,b6⟩:=Geo.bounds hs;have HBT:Hid (g.bts=10+g.slots+g.b+8*(4+(g.b+7) / 8+g.b)):=rfl;obtain⟨W,hW⟩:=w9nm (w.alloc (ap g.v 23));have r:aB W w.heap.size 23 g.cs:=by rw[←hW];exact aB.new w _ _
 have HB:Hid (ah w.heap.size w W):=by show ah _ _ _;rw[←hW];exact aR w _
 obtain⟨B,hB⟩:=w9nm w.heap.size;rw[hB]at r;have LG:∀x:aI W,(aE 23 ⟨B,0,none⟩).run aj x.1=.ok (al g.v) x.1:=fun x=>cF (r.below x.2);obtain⟨h1,h2,h3,h4,h5,h6,h7,h8⟩:=hs;obtain⟨b,hb⟩:=w9nm g.b;obtain⟨m,hm⟩:=w9nm g.slots;obtain⟨k,hk⟩:=w9nm ((b+7).tdiv 8);have c0:∀x:aI W,x.1.cell? ⟨B,0,none⟩=some (ab af b):=fun x=>by rw[←hb];exact(r.below x.2).cell 0 _ rfl
 have d0:W.cell? ⟨B,0,none⟩=some (ab af b):=by rw[←hb];exact r.cell 0 _ rfl
 rw[hb]at h1 h2;rw[hb,hm]at HBT;rw[hm]at b1 b2;have C1:Hid (∀x:aI W,az aj 196 #[al g.v] x.1 fun e w''=>e=ar (ab af m)/\∃y:aI W,w''=y.1):=fun x=>mQ x (by rw[←hm];exact SC x.1);have hk2:(b+7) / 8=k:=by rw[←hk,Int.tdiv_eq_ediv_of_nonneg (by omega)]
 have hk3:1<=k/\k<=8:=by omega
 have HK2:=ae hk2;obtain⟨k1,k2⟩:=hk3;clear r b3 b4 b5 b6 h3 h4 h5 h6 h7 h8 hb hm hk2 SC;go_enter func208,ntmps208;go_wp2_with fail;refine ko (by kernel_rfl) (by kernel_rfl) ?_;repeat(go_big_quiet_step (with_reducible (first | exact C1.out _)))
 refine aO ?_;intro x;have HX:Hid (ah w.heap.size w x.1):=HB.out.trans (x.2.mono HB.out.size);clear LG c0 d0;go_wp2_with fail;go_ret;refine⟨?_,HX.out⟩;rw[HBT.out,HK2.out];first
  | rfl
  | exact congrArg (fun x=>Ending.returned (Value.int af x)) (by omega)
theorem mz (g:Geo) (hi:g.In) (w:ak):az aj 166 #[al g.v] w fun e w'=>e=ar (.bool (decide g.good))/\ah w.heap.size w w':=by
 obtain⟨W,hW⟩:=w9nm (w.alloc (ap g.v 23));have r:aB W w.heap.size 23 g.cs:=by rw[←hW];exact aB.new w _ _
 have HB:Hid (ah w.heap.size w W):=by show ah _ _ _;rw[←hW];exact aR w _
 obtain⟨B,hB⟩:=w9nm w.heap.size;rw[hB]at r;have LG:∀x:aI W,(aE 23 ⟨B,0,none⟩).run aj x.1=.ok (al g.v) x.1:=fun x=>cF (r.below x.2);have c0:∀x:aI W,x.1.cell? ⟨B,0,none⟩=some (ab af g.b):=fun x=>(r.below x.2).cell 0 _ rfl;have c1:∀x:aI W,x.1.cell? ⟨B,1,none⟩=some (ab af g.s):=fun x=>(r.below x.2).cell 1 _ rfl;have c2:∀x:aI W,x.1.cell? ⟨B,2,none⟩=some (ab af g.y):=fun x=>(r.below x.2).cell 2 _ rfl;have c3:∀x:aI W,x.1.cell? ⟨B,3,none⟩=some (ab af g.a):=fun x=>(r.below x.2).cell 3 _ rfl;have c4:∀x:aI W,x.1.cell? ⟨B,4,none⟩=some (ab af g.r):=fun x=>(r.below x.2).cell 4 _ rfl;have CW:∀(n lo hi:Int) (z:Bool),decide (lo<=n/\n<=hi)=z->Hid (∀x:aI W,az aj 241 #[ab af n,ab af lo,ab af hi] x.1 fun e w''=>e=ar (.bool z)/\∃y:aI W,w''=y.1):=fun n lo hi z hz x=>by
  rw[←hz];exact(Dr n lo hi x.1).mono fun e w'' ⟨h1,h2⟩=>⟨h1,x,h2⟩
 obtain⟨z1,e1⟩:=w9nm (decide (1<=g.b/\g.b<=64));obtain⟨z2,e2⟩:=w9nm (decide (1<=g.s/\g.s<=8));obtain⟨z3,e3⟩:=w9nm (decide (1<=g.y/\g.y<=4));obtain⟨z4,e4⟩:=w9nm (decide (0<=g.a/\g.a<=200));have C1:=CW _ _ _ _ e1;have C2:=CW _ _ _ _ e2;have C3:=CW _ _ _ _ e3;have C4:=CW _ _ _ _ e4;by_cases hs:g.shape
 ·obtain⟨b1,b2,b3,b4,b5,b6⟩:=Geo.bounds hs;obtain⟨h1,h2,h3,h4,h5,h6,h7,h8⟩:=hs;obtain rfl:z1=true:=by rw[←e1];exact decide_eq_true ⟨h1,h2⟩
  obtain rfl:z2=true:=by rw[←e2];exact decide_eq_true ⟨h3,h4⟩
  obtain rfl:z3=true:=by rw[←e3];exact decide_eq_true ⟨h5,h6⟩
  obtain rfl:z4=true:=by rw[←e4];exact decide_eq_true ⟨h7,h8⟩
  obtain⟨z5,e5⟩:=w9nm (decide (g.pgs+2<=g.r/\g.r<=256));have C5:=CW _ _ _ _ e5;have C6:Hid (∀x:aI W,az aj 208 #[al g.v] x.1 fun e w''=>e=ar (ab af g.bts)/\∃y:aI W,w''=y.1):=fun x=>mQ x (wH g ⟨h1,h2,h3,h4,h5,h6,h7,h8⟩ x.1);have C7:Hid (∀x:aI W,az aj 209 #[ab af g.bts] x.1 fun e w''=>e=ar (ab af g.pgs)/\∃y:aI W,w''=y.1):=fun x=>(rF g.bts x.1 (by omega) (by omega)).mono fun e w'' ⟨h1,h2⟩=>⟨h1,x,h2⟩;have hg:Hid (decide g.good=z5):=by
   show _=_;rw[←e5,decide_eq_decide];exact⟨fun h=>h.2,fun h=>⟨⟨h1,h2,h3,h4,h5,h6,h7,h8⟩,h⟩⟩
  obtain⟨P,hP⟩:=w9nm g.pgs;obtain⟨T,hT⟩:=w9nm g.bts;obtain⟨R,hR⟩:=w9nm g.r;rw[hP,hT]at C7;rw[hT]at C6;rw[hP,hR]at C5;rw[hR]at c4;rw[hP]at b5 b6;clear r b1 b2 b3 b4 hP hT hR e1 e2 e3 e4 e5 CW hi h1 h2 h3 h4 h5 h6 h7 h8;go_enter func166,ntmps166;go_wp2_with fail;refine ko (by kernel_rfl) (by kernel_rfl) ?_;repeat(go_big_quiet_step (with_reducible (first | exact C1.out _ | exact C2.out _ | exact C3.out _ | exact C4.out _ | exact C5.out _ | exact C6.out _ | exact C7.out _)))
  refine aO ?_;intro x;have HX:Hid (ah w.heap.size w x.1):=HB.out.trans (x.2.mono HB.out.size);clear LG c0 c1 c2 c3 c4;go_wp2_with fail;go_ret;rw[hg.out];exact⟨rfl,HX.out⟩
 ·have hg:Hid (decide g.good=false):=decide_eq_false (fun h=>hs h.1);have hc:z1=false\/(z1=true/\z2=false)\/(z1=true/\z2=true/\z3=false)\/(z1=true/\z2=true/\z3=true/\z4=false):=by
   cases z1 with
   | false=>exact aA rfl
   | true=>
    cases z2 with
    | false=>exact aC (aA ⟨rfl,rfl⟩)
    | true=>
     cases z3 with
     | false=>exact aC (aC (aA ⟨rfl,rfl,rfl⟩))
     | true=>
      cases z4 with
      | false=>exact aC (aC (aC ⟨rfl,rfl,rfl,rfl⟩))
      | true=>
       have a1:=of_decide_eq_true e1;have a2:=of_decide_eq_true e2;have a3:=of_decide_eq_true e3;have a4:=of_decide_eq_true e4;exact absurd ⟨a1.1,a1.2,a2.1,a2.2,a3.1,a3.2,a4⟩ hs
  clear e1 e2 e3 e4 CW hi hs r;rcases hc with rfl | ⟨rfl,rfl⟩ | ⟨rfl,rfl,rfl⟩ | ⟨rfl,rfl,rfl,rfl⟩;all_goals
   go_enter func166,ntmps166;go_wp2_with fail;refine ko (by kernel_rfl) (by kernel_rfl) ?_;repeat(go_big_quiet_step (with_reducible (first | exact C1.out _ | exact C2.out _ | exact C3.out _ | exact C4.out _)))
   refine aO ?_;intro x;have HX:Hid (ah w.heap.size w x.1):=HB.out.trans (x.2.mono HB.out.size);clear LG c0 c1 c2 c3 c4;go_wp2_with fail;go_ret;rw[hg.out];exact⟨rfl,HX.out⟩
theorem pu (g:Geo) (hi:g.In) (w:ak):az aj 127 #[al g.v] w fun e w'=>e=ar (ab af g.oB)/\ah w.heap.size w w':=by
 obtain⟨W,hW⟩:=w9nm (w.alloc (ap g.v 23));have r:aB W w.heap.size 23 g.cs:=by rw[←hW];exact aB.new w _ _
 have HB:Hid (ah w.heap.size w W):=by show ah _ _ _;rw[←hW];exact aR w _
 obtain⟨B,hB⟩:=w9nm w.heap.size;rw[hB]at r;have HR:=ae r;have HG:=ae (mz g hi W);have L0:=cF r;clear r hi;by_cases hg:g.good
 ·have HS:=ae (wH g hg.1);have hv:Hid (g.oB=g.bts):=if_pos hg;rw[decide_eq_true hg]at HG;clear hg;go_enter func127,ntmps127;go_wp2_with fail;refine HG.out.mono ?_;rintro e x ⟨rfl,hb⟩;have L1:=cF (HR.out.below hb);have HBX:=w9bt HB hb;clear hb L0;go_wp2_with fail;refine(HS.out _).mono ?_;rintro e y ⟨rfl,hb⟩;have HBY:=w9bt HBX hb;clear hb L1;go_wp2_with fail;go_ret;rw[hv.out];exact⟨rfl,HBY.out⟩
 ·have hv:Hid (g.oB=0):=if_neg hg;rw[decide_eq_false hg]at HG;clear hg;go_enter func127,ntmps127;go_wp2_with fail;refine HG.out.mono ?_;rintro e x ⟨rfl,hb⟩;have HBX:=w9bt HB hb;clear hb L0;go_wp2_with fail;go_ret;rw[hv.out];exact⟨rfl,HBX.out⟩
theorem Geo.oP_cnt (g:Geo):cnt g.oB=g.oP:=by
 unfold Geo.oB Geo.oP;by_cases hg:g.good
 ·rw[if_pos hg,if_pos hg];rfl
 ·rw[if_neg hg,if_neg hg];rfl
theorem Geo.oB_bd (g:Geo):0<=g.oB/\g.oB<=714:=by
 unfold Geo.oB;by_cases hg:g.good
 ·rw[if_pos hg];obtain⟨b1,b2,b3,b4,b5,b6⟩:=Geo.bounds hg.1;omega
 ·rw[if_neg hg];omega
theorem wI (g:Geo) (hi:g.In) (w:ak):az aj 195 #[al g.v] w fun e w'=>e=ar (ab af g.oP)/\ah w.heap.size w w':=by
 obtain⟨W,hW⟩:=w9nm (w.alloc (ap g.v 23));have r:aB W w.heap.size 23 g.cs:=by rw[←hW];exact aB.new w _ _
 have HB:Hid (ah w.heap.size w W):=by show ah _ _ _;rw[←hW];exact aR w _
 obtain⟨B,hB⟩:=w9nm w.heap.size;rw[hB]at r;have L0:=cF r;have HG:=ae (pu g hi W);have HV:=ae g.oP_cnt;have hbd:=g.oB_bd;clear r hi;go_enter func195,ntmps195;go_wp2_with fail;refine HG.out.mono ?_;rintro e x ⟨rfl,hb⟩;have HBX:=w9bt HB hb;clear hb L0;go_wp2_with fail;refine(rF _ _ (by omega) (by omega)).mono ?_;rintro e y ⟨rfl,hy⟩;obtain rfl:=hy.symm;rw[HV.out];clear hy hbd;go_wp2_with fail;go_ret;exact⟨rfl,HBX.out⟩
end
end
section
attribute [-go_sem] aE aL
attribute [local go_sem] lG lH
attribute [local go_sem] Oper.semAt_some
def em (cs:List Int) (k:Nat):Int:=cs[k]?.getD 0
def dM (cs:List Int) (k:Nat):Int:=(cs.take k).sum
theorem sD (cs:List Int) {k:Nat} (h:k<cs.length):dM cs (k+1)=dM cs k+em cs k:=by
 unfold dM;unfold em;rw[List.take_succ_eq_append_getElem h,bJ h,List.sum_append];simp
theorem sE (cs:List Int) (h:∀k:Nat,0<=em cs k/\em cs k<=1000):∀k,0<=dM cs k/\dM cs k<=1000*k
 | 0=>by simp[dM]
 | k+1=>by
  have:=sE cs h k;by_cases hk:k<cs.length
  ·rw[sD cs hk];have:=h k;omega
  ·have e:dM cs (k+1)=dM cs k:=by unfold dM;rw[ey (by omega),ey (by omega)]
   rw[e];omega
def ny (cs:List Int) {m:Nat} (x:Fin m):Array am:=#[ab af (x.1:Int),al #[ab af (dM cs x.1),ab af (em cs x.1)]]
structure Cnts (cs:List Int):Prop where
 len:cs.length<=4
 bd:∀k:Nat,0<=em cs k/\em cs k<=1000
structure LaidR (W:ak) (Bs:Nat) (cs:List Int) (a:Option aN) (b:Nat):Prop where
 box:Boxed W Bs 41 (ag a cs.length cs.length)
 lt:Bs<W.heap.size
 blt:b<W.heap.size
 row:cs.length=0\/(a=some ⟨b,0,none⟩/\∀j,j<cs.length->W.cell? ⟨b,0+j,none⟩=some (ab af (em cs j)))
theorem LaidR.below {W W':ak} {Bs b:Nat} {cs:List Int} {a:Option aN} (h:LaidR W Bs cs a b) (hb:w9b W W'):LaidR W' Bs cs a b:=
 ⟨(hb.block Bs h.lt).trans h.box,aU h.lt hb.size,aU h.blt hb.size,h.row.imp id fun⟨e,h2⟩=>⟨e,fun j hj=>(hb.cell (p:=⟨b,0+j,none⟩) h.blt).trans (h2 j hj)⟩⟩
section
theorem Ds (f c:Int) (w:ak):(cY 284 #[(0,ab af f),(1,ab af c)]).run aj w=.ok (al #[ab af f,ab af c]) w:=by kernel_rfl
theorem Dt (F:Fence) (n:Nat) (hf:F.fn 194) (hro:F.round=none) (a:Option aN) (len cap:Nat) (w:ak):
  CallsIn F n aj 194 #[ag a len cap] w fun e w'=>e=ar (.func (.func 260) #[] #[ao (some ⟨w.heap.size,0,none⟩)])/\w'=w.alloc (ap #[ag a len cap] 41):=by
 refine callsIn_of_wp func194 rfl hf ?_ hro;simp only[ntmps194,dU,cK,dP,Nat.reduceAdd,Nat.reduceSub,ez,eA,eD,eF,dT,dX]
 gi_wp2
 go_ret;exact⟨rfl,rfl⟩
attribute [local go_sem] Ds
theorem Du (n:Nat) (hn:1<=n) (l Bs b:Nat) (cs:List Int) (a:Option aN) (hcs:Cnts cs)
  (J Jx:List (Fin cs.length)->ak->Prop)
  (hY:∀pre x W,J pre W->pre.length<cs.length->YieldAt Fence.wide (n - 1) aj l (ny cs x) W fun e W'=>
   (e=ar (.bool true)/\J (pre++ [x]) W'/\dH (fun k=>k=Bs\/k=b) W W')\/(e=ar (.bool false)/\Jx (pre++ [x]) W'))
  (W:ak) (hL:LaidR W Bs cs a b) (h0:J [] W):
  CallsIn Fence.wide n aj 260 #[.func (.yield l) #[] #[],ao (some ⟨Bs,0,none⟩)] W fun e W'=>(∃v,e=ar v)/\
   ((∃ys,ys=ik cs.length/\J ys W')\/(∃pre,(∃k,k<=cs.length/\pre=gZ cs.length k)/\Jx pre W')):=by
 refine callsIn_of_wp func260 rfl trivial ?_ rfl;simp only[ntmps260,dU,cK,dP,Nat.reduceAdd,Nat.reduceSub,ez,eA,eD,eF,dT,dX];have c0:=hL.box.cell;have HL:=ae hL;have HCS:=ae hcs;obtain⟨m,hm⟩:=w9nm cs.length;have HM:=ae hm;have hmx:m<=4:=by rw[←hm];exact hcs.len
 rw[hm]at c0;clear hL hcs hm
 gi_wp2
 gi_loopw [3,8] (fun f i wr=>∃k:Nat,k<=m/\i=ab af k/\f=ab af (dM cs k)/\J (gZ cs.length k) wr/\Hid (dH (fun k=>k=Bs\/k=b) W wr)) (fun f i _=>m - (aW i).toNat)
 case atStart=>exact⟨0,bq _,rfl,rfl,h0,dH.refl _ _⟩
 case round=>
  obtain⟨k,hk,rfl,rfl,hJs,HK⟩:=hrel;by_cases hlt:k<m
  ·have hlt':k<cs.length:=by rw[HM.out];exact hlt
   obtain⟨rfl,hc⟩:a=some ⟨b,0,none⟩/\∀j,j<cs.length->W.cell? ⟨b,0+j,none⟩=some (ab af (em cs j)):=by
    rcases HL.out.row with h | h
    ·omega
    ·exact h
   have c2:wr.cell? ⟨b,k,none⟩=some (ab af (em cs k)):=by have:=(HK.out.cell (p:=⟨b,0+k,none⟩) (aC rfl)).trans (hc k hlt');rwa [dC]at this
   obtain⟨fn,tmps,assign,body,hy,hR⟩:=hY _ ⟨k,hlt'⟩ wr hJs (by rw[oK _ k (by omega)];exact hlt');unfold ny at hy
   dsimp only at hy
   have HSU:=ae (sD cs hlt');obtain⟨s1,s2⟩:=sE cs HCS.out.bd k;obtain⟨q1,q2⟩:=HCS.out.bd k;obtain⟨y,hY'⟩:∃y,em cs k=y:=⟨_,rfl⟩;obtain⟨s,hS⟩:=w9nm (dM cs k);rw[hY']at c2 hy q1 q2 HSU;rw[hS]at hy s1 s2 HSU ⊢;have hkm:(k:Int)< (m:Int):=by omega
   have s3:s<=4000:=by omega
   clear hc hY' hS
   gi_wp2
   refine hR.mono ?_;rintro e W3 (⟨rfl,hJ3,hk3⟩ | ⟨rfl,hJx3⟩)
   ·have HK3:Hid (dH (fun k=>k=Bs\/k=b) W W3):=iW HK.out hk3;clear hk3
    gi_wp2
    go_roundw
    case rel=>exact⟨k+1,by omega,by simp,by rw[HSU.out],by rw[ku cs.length k hlt'];exact hJ3,HK3⟩
    case measure=>simp[aW];omega
   ·gi_wp2
    refine bl (results_none rfl _ _ _) rfl ?_;exact⟨⟨_,rfl⟩,aC ⟨_,⟨k+1,by omega,(ku cs.length k hlt').symm⟩,hJx3⟩⟩
  ·have hJe:J (gZ cs.length cs.length) wr:=by
    have e:k=cs.length:=by have:=HM.out;omega
    rw[e]at hJs;exact hJs
   obtain rfl:k=m:=by omega
   gi_wp2
   go_end0
   exact⟨⟨_,rfl⟩,aA ⟨_,rfl,by rw[←nc];exact hJe⟩⟩
theorem wJ (n:Nat) (hn:1<=n) (Bs b:Nat) (cs:List Int) (a:Option aN) (hcs:Cnts cs) (w:ak) (hL:LaidR w Bs cs a b):
  SeqStopsK Fence.wide n aj 260 #[ao (some ⟨Bs,0,none⟩)] (ny cs (m:=cs.length)) (dH fun k=>k=Bs\/k=b) (fun ys=>ys=ik cs.length) (fun _=>True) cs.length w:=fun l J Jx W hW hJ _ hY h0=>
 (Du n hn l Bs b cs a hcs J Jx hY W (hL.below hW) h0).mono fun e W' ⟨he,h⟩=>⟨he,h.imp id fun⟨pre,_,hj⟩=>⟨pre,trivial,hj⟩⟩
end
end
section
attribute [-simp] isAgg284 zeroValue284
attribute [-go_sem] aE aL
attribute [local go_sem] Oper.semAt_some
def iX (f c:Int):List am:= [ab af f,ab af c]
theorem Dv (t:aV) (h:t≠ 284) (a:aN):aE t a=(do if←isAgg t then pure (al (←loadCells a (←sizeOf t)))else load a):=rfl
theorem Dw (t:aV) (h:t≠ 284) (a:aN) (v:am):aL t a v=(do
  if v.cells.size≠(←sizeOf t)then stuck "storeVar: the value has not the size of the variable"
  storeCells a v.cells.toList):=rfl
theorem Dx (w:ak):(zeroValue 284).run aj w=.ok (al #[ab af 0,ab af 0]) w:=by kernel_rfl
theorem Dy (w:ak):(cY 284 #[]).run aj w=.ok (al #[ab af 0,ab af 0]) w:=by kernel_rfl
theorem wK:(aj.info? 284).map (·.size)=some 2:=by kernel_rfl
set_option maxRecDepth 100000 in
theorem sF {x:ak} {B:Nat} {t:aV} {f c:Int} (hr:aB x B t (iX f c)):(aE 284 ⟨B,0,none⟩).run aj x=.ok (al #[ab af f,ab af c]) x:=
 iL x B 0 _ (iX f c) _ hr.range Tryz.underlying284 rfl (by kernel_rfl)
theorem wL {x:ak} {B:Nat} {old:List am} {f c:Int} (hr:aB x B 284 old) (ho:old.length=2):
  ∃y,(aL 284 ⟨B,0,none⟩ (al #[ab af f,ab af c])).run aj x=.ok () y/\aB y B 284 (iX f c)/\x.grownBy y (some B):=by
 refine⟨_,run_storeVar_row x B _ _ old.toArray (iX f c).toArray hr wK (by simpa [iX]using ho) (by kernel_rfl),setRow_heap x B _ _ _ _ hr, ?_⟩;exact⟨rfl,rfl,rfl,by rw[setRow_size];exact aJ _,fun k _ hk=>setRow_other x B k _ (fun e=>hk (by rw[e]))⟩
theorem wM (x:ak) (f c:Int):(aL 284 ⟨x.heap.size,0,none⟩ (al #[ab af f,ab af c])).run aj (x.alloc (ap #[ab af 0,ab af 0] 284))=.ok () (x.alloc (ap #[ab af f,ab af c] 284)):=
 iU x _ _ (iX f c).toArray wK rfl (by kernel_rfl)
theorem kx {x y:ak} {B N:Nat} {t:aV} {C:List am} {row:Option Nat} (h:aB x B t C) (hg:x.grownBy y row) (hr:∀r,row=some r->N<=r/\∃o:Obj,x.heap[r]? =some o/\o.isCells=false):aB y B t C:=
 (hg.block B h.lt (fun e=>by
  obtain⟨-,o,ho,hc⟩:=hr B e.symm;rw[show x.heap[B]? =_ from h]at ho;cases ho;cases hc)).trans h
def j6 (cs:List Int) (p:Nat):Int:=if p<cs.length then dM cs p else 0
def mA (cs:List Int) (p:Nat):Int:=if p<cs.length then em cs p else 0
attribute [local go_sem] Dv Dw Dx Dy
theorem wN {B:Nat} {x y:ak} {b:Nat} {C:List am} {t:aV} (h:aB x b t C) (hg:x.grownBy y (some b)):KeepsFrom B x y:=⟨hg.size,fun k o hk ho hc=>by
 refine(hg.block k (cj.1 ho).1 (fun e=> ?_)).trans ho;obtain rfl:b=k:=by cases e;rfl
 rw[show x.heap[b]? =_ from h]at ho;cases ho;cases hc⟩
section
theorem wO (cs:List Int) (hcs:Cnts cs) (Bs b p:Nat) (a:Option aN) (w:ak) (hL:LaidR w Bs cs a b):
  az aj 211 #[.func (.func 260) #[] #[ao (some ⟨Bs,0,none⟩)],ab af (p:Int)] w fun e w'=>e=ar (al #[ab af (j6 cs p),ab af (mA cs p)])/\ah w.heap.size w w':=by
 refine(callsIn_wide (n:=3)).1 ?_;refine jf func211 rfl trivial ?_ rfl;simp only[ntmps211,dU,cK,dP,Nat.reduceAdd,Nat.reduceSub,ez,eA,eD,eF,dT,dX];have HL:=ae hL;have HCS:=ae hcs;obtain⟨B,hB⟩:=w9nm w.heap.size;have HSZ:=ae hB;have hltB:Hid (Bs<B):=by show _<_;rw[←hB];exact hL.lt
 have hbB:Hid (b<B):=by show _<_;rw[←hB];exact hL.blt
 clear hL hcs
 gi_wp2
 obtain⟨W0,hW0⟩:=w9nm ((w.alloc (ap #[ab af (p:Int)] 3)).alloc (ap #[ab af 0,ab af 0] 284));have bv:Boxed W0 B 3 (ab af (p:Int)):=by rw[←hW0,←hB];exact(dY w _ _).alloc _
 have br:aB W0 (B+1) 284 (iX 0 0):=by
  rw[←hW0,←hB];have:=aB.new (w.alloc (ap #[ab af (p:Int)] 3)) 284 (iX 0 0)
  rwa [dy]at this
 have hB0:ah B w W0:=by rw[←hW0,←hB];exact((aF _ w).alloc (aJ _) _).alloc (by simp) _
 have hsz0:W0.heap.size=B+2:=by rw[←hW0,←hB];simp
 have hL0:LaidR W0 Bs cs a b:=HL.out.below (by show ah _ _ _;rw[hB];exact hB0);try rw[hW0]
 clear hW0;have hS:∀k,(k=Bs\/k=b)->k<B:=by rintro k (rfl | rfl);exact hltB.out;exact hbB.out
 have HS:=ae hS;have HL0:=ae hL0;have HB:Hid (∀W,ah B w W->w.heap.size<=W.heap.size):=fun W h=>h.size;have HKA:Hid (∀(W:ak) (o:Obj),ah B w W->dH (fun k=>k=Bs\/k=b) W (W.alloc o)):=fun W o h=>⟨by simp,fun k hk=>Below.heap_alloc _ _ _ (by have:=hS k hk;have:=h.size;omega)⟩;clear hS hL0;refine wpIn_rangeFunc_ownH (n:=3) rfl (by omega) (gf:= 260) (lb:=#[ao (some ⟨Bs,0,none⟩)]) rfl trivial (enters_of func260 (by kernel_rfl) rfl)
  (wJ 2 (by omega) Bs b cs a HCS.out W0 HL0.out) iW (nj (fun k hk=>by have:=HS.out k hk;omega)) (aF _ _) (fun _=>rfl)
  (fun pre W=>Boxed W B 3 (ab af (p:Int))/\aB W (B+1) 284 (iX 0 0)/\ah B w W/\∀y ∈ pre,y.1≠p)
  (fun c pre W=>c=.ret/\aB W (B+1) 284 (iX (j6 cs p) (mA cs p))/\ah B w W)
  ?hI ?hIx ⟨bv,br,hB0,fun y hy=>by cases hy⟩
  (fun x a' W=>∃C,B+1<C/\aB W C 284 (iX (dM cs x.1) (em cs x.1))/\a'={tmps:=#[.func (.func 260) #[] #[ao (some ⟨Bs,0,none⟩)],ab af (p:Int),aK,ao (some ⟨B,0,none⟩),ao (some ⟨B+1,0,none⟩),ab af (x.1:Int),ao (some ⟨C,0,none⟩),.func (.func 260) #[] #[ao (some ⟨Bs,0,none⟩)],ab af (x.1:Int),al #[ab af (dM cs x.1),ab af (em cs x.1)],aK,aK,aK,aK,aK],defers:= []})
  ?hAx ?assign ?body ?done ?stop
 case hI=>
  intro s X Y row ⟨h1,h2,h3,h4⟩ hg hr;exact⟨boxed_own _ _ (fun _:Unit=>_) () X Y row h1 hg (fun r e=>(hr r e).2),kx h2 hg hr,ownFrom_below (β:=Unit) (by omega) (by omega) () X Y row h3 hg hr,h4⟩
 case hIx=>
  intro c s X Y row ⟨h1,h2,h3⟩ hg hr;exact⟨h1,kx h2 hg hr,ownFrom_below (β:=Unit) (by omega) (by omega) () X Y row h3 hg hr⟩
 case hAx=>
  rintro x a' _ X Y row ⟨C,h1,h2,h3⟩ hg hr;exact⟨C,h1,kx h2 hg hr,h3⟩
 case assign=>
  rintro l pre x W K ⟨h1,h2,h3,h4⟩ hK;have ST:=wM W (dM cs x.1) (em cs x.1);have HZ:Hid (B+1<W.heap.size):=h2.lt;have H3:=ae h3;have hK:=hK _ _ ((KeepsOthers.alloc W (ap #[ab af (dM cs x.1),ab af (em cs x.1)] 284)).from _) (HKA.out W _ h3) ⟨h1.alloc _,h2.belowN (aR W _) HZ.out,h3.alloc (by have:=HZ.out;omega) _,h4⟩ ⟨W.heap.size,HZ.out,aB.new W _ _,rfl⟩;clear h1 h2 h3 h4
  dsimp only[ny]
  gi_wp2
  exact hK
 case body=>
  rintro l pre x a' W _ _ ⟨h1,h2,h3,h4⟩ ⟨C,hC,hx,rfl⟩ hlen;have d1:=h1.cell;have d2:=sF hx;have hxl:=x.2;obtain⟨y,ST,hy,hgy⟩:=wL (f:=dM cs x.1) (c:=em cs x.1) h2 rfl;have HKF:Hid (KeepsFrom W0.heap.size W y):=wN h2 hgy;have H1:=ae h1;have H2:=ae h2;have H3:=ae h3;have H4:=ae h4;have HY:=ae hy;have HGY:Hid (ah B w y):=h3.grown hgy (by have:=h3.size;omega) (fun j e=>by cases e;omega);clear h1 h2 h3 h4 hx hy hgy;by_cases q:(x.1:Int)=(p:Int)
  ·have q1:((x.1:Int)==(p:Int))=true:=by simpa using q
   have HQ:Hid (x.1=p):=by show _=_;omega
   have HXL:=ae hxl;clear q hxl
   gi_wp2
   refine⟨HKF.out,rfl, ?_,HGY.out⟩;have e1:j6 cs p=dM cs x.1:=by unfold j6;rw[←HQ.out,if_pos HXL.out]
   have e2:mA cs p=em cs x.1:=by unfold mA;rw[←HQ.out,if_pos HXL.out]
   rw[e1,e2];exact HY.out
  ·have q1:((x.1:Int)==(p:Int))=false:=by simpa using q
   have HQ:Hid (x.1≠p):=by show _≠_;omega
   clear q hxl
   gi_wp2
   refine⟨KeepsFrom.refl _ _,dH.refl _ _,H1.out,H2.out,H3.out,fun y hy=> ?_⟩;rcases gW.1 hy with hy | hy
   ·exact H4.out y hy
   ·rw[dO.1 hy];exact HQ.out
 case done=>
  rintro D xs W hD rfl ⟨h1,h2,h3,h4⟩ hK;have hp:¬p<cs.length:=fun h=>h4 ⟨p,h⟩ (List.mem_finRange _) rfl;have HE:Hid (j6 cs p=0/\mA cs p=0):=⟨if_neg hp,if_neg hp⟩;obtain⟨y,ST,hy,hgy⟩:=wL (f:=0) (c:=0) h2 rfl;have hKy:=(wN (B:=0) h2 hgy).same D _ (bq _) hK rfl;have HKY:=ae hKy;have HY:=ae hy;have HGY:Hid (ah B w y):=h3.grown hgy (by have:=h3.size;omega) (fun j e=>by cases e;omega);clear h1 h2 h3 h4 hp hy hgy hKy hK
  gi_wp2
  refine⟨by simp,aA ⟨_,_,rfl,iD HKY.out, ?_⟩⟩;have hg2:=grownBy_putObj' y D (.deferred none);have hy2:aB _ (B+1) 284 (iX 0 0):=kx (N:=0) HY.out hg2 (fun r e=>by cases e;exact⟨bq _,_,HKY.out,rfl⟩);refine⟨_,ff rfl rfl (sF hy2),by rw[HE.out.1,HE.out.2], ?_⟩;rw[HSZ.out];exact HGY.out.trans (belowK_b (w:=w) (by omega) y D _ _ (by omega) HKY.out rfl rfl)
 case stop=>
  rintro D c pre W hD _ ⟨rfl,h2,h3⟩ hK;have HR:=ae h2;have H3:=ae h3;have HK:=ae hK;clear h2 h3 hK
  gi_wp2
  refine⟨by simp,aA ⟨_,_,rfl,iD HK.out, ?_⟩⟩;have hg2:=grownBy_putObj' W D (.deferred none);have hy2:aB _ (B+1) 284 (iX (j6 cs p) (mA cs p)):=kx (N:=0) HR.out hg2 (fun r e=>by cases e;exact⟨bq _,_,HK.out,rfl⟩);refine⟨_,ff rfl rfl (sF hy2),rfl, ?_⟩;rw[HSZ.out];exact H3.out.trans (belowK_b (w:=w) (by omega) W D _ _ (by omega) HK.out rfl rfl)
def mB (cs:List Int) {m:Nat} (xs:List (Fin m)):Int:=(xs.getLast?.map fun y=>dM cs y.1+em cs y.1).getD 0
theorem wP (cs:List Int) {m:Nat} (xs:List (Fin m)) (x:Fin m):mB cs (xs++ [x])=dM cs x.1+em cs x.1:=by
 unfold mB;rw[List.getLast?_concat]
 rfl
theorem Dz (cs:List Int):mB cs (ik cs.length)=dM cs cs.length:=by
 have key:∀(n:Nat) (h:n<=cs.length),mB cs (gZ cs.length n)=dM cs n:=by
  intro n h;cases n with
  | zero=>rfl
  | succ n=>rw[ku cs.length n h,wP,sD cs h]
 rw[←nc];exact key _ (aJ _)
theorem wQ (cs:List Int) (hcs:Cnts cs) (Bs b:Nat) (a:Option aN) (w:ak) (hL:LaidR w Bs cs a b):
  az aj 112 #[.func (.func 260) #[] #[ao (some ⟨Bs,0,none⟩)]] w fun e w'=>e=ar (ab af (dM cs cs.length))/\ah w.heap.size w w':=by
 refine(callsIn_wide (n:=3)).1 ?_;refine jf func112 rfl trivial ?_ rfl;simp only[ntmps112,dU,cK,dP,Nat.reduceAdd,Nat.reduceSub,ez,eA,eD,eF,dT,dX];have HL:=ae hL;have HCS:=ae hcs;obtain⟨B,hB⟩:=w9nm w.heap.size;have HSZ:=ae hB;have hltB:Hid (Bs<B):=by show _<_;rw[←hB];exact hL.lt
 have hbB:Hid (b<B):=by show _<_;rw[←hB];exact hL.blt
 clear hL hcs
 gi_wp2
 obtain⟨W0,hW0⟩:=w9nm (w.alloc (ap #[ab af 0] 3));have bv:Boxed W0 B 3 (ab af 0):=by rw[←hW0,←hB];exact dY w _ _
 have hB0:ah B w W0:=by rw[←hW0,←hB];exact(aF _ w).alloc (aJ _) _
 have hsz0:W0.heap.size=B+1:=by rw[←hW0,←hB];simp
 have hL0:LaidR W0 Bs cs a b:=HL.out.below (by show ah _ _ _;rw[hB];exact hB0);try rw[hW0]
 clear hW0;have hS:∀k,(k=Bs\/k=b)->k<B:=by rintro k (rfl | rfl);exact hltB.out;exact hbB.out
 have HS:=ae hS;have HL0:=ae hL0;have HKA:Hid (∀(W:ak) (o:Obj),ah B w W->dH (fun k=>k=Bs\/k=b) W (W.alloc o)):=fun W o h=>⟨by simp,fun k hk=>Below.heap_alloc _ _ _ (by have:=hS k hk;have:=h.size;omega)⟩;clear hS hL0;refine wpIn_rangeFunc_ownH (n:=3) rfl (by omega) (gf:= 260) (lb:=#[ao (some ⟨Bs,0,none⟩)]) rfl trivial (enters_of func260 (by kernel_rfl) rfl)
  (wJ 2 (by omega) Bs b cs a HCS.out W0 HL0.out) iW (nj (fun k hk=>by have:=HS.out k hk;omega)) (aF _ _) (fun _=>rfl)
  (fun pre W=>Boxed W B 3 (ab af (mB cs pre))/\ah B w W)
  (fun _ _ _=>False)
  ?hI (fun _ _ _ _ _ h _ _=>h.elim) ⟨bv,hB0⟩
  (fun x a' W=>∃C,B<C/\aB W C 284 (iX (dM cs x.1) (em cs x.1))/\a'={tmps:=#[.func (.func 260) #[] #[ao (some ⟨Bs,0,none⟩)],aK,ab af 0,ao (some ⟨B,0,none⟩),aK,ao (some ⟨C,0,none⟩),.func (.func 260) #[] #[ao (some ⟨Bs,0,none⟩)],ab af (x.1:Int),al #[ab af (dM cs x.1),ab af (em cs x.1)],aK,aK,aK,aK,aK,aK],defers:= []})
  ?hAx ?assign ?body ?done ?stop
 case hI=>
  intro s X Y row ⟨h1,h3⟩ hg hr;exact⟨boxed_own _ _ (fun _:Unit=>_) () X Y row h1 hg (fun r e=>(hr r e).2),ownFrom_below (β:=Unit) (by omega) (by omega) () X Y row h3 hg hr⟩
 case hAx=>
  rintro x a' _ X Y row ⟨C,h1,h2,h3⟩ hg hr;exact⟨C,h1,kx h2 hg hr,h3⟩
 case assign=>
  rintro l pre x W K ⟨h1,h3⟩ hK;have ST:=wM W (dM cs x.1) (em cs x.1);have HZ:Hid (B<W.heap.size):=h1.lt;have hK:=hK _ _ ((KeepsOthers.alloc W (ap #[ab af (dM cs x.1),ab af (em cs x.1)] 284)).from _) (HKA.out W _ h3) ⟨h1.alloc _,h3.alloc (by have:=HZ.out;omega) _⟩ ⟨W.heap.size,HZ.out,aB.new W _ _,rfl⟩;clear h1 h3
  dsimp only[ny]
  gi_wp2
  exact hK
 case body=>
  rintro l pre x a' W _ _ ⟨h1,h3⟩ ⟨C,hC,hx,rfl⟩ hlen;have d1:=h1.cell;have d2:=h1.frozen;have k0:W.cell? ⟨C,0,none⟩=some (ab af (dM cs x.1)):=hx.cell 0 _ rfl;have k1:W.cell? ⟨C,1,none⟩=some (ab af (em cs x.1)):=hx.cell 1 _ rfl;have hxl:=x.2;have hc4:=HCS.out.len;obtain⟨s1,s2⟩:=sE cs HCS.out.bd x.1;obtain⟨q1,q2⟩:=HCS.out.bd x.1;have HV:=ae (wP cs pre x);obtain⟨s,hs⟩:=w9nm (dM cs x.1);obtain⟨c,hcc⟩:=w9nm (em cs x.1);obtain⟨e,he⟩:=w9nm (mB cs pre);rw[hs]at k0 s1 s2 HV ⊢;rw[hcc]at k1 q1 q2 HV ⊢;rw[he]at h1 d1;have s3:s<=4000:=by omega
  have H1:=ae h1;have H3:=ae h3;have HBL:Hid (∀k,(k=Bs\/k=b)->k≠B):=fun k hk=>by have:=HS.out k hk;omega
  clear h1 h3 hx hs hcc he hxl hc4 s2
  gi_wp2
  refine⟨(iC _ _ _).from _,⟨(KeepsWalks.setCell W _ _).size,fun k hk=>gc _ _ _ k (HBL.out k hk)⟩, ?_,H3.out.setCell (p:=⟨B,0,none⟩) (aJ _) _⟩;rw[HV.out];exact H1.out.set _
 case done=>
  rintro D xs W hD rfl ⟨h1,h3⟩ hK;have d1:=h1.cell;have HV:=ae (Dz cs);have H3:=ae h3;have HK:=ae hK;clear h1 h3 hK
  gi_wp2
  refine⟨by simp,aA ⟨_,_,rfl,iD HK.out, ?_⟩⟩;refine⟨_,results_tmp rfl _ _ _,by rw[←HV.out];rfl, ?_⟩;rw[HSZ.out];exact H3.out.trans (belowK_b (w:=w) (by omega) W D _ _ (by omega) HK.out rfl rfl)
 case stop=>
  rintro D c pre W hD _ h _;exact h.elim
end
end
section
attribute [-simp] isAgg284 zeroValue284
attribute [-go_sem] aE aL
theorem wR (t:aV) (h:t≠ 284 /\t≠ 23) (a:aN):aE t a=(do if←isAgg t then pure (al (←loadCells a (←sizeOf t)))else load a):=rfl
theorem wS (t:aV) (h:t≠ 284 /\t≠ 23) (a:aN) (v:am):aL t a v=(do
  if v.cells.size≠(←sizeOf t)then stuck "storeVar: the value has not the size of the variable"
  storeCells a v.cells.toList):=rfl
attribute [local go_sem] wR wS
def Geo.fcs (g:Geo):List Int:=if g.good then [2,g.r,g.pgs,g.slots]else []
def Geo.wcs (g:Geo):List Int:=if g.good then [g.b,g.a]else []
theorem DA {a b c d:Int} (h1:0<=a/\a<=1000) (h2:0<=b/\b<=1000) (h3:0<=c/\c<=1000) (h4:0<=d/\d<=1000):Cnts [a,b,c,d]:=⟨by simp,fun k=>by
 unfold em
 match k with
 | 0=>exact h1
 | 1=>exact h2
 | 2=>exact h3
 | 3=>exact h4
 | k+4=>simp⟩
theorem DB {a b:Int} (h1:0<=a/\a<=1000) (h2:0<=b/\b<=1000):Cnts [a,b]:=⟨by simp,fun k=>by
 unfold em
 match k with
 | 0=>exact h1
 | 1=>exact h2
 | k+2=>simp⟩
theorem wT:Cnts []:=⟨by simp,fun k=>by unfold em;simp⟩
theorem Geo.fcs_ok (g:Geo):Cnts g.fcs:=by
 unfold Geo.fcs;by_cases hg:g.good
 ·rw[if_pos hg];obtain⟨b1,b2,b3,b4,b5,b6⟩:=Geo.bounds hg.1;have h9:=hg.2.1;have h10:=hg.2.2;exact DA (by omega) (by omega) (by omega) (by omega)
 ·rw[if_neg hg];exact wT
theorem Geo.wcs_ok (g:Geo):Cnts g.wcs:=by
 unfold Geo.wcs;by_cases hg:g.good
 ·rw[if_pos hg];obtain⟨h1,h2,h3,h4,h5,h6,h7,h8⟩:=hg.1;exact DB (by omega) (by omega)
 ·rw[if_neg hg];exact wT
theorem DC (x y z t:Int) (w:ak):(cO 41 4 #[(0,ab af x),(1,ab af y),(2,ab af z),(3,ab af t)]).run aj w=.ok (ag (some ⟨w.heap.size,0,none⟩) 4 4) (w.alloc (ap [ab af x,ab af y,ab af z,ab af t].toArray 3)):=by kernel_rfl
theorem DD (x y:Int) (w:ak):(cO 41 2 #[(0,ab af x),(1,ab af y)]).run aj w=.ok (ag (some ⟨w.heap.size,0,none⟩) 2 2) (w.alloc (ap [ab af x,ab af y].toArray 3)):=by kernel_rfl
theorem px (a:Option aN) (len cap:Nat) (w:ak):az aj 194 #[ag a len cap] w fun e w'=>e=ar (.func (.func 260) #[] #[ao (some ⟨w.heap.size,0,none⟩)])/\w'=w.alloc (ap #[ag a len cap] 41):=
 (callsIn_wide (n:=3)).1 (Dt Fence.wide 3 trivial rfl a len cap w)
theorem wU (w:ak) (cs:List Int):LaidR ((w.alloc (ap (cs.map (Value.int af)).toArray 3)).alloc (ap #[ag (some ⟨w.heap.size,0,none⟩) cs.length cs.length] 41)) (w.alloc (ap (cs.map (Value.int af)).toArray 3)).heap.size cs (some ⟨w.heap.size,0,none⟩) w.heap.size:=by
 obtain⟨V,hV⟩:=w9nm (w.alloc (ap (cs.map (Value.int af)).toArray 3));have r:aB V w.heap.size 3 (cs.map (Value.int af)):=by rw[←hV];exact aB.new w _ _
 rw[hV];have r2:=r.below (aR V (ap #[ag (some ⟨w.heap.size,0,none⟩) cs.length cs.length] 41));refine⟨dY V _ _,by simp,r2.lt,aC ⟨rfl,fun j hj=> ?_⟩⟩;rw[dC];refine r2.cell j _ ?_;unfold em;rw[du,bJ hj]
 rfl
theorem wV (w:ak):LaidR (w.alloc (ap #[ag none 0 0] 41)) w.heap.size [] none w.heap.size:=⟨dY w _ _,by simp,by simp,aA rfl⟩
section
theorem sG (g:Geo) (hi:g.In) (w:ak):az aj 113 #[al g.v] w fun e w'=>∃Bs a b,e=ar (.func (.func 260) #[] #[ao (some ⟨Bs,0,none⟩)])/\LaidR w' Bs g.fcs a b/\ah w.heap.size w w':=by
 have hmx:=w9x
 obtain⟨W,hW⟩:=w9nm (w.alloc (ap g.v 23));have r:aB W w.heap.size 23 g.cs:=by rw[←hW];exact aB.new w _ _
 have HB:Hid (ah w.heap.size w W):=by show ah _ _ _;rw[←hW];exact aR w _
 obtain⟨B,hB⟩:=w9nm w.heap.size;rw[hB]at r;have L0:=cF r;have HR:=ae r;have HG:=ae (mz g hi W);have HP:=ae (fun x=>wI g hi x);have HI:=ae hi;clear r hi;by_cases hg:g.good
 ·have e:g.fcs= [2,g.r,g.pgs,g.slots]:=if_pos hg;have e2:g.oP=g.pgs:=if_pos hg;have HS:=ae (fun x=>wG g hg.1 x);rw[decide_eq_true hg]at HG;rw[e2]at HP;rw[e];obtain⟨rr,hrr⟩:=w9nm g.r;obtain⟨P,hP⟩:=w9nm g.pgs;obtain⟨M,hM⟩:=w9nm g.slots;rw[hP]at HP;rw[hM]at HS;rw[hrr,hP,hM];have HRR:=ae hrr;clear e e2 hg hrr hP hM;go_enter func113,ntmps113;go_wp2_with fail;refine HG.out.mono ?_;rintro e x ⟨rfl,hb⟩;have HBX:=w9bt HB hb;have LG:∀z:aI x,(aE 23 ⟨B,0,none⟩).run aj z.1=.ok (al g.v) z.1:=fun z=>cF ((HR.out.below hb).below z.2);have C4:∀z:aI x,z.1.cell? ⟨B,4,none⟩=some (ab af rr):=fun z=>by rw[←HRR.out];exact((HR.out.below hb).below z.2).cell 4 _ rfl
  clear hb L0;go_wp2_with fail;refine cM (fun u=>∃y:aI x,u=y.1) 8 (.takes [0,1,2,4] (.one 3 (.one 5 (.one 6 (.one 7 .leaf))))) hmx (by kernel_rfl) (by intro c x v a w h;cases x<;>exact h) ⟨⟨x.drew,(aF _ x).drew⟩,rfl⟩ ?_;repeat(rw[bj];simp only[au,ay];go_big_quiet_step (fail);refine aO ?_)
  rw[bo,aT];simp only[au,ay];have HXD:Hid (ah x.heap.size x x.drew):=(aF _ x).drew;clear LG C4;obtain⟨X,hX⟩:=w9nm x.drew;rw[hX]at HXD ⊢;clear hX;go_wp2_with fail;refine(HP.out _).mono ?_;rintro e x1 ⟨rfl,hb1⟩;have HX1:=w9bt HXD hb1;clear hb1;go_wp2_with fail;refine aG ⟨⟨x1,HX1.out⟩,rfl⟩ ?_;rw[aT];simp only[au,ay];go_wp2_with fail;refine(HS.out _).mono ?_;rintro e x2 ⟨rfl,hb2⟩;have HX2:=w9bt HX1 hb2;clear hb2;go_wp2_with fail;refine aG ⟨⟨x2,HX2.out⟩,rfl⟩ ?_;rw[aT];simp only[au,ay];have HL:=ae (wU x2 [2,rr,P,M]);have HBL:=ae (DC 2 rr P M x2);obtain⟨x3,hx3⟩:=w9nm (x2.alloc (ap [ab af 2,ab af rr,ab af P,ab af M].toArray 3));have HX3:Hid (ah x.heap.size x x3):=by show ah _ _ _;rw[←hx3];exact HX2.out.alloc HX2.out.size _
  obtain⟨N,hN⟩:=w9nm x2.heap.size;have HL:Hid (LaidR (x3.alloc (ap #[ag (some ⟨N,0,none⟩) 4 4] 41)) x3.heap.size [2,rr,P,M] (some ⟨N,0,none⟩) N):=by show LaidR _ _ _ _ _;rw[←hN,←hx3];exact HL.out
  rw[hx3,hN]at HBL;clear hx3;refine dq _ _ _ rfl rfl [(0,ab af 2),(1,ab af rr),(2,ab af P),(3,ab af M)] _ rfl HBL.out ?_;refine wpList_nil ?_;refine aG ⟨⟨x3,HX3.out⟩,rfl⟩ ?_;rw[aT];simp only[au,ay];clear hN;go_wp2_with fail;refine(px _ _ _ _).mono ?_;rintro e x4 ⟨rfl,hx4⟩;rw[←hx4]at HL;have HX4:Hid (ah x.heap.size x x4):=by show ah _ _ _;rw[hx4];exact HX3.out.alloc HX3.out.size _
  clear hx4;go_wp2_with fail;refine aG ⟨⟨x4,HX4.out⟩,rfl⟩ ?_;rw[cu];simp only[be,bf];go_wp2_with fail;go_ret;exact⟨_,_,_,rfl,HL.out,HBX.out.trans (HX4.out.mono HBX.out.size)⟩
 ·have e:g.fcs= []:=if_neg hg;rw[decide_eq_false hg]at HG;rw[e];clear e hg;go_enter func113,ntmps113;go_wp2_with fail;refine HG.out.mono ?_;rintro e x ⟨rfl,hb⟩;have HBX:=w9bt HB hb;clear hb L0;go_wp2_with fail;refine(px _ _ _ _).mono ?_;rintro e x4 ⟨rfl,hx4⟩;have HL:=ae (wV x);rw[←hx4]at HL;have HX4:Hid (ah w.heap.size w x4):=by show ah _ _ _;rw[hx4];exact HBX.out.alloc HBX.out.size _
  clear hx4;go_wp2_with fail;go_ret;exact⟨_,_,_,rfl,HL.out,HX4.out⟩
theorem DE (g:Geo) (hi:g.In) (w:ak):az aj 114 #[al g.v] w fun e w'=>∃Bs a b,e=ar (.func (.func 260) #[] #[ao (some ⟨Bs,0,none⟩)])/\LaidR w' Bs g.wcs a b/\ah w.heap.size w w':=by
 obtain⟨W,hW⟩:=w9nm (w.alloc (ap g.v 23));have r:aB W w.heap.size 23 g.cs:=by rw[←hW];exact aB.new w _ _
 have HB:Hid (ah w.heap.size w W):=by show ah _ _ _;rw[←hW];exact aR w _
 obtain⟨B,hB⟩:=w9nm w.heap.size;rw[hB]at r;have L0:=cF r;have HR:=ae r;have HG:=ae (mz g hi W);clear r hi;by_cases hg:g.good
 ·have e:g.wcs= [g.b,g.a]:=if_pos hg;rw[decide_eq_true hg]at HG;rw[e];obtain⟨bb,hbb⟩:=w9nm g.b;obtain⟨aa,haa⟩:=w9nm g.a;rw[hbb,haa];have HBB:=ae hbb;have HAA:=ae haa;clear e hg hbb haa;go_enter func114,ntmps114;go_wp2_with fail;refine HG.out.mono ?_;rintro e x2 ⟨rfl,hb⟩;have HX2:=w9bt HB hb;have C0:x2.cell? ⟨B,0,none⟩=some (ab af bb):=by rw[←HBB.out];exact(HR.out.below hb).cell 0 _ rfl
  have C3:x2.cell? ⟨B,3,none⟩=some (ab af aa):=by rw[←HAA.out];exact(HR.out.below hb).cell 3 _ rfl
  clear hb L0;have HL:=ae (wU x2 [bb,aa]);have HBL:=ae (DD bb aa x2);obtain⟨x3,hx3⟩:=w9nm (x2.alloc (ap [ab af bb,ab af aa].toArray 3));have HX3:Hid (ah w.heap.size w x3):=by show ah _ _ _;rw[←hx3];exact HX2.out.alloc HX2.out.size _
  obtain⟨N,hN⟩:=w9nm x2.heap.size;have HL:Hid (LaidR (x3.alloc (ap #[ag (some ⟨N,0,none⟩) 2 2] 41)) x3.heap.size [bb,aa] (some ⟨N,0,none⟩) N):=by show LaidR _ _ _ _ _;rw[←hN,←hx3];exact HL.out
  rw[hx3,hN]at HBL;clear hx3 hN;go_wp2_with (first | ((with_reducible refine gG ?_);refine dq _ _ _ rfl rfl [(0,ab af bb),(1,ab af aa)] _ rfl HBL.out ?_));refine(px _ _ _ _).mono ?_;rintro e x4 ⟨rfl,hx4⟩;rw[←hx4]at HL;have HX4:Hid (ah w.heap.size w x4):=by show ah _ _ _;rw[hx4];exact HX3.out.alloc HX3.out.size _
  clear hx4;go_wp2_with fail;go_ret;exact⟨_,_,_,rfl,HL.out,HX4.out⟩
 ·have e:g.wcs= []:=if_neg hg;rw[decide_eq_false hg]at HG;rw[e];clear e hg;go_enter func114,ntmps114;go_wp2_with fail;refine HG.out.mono ?_;rintro e x ⟨rfl,hb⟩;have HBX:=w9bt HB hb;clear hb L0;go_wp2_with fail;refine(px _ _ _ _).mono ?_;rintro e x4 ⟨rfl,hx4⟩;have HL:=ae (wV x);rw[←hx4]at HL;have HX4:Hid (ah w.heap.size w x4):=by show ah _ _ _;rw[hx4];exact HBX.out.alloc HBX.out.size _
  clear hx4;go_wp2_with fail;go_ret;exact⟨_,_,_,rfl,HL.out,HX4.out⟩
end
end
section
attribute [-simp] isAgg284 zeroValue284
attribute [-go_sem] aE aL
attribute [local go_sem] wR wS
theorem DG (f c:Int) (w:ak):(Instr.field 284 (al #[ab af f,ab af c]) 0).run aj w=.ok (ab af f) w:=by kernel_rfl
attribute [local go_sem] DG
theorem Geo.fcs_ring (g:Geo):j6 g.fcs 1=g.oR:=by
 unfold Geo.fcs Geo.oR;by_cases hg:g.good
 ·rw[if_pos hg,if_pos hg];simp[j6,dM]
 ·rw[if_neg hg,if_neg hg];rfl
theorem Geo.fcs_home (g:Geo):j6 g.fcs 2=g.oH:=by
 unfold Geo.fcs Geo.oH;by_cases hg:g.good
 ·rw[if_pos hg,if_pos hg];simp[j6,dM]
 ·rw[if_neg hg,if_neg hg];rfl
theorem Geo.fcs_all (g:Geo):dM g.fcs g.fcs.length=g.oF:=by
 unfold Geo.fcs Geo.oF;by_cases hg:g.good
 ·rw[if_pos hg,if_pos hg];simp[dM];omega
 ·rw[if_neg hg,if_neg hg];rfl
theorem Geo.wcs_all (g:Geo):dM g.wcs g.wcs.length=g.oW:=by
 unfold Geo.wcs Geo.oW;by_cases hg:g.good
 ·rw[if_pos hg,if_pos hg];simp[dM]
 ·rw[if_neg hg,if_neg hg];rfl
section
theorem py (g:Geo) (hi:g.In) (w:ak):az aj 130 #[al g.v] w fun e w'=>e=ar (ab af g.oR)/\ah w.heap.size w w':=by
 obtain⟨W,hW⟩:=w9nm (w.alloc (ap g.v 23));have r:aB W w.heap.size 23 g.cs:=by rw[←hW];exact aB.new w _ _
 have HB:Hid (ah w.heap.size w W):=by show ah _ _ _;rw[←hW];exact aR w _
 obtain⟨B,hB⟩:=w9nm w.heap.size;rw[hB]at r;have HSZ:=ae hB;have L0:=cF r;have HP:=ae (sG g hi W);have HO:=ae g.fcs_ok;have HV:=ae (g.fcs_ring);clear r hi;go_enter func130,ntmps130;go_wp2_with fail;refine HP.out.mono ?_;rintro e x ⟨Bs,a,b,rfl,hL,hb⟩;have HBX:=w9bt HB hb;have HL:=ae hL;clear hb hL L0;go_wp2_with fail;refine(wO _ HO.out _ _ 1 _ _ HL.out).mono ?_;rintro e y ⟨rfl,hb⟩;have HBY:=w9bt HBX hb;clear hb;go_wp2_with fail;go_ret;rw[HV.out];first | exact⟨rfl,HBY.out⟩ | exact⟨rfl,by rw[←hB];exact HBY.out⟩
theorem wW (g:Geo) (hi:g.In) (w:ak):az aj 212 #[al g.v] w fun e w'=>e=ar (ab af g.oH)/\ah w.heap.size w w':=by
 obtain⟨W,hW⟩:=w9nm (w.alloc (ap g.v 23));have r:aB W w.heap.size 23 g.cs:=by rw[←hW];exact aB.new w _ _
 have HB:Hid (ah w.heap.size w W):=by show ah _ _ _;rw[←hW];exact aR w _
 obtain⟨B,hB⟩:=w9nm w.heap.size;rw[hB]at r;have HSZ:=ae hB;have L0:=cF r;have HP:=ae (sG g hi W);have HO:=ae g.fcs_ok;have HV:=ae (g.fcs_home);clear r hi;go_enter func212,ntmps212;go_wp2_with fail;refine HP.out.mono ?_;rintro e x ⟨Bs,a,b,rfl,hL,hb⟩;have HBX:=w9bt HB hb;have HL:=ae hL;clear hb hL L0;go_wp2_with fail;refine(wO _ HO.out _ _ 2 _ _ HL.out).mono ?_;rintro e y ⟨rfl,hb⟩;have HBY:=w9bt HBX hb;clear hb;go_wp2_with fail;go_ret;rw[HV.out];first | exact⟨rfl,HBY.out⟩ | exact⟨rfl,by rw[←hB];exact HBY.out⟩
theorem wX (g:Geo) (hi:g.In) (w:ak):az aj 40 #[al g.v] w fun e w'=>e=ar (ab af g.oF)/\ah w.heap.size w w':=by
 obtain⟨W,hW⟩:=w9nm (w.alloc (ap g.v 23));have r:aB W w.heap.size 23 g.cs:=by rw[←hW];exact aB.new w _ _
 have HB:Hid (ah w.heap.size w W):=by show ah _ _ _;rw[←hW];exact aR w _
 obtain⟨B,hB⟩:=w9nm w.heap.size;rw[hB]at r;have HSZ:=ae hB;have L0:=cF r;have HP:=ae (sG g hi W);have HO:=ae g.fcs_ok;have HV:=ae (g.fcs_all);clear r hi;go_enter func40,ntmps40;go_wp2_with fail;refine HP.out.mono ?_;rintro e x ⟨Bs,a,b,rfl,hL,hb⟩;have HBX:=w9bt HB hb;have HL:=ae hL;clear hb hL L0;go_wp2_with fail;refine(wQ _ HO.out _ _ _ _ HL.out).mono ?_;rintro e y ⟨rfl,hb⟩;have HBY:=w9bt HBX hb;clear hb;go_wp2_with fail;go_ret;rw[HV.out];first | exact⟨rfl,HBY.out⟩ | exact⟨rfl,by rw[←hB];exact HBY.out⟩
theorem DH (g:Geo) (hi:g.In) (w:ak):az aj 41 #[al g.v] w fun e w'=>e=ar (ab af g.oW)/\ah w.heap.size w w':=by
 obtain⟨W,hW⟩:=w9nm (w.alloc (ap g.v 23));have r:aB W w.heap.size 23 g.cs:=by rw[←hW];exact aB.new w _ _
 have HB:Hid (ah w.heap.size w W):=by show ah _ _ _;rw[←hW];exact aR w _
 obtain⟨B,hB⟩:=w9nm w.heap.size;rw[hB]at r;have HSZ:=ae hB;have L0:=cF r;have HP:=ae (DE g hi W);have HO:=ae g.wcs_ok;have HV:=ae (g.wcs_all);clear r hi;go_enter func41,ntmps41;go_wp2_with fail;refine HP.out.mono ?_;rintro e x ⟨Bs,a,b,rfl,hL,hb⟩;have HBX:=w9bt HB hb;have HL:=ae hL;clear hb hL L0;go_wp2_with fail;refine(wQ _ HO.out _ _ _ _ HL.out).mono ?_;rintro e y ⟨rfl,hb⟩;have HBY:=w9bt HBX hb;clear hb;go_wp2_with fail;go_ret;rw[HV.out];first | exact⟨rfl,HBY.out⟩ | exact⟨rfl,by rw[←hB];exact HBY.out⟩
end
end
section
theorem DI (w:ak):(cY 23 #[]).run aj w=.ok (al (Geo.mk 0 0 0 0 0).v) w:=by kernel_rfl
theorem Geo.least {g:Geo} (h:g.good):9<=g.oF:=by
 have hN:=Geo.nats h;have:=hN.f;have:=hN.c1;have:=hN.p1;have:=hN.s1;omega
theorem DJ (a b c d e f h j:Int) (w:ak):(Instr.field 29 (al (db a b c d e f h j).toArray) 0).run aj w=.ok (ab af a) w:=by kernel_rfl
def jI (B:Nat) (W:ak):Type:={x:ak // x.heap[B]? =W.heap[B]?}
instance (B:Nat) (W:ak):Nonempty (jI B W):=⟨⟨W,rfl⟩⟩
theorem jI.row {B:Nat} {W:ak} {t:aV} {C:List am} (z:jI B W) (h:aB W B t C):aB z.1 B t C:=z.2.trans h
def mD (B Z:Nat) (W:ak):Type:={x:ak // x.heap[B]? =W.heap[B]? /\x.heap[Z]? =W.heap[Z]?}
instance (B Z:Nat) (W:ak):Nonempty (mD B Z W):=⟨⟨W,rfl,rfl⟩⟩
end
section
theorem RS.wrs_snoc:∀(l:List (Nat×List am)) (S:RS) (i:Nat) (b:List am),(S.wrs l).2=true->(S.wrs (l++ [(i,b)])).1=(S.wrs l).1.write 0 (i:Int) b
 | [],S,i,b,_=>by
  show(S.wrs [(i,b)]).1=S.write 0 (i:Int) b;unfold RS.wrs;split<;>rfl
 | (j,c)::l,S,i,b,h=>by
  unfold RS.wrs at h;show(S.wrs ((j,c)::(l++ [(i,b)]))).1=_;unfold RS.wrs;split at h
  ·rename_i h0;rw[if_pos h0,if_pos h0];exact RS.wrs_snoc l _ i b h
  ·simp at h
theorem RS.Up.wrs_done:∀(l:List (Nat×List am)) {S:RS},S.Up->S.done<=(S.wrs l).1.done/\(S.wrs l).1.done<=S.done+l.length
 | [],S,_=>⟨fP _,by show S.done<=S.done+((0:Nat):Int);omega⟩
 | (i,b)::l,S,hu=>by
  have h1:=(hu.write 0 (i:Int) b);have h2:=RS.Up.wrs_done l h1.1;unfold RS.wrs;simp only[cK];split
  ·rcases h1.2 with⟨_,e⟩ | ⟨_,e⟩<;>rw[e]at h2<;>constructor<;>omega
  ·rcases h1.2 with⟨_,e⟩ | ⟨_,e⟩<;>simp only[e]<;>constructor<;>omega
theorem RS.wrs_few {l:List (Nat×List am)} {S:RS} {m:Nat} (h:S.Few m) (hm:m<=254) (hin:∀x ∈ l,x.1<S.n0) (hnd:(l.map (·.1)).Nodup):(S.wrs l).1.Few (m+1):=by
 obtain⟨hs,k,hk,hD,_⟩:=S.wrs_spec l hin;refine⟨fun i hi=> ?_,fun i hi=> ?_⟩
 ·rw[hs.n0]at hi;rw[hD];have h0:=h.1 i hi;by_cases hmem:i ∈(l.take k).map (·.1)
  ·obtain⟨⟨j,b⟩,hx,e⟩:=dc.1 hmem;subst e;rw[rj (l.take k) S.D0 (List.Nodup.sublist (List.Sublist.map _ (List.take_sublist k l)) hnd) hx];show((S.D0 j).add b).vs.length<=_;rw[uR _ _ (by have:(S.D0 j).vs.length<=m:=h0;omega)];have:(S.D0 j).vs.length<=m:=h0;omega
  ·rw[oC _ _ hmem];omega
 ·rw[hs.n1]at hi;rw[hs.D1];exact Nat.le_succ_of_le (h.2 i hi)
def RS.appTo (S:RS) (F C A:Nat) (seq:Int) (t:List Img) (k:Nat):RS:=
 if k<=t.length then(S.wrs ((bQ F C A seq t).take k)).1 else(((S.wrs ((bQ F C A seq t).take t.length)).1.flush 0).wrs ((bQ F C A seq t).drop t.length)).1
structure RS.Way (S0:RS) (m:Nat) (S:RS):Prop where
 up:S.Up
 n0:S.n0=S0.n0
 d0:S0.done<=S.done
 d1:S.done<=S0.done+400
 few:S.Few m
section
variable {S:RS} {F C A:Nat} {seq:Int} {t:List Img} {m:Nat}
theorem pz (hF:F+C<=S.n0) (h0:0<C):∀x ∈ bQ F C A seq t,x.1<S.n0:=by
 intro x hx;obtain⟨k,hk⟩:=List.mem_iff_getElem?.1 hx;have hlt:k< (bu seq t).length:=by
  rcases Nat.lt_or_ge k (bu seq t).length with h | h
  ·exact h
  ·rw[iB (by rw[lA,←gY seq t];exact h)]at hk;simp at hk
 rw[lB (bJ hlt)]at hk;cases hk;show F+(A+k)%C<S.n0;have:=fO (A+k) h0;omega
theorem RS.appTo_way (hu:S.Up) (hF:F+C<=S.n0) (hC:C<=256) (ht:t.length+1<=C) (hf:S.Few m) (hm:m<=250) (k:Nat):RS.Way S (m+2) (S.appTo F C A seq t k):=by
 have hin:=pz (seq:=seq) (t:=t) (A:=A) hF (by omega);have hnd:=vf (frm:=F) (at0:=A) (seq:=seq) ht;have hl:=lA F C A seq t;have hw:∀j,RS.Way S (m+1) (S.wrs ((bQ F C A seq t).take j)).1/\(S.wrs ((bQ F C A seq t).take j)).1.done<=S.done+j:=fun j=>by
  have h1:∀x ∈(bQ F C A seq t).take j,x.1<S.n0:=fun x hx=>hin x (gX hx);have hd:=RS.Up.wrs_done ((bQ F C A seq t).take j) hu;have hll:((bQ F C A seq t).take j).length<=256:=by rw[fd,hl];omega
  have hlj:((bQ F C A seq t).take j).length<=j:=by rw[fd];omega
  exact⟨⟨(RS.Up.wrs _ hu h1).2,(S.wrs_spec _ h1).1.n0,hd.1,by omega,RS.wrs_few hf (by omega) h1 (List.Nodup.sublist (List.Sublist.map _ (List.take_sublist j _)) hnd)⟩,by omega⟩
 unfold RS.appTo;by_cases hk:k<=t.length
 ·rw[if_pos hk];obtain⟨w,_⟩:=hw k;exact⟨w.up,w.n0,w.d0,w.d1,w.few.mono (by omega)⟩
 ·rw[if_neg hk];obtain⟨w,wd⟩:=hw t.length;generalize hT:(S.wrs ((bQ F C A seq t).take t.length)).1=T at *;have hn:(T.flush 0).n0=S.n0:=(T.flush0).1.n0.trans w.n0;have h1:∀x ∈(bQ F C A seq t).drop t.length,x.1< (T.flush 0).n0:=fun x hx=>by rw[hn];exact hin x (List.mem_of_mem_drop hx)
  have hd:=RS.Up.wrs_done ((bQ F C A seq t).drop t.length) (w.up.flush 0).1;have hll:((bQ F C A seq t).drop t.length).length<=1:=by rw[dx,hl];omega
  have hfl:T.done<=(T.flush 0).done/\(T.flush 0).done<=T.done+1:=by
   rcases(w.up.flush 0).2 with⟨_,e⟩ | ⟨_,e⟩<;>rw[e]<;>constructor<;>omega
  have h2:=w.d0;have h3:(t.length:Int)<=256:=by omega
  exact⟨(RS.Up.wrs _ (w.up.flush 0).1 h1).2,((RS.wrs_spec _ (T.flush 0) h1).1.n0).trans hn,by omega,by omega,RS.wrs_few (RS.few_flush w.few 0) (by omega) h1 (List.Nodup.sublist (List.Sublist.map _ (List.drop_sublist _ _)) hnd)⟩
theorem RS.appTo_zero:S.appTo F C A seq t 0=S:=by
 unfold RS.appTo;rw[if_pos (bq _)]
 rfl
theorem RS.appTo_img (hu:S.Up) (hF:F+C<=S.n0) (h0:0<C) {k:Nat} {x:Img} (hx:t[k]? =some x):S.appTo F C A seq t (k+1)=(S.appTo F C A seq t k).write 0 ((F+(A+k)%C:Nat):Int) (an (df seq x).bytes):=by
 have hk:k<t.length:=(dp.1 hx).1;unfold RS.appTo;rw[if_pos (by omega),if_pos (by omega)];have hb:(bu seq t)[k]? =some (df seq x).bytes:=by
  unfold bu;rw[eU (by simpa using hk),du,hx]
  rfl
 have hg:=lB (frm:=F) (count:=C) (at0:=A) hb;rw[List.take_add_one,hg];exact RS.wrs_snoc _ S _ _ (RS.Up.wrs _ hu fun x hx=>pz hF h0 x (gX hx)).1
theorem RS.appTo_com:S.appTo F C A seq t (t.length+1)=((S.appTo F C A seq t t.length).flush 0).write 0 ((F+(A+t.length)%C:Nat):Int) (an (cz seq t.length).bytes):=by
 unfold RS.appTo;rw[if_neg (by omega),if_pos (aJ _)];have hb:(bu seq t)[t.length]? =some (cz seq t.length).bytes:=by
  unfold bu;rw[fF (by simp)];simp
 have hg:=lB (frm:=F) (count:=C) (at0:=A) hb;have hd:(bQ F C A seq t).drop t.length= [(F+(A+t.length)%C,an (cz seq t.length).bytes)]:=by
  obtain⟨h1,h2⟩:=dp.1 hg;rw[List.drop_eq_getElem_cons h1,h2,List.drop_eq_nil_of_le (by rw[lA];omega)]
 rw[hd];exact RS.wrs_snoc [] _ _ _ rfl
theorem RS.app_to (hu:S.Up) (hF:F+C<=S.n0) (hC:C<=256) (ht:t.length+1<=C) (hf:S.Few m) (hm:m<=250):S.app F C A seq t=((S.appTo F C A seq t (t.length+1)).flush 0,0):=by
 have hin:=pz (seq:=seq) (t:=t) (A:=A) hF (by omega);have w1:=RS.appTo_way (seq:=seq) (A:=A) hu hF hC ht hf hm t.length;have w2:=RS.appTo_way (seq:=seq) (A:=A) hu hF hC ht hf hm (t.length+1);unfold RS.appTo at w1 w2;rw[if_pos (aJ _)]at w1;rw[if_neg (by omega)]at w2;have f1:∀{T:RS},T.Up->T.flushE 0=0:=fun{T} h=>by
  unfold RS.flushE;rw[if_pos (aA rfl),if_pos h.ok]
 have a1:=(RS.Up.wrs ((bQ F C A seq t).take t.length) hu fun x hx=>hin x (gX hx)).1;have a2:=(RS.Up.wrs ((bQ F C A seq t).drop t.length) (w1.up.flush 0).1 fun x hx=>by
  rw[(RS.flush0 _).1.n0,w1.n0];exact hin x (List.mem_of_mem_drop hx)).1
 unfold RS.app RS.appTo;rw[if_neg (by rw[a1];simp),if_neg (by rw[f1 w1.up];simp),if_neg (by rw[a2];simp),if_neg (by rw[f1 w2.up];simp),if_neg (by omega)]
end
end
section
def eY (eS eI:aV) (x:ak) (N:Nat) (v:am) (ts:List (List Img)):Prop:=
 ∃vs:List am,vs.length=ts.length/\x.ownsRow N eS 1 v vs.length vs/\∀(i:Nat) (u:am) (t:List Img),vs[i]? =some u->ts[i]? =some t->x.ownsRow N eI 49 u t.length (bI t).flatten
theorem eY.nil (eS eI:aV) (x:ak) (N:Nat):eY eS eI x N (ag none 0 0) []:=⟨[],rfl,ft _ _ _ _,fun i u t h=>by simp at h⟩
theorem eY.below {eS eI:aV} {x y:ak} {N:Nat} {v:am} {ts:List (List Img)} (h:eY eS eI x N v ts) (hb:w9b x y):eY eS eI y N v ts:=by
 obtain⟨vs,h1,h2,h3⟩:=h;exact⟨vs,h1,eK h2 hb,fun i u t hu ht=>eK (h3 i u t hu ht) hb⟩
theorem eY.grownC {eS eI:aV} {x y:ak} {N B:Nat} {v:am} {ts:List (List Img)} {C:List am} {t:aV} (h:eY eS eI x N v ts) (hB:aB x B t C) (h1:eS≠t) (h2:eI≠t) (hg:x.grownBy y (some B)):eY eS eI y N v ts:=by
 obtain⟨vs,g1,g2,g3⟩:=h;exact⟨vs,g1,g2.kept hg (aC (dK g2 hB h1)),fun i w t hw ht=>(g3 i w t hw ht).kept hg (aC (dK (g3 i w t hw ht) hB h2))⟩
theorem DK:(aj.info? 231).map (fun i=>(i.zero,i.size,i.bytes))=some (some (ag none 0 0),1,24):=by kernel_rfl
theorem DL (w:ak) (a:Option aN) (n c:Nat):(cO 257 1 #[(0,ag a n c)]).run aj w=.ok (ag (some ⟨w.heap.size,0,none⟩) 1 1) (w.alloc (ap #[ag a n c] 231)):=by kernel_rfl
set_option maxRecDepth 100000 in
theorem DM (N:Nat) (w:ak) (v:am) (ts:List (List Img)) (t:List Img) (a:Option aN) (c:Nat) (B:Nat) (h:eY 231 232 w N v ts) (ht:w.ownsRow N 232 49 (ag a t.length c) t.length (bI t).flatten)
  (hB:aB w B 231 [ag a t.length c]) (hlen:ts.length<=1000000) (hN:N<=w.heap.size):
  ∃v' w',(Builtin.append_ #[257, 257] 257 #[v,ag (some ⟨B,0,none⟩) 1 1]).run aj w=.ok v' w'/\eY 231 232 w' N v' (ts++ [t])/\w.grownBy w' v.ownBlock:=by
 obtain⟨i0,hi,hz0,hz1,hz2⟩:=eJ DK;obtain⟨vs,g1,g2,g3⟩:=h;obtain⟨v',w',hr,h1,h2,_⟩:=run_append_own (P:=aj) w N 257 257 231 i0 (ag none 0 0) 1 24 Tryz.underlying257 hi hz0 hz1 hz2 rfl (by decide) v vs.length vs g2
  ⟨B,0,none⟩ 1 1 [ag a t.length c] rfl (fun j u hj=>by have:=hB.range j u hj;rwa [Addr.add_mid]) (fun u hu=>by simp at hu;rw[hu];rfl) (by unfold aS;omega) (by omega) hN
 have hk:∀{n:Nat} {u:am} {xs:List am},w.ownsRow N 232 49 u n xs->w'.ownsRow N 232 49 u n xs:=fun hu=>hu.kept h2 (qE hu g2 (by decide));refine⟨v',w',hr,⟨vs++ [ag a t.length c],by simp[g1],by simpa using h1,fun i u s hu hs=> ?_⟩,h2⟩;by_cases hi:i<vs.length
 ·rw[eU hi]at hu;rw[eU (by omega)]at hs;exact hk (g3 i u s hu hs)
 ·rw[fF (by omega)]at hu hs;rw[g1]at hu;cases hj:i - ts.length with
  | zero=>
   rw[hj]at hu hs;simp at hu hs;subst hu;subst hs;exact hk ht
  | succ j=>
   rw[hj]at hu;simp at hu
theorem DN:(aj.info? 223).map (fun i=>(i.zero,i.size,i.bytes))=some (some (ag none 0 0),1,24):=by kernel_rfl
theorem DO (w:ak) (a:Option aN) (n c:Nat):(cO 242 1 #[(0,ag a n c)]).run aj w=.ok (ag (some ⟨w.heap.size,0,none⟩) 1 1) (w.alloc (ap #[ag a n c] 223)):=by kernel_rfl
end
section
attribute [-simp] isAgg51 zeroValue51 isAgg205 zeroValue205 isAgg254 zeroValue254 isAgg232 zeroValue232
attribute [-go_sem] aE aL cZ
attribute [local go_sem] bC bD cV iR iQ kv rI rJ
theorem pA {w:ak} {g:Nat} {t:List Img} (hg:w.rangeAt g 0 (bI t).flatten) (hok:∀x ∈ t,x.Ok) {k:Nat} {x:Img} (hx:t[k]? =some x):w.rangeAt g (k*49) x.cells:=by
 rw[Nat.mul_comm];have hl:∀(t:List Img),(∀x ∈ t,x.Ok)->(bI t).flatten.length=49*t.length:=fun t=>by
  induction t with
  | nil=>intro _;rfl
  | cons y t ih=>
   intro h;show(y.cells++(bI t).flatten).length=_;rw[cX,ih (fun x hx=>h x (fG _ hx)),Img.cells_length (h y eV).len,cK];omega
 obtain⟨hk,e⟩:=dp.1 hx;have e1:t=t.take k++x::t.drop (k+1):=by
  rw[←e,←List.drop_eq_getElem_cons hk,ki]
 have e2:(bI t).flatten=(bI (t.take k)).flatten++(x.cells++(bI (t.drop (k+1))).flatten):=by
  conv=>lhs;rw[e1]
  unfold bI;rw[fp,kj]
  rfl
 have hl1:=hl (t.take k) (fun x hx=>hok x (gX hx));rw[fd,Nat.min_eq_left (iT hk)]at hl1;intro j u hj;have hj':j<x.cells.length:=(dp.1 hj).1;have:=hg (49*k+j) u (by
  rw[e2,fF (by omega),hl1,show 49*k+j - 49*k=j by omega,eU hj'];exact hj)
 rwa [dC]at this
theorem DP {x:ak} {B:Nat} {old:List am} {p:Sct} (h:aB x B 254 old) (ho:old.length=51) (hp:p.body.length=48):
  ∃y,(aL 254 ⟨B,0,none⟩ (al p.cells.toArray)).run aj x=.ok () y/\aB y B 254 p.cells/\x.grownBy y (some B):=by
 have hl:=Sct.cells_length hp;refine⟨_,run_storeVar_row x B _ _ old.toArray p.cells.toArray h (by simpa [hl]using oh) (by simp[hl,ho]) (gD (Sct.cells_one p)),setRow_heap x B _ _ _ _ h, ?_⟩;exact⟨rfl,rfl,rfl,by rw[setRow_size];exact aJ _,fun k _ hk=>setRow_other x B k _ (fun e=>hk (by rw[e]))⟩
theorem DQ {w:ak} {g:Nat} {t:List Img} (hg:w.rangeAt g 0 (bI t).flatten) (hok:∀x ∈ t,x.Ok) {k:Nat} {x:Img} (hx:t[k]? =some x):w.rangeAt g (k*49+1) (an x.body):=by
 intro j u hj;have:=pA hg hok hx (j+1) u hj
 rwa [show k*49+(j+1)=k*49+1+j by omega]at this
theorem DR {rq q0 q1:Nat} {S:RS} {w:ak} {f:Nat->Prop} (h:bG rq q0 q1 S w f) (hu:S.Up) {m:Nat} (hf:S.Few m) (hm:m<=250) (hd:0<=S.done/\S.done<=900000) {F C A:Nat} (hC2:2<=C) (hC:C<=256) (hF:F+C<=S.n0) (hA:A<C) (hn:S.n0<=4096) {seq:Int} (hs:cH seq)
  {t:List Img} (ht:TxnOk C t) {g c:Nat} (hg:w.rangeAt g 0 (bI t).flatten) (hgl:g<w.heap.size) (hgf:¬f g):
  az aj 147 #[ao (some ⟨rq,0,none⟩),ab af (F:Int),ab af (C:Int),ab af (A:Int),ab aD seq,ag (some ⟨g,0,none⟩) t.length c] w fun e w'=>
   e=ar (aQ #[ab af (((A+t.length+1)%C:Nat):Int),ab af 0])/\∃f',bG rq q0 q1 (S.app F C A seq t).1 w' f'/\Turn f f' w w':=by
 have HM:Hid (az aj 224 #[ao (some ⟨rq,0,none⟩),ab af (F:Int),ab af (C:Int),ab af (A:Int)] w fun e w'=>e=ar (.bool true)/\w'=w):=by
  have:=vS h F C A hn;rw[show iq S.n0 F C A=true by unfold iq;simp;omega]at this;exact this
 obtain⟨n,hnn⟩:=w9nm t.length;have n1:=ht.least;have n2:=ht.most;rw[hnn]at n1 n2;have HW:Hid (∀k,RS.Way S (m+2) (S.appTo F C A seq t k)):=fun k=>RS.appTo_way hu hF hC ht.most hf hm k;have HI:Hid (∀(k:Nat) (x:Img),t[k]? =some x->S.appTo F C A seq t (k+1)=(S.appTo F C A seq t k).write 0 ((F+(A+k)%C:Nat):Int) (an (df seq x).bytes)):=fun k x hx=>RS.appTo_img hu hF (by omega) hx;have HCM:Hid (S.appTo F C A seq t (n+1)=((S.appTo F C A seq t n).flush 0).write 0 ((F+(A+n)%C:Nat):Int) (an (cz seq n).bytes)):=by rw[←hnn];exact RS.appTo_com
 have HE:Hid (S.app F C A seq t=((S.appTo F C A seq t (n+1)).flush 0,0)):=by rw[←hnn];exact RS.app_to hu hF hC ht.most hf hm
 have HT:=ae ht;have HG:=ae hg;have HGF:=ae hgf;have H0:Hid (bG rq q0 q1 (S.appTo F C A seq t 0) w f):=by rw[RS.appTo_zero];exact h
 have HSQ:=ae hs;have HD:=ae hd;rw[hnn];have g1:decide ((n:Int)<1)=false:=by simp;omega
 have g2:decide ((C:Int) - 1< (n:Int))=false:=by simp;omega
 have g2':decide ((n:Int)>(C:Int) - 1)=false:=by simp;omega
 have HNN:=ae hnn;have HFN:=ae hF;clear h hu hf hd hF hs ht hg hgf hnn;go_enter func147,ntmps147;go_wp2_with fail;go_at_call 224;refine HM.out.mono ?_;rintro e y ⟨rfl,rfl⟩;go_wp2_with fail;go_loopw [14] (fun i wr=>∃k:Nat,k<=n/\i=ab af (k:Int)/\wr=y) (fun i _=>n - (aW i).toNat)
 case atStart=>exact⟨0,bq _,rfl,rfl⟩
 case round=>
  obtain⟨k,hk,rfl,hwr⟩:=hrel;have hwr:=hwr.symm;subst hwr;by_cases hlt:k<n
  ·have g3:decide ((k:Int)< (n:Int))=true:=by simpa using hlt
   obtain⟨x,hx⟩:∃x,t[k]? =some x:=⟨_,bJ (by rw[HNN.out];exact hlt)⟩;have hfx:=HT.out.fits x (dI hx);have c0:y.cell? ⟨g,k*49,none⟩=some (ab af x.index):=pA HG.out HT.out.ok hx 0 _ rfl;obtain⟨ix,hix⟩:=w9nm x.index;rw[hix]at c0;have g4:decide (ix<0)=false:=by have:=hfx.1;rw[hix]at this;simpa using this
   have g5:decide (65535<ix)=false:=by have:=hfx.2;rw[hix]at this;simpa using this
   have g6:decide (ix>65535)=false:=g5;clear hx hfx hix;go_wp2_with fail;go_roundw
   case rel=>exact⟨k+1,hlt,by go_num,trivial⟩
   case measure=>simp[aW];omega
  ·have g3:decide ((k:Int)< (n:Int))=false:=by simpa using hlt
   have g3':decide (k<n)=false:=by simpa using hlt
   go_wp2_with fail;go_loopw [15,17,19,20] (fun i _ _ _ wr'=>∃(k:Nat) (f':Nat->Prop),k<=n+1/\i=ab af (k:Int)/\Hid (bG rq q0 q1 (S.appTo F C A seq t k) wr' f')/\Hid (Turn f f' y wr')) (fun i _ _ _ _=>n+1 - (aW i).toNat)
   case atStart=>exact⟨0,f,bq _,rfl,H0,Turn.refl _ _⟩
   case round=>
    obtain⟨k,f1,hk1,rfl,HQ,HTU⟩:=hrel;have hmx:=w9x
    rcases Nat.lt_trichotomy k n with hlt1 | he | hgt
    ·have z1:decide ((k:Int)<=(n:Int))=true:=by simp;omega
     have z1':decide (k<=n)=true:=by simp;omega
     have z2:decide ((k:Int)< (n:Int))=true:=by simp;omega
     have z2':decide (k<n)=true:=by simp;omega
     obtain⟨x,hx⟩:∃x,t[k]? =some x:=⟨_,bJ (by rw[HNN.out];exact hlt1)⟩;have hxo:=HT.out.ok x (dI hx);have hxf:=HT.out.fits x (dI hx);have hg':=da HG.out (HTU.out.out g hgl HGF.out);have hgl':g<wr.heap.size:=aU hgl HTU.out.size;obtain⟨x1,ST1,hr1,hb1⟩:=nl wr (cz seq n) (by simp[cz]);have hg1:=eL hb1 hgl' hg';have hgl1:g<x1.heap.size:=aU hgl' hb1.size;have C0:∀z:aI x1,z.1.cell? ⟨g,k*49,none⟩=some (ab af x.index):=fun z=>pA (eL z.2 hgl1 hg1) HT.out.ok hx 0 _ rfl;have L0:∀z:aI x1,(aE 205 ⟨g,k*49+1,none⟩).run aj z.1=.ok (al (an x.body).toArray) z.1:=fun z=>iH (DQ (eL z.2 hgl1 hg1) HT.out.ok hx) (by rw[bi];exact hxo.len);have B0:∀z:aI x1,(cY 254 #[(0,ab aq 73),(1,ab aD seq),(2,ab af x.index),(3,al (an x.body).toArray)]).run aj z.1=.ok (al (df seq x).cells.toArray) z.1:=fun z=>vE 73 seq x.index (an x.body) (by rw[bi];exact hxo.len) z.1;obtain⟨X,hX⟩:=w9nm x1.drew;have hr2:aB X wr.heap.size 254 (cz seq n).cells:=by rw[←hX];exact hr1
     have hbX:ah x1.heap.size x1 X:=by rw[←hX];exact(aF _ x1).drew
     obtain⟨x2,ST2,hr3,hg2⟩:=DP (p:=df seq x) hr2 (Sct.cells_length (by simp[cz])) hxo.len;have LD2:=hr3.sec (p:=df seq x) hxo.len;have hb2:w9b wr x2:=(hb1.trans (hbX.mono hb1.size)).grown hg2 (hb1.trans (hbX.mono hb1.size)).size (fun j e=>by cases e;exact aJ _);have e1:(((cm.set 0 (ab aq 67)).set 1 (ab aD seq)).set 2 (ab af (n:Int)))=(cz seq n).cells:=rfl;rw[←e1]at ST1;clear e1;have BX:Hid ((cY 254 #[(0,ab aq 73),(1,ab aD seq),(2,ab af x.index),(3,al (an x.body).toArray)]).run aj X=.ok (al (df seq x).cells.toArray) X):=B0 ⟨X,hbX⟩;have HBX:=ae hbX;have HQ2:=ae (HQ.out.beside hb2);have HX:=ae hx;have HXO:=ae hxo;have HXF:=ae hxf;have HB2:=ae hb2;clear hx hxo hxf hg' hgl' hr1 hb1 hg1 hgl1 hr2 hbX hr3 hg2 hb2 B0;go_wp2_with fail;refine cM (fun x=>∃y:aI x1,x=y.1) 12 (.takes [0,1,2,3,4,5,6,7,8,9,10] (.one 11 .leaf)) hmx (by kernel_rfl) (by intro c x v a w h;cases x<;>exact h) ⟨⟨x1.drew,(aF _ x1).drew⟩,rfl⟩ ?_;repeat(rw[bj];simp only[au,ay];go_big_quiet_step (fail);refine aO ?_)
     rw[bo,aT];simp only[au,ay];rw[hX];refine fJ _ _ rfl rfl [(0,ab aq 73),(1,ab aD seq),(2,ab af x.index),(3,al (an x.body).toArray)] _ rfl BX.out ?_;refine wpList_nil ?_;refine aG ⟨⟨X,HBX.out⟩,rfl⟩ ?_;rw[cu];simp only[be,bf];clear C0 L0 BX;go_wp2_with fail;go_at_call 218;have hfit:(df seq x).fits=true:=lu HXF.out;have HEN:Hid (az aj 218 #[al (df seq x).cells.toArray] x2 fun e w'=>e=ar (aQ #[al (an (df seq x).bytes).toArray,ab af 0])/\ah x2.heap.size x2 w'):=by
      have:=lD (df seq x) (jz HSQ.out HXO.out) x2;unfold Sct.code Sct.codeE at this;rw[if_pos hfit,if_pos hfit]at this;exact this
     refine HEN.out.mono ?_;rintro e x3 ⟨rfl,hb3⟩;have hbl:bx (an (df seq x).bytes):=dr (Sct.bytes_length (jz HSQ.out HXO.out));obtain⟨x4,ST4,hr4,hb4⟩:=ib x3 hbl;have hb24:w9b x2 x4:=hb3.trans (hb4.mono hb3.size);have HQ4:=ae (HQ2.out.beside hb24);have HB4:=w9bt HB2 hb24;have LB:∀z:aI x4,(aE 51 ⟨x3.heap.size,0,none⟩).run aj z.1=.ok (al (an (df seq x).bytes).toArray) z.1:=fun z=>(hr4.below z.2).blk (by rw[bi];exact Sct.bytes_length (jz HSQ.out HXO.out));have HBL:=ae hbl;obtain⟨i,hi⟩:=w9nm (F+(A+k)%C);have hin:i<S.n0:=by have:=fO (A+k) (show 0<C by omega);have:=HFN.out;omega
     have hii:(F:Int)+((A:Int)+(k:Int))%(C:Int)=(i:Int):=by rw[←hi];simp
     have hi4:(i:Int)<4096:=by omega
     have hCz:¬((C:Int)=0):=by omega
     have hway:=HW.out k;have HWR:Hid (az aj 64 #[ao (some ⟨rq,0,none⟩),ab af 0,ab af (i:Int),al (an (df seq x).bytes).toArray] x4.drew fun e w'=>e=ar (ab af 0)/\∃f',bG rq q0 q1 (S.appTo F C A seq t (k+1)) w' f'/\Turn f1 f' x4.drew w'):=by
      have hfit:(S.appTo F C A seq t k).Fit:=RS.fit (by rw[hway.up.fuse];decide) (by have:=hway.d0;have:=HD.out;omega) (by have:=hway.d1;have:=HD.out;omega);have:=(HQ4.out.beside ((aF _ x4).drew)).write hfit (hway.few.mono (by omega)) 0 (i:Int) HBL.out;rw[show(S.appTo F C A seq t k).writeE 0 (i:Int)=0 by unfold RS.writeE;rw[if_pos (RS.has0 (by rw[hway.n0];exact hin)),if_pos hway.up.ok],←hi,←HI.out k x HX.out,hi]at this;exact this
     have HT4:Hid (Turn f f1 y x4.drew):=HTU.out.trans (Turn.of_below (HB4.out.trans (((aF _ x4).drew).mono HB4.out.size)));clear hb3 hr4 hb4 hb24 hbl hfit HEN hway hi hin;go_wp2_with fail;refine cM (fun x=>∃y:aI x4,x=y.1) 9 (.takes [0,1,2,3,4,5,6,7,8] .leaf) hmx (by kernel_rfl) (by intro c x v a w h;cases x<;>exact h) ⟨⟨x4.drew,(aF _ x4).drew⟩,rfl⟩ ?_;repeat(rw[bj];simp only[au,ay];go_big_quiet_step (fail);refine aO ?_)
     rw[bo,cu];simp only[be,bf];clear LB;go_wp2_with fail;go_at_call 64;refine HWR.out.mono ?_;rintro e x5 ⟨rfl,f5,g1,g2⟩;have Q5:=ae g1;have T5:=ae (HT4.out.trans g2);clear g1 g2;have HLT:=ae hlt1;go_wp2_with fail;go_roundw
     case rel=>exact⟨k+1,f5,by have:=HLT.out;omega,by go_num,Q5,T5⟩
     case measure=>have:=HLT.out;simp[aW];omega
    ·subst he;have z1:decide ((k:Int)<=(k:Int))=true:=by simp
     have z2:decide ((k:Int)< (k:Int))=false:=by simp
     have hgl':g<wr.heap.size:=aU hgl HTU.out.size;obtain⟨x2,ST2,hr3,hb2⟩:=nl wr (cz seq k) (by simp[cz]);have LD2:=hr3.sec (p:=cz seq k) (by simp[cz]);have e1:(((cm.set 0 (ab aq 67)).set 1 (ab aD seq)).set 2 (ab af (k:Int)))=(cz seq k).cells:=rfl;rw[←e1]at ST2;have hway:=HW.out k;have HQ2:=ae (HQ.out.beside hb2);have HFL:Hid (az aj 217 #[ao (some ⟨rq,0,none⟩),ab af 0] x2 fun e w'=>e=ar (ab af 0)/\∃f',bG rq q0 q1 ((S.appTo F C A seq t k).flush 0) w' f'/\Turn f1 f' x2 w'):=by
      have hfit:(S.appTo F C A seq t k).Fit:=RS.fit (by rw[hway.up.fuse];decide) (by have:=hway.d0;have:=HD.out;omega) (by have:=hway.d1;have:=HD.out;omega);have:=HQ2.out.flush hfit 0;rw[show(S.appTo F C A seq t k).flushE 0=0 by unfold RS.flushE;rw[if_pos (aA rfl),if_pos hway.up.ok]]at this;exact this
     have HT2:Hid (Turn f f1 y x2):=HTU.out.trans (Turn.of_below hb2);have HR2:=ae hr3;have HLF:Hid (∀j,f1 j->j<wr.heap.size):=(bG.isRes rq q0 q1 _).lt HQ.out;have HBZ:=ae hb2;clear hgl' hr3 hb2 e1 hway HQ2;go_wp2_with fail;go_at_call 217;refine HFL.out.mono ?_;rintro e x3 ⟨rfl,f3,g1,g2⟩;have HQ3:=ae g1;have HT3:=ae (HT2.out.trans g2);have hr3:aB x3 wr.heap.size 254 (cz seq k).cells:=(g2.out _ HR2.out.lt (fun hh=>gQ _ (HLF.out _ hh))).trans HR2.out;have LD3:=hr3.sec (p:=cz seq k) (by simp[cz]);clear g1 g2 hr3 LD2 HFL;go_wp2_with fail;go_at_call 218;have hfit:(cz seq k).fits=true:=mR (by omega);have HEN:Hid (az aj 218 #[al (cz seq k).cells.toArray] x3 fun e w'=>e=ar (aQ #[al (an (cz seq k).bytes).toArray,ab af 0])/\ah x3.heap.size x3 w'):=by
      have:=lD (cz seq k) (jQ HSQ.out) x3;unfold Sct.code Sct.codeE at this;rw[if_pos hfit,if_pos hfit]at this;exact this
     refine HEN.out.mono ?_;rintro e x5 ⟨rfl,hb3⟩;have hbl:bx (an (cz seq k).bytes):=dr (Sct.bytes_length (jQ HSQ.out));obtain⟨x4,ST4,hr4,hb4⟩:=ib x5 hbl;have hb24:w9b x3 x4:=hb3.trans (hb4.mono hb3.size);have HQ4:=ae (HQ3.out.beside hb24);have LB:∀z:aI x4,(aE 51 ⟨x5.heap.size,0,none⟩).run aj z.1=.ok (al (an (cz seq k).bytes).toArray) z.1:=fun z=>(hr4.below z.2).blk (by rw[bi];exact Sct.bytes_length (jQ HSQ.out));have HBL:=ae hbl;obtain⟨i,hi⟩:=w9nm (F+(A+k)%C);have hin:i<S.n0:=by have:=fO (A+k) (show 0<C by omega);have:=HFN.out;omega
     have hii:(F:Int)+((A:Int)+(k:Int))%(C:Int)=(i:Int):=by rw[←hi];simp
     have hi4:(i:Int)<4096:=by omega
     have hCz:¬((C:Int)=0):=by omega
     have hway:=HW.out k;have HWR:Hid (az aj 64 #[ao (some ⟨rq,0,none⟩),ab af 0,ab af (i:Int),al (an (cz seq k).bytes).toArray] x4.drew fun e w'=>e=ar (ab af 0)/\∃f',bG rq q0 q1 (S.appTo F C A seq t (k+1)) w' f'/\Turn f3 f' x4.drew w'):=by
      have hu2:=(hway.up.flush 0).1;have hdn:(S.appTo F C A seq t k).done<=((S.appTo F C A seq t k).flush 0).done/\((S.appTo F C A seq t k).flush 0).done<=(S.appTo F C A seq t k).done+1:=by
       rcases(hway.up.flush 0).2 with⟨_,e⟩ | ⟨_,e⟩<;>rw[e]<;>constructor<;>omega
      have hfit2:((S.appTo F C A seq t k).flush 0).Fit:=RS.fit (by rw[hu2.fuse];decide) (by have:=hway.d0;have:=HD.out;omega) (by have:=hway.d1;have:=HD.out;omega);have:=(HQ4.out.beside ((aF _ x4).drew)).write hfit2 ((RS.few_flush hway.few 0).mono (by omega)) 0 (i:Int) HBL.out;rw[show((S.appTo F C A seq t k).flush 0).writeE 0 (i:Int)=0 by unfold RS.writeE;rw[if_pos (RS.has0 (by rw[(RS.flush0 _).1.n0,hway.n0];exact hin)),if_pos hu2.ok],←hi,←HCM.out,hi]at this;exact this
     have HT4:Hid (Turn f f3 y x4.drew):=HT3.out.trans (Turn.of_below (hb24.trans (((aF _ x4).drew).mono hb24.size)));clear hb3 hr4 hb4 hb24 hbl hfit HEN hway hi hin;go_wp2_with fail;refine cM (fun x=>∃y:aI x4,x=y.1) 9 (.takes [0,1,2,3,4,5,6,7,8] .leaf) hmx (by kernel_rfl) (by intro c x v a w h;cases x<;>exact h) ⟨⟨x4.drew,(aF _ x4).drew⟩,rfl⟩ ?_;repeat(rw[bj];simp only[au,ay];go_big_quiet_step (fail);refine aO ?_)
     rw[bo,cu];simp only[be,bf];clear LB;go_wp2_with fail;go_at_call 64;refine HWR.out.mono ?_;rintro e x6 ⟨rfl,f6,g1,g2⟩;have Q5:=ae g1;have T5:=ae (HT4.out.trans g2);clear g1 g2;go_wp2_with fail;go_roundw
     case rel=>exact⟨k+1,f6,by omega,by go_num,Q5,T5⟩
     case measure=>simp[aW]
    ·have z1:decide ((k:Int)<=(n:Int))=false:=by simp;omega
     have z1':decide (k<=n)=false:=by simp;omega
     obtain rfl:k=n+1:=by omega
     have hway:=HW.out (n+1);have HFL:Hid (az aj 217 #[ao (some ⟨rq,0,none⟩),ab af 0] wr fun e w'=>e=ar (ab af 0)/\∃f',bG rq q0 q1 ((S.appTo F C A seq t (n+1)).flush 0) w' f'/\Turn f1 f' wr w'):=by
      have hfit:(S.appTo F C A seq t (n+1)).Fit:=RS.fit (by rw[hway.up.fuse];decide) (by have:=hway.d0;have:=HD.out;omega) (by have:=hway.d1;have:=HD.out;omega);have:=HQ.out.flush hfit 0;rw[show(S.appTo F C A seq t (n+1)).flushE 0=0 by unfold RS.flushE;rw[if_pos (aA rfl),if_pos hway.up.ok]]at this;exact this
     have hA2:((A:Int)+(n:Int)+1)%(C:Int)=(((A+n+1)%C:Nat):Int):=by rw[Int.natCast_emod];norm_cast
     have hCz:¬((C:Int)=0):=by omega
     clear hway;go_wp2_with fail;go_at_call 217;refine HFL.out.mono ?_;rintro e x3 ⟨rfl,f3,g1,g2⟩;have HQ3:=ae g1;have HT3:=ae (HTU.out.trans g2);clear g1 g2 HFL;go_wp2_with fail;go_ret2;rw[HE.out];exact⟨rfl,f3,HQ3.out,HT3.out⟩
end
end Go.Proofs.YtbeeenembgplmaaGreat
