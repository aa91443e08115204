/- Made shorter by a tool: what the statements rest on. -/
import Derived.Test.YtbeeenembgplmaaGreatCU2
import Derived.Lib.JoinLaws
import Derived.Maps.AppendAt
import Derived.RangeFuncCalls
import Derived.RangeFuncWrites
import Derived.Deep.Upon
import Derived.RangeFuncBox
import Derived.RangeFuncNested
import Derived.RangeFuncBound
import Derived.RangeFuncLeaves
import Derived.Shelf.Abstract
import Derived.Shelf.RegionOpen
import Derived.OwnWalkIn
import Derived.TacticsInMore
import Derived.LoopNIn
import Derived.LoopIn
set_option maxRecDepth 100000
set_option maxHeartbeats 20000000
set_option linter.unusedVariables false
set_option linter.unusedSimpArgs false
open List renaming getElem?_eq_getElem -> aZ, replicate -> bg, length_cons -> bz, drop_zero -> bQ, drop_succ_cons -> bR, getElem?_eq_some_iff -> bZ, length_nil -> cx, nil_append -> cy, cons_append -> cC, length_append -> cE, range -> cI, size_toArray -> cJ, mem_map -> cM, push_toArray -> cQ, append_toArray -> cR, take_of_length_le -> de, length_take -> dj, mem_of_getElem? -> dp, mem_cons -> dy, mem_cons_self -> dC, length_map -> dV, getElem?_map -> dY, mem_cons_of_mem -> ea, map_append -> ec, getElem?_eq_none -> ej, mem_singleton -> eF, getElem?_append_right -> fv, getElem?_append_left -> fS, mem_append -> gc, length_replicate -> iq, all_eq_true -> iZ, ext_getElem? -> jD, mem_of_mem_take -> jE, getElem?_of_mem -> jY, eq_nil_of_length_eq_zero -> ka, append_assoc -> kb, getElem?_take -> kx, getElem?_replicate -> kO, filter_append -> lG, mem_filter -> lH, getElem?_range -> mj
open Nat renaming le_refl -> aG, zero_le -> bc, le_trans -> bm, lt_of_lt_of_le -> bq, zero_add -> dP, mod_lt -> iI, le_of_lt -> jt, mul_le_mul -> kP
open Int renaming le_refl -> fT, toNat_natCast -> iG, eq_ofNat_of_zero_le -> mO
open Array renaming getElem?_eq_some_iff -> bL, replicate_succ -> cO, replicate_zero -> cP
open Bool renaming and_eq_true -> cm, eq_iff_iff -> iY
open Go.Lib renaming hid -> ae
open Go renaming World -> ah, Value -> ak, Calls -> ap, undef -> az, loadVar -> aE, Addr -> aF, storeVar -> aL, TypeId -> aR, wpQuiet_nil -> aV, maxLen -> aY, bodyPost_ret -> bo, heap_alloc_new -> cD, cell_of_row -> dq, run_takeDeferred -> eU, info_parts -> fy, callsIn_of_wp_marks -> gA
open Go.Boxed renaming new -> dD
open Go.Instr renaming build -> df, buildSlice -> dh, fill -> ir
open Go.IntWalk renaming wrap64_in -> kR
open Go.KeepsOthers renaming setCell -> iK
open Go.RowKit renaming Below -> ag, intOf -> aS
open Go.RowKit.Below renaming refl -> aI, heap_setCell -> eG
open Go.Value renaming ownBlock -> jb
open Go.World renaming size_alloc -> bO, cell?_of_block -> gj, ownsRow_nil -> jc, rangeAt_setCells_same -> kz, rangeAt_setCells_apart -> ml, heap_setCells_other -> rk
open Go.Ending renaming returned -> ao
open Go.IntKind renaming i64 -> ac, u8 -> ay
open Go.Obj renaming cells -> an
open Go.Value renaming int -> ab, slice -> af, agg -> al, pointer -> am, tuple -> aQ
open Or renaming inl -> aA, inr -> aD
open Go.Proofs.Tryz
open Go.Proofs.Tryz renaming prog -> aj
namespace Go.Proofs.YtbeeenembgplmaaGreat
open Go.RowKit Go.Shelf Go.Lib
section
def iS (ps:List (Int×Int)) (k:Nat):Int:=match ps.find? (fun p=>p.1==(k:Int))with
 | some p=>p.2
 | none=> -1
def po (ps:List (Int×Int)) (k j:Nat):Prop:=j<=ps.length/\(∀i p,i<j->ps[i]? =some p->p.1< (k:Int))/\(∀i p,j<=i->ps[i]? =some p->(k:Int)<=p.1)
theorem Kj {ps:List (Int×Int)} (h:∀p ∈ ps,0<=p.1):po ps 0 0:=⟨bc _,fun i p hi=>absurd hi (Nat.not_lt_zero _),fun i p _ hp=>h p (dp hp)⟩
theorem sO {ps:List (Int×Int)} (ha:gP ps) {i j:Nat} {p q:Int×Int} (hp:ps[i]? =some p) (hq:ps[j]? =some q) (h:i<j):p.1<q.1:=by
 obtain⟨h1,rfl⟩:=bZ.1 hp;obtain⟨h2,rfl⟩:=bZ.1 hq;exact List.pairwise_iff_getElem.1 ha i j h1 h2 h
theorem AC {ps:List (Int×Int)} (ha:gP ps) {k:Nat} {p:Int×Int} (hp:p ∈ ps) (e:p.1=(k:Int)):iS ps k=p.2:=by
 unfold iS;cases h:ps.find? (fun p=>p.1==(k:Int))with
 | none=>
  have:=List.find?_eq_none.1 h p hp;simp[e]at this
 | some q=>
  have hq:=List.find?_some h;have hm:=List.mem_of_find?_eq_some h;have e2:q.1=(k:Int):=by simpa using hq
  obtain⟨i,hi⟩:=jY hp;obtain⟨j,hj⟩:=jY hm;rcases Nat.lt_trichotomy i j with h1 | h1 | h1
  ·have:=sO ha hi hj h1;omega
  ·subst h1;rw[hi]at hj;cases hj;rfl
  ·have:=sO ha hj hi h1;omega
theorem AD {ps:List (Int×Int)} {k:Nat} (h:∀p ∈ ps,p.1≠(k:Int)):iS ps k= -1:=by
 unfold iS;rw[List.find?_eq_none.2 (fun p hp=>by simpa using h p hp)]
theorem Kk {ps:List (Int×Int)} (ha:gP ps) {k j:Nat} {p:Int×Int} (h:po ps k j) (hp:ps[j]? =some p) (e:p.1=(k:Int)):po ps (k+1) (j+1)/\iS ps k=p.2:=by
 obtain⟨h1,h2,h3⟩:=h;refine⟨⟨(bZ.1 hp).1,fun i q hi hq=> ?_,fun i q hi hq=> ?_⟩,AC ha (dp hp) e⟩
 ·by_cases c:i=j
  ·subst c;rw[hp]at hq;cases hq;omega
  ·have:=h2 i q (by omega) hq;omega
 ·have:=sO ha hp hq (by omega);omega
theorem AE {ps:List (Int×Int)} (ha:gP ps) {k j:Nat} (h:po ps k j) (hn:∀p,ps[j]? =some p->p.1≠(k:Int)):po ps (k+1) j/\iS ps k= -1:=by
 obtain⟨h1,h2,h3⟩:=h;have key:∀i q,j<=i->ps[i]? =some q->((k+1:Nat):Int)<=q.1:=fun i q hi hq=>by
  have a:=h3 i q hi hq;by_cases c:i=j
  ·subst c;have:=hn q hq;omega
  ·have hil:=(bZ.1 hq).1;have hj:=aZ (l:=ps) (i:=j) (by omega);have b:=h3 j _ (aG _) hj;have:=sO ha hj hq (by omega);omega
 refine⟨⟨h1,fun i q hi hq=>by have:=h2 i q hi hq;omega,key⟩,AD fun p hp=> ?_⟩;obtain⟨i,hi⟩:=jY hp;by_cases c:i<j
 ·have:=h2 i p c hi;omega
 ·have:=key i p (by omega) hi;omega
def kF (ps:List (Int×Int)) (k:Nat):List Int:=(cI k).map fun i=>fK (iS ps i)
theorem Kl (ps:List (Int×Int)) (k:Nat):kF ps (k+1)=kF ps k++ [fK (iS ps k)]:=by unfold kF;rw[List.range_succ,ec];rfl
theorem AF (ps:List (Int×Int)) (k:Nat):(kF ps k).length=k:=by unfold kF;simp
theorem Km {b:Nat} {ps:List (Int×Int)} (ha:gP ps) (hr:∀p ∈ ps,0<=p.1/\p.1< (b:Int)):kF ps b=eA b ps:=by
 apply jD;intro j;by_cases hj:j<b
 ·obtain⟨c1,c2⟩:=ve ha hr hj;unfold kF;rw[dY,mj hj];show some (fK (iS ps j))=_;by_cases hq:∃q ∈ ps,q.1=(j:Int)
  ·obtain⟨q,hq,e⟩:=hq;rw[c1 q hq e,AC ha hq e]
  ·have hn:∀q ∈ ps,q.1≠(j:Int):=fun q hq2 e=>hq ⟨q,hq2,e⟩;rw[c2 hn,AD hn]
   rfl
 ·rw[ej (by rw[AF];omega),ej (by rw[lj];omega)]
theorem Kn {b:Nat} {ps:List (Int×Int)} (h:vP b ps) (k:Nat): -1<=iS ps k/\iS ps k<=255/\iS ps k≠254:=by
 unfold iS;cases e:ps.find? (fun p=>p.1==(k:Int))with
 | none=>exact⟨by decide,by decide,by decide⟩
 | some q=>
  have:=h q (List.mem_of_find?_eq_some e);show -1<=q.2/\q.2<=255/\q.2≠254;omega
attribute [-simp] isAgg191 zeroValue191
attribute [local go_sem] Oper.semAt_some
def sP (ps:List (Int×Int)) (k:Nat):Array ak:=#[ab ac (iS ps k)]
structure PlB (Bl Bb:Nat) (v:ak) (b:Int) (ps:List (Int×Int)) (W:ah):Prop where
 cl:W.cell? ⟨Bl,0,none⟩=some v
 cb:W.cell? ⟨Bb,0,none⟩=some (ab ac b)
 pr:fU W v ps
theorem Ko (F:Fence) (n:Nat) (hf:F.fn 250) (hro:F.round=none) (a:Option aF) (len cap:Nat) (b:Int) (w:ah):
  CallsIn F n aj 250 #[af a len cap,ab ac b] w fun e w'=>e=ao (.func (.func 286) #[] #[am (some ⟨w.heap.size,0,none⟩),am (some ⟨w.heap.size+1,0,none⟩)])/\
   w'=(w.alloc (an #[af a len cap] 43)).alloc (an #[ab ac b] 3):=by
 refine callsIn_of_wp func250 rfl hf ?_ hro;simp only[ntmps250,cJ,bz,cx,Nat.reduceAdd,Nat.reduceSub,cO,cP,cQ,cR,cy,cC]
 gi_wp2
 go_ret;exact⟨rfl,rfl⟩
theorem Kq (n:Nat) (hn:1<=n) (Bl Bb:Nat) (v:ak) (b:Nat) (hb:b<=64) (ps:List (Int×Int)) (hp:ps.length<=1000) (ha:gP ps) (hps:∀p ∈ ps,0<=p.1) (w:ah):
  oO Fence.wide n aj 286 #[am (some ⟨Bl,0,none⟩),am (some ⟨Bb,0,none⟩)] (sP ps) (PlB Bl Bb v (b:Int) ps) b w:=by
 intro lp J Jx W hW hJR hAB _ hY h0;have HAB:=ae hAB;have hR0:=hJR 0 W h0;have HJR:=ae hJR;have HY:=ae hY;obtain⟨a,cap,rfl,hc1,hc2, -⟩:=id hR0.pr;obtain⟨len,hle⟩:=w9nm ps.length;rw[hle]at hc1 hp HJR;have HL:=ae hle;have hcl:=hR0.cl;have hcb:=hR0.cb;rw[hle]at hcl;have HA:=ae ha;have HP0:=ae (Kj hps);have HCC:Hid (len<=cap/\cap<=aY):=⟨hc1,hc2⟩;have HRA:Hid (0<len->∃bb off,a=some ⟨bb,off,none⟩):=fun h=>by
  obtain⟨bb,off,e, -⟩:=hR0.pr.at (k:=0) (aZ (by omega));exact⟨bb,off,e⟩
 clear hR0 hY hJR hW hle ha hps hc1 hc2 hAB;refine callsIn_of_wp func286 rfl trivial ?_ rfl;simp only[ntmps286,cJ,bz,cx,Nat.reduceAdd,Nat.reduceSub,cO,cP,cQ,cR,cy,cC]
 gi_wp2
 clear hcl hcb
 gi_loopw [4,9] (fun rv iv wr=>∃(k j:Nat) (ra:Option aF),k<=b/\iv=ab ac (k:Int)/\rv=af ra (len - j) (cap - j)/\Hid (po ps k j)/\Hid (j<=len)/\Hid (j<len->∃bb off,a=some ⟨bb,off,none⟩/\ra=some ⟨bb,off+j*2,none⟩)/\J k wr) (fun _ iv _=>b - (aS iv).toNat)
 case atStart=>exact⟨0,0,a,bc _,rfl,rfl,HP0,bc _,(fun h=>by obtain⟨bb,off,e⟩:=HRA.out h;exact⟨bb,off,e,by rw[e,Nat.zero_mul,Nat.add_zero]⟩),h0⟩
 case round=>
  obtain⟨k,j,ra,hk,rfl,rfl,HAh,HJL,HAd,hJs⟩:=hrel;have HJ0:=ae hJs;by_cases hkm:k<b
  ·have g1:(k:Int)< (b:Int):=by omega
   have HKM:=ae hkm;have hW1:Hid (wrap64 ((k:Int)+1)=(k:Int)+1):=kR _ (by omega);have hy0:=HY.out k wr hkm hJs;unfold sP at hy0;obtain⟨m,hm⟩:=w9nm (len - j);obtain⟨d,hd⟩:=w9nm (cap - j);rw[hm,hd];have HM:=ae hm;have HD:=ae hd;have hdm:d<=aY:=by have:=HCC.out.2;omega
   have hmd:m<=d:=by have:=HCC.out.1;omega
   clear hm hd;by_cases h0m:m=0
   ·subst h0m;obtain⟨hA2,hG⟩:=AE HA.out HAh.out (fun p hp=>by
     have:=(bZ.1 hp).1;have h1:=HM.out;have h2:=HL.out;omega)
    have HA2:=ae hA2;rw[hG]at hy0;obtain⟨fn,tmps,assign,body,hy,hRR⟩:=hy0;clear hA2 hG hkm hJs
    gi_wp2
    refine hRR.mono ?_;rintro e W3 (⟨rfl,hJ3⟩ | ⟨rfl,hJx3⟩)
    ·have HJ3:=ae hJ3;clear hJ3
     gi_wp2
     go_roundw
     case rel=>exact⟨k+1,j,ra,HKM.out,by simp,by rw[HM.out,HD.out],HA2,HJL,HAd,HJ3.out⟩
     case measure=>have:=HKM.out;simp[aS];omega
    ·have HJ3:=ae hJx3;clear hJx3
     gi_wp2
     refine bo (results_none rfl _ _ _) rfl ?_;exact⟨⟨_,rfl⟩,aD ⟨k+1,HKM.out,HJ3.out⟩⟩
   ·have hjl:j<len:=by have:=HM.out;omega
    obtain⟨bb,off,rfl,rfl⟩:=HAd.out hjl;obtain⟨p,hpj⟩:∃p,ps[j]? =some p:=⟨_,aZ (by rw[HL.out];exact hjl)⟩;obtain⟨bb',off',e',hbb,d1,d2⟩:=(HJR.out k wr hJs).pr.at hpj;cases e';obtain⟨x0,y0⟩:=p;simp only at d1 d2;have g3:decide ((m:Int)>0)=true:=by simp;omega
    have g2:(m:Int)>0:=by omega
    have g6:0<m:=by omega
    have hP2:=HJR.out k wr hJs;by_cases hx:x0=(k:Int)
    ·subst hx;obtain⟨hA2,hG⟩:=Kk HA.out HAh.out hpj rfl;have HA2:=ae hA2;rw[hG]at hy0;simp only at hy0;have q1:∀z:aM wr,z.1.cell? ⟨bb,off+j*2,none⟩=some (ab ac (k:Int)):=fun z=>(z.cell hbb).trans d1;have q2:∀z:aM wr,z.1.cell? ⟨bb,off+j*2+1,none⟩=some (ab ac y0):=fun z=>(z.cell hbb).trans d2;have g4:((k:Int)==(k:Int))=true:=by simp
     have g5:¬m=0:=h0m;have hm1:1<=m:=g6;clear hA2 hkm hJs hpj hy0 HAd hjl hP2 h0m;have HGG:=ae hG;clear hG
     gi_wp2
     refine wpIn_wide.2 ?_;refine ig (by kernel_rfl) (by kernel_rfl) ?_;repeat(go_big_quiet_step (fail))
     try(with_reducible refine aV ?_)
     intro z;obtain⟨x,hzx⟩:=w9nm z.1;have hbx:ag wr.heap.size wr x:=by rw[←hzx];exact z.2
     rw[hzx];have hJx:J k x:=HAB.out k wr x none HJ0.out (dS hbx none) (fun r e=>by cases e);have hy0:=HY.out k x HKM.out hJx;unfold sP at hy0;rw[HGG.out]at hy0;obtain⟨fn,tmps,assign,body,hy,hRR⟩:=hy0;have hmd2:m<=d:=hmd;clear hzx hbx hJx q1 q2
     gi_wp2
     all_goals(
      refine hRR.mono ?_;rintro e W3 (⟨rfl,hJ3⟩ | ⟨rfl,hJx3⟩)
      ·have HJ3:=ae hJ3;clear hJ3
       gi_wp2
       go_roundw
       case rel=>exact⟨k+1,j+1,_,HKM.out,by simp,by first | (rw[show len - (j+1)=m - 1 by have:=HM.out;omega,show cap - (j+1)=d - 1 by have:=HD.out;omega];done) | (rw[show len - (j+1)=m - 1 by have:=HM.out;omega,show cap - (j+1)=0 by have:=HD.out;omega];done),HA2,by have:=HM.out;show j+1<=len;omega,(fun h=>by first | (exfalso;have:=HM.out;have:=HD.out;omega) | exact⟨bb,off,rfl,by simp only[Option.some.injEq,Addr.mk.injEq,and_true,true_and];omega⟩),HJ3.out⟩
       case measure=>have:=HKM.out;simp[aS];omega
      ·have HJ3:=ae hJx3;clear hJx3
       gi_wp2
       refine bo (results_none rfl _ _ _) rfl ?_;exact⟨⟨_,rfl⟩,aD ⟨k+1,HKM.out,HJ3.out⟩⟩)
    ·obtain⟨hA2,hG⟩:=AE HA.out HAh.out (fun q hq=>by rw[hpj]at hq;cases hq;exact hx);have HA2:=ae hA2;rw[hG]at hy0;obtain⟨fn,tmps,assign,body,hy,hRR⟩:=hy0;have g4:(x0==(k:Int))=false:=by simpa using hx
     have g5:¬x0=(k:Int):=hx;clear hA2 hG hkm hJs hpj hx hjl hP2
     gi_wp2
     refine hRR.mono ?_;rintro e W3 (⟨rfl,hJ3⟩ | ⟨rfl,hJx3⟩)
     ·have HJ3:=ae hJ3;clear hJ3
      gi_wp2
      go_roundw
      case rel=>exact⟨k+1,j,_,HKM.out,by simp,by rw[HM.out,HD.out],HA2,HJL,HAd,HJ3.out⟩
      case measure=>have:=HKM.out;simp[aS];omega
     ·have HJ3:=ae hJx3;clear hJx3
      gi_wp2
      refine bo (results_none rfl _ _ _) rfl ?_;exact⟨⟨_,rfl⟩,aD ⟨k+1,HKM.out,HJ3.out⟩⟩
  ·obtain rfl:k=b:=by omega
   have g1:¬(k:Int)< (k:Int):=by omega
   clear hJs hkm
   gi_wp2
   go_end0
   exact⟨⟨_,rfl⟩,aA HJ0.out⟩
end
section
theorem Kr {F:Fence} {n:Nat} {P:Program} {w w':ah} {ops:Array Oper} {rest:List Oper} {o:Oper} {a:Act} {Q:Exit->Act->ah->Prop}
  (hg:o.guard=none) (l c:Operand) (t:aR) (hop:o.op=Op.makeSlice t l c) (vl vc v':ak) (hl:a.eval l=vl) (hc:a.eval c=vc)
  (hrun:(Instr.makeSlice t vl vc).run P w=.ok v' w') (h:wpListIn F n P ops Q rest (a.put o.dst v') w'):wpListIn F n P ops Q (o::rest) a w:=by
 refine wpListIn_plain hg fun K hK'=> ?_;unfold Oper.wpIn;refine⟨?_, ?_⟩
 ·simp[Oper.about,hop]
 ·rw[Oper.semAt_plain F _ _ (by rw[hop];intro c hc';cases hc')];simp[execOp,hop,hl,hc,hrun,Result.andThen];exact hK' _ _ h
set_option maxRecDepth 100000 in
theorem Ks (c:Nat) (hc:c<=1000) (w:ah):(Instr.makeSlice 76 (ab ac 0) (ab ac (c:Int))).run aj w=.ok (af (some ⟨w.heap.size,0,none⟩) 0 c) (w.alloc (an (madeCells #[ab ay 0] c) 5)):=
 run_make_room 76 5 (ab ay 0) 1 Tryz.underlying76 nu rfl ac ac c (by omega) (by omega) w
attribute [local go_sem] Oper.semAt_some
theorem Kt {w:ah} {v:ak} {ps:List (Int×Int)} (h:fU w v ps) (hp:ps.length<=1000) (b:Nat) (hb:b<=64) (ha:gP ps) (hok:vP b ps):
  ap aj 177 #[v,ab ac (b:Int)] w fun e w'=>∃u,e=ao u/\w'.ownsRow w.heap.size 5 1 u b ((eA b ps).map (Value.int ay))/\ag w.heap.size w w':=by
 have hmx:=w9x
 have HPT:=ae h;obtain⟨a,len,cap,rfl⟩:∃a n c,v=af a n c:=by obtain⟨a,c,e, -⟩:=h;exact⟨a,_,c,e⟩
 have HEND:Hid (kF ps b=eA b ps):=Km ha (fun p hp=>⟨(hok p hp).1,(hok p hp).2.1⟩);have HRG:=ae (Kn hok);have hps:∀p ∈ ps,0<=p.1:=fun p hp=>(hok p hp).1;obtain⟨B,hB⟩:=w9nm w.heap.size;have HSZ:=ae hB;obtain⟨X0,hX0⟩:=w9nm (w.alloc (an (madeCells #[ab ay 0] b) 5));have RM:=Ks b (by omega) w;have o0:fM w X0 (af (some ⟨B,0,none⟩) 0 b) []:=by
  rw[←hX0,←hB];exact World.ownsRow_made (base:=w.heap.size) (e:= 5) (size:=1) w _ b (aG _) (by unfold aY;omega) (by simp[madeCells])
 rw[hX0,hB]at RM;have hX0s:X0.heap.size=B+1:=by rw[←hX0,←hB];simp
 have hX0b:ag B w X0:=by rw[←hX0,←hB];exact aH _ _
 obtain⟨X,hX⟩:=w9nm (X0.alloc (an #[af (some ⟨B,0,none⟩) 0 b] 76));have hXs:X.heap.size=B+2:=by rw[←hX];simp[hX0s]
 have bX0:ag X0.heap.size X0 X:=by rw[←hX];exact aH _ _
 have r1:aq X (B+1) 76 [aK (some ⟨B,0,none⟩,0,b)]:=by rw[←hX,←hX0s];exact aq.new _ _ _
 obtain⟨W0,hW0⟩:=w9nm ((X.alloc (an #[af a len cap] 43)).alloc (an #[ab ac (b:Int)] 3));have hWs:W0.heap.size=B+4:=by rw[←hW0];simp[hXs]
 have bX:ag X.heap.size X W0:=by rw[←hW0];exact((aI _ X).alloc (aG _) _).alloc (by simp) _
 have r2:aq W0 (B+2) 43 [af a len cap]:=by rw[←hW0,←hXs];exact(aq.new X _ _).below (aH _ _)
 have r3:aq W0 (B+3) 3 [ab ac (b:Int)]:=by
  rw[←hW0];have:=aq.new (X.alloc (an #[af a len cap] 43)) 3 [ab ac (b:Int)];rw[bO,hXs]at this;exact this
 have I0:Hid (aq W0 (B+1) 76 [aK (some ⟨B,0,none⟩,0,b)]/\fM w W0 (aK (some ⟨B,0,none⟩,0,b)) (kF ps 0)/\aq W0 (B+2) 43 [af a len cap]/\aq W0 (B+3) 3 [ab ac (b:Int)]/\ag B w W0):=
  ⟨r1.below bX,(o0.below bX0).below bX,r2,r3,(hX0b.trans (bX0.mono (by omega))).trans (bX.mono (by omega))⟩
 have HW:=ae hWs;clear o0 hX0b bX0 r1 bX r2 r3 h;refine(callsIn_wide (n:=3)).1 ?_;refine gA func177 rfl trivial ?_ rfl;simp only[ntmps177,cJ,bz,cx,Nat.reduceAdd,Nat.reduceSub,cO,cP,cQ,cR,cy,cC]
 gi_wp2_with (first | (gi_at_make;refine Kr rfl _ _ 76 rfl _ _ _ rfl rfl RM ?_) | (refine⟨trivial, ?_⟩;gi_at_call 250;refine(Ko _ _ trivial rfl _ _ _ _ _).mono ?_;rintro e w' ⟨rfl,rfl⟩))
 try rw[hX]
 try rw[hW0]
 try rw[hXs]
 clear hX hW0 RM hX0 hX0s hXs;have hseq:=Kq 2 (by omega) (B+2) (B+2+1) (af a len cap) b hb ps hp ha hps W0;clear ha hps hok;refine oQ (n:=3) rfl (by omega) (gf:= 286) (lb:=#[am (some ⟨B+2,0,none⟩),am (some ⟨B+2+1,0,none⟩)]) rfl trivial (enters_of func286 (by kernel_rfl) rfl)
  hseq (aI _ _) (fun _=>rfl)
  (fun k W=>∃u:jj,aq W (B+1) 76 [aK u]/\fM w W (aK u) (kF ps k)/\aq W (B+2) 43 [af a len cap]/\aq W (B+3) 3 [ab ac (b:Int)]/\ag B w W)
  (fun c k W=>False)
  ?hR ?hI (fun c s Y Z row h=>h.elim) ⟨_,I0.out⟩
  (fun k a' W=>a'={tmps:=#[af a len cap,ab ac (b:Int),az,az,af none 0 0,am (some ⟨B+1,0,none⟩),ab ac (iS ps k),ab ac (b:Int),af (some ⟨B,0,none⟩) 0 b,af a len cap,ab ac (b:Int),.func (.func 286) #[] #[am (some ⟨B+2,0,none⟩),am (some ⟨B+2+1,0,none⟩)],ab ac (iS ps k),az,az,az,az,az,az],defers:= []})
  ?hAx ?assign ?body ?done ?stop
 case hR=>
  rintro k W ⟨u,g1,g2,g3,g4,g5⟩;exact⟨g3.cell 0 _ rfl,g4.cell 0 _ rfl,HPT.out.below (by show ag _ _ _;rw[HSZ.out];exact g5)⟩
 case hI=>
  intro s Y Z row ⟨u,g1,g2,g3,g4,g5⟩ hg hr;refine⟨u,fI g1 hg hr,pZ g2 hg hr,fI g3 hg hr,fI g4 hg hr,oT g5 (by omega) hg (fun r e=>⟨by have:=(hr r e).1;have:=HW.out;have:=HSZ.out;omega,(hr r e).2⟩)⟩
 case hAx=>
  rintro k a' _ Y Z row f hg hr;exact f
 case assign=>
  rintro lp k W K hkm ⟨u,g⟩ hK;have hK:=hK _ _ (kj (aI _ W)) ⟨u,g⟩ rfl;unfold sP;clear g
  gi_wp2
  exact hK
 case body=>
  rintro lp k a' W _ _ hkm ⟨u,g1,g2,g3,g4,g5⟩ rfl;have G1:=ae g1;have G2:=ae g2;have G3:=ae g3;have G4:=ae g4;have G5:=ae g5;have HST:=ae (Kl ps k);have HPL:Hid ((kF ps k).length<=64):=by show _<=_;rw[AF];omega
  obtain⟨x,hx⟩:=w9nm (iS ps k);have hxr:=HRG.out k;rw[hx]at hxr HST ⊢;obtain⟨y,hy⟩:=w9nm (fK x);have HCD:=ae (Ac x hxr.1 hxr.2.1 hxr.2.2 W.drew);rw[hy]at HST HCD;have gd:ag W.heap.size W W.drew:=(aI _ W).drew;obtain⟨X1,hX1⟩:=w9nm (W.drew.alloc (an #[ab ay y] 5));have bX1:ag W.drew.heap.size W.drew X1:=by rw[←hX1];exact aH _ _
  have gW:ag B w X1:=(g5.trans (gd.mono (by have:=g5.size;omega))).trans (bX1.mono (by have:=g5.size;have:=gd.size;omega));have o1:fM w X1 (aK u) (kF ps k):=(g2.below gd).below bX1;obtain⟨q,x2,hA,hO,hB2,hg2⟩:=fM.appG (u:=af (some ⟨W.drew.heap.size,0,none⟩) 1 1) (bs:= [y]) o1 (by rw[HSZ.out];exact gW) (by rw[←hX1];exact Am W.drew y) (by have:=HPL.out;simp;omega);rw[←HST.out]at hO;obtain⟨⟨xx,nn,cc⟩,rfl, -⟩:=iO hO.out;have KD:Hid (aq W.drew (B+1) 76 [aK u]):=g1.below gd;have KX1:Hid (aq X1 (B+1) 76 [aK u]):=(g1.below gd).below bX1;have kx2:aq x2 (B+1) 76 [aK u]:=KX1.out.grown hg2 (fz o1 KX1.out (by decide));have KX2:=ae kx2;have K3:Hid (aq x2 (B+2) 43 [af a len cap]):=((g3.below gd).below bX1).grown hg2 (fz o1 ((g3.below gd).below bX1) (by decide));have K4:Hid (aq x2 (B+3) 3 [ab ac (b:Int)]):=((g4.below gd).below bX1).grown hg2 (fz o1 ((g4.below gd).below bX1) (by decide));have HKF:Hid (KeepsFrom W0.heap.size W x2):=jH (kj (gd.trans (bX1.mono gd.size))) (oU o1 hg2);have f0:=kx2.frozen 0;have e0:=kx2.cell 0 _ rfl;have d0:∀z:mD (B+1) 76 [aK u],z.1.cell? ⟨B+1,0,none⟩=some (aK u):=fun z=>z.2.cell 0 _ rfl
  haveI:Nonempty (mD (B+1) 76 [aK u]):=⟨⟨W.drew,KD.out⟩⟩
  have HN:Hid (W.drew.heap.size=W.drew.heap.size):=rfl;clear g1 g2 g3 g4 g5 gd bX1 gW o1 hg2 kx2 hx hy hxr
  gi_wp2
  refine uR (fun x=>∃z:mD (B+1) 76 [aK u],x=z.1) 5 (.takes [0,1] (.one 2 (.one 3 (.one 4 .leaf)))) (iL kZ) (by kernel_rfl) hmx (by kernel_rfl) (by intro c x v a w h;exact(h:False).elim) ⟨⟨W.drew,KD.out⟩,rfl⟩ ?_;repeat(rw[bu];simp only[aB,aC];go_big_quiet_step (fail);refine aV ?_)
  clear d0;rw[bt,aT];simp only[aB,aC];go_wp2_with fail;go_at_call 175;refine HCD.out.mono ?_;rintro e y2 ⟨rfl,rfl⟩;go_wp2_with fail;refine aN ⟨⟨_,KD.out⟩,rfl⟩ ?_;rw[aT];simp only[aB,aC];go_wp2_with fail;try rw[hX1]
  refine aN ⟨⟨X1,KX1.out⟩,rfl⟩ ?_;clear hX1;rw[aT];simp only[aB,aC];refine wpList_append_run (.tmp 13) (.tmp 16) 76 rfl rfl _ _ _ rfl rfl (hA.out) ?_;go_wp2_with fail;refine aN ⟨⟨x2,KX2.out⟩,rfl⟩ ?_;rw[cW];simp only[bR,bQ];simp only[aK]at e0 ⊢;go_wp2_with fail;exact⟨jH HKF.out (lO KX2.out (fH x2 (B+1) 0 _)),(xx,nn,cc),KX2.out.set 0 _,kC hO.out KX2.out (by decide) 0 _,fJ K3.out (by omega) 0 _,fJ K4.out (by omega) 0 _,kk (by have:ag _ _ _:=hB2.out;rw[HSZ.out]at this;exact this) (by omega) 0 _⟩
 case done=>
  rintro D W hD ⟨u,g1,g2,g3,g4,g5⟩ hK;have d3:=g1.cell 0 _ rfl;have G2:=ae g2;have G5:=ae g5;have HK:=ae hK;clear g1 g2 g3 g4 g5 hK
  gi_wp2
  refine⟨by simp,aA ⟨_,_,rfl,eU HK.out, ?_⟩⟩;have hg2:=grownBy_putObj' W D (.deferred none);refine⟨_,results_tmp rfl _ _ _,_,rfl, ?_, ?_⟩
  ·have:=pZ (M:=0) G2.out hg2 (fun r e=>by cases e;exact⟨bc _,_,HK.out,rfl⟩);rw[HEND.out,lj]at this;exact this
  ·rw[HSZ.out];exact G5.out.trans (belowK_b (w:=w) (by omega) W D _ _ (by have:=HW.out;have:=HSZ.out;omega) HK.out rfl rfl)
 case stop=>
  rintro D c k W hD _ h hK;exact h.elim
end
section
attribute [-simp] isAgg90 zeroValue90 isAgg191 zeroValue191 isAgg47 zeroValue47
attribute [-go_sem] aE aL
attribute [local go_sem] iQ iR fB eJ en
theorem Ku {w:ah} {q:PS} {l:List SN} (h:ki w (aK q.sn) l) (hK:l.length<=1000):
  ap aj 245 #[bI q] w fun e w'=>e=ao (.bool (l.all (fun t=>decide (t.id<q.nx))&&decide (1<=q.nx/\q.nx<=1000001)))/\ag w.heap.size w w':=by
 obtain⟨⟨qd,qdn,qdc⟩,⟨qs,qsn,qsc⟩,nx,kd,id,⟨qp,qpn,qpc⟩⟩:=q;obtain⟨r,h⟩:=h;have HS0:=ae h;obtain⟨a,cap,e,h1,h2, -⟩:=h;simp only[aK]at e;cases e;obtain⟨len,hle⟩:=w9nm l.length;simp only[bI,aW,aK]at *;rw[hle]at HS0 h1 hK ⊢;have HL:=ae hle;obtain⟨B,hB⟩:=w9nm w.heap.size;obtain⟨W,hW⟩:=w9nm (w.alloc (an #[af qd qdn qdc,af qs len qsc,ab ac nx,ab ac kd,ab ac id,af qp qpn qpc] 47));have r1:aq W B 47 (aW ⟨(qd,qdn,qdc),(qs,len,qsc),nx,kd,id,(qp,qpn,qpc)⟩):=by rw[←hW,←hB];exact aq.new _ _ _
 have b1:ag B w W:=by rw[←hW,←hB];exact aH _ _
 have HB:=ae b1;have HSZ:=ae hB;have HWB:Hid (B<=W.heap.size):=by show B<=W.heap.size;have:=b1.size;omega
 have KR:Hid (∀x:ah,ag W.heap.size W x->x.cell? ⟨B,1,none⟩=some (af qs len qsc)/\x.cell? ⟨B,2,none⟩=some (ab ac nx)):=fun x hx=>⟨(r1.below hx).cell 1 _ rfl,(r1.below hx).cell 2 _ rfl⟩;have KS:Hid (∀x:ah,ag W.heap.size W x->mv x (af qs len qsc) r l):=fun x hx=>HS0.out.below (by show ag _ _ _;rw[hB];exact b1.trans (hx.mono HWB.out));obtain⟨k1, -⟩:=KR.out W (aI _ _);clear r1 b1 h1 h2 hle HS0;go_enter func245,ntmps245;go_wp2_with fail;go_loopw [8] (fun iv wr=>∃k:Nat,k<=len/\iv=ab ac (k:Int)/\Hid (∀t ∈ l.take k,t.id<nx)/\w9h W wr) (fun iv _=>len - (aS iv).toNat)
 case atStart=>exact⟨0,bc _,rfl,(fun t ht=>by cases ht),aI _ _⟩
 case round=>
  clear k1;obtain⟨k,hk,rfl,HP,HBw⟩:=hrel;by_cases hlt:k<len
  ·have q1:(k:Int)< (len:Int):=by omega
   have HLT:=ae hlt;obtain⟨s,hs⟩:∃s,l[k]? =some s:=⟨_,aZ (by rw[HL.out];exact hlt)⟩;have HTK:=ae (je hs);have HMm:=ae (dp hs);obtain⟨bb,off,⟨i0,⟨x1,n1,c1⟩,⟨x2,n2,c2⟩⟩,rfl,hbb,hrk,hsn,d0,d1,d2⟩:=(KS.out _ HBw.out).at hs;have HID:Hid (i0=s.id):=hsn.id;have LD:=oM d0 d1 d2;have ST:=mS wr (i0,(x1,n1,c1),(x2,n2,c2));obtain⟨W2,hW2⟩:=w9nm (wr.alloc (an (cX (i0,(x1,n1,c1),(x2,n2,c2))).toArray 90));have bW2:ag wr.heap.size wr W2:=by rw[←hW2];exact aH wr _
   have e0:W2.cell? ⟨wr.heap.size,0,none⟩=some (ab ac i0):=by rw[←hW2];exact(aq.new wr 90 (cX (i0,(x1,n1,c1),(x2,n2,c2)))).cell 0 _ rfl
   have HB2:=w9bt HBw bW2;obtain⟨-,e2⟩:=KR.out W2 HB2.out;rw[hW2]at ST;obtain⟨N,hN⟩:=w9nm wr.heap.size;rw[hN]at ST e0;simp only[dZ,aK]at LD ST;clear hs hbb hrk hsn d0 d1 d2 bW2 hW2 hlt;by_cases hc:nx<=i0
   ·have g0:decide (nx<=i0)=true:=by simpa using hc
    have HE:Hid ((l.all (fun t=>decide (t.id<nx))&&decide (1<=nx/\nx<=1000001))=false):=by
     show _=_;have:l.all (fun t=>decide (t.id<nx))=false:=by
      rw[List.all_eq_false];exact⟨s,HMm.out,by rw[←HID.out];simp;omega⟩
     rw[this];rfl
    clear hc;go_wp2_with fail;go_ret;rw[HE.out];exact⟨rfl,by rw[HSZ.out];exact HB.out.trans (HB2.out.mono HWB.out)⟩
   ·have g0:decide (nx<=i0)=false:=by simpa using hc
    have HQ:Hid (∀t ∈ l.take (k+1),t.id<nx):=fun t ht=>by
     rw[HTK.out]at ht;rcases gc.1 ht with ht | ht
     ·exact HP.out t ht
     ·rw[eF.1 ht,←HID.out];omega
    clear hc;go_wp2_with fail;exact⟨⟨k+1,HLT.out,by simp,HQ,HB2⟩,by have:=HLT.out;simp[aS];omega⟩
  ·obtain rfl:k=len:=by omega
   have HE:Hid ((l.all (fun t=>decide (t.id<nx))&&decide (1<=nx/\nx<=1000001))=decide (1<=nx/\nx<=1000001)):=by
    show _=_;have:l.all (fun t=>decide (t.id<nx))=true:=by
     rw[iZ];intro t ht;have h:=HP.out t (by rw[de (by rw[HL.out];exact aG _)];exact ht)
     simpa using h
    rw[this];rfl
   obtain⟨-,e2⟩:=KR.out wr HBw.out;have HWI:=ae (qn nx 1 1000001 wr);obtain⟨tv,htv⟩:=w9nm (decide (1<=nx/\nx<=1000001));have HE2:Hid ((l.all (fun t=>decide (t.id<nx))&&decide (1<=nx/\nx<=1000001))=tv):=by show _=_;rw[HE.out,htv]
   rw[htv]at HWI;clear hlt htv HE;go_wp2_with fail;refine HWI.out.mono ?_;rintro e y ⟨rfl,rfl⟩;go_wp2_with fail;go_ret;rw[HE2.out];exact⟨rfl,by rw[HSZ.out];exact HB.out.trans (HBw.out.mono HWB.out)⟩
theorem Kv {w:ah} {v:ak} {ps:List (Int×Int)} (h:fU w v ps) (hp:ps.length<=1000) (b:Nat) (hb1:1<=b) (hb2:b<=64):
  ap aj 280 #[v,ab ac (b:Int)] w fun e w'=>e=ao (.bool (jn b ps))/\ag w.heap.size w w':=by
 have HPT:=ae h;obtain⟨a,cap,rfl,h1,h2, -⟩:=h;obtain⟨len,hle⟩:=w9nm ps.length;rw[hle]at HPT h1 hp ⊢;have HL:=ae hle;have HIS:=ae HPT.out.is;clear h1 h2 hle;go_enter func280,ntmps280;go_wp2_with fail;go_loopw [5,10] (fun lv iv wr=>∃k:Nat,k<=len/\iv=ab ac (k:Int)/\lv=ab ac (pk ps k)/\Hid (∀i,i<k->lm b ps i=true)/\w9h w wr) (fun _ iv _=>len - (aS iv).toNat)
 case atStart=>exact⟨0,bc _,rfl,rfl,(fun t ht=>absurd ht (Nat.not_lt_zero _)),aI _ _⟩
 case round=>
  obtain⟨k,hk,rfl,rfl,HP,HBw⟩:=hrel;by_cases hlt:k<len
  ·have q1:(k:Int)< (len:Int):=by omega
   have HLT:=ae hlt;obtain⟨p,hs⟩:∃s,ps[k]? =some s:=⟨_,aZ (by rw[HL.out];exact hlt)⟩;have HRT:=ae (Jg hs HP.out);have HLS:=ae (Jf hs);obtain⟨bb,off,rfl,hbb,d1,d2⟩:=(HPT.out.below HBw.out).at hs;obtain⟨x0,y0⟩:=p;simp only at d1 d2;have LD:=mt d1 d2;have ST:=mu wr x0 y0;obtain⟨W2,hW2⟩:=w9nm (wr.alloc (an #[ab ac x0,ab ac y0] 191));rw[hW2]at ST;have bW2:ag wr.heap.size wr W2:=by rw[←hW2];exact aH wr _
   have e1:W2.cell? ⟨wr.heap.size,0,none⟩=some (ab ac x0):=by rw[←hW2];exact(aq.new wr 191 [ab ac x0,ab ac y0]).cell 0 _ rfl
   have HB2:=w9bt HBw bW2;obtain⟨N,hN⟩:=w9nm wr.heap.size;rw[hN]at ST e1;obtain⟨le,hle⟩:=w9nm (pk ps k);rw[hle]at HRT ⊢;simp only at HRT HLS;obtain⟨tv,htv⟩:=w9nm (decide (le<=x0/\x0<=(b:Int) - 1));have HWI:=ae (qn x0 le ((b:Int) - 1) W2);have HX0:=ae (HIS.out _ (dp hs));rw[htv]at HRT HWI;clear hs hbb d1 d2 bW2 hW2 hlt hle;cases tv with
   | false=>
    have HE:Hid (jn b ps=false):=Jh (by rw[HL.out];exact HLT.out) HRT.out;clear htv;go_wp2_with fail;refine HWI.out.mono ?_;rintro e y ⟨rfl,rfl⟩;go_wp2_with fail;go_ret;rw[HE.out];exact⟨rfl,HB2.out⟩
   | true=>
    have hx0:x0<=(b:Int) - 1:=(of_decide_eq_true htv).2;have hx1: -9223372036854775808<=x0:=HX0.out.1.1;have HQ:Hid (∀i,i<k+1->lm b ps i=true):=fun i hi=>by
     by_cases e:i=k
     ·subst e;exact HRT.out
     ·exact HP.out i (by omega)
    clear htv;go_wp2_with fail;refine HWI.out.mono ?_;rintro e y ⟨rfl,rfl⟩;go_wp2_with fail;exact⟨⟨k+1,HLT.out,by simp,by rw[HLS.out],HQ,HB2⟩,by have:=HLT.out;simp[aS];omega⟩
  ·obtain rfl:k=len:=by omega
   have HE:Hid (jn b ps=true):=Ji fun i hi=>HP.out i (by rw[HL.out]at hi;exact hi);clear hlt;go_wp2_with fail;go_ret;rw[HE.out];exact⟨rfl,HBw.out⟩
theorem Kw {w:ah} {v:ak} {l:List SN} (h:ki w v l) (hK:jd 1000 l):
  ap aj 283 #[v] w fun e w'=>e=ao (.bool (mC l))/\ag w.heap.size w w':=by
 have hmx:=w9x
 obtain⟨r,h⟩:=h;have HS0:=ae h;obtain⟨a,cap,rfl,h1,h2, -⟩:=h;obtain⟨len,hle⟩:=w9nm l.length;have hk:=hK.1;rw[hle]at HS0 h1 hk ⊢;by_cases h0:len=0
 ·subst h0;have:l= []:=List.length_eq_zero_iff.1 hle;subst this;clear hle HS0 hK h1;go_enter func283,ntmps283;go_wp2_with fail;go_ret;exact⟨rfl,aI _ _⟩
 ·have hlt:len - 1<l.length:=by omega
  obtain⟨s,hs⟩:∃s,l[len - 1]? =some s:=⟨_,aZ hlt⟩;have hks:=hK.2 s (dp hs);have HGF:Hid (mC l=jf s):=by
   show _=_;have e:l.getLast? =some s:=by rw[List.getLast?_eq_getElem?,hle];exact hs
   unfold mC;rw[e]
  obtain⟨m,hm⟩:=w9nm (len - 1);obtain rfl:len=m+1:=by omega
  rw[hm]at hs;obtain⟨bb,off,⟨i0,⟨x1,n1,c1⟩,⟨x2,n2,c2⟩⟩,rfl,hbb,hrk,hsn,d0,d1,d2⟩:=HS0.out.at hs;obtain rfl:n2=s.tb.length:=by obtain⟨a,ca,e, -⟩:=hsn.tb;simp only[aK,Value.slice.injEq]at e;omega
  obtain⟨tl,htl⟩:=w9nm s.tb.length;rw[htl]at d0 d1 d2 hks hsn;have LD:=oM d0 d1 d2;have ST:=mS w (i0,(x1,n1,c1),(x2,tl,c2));obtain⟨W,hW⟩:=w9nm (w.alloc (an (cX (i0,(x1,n1,c1),(x2,tl,c2))).toArray 90));have bW:ag w.heap.size w W:=by rw[←hW];exact aH w _
  have r1:aq W w.heap.size 90 [ab ac i0,af x1 n1 c1,af x2 tl c2]:=by rw[←hW];exact aq.new w _ _
  rw[hW]at ST;have HC:Hid (∀z:aM W,ap aj 297 #[af x1 n1 c1] z.1 fun e w'=>e=ao (ab ac ((cV s.ch).length:Int))/\∃y:aM W,w'=y.1):=fun z=>
   ny z (zh _ s.ch z.1 ((hsn.ch.below bW).below z.2) hsn.ok.ch (by omega))
  obtain⟨N,hN⟩:=w9nm w.heap.size;have HBW:Hid (ag N w W):=by show ag _ _ _;rw[←hN];exact bW
  rw[hN]at ST r1;have cc1:∀z:aM W,z.1.cell? ⟨N,1,none⟩=some (af x1 n1 c1):=fun z=>(r1.below z.2).cell 1 _ rfl;have cc2:∀z:aM W,z.1.cell? ⟨N,2,none⟩=some (af x2 tl c2):=fun z=>(r1.below z.2).cell 2 _ rfl;have HNW:Hid (N<=W.heap.size):=by show N<=_;have:=HBW.out.size;omega
  obtain⟨cn,hcn⟩:=w9nm ((cV s.ch).length);have HFS:Hid (jf s=((cn:Int)==(tl:Int))):=by
   show _=_;unfold jf;rw[hcn,htl,iY];simp;omega
  rw[hcn]at HC;simp only[dZ,aK]at LD ST;have HSZ:=ae hN;have g0:¬((m+1:Nat):Int)=0:=by omega
  have g1:(((m+1:Nat):Int)==0)=false:=by simp;omega
  have g2:((m+1:Nat):Int) - 1=(m:Int):=by omega
  clear hs hm hle h0 hlt hbb hrk d0 d1 d2 bW hW hsn htl hcn hks hK HS0;go_enter func283,ntmps283;go_wp2_with fail;refine ig (by kernel_rfl) (by kernel_rfl) ?_;repeat(go_big_quiet_step (with_reducible (first | exact HC.out _)))
  try(with_reducible refine aV ?_)
  intro y;have HYB:Hid (ag N w y.1):=HBW.out.trans (y.2.mono HNW.out);clear cc1 cc2 LD ST;go_wp2_with fail;go_ret;rw[HGF.out,HFS.out];exact⟨rfl,by rw[HSZ.out];exact HYB.out⟩
theorem AG {g:SG} (hg:g.Ok):fa (g.a:Int)<=25:=by
 have:=hg.a200;unfold fa;split<;>omega
theorem Kx {w:ah} {v u:ak} {ps:List (Int×Int)} {bs:List Int} (h:fU w v ps) (hp:ps.length<=1000) (hu:Sl ay w u bs) (hb:aP bs):
  ap aj 281 #[v,u] w fun e w'=>e=ao (.bool (ln bs ps))/\ag w.heap.size w w':=by
 have HPT:=ae h;have HU:=ae hu;have HBB:=ae hb;obtain⟨a,cap,rfl,h1,h2, -⟩:=h;obtain⟨len,hle⟩:=w9nm ps.length;rw[hle]at HPT h1 hp ⊢;have HL:=ae hle;have HIS:=ae HPT.out.is;clear h1 h2 hle hu hb;go_enter func281,ntmps281;go_wp2_with fail;go_loopw [9] (fun iv wr=>∃k:Nat,k<=len/\iv=ab ac (k:Int)/\Hid (∀p ∈ ps.take k,dE bs p.2=true)/\w9h w wr) (fun iv _=>len - (aS iv).toNat)
 case atStart=>exact⟨0,bc _,rfl,(fun t ht=>by cases ht),aI _ _⟩
 case round=>
  obtain⟨k,hk,rfl,HP,HBw⟩:=hrel;by_cases hlt:k<len
  ·have q1:(k:Int)< (len:Int):=by omega
   have HLT:=ae hlt;obtain⟨p,hs⟩:∃s,ps[k]? =some s:=⟨_,aZ (by rw[HL.out];exact hlt)⟩;have HTK:=ae (je hs);have HMm:=ae (dp hs);obtain⟨bb,off,rfl,hbb,d1,d2⟩:=(HPT.out.below HBw.out).at hs;obtain⟨x0,y0⟩:=p;simp only at d1 d2;have LD:=mt d1 d2;have ST:=mu wr x0 y0;obtain⟨W2,hW2⟩:=w9nm (wr.alloc (an #[ab ac x0,ab ac y0] 191));rw[hW2]at ST;have bW2:ag wr.heap.size wr W2:=by rw[←hW2];exact aH wr _
   have e1:W2.cell? ⟨wr.heap.size,1,none⟩=some (ab ac y0):=by rw[←hW2];exact(aq.new wr 191 [ab ac x0,ab ac y0]).cell 1 _ rfl
   have HB2:=w9bt HBw bW2;obtain⟨N,hN⟩:=w9nm wr.heap.size;rw[hN]at ST e1;have HX0:=ae (HIS.out _ HMm.out);obtain⟨tv,htv⟩:=w9nm (dE bs y0);have HHS:Hid (ap aj 273 #[u,ab ac y0] W2 fun e w'=>e=ao (.bool tv)/\ag W2.heap.size W2 w'):=by
    have:=rK u bs y0 (nE HX0.out.2.1 HX0.out.2.2) W2 (HU.out.below HB2.out) HBB.out;rw[htv]at this;exact this
   clear hs hbb d1 d2 bW2 hW2 hlt;cases tv with
   | false=>
    have HE:Hid (ln bs ps=false):=by
     show _=_;unfold ln;rw[List.all_eq_false];exact⟨_,HMm.out,by simp[htv]⟩
    clear htv;go_wp2_with fail;refine HHS.out.mono ?_;rintro e y ⟨rfl,hy⟩;have HB3:=w9bt HB2 hy;clear hy;go_wp2_with fail;go_ret;rw[HE.out];exact⟨rfl,HB3.out⟩
   | true=>
    have HQ:Hid (∀p ∈ ps.take (k+1),dE bs p.2=true):=fun p hp=>by
     rw[HTK.out]at hp;rcases gc.1 hp with hp | hp
     ·exact HP.out p hp
     ·rw[eF.1 hp];exact htv
    clear htv;go_wp2_with fail;refine HHS.out.mono ?_;rintro e y ⟨rfl,hy⟩;have HB3:=w9bt HB2 hy;clear hy;go_wp2_with fail;exact⟨⟨k+1,HLT.out,by simp,HQ,HB3⟩,by have:=HLT.out;simp[aS];omega⟩
  ·obtain rfl:k=len:=by omega
   have HE:Hid (ln bs ps=true):=by
    show _=_;unfold ln;rw[iZ];intro p hp;exact HP.out p (by rw[de (by rw[HL.out];exact aG _)];exact hp)
   clear hlt;go_wp2_with fail;go_ret;rw[HE.out];exact⟨rfl,HBw.out⟩
theorem Ky {w:ah} {v:ak} {l:List SN} (g:SG) (hg:g.Ok) (r0:Int) (h:ki w v l) (hK:jd 1000 l):
  ap aj 282 #[al (g.v r0),v] w fun e w'=>∃u,e=ao u/\Sl ay w' u (fN g l)/\ag w.heap.size w w':=by
 obtain⟨r,h⟩:=h;have HS0:=ae h;obtain⟨a,cap,rfl,h1,h2, -⟩:=h;obtain⟨len,hle⟩:=w9nm l.length;have hk0:=hK.1;have HKL:=ae hK;rw[hle]at HS0 h1 hk0 ⊢;have HL:=ae hle;obtain⟨B,hB⟩:=w9nm w.heap.size;obtain⟨W,hW⟩:=w9nm (w.alloc (an (g.v r0) 23));have hrow:aq W B 23 [ab ac (g.b:Int),ab ac (g.s:Int),ab ac (g.y:Int),ab ac (g.a:Int),ab ac r0]:=by rw[←hW,←hB];exact aq.new _ _ _
 have b1:ag B w W:=by rw[←hW,←hB];exact aH _ _
 have HB:=ae b1;have HSZ:=ae hB;have HWB:Hid (B<=W.heap.size):=by show B<=W.heap.size;have:=b1.size;omega
 have KS:Hid (∀x:ah,ag W.heap.size W x->mv x (af a len cap) r l):=fun x hx=>HS0.out.below (by show ag _ _ _;rw[hB];exact b1.trans (hx.mono HWB.out));have c3:=hrow.cell 3 _ rfl;have HNW:=ae (rJ (g.a:Int) W);have hlz:Hid ((bg (fa (g.a:Int)) (0:Int)).length<=25):=by show _<=_;rw[iq];exact AG hg
 obtain⟨zs,hzs⟩:=w9nm (bg (fa (g.a:Int)) (0:Int));have HZB:Hid (aP zs):=by show aP _;rw[←hzs];exact vJ _
 have HHD:Hid (fN g l=gE zs (dK l)):=by show _=_;unfold fN;rw[hzs]
 rw[hzs]at HNW hlz;have HLen:Hid (∀xs,(gE zs xs).length<=140737488355328):=fun xs=>by rw[qk];exact bm hlz.out (by decide)
 unfold SG.v at *;clear hrow b1 h1 h2 hle HS0 hzs hlz hg hK;go_enter func282,ntmps282;go_wp2_with fail;refine HNW.out.mono ?_;rintro e x1 ⟨v0,rfl,hv0,hx1⟩;have HV0:=ae hv0;have H1:w9h W x1:=hx1;clear hv0 hx1 c3 HNW;go_wp2_with fail;go_loopw [5,15] (fun sv iv wr=>∃k:Nat,k<=len/\iv=ab ac (k:Int)/\Hid (Sl ay wr sv (gE zs (dK (l.take k))))/\w9h W wr) (fun _ iv _=>len - (aS iv).toNat)
 case atStart=>exact⟨0,bc _,rfl,HV0,H1⟩
 case round=>
  obtain⟨k,hk,rfl,HSV,HBw⟩:=hrel;by_cases hlt:k<len
  ·have q1:(k:Int)< (len:Int):=by omega
   have HLT:=ae hlt;obtain⟨s,hs⟩:∃s,l[k]? =some s:=⟨_,aZ (by rw[HL.out];exact hlt)⟩;have HTK:Hid (dK (l.take (k+1))=dK (l.take k)++s.tb.map (·.2)):=by show _=_;rw[je hs,uE]
   have htl0:=(HKL.out.2 s (dp hs)).2;obtain⟨bb,off,⟨i0,⟨x1,n1,c1⟩,⟨x2,n2,c2⟩⟩,rfl,hbb,hrk,hsn,d0,d1,d2⟩:=(KS.out _ HBw.out).at hs;obtain rfl:n2=s.tb.length:=by obtain⟨a,ca,e, -⟩:=hsn.tb;simp only[aK,Value.slice.injEq]at e;omega
   obtain⟨tl,htl⟩:=w9nm s.tb.length;rw[htl]at d0 d1 d2 htl0 hsn;have LD:=oM d0 d1 d2;have ST:=mS wr (i0,(x1,n1,c1),(x2,tl,c2));obtain⟨W2,hW2⟩:=w9nm (wr.alloc (an (cX (i0,(x1,n1,c1),(x2,tl,c2))).toArray 90));have bW2:ag wr.heap.size wr W2:=by rw[←hW2];exact aH wr _
   have e2:W2.cell? ⟨wr.heap.size,2,none⟩=some (af x2 tl c2):=by rw[←hW2];exact(aq.new wr 90 (cX (i0,(x1,n1,c1),(x2,tl,c2)))).cell 2 _ rfl
   have HB2:=w9bt HBw bW2;have HPT:Hid (fU W2 (af x2 tl c2) s.tb):=hsn.tb.below bW2;have HSV2:Hid (Sl ay W2 u5 (gE zs (dK (l.take k)))):=HSV.out.below bW2;have HIS:=ae HPT.out.is;have HTL:=ae htl;rw[hW2]at ST;obtain⟨N,hN⟩:=w9nm wr.heap.size;rw[hN]at ST e2;simp only[dZ,aK]at LD ST;clear hs hbb hrk hsn d0 d1 d2 bW2 hW2 hlt htl HSV;go_wp2_with fail;go_loopw [5,22] (fun sv jv wq=>∃j:Nat,j<=tl/\jv=ab ac (j:Int)/\Hid (Sl ay wq sv (gE zs (dK (l.take k)++(s.tb.take j).map (·.2))))/\w9h W2 wq) (fun _ jv _=>tl - (aS jv).toNat)
   case atStart=>exact⟨0,bc _,rfl,by simpa using HSV2,aI _ _⟩
   case round=>
    clear LD ST e2;obtain⟨j,hj,rfl,HSW,HBq⟩:=hrel;by_cases hlt:j<tl
    ·have q2:(j:Int)< (tl:Int):=by omega
     have HLT2:=ae hlt;obtain⟨p,hs⟩:∃p,s.tb[j]? =some p:=⟨_,aZ (by rw[HTL.out];exact hlt)⟩;have HX0:=ae (HIS.out _ (dp hs));have HTJ:Hid (dK (l.take k)++(s.tb.take (j+1)).map (·.2)=(dK (l.take k)++(s.tb.take j).map (·.2))++ [p.2]):=by
      show _=_;rw[je hs,ec,kb]
      rfl
     obtain⟨bb,off,rfl,hbb,d1,d2⟩:=(HPT.out.below HBq.out).at hs;obtain⟨x0,y0⟩:=p;simp only at d1 d2;have LD:=mt d1 d2;have ST:=mu wr x0 y0;obtain⟨W4,hW4⟩:=w9nm (wr.alloc (an #[ab ac x0,ab ac y0] 191));rw[hW4]at ST;have bW4:ag wr.heap.size wr W4:=by rw[←hW4];exact aH wr _
     have e1:W4.cell? ⟨wr.heap.size,1,none⟩=some (ab ac y0):=by rw[←hW4];exact(aq.new wr 191 [ab ac x0,ab ac y0]).cell 1 _ rfl
     have HB4:=w9bt HBq bW4;have HWT:=ae (uV u5 _ y0 (nE HX0.out.2.1 HX0.out.2.2) W4 (HSW.out.below bW4) (ql _ _ HZB.out) (HLen.out _));rw[←vK]at HWT;obtain⟨M,hM⟩:=w9nm wr.heap.size;rw[hM]at ST e1;clear hs hbb d1 d2 bW4 hW4 hlt HSW;go_wp2_with fail;refine HWT.out.mono ?_;rintro e x3 ⟨v3,rfl,hv3,hx3⟩;have HS3:Hid (Sl ay x3 v3 (gE zs (dK (l.take k)++(s.tb.take (j+1)).map (·.2)))):=by show Sl _ _ _ _;rw[HTJ.out];exact hv3
     have HB5:=w9bt HB4 hx3;clear hv3 hx3 HWT;go_wp2_with fail;exact⟨⟨j+1,HLT2.out,by simp,HS3,HB5⟩,by have:=HLT2.out;simp[aS];omega⟩
    ·obtain rfl:j=tl:=by omega
     have HS3:Hid (Sl ay wr u5 (gE zs (dK (l.take (k+1))))):=by
      have:=HSW.out;rw[de (l:=s.tb) (by rw[HTL.out];exact aG _),←HTK.out]at this;exact this
     have HB5:w9h W wr:=HB2.out.trans (HBq.out.mono HB2.out.size);clear hlt;go_wp2_with fail;exact⟨⟨k+1,HLT.out,by simp,HS3,HB5⟩,by have:=HLT.out;simp[aS];omega⟩
  ·obtain rfl:k=len:=by omega
   have HS3:Hid (Sl ay wr u5 (fN g l)):=by
    have:=HSV.out;rw[de (by rw[HL.out];exact aG _),←HHD.out]at this;exact this
   clear hlt;go_wp2_with fail;go_ret;exact⟨_,rfl,HS3.out,by rw[HSZ.out];exact HB.out.trans (HBw.out.mono HWB.out)⟩
theorem Kz {w:ah} {v u:ak} {ps:List (Int×Int)} {bs:List Int} (g:SG) (hg:g.Ok) (r0:Int) (h:fU w v ps) (hp:ps.length<=1000) (hu:Sl ay w u bs) (hb:aP bs) (hbl:bs.length<=1000):
  ap aj 284 #[al (g.v r0),v,u] w fun e w'=>e=ao (.bool (jK g bs ps))/\ag w.heap.size w w':=by
 have HPT:=ae h;have HU:=ae hu;have HBB:=ae hb;have HBL:=ae hbl;have ha:=hg.a200;obtain⟨a,cap,rfl,h1,h2, -⟩:=h;obtain⟨len,hle⟩:=w9nm ps.length;rw[hle]at HPT h1 hp ⊢;have HL:=ae hle;have HIS:=ae HPT.out.is;obtain⟨B,hB⟩:=w9nm w.heap.size;obtain⟨W,hW⟩:=w9nm (w.alloc (an (g.v r0) 23));have hrow:aq W B 23 [ab ac (g.b:Int),ab ac (g.s:Int),ab ac (g.y:Int),ab ac (g.a:Int),ab ac r0]:=by rw[←hW,←hB];exact aq.new _ _ _
 have b1:ag B w W:=by rw[←hW,←hB];exact aH _ _
 have HB:=ae b1;have HSZ:=ae hB;have HWB:Hid (B<=W.heap.size):=by show B<=W.heap.size;have:=b1.size;omega
 have KP:Hid (∀x:ah,ag W.heap.size W x->fU x (af a len cap) ps):=fun x hx=>HPT.out.below (by show ag _ _ _;rw[hB];exact b1.trans (hx.mono HWB.out));have KC:Hid (∀x:ah,ag W.heap.size W x->x.cell? ⟨B,3,none⟩=some (ab ac (g.a:Int))):=fun x hx=>(hrow.below hx).cell 3 _ rfl;have HU0:Hid (Sl ay W u bs):=HU.out.below (by show ag _ _ _;rw[hB];exact b1);have HLen:Hid (∀k,(fj bs ps k).length<=140737488355328):=fun k=>by rw[Jk];exact bm HBL.out (by decide)
 unfold SG.v at *;clear h1 h2 hle hu hb hbl hrow b1 HPT HU hg;go_enter func284,ntmps284;go_wp2_with fail;go_loopw [7,13] (fun sv iv wr=>∃k:Nat,k<=len/\iv=ab ac (k:Int)/\Hid (Sl ay wr sv (fj bs ps k))/\Hid (∀i,i<k->lQ g bs ps i=true)/\w9h W wr) (fun _ iv _=>len - (aS iv).toNat)
 case atStart=>exact⟨0,bc _,rfl,by rw[Jj];exact HU0,(fun t ht=>absurd ht (Nat.not_lt_zero _)),aI _ _⟩
 case round=>
  obtain⟨k,hk,rfl,HSV,HP,HBw⟩:=hrel;by_cases hlt:k<len
  ·have q1:(k:Int)< (len:Int):=by omega
   have HLT:=ae hlt;obtain⟨p,hs⟩:∃s,ps[k]? =some s:=⟨_,aZ (by rw[HL.out];exact hlt)⟩;have HX0:=ae (HIS.out _ (dp hs));obtain⟨bb,off,rfl,hbb,d1,d2⟩:=(KP.out _ HBw.out).at hs;obtain⟨x0,y0⟩:=p;have HAP:=ae (Jo (g:=g) (set:=bs) hs);have HSK:Hid (y0=255->fj bs ps (k+1)=fj bs ps k):=fun e=>Jl bs hs e;have HPU:Hid (y0≠255->fj bs ps (k+1)=gO (fj bs ps k) y0):=fun e=>Jm bs hs e;simp only at d1 d2;have LD:=mt d1 d2;have ST:=mu wr x0 y0;obtain⟨W2,hW2⟩:=w9nm (wr.alloc (an #[ab ac x0,ab ac y0] 191));rw[hW2]at ST;have bW2:ag wr.heap.size wr W2:=by rw[←hW2];exact aH wr _
   have hNr:aq W2 wr.heap.size 191 [ab ac x0,ab ac y0]:=by rw[←hW2];exact aq.new wr _ _
   have HB2:=w9bt HBw bW2;have HSV2:Hid (Sl ay W2 u7 (fj bs ps k)):=HSV.out.below bW2;obtain⟨N,hN⟩:=w9nm wr.heap.size;rw[hN]at ST hNr;have HNR:=ae hNr;have e1:=hNr.cell 1 _ rfl;have e3:=KC.out W2 HB2.out;clear hs hbb d1 d2 bW2 hW2 hlt HSV hNr;simp only at HAP;by_cases h5:y0=255
   ·have g5:(y0==255)=true:=by simpa using h5
    have HQ:Hid (∀i,i<k+1->lQ g bs ps i=true):=fun i hi=>by
     by_cases e:i=k
     ·subst e;rw[HAP.out,g5];rfl
     ·exact HP.out i (by omega)
    have HS3:Hid (Sl ay W2 u7 (fj bs ps (k+1))):=by show Sl _ _ _ _;rw[HSK.out h5];exact HSV2.out
    clear h5;go_wp2_with fail;exact⟨⟨k+1,HLT.out,by simp,HS3,HQ,HB2⟩,by have:=HLT.out;simp[aS];omega⟩
   ·have g5:(y0==255)=false:=by simpa using h5
    have H5:=ae h5;obtain⟨tv,htv⟩:=w9nm (decide (0<=y0/\y0<=(g.a:Int) - 1));obtain⟨hv,hhv⟩:=w9nm (dE (fj bs ps k) y0);have HWI:=ae (qn y0 0 ((g.a:Int) - 1) W2);have HHS:Hid (ap aj 273 #[u7,ab ac y0] W2 fun e w'=>e=ao (.bool hv)/\ag W2.heap.size W2 w'):=by
     have:=rK u7 (fj bs ps k) y0 (nE HX0.out.2.1 HX0.out.2.2) W2 HSV2.out (zZ HBB.out ps k);rw[hhv]at this;exact this
    rw[g5,htv,hhv]at HAP;rw[htv]at HWI;clear htv hhv h5;cases tv with
    | false=>
     have HE:Hid (jK g bs ps=false):=Aa (by rw[HL.out];exact HLT.out) HAP.out;go_wp2_with fail;refine HWI.out.mono ?_;rintro e y ⟨rfl,rfl⟩;go_wp2_with fail;go_ret;rw[HE.out];exact⟨rfl,by rw[HSZ.out];exact HB.out.trans (HB2.out.mono HWB.out)⟩
    | true=>
     cases hv with
     | true=>
      have HE:Hid (jK g bs ps=false):=Aa (by rw[HL.out];exact HLT.out) HAP.out;go_wp2_with fail;refine HWI.out.mono ?_;rintro e y ⟨rfl,rfl⟩;go_wp2_with fail;refine HHS.out.mono ?_;rintro e y2 ⟨rfl,hy2⟩;have HB3:=w9bt HB2 hy2;clear hy2;go_wp2_with fail;go_ret;rw[HE.out];exact⟨rfl,by rw[HSZ.out];exact HB.out.trans (HB3.out.mono HWB.out)⟩
     | false=>
      have HQ:Hid (∀i,i<k+1->lQ g bs ps i=true):=fun i hi=>by
       by_cases e:i=k
       ·subst e;rw[HAP.out];rfl
       ·exact HP.out i (by omega)
      go_wp2_with fail;refine HWI.out.mono ?_;rintro e y ⟨rfl,rfl⟩;go_wp2_with fail;refine HHS.out.mono ?_;rintro e y2 ⟨rfl,hy2⟩;have HB3:=w9bt HB2 hy2;have f1:=(HNR.out.below hy2).cell 1 _ rfl;have HWT:=ae (uV u7 (fj bs ps k) y0 (nE HX0.out.2.1 HX0.out.2.2) y2 (HSV2.out.below hy2) (zZ HBB.out ps k) (HLen.out _));rw[←HPU.out H5.out]at HWT;clear hy2 e1 e3 HHS HWI;go_wp2_with fail;refine HWT.out.mono ?_;rintro e x3 ⟨v3,rfl,hv3,hx3⟩;have HS3:Hid (Sl ay x3 v3 (fj bs ps (k+1))):=hv3;have HB5:=w9bt HB3 hx3;clear hv3 hx3 HWT;go_wp2_with fail;exact⟨⟨k+1,HLT.out,by simp,HS3,HQ,HB5⟩,by have:=HLT.out;simp[aS];omega⟩
  ·obtain rfl:k=len:=by omega
   have HE:Hid (jK g bs ps=true):=Jn fun i hi=>HP.out i (by rw[HL.out]at hi;exact hi);clear hlt;go_wp2_with fail;go_ret;rw[HE.out];exact⟨rfl,by rw[HSZ.out];exact HB.out.trans (HBw.out.mono HWB.out)⟩
end
section
attribute [-simp] isAgg90 zeroValue90
attribute [-go_sem] aE aL
attribute [local go_sem] yP yQ fB
attribute [local go_sem] Oper.semAt_some
theorem KA {w:ah} {v:ak} {l:List SN} (h:ki w v l) (id:Int):
  ap aj 279 #[v,ab ac id] w fun e w'=>e=ao (ab ac (kV l id))/\ag w.heap.size w w':=by
 obtain⟨r,h⟩:=h;have HS:=ae h;obtain⟨a,cap,rfl,h1,h2, -⟩:=h;obtain⟨len,hle⟩:=w9nm l.length;have HL:=ae hle;obtain⟨B,hB⟩:=w9nm w.heap.size;have HSZ:=ae hB;rw[hle]at HS h1 ⊢;refine(callsIn_wide (n:=3)).1 ?_;refine gA func279 rfl trivial ?_ rfl;simp only[ntmps279,cJ,bz,cx,Nat.reduceAdd,Nat.reduceSub,cO,cP,cQ,cR,cy,cC];obtain⟨X,hX⟩:=w9nm ((w.alloc (an #[ab ac id] 3)).alloc (an #[ab ac 0] 3));have hXs:X.heap.size=B+2:=by rw[←hX,←hB];simp
 have hXb:ag B w X:=by rw[←hX,←hB];exact((aI _ w).alloc (aG _) _).alloc (by simp) _
 have k1:aq X B 3 [ab ac id]:=by rw[←hX,←hB];exact(aq.new w _ _).below (aH _ _)
 have k2:aq X (B+1) 3 [ab ac 0]:=by
  rw[←hX,←hB];have:=aq.new (w.alloc (an #[ab ac id] 3)) 3 [ab ac 0]
  rwa [bO]at this
 have SX:=SpX.new 0 (len:Int) (af a len cap) hXb (by omega);rw[hXs]at SX;obtain⟨W0,hW0⟩:=w9nm (((X.alloc (an #[af a len cap] 42)).alloc (an #[ab ac 0] 3)).alloc (an #[ab ac (len:Int)] 3));have hWs:W0.heap.size=B+5:=by rw[←hW0];simp[hXs]
 have bX:ag X.heap.size X W0:=by rw[←hW0];exact(((aI _ X).alloc (aG _) _).alloc (by simp) _).alloc (by simp;omega) _
 rw[hW0]at SX;have k3:=k1.below bX;have k4:=k2.below bX;clear k1 k2 bX hXb h1 h2
 gi_wp2_with (refine⟨trivial, ?_⟩;gi_at_call 274;refine(yX _ _ trivial rfl _ _ _ _ _ _).mono ?_;rintro e w' ⟨rfl,rfl⟩)
 try rw[hX]
 try rw[hW0]
 try rw[hXs]
 clear hX hW0;have HW:=ae hWs;have hm:kW l (len:Int) - mr 0=len:=by rw[←hle,zd,rR];rfl
 have hseq:=yY 2 (by omega) (B+2+1) (B+2+2) (B+2) 0 (len:Int) (af a len cap) r l W0;rw[hm,rR]at hseq;refine oQ (n:=3) rfl (by omega) (gf:= 294) (lb:=#[am (some ⟨B+2+1,0,none⟩),am (some ⟨B+2+2,0,none⟩),am (some ⟨B+2,0,none⟩)]) rfl trivial (enters_of func294 (by kernel_rfl) rfl)
  hseq (aI _ _) (fun _=>rfl)
  (fun k W=>aq W B 3 [ab ac id]/\aq W (B+1) 3 [ab ac 0]/\SpX B (B+2) 0 (len:Int) (af a len cap) w W/\kV l id=mq (l.drop k) id k)
  (fun c k W=>c=.ret/\aq W (B+1) 3 [ab ac (kV l id)]/\ag B w W)
  ?hR ?hI ?hIx ⟨k3,k4,SX,rfl⟩
  (fun k a' W=>∃C q,B+4<C/\r[k]? =some q/\aq W C 90 (cX q)/\a'={tmps:=#[af a len cap,ab ac id,az,am (some ⟨B,0,none⟩),am (some ⟨B+1,0,none⟩),ab ac (k:Int),am (some ⟨C,0,none⟩),af a len cap,af a len cap,ab ac (len:Int),.func (.func 294) #[] #[am (some ⟨B+2+1,0,none⟩),am (some ⟨B+2+2,0,none⟩),am (some ⟨B+2,0,none⟩)],ab ac (k:Int),dZ q,az,az,az,az,az],defers:= []})
  ?hAx ?assign ?body ?done ?stop
 case hR=>
  intro k W ⟨_,_,h3,_⟩;exact h3.spb HSZ.out HS.out
 case hI=>
  intro s Y Z row ⟨g1,g2,g3,g4⟩ hg hr;exact⟨fI g1 hg hr,fI g2 hg hr,g3.own (by omega) hg (by omega) hr,g4⟩
 case hIx=>
  intro c s Y Z row ⟨g1,g2,g3⟩ hg hr;exact⟨g1,fI g2 hg hr,oT g3 (by omega) hg (fun r e=>⟨by have:=(hr r e).1;omega,(hr r e).2⟩)⟩
 case hAx=>
  rintro k a' _ Y Z row ⟨C,q,f1,f2,f3,f4⟩ hg hr;exact⟨C,q,f1,f2,fI f3 hg hr,f4⟩
 case assign=>
  rintro lp k W K hkm ⟨g1,g2,g3,g4⟩ hK;obtain⟨q,s,hq,hs, -⟩:=rO HS.out (k:=k) (by rw[HL.out];exact hkm);have ST:=mS W q;have HZ:Hid (B+4<W.heap.size):=g3.bj.lt;have hK:=hK _ _ (kj (aH W (an (cX q).toArray 90))) ⟨g1.below (aH W _),g2.below (aH W _),g3.alloc (by have:=HZ.out;omega) _,g4⟩ ⟨W.heap.size,q,HZ.out,hq,aq.new W _ _,rfl⟩;rw[yZ 0 (by rw[dP];exact hq),dP];clear g1 g2 g3 g4 hq hs
  gi_wp2
  exact hK
 case body=>
  rintro lp k a' W _ _ hkm ⟨g1,g2,g3,g4⟩ ⟨C,q,hC,hq,hx,rfl⟩;obtain⟨q',s,hq',hs,hqs⟩:=rO HS.out (k:=k) (by rw[HL.out];exact hkm);obtain rfl:q'=q:=by rw[hq]at hq';cases hq';rfl
  have e1:=FR (id:=id) hs;have d1:=hx.cell 0 _ rfl;have d2:=g1.cell 0 _ rfl;have f2:=g2.frozen 0;have d3:=g2.cell 0 _ rfl;have hid:=hqs.id;have G2:=ae g2;have HKF:Hid (∀u,KeepsFrom W0.heap.size W (W.setCell ⟨B+1,0,none⟩ u)):=fun u=>lO g2 (fH W (B+1) 0 u);have G1:=ae g1;have G3:=ae g3;by_cases hc:s.id=id
  ·rw[if_pos hc]at e1;have q1:(q'.1==id)=true:=by rw[hid];simpa using hc
   have E1:Hid (kV l id=(k:Int)):=g4.trans e1;clear hc hid hqs hs hq hq' e1 g1 g2 g3 g4 hx
   gi_wp2
   refine⟨HKF.out _,rfl, ?_,kk G3.out.be (by omega) _ _⟩;rw[E1.out];exact G2.out.set 0 _
  ·rw[if_neg hc]at e1;have q1:(q'.1==id)=false:=by rw[hid];simpa using hc
   have E1:=ae (g4.trans e1);clear hc hid hqs hs hq hq' e1 g1 g2 g3 g4 hx
   gi_wp2
   exact⟨KeepsFrom.refl _ _,G1.out,G2.out,G3.out,E1.out⟩
 case done=>
  rintro D W hD ⟨g1,g2,g3,g4⟩ hK;have E1:Hid (kV l id= -1):=g4.trans (FT (by rw[HL.out];exact aG _));have d3:=g2.cell 0 _ rfl;have f2:=g2.frozen 0;have G2:=ae g2;have G3:=ae g3;have HK:=ae hK;have HKF:Hid (KeepsFrom 0 W (W.setCell ⟨B+1,0,none⟩ (ab ac (-1)))):=lO g2 (fH W (B+1) 0 _);clear g1 g2 g3 g4 hK
  gi_wp2
  have hK2:=HKF.out.same D _ (bc _) HK.out rfl;refine⟨by simp,aA ⟨_,_,rfl,eU hK2, ?_⟩⟩;have hg2:=grownBy_putObj' (W.setCell ⟨B+1,0,none⟩ (ab ac (-1))) D (.deferred none);have hy2:aq _ (B+1) 3 [ab ac (-1)]:=fI (N:=0) (G2.out.set 0 (ab ac (-1))) hg2 (fun r e=>by cases e;exact⟨bc _,_,hK2,rfl⟩);refine⟨_,ev rfl rfl (zb hy2),by rw[E1.out], ?_⟩;rw[HSZ.out];exact(kk G3.out.be (by omega) 0 _).trans (belowK_b (w:=w) (by omega) _ D _ _ (by have:=HW.out;have:=HSZ.out;omega) hK2 rfl rfl)
 case stop=>
  rintro D c k W hD _ ⟨rfl,g2,g3⟩ hK;have G2:=ae g2;have G3:=ae g3;have HK:=ae hK;clear g2 g3 hK
  gi_wp2
  refine⟨by simp,aA ⟨_,_,rfl,eU HK.out, ?_⟩⟩;have hg2:=grownBy_putObj' W D (.deferred none);have hy2:=fI (N:=0) G2.out hg2 (fun r e=>by cases e;exact⟨bc _,_,HK.out,rfl⟩);refine⟨_,ev rfl rfl (zb hy2),rfl, ?_⟩;rw[HSZ.out];exact G3.out.trans (belowK_b (w:=w) (by omega) W D _ _ (by have:=HW.out;have:=HSZ.out;omega) HK.out rfl rfl)
end
section
attribute [-simp] isAgg29 zeroValue29
attribute [-go_sem] aE aL
attribute [local go_sem] nL nM vS Ap
def Geo.In (g:Geo):Prop:=∀n ∈ [g.b,g.s,g.y,g.a,g.r], -9223372036854775808<=n/\n<=9223372036854775807
end
section
attribute [-go_sem] aE aL
attribute [local go_sem] nL nM
section
theorem KB (n lo hi:Int) (w:ah):ap aj 241 #[ab ac n,ab ac lo,ab ac hi] w fun e w'=>e=ao (.bool (decide (lo<=n/\n<=hi)))/\w'=w:=by
 obtain⟨z,hz⟩:=w9nm (decide (lo<=n/\n<=hi));by_cases h1:lo<=n
 ·have g1:decide (lo<=n)=true:=by simpa using h1
  have g1':decide (n≥lo)=true:=g1;have g2:decide (n<=hi)=z:=by rw[←hz];simp[h1]
  rw[hz];clear hz;go_enter func241,ntmps241;go_wp2_with fail;go_ret;first | exact⟨rfl,rfl⟩ | exact⟨by rw[←g2],rfl⟩ | exact⟨by rw[g2],rfl⟩
 ·have g1:decide (lo<=n)=false:=by simpa using h1
  have g1':decide (n≥lo)=false:=g1;have hzz:z=false:=by rw[←hz];simp[h1]
  rw[hz,hzz];clear hz hzz;go_enter func241,ntmps241;go_wp2_with fail;go_ret;exact⟨rfl,rfl⟩
theorem AH (g:Geo) (hs:g.shape) (w:ah):ap aj 196 #[al g.v] w fun e w'=>e=ao (ab ac g.slots)/\ag w.heap.size w w':=by
 obtain⟨b1,b2,b3,b4,b5,b6⟩:=Geo.bounds hs;have HBT:Hid (g.slots=g.s*g.y):=rfl;obtain⟨W,hW⟩:=w9nm (w.alloc (an g.v 23));have r:aq W w.heap.size 23 g.cs:=by rw[←hW];exact aq.new w _ _
 have HB:Hid (ag w.heap.size w W):=by show ag _ _ _;rw[←hW];exact aH w _
 have c1:=r.cell 1 _ rfl;have c2:=r.cell 2 _ rfl;obtain⟨h1,h2,h3,h4,h5,h6,h7,h8⟩:=hs;have m1:1<=g.s*g.y:=b1;have m2:g.s*g.y<=32:=b2;obtain⟨s,hs⟩:=w9nm g.s;obtain⟨y,hy⟩:=w9nm g.y;obtain⟨m,hm⟩:=w9nm (s*y);rw[hs,hy]at m1 m2 HBT;rw[hs]at c1 h3 h4;rw[hy]at c2 h5 h6;rw[hm]at m1 m2 HBT;clear r b1 b2 b3 b4 b5 b6 h7 h8 h1 h2 hs hy;go_enter func196,ntmps196;go_wp2_with fail;go_ret;rw[HBT.out];exact⟨rfl,HB.out⟩
theorem AI (g:Geo) (hs:g.shape) (w:ah):ap aj 208 #[al g.v] w fun e w'=>e=ao (ab ac g.bts)/\ag w.heap.size w w':=by
 have SC:=fun x=>AH g hs x;obtain⟨b1,b2,b3,b4,b5,b6⟩:=Geo.bounds hs;have HBT:Hid (g.bts=10+g.slots+g.b+8*(4+(g.b+7) / 8+g.b)):=rfl;obtain⟨W,hW⟩:=w9nm (w.alloc (an g.v 23));have r:aq W w.heap.size 23 g.cs:=by rw[←hW];exact aq.new w _ _
 have HB:Hid (ag w.heap.size w W):=by show ag _ _ _;rw[←hW];exact aH w _
 obtain⟨B,hB⟩:=w9nm w.heap.size;rw[hB]at r;have LG:∀x:aM W,(aE 23 ⟨B,0,none⟩).run aj x.1=.ok (al g.v) x.1:=fun x=>cG (r.below x.2);obtain⟨h1,h2,h3,h4,h5,h6,h7,h8⟩:=hs;obtain⟨b,hb⟩:=w9nm g.b;obtain⟨m,hm⟩:=w9nm g.slots;obtain⟨k,hk⟩:=w9nm ((b+7).tdiv 8);have c0:∀x:aM W,x.1.cell? ⟨B,0,none⟩=some (ab ac b):=fun x=>by rw[←hb];exact(r.below x.2).cell 0 _ rfl
 have d0:W.cell? ⟨B,0,none⟩=some (ab ac b):=by rw[←hb];exact r.cell 0 _ rfl
 rw[hb]at h1 h2;rw[hb,hm]at HBT;rw[hm]at b1 b2;have C1:Hid (∀x:aM W,ap aj 196 #[al g.v] x.1 fun e w''=>e=ao (ab ac m)/\∃y:aM W,w''=y.1):=fun x=>ny x (by rw[←hm];exact SC x.1);have hk2:(b+7) / 8=k:=by rw[←hk,Int.tdiv_eq_ediv_of_nonneg (by omega)]
 have hk3:1<=k/\k<=8:=by omega
 have HK2:=ae hk2;obtain⟨k1,k2⟩:=hk3;clear r b3 b4 b5 b6 h3 h4 h5 h6 h7 h8 hb hm hk2 SC;go_enter func208,ntmps208;go_wp2_with fail;refine ig (by kernel_rfl) (by kernel_rfl) ?_;repeat(go_big_quiet_step (with_reducible (first | exact C1.out _)))
 refine aV ?_;intro x;have HX:Hid (ag w.heap.size w x.1):=HB.out.trans (x.2.mono HB.out.size);clear LG c0 d0;go_wp2_with fail;go_ret;refine⟨?_,HX.out⟩;rw[HBT.out,HK2.out];first
  | rfl
  | exact congrArg (fun x=>Ending.returned (Value.int ac x)) (by omega)
theorem kG (g:Geo) (hi:g.In) (w:ah):ap aj 166 #[al g.v] w fun e w'=>e=ao (.bool (decide g.good))/\ag w.heap.size w w':=by
 obtain⟨W,hW⟩:=w9nm (w.alloc (an g.v 23));have r:aq W w.heap.size 23 g.cs:=by rw[←hW];exact aq.new w _ _
 have HB:Hid (ag w.heap.size w W):=by show ag _ _ _;rw[←hW];exact aH w _
 obtain⟨B,hB⟩:=w9nm w.heap.size;rw[hB]at r;have LG:∀x:aM W,(aE 23 ⟨B,0,none⟩).run aj x.1=.ok (al g.v) x.1:=fun x=>cG (r.below x.2);have c0:∀x:aM W,x.1.cell? ⟨B,0,none⟩=some (ab ac g.b):=fun x=>(r.below x.2).cell 0 _ rfl;have c1:∀x:aM W,x.1.cell? ⟨B,1,none⟩=some (ab ac g.s):=fun x=>(r.below x.2).cell 1 _ rfl;have c2:∀x:aM W,x.1.cell? ⟨B,2,none⟩=some (ab ac g.y):=fun x=>(r.below x.2).cell 2 _ rfl;have c3:∀x:aM W,x.1.cell? ⟨B,3,none⟩=some (ab ac g.a):=fun x=>(r.below x.2).cell 3 _ rfl;have c4:∀x:aM W,x.1.cell? ⟨B,4,none⟩=some (ab ac g.r):=fun x=>(r.below x.2).cell 4 _ rfl;have CW:∀(n lo hi:Int) (z:Bool),decide (lo<=n/\n<=hi)=z->Hid (∀x:aM W,ap aj 241 #[ab ac n,ab ac lo,ab ac hi] x.1 fun e w''=>e=ao (.bool z)/\∃y:aM W,w''=y.1):=fun n lo hi z hz x=>by
  rw[←hz];exact(KB n lo hi x.1).mono fun e w'' ⟨h1,h2⟩=>⟨h1,x,h2⟩
 obtain⟨z1,e1⟩:=w9nm (decide (1<=g.b/\g.b<=64));obtain⟨z2,e2⟩:=w9nm (decide (1<=g.s/\g.s<=8));obtain⟨z3,e3⟩:=w9nm (decide (1<=g.y/\g.y<=4));obtain⟨z4,e4⟩:=w9nm (decide (0<=g.a/\g.a<=200));have C1:=CW _ _ _ _ e1;have C2:=CW _ _ _ _ e2;have C3:=CW _ _ _ _ e3;have C4:=CW _ _ _ _ e4;by_cases hs:g.shape
 ·obtain⟨b1,b2,b3,b4,b5,b6⟩:=Geo.bounds hs;obtain⟨h1,h2,h3,h4,h5,h6,h7,h8⟩:=hs;obtain rfl:z1=true:=by rw[←e1];exact decide_eq_true ⟨h1,h2⟩
  obtain rfl:z2=true:=by rw[←e2];exact decide_eq_true ⟨h3,h4⟩
  obtain rfl:z3=true:=by rw[←e3];exact decide_eq_true ⟨h5,h6⟩
  obtain rfl:z4=true:=by rw[←e4];exact decide_eq_true ⟨h7,h8⟩
  obtain⟨z5,e5⟩:=w9nm (decide (g.pgs+2<=g.r/\g.r<=256));have C5:=CW _ _ _ _ e5;have C6:Hid (∀x:aM W,ap aj 208 #[al g.v] x.1 fun e w''=>e=ao (ab ac g.bts)/\∃y:aM W,w''=y.1):=fun x=>ny x (AI g ⟨h1,h2,h3,h4,h5,h6,h7,h8⟩ x.1);have C7:Hid (∀x:aM W,ap aj 209 #[ab ac g.bts] x.1 fun e w''=>e=ao (ab ac g.pgs)/\∃y:aM W,w''=y.1):=fun x=>(vE g.bts x.1 (by omega) (by omega)).mono fun e w'' ⟨h1,h2⟩=>⟨h1,x,h2⟩;have hg:Hid (decide g.good=z5):=by
   show _=_;rw[←e5,decide_eq_decide];exact⟨fun h=>h.2,fun h=>⟨⟨h1,h2,h3,h4,h5,h6,h7,h8⟩,h⟩⟩
  obtain⟨P,hP⟩:=w9nm g.pgs;obtain⟨T,hT⟩:=w9nm g.bts;obtain⟨R,hR⟩:=w9nm g.r;rw[hP,hT]at C7;rw[hT]at C6;rw[hP,hR]at C5;rw[hR]at c4;rw[hP]at b5 b6;clear r b1 b2 b3 b4 hP hT hR e1 e2 e3 e4 e5 CW hi h1 h2 h3 h4 h5 h6 h7 h8;go_enter func166,ntmps166;go_wp2_with fail;refine ig (by kernel_rfl) (by kernel_rfl) ?_;repeat(go_big_quiet_step (with_reducible (first | exact C1.out _ | exact C2.out _ | exact C3.out _ | exact C4.out _ | exact C5.out _ | exact C6.out _ | exact C7.out _)))
  refine aV ?_;intro x;have HX:Hid (ag w.heap.size w x.1):=HB.out.trans (x.2.mono HB.out.size);clear LG c0 c1 c2 c3 c4;go_wp2_with fail;go_ret;rw[hg.out];exact⟨rfl,HX.out⟩
 ·have hg:Hid (decide g.good=false):=decide_eq_false (fun h=>hs h.1);have hc:z1=false\/(z1=true/\z2=false)\/(z1=true/\z2=true/\z3=false)\/(z1=true/\z2=true/\z3=true/\z4=false):=by
   cases z1 with
   | false=>exact aA rfl
   | true=>
    cases z2 with
    | false=>exact aD (aA ⟨rfl,rfl⟩)
    | true=>
     cases z3 with
     | false=>exact aD (aD (aA ⟨rfl,rfl,rfl⟩))
     | true=>
      cases z4 with
      | false=>exact aD (aD (aD ⟨rfl,rfl,rfl,rfl⟩))
      | true=>
       have a1:=of_decide_eq_true e1;have a2:=of_decide_eq_true e2;have a3:=of_decide_eq_true e3;have a4:=of_decide_eq_true e4;exact absurd ⟨a1.1,a1.2,a2.1,a2.2,a3.1,a3.2,a4⟩ hs
  clear e1 e2 e3 e4 CW hi hs r;rcases hc with rfl | ⟨rfl,rfl⟩ | ⟨rfl,rfl,rfl⟩ | ⟨rfl,rfl,rfl,rfl⟩;all_goals
   go_enter func166,ntmps166;go_wp2_with fail;refine ig (by kernel_rfl) (by kernel_rfl) ?_;repeat(go_big_quiet_step (with_reducible (first | exact C1.out _ | exact C2.out _ | exact C3.out _ | exact C4.out _)))
   refine aV ?_;intro x;have HX:Hid (ag w.heap.size w x.1):=HB.out.trans (x.2.mono HB.out.size);clear LG c0 c1 c2 c3 c4;go_wp2_with fail;go_ret;rw[hg.out];exact⟨rfl,HX.out⟩
theorem qu (g:Geo) (hi:g.In) (w:ah):ap aj 127 #[al g.v] w fun e w'=>e=ao (ab ac g.oB)/\ag w.heap.size w w':=by
 obtain⟨W,hW⟩:=w9nm (w.alloc (an g.v 23));have r:aq W w.heap.size 23 g.cs:=by rw[←hW];exact aq.new w _ _
 have HB:Hid (ag w.heap.size w W):=by show ag _ _ _;rw[←hW];exact aH w _
 obtain⟨B,hB⟩:=w9nm w.heap.size;rw[hB]at r;have HR:=ae r;have HG:=ae (kG g hi W);have L0:=cG r;clear r hi;by_cases hg:g.good
 ·have HS:=ae (AI g hg.1);have hv:Hid (g.oB=g.bts):=if_pos hg;rw[decide_eq_true hg]at HG;clear hg;go_enter func127,ntmps127;go_wp2_with fail;refine HG.out.mono ?_;rintro e x ⟨rfl,hb⟩;have L1:=cG (HR.out.below hb);have HBX:=w9bt HB hb;clear hb L0;go_wp2_with fail;refine(HS.out _).mono ?_;rintro e y ⟨rfl,hb⟩;have HBY:=w9bt HBX hb;clear hb L1;go_wp2_with fail;go_ret;rw[hv.out];exact⟨rfl,HBY.out⟩
 ·have hv:Hid (g.oB=0):=if_neg hg;rw[decide_eq_false hg]at HG;clear hg;go_enter func127,ntmps127;go_wp2_with fail;refine HG.out.mono ?_;rintro e x ⟨rfl,hb⟩;have HBX:=w9bt HB hb;clear hb L0;go_wp2_with fail;go_ret;rw[hv.out];exact⟨rfl,HBX.out⟩
theorem Geo.oP_cnt (g:Geo):cnt g.oB=g.oP:=by
 unfold Geo.oB Geo.oP;by_cases hg:g.good
 ·rw[if_pos hg,if_pos hg];rfl
 ·rw[if_neg hg,if_neg hg];rfl
theorem Geo.oB_bd (g:Geo):0<=g.oB/\g.oB<=714:=by
 unfold Geo.oB;by_cases hg:g.good
 ·rw[if_pos hg];obtain⟨b1,b2,b3,b4,b5,b6⟩:=Geo.bounds hg.1;omega
 ·rw[if_neg hg];omega
theorem AJ (g:Geo) (hi:g.In) (w:ah):ap aj 195 #[al g.v] w fun e w'=>e=ao (ab ac g.oP)/\ag w.heap.size w w':=by
 obtain⟨W,hW⟩:=w9nm (w.alloc (an g.v 23));have r:aq W w.heap.size 23 g.cs:=by rw[←hW];exact aq.new w _ _
 have HB:Hid (ag w.heap.size w W):=by show ag _ _ _;rw[←hW];exact aH w _
 obtain⟨B,hB⟩:=w9nm w.heap.size;rw[hB]at r;have L0:=cG r;have HG:=ae (qu g hi W);have HV:=ae g.oP_cnt;have hbd:=g.oB_bd;clear r hi;go_enter func195,ntmps195;go_wp2_with fail;refine HG.out.mono ?_;rintro e x ⟨rfl,hb⟩;have HBX:=w9bt HB hb;clear hb L0;go_wp2_with fail;refine(vE _ _ (by omega) (by omega)).mono ?_;rintro e y ⟨rfl,hy⟩;obtain rfl:=hy.symm;rw[HV.out];clear hy hbd;go_wp2_with fail;go_ret;exact⟨rfl,HBX.out⟩
end
end
section
attribute [-simp] isAgg90 zeroValue90 isAgg191 zeroValue191 isAgg47 zeroValue47
attribute [-go_sem] aE aL
attribute [local go_sem] iQ iR fB eJ en
theorem KJ {w:ah} {q:PS} {l:List SN} {ps:List (Int×Int)} (g:SG) (hg:g.Ok) (r:Int) (h:StIs w q l ps) (hK:jd 1000 l) (hp:ps.length<=1000) (hl:eu l (g.b:Int) (g.a:Int)=true):
  ap aj 246 #[al (g.v r),bI q] w fun e w'=>e=ao (.bool (iP g ⟨[],l,q.nx,q.kd,q.id,ps⟩))/\ag w.heap.size w w':=by
 have hmx:=w9x
 obtain⟨⟨qd,qdn,qdc⟩,⟨qs,qsn,qsc⟩,nx,kd,id,⟨qp,qpn,qpc⟩⟩:=q;have HPI:Hid (iP g ⟨[],l,nx,kd,id,ps⟩=vN g ⟨[],l,nx,kd,id,ps⟩):=(Jq hg (s:=⟨[],l,nx,kd,id,ps⟩) hl).symm;simp only[bI,aW,aK];have hsn:=h.sn;have hpr:=h.pr;simp only[aK]at hsn hpr;obtain⟨B,hB⟩:=w9nm w.heap.size;obtain⟨W1,hW1⟩:=w9nm (w.alloc (an (g.v r) 23));obtain⟨W2,hW2⟩:=w9nm (W1.alloc (an #[af qd qdn qdc,af qs qsn qsc,ab ac nx,ab ac kd,ab ac id,af qp qpn qpc] 47));obtain⟨W3,hW3⟩:=w9nm (W2.alloc (an #[ab ac kd,ab ac id,af qp qpn qpc] 45));have s1:W1.heap.size=B+1:=by rw[←hW1,←hB];simp
 have s2:W2.heap.size=B+2:=by rw[←hW2,bO,s1]
 have s3:W3.heap.size=B+3:=by rw[←hW3,bO,s2]
 have r1:aq W1 B 23 [ab ac (g.b:Int),ab ac (g.s:Int),ab ac (g.y:Int),ab ac (g.a:Int),ab ac r]:=by rw[←hW1,←hB];exact aq.new _ _ _
 have r2:aq W2 (B+1) 47 [af qd qdn qdc,af qs qsn qsc,ab ac nx,ab ac kd,ab ac id,af qp qpn qpc]:=by rw[←hW2,←s1];exact aq.new _ _ _
 have r3:aq W3 (B+2) 45 [ab ac kd,ab ac id,af qp qpn qpc]:=by rw[←hW3,←s2];exact aq.new _ _ _
 have b1:ag B w W1:=by rw[←hW1,←hB];exact aH _ _
 have b2:ag W1.heap.size W1 W2:=by rw[←hW2];exact aH _ _
 have b3:ag W2.heap.size W2 W3:=by rw[←hW3];exact aH _ _
 have b12:ag B w W2:=b1.trans (b2.mono (by omega));have b13:ag B w W3:=b12.trans (b3.mono (by omega));have HBF:Hid (∀x:ah,ag W3.heap.size W3 x->ag B w x):=fun x hx=>b13.trans (hx.mono (by omega));have q0:∀z:aM W3,z.1.cell? ⟨B,0,none⟩=some (ab ac (g.b:Int)):=fun z=>(((r1.below b2).below b3).below z.2).cell 0 _ rfl;have q1:∀z:aM W3,z.1.cell? ⟨B,1,none⟩=some (ab ac (g.s:Int)):=fun z=>(((r1.below b2).below b3).below z.2).cell 1 _ rfl;have q2:∀z:aM W3,z.1.cell? ⟨B,2,none⟩=some (ab ac (g.y:Int)):=fun z=>(((r1.below b2).below b3).below z.2).cell 2 _ rfl;have q3:∀z:aM W3,z.1.cell? ⟨B,3,none⟩=some (ab ac (g.a:Int)):=fun z=>(((r1.below b2).below b3).below z.2).cell 3 _ rfl;have q4:∀z:aM W3,z.1.cell? ⟨B,4,none⟩=some (ab ac r):=fun z=>(((r1.below b2).below b3).below z.2).cell 4 _ rfl;have p1:∀z:aM W3,z.1.cell? ⟨B+1,1,none⟩=some (af qs qsn qsc):=fun z=>((r2.below b3).below z.2).cell 1 _ rfl;have p2:∀z:aM W3,z.1.cell? ⟨B+1,2,none⟩=some (ab ac nx):=fun z=>((r2.below b3).below z.2).cell 2 _ rfl;have m1:∀z:aM W3,z.1.cell? ⟨B+2,1,none⟩=some (ab ac id):=fun z=>(r3.below z.2).cell 1 _ rfl;have m2:∀z:aM W3,z.1.cell? ⟨B+2,2,none⟩=some (af qp qpn qpc):=fun z=>(r3.below z.2).cell 2 _ rfl;have k0:=r3.cell 0 _ rfl;have k1:=r3.cell 1 _ rfl;have k2:=r3.cell 2 _ rfl;have e3:=r2.cell 3 _ rfl;have e4:=r2.cell 4 _ rfl;have e5:=r2.cell 5 _ rfl;have KSn:Hid (∀x:ah,ag W3.heap.size W3 x->ki x (af qs qsn qsc) l):=fun x hx=>hsn.below (by show ag _ _ _;rw[hB];exact HBF.out x hx);have KPr:Hid (∀x:ah,ag W3.heap.size W3 x->fU x (af qp qpn qpc) ps):=fun x hx=>hpr.below (by show ag _ _ _;rw[hB];exact HBF.out x hx);have HKL:=ae hK;have HPN:Hid (qpn=ps.length):=by obtain⟨a',c',e, -⟩:=hpr;cases e;rfl
 have HSN:Hid (qsn=l.length):=by obtain⟨r',a',c',e, -⟩:=hsn;cases e;rfl
 have hqp:qpn<=1000:=by rw[HPN.out];exact hp
 have hqs:qsn<=1000:=by rw[HSN.out];exact hK.1
 have HSZ:=ae hB;have ha:=hg.a200;have hbb:=hg.b64;have HGO:=ae hg;have HI:Hid (∀x:ah,ag W3.heap.size W3 x->ap aj 279 #[af qs qsn qsc,ab ac id] x fun e w'=>e=ao (ab ac (kV l id))/\ag x.heap.size x w'):=fun x hx=>KA (KSn.out x hx) id;have HRI:Hid (∀x:ah,ag W3.heap.size W3 x->ap aj 280 #[af qp qpn qpc,ab ac (g.b:Int)] x fun e w'=>e=ao (.bool (jn g.b ps))/\ag x.heap.size x w'):=fun x hx=>Kv (KPr.out x hx) hp g.b hg.b1 hg.b64;have HHD:Hid (∀x:ah,ag W3.heap.size W3 x->ap aj 282 #[al #[ab ac (g.b:Int),ab ac (g.s:Int),ab ac (g.y:Int),ab ac (g.a:Int),ab ac r],af qs qsn qsc] x fun e w'=>∃u,e=ao u/\Sl ay w' u (fN g l)/\ag x.heap.size x w'):=fun x hx=>Ky g HGO.out r (KSn.out x hx) HKL.out;have HCO:Hid (∀x:ah,ag W3.heap.size W3 x->ap aj 283 #[af qs qsn qsc] x fun e w'=>e=ao (.bool (mC l))/\ag x.heap.size x w'):=fun x hx=>Kw (KSn.out x hx) HKL.out;have HAH:Hid (∀(x:ah) (u:ak),ag W3.heap.size W3 x->Sl ay x u (fN g l)->ap aj 281 #[af qp qpn qpc,u] x fun e w'=>e=ao (.bool (ln (fN g l) ps))/\ag x.heap.size x w'):=fun x u hx hu=>Kx (KPr.out x hx) hp hu (zY g l);have HAA:Hid (∀(x:ah) (u:ak),ag W3.heap.size W3 x->Sl ay x u (fN g l)->ap aj 284 #[al #[ab ac (g.b:Int),ab ac (g.s:Int),ab ac (g.y:Int),ab ac (g.a:Int),ab ac r],af qp qpn qpc,u] x fun e w'=>e=ao (.bool (jK g (fN g l) ps))/\ag x.heap.size x w'):=fun x u hx hu=>Kz g HGO.out r (KPr.out x hx) hp hu (zY g l) (by rw[zX];have:=AG HGO.out;omega);have HWI:Hid (∀x:ah,ap aj 272 #[ab ac id,ab ac nx,ab ac 1000000] x fun e w'=>e=ao (.bool (decide (nx<=id/\id<=1000000)))/\w'=x):=fun x=>qn id nx 1000000 x;have K0:Hid (ag W3.heap.size W3 W3.drew):=(aI _ W3).drew;rw[hB];clear h hsn hpr hK hp r1 r2 r3 b1 b2 b3 b12 b13 hl hg;unfold SG.v at *;by_cases d0:kd=0
 ·subst d0;have HF:Hid (ag B w W3):=HBF.out _ (aI _ _);have E0:Hid (iP g ⟨[],l,nx,0,id,ps⟩=((id==0)&&((qpn:Int)==0))):=by
   show _=_;rw[HPN.out];unfold iP;by_cases h:ps.length=0<;>simp[h]
  clear q0 q1 q2 q3 q4 p1 p2 m1 m2;by_cases d1:id=0
  ·subst d1;go_enter func246,ntmps246;go_wp2_with fail;go_ret;rw[E0.out];exact⟨rfl,HF.out⟩
  ·have g1:(id==0)=false:=by simpa using d1
   rw[g1]at E0;clear d1;go_enter func246,ntmps246;go_wp2_with fail;go_ret;rw[E0.out];exact⟨rfl,HF.out⟩
 ·have g0:(kd==0)=false:=by simpa using d0
  by_cases d1:kd=1
  ·subst d1;have E0:Hid (iP g ⟨[],l,nx,1,id,ps⟩=(decide (0<=kV l id)&&(jn g.b ps&&ln (fN g l) ps))):=HPI.out;clear d0 HPI;obtain⟨i0,hi0⟩:=w9nm (kV l id);obtain⟨v1,hv1⟩:=w9nm (decide (0<=i0));obtain⟨v2,hv2⟩:=w9nm (jn g.b ps);obtain⟨v3,hv3⟩:=w9nm (ln (fN g l) ps);rw[hi0]at E0 HI;rw[hv1,hv2,hv3]at E0;rw[hv2]at HRI;rw[hv3]at HAH;clear hi0 hv2 hv3;cases v1 with
   | false=>
    go_enter func246,ntmps246;go_wp2_with fail;refine du (fun x=>∃y:aM W3,x=y.1) 21 (.takes [0,1,2,3] (.one 4 (.takes [5,6,7,8,9,10] (.one 11 (.takes [12,13,14,15,16,17,18] (.one 19 (.one 20 .leaf))))))) hmx (by kernel_rfl) (by intro c x v a w h;cases x<;>exact h) ⟨⟨W3.drew,(aI _ W3).drew⟩,rfl⟩ ?_;repeat(rw[bu];simp only[aB,aC];go_big_quiet_step (fail);try(with_reducible refine aV ?_))
    rw[bt];rw[aT];simp only[aB,aC];go_wp2_with fail;go_at_call 279;refine(HI.out _ (K0.out)).mono ?_;rintro e y1 ⟨rfl,hb1⟩;have K1:w9h W3 y1:=(K0.out).trans (hb1.mono (K0.out).size);clear hb1;go_wp2_with fail;refine aN ⟨⟨y1,K1.out⟩,rfl⟩ ?_;repeat(rw[bu];simp only[aB,aC];go_big_quiet_step (fail);try(with_reducible refine aV ?_))
    rw[bt];rw[aT];simp only[aB,aC];go_wp2_with fail;refine aN ⟨⟨y1,K1.out⟩,rfl⟩ ?_;repeat(rw[bu];simp only[aB,aC];go_big_quiet_step (fail);try(with_reducible refine aV ?_))
    rw[bt];rw[aT];simp only[aB,aC];go_wp2_with fail;refine aN ⟨⟨y1,K1.out⟩,rfl⟩ ?_;rw[aT];simp only[aB,aC];go_wp2_with fail;refine aN ⟨⟨y1,K1.out⟩,rfl⟩ ?_;rw[cW];simp only[bR,bQ];have HF:Hid (ag B w y1):=HBF.out _ (K1.out);clear q0 q1 q2 q3 q4 p1 p2 m1 m2;go_wp2_with fail;go_ret;rw[E0.out];exact⟨rfl,HF.out⟩
   | true=>
    cases v2 with
    | false=>
     go_enter func246,ntmps246;go_wp2_with fail;refine du (fun x=>∃y:aM W3,x=y.1) 21 (.takes [0,1,2,3] (.one 4 (.takes [5,6,7,8,9,10] (.one 11 (.takes [12,13,14,15,16,17,18] (.one 19 (.one 20 .leaf))))))) hmx (by kernel_rfl) (by intro c x v a w h;cases x<;>exact h) ⟨⟨W3.drew,(aI _ W3).drew⟩,rfl⟩ ?_;repeat(rw[bu];simp only[aB,aC];go_big_quiet_step (fail);try(with_reducible refine aV ?_))
     rw[bt];rw[aT];simp only[aB,aC];go_wp2_with fail;go_at_call 279;refine(HI.out _ (K0.out)).mono ?_;rintro e y1 ⟨rfl,hb1⟩;have K1:w9h W3 y1:=(K0.out).trans (hb1.mono (K0.out).size);clear hb1;go_wp2_with fail;refine aN ⟨⟨y1,K1.out⟩,rfl⟩ ?_;repeat(rw[bu];simp only[aB,aC];go_big_quiet_step (fail);try(with_reducible refine aV ?_))
     rw[bt];rw[aT];simp only[aB,aC];go_wp2_with fail;go_at_call 280;refine(HRI.out _ (K1.out)).mono ?_;rintro e y2 ⟨rfl,hb2⟩;have K2:w9h W3 y2:=(K1.out).trans (hb2.mono (K1.out).size);clear hb2;go_wp2_with fail;refine aN ⟨⟨y2,K2.out⟩,rfl⟩ ?_;repeat(rw[bu];simp only[aB,aC];go_big_quiet_step (fail);try(with_reducible refine aV ?_))
     rw[bt];rw[aT];simp only[aB,aC];go_wp2_with fail;refine aN ⟨⟨y2,K2.out⟩,rfl⟩ ?_;rw[aT];simp only[aB,aC];go_wp2_with fail;refine aN ⟨⟨y2,K2.out⟩,rfl⟩ ?_;rw[cW];simp only[bR,bQ];have HF:Hid (ag B w y2):=HBF.out _ (K2.out);clear q0 q1 q2 q3 q4 p1 p2 m1 m2;go_wp2_with fail;go_ret;rw[E0.out];exact⟨rfl,HF.out⟩
    | true=>
     go_enter func246,ntmps246;go_wp2_with fail;refine du (fun x=>∃y:aM W3,x=y.1) 21 (.takes [0,1,2,3] (.one 4 (.takes [5,6,7,8,9,10] (.one 11 (.takes [12,13,14,15,16,17,18] (.one 19 (.one 20 .leaf))))))) hmx (by kernel_rfl) (by intro c x v a w h;cases x<;>exact h) ⟨⟨W3.drew,(aI _ W3).drew⟩,rfl⟩ ?_;repeat(rw[bu];simp only[aB,aC];go_big_quiet_step (fail);try(with_reducible refine aV ?_))
     rw[bt];rw[aT];simp only[aB,aC];go_wp2_with fail;go_at_call 279;refine(HI.out _ (K0.out)).mono ?_;rintro e y1 ⟨rfl,hb1⟩;have K1:w9h W3 y1:=(K0.out).trans (hb1.mono (K0.out).size);clear hb1;go_wp2_with fail;refine aN ⟨⟨y1,K1.out⟩,rfl⟩ ?_;repeat(rw[bu];simp only[aB,aC];go_big_quiet_step (fail);try(with_reducible refine aV ?_))
     rw[bt];rw[aT];simp only[aB,aC];go_wp2_with fail;go_at_call 280;refine(HRI.out _ (K1.out)).mono ?_;rintro e y2 ⟨rfl,hb2⟩;have K2:w9h W3 y2:=(K1.out).trans (hb2.mono (K1.out).size);clear hb2;go_wp2_with fail;refine aN ⟨⟨y2,K2.out⟩,rfl⟩ ?_;repeat(rw[bu];simp only[aB,aC];go_big_quiet_step (fail);try(with_reducible refine aV ?_))
     rw[bt];rw[aT];simp only[aB,aC];go_wp2_with fail;go_at_call 282;refine(HHD.out _ (K2.out)).mono ?_;rintro e y3 ⟨u,rfl,hu,hb3⟩;have HU:=ae hu;have K3:w9h W3 y3:=(K2.out).trans (hb3.mono (K2.out).size);clear hu hb3;go_wp2_with fail;refine aN ⟨⟨y3,K3.out⟩,rfl⟩ ?_;rw[aT];simp only[aB,aC];go_wp2_with fail;go_at_call 281;refine(HAH.out _ _ (K3.out) HU.out).mono ?_;rintro e y4 ⟨rfl,hb4⟩;have K4:w9h W3 y4:=(K3.out).trans (hb4.mono (K3.out).size);clear hb4;go_wp2_with fail;refine aN ⟨⟨y4,K4.out⟩,rfl⟩ ?_;rw[cW];simp only[bR,bQ];have HF:Hid (ag B w y4):=HBF.out _ (K4.out);clear q0 q1 q2 q3 q4 p1 p2 m1 m2;go_wp2_with fail;go_ret;rw[E0.out];exact⟨rfl,HF.out⟩
  ·have g1:(kd==1)=false:=by simpa using d1
   by_cases d2:kd=2
   ·subst d2;have E0:Hid (iP g ⟨[],l,nx,2,id,ps⟩=(decide (qsn<8)&&(mC l&&(decide (nx<=id/\id<=1000000)&&(jn g.b ps&&jK g (fN g l) ps))))):=by show _=_;rw[HPI.out,HSN.out];rfl
    clear d0 HPI;obtain⟨v0,hv0⟩:=w9nm (decide (qsn<8));obtain⟨v1,hv1⟩:=w9nm (mC l);obtain⟨v2,hv2⟩:=w9nm (decide (nx<=id/\id<=1000000));obtain⟨v3,hv3⟩:=w9nm (jn g.b ps);obtain⟨v4,hv4⟩:=w9nm (jK g (fN g l) ps);have g3:decide ((qsn:Int)<8)=v0:=by rw[←hv0,iY];simp;omega
    rw[hv0,hv1,hv2,hv3,hv4]at E0;rw[hv1]at HCO;rw[hv2]at HWI;rw[hv3]at HRI;rw[hv4]at HAA;clear hv1 hv2 hv3 hv4 d1;cases v0 with
    | false=>
     go_enter func246,ntmps246;go_wp2_with fail;refine du (fun x=>∃y:aM W3,x=y.1) 32 (.takes [0,1,2,3,4,5,6] (.one 7 (.takes [8,9,10,11,12,13] (.one 14 (.takes [15,16,17,18,19,20] (.one 21 (.takes [22,23,24,25,26,27,28,29] (.one 30 (.one 31 .leaf))))))))) hmx (by kernel_rfl) (by intro c x v a w h;cases x<;>exact h) ⟨⟨W3.drew,(aI _ W3).drew⟩,rfl⟩ ?_;repeat(rw[bu];simp only[aB,aC];go_big_quiet_step (fail);try(with_reducible refine aV ?_))
     rw[bt];rw[aT];simp only[aB,aC];go_wp2_with fail;refine aN ⟨⟨W3.drew,K0.out⟩,rfl⟩ ?_;repeat(rw[bu];simp only[aB,aC];go_big_quiet_step (fail);try(with_reducible refine aV ?_))
     rw[bt];rw[aT];simp only[aB,aC];go_wp2_with fail;refine aN ⟨⟨W3.drew,K0.out⟩,rfl⟩ ?_;repeat(rw[bu];simp only[aB,aC];go_big_quiet_step (fail);try(with_reducible refine aV ?_))
     rw[bt];rw[aT];simp only[aB,aC];go_wp2_with fail;refine aN ⟨⟨W3.drew,K0.out⟩,rfl⟩ ?_;repeat(rw[bu];simp only[aB,aC];go_big_quiet_step (fail);try(with_reducible refine aV ?_))
     rw[bt];rw[aT];simp only[aB,aC];go_wp2_with fail;refine aN ⟨⟨W3.drew,K0.out⟩,rfl⟩ ?_;rw[aT];simp only[aB,aC];go_wp2_with fail;refine aN ⟨⟨W3.drew,K0.out⟩,rfl⟩ ?_;rw[cW];simp only[bR,bQ];have HF:Hid (ag B w W3.drew):=HBF.out _ (K0.out);clear q0 q1 q2 q3 q4 p1 p2 m1 m2;go_wp2_with fail;go_ret;rw[E0.out];exact⟨rfl,HF.out⟩
    | true=>
     cases v1 with
     | false=>
      go_enter func246,ntmps246;go_wp2_with fail;refine du (fun x=>∃y:aM W3,x=y.1) 32 (.takes [0,1,2,3,4,5,6] (.one 7 (.takes [8,9,10,11,12,13] (.one 14 (.takes [15,16,17,18,19,20] (.one 21 (.takes [22,23,24,25,26,27,28,29] (.one 30 (.one 31 .leaf))))))))) hmx (by kernel_rfl) (by intro c x v a w h;cases x<;>exact h) ⟨⟨W3.drew,(aI _ W3).drew⟩,rfl⟩ ?_;repeat(rw[bu];simp only[aB,aC];go_big_quiet_step (fail);try(with_reducible refine aV ?_))
      rw[bt];rw[aT];simp only[aB,aC];go_wp2_with fail;go_at_call 283;refine(HCO.out _ (K0.out)).mono ?_;rintro e y1 ⟨rfl,hb1⟩;have K1:w9h W3 y1:=(K0.out).trans (hb1.mono (K0.out).size);clear hb1;go_wp2_with fail;refine aN ⟨⟨y1,K1.out⟩,rfl⟩ ?_;repeat(rw[bu];simp only[aB,aC];go_big_quiet_step (fail);try(with_reducible refine aV ?_))
      rw[bt];rw[aT];simp only[aB,aC];go_wp2_with fail;refine aN ⟨⟨y1,K1.out⟩,rfl⟩ ?_;repeat(rw[bu];simp only[aB,aC];go_big_quiet_step (fail);try(with_reducible refine aV ?_))
      rw[bt];rw[aT];simp only[aB,aC];go_wp2_with fail;refine aN ⟨⟨y1,K1.out⟩,rfl⟩ ?_;repeat(rw[bu];simp only[aB,aC];go_big_quiet_step (fail);try(with_reducible refine aV ?_))
      rw[bt];rw[aT];simp only[aB,aC];go_wp2_with fail;refine aN ⟨⟨y1,K1.out⟩,rfl⟩ ?_;rw[aT];simp only[aB,aC];go_wp2_with fail;refine aN ⟨⟨y1,K1.out⟩,rfl⟩ ?_;rw[cW];simp only[bR,bQ];have HF:Hid (ag B w y1):=HBF.out _ (K1.out);clear q0 q1 q2 q3 q4 p1 p2 m1 m2;go_wp2_with fail;go_ret;rw[E0.out];exact⟨rfl,HF.out⟩
     | true=>
      cases v2 with
      | false=>
       go_enter func246,ntmps246;go_wp2_with fail;refine du (fun x=>∃y:aM W3,x=y.1) 32 (.takes [0,1,2,3,4,5,6] (.one 7 (.takes [8,9,10,11,12,13] (.one 14 (.takes [15,16,17,18,19,20] (.one 21 (.takes [22,23,24,25,26,27,28,29] (.one 30 (.one 31 .leaf))))))))) hmx (by kernel_rfl) (by intro c x v a w h;cases x<;>exact h) ⟨⟨W3.drew,(aI _ W3).drew⟩,rfl⟩ ?_;repeat(rw[bu];simp only[aB,aC];go_big_quiet_step (fail);try(with_reducible refine aV ?_))
       rw[bt];rw[aT];simp only[aB,aC];go_wp2_with fail;go_at_call 283;refine(HCO.out _ (K0.out)).mono ?_;rintro e y1 ⟨rfl,hb1⟩;have K1:w9h W3 y1:=(K0.out).trans (hb1.mono (K0.out).size);clear hb1;go_wp2_with fail;refine aN ⟨⟨y1,K1.out⟩,rfl⟩ ?_;repeat(rw[bu];simp only[aB,aC];go_big_quiet_step (fail);try(with_reducible refine aV ?_))
       rw[bt];rw[aT];simp only[aB,aC];go_wp2_with fail;go_at_call 272;refine(HWI.out _).mono ?_;rintro e y2 ⟨rfl,rfl⟩;go_wp2_with fail;refine aN ⟨⟨y2,K1.out⟩,rfl⟩ ?_;repeat(rw[bu];simp only[aB,aC];go_big_quiet_step (fail);try(with_reducible refine aV ?_))
       rw[bt];rw[aT];simp only[aB,aC];go_wp2_with fail;refine aN ⟨⟨y2,K1.out⟩,rfl⟩ ?_;repeat(rw[bu];simp only[aB,aC];go_big_quiet_step (fail);try(with_reducible refine aV ?_))
       rw[bt];rw[aT];simp only[aB,aC];go_wp2_with fail;refine aN ⟨⟨y2,K1.out⟩,rfl⟩ ?_;rw[aT];simp only[aB,aC];go_wp2_with fail;refine aN ⟨⟨y2,K1.out⟩,rfl⟩ ?_;rw[cW];simp only[bR,bQ];have HF:Hid (ag B w y2):=HBF.out _ (K1.out);clear q0 q1 q2 q3 q4 p1 p2 m1 m2;go_wp2_with fail;go_ret;rw[E0.out];exact⟨rfl,HF.out⟩
      | true=>
       cases v3 with
       | false=>
        go_enter func246,ntmps246;go_wp2_with fail;refine du (fun x=>∃y:aM W3,x=y.1) 32 (.takes [0,1,2,3,4,5,6] (.one 7 (.takes [8,9,10,11,12,13] (.one 14 (.takes [15,16,17,18,19,20] (.one 21 (.takes [22,23,24,25,26,27,28,29] (.one 30 (.one 31 .leaf))))))))) hmx (by kernel_rfl) (by intro c x v a w h;cases x<;>exact h) ⟨⟨W3.drew,(aI _ W3).drew⟩,rfl⟩ ?_;repeat(rw[bu];simp only[aB,aC];go_big_quiet_step (fail);try(with_reducible refine aV ?_))
        rw[bt];rw[aT];simp only[aB,aC];go_wp2_with fail;go_at_call 283;refine(HCO.out _ (K0.out)).mono ?_;rintro e y1 ⟨rfl,hb1⟩;have K1:w9h W3 y1:=(K0.out).trans (hb1.mono (K0.out).size);clear hb1;go_wp2_with fail;refine aN ⟨⟨y1,K1.out⟩,rfl⟩ ?_;repeat(rw[bu];simp only[aB,aC];go_big_quiet_step (fail);try(with_reducible refine aV ?_))
        rw[bt];rw[aT];simp only[aB,aC];go_wp2_with fail;go_at_call 272;refine(HWI.out _).mono ?_;rintro e y2 ⟨rfl,rfl⟩;go_wp2_with fail;refine aN ⟨⟨y2,K1.out⟩,rfl⟩ ?_;repeat(rw[bu];simp only[aB,aC];go_big_quiet_step (fail);try(with_reducible refine aV ?_))
        rw[bt];rw[aT];simp only[aB,aC];go_wp2_with fail;go_at_call 280;refine(HRI.out _ (K1.out)).mono ?_;rintro e y3 ⟨rfl,hb3⟩;have K3:w9h W3 y3:=(K1.out).trans (hb3.mono (K1.out).size);clear hb3;go_wp2_with fail;refine aN ⟨⟨y3,K3.out⟩,rfl⟩ ?_;repeat(rw[bu];simp only[aB,aC];go_big_quiet_step (fail);try(with_reducible refine aV ?_))
        rw[bt];rw[aT];simp only[aB,aC];go_wp2_with fail;refine aN ⟨⟨y3,K3.out⟩,rfl⟩ ?_;rw[aT];simp only[aB,aC];go_wp2_with fail;refine aN ⟨⟨y3,K3.out⟩,rfl⟩ ?_;rw[cW];simp only[bR,bQ];have HF:Hid (ag B w y3):=HBF.out _ (K3.out);clear q0 q1 q2 q3 q4 p1 p2 m1 m2;go_wp2_with fail;go_ret;rw[E0.out];exact⟨rfl,HF.out⟩
       | true=>
        go_enter func246,ntmps246;go_wp2_with fail;refine du (fun x=>∃y:aM W3,x=y.1) 32 (.takes [0,1,2,3,4,5,6] (.one 7 (.takes [8,9,10,11,12,13] (.one 14 (.takes [15,16,17,18,19,20] (.one 21 (.takes [22,23,24,25,26,27,28,29] (.one 30 (.one 31 .leaf))))))))) hmx (by kernel_rfl) (by intro c x v a w h;cases x<;>exact h) ⟨⟨W3.drew,(aI _ W3).drew⟩,rfl⟩ ?_;repeat(rw[bu];simp only[aB,aC];go_big_quiet_step (fail);try(with_reducible refine aV ?_))
        rw[bt];rw[aT];simp only[aB,aC];go_wp2_with fail;go_at_call 283;refine(HCO.out _ (K0.out)).mono ?_;rintro e y1 ⟨rfl,hb1⟩;have K1:w9h W3 y1:=(K0.out).trans (hb1.mono (K0.out).size);clear hb1;go_wp2_with fail;refine aN ⟨⟨y1,K1.out⟩,rfl⟩ ?_;repeat(rw[bu];simp only[aB,aC];go_big_quiet_step (fail);try(with_reducible refine aV ?_))
        rw[bt];rw[aT];simp only[aB,aC];go_wp2_with fail;go_at_call 272;refine(HWI.out _).mono ?_;rintro e y2 ⟨rfl,rfl⟩;go_wp2_with fail;refine aN ⟨⟨y2,K1.out⟩,rfl⟩ ?_;repeat(rw[bu];simp only[aB,aC];go_big_quiet_step (fail);try(with_reducible refine aV ?_))
        rw[bt];rw[aT];simp only[aB,aC];go_wp2_with fail;go_at_call 280;refine(HRI.out _ (K1.out)).mono ?_;rintro e y3 ⟨rfl,hb3⟩;have K3:w9h W3 y3:=(K1.out).trans (hb3.mono (K1.out).size);clear hb3;go_wp2_with fail;refine aN ⟨⟨y3,K3.out⟩,rfl⟩ ?_;repeat(rw[bu];simp only[aB,aC];go_big_quiet_step (fail);try(with_reducible refine aV ?_))
        rw[bt];rw[aT];simp only[aB,aC];go_wp2_with fail;go_at_call 282;refine(HHD.out _ (K3.out)).mono ?_;rintro e y4 ⟨u,rfl,hu,hb4⟩;have HU:=ae hu;have K4:w9h W3 y4:=(K3.out).trans (hb4.mono (K3.out).size);clear hu hb4;go_wp2_with fail;refine aN ⟨⟨y4,K4.out⟩,rfl⟩ ?_;rw[aT];simp only[aB,aC];go_wp2_with fail;go_at_call 284;refine(HAA.out _ _ (K4.out) HU.out).mono ?_;rintro e y5 ⟨rfl,hb5⟩;have K5:w9h W3 y5:=(K4.out).trans (hb5.mono (K4.out).size);clear hb5;go_wp2_with fail;refine aN ⟨⟨y5,K5.out⟩,rfl⟩ ?_;rw[cW];simp only[bR,bQ];have HF:Hid (ag B w y5):=HBF.out _ (K5.out);clear q0 q1 q2 q3 q4 p1 p2 m1 m2;go_wp2_with fail;go_ret;rw[E0.out];exact⟨rfl,HF.out⟩
   ·have g2:(kd==2)=false:=by simpa using d2
    have HF:Hid (ag B w W3):=HBF.out _ (aI _ _);have E0:Hid (iP g ⟨[],l,nx,kd,id,ps⟩=false):=by
     show _=_;unfold iP;simp only;rw[if_neg d0,if_neg d1,if_neg d2]
    clear q0 q1 q2 q3 q4 p1 p2 m1 m2 d0 d1 d2;go_enter func246,ntmps246;go_wp2_with fail;go_ret;rw[E0.out];exact⟨rfl,HF.out⟩
theorem KL {w:ah} {q:PS} (G:Geo) (hi:G.In) (hb:¬G.good):
  ap aj 172 #[al G.v,bI q] w fun e w'=>e=ao (.bool false)/\ag w.heap.size w w':=by
 obtain⟨⟨qd,qdn,qdc⟩,⟨qs,qsn,qsc⟩,nx,kd,id,⟨qp,qpn,qpc⟩⟩:=q;simp only[bI,aW,aK];obtain⟨gb,gs,gy,ga,gr⟩:=G;have HG:Hid (∀x:ah,ap aj 166 #[al (Geo.v ⟨gb,gs,gy,ga,gr⟩)] x fun e w'=>e=ao (.bool false)/\ag x.heap.size x w'):=fun x=>
  (kG ⟨gb,gs,gy,ga,gr⟩ hi x).mono fun e y hy=>⟨by rw[hy.1,decide_eq_false hb],hy.2⟩
 clear hb hi;unfold Geo.v at *;simp only at *;obtain⟨B,hB⟩:=w9nm w.heap.size;obtain⟨W1,hW1⟩:=w9nm (w.alloc (an #[ab ac gb,ab ac gs,ab ac gy,ab ac ga,ab ac gr] 23));obtain⟨W2,hW2⟩:=w9nm (W1.alloc (an #[af qd qdn qdc,af qs qsn qsc,ab ac nx,ab ac kd,ab ac id,af qp qpn qpc] 47));have s1:W1.heap.size=B+1:=by rw[←hW1,←hB];simp
 have r1:aq W1 B 23 [ab ac gb,ab ac gs,ab ac gy,ab ac ga,ab ac gr]:=by rw[←hW1,←hB];exact aq.new _ _ _
 have b1:ag B w W1:=by rw[←hW1,←hB];exact aH _ _
 have b2:ag W1.heap.size W1 W2:=by rw[←hW2];exact aH _ _
 have HB:Hid (ag B w W2):=b1.trans (b2.mono (by omega));have t1:=r1.below b2;have k0:=t1.cell 0 _ rfl;have k1:=t1.cell 1 _ rfl;have k2:=t1.cell 2 _ rfl;have k3:=t1.cell 3 _ rfl;have k4:=t1.cell 4 _ rfl;have HS2:Hid (B<=W2.heap.size):=by show B<=_;rw[←hB];exact HB.out.size
 have HSZ:=ae hB;clear r1 b1 b2 t1;go_enter func172,ntmps172;go_wp2_with fail;refine(HG.out W2).mono ?_;rintro e y ⟨rfl,hy⟩;have HY:Hid (ag B w y):=HB.out.trans (hy.mono HS2.out);clear hy;go_wp2_with fail;go_ret;exact⟨rfl,by rw[HSZ.out];exact HY.out⟩
theorem KM {w:ah} {q:PS} {d:List Int} {l:List SN} {ps:List (Int×Int)} (g:SG) (hg:g.Ok) (r:Int) (hi:(g.geo r).In) (hr:(g.geo r).good) (hd:Sl ac w (aK q.d) d) (hd6:∀x ∈ d,fG x) (h:StIs w q l ps) (hK:jd 1000 l) (hp:ps.length<=1000):
  ap aj 172 #[al (g.v r),bI q] w fun e w'=>e=ao (.bool (fE g ⟨d,l,q.nx,q.kd,q.id,ps⟩))/\ag w.heap.size w w':=by
 have HQ:=ae h;have HD0:=ae hd;have HPL:Hid (eu l (g.b:Int) (g.a:Int)=true->∀x:ah,ag w.heap.size w x->ap aj 246 #[al (g.v r),bI q] x fun e w'=>e=ao (.bool (iP g ⟨[],l,q.nx,q.kd,q.id,ps⟩))/\ag x.heap.size x w'):=fun hc x hx=>KJ g hg r (HQ.out.below hx) hK hp hc;have HDY:Hid (∀x:ah,ag w.heap.size w x->ap aj 243 #[al (g.v r),aK q.d] x fun e w'=>e=ao (.bool (fV g d))/\ag x.heap.size x w'):=fun x hx=>Jr g hg r (HD0.out.below hx) hd6;have HCG:Hid (∀x:ah,ag w.heap.size w x->ap aj 244 #[aK q.sn,ab ac (g.b:Int),ab ac (g.a:Int)] x fun e w'=>e=ao (.bool (eu l (g.b:Int) (g.a:Int)))/\ag x.heap.size x w'):=fun x hx=>Ke (HQ.out.sn.below hx) hK (g.b:Int) (g.a:Int);have HNX:Hid (∀x:ah,ag w.heap.size w x->ap aj 245 #[bI q] x fun e w'=>e=ao (.bool (l.all (fun t=>decide (t.id<q.nx))&&decide (1<=q.nx/\q.nx<=1000001)))/\ag x.heap.size x w'):=fun x hx=>Ku (HQ.out.sn.below hx) hK.1;have HGD:Hid (∀x:ah,ap aj 166 #[al (g.v r)] x fun e w'=>e=ao (.bool true)/\ag x.heap.size x w'):=fun x=>(kG (g.geo r) hi x).mono fun e y hy=>⟨by rw[hy.1,decide_eq_true hr],hy.2⟩;have E0:Hid (fE g ⟨d,l,q.nx,q.kd,q.id,ps⟩=(fV g d&&(eu l (g.b:Int) (g.a:Int)&&((l.all (fun t=>decide (t.id<q.nx))&&decide (1<=q.nx/\q.nx<=1000001))&&iP g ⟨[],l,q.nx,q.kd,q.id,ps⟩)))):=by
  show(fV g d&&eu l (g.b:Int) (g.a:Int)&&decide (1<=q.nx)&&decide (q.nx<=1000001)&&l.all (fun t=>decide (t.id<q.nx))&&iP g ⟨[],l,q.nx,q.kd,q.id,ps⟩)=_;rw[iY];simp only[cm,decide_eq_true_eq];constructor
  ·rintro⟨⟨⟨⟨⟨a,b⟩,c⟩,d⟩,e⟩,f⟩;exact⟨a,b,⟨e,c,d⟩,f⟩
  ·rintro⟨a,b,⟨e,c,d⟩,f⟩;exact⟨⟨⟨⟨⟨a,b⟩,c⟩,d⟩,e⟩,f⟩
 obtain⟨⟨qd,qdn,qdc⟩,⟨qs,qsn,qsc⟩,nx,kd,id,⟨qp,qpn,qpc⟩⟩:=q;simp only[bI,aW,aK]at *;obtain⟨B,hB⟩:=w9nm w.heap.size;obtain⟨W1,hW1⟩:=w9nm (w.alloc (an (g.v r) 23));obtain⟨W2,hW2⟩:=w9nm (W1.alloc (an #[af qd qdn qdc,af qs qsn qsc,ab ac nx,ab ac kd,ab ac id,af qp qpn qpc] 47));have s1:W1.heap.size=B+1:=by rw[←hW1,←hB];simp
 have r1:aq W1 B 23 [ab ac (g.b:Int),ab ac (g.s:Int),ab ac (g.y:Int),ab ac (g.a:Int),ab ac r]:=by rw[←hW1,←hB];exact aq.new _ _ _
 have r2:aq W2 (B+1) 47 (aW ⟨(qd,qdn,qdc),(qs,qsn,qsc),nx,kd,id,(qp,qpn,qpc)⟩):=by rw[←hW2,←s1];exact aq.new _ _ _
 have b1:ag B w W1:=by rw[←hW1,←hB];exact aH _ _
 have b2:ag W1.heap.size W1 W2:=by rw[←hW2];exact aH _ _
 have hBF:ag B w W2:=b1.trans (b2.mono (by omega));have HBs:B<=W2.heap.size:=by rw[←hB];exact hBF.size
 have HBF:Hid (∀x:ah,ag W2.heap.size W2 x->ag B w x):=fun x hx=>hBF.trans (hx.mono HBs);have KR:Hid (∀x:ah,ag W2.heap.size W2 x->x.cell? ⟨B,0,none⟩=some (ab ac (g.b:Int))/\x.cell? ⟨B,1,none⟩=some (ab ac (g.s:Int))/\x.cell? ⟨B,2,none⟩=some (ab ac (g.y:Int))/\x.cell? ⟨B,3,none⟩=some (ab ac (g.a:Int))/\x.cell? ⟨B,4,none⟩=some (ab ac r)/\
   x.cell? ⟨B+1,0,none⟩=some (af qd qdn qdc)/\x.cell? ⟨B+1,1,none⟩=some (af qs qsn qsc)/\x.cell? ⟨B+1,2,none⟩=some (ab ac nx)):=fun x hx=>by
  have t1:=(r1.below b2).below hx;have t2:=r2.below hx;exact⟨t1.cell 0 _ rfl,t1.cell 1 _ rfl,t1.cell 2 _ rfl,t1.cell 3 _ rfl,t1.cell 4 _ rfl,t2.cell 0 _ rfl,t2.cell 1 _ rfl,t2.cell 2 _ rfl⟩
 have KLS:Hid (∀x:ah,ag W2.heap.size W2 x->(aE 47 ⟨B+1,0,none⟩).run aj x=.ok (al #[af qd qdn qdc,af qs qsn qsc,ab ac nx,ab ac kd,ab ac id,af qp qpn qpc]) x):=fun x hx=>fg (r2.below hx);have HSZ:=ae hB;obtain⟨v1,hv1⟩:=w9nm (fV g d);obtain⟨v2,hv2⟩:=w9nm (eu l (g.b:Int) (g.a:Int));obtain⟨v3,hv3⟩:=w9nm ((l.all (fun t=>decide (t.id<nx))&&decide (1<=nx/\nx<=1000001)));obtain⟨v4,hv4⟩:=w9nm (iP g ⟨[],l,nx,kd,id,ps⟩);rw[hv1]at HDY;rw[hv2]at HCG HPL;rw[hv3]at HNX;rw[hv4]at HPL;rw[hv1,hv2,hv3,hv4]at E0;rw[hB]at HPL HDY HCG HNX ⊢;clear h hK hp r1 r2 b1 b2 hBF hd hd6 hr HBs hv1 hv2 hv3 hv4 hi;unfold SG.v at *;obtain⟨k0,k1,k2,k3,k4,k5,k6,k7⟩:=KR.out W2 (aI _ _);go_enter func172,ntmps172;go_wp2_with fail;refine(HGD.out W2).mono ?_;rintro e x1 ⟨rfl,hx1⟩;have HB1:=ae hx1;clear hx1 k0 k1 k2 k3 k4 k5 k6 k7;obtain⟨k0,k1,k2,k3,k4,k5,k6,k7⟩:=KR.out x1 HB1.out;go_wp2_with fail;refine(HDY.out x1 (HBF.out _ HB1.out)).mono ?_;rintro e x2 ⟨rfl,hx2⟩;have HB2:=w9bt HB1 hx2;clear hx2 k0 k1 k2 k3 k4 k5 k6 k7;cases v1 with
 | false=>
  have HGO:Hid (ag B w x2):=HBF.out _ HB2.out;go_wp2_with fail;go_ret;rw[E0.out];exact⟨rfl,HGO.out⟩
 | true=>
  obtain⟨k0,k1,k2,k3,k4,k5,k6,k7⟩:=KR.out x2 HB2.out;go_wp2_with fail;refine(HCG.out x2 (HBF.out _ HB2.out)).mono ?_;rintro e x3 ⟨rfl,hx3⟩;have HB3:=w9bt HB2 hx3;clear hx3 k0 k1 k2 k3 k4 k5 k6 k7;cases v2 with
  | false=>
   have HGO:Hid (ag B w x3):=HBF.out _ HB3.out;go_wp2_with fail;go_ret;rw[E0.out];exact⟨rfl,HGO.out⟩
  | true=>
   obtain⟨k0,k1,k2,k3,k4,k5,k6,k7⟩:=KR.out x3 HB3.out;have kl:=KLS.out x3 HB3.out;go_wp2_with fail;refine(HNX.out x3 (HBF.out _ HB3.out)).mono ?_;rintro e x4 ⟨rfl,hx4⟩;have HB4:=w9bt HB3 hx4;clear hx4 k0 k1 k2 k3 k4 k5 k6 k7 kl;cases v3 with
   | false=>
    have HGO:Hid (ag B w x4):=HBF.out _ HB4.out;go_wp2_with fail;go_ret;rw[E0.out];exact⟨rfl,HGO.out⟩
   | true=>
    obtain⟨k0,k1,k2,k3,k4,k5,k6,k7⟩:=KR.out x4 HB4.out;have kl:=KLS.out x4 HB4.out;go_wp2_with fail;refine(HPL.out (by first | rfl | trivial) x4 (HBF.out _ HB4.out)).mono ?_;rintro e x5 ⟨rfl,hx5⟩;have HB5:=w9bt HB4 hx5;clear hx5 k0 k1 k2 k3 k4 k5 k6 k7 kl;have HGO:Hid (ag B w x5):=HBF.out _ HB5.out;go_wp2_with fail;go_ret;rw[E0.out];exact⟨rfl,HGO.out⟩
end
section
attribute [-simp] isAgg90 zeroValue90 isAgg191 zeroValue191 isAgg47 zeroValue47
attribute [-go_sem] aE aL
attribute [local go_sem] iQ iR fB eJ en nD uW Ak
theorem KO {w:ah} {q:PS} (G:Geo) (hi:G.In) (hb:¬G.good):
  ap aj 83 #[al G.v,bI q] w fun e w'=>e=ao (aQ #[af none 0 0,ab ac 11])/\ag w.heap.size w w':=by
 have HG:Hid (∀x:ah,ap aj 172 #[al G.v,bI q] x fun e w'=>e=ao (.bool false)/\ag x.heap.size x w'):=fun x=>KL G hi hb;obtain⟨⟨qd,qdn,qdc⟩,⟨qs,qsn,qsc⟩,nx,kd,id,⟨qp,qpn,qpc⟩⟩:=q;simp only[bI,aW,aK]at *;obtain⟨gb,gs,gy,ga,gr⟩:=G;clear hb hi;unfold Geo.v at *;simp only at *;obtain⟨B,hB⟩:=w9nm w.heap.size;obtain⟨W1,hW1⟩:=w9nm (w.alloc (an #[ab ac gb,ab ac gs,ab ac gy,ab ac ga,ab ac gr] 23));obtain⟨W2,hW2⟩:=w9nm (W1.alloc (an #[af qd qdn qdc,af qs qsn qsc,ab ac nx,ab ac kd,ab ac id,af qp qpn qpc] 47));have s1:W1.heap.size=B+1:=by rw[←hW1,←hB];simp
 have r1:aq W1 B 23 [ab ac gb,ab ac gs,ab ac gy,ab ac ga,ab ac gr]:=by rw[←hW1,←hB];exact aq.new _ _ _
 have r2:aq W2 (B+1) 47 (aW ⟨(qd,qdn,qdc),(qs,qsn,qsc),nx,kd,id,(qp,qpn,qpc)⟩):=by rw[←hW2,←s1];exact aq.new _ _ _
 have b1:ag B w W1:=by rw[←hW1,←hB];exact aH _ _
 have b2:ag W1.heap.size W1 W2:=by rw[←hW2];exact aH _ _
 have HB:Hid (ag B w W2):=b1.trans (b2.mono (by omega));have t1:=r1.below b2;have k0:=t1.cell 0 _ rfl;have k1:=t1.cell 1 _ rfl;have k2:=t1.cell 2 _ rfl;have k3:=t1.cell 3 _ rfl;have k4:=t1.cell 4 _ rfl;have LS:=fg r2;simp only[bI,aW,aK]at LS;have HS2:Hid (B<=W2.heap.size):=by show B<=_;rw[←hB];exact HB.out.size
 have HSZ:=ae hB;clear r1 b1 b2 t1 r2;go_enter func83,ntmps83;go_wp2_with fail;refine(HG.out W2).mono ?_;rintro e y ⟨rfl,hy⟩;have HY:Hid (ag B w y):=HB.out.trans (hy.mono HS2.out);clear hy LS k0 k1 k2 k3 k4;go_wp2_with fail;refine bo (results_tmp2 rfl _ _ _) rfl ?_;exact⟨rfl,by rw[HSZ.out];exact HY.out⟩
theorem AK {x x4:ah} {v1 v2 v3 v4:ak} {b1 b2 b3 b4:List Int} (hx:x.alloc (an #[v1,v2,v3,v4] 76)=x4) (h1:Sl ay x v1 b1) (h2:Sl ay x v2 b2) (h3:Sl ay x v3 b3) (h4:Sl ay x v4 b4):
  ph x4 (af (some ⟨x.heap.size,0,none⟩) 4 4) [b1,b2,b3,b4]:=by
 have r4:x4.heap[x.heap.size]? =some (an #[v1,v2,v3,v4] 76 (0,0)):=by rw[←hx];exact cD x _
 have b:ag x.heap.size x x4:=by rw[←hx];exact aH _ _
 refine⟨x.heap.size,4,rfl,aG _,by unfold aY;omega,by rw[←hx];simp,fun k hk=> ?_⟩;have hk':k<4:=hk
 match k,hk' with
 | 0,_=>exact⟨_,dq _ _ 0 _ _ _ r4,h1.below b⟩
 | 1,_=>exact⟨_,dq _ _ 1 _ _ _ r4,h2.below b⟩
 | 2,_=>exact⟨_,dq _ _ 2 _ _ _ r4,h3.below b⟩
 | 3,_=>exact⟨_,dq _ _ 3 _ _ _ r4,h4.below b⟩
theorem AL {x:ah} {v:ak} {bs:List Int} (h:Sl ay x v bs):∃a c,v=af a bs.length c:=by obtain⟨a,c,e, -⟩:=h;exact⟨a,c,e⟩
theorem AM {w:ah} {q:PS} {d:List Int} {l:List SN} {ps:List (Int×Int)} (g:SG) (hg:g.Ok) (r:Int) (hi:(g.geo r).In) (hr:(g.geo r).good) (hd:Sl ac w (aK q.d) d) (hd6:∀x ∈ d,fG x) (h:StIs w q l ps) (hK:jd 1000 l) (hp:ps.length<=1000):
  ap aj 83 #[al (g.v r),bI q] w fun e w'=>∃u c,e=ao (aQ #[u,ab ac c])/\Al g ⟨d,l,q.nx,q.kd,q.id,ps⟩ w.heap.size w' u c/\ag w.heap.size w w':=by
 have hmx:=w9x
 have HQ:=ae h;have HD0:=ae hd;have HGD:Hid (∀x:ah,ag w.heap.size w x->ap aj 172 #[al (g.v r),bI q] x fun e w'=>e=ao (.bool (fE g ⟨d,l,q.nx,q.kd,q.id,ps⟩))/\ag x.heap.size x w'):=fun x hx=>KM g hg r hi hr (HD0.out.below hx) hd6 (HQ.out.below hx) hK hp;have HGK:=ae hg;have HPLC:Hid (∀(x:ah) (u:ak) (pl:List (Int×Int)),fU x u pl->pl.length<=1000->PrIn g pl->ap aj 177 #[u,ab ac (g.b:Int)] x fun e w'=>∃u',e=ao u'/\w'.ownsRow x.heap.size 5 1 u' g.b ((eA g.b pl).map (Value.int ay))/\ag x.heap.size x w'):=fun x u pl h1 h2 h3=>Kt h1 h2 g.b HGK.out.b64 h3.asc h3.plOk;obtain⟨⟨qd,qdn,qdc⟩,⟨qs,qsn,qsc⟩,nx,kd,id,⟨qp,qpn,qpc⟩⟩:=q;have hsn:=h.sn;simp only[bI,aW,aK]at *;obtain⟨B,hB⟩:=w9nm w.heap.size;obtain⟨W1,hW1⟩:=w9nm (w.alloc (an (g.v r) 23));obtain⟨W2,hW2⟩:=w9nm (W1.alloc (an #[af qd qdn qdc,af qs qsn qsc,ab ac nx,ab ac kd,ab ac id,af qp qpn qpc] 47));have s1:W1.heap.size=B+1:=by rw[←hW1,←hB];simp
 have r1:aq W1 B 23 [ab ac (g.b:Int),ab ac (g.s:Int),ab ac (g.y:Int),ab ac (g.a:Int),ab ac r]:=by rw[←hW1,←hB];exact aq.new _ _ _
 have r2:aq W2 (B+1) 47 (aW ⟨(qd,qdn,qdc),(qs,qsn,qsc),nx,kd,id,(qp,qpn,qpc)⟩):=by rw[←hW2,←s1];exact aq.new _ _ _
 have b1:ag B w W1:=by rw[←hW1,←hB];exact aH _ _
 have b2:ag W1.heap.size W1 W2:=by rw[←hW2];exact aH _ _
 have hBF:ag B w W2:=b1.trans (b2.mono (by omega));have HBs:B<=W2.heap.size:=by rw[←hB];exact hBF.size
 have HBF:Hid (∀x:ah,ag W2.heap.size W2 x->ag B w x):=fun x hx=>hBF.trans (hx.mono HBs);have HBs2:=ae HBs;have KR:Hid (∀x:ah,ag W2.heap.size W2 x->x.cell? ⟨B,0,none⟩=some (ab ac (g.b:Int))/\x.cell? ⟨B,1,none⟩=some (ab ac (g.s:Int))/\x.cell? ⟨B,2,none⟩=some (ab ac (g.y:Int))/\x.cell? ⟨B,3,none⟩=some (ab ac (g.a:Int))/\x.cell? ⟨B,4,none⟩=some (ab ac r)/\
   x.cell? ⟨B+1,0,none⟩=some (af qd qdn qdc)/\x.cell? ⟨B+1,1,none⟩=some (af qs qsn qsc)/\x.cell? ⟨B+1,2,none⟩=some (ab ac nx)/\x.cell? ⟨B+1,3,none⟩=some (ab ac kd)/\x.cell? ⟨B+1,4,none⟩=some (ab ac id)/\x.cell? ⟨B+1,5,none⟩=some (af qp qpn qpc)):=fun x hx=>by
  have t1:=(r1.below b2).below hx;have t2:=r2.below hx;exact⟨t1.cell 0 _ rfl,t1.cell 1 _ rfl,t1.cell 2 _ rfl,t1.cell 3 _ rfl,t1.cell 4 _ rfl,t2.cell 0 _ rfl,t2.cell 1 _ rfl,t2.cell 2 _ rfl,t2.cell 3 _ rfl,t2.cell 4 _ rfl,t2.cell 5 _ rfl⟩
 have KLS:Hid (∀x:ah,ag W2.heap.size W2 x->(aE 47 ⟨B+1,0,none⟩).run aj x=.ok (al #[af qd qdn qdc,af qs qsn qsc,ab ac nx,ab ac kd,ab ac id,af qp qpn qpc]) x):=fun x hx=>fg (r2.below hx);have KSn:Hid (∀x:ah,ag W2.heap.size W2 x->ki x (af qs qsn qsc) l):=fun x hx=>hsn.below (by show ag _ _ _;rw[hB];exact HBF.out x hx);have HSN:Hid (qsn=l.length):=by obtain⟨r',a',c',e, -⟩:=hsn;cases e;rfl
 have hqs:qsn<=1000:=by rw[HSN.out];exact hK.1
 have KPr:Hid (∀x:ah,ag W2.heap.size W2 x->fU x (af qp qpn qpc) ps):=fun x hx=>HQ.out.pr.below (by show ag _ _ _;rw[hB];exact HBF.out x hx);obtain⟨hqdn,hqdm,hdc⟩:=hd.cellI;have HDN:=ae hqdn;have HDC:Hid (0<qdn->∃b o,qd=some ⟨b,o,none⟩/\∀x:ah,ag W2.heap.size W2 x->∀j,j<qdn->x.cell? ⟨b,o+j,none⟩=some (ab ac (d[j]?.getD 0))):=fun h0=>by
  obtain⟨b,o,e,h⟩:=hdc h0;exact⟨b,o,e,fun x hx j hj=>h x (by rw[hB];exact HBF.out x hx) j hj⟩
 have HKL:=ae hK;have HPLn:=ae hp;have HSZ:=ae hB;rw[hB]at HGD ⊢;clear h hsn hK hp r1 r2 b1 b2 hBF hd hr HBs hdc hqdn hqdm hg hi hd6;unfold SG.v at *;obtain⟨v1,hv1⟩:=w9nm (fE g ⟨d,l,nx,kd,id,ps⟩);have HV1:=ae hv1;rw[hv1]at HGD;clear hv1;obtain⟨k0,k1,k2,k3,k4,k5,k6,k7,k8,k9,k10⟩:=KR.out W2 (aI _ _);have LS:=KLS.out W2 (aI _ _);go_enter func83,ntmps83;go_wp2_with fail;refine(HGD.out W2 (HBF.out _ (aI _ _))).mono ?_;rintro e x1 ⟨rfl,hx1⟩;have HB1:=ae hx1;have HGO:Hid (ag B w x1):=HBF.out _ HB1.out;clear hx1 k0 k1 k2 k3 k4 k5 k6 k7 k8 k9 k10 LS;cases v1 with
 | false=>
  go_wp2_with fail;refine bo (results_tmp2 rfl _ _ _) rfl ?_;exact⟨_,_,rfl,⟨fun h=>absurd h (by rw[HV1.out];decide),fun _=>⟨rfl,rfl⟩⟩,HGO.out⟩
 | true=>
  have HIn:=ae (pj HGK.out HV1.out);have hkd:=Ai HV1.out;have hn0:=HIn.out.nx0;have hn1:=HIn.out.nx1;have hi0:=HIn.out.id0;have hi1:=HIn.out.id1;have hsl:qsn<=8:=by rw[HSN.out];exact HIn.out.sl
  simp only at hkd hn0 hn1 hi0 hi1;obtain⟨kd0,kd1⟩:=hkd;have HPut:Hid (∀(x:ah) (n:Int),0<=n->n<=1000001->ap aj 174 #[ab .u64 n,ab ac 4] x fun e w'=>∃v,e=ao v/\w'.ownsRow x.heap.size 5 1 v 4 ((aJ n 4).map (Value.int ay))/\ag x.heap.size x w'):=fun x n h0 h1=>nI n 4 x (by omega) (by omega) h0 (by omega);have HPut1:Hid (∀(x:ah) (n:Int),0<=n->n<256->ap aj 174 #[ab .u64 n,ab ac 1] x fun e w'=>∃v,e=ao v/\w'.ownsRow x.heap.size 5 1 v 1 ((aJ n 1).map (Value.int ay))/\ag x.heap.size x w'):=fun x n h0 h1=>nI n 1 x (by omega) (by omega) h0 (by omega);have d0:∀y:aM W2,y.1.cell? ⟨B+1,2,none⟩=some (ab ac nx):=fun y=>(KR.out y.1 y.2).2.2.2.2.2.2.2.1;have d1:∀y:aM W2,y.1.cell? ⟨B+1,1,none⟩=some (af qs qsn qsc):=fun y=>(KR.out y.1 y.2).2.2.2.2.2.2.1;have d2:∀y:aM W2,y.1.cell? ⟨B+1,3,none⟩=some (ab ac kd):=fun y=>(KR.out y.1 y.2).2.2.2.2.2.2.2.2.1;have d3:∀y:aM W2,y.1.cell? ⟨B+1,4,none⟩=some (ab ac id):=fun y=>(KR.out y.1 y.2).2.2.2.2.2.2.2.2.2.1;have HBd:Hid (ag W2.heap.size W2 x1.drew):=HB1.out.drew;have HN0:=ae hn0;have HN1:=ae hn1;have HI0:=ae hi0;have HI1:=ae hi1;have HK0:Hid (0<=kd/\kd<256):=⟨kd0,by omega⟩;have HSL8:=ae hsl;clear hqs;go_wp2_with fail;refine du (fun x=>∃y:aM W2,x=y.1) 21 (.takes [0,1,2,4,5,6,7,9,10,11,12,14,15,16,17] (.one 3 (.one 8 (.one 13 (.one 18 (.one 19 (.one 20 .leaf))))))) hmx (by kernel_rfl) (by intro c x v a w h;cases x<;>exact h) ⟨⟨x1.drew,HBd.out⟩,rfl⟩ ?_;repeat(rw[bu];simp only[aB,aC];go_big_quiet_step (fail);refine aV ?_)
  rw[bt];clear d0 d1 d2 d3 hn0 hn1 hi0 hi1 kd0 kd1;rw[aT];simp only[aB,aC];go_wp2_with fail;go_at_call 174;refine(HPut.out x1.drew nx HN0.out HN1.out).mono ?_;rintro e x2 ⟨v2,rfl,hrow,hb⟩;have K2:=w9bt HBd hb;have hs:=Sl.of_owns (bs:=aJ nx 4) (by rw[cu];exact hrow);obtain⟨a2,n2,hv, -⟩:=(show Sl _ _ _ _ from hs);rw[cu]at hv;subst hv;have S2:=ae hs;clear hrow hb hs;go_wp2_with fail;refine aN ⟨⟨x2,K2.out⟩,rfl⟩ ?_;rw[aT];simp only[aB,aC];go_wp2_with fail;go_at_call 174;refine(HPut1.out x2 (qsn:Int) (by omega) (by have:=HSL8.out;omega)).mono ?_;rintro e x3 ⟨v3,rfl,hrow,hb⟩;have K3:=w9bt K2 hb;have S2:=ae (S2.out.below hb);have hs:=Sl.of_owns (bs:=aJ (qsn:Int) 1) (by rw[cu];exact hrow);obtain⟨a3,n3,hv, -⟩:=(show Sl _ _ _ _ from hs);rw[cu]at hv;subst hv;have S3:=ae hs;clear hrow hb hs;go_wp2_with fail;refine aN ⟨⟨x3,K3.out⟩,rfl⟩ ?_;rw[aT];simp only[aB,aC];go_wp2_with fail;go_at_call 174;refine(HPut1.out x3 kd HK0.out.1 HK0.out.2).mono ?_;rintro e x4 ⟨v4,rfl,hrow,hb⟩;have K4:=w9bt K3 hb;have S2:=ae (S2.out.below hb);have S3:=ae (S3.out.below hb);have hs:=Sl.of_owns (bs:=aJ kd 1) (by rw[cu];exact hrow);obtain⟨a4,n4,hv, -⟩:=(show Sl _ _ _ _ from hs);rw[cu]at hv;subst hv;have S4:=ae hs;clear hrow hb hs;go_wp2_with fail;refine aN ⟨⟨x4,K4.out⟩,rfl⟩ ?_;rw[aT];simp only[aB,aC];go_wp2_with fail;go_at_call 174;refine(HPut.out x4 id HI0.out (by have:=HI1.out;omega)).mono ?_;rintro e x5 ⟨v5,rfl,hrow,hb⟩;have K5:=w9bt K4 hb;have S2:=ae (S2.out.below hb);have S3:=ae (S3.out.below hb);have S4:=ae (S4.out.below hb);have hs:=Sl.of_owns (bs:=aJ id 4) (by rw[cu];exact hrow);obtain⟨a5,n5,hv, -⟩:=(show Sl _ _ _ _ from hs);rw[cu]at hv;subst hv;have S5:=ae hs;clear hrow hb hs;go_wp2_with fail;refine aN ⟨⟨x5,K5.out⟩,rfl⟩ ?_;rw[aT];simp only[aB,aC];obtain⟨x6,hx6⟩:=w9nm (x5.alloc (an #[af a2 4 n2,af a3 1 n3,af a4 1 n4,af a5 4 n5] 76));have K6:w9h W2 x6:=K5.out.trans (by rw[←hx6];exact(aH x5 _).mono K5.out.size);have BS:(dh 332 4 #[(0,af a2 4 n2),(1,af a3 1 n3),(2,af a4 1 n4),(3,af a5 4 n5)]).run aj x5=.ok (af (some ⟨x5.heap.size,0,none⟩) 4 4) x6:=by rw[←hx6];exact vB x5 a2 a3 a4 a5 4 1 1 4 n2 n3 n4 n5
  have SS:Hid (ph x6 (af (some ⟨x5.heap.size,0,none⟩) 4 4) [aJ nx 4,aJ (qsn:Int) 1,aJ kd 1,aJ id 4]):=AK hx6 S2.out S3.out S4.out S5.out;clear hx6 S2 S3 S4 S5;refine dR _ _ _ rfl rfl _ _ rfl BS ?_;clear BS;go_wp2_with fail;refine aN ⟨⟨x6,K6.out⟩,rfl⟩ ?_;rw[aT];simp only[aB,aC];go_wp2_with fail;go_at_call 173;obtain⟨H,hH⟩:=w9nm (aJ nx 4++ [(qsn:Int),kd]++aJ id 4);have HH:=ae hH;have hHl:Hid (H.length=10):=by show _=_;rw[←hH];simp[cu]
  have hfl: [aJ nx 4,aJ (qsn:Int) 1,aJ kd 1,aJ id 4].flatten=H:=by
   rw[←hH,vC (n:=(qsn:Int)) (by omega) (by have:=HSL8.out;omega),vC HK0.out.1 HK0.out.2];simp
  have hcc:=sD _ _ x6 SS.out (by rw[hfl,hHl.out];omega);rw[hfl]at hcc;refine hcc.mono ?_;clear hcc hfl hH SS;rintro e x7 ⟨v7,rfl,hrow,hb⟩;have K7:=w9bt K6 hb;have O7:Hid (fM W2 x7 v7 H):=Ag hrow K6.out.size;clear hrow hb K2 K3 K4 K5 HBd HN0 HN1 HI0 HI1;go_wp2_with fail;refine aN ⟨⟨x7,K7.out⟩,rfl⟩ ?_;rw[cW];simp only[bR,bQ];have HDR:=ae (Ah HGK.out (by have:=HV1.out;unfold fE at this;simp only[cm]at this;exact this.1.1.1.1.1));have hqd:qdn<=32:=by
   have h1:=HIn.out.dl;have h2:g.slots<=32:=by
    have e1:=HGK.out.s8;have e2:=HGK.out.y4;have:g.s*g.y<=8*4:=kP e1 e2;exact this
   have h3:=HDN.out;simp only at h1;omega
  obtain⟨k0,k1,k2,k3,k4,k5,k6,k7,k8,k9,k10⟩:=KR.out x7 K7.out;go_wp2_with fail;clear k0 k1 k2 k3 k4 k5 k6 k7 k8 k9 k10;go_loopw [6,39] (fun bv iv wr=>∃k:Nat,k<=qdn/\iv=ab ac (k:Int)/\Hid (fM W2 wr bv (H++(d.take k).map (·+1)))/\w9h W2 wr) (fun _ iv _=>qdn - (aS iv).toNat)
  case atStart=>exact⟨0,bc _,rfl,by rw[List.take_zero,List.map_nil,List.append_nil];exact O7,K7⟩
  case round=>
   clear O7 K7 K6;obtain⟨k,hk,rfl,HO,HB3⟩:=hrel;by_cases hlt:k<qdn
   ·have q1:(k:Int)< (qdn:Int):=by omega
    have HLT:=ae hlt;obtain⟨x,hx⟩:∃x,d[k]? =some x:=⟨_,aZ (by rw[←HDN.out];exact hlt)⟩;obtain⟨r0,r1⟩:=HDR.out x (dp hx);obtain⟨db,dof,rfl,hcc⟩:=HDC.out (by omega);have c1:=hcc _ HB3.out k hlt;rw[hx]at c1;simp only[Option.getD_some]at c1;have HCD:Hid (ap aj 175 #[ab ac x] wr fun e w'=>e=ao (ab ay (x+1))/\w'=wr):=by
     have:=Ac x (by omega) (by omega) (by omega) wr;have e:fK x=x+1:=by unfold fK;rw[if_neg (by omega)]
     rw[e]at this;exact this
    have S3:=Am wr (x+1);have b3:=aH wr (an #[ab ay (x+1)] 5);obtain⟨x3,hx3⟩:=w9nm (wr.alloc (an #[ab ay (x+1)] 5));rw[hx3]at S3 b3;have K3:=w9bt HB3 b3;obtain⟨v8,x4,R8,O8,K8⟩:=(HO.out.below b3).app K3.out S3 (by have:=hHl.out;rw[cE,this,dV,dj];simp;omega);have O9:Hid (fM W2 x4 v8 (H++(d.take (k+1)).map (·+1))):=by
     have:=O8.out;rw[kb]at this;show fM _ _ _ _;rw[je hx,ec];exact this
    clear hx hcc S3 b3 O8 hlt K3;go_wp2_with fail;refine HCD.out.mono ?_;rintro e y2 ⟨rfl,rfl⟩;go_wp2_with (at_builtin;refine wpList_append_run (.tmp 43) (.tmp 46) 76 rfl rfl _ _ _ rfl rfl R8.out ?_);exact⟨⟨k+1,HLT.out,by simp,O9,K8⟩,by have:=HLT.out;simp[aS];omega⟩
   ·obtain rfl:k=qdn:=by omega
    have O9:Hid (fM W2 wr u6 (H++d.map (·+1))):=by
     have:=HO.out;rw[de (by rw[HDN.out];exact aG _)]at this;exact this
    clear hlt HO;go_wp2_with fail;obtain⟨H2,hH2⟩:=w9nm (H++d.map (·+1));have HH2:=ae hH2;have HL2:Hid (H2.length<=42):=by
     show _<=_;rw[←hH2,cE,hHl.out,dV,←HDN.out];omega
    rw[hH2]at O9;have HNew:Hid (∀x:ah,ap aj 176 #[ab ac (g.b:Int)] x fun e w'=>∃v,e=ao v/\Sl ay w' v (bg g.n9 0)/\ag x.heap.size x w'):=fun x=>rJ (g.b:Int) x;have HN9:Hid (g.n9<=8):=qm HGK.out;have HLenS:Hid (∀k,(((dM g l).take k).flatten).length<=1000):=fun k=>by
     have h1:=sd (m:=g.step) ((dM g l).take k) (fun y hy=>vg (fun t ht=>(HIn.out.sn t ht).ch) y (jE hy));have h2:((dM g l).take k).length<=8:=by rw[dj];unfold dM;simp;omega
     have h3:g.step<=76:=by
      unfold SG.step;have:=HN9.out;have:=HGK.out.b64;omega
     have h4:=kP h2 h3;omega
    clear hH2;go_loopw [6,49] (fun bv iv wr2=>∃k:Nat,k<=8/\iv=ab ac (k:Int)/\Hid (fM W2 wr2 bv (H2++((dM g l).take k).flatten))/\w9h W2 wr2) (fun _ iv _=>8 - (aS iv).toNat)
    case atStart=>exact⟨0,bc _,rfl,by rw[List.take_zero,List.flatten_nil,List.append_nil];exact O9,HB3⟩
    case round=>
     clear O9 HB3;obtain⟨k,hk,rfl,HO,HB4⟩:=hrel;obtain⟨k0,k1,k2,k3,k4,k5,k6,k7,k8,k9,k10⟩:=KR.out _ HB4.out;by_cases hlt:k<8
     ·have q1:(k:Int)<8:=by omega
      have HLT:=ae hlt;obtain⟨s,hs⟩:=w9nm (l[k]?.getD (my g));have HSk:=ae hs;clear hs hlt;go_wp2_with fail;refine(HNew.out wr).mono ?_;rintro e y1 ⟨v8,rfl,hs8,hb8⟩;obtain⟨z8,c8,rfl⟩:=AL hs8;obtain⟨n9,hn9⟩:=w9nm ((bg g.n9 (0:Int)).length);rw[hn9]at hs8 ⊢;clear hn9;have ST:=mS y1 (0,(z8,n9,c8),(none,0,0));obtain⟨Y,hY⟩:=w9nm (y1.alloc (an (cX (0,(z8,n9,c8),(none,0,0))).toArray 90));have bY:ag y1.heap.size y1 Y:=by rw[←hY];exact aH _ _
      have rY:aq Y y1.heap.size 90 (cX (0,(z8,n9,c8),(none,0,0))):=by rw[←hY];exact aq.new y1 _ _
      rw[hY]at ST;obtain⟨C,hC⟩:=w9nm y1.heap.size;have HCN:Hid (wr.heap.size<=C):=by show _<=_;rw[←hC];exact hb8.size
      have HCY:Hid (C<=Y.heap.size):=by show _<=_;rw[←hC];exact bY.size
      have bW:w9b wr Y:=hb8.trans (bY.mono hb8.size);have HBW:=ae bW;have HBY:=w9bt HB4 bW;have HOY:Hid (fM W2 Y u6 (H2++((dM g l).take k).flatten)):=HO.out.below bW;have HS8:Hid (Sl ay Y (af z8 n9 c8) (bg g.n9 0)):=hs8.below bY;rw[hC]at ST rY;simp only[dZ,aK]at ST;have RY:=ae rY;clear rY bY hY bW hs8 hb8 k0 k1 k2 k3 k4 k5 k6 k7 k8 k9 k10;have k6:=(KR.out _ HBY.out).2.2.2.2.2.2.1;go_upto_if 60 with(fail)
      go_cut [60]from 61 to 65 (fun s64 wx=>∃(i1:Int) (a1 a2:Option aF) (n1 c1 n2 c2:Nat),Hid (aq wx C 90 (cX (i1,(a1,n1,c1),(a2,n2,c2))))/\Hid (i1=s.id)/\Hid (Sl ay wx (af a1 n1 c1) s.ch)/\Hid (fU wx (af a2 n2 c2) s.tb)/\Hid (fM W2 wx u6 (H2++((dM g l).take k).flatten))/\w9h wr wx)
      case first=>
       clear ST;by_cases hin:k<qsn
       ·have q2:(k:Int)< (qsn:Int):=by omega
        obtain⟨s',hs'⟩:∃s',l[k]? =some s':=⟨_,aZ (by rw[←HSN.out];exact hin)⟩;have HSS:Hid (s'=s):=by have:=HSk.out;rw[hs']at this;exact this
        obtain⟨rr,hS⟩:=KSn.out W2 (aI _ _);have hSY:=hS.below HBY.out;obtain⟨b,off,qv,rfl,hb,hrr,hq,e0,e1,e2⟩:=hSY.at hs';have LD:=oM e0 e1 e2;obtain⟨Z,hST2,hRZ,hgZ⟩:=yS qv RY.out rfl;obtain⟨b',off',q', -, -,hrr',hq', -, -, -⟩:=hS.at hs';obtain rfl:qv=q':=by rw[hrr]at hrr';exact Option.some.inj hrr'
        obtain⟨i1,⟨a1,n1,c1⟩,⟨a2,n2,c2⟩⟩:=qv;simp only[dZ,aK]at LD hST2;have hwY:wr.heap.size<=Y.heap.size:=bm HCN.out HCY.out;have hZ:w9b wr Z:=HBW.out.grown hgZ hwY (fun j e=>by cases e;exact HCN.out);have HZ:=ae hZ;have HZ2:=w9bt HB4 hZ;have HOZ:Hid (fM W2 Z u6 (H2++((dM g l).take k).flatten)):=HO.out.below hZ;have HQ2:=ae hq';have HRZ:=ae hRZ;clear hZ hwY hRZ hgZ hq' hrr hrr' hq e0 e1 e2 hb hS hSY hs' hin RY HOY;go_wp2_with fail
        go_meet
        have hE:=HSS.out;exact⟨i1,a1,a2,n1,c1,n2,c2,HRZ,by rw[←hE];exact HQ2.out.id,by rw[←hE];exact HQ2.out.ch.below HZ2.out,by rw[←hE];exact HQ2.out.tb.below HZ2.out,HOZ,HZ⟩
       ·have q2:¬(k:Int)< (qsn:Int):=by omega
        have q3:decide (k<qsn)=false:=by simpa using hin
        have HSS:Hid (s=my g):=by
         have:=HSk.out;rw[ej (by rw[←HSN.out];omega)]at this;exact this.symm
        clear hin;go_wp2_with fail
        go_meet
        have hE:=HSS.out;exact⟨0,z8,none,n9,c8,0,0,RY,by rw[hE];rfl,by rw[hE];exact HS8.out,by rw[hE];exact fU.nil Y,HOY,HBW⟩
      case rest=>
       obtain⟨i1,a1,a2,n1,c1,n2,c2,HRC,HID,HCH,HPT,HOW,HBX⟩:=hcut;have HSin:Hid (0<=s.id/\s.id<=1000000/\s.ch.length=g.n9/\PrIn g s.tb/\s.tb.length<=1000):=by
        have hk:=HSk.out;cases hl:l[k]? with
        | none=>
         rw[hl]at hk;rw[←hk];exact⟨fT 0,by show(0:Int)<=1000000;decide,zp g,⟨List.Pairwise.nil,(fun p hp=>by cases hp),(fun p hp=>by cases hp)⟩,bc _⟩
        | some s'=>
         rw[hl]at hk;have hk2:s'=s:=hk;subst hk2;have hm:=dp hl;have h:=HIn.out.sn s' hm;exact⟨h.id0,h.id1,h.ch,h.tb,(HKL.out.2 s' hm).2⟩
       have j0:0<=i1:=by rw[HID.out];exact HSin.out.1
       have j1:i1<=1000000:=by rw[HID.out];exact HSin.out.2.1
       have HJ0:=ae j0;have HJ1:=ae j1;have HB6:w9h W2 wc:=HB4.out.trans (HBX.out.mono HB4.out.size);have HBd:Hid (ag wc.heap.size wc wc.drew):=(aI _ wc).drew;have d0:∀y:aM wc,y.1.cell? ⟨C,0,none⟩=some (ab ac i1):=fun y=>(HRC.out.below y.2).cell 0 _ rfl;have d1:∀y:aM wc,y.1.cell? ⟨C,1,none⟩=some (af a1 n1 c1):=fun y=>(HRC.out.below y.2).cell 1 _ rfl;have d2:∀y:aM wc,y.1.cell? ⟨C,2,none⟩=some (af a2 n2 c2):=fun y=>(HRC.out.below y.2).cell 2 _ rfl;have d3:∀y:aM wc,y.1.cell? ⟨B,0,none⟩=some (ab ac (g.b:Int)):=fun y=>(KR.out y.1 (HB6.out.trans (y.2.mono HB6.out.size))).1;obtain⟨nt,hnt⟩:=w9nm ((H2++((dM g l).take k).flatten).length);obtain⟨ua,uc,rfl⟩:=AL HOW.out.sl;rw[hnt];have hOW:=HOW.out;rw[hnt]at hOW;have HOX:=ae hOW;have HCL:Hid (n1=s.ch.length):=by obtain⟨a,c,e, -⟩:=HCH.out;cases e;rfl
       clear HRC ST k6 HOW hOW hnt;go_wp2_with fail;refine du (fun x=>∃y:aM wc,x=y.1) 14 (.takes [0,1,2,3,5,6,7,8,9,10] (.one 4 (.one 11 (.one 12 (.one 13 .leaf))))) hmx (by kernel_rfl) (by intro c x v a w h;cases x<;>exact h) ⟨⟨wc.drew,HBd.out⟩,rfl⟩ ?_;repeat(rw[bu];simp only[aB,aC];go_big_quiet_step (fail);refine aV ?_)
       clear d0 d1 d2 d3;rw[bt,aT];simp only[aB,aC];go_wp2_with fail;go_at_call 174;refine(HPut.out wc.drew i1 HJ0.out (by have:=HJ1.out;omega)).mono ?_;rintro e x2 ⟨v9,rfl,hrow,hb⟩;have K2:=w9bt HBd hb;have hs:=Sl.of_owns (bs:=aJ i1 4) (by rw[cu];exact hrow);obtain⟨a9,c9,hv, -⟩:=(show Sl _ _ _ _ from hs);rw[cu]at hv;subst hv;have S9:=ae hs;clear hrow hb hs;go_wp2_with fail;refine aN ⟨⟨x2,K2.out⟩,rfl⟩ ?_;rw[aT];simp only[aB,aC];go_wp2_with fail;go_at_call 177;refine(HPLC.out x2 _ s.tb (HPT.out.below K2.out) HSin.out.2.2.2.2 HSin.out.2.2.2.1).mono ?_;rintro e x3 ⟨v10,rfl,hrow,hb⟩;have K3:=w9bt K2 hb;have hs:=Sl.of_owns (bs:=eA g.b s.tb) (by rw[lj];exact hrow);have SA:=ae (S9.out.below hb);obtain⟨a10,c10,hv, -⟩:=(show Sl _ _ _ _ from hs);rw[lj]at hv;subst hv;have S10:=ae hs;clear hrow hb hs S9;go_wp2_with fail;refine aN ⟨⟨x3,K3.out⟩,rfl⟩ ?_;rw[aT];simp only[aB,aC];obtain⟨x4,hx4⟩:=w9nm (x3.alloc (an #[af ua nt uc,af a9 4 c9,af a1 n1 c1,af a10 g.b c10] 76));have K4:w9h wc x4:=K3.out.trans (by rw[←hx4];exact(aH x3 _).mono K3.out.size);have BS:(dh 332 4 #[(0,af ua nt uc),(1,af a9 4 c9),(2,af a1 n1 c1),(3,af a10 g.b c10)]).run aj x3=.ok (af (some ⟨x3.heap.size,0,none⟩) 4 4) x4:=by rw[←hx4];exact vB x3 ua a9 a1 a10 nt 4 n1 g.b uc c9 c1 c10
       have SS:Hid (ph x4 (af (some ⟨x3.heap.size,0,none⟩) 4 4) [H2++((dM g l).take k).flatten,aJ i1 4,s.ch,eA g.b s.tb]):=AK hx4 (HOX.out.sl.below K3.out) SA.out (HCH.out.below K3.out) S10.out;clear hx4 SA S10;refine dR _ _ _ rfl rfl _ _ rfl BS ?_;clear BS;go_wp2_with fail;refine aN ⟨⟨x4,K4.out⟩,rfl⟩ ?_;rw[aT];simp only[aB,aC];go_wp2_with fail;go_at_call 173;have hfl: [H2++((dM g l).take k).flatten,aJ i1 4,s.ch,eA g.b s.tb].flatten=H2++((dM g l).take (k+1)).flatten:=by
        rw[Jz g l HLT.out,HSk.out,HID.out];unfold jk;simp
       have hcc:=sD _ _ x4 SS.out (by rw[hfl,cE];have:=HL2.out;have:=HLenS.out (k+1);omega);rw[hfl]at hcc;refine hcc.mono ?_;clear hcc hfl SS;rintro e x5 ⟨v11,rfl,hrow,hb⟩;have K5:=w9bt K4 hb;have HB8:w9h W2 x5:=HB6.out.trans (K5.out.mono HB6.out.size);have O8:Hid (fM W2 x5 v11 (H2++((dM g l).take (k+1)).flatten)):=Ag hrow (bm HB6.out.size K4.out.size);clear hrow hb;go_wp2_with fail;refine aN ⟨⟨x5,K5.out⟩,rfl⟩ ?_;rw[cW];simp only[bR,bQ];go_wp2_with fail;exact⟨⟨k+1,HLT.out,by simp,O8,HB8⟩,by have:=HLT.out;simp[aS];omega⟩
     ·obtain rfl:k=8:=by omega
      have O9:Hid (fM W2 wr u6 (H2++(dM g l).flatten)):=by
       have:=HO.out;rw[Aj]at this;exact this
      have HPC:=ae (HPLC.out wr _ ps (KPr.out _ HB4.out) HPLn.out HIn.out.pr);clear hlt HO;go_wp2_with fail;refine HPC.out.mono ?_;rintro e x2 ⟨v12,rfl,hrow,hb⟩;have K2:=w9bt HB4 hb;have O2:=O9.out.below hb;obtain⟨v13,x3,R3,O3,K3⟩:=O2.app K2.out (Sl.of_owns (bs:=eA g.b ps) (by rw[lj];exact hrow)) (by rw[cE,lj];have:=HL2.out;have:=HLenS.out 8;rw[Aj]at this;have:=HGK.out.b64;omega);have OF:Hid (x3.ownsRow B 5 1 v13 (bK g ⟨d,l,nx,kd,id,ps⟩).length (aw (bK g ⟨d,l,nx,kd,id,ps⟩))):=by
       have:=O3.out;rw[←HH2.out,←HH.out,HSN.out,←Jy]at this;exact iN this HBs2.out
      clear hrow hb O2 k0 k1 k2 k3 k4 k5 k6 k7 k8 k9 k10 HPC;go_wp2_with (at_builtin;refine wpList_append_run (.tmp 81) (.tmp 87) 76 rfl rfl _ _ _ rfl rfl R3.out ?_);refine bo (results_tmp2 rfl _ _ _) rfl ?_;exact⟨_,_,rfl,⟨fun _=>⟨rfl,OF.out⟩,fun h=>absurd h (by rw[HV1.out];decide)⟩,HBF.out x3 K3.out⟩
end
section
def iA (g:SG) (bs:List Int):ST:=⟨fO g bs g.slots,eX g bs 8,bM (bx bs 0 4),bs[5]?.getD 0,bM (bx bs 6 4),cK 0 (bx bs (g.at 8) g.b)⟩
theorem sQ {g:SG} (hg:g.Ok) {bs:List Int} (hl:bs.length=g.bts):
  (fE g (iA g bs)=true/\bK g (iA g bs)=bs->iy g bs=some (iA g bs))/\(¬(fE g (iA g bs)=true/\bK g (iA g bs)=bs)->iy g bs=none):=by
 constructor
 ·rintro⟨h1,h2⟩;have:=zR hg h1;rw[h2]at this;exact this
 ·intro h;cases hd:iy g bs with
  | none=>rfl
  | some s=>
   exfalso;have h2:=zS hd;unfold iy at hd;split at hd
   ·rename_i c;have hs:mz g bs=s:=Option.some.inj hd;obtain⟨c1,c2,c3,c4⟩:=c;have e:mz g bs=iA g bs:=by
     have hp:=JI g hl (by omega);rw[hp]at c3 ⊢;unfold iA;have e1:nN g bs g.slots=fO g bs g.slots:=by
      unfold nN fO;refine List.map_congr_left fun x hx=> ?_;have hr:=Ah hg (d:=nN g bs g.slots) (by unfold fE at c3;simp only[cm]at c3;exact c3.1.1.1.1.1) (x - 1) (by unfold nN;exact cM.2 ⟨x,hx,rfl⟩);show x - 1=ff x;unfold ff;rw[if_neg (by omega)]
     rw[e1,An (a:=g.at 8) (n:=g.b) (by rw[hl];exact g.at_end.symm)]
    rw[e]at hs;rw[←hs]at h2;exact h h2
   ·cases hd
theorem AN {g:SG} (hg:g.Ok) (bs:List Int):jd 1000 (eX g bs 8)/\(cK 0 (bx bs (g.at 8) g.b)).length<=1000:=by
 have hb:=hg.b64;have h9:=qm hg;have hseg:∀a n,(bx bs a n).length<=n:=fun a n=>by unfold bx;rw[dj];omega
 refine⟨⟨?_,fun s hs=> ?_⟩, ?_⟩
 ·unfold eX;rw[dV,List.length_range];omega
 ·unfold eX at hs;obtain⟨i, -,rfl⟩:=cM.1 hs;unfold iw;constructor
  ·show(bx (bx bs (g.at i) g.step) 4 g.n9).length<=1000;unfold bx;rw[dj];have:g.n9<=8:=h9;omega
  ·show(cK 0 (bx (bx bs (g.at i) g.step) (4+g.n9) g.b)).length<=1000;have h1:=sL (bx (bx bs (g.at i) g.step) (4+g.n9) g.b) 0;have h2:(bx (bx bs (g.at i) g.step) (4+g.n9) g.b).length<=g.b:=by unfold bx;rw[dj];omega
   omega
 ·have h1:=sL (bx bs (g.at 8) g.b) 0;have h2:=hseg (g.at 8) g.b;omega
theorem AO {g:SG} {bs:List Int} (hB:aP bs) (k:Nat):∀x ∈ fO g bs k,fG x:=fun x hx=>by
 unfold fO at hx;obtain⟨y,hy,rfl⟩:=cM.1 hx;obtain⟨j,hj⟩:=jY (jE hy);have:=JJ hB 10 g.slots j;rw[hj]at this;simp only[Option.getD_some]at this;unfold ff fG;split<;>omega
attribute [-simp] isAgg90 zeroValue90 isAgg191 zeroValue191 isAgg47 zeroValue47
attribute [-go_sem] aE aL
attribute [local go_sem] iQ iR fB eJ en nD qo
theorem KT {w:ah} {v:ak} (G:Geo) (hi:G.In) (hb:¬G.good):
  ap aj 105 #[al G.v,v] w fun e w'=>e=ao (aQ #[bI dH,ab ac 1])/\ag w.heap.size w w':=by
 obtain⟨gb,gs,gy,ga,gr⟩:=G;have HG:Hid (∀x:ah,ap aj 166 #[al (Geo.v ⟨gb,gs,gy,ga,gr⟩)] x fun e w'=>e=ao (.bool false)/\ag x.heap.size x w'):=fun x=>
  (kG ⟨gb,gs,gy,ga,gr⟩ hi x).mono fun e y hy=>⟨by rw[hy.1,decide_eq_false hb],hy.2⟩
 clear hb hi;unfold Geo.v at *;simp only at *;obtain⟨B,hB⟩:=w9nm w.heap.size;obtain⟨W1,hW1⟩:=w9nm (w.alloc (an #[ab ac gb,ab ac gs,ab ac gy,ab ac ga,ab ac gr] 23));obtain⟨W2,hW2⟩:=w9nm (W1.alloc (an #[af none 0 0,af none 0 0,ab ac 0,ab ac 0,ab ac 0,af none 0 0] 47));have s1:W1.heap.size=B+1:=by rw[←hW1,←hB];simp
 have r1:aq W1 B 23 [ab ac gb,ab ac gs,ab ac gy,ab ac ga,ab ac gr]:=by rw[←hW1,←hB];exact aq.new _ _ _
 have r2:aq W2 (B+1) 47 (aW dH):=by rw[←hW2,←s1];exact aq.new _ _ _
 have b1:ag B w W1:=by rw[←hW1,←hB];exact aH _ _
 have b2:ag W1.heap.size W1 W2:=by rw[←hW2];exact aH _ _
 have HB:Hid (ag B w W2):=b1.trans (b2.mono (by omega));have HR2:=ae r2;have t1:=r1.below b2;have k0:=t1.cell 0 _ rfl;have k1:=t1.cell 1 _ rfl;have k2:=t1.cell 2 _ rfl;have k3:=t1.cell 3 _ rfl;have k4:=t1.cell 4 _ rfl;have HS2:Hid (B<=W2.heap.size):=by show B<=_;rw[←hB];exact HB.out.size
 rw[hB];clear r1 b1 b2 t1 r2;go_enter func105,ntmps105;go_wp2_with fail;refine(HG.out W2).mono ?_;rintro e y ⟨rfl,hy⟩;obtain⟨z,hS,hRz,hgz⟩:=lq dH (HR2.out.below hy) rfl;have HZ:Hid (ag B w z):=(HB.out.trans (hy.mono HS2.out)).grown hgz (bm HS2.out hy.size) (fun j e=>by cases e;exact Nat.le_succ B);have HRz:=ae hRz;simp only[bI,aW,aK,dH]at hS;clear hy k0 k1 k2 k3 k4 hRz hgz;go_wp2_with fail;exact bo (eH rfl rfl (fg HRz.out)) rfl ⟨rfl,HZ.out⟩
theorem ReadR.below {g:SG} {bs:List Int} {M:Nat} {W W':ah} {q:PS} (h:ReadR g bs M W q) (hb:ag W.heap.size W W'):ReadR g bs M W' q:=⟨h.nx,h.kd,h.id,h.dd.below hb,h.ss.below hb,h.pr.below hb⟩
theorem ReadR.low {g:SG} {bs:List Int} {M:Nat} {W W':ah} {q:PS} {row:Option Nat} (h:ReadR g bs M W q) (hg:W.grownBy W' row) (hr:∀j,row=some j->j<M):ReadR g bs M W' q:=⟨h.nx,h.kd,h.id,h.dd.low hg hr,h.ss.low hg hr,h.pr.low hg hr⟩
theorem ReadR.decR {g:SG} {bs:List Int} {M N:Nat} {W:ah} {q:PS} (h:ReadR g bs M W q) (hN:N<=M) (hd:iy g bs=some (iA g bs)):mF g bs N W q 0:=by
 unfold mF;rw[hd];refine⟨rfl,h.nx,h.kd,h.id,iN h.dd hN, ?_,h.pr.weak hN⟩;obtain⟨r,h1,h2,h3⟩:=h.ss;exact⟨r,h1,iN h2 hN,fun j q s a b=>(h3 j q s a b).weak hN⟩
theorem KU {N:Nat} {w:ah} {v:ak} {zs:List Int} (h:bT N w v zs):Sl ac w v zs:=oI h
theorem La {w:ah} {v:ak} {bs:List Int} (g:SG) (hg:g.Ok) (r:Int) (hi:(g.geo r).In) (hr:(g.geo r).good) (hv:Sl ay w v bs) (hB:aP bs) (hlm:bs.length<=100000):
  ap aj 105 #[al (g.v r),v] w fun e w'=>∃q c,e=ao (aQ #[bI q,ab ac c])/\mF g bs w.heap.size w' q c/\ag w.heap.size w w':=by
 have HGD:Hid (∀x:ah,ap aj 166 #[al (g.v r)] x fun e w'=>e=ao (.bool true)/\ag x.heap.size x w'):=fun x=>(kG (g.geo r) hi x).mono fun e y hy=>⟨by rw[hy.1,decide_eq_true hr],hy.2⟩;have HBT:Hid (∀x:ah,ap aj 127 #[al (g.v r)] x fun e w'=>e=ao (ab ac (g.bts:Int))/\ag x.heap.size x w'):=fun x=>(qu (g.geo r) hi x).mono fun e y hy=>⟨by rw[hy.1];unfold Geo.oB;rw[if_pos hr,Aq hg],hy.2⟩;have HGO:=ae hg;have HRD:Hid (bs.length=g.bts->∀x:ah,ag w.heap.size w x->ap aj 188 #[al (g.v r),v] x fun e w'=>∃q:PS,e=ao (bI q)/\ReadR g bs x.heap.size w' q/\ag x.heap.size x w'):=fun hl x hx=>Ki g HGO.out r (hv.below hx) hB hl;have HEN:Hid (∀(x:ah) (q:PS) (M:Nat),ReadR g bs M x q->ap aj 83 #[al (g.v r),bI q] x fun e w'=>∃u c,e=ao (aQ #[u,ab ac c])/\Al g (iA g bs) x.heap.size w' u c/\ag x.heap.size x w'):=fun x q M h=>by
  have hl:=AN HGO.out bs;have:=AM (q:=q) (d:=fO g bs g.slots) (l:=eX g bs 8) (ps:=cK 0 (bx bs (g.at 8) g.b)) g HGO.out r hi hr (KU h.dd) (AO hB _) ⟨h.ss.snp,h.pr.prt⟩ hl.1 hl.2;rw[h.nx,h.kd,h.id]at this;exact this
 obtain⟨va,vn,vc,rfl⟩:∃a n c,v=af a n c:=by obtain⟨a,c,e, -⟩:=hv;exact⟨a,_,c,e⟩
 obtain rfl:vn=bs.length:=by obtain⟨a,c,e, -⟩:=hv;cases e;rfl
 obtain⟨n,hn⟩:=w9nm bs.length;obtain⟨T,hT⟩:=w9nm g.bts;have HV:=ae hv;have HN:=ae hn;have HT:=ae hT;rw[hn]at HV HRD hlm ⊢;rw[hT]at HBT HRD;have HBY:=ae hB;obtain⟨B,hBB⟩:=w9nm w.heap.size;obtain⟨W1,hW1⟩:=w9nm (w.alloc (an (g.v r) 23));obtain⟨W2,hW2⟩:=w9nm (W1.alloc (an #[af none 0 0,af none 0 0,ab ac 0,ab ac 0,ab ac 0,af none 0 0] 47));have s1:W1.heap.size=B+1:=by rw[←hW1,←hBB];simp
 have s2:W2.heap.size=B+2:=by rw[←hW2,bO,s1]
 have r1:aq W1 B 23 [ab ac (g.b:Int),ab ac (g.s:Int),ab ac (g.y:Int),ab ac (g.a:Int),ab ac r]:=by rw[←hW1,←hBB];exact aq.new _ _ _
 have r2:aq W2 (B+1) 47 (aW dH):=by rw[←hW2,←s1];exact aq.new _ _ _
 have b1:ag B w W1:=by rw[←hW1,←hBB];exact aH _ _
 have b2:ag W1.heap.size W1 W2:=by rw[←hW2];exact aH _ _
 have HBF:Hid (ag B w W2):=b1.trans (b2.mono (by omega));have HR1:Hid (aq W2 B 23 [ab ac (g.b:Int),ab ac (g.s:Int),ab ac (g.y:Int),ab ac (g.a:Int),ab ac r]):=r1.below b2;have HR2:=ae r2;have HS2:=ae s2;have HSZ:=ae hBB;have KR:Hid (∀x:ah,ag W2.heap.size W2 x->x.cell? ⟨B,0,none⟩=some (ab ac (g.b:Int))/\x.cell? ⟨B,1,none⟩=some (ab ac (g.s:Int))/\x.cell? ⟨B,2,none⟩=some (ab ac (g.y:Int))/\x.cell? ⟨B,3,none⟩=some (ab ac (g.a:Int))/\x.cell? ⟨B,4,none⟩=some (ab ac r)):=fun x hx=>
  ⟨(HR1.out.below hx).cell 0 _ rfl,(HR1.out.below hx).cell 1 _ rfl,(HR1.out.below hx).cell 2 _ rfl,(HR1.out.below hx).cell 3 _ rfl,(HR1.out.below hx).cell 4 _ rfl⟩
 rw[hBB]at HRD;clear r1 r2 b1 b2 hv hB hg hr hi hn hT;unfold SG.v at *;obtain⟨k0,k1,k2,k3,k4⟩:=KR.out W2 (aI _ _);go_enter func105,ntmps105;go_wp2_with fail;refine(HGD.out W2).mono ?_;rintro e x1 ⟨rfl,hx1⟩;have H1:w9h W2 x1:=hx1;clear hx1 k0 k1 k2 k3 k4;obtain⟨k0,k1,k2,k3,k4⟩:=KR.out x1 H1.out;go_wp2_with fail;refine(HBT.out x1).mono ?_;rintro e x2 ⟨rfl,hx2⟩;have H2:=w9bt H1 hx2;clear hx2 k0 k1 k2 k3 k4;have fin:Hid (∀(y:ah) (q:PS) (c:Int),aq y (B+1) 47 (aW q)->mF g bs B y q c->ag B w y->True):=fun _ _ _ _ _ _=>trivial;by_cases hln:n=T
 ·subst hln;have g0:((n:Int) !=(n:Int))=false:=by simp
  have HLN:Hid (bs.length=g.bts):=by show _=_;rw[HN.out,HT.out]
  obtain⟨k0,k1,k2,k3,k4⟩:=KR.out x2 H2.out;go_wp2_with fail;refine(HRD.out (by first | exact HN.out | trivial) x2 (HBF.out.trans (H2.out.mono (by have:=HS2.out;omega)))).mono ?_;rintro e x3 ⟨⟨⟨da,dn,dc⟩,⟨sa,sn,sc⟩,nx,kd,id,⟨pa,pn,pc⟩⟩,rfl,hR,hx3⟩;have ST:=se x3 ⟨(da,dn,dc),(sa,sn,sc),nx,kd,id,(pa,pn,pc)⟩;obtain⟨Y,hY⟩:=w9nm (x3.alloc (an (aW ⟨(da,dn,dc),(sa,sn,sc),nx,kd,id,(pa,pn,pc)⟩).toArray 47));have bY:ag x3.heap.size x3 Y:=by rw[←hY];exact aH _ _
  have rY:aq Y x3.heap.size 47 (aW ⟨(da,dn,dc),(sa,sn,sc),nx,kd,id,(pa,pn,pc)⟩):=by rw[←hY];exact aq.new x3 _ _
  rw[hY]at ST;obtain⟨C,hC⟩:=w9nm x3.heap.size;have H3:w9h W2 Y:=(H2.out.trans (hx3.mono H2.out.size)).trans (bY.mono (by have:=H2.out.size;have:=hx3.size;omega));have HRY:=ae (hR.below bY);have hM:Hid (B+2<=x2.heap.size):=by have:=H2.out.size;have:=HS2.out;show _<=_;omega
  have HEY:=ae (HEN.out Y _ _ HRY.out);rw[hC]at ST rY;have HRC:=ae rY;have LS:=fg rY;have HRB:Hid (aq Y (B+1) 47 (aW dH)):=HR2.out.below H3.out;have HBW:Hid (∀x:ah,ag Y.heap.size Y x->ag B w x):=fun x hx=>(HBF.out.trans (H3.out.mono (by have:=HS2.out;omega))).trans (hx.mono (by have:=H3.out.size;have:=HS2.out;omega));have HVY:Hid (∀x:ah,ag Y.heap.size Y x->Sl ay x (af va n vc) bs):=fun x hx=>HV.out.below (by show ag _ _ _;rw[HSZ.out];exact HBW.out x hx);simp only[bI,aW,aK]at ST LS HEY ⊢;clear hR hx3 bY rY hY k0 k1 k2 k3 k4 HEN;obtain⟨k0,k1,k2,k3,k4⟩:=KR.out Y H3.out;go_wp2_with fail;refine HEY.out.mono ?_;rintro e x5 ⟨u,c,rfl,hE,hx5⟩;have H5:=ae hx5;clear k0 k1 k2 k3 k4 HEY hx5 LS ST;by_cases hgd:fE g (iA g bs)=true
  ·obtain⟨rfl,hou⟩:=hE.1 hgd;have SU:Hid (Sl ay x5 u (bK g (iA g bs))):=Sl.of_owns hou;have HGQ:=ae hgd;have hle:(bK g (iA g bs)).length<=1000000:=by
    have hin:=pj HGO.out hgd;rw[vh hin.dl (fun t ht=>(hin.sn t ht).ch),←HLN.out,HN.out];omega
   obtain⟨tv,htv⟩:∃tv,decide (bK g (iA g bs)=bs)=tv:=⟨_,rfl⟩;have HEQ:Hid (ap aj 189 #[u,af va n vc] x5 fun e w'=>e=ao (.bool tv)/\ag x5.heap.size x5 w'):=by rw[←htv];exact Hz SU.out (HVY.out x5 H5.out) hle
   clear hE hou hgd hle;cases tv with
   | false=>
    have hne:¬bK g (iA g bs)=bs:=of_decide_eq_false htv;have HNE:=ae hne;clear htv hne;go_wp2_with fail;refine HEQ.out.mono ?_;rintro e x6 ⟨rfl,hx6⟩;have H6:=w9bt H5 hx6;clear hx6 HEQ;have HND:Hid (iy g bs=none):=(sQ HGO.out HLN.out).2 (fun h=>HNE.out h.2);obtain⟨z,hS,hRz,hgz⟩:=lq dH (HRB.out.below (H6.out)) rfl;have HZ:Hid (ag B w z):=(HBW.out x6 H6.out).grown hgz (by have:=(HBW.out x6 H6.out).size;have:=HSZ.out;omega) (fun j e=>by cases e;exact Nat.le_succ B);have HRz:=ae hRz;simp only[bI,aW,aK,dH]at hS;clear hRz hgz;go_wp2_with fail;exact bo (eH rfl rfl (fg HRz.out)) rfl ⟨dH,11,rfl,vT HND.out _ _,by rw[HSZ.out];exact HZ.out⟩
   | true=>
    have HND:Hid (iy g bs=some (iA g bs)):=(sQ HGO.out HLN.out).1 ⟨HGQ.out,of_decide_eq_true htv⟩;clear htv;go_wp2_with fail;refine HEQ.out.mono ?_;rintro e x6 ⟨rfl,hx6⟩;have H6:=w9bt H5 hx6;clear hx6 HEQ;have LS:=fg (HRC.out.below H6.out);obtain⟨z,hS,hRz,hgz⟩:=lq ⟨(da,dn,dc),(sa,sn,sc),nx,kd,id,(pa,pn,pc)⟩ (HRB.out.below H6.out) rfl;have HZ:Hid (ag B w z):=(HBW.out x6 H6.out).grown hgz (by have:=(HBW.out x6 H6.out).size;have:=HSZ.out;omega) (fun j e=>by cases e;exact Nat.le_succ B);have HDR:Hid (mF g bs B z ⟨(da,dn,dc),(sa,sn,sc),nx,kd,id,(pa,pn,pc)⟩ 0):=ReadR.decR ((HRY.out.below H6.out).low hgz (fun j e=>by cases e;have:=hM.out;omega)) (by have:=hM.out;omega) HND.out;have HLD:=ae (fg hRz);simp only[bI,aW,aK]at hS LS HLD;clear hRz hgz;go_wp2_with fail;exact bo (eH rfl rfl HLD.out) rfl ⟨_,0,rfl,by rw[HSZ.out];exact HDR.out,by rw[HSZ.out];exact HZ.out⟩
  ·obtain⟨rfl,rfl⟩:=hE.2 (by simpa using hgd);have HNG:=ae hgd;clear hE hgd;have HND:Hid (iy g bs=none):=(sQ HGO.out HLN.out).2 (fun h=>HNG.out h.1);obtain⟨z,hS,hRz,hgz⟩:=lq dH (HRB.out.below (H5.out)) rfl;have HZ:Hid (ag B w z):=(HBW.out x5 H5.out).grown hgz (by have:=(HBW.out x5 H5.out).size;have:=HSZ.out;omega) (fun j e=>by cases e;exact Nat.le_succ B);have HRz:=ae hRz;simp only[bI,aW,aK,dH]at hS;clear hRz hgz;go_wp2_with fail;exact bo (eH rfl rfl (fg HRz.out)) rfl ⟨dH,11,rfl,vT HND.out _ _,by rw[HSZ.out];exact HZ.out⟩
 ·have g0:((n:Int) !=(T:Int))=true:=by simp;omega
  have HND:Hid (iy g bs=none):=by
   show _=_;unfold iy;rw[if_neg];rintro⟨h, -⟩;rw[HN.out,HT.out]at h;exact hln h
  obtain⟨z,hS,hRz,hgz⟩:=lq dH (HR2.out.below H2.out) rfl;have HZ:Hid (ag B w z):=(HBF.out.trans (H2.out.mono (by have:=HS2.out;omega))).grown hgz (by have:=H2.out.size;have:=HS2.out;omega) (fun j e=>by cases e;exact Nat.le_succ B);have HRz:=ae hRz;simp only[bI,aW,aK,dH]at hS;clear hRz hgz hln;go_wp2_with fail;exact bo (eH rfl rfl (fg HRz.out)) rfl ⟨dH,11,rfl,vT HND.out _ _,by rw[HSZ.out];exact HZ.out⟩
end
section
theorem Lb (w:ah):(dh 41 0 #[]).run aj w=.ok (af (some ⟨w.heap.size,0,none⟩) 0 0) (w.alloc (an #[] 3)):=by kernel_rfl
theorem Lc (N:Nat) (w:ah) (hN:N<=w.heap.size):bT N (w.alloc (an #[] 3)) (af (some ⟨w.heap.size,0,none⟩) 0 0) []:=World.ownsRow_lit w #[] 0 hN (by simp[aY]) rfl
set_option maxRecDepth 100000 in
theorem Ld {N:Nat} {w:ah} {v x:ak} {l m:List Int} (h:bT N w v l) (hx:Sl ac w x m) (hN:N<=w.heap.size) (hlen:l.length+m.length<=1000000):
  ∃v' w',(∀ty,(Builtin.append_ #[41, 41] ty #[v,x]).run aj w=.ok v' w')/\bT N w' v' (l++m)/\w.grownBy w' v.ownBlock:=by
 obtain⟨i0,hi,hz0,hz1,hz2⟩:=fy rE;obtain⟨a,cap,rfl,h1,h2,h4,h0⟩:=hx;cases a with
 | none=>
  obtain rfl:=h0 rfl;obtain rfl:m= []:=ka (by omega);exact⟨v,w,fun ty=>run_append_owned_none (P:=aj) (w:=w) N 41 ty 3 i0 1 Tryz.underlying41 hi v l.length _ h,by simpa using h,World.grownBy.refl _ _⟩
 | some ad=>
  have hnews:∀j u,(m.map (Value.int ac))[j]? =some u->w.cell? (ad.add j)=some u:=by
   rcases h4 with rfl | ⟨b,off,e,h5,h6⟩
   ·intro j u hu;simp at hu
   ·cases e;intro j u hu;rw[Addr.add_lit];rw[dY]at hu;obtain⟨z,hz,rfl⟩:=Option.map_eq_some_iff.1 hu;have:=(bZ.1 hz).1;have h:=h6 j this;rw[hz]at h;exact h
  have hr:∀ty,∃v' w',(Builtin.append_ #[41, 41] ty #[v,af (some ad) m.length cap]).run aj w=.ok v' w'/\w'.ownsRow N 3 1 v' (l.length+m.length) (l.map (Value.int ac)++m.map (Value.int ac))/\w.grownBy w' v.ownBlock:=fun ty=>by
   obtain⟨v',w',g1,g2,g3, -,g4⟩:=run_append_own_at (P:=aj) w N 41 ty 3 i0 (ab ac 0) 1 8 Tryz.underlying41 hi hz0 hz1 hz2 rfl (by decide) v l.length _ h ad m.length cap (m.map (Value.int ac)) (by simp) hnews (fun u hu=>by obtain⟨z, -,rfl⟩:=cM.1 hu;rfl) (by unfold aY;omega) (by omega) hN;exact⟨v',w',g1,g2,g3⟩
  obtain⟨v',w',g1,g2,g3⟩:=hr 0;refine⟨v',w',fun ty=> ?_, ?_,g3⟩
  ·rw[←g1];rfl
  ·show w'.ownsRow N _ 1 v' (l++m).length ((l++m).map _);rw[cE,ec];exact g2
end
section
structure StO (N:Nat) (W:ah) (q:PS) (d:List Int) (l:List SN) (ps:List (Int×Int)):Prop where
 dd:bT N W (aK q.d) d
 sn:fD N W (aK q.sn) l
 pr:dT N W (aK q.pr) ps
theorem fD.weak {M N:Nat} {W:ah} {v:ak} {l:List SN} (h:fD N W v l) (hN:M<=N):fD M W v l:=by
 obtain⟨r,h1,h2,h3⟩:=h;exact⟨r,h1,iN h2 hN,fun j q s a b=>(h3 j q s a b).weak hN⟩
theorem StO.low {N:Nat} {W W':ah} {q:PS} {d:List Int} {l:List SN} {ps:List (Int×Int)} {row:Option Nat} (h:StO N W q d l ps) (hg:W.grownBy W' row) (hr:∀j,row=some j->j<N):StO N W' q d l ps:=⟨h.dd.low hg hr,h.sn.low hg hr,h.pr.low hg hr⟩
theorem StO.weak {M N:Nat} {W:ah} {q:PS} {d:List Int} {l:List SN} {ps:List (Int×Int)} (h:StO N W q d l ps) (hN:M<=N):StO M W q d l ps:=⟨iN h.dd hN,h.sn.weak hN,h.pr.weak hN⟩
theorem StO.sl {N:Nat} {W:ah} {q:PS} {d:List Int} {l:List SN} {ps:List (Int×Int)} (h:StO N W q d l ps):Sl ac W (aK q.d) d:=oI h.dd
theorem StO.is {N:Nat} {W:ah} {q:PS} {d:List Int} {l:List SN} {ps:List (Int×Int)} (h:StO N W q d l ps):StIs W q l ps:=⟨h.sn.snp,h.pr.prt⟩
theorem Le (p:aF) (n c:Nat) (w:ah):(binOp .eql 41 (af (some p) n c) (af none 0 0)).run aj w=.ok (.bool false) w:=by kernel_rfl
theorem Lf (w:ah):(binOp .eql 41 (af none 0 0) (af none 0 0)).run aj w=.ok (.bool true) w:=by kernel_rfl
theorem AP (a b:Int) (y:Option aF) (m d:Nat) (w:ah):(df 45 #[(0,ab ac a),(1,ab ac b),(2,af y m d)]).run aj w=.ok (al #[ab ac a,ab ac b,af y m d]) w:=by kernel_rfl
theorem Lg (x y z:Option aF) (n c m d k e:Nat) (a b i:Int) (w:ah):(df 47 #[(0,af x n c),(1,af y m d),(2,ab ac a),(3,al #[ab ac b,ab ac i,af z k e])]).run aj w=.ok (al #[af x n c,af y m d,ab ac a,ab ac b,ab ac i,af z k e]) w:=by kernel_rfl
theorem AQ (x z:Option aF) (n c k e:Nat) (a b i:Int) (w:ah):(df 47 #[(0,af x n c),(2,ab ac a),(3,al #[ab ac b,ab ac i,af z k e])]).run aj w=.ok (al #[af x n c,af none 0 0,ab ac a,ab ac b,ab ac i,af z k e]) w:=by kernel_rfl
attribute [-simp] isAgg90 zeroValue90 isAgg191 zeroValue191 isAgg47 zeroValue47
attribute [-go_sem] aE aL
attribute [local go_sem] iQ iR fB eJ en AP Lg AQ Lf Le
theorem Lh {w:ah} {v:ak} {l:List Int} (h:Sl ac w v l) (hlen:l.length<=1000000):
  ap aj 186 #[v] w fun e w'=>∃u,e=ao u/\bT w.heap.size w' u l/\ag w.heap.size w w':=by
 have HP:=ae h;obtain⟨a,cap,rfl,h1, -,h4,h0⟩:=h;cases a with
 | none=>
  obtain rfl:=h0 rfl;obtain rfl:l= []:=ka (by omega);go_enter func186,ntmps186;go_wp2_with fail;go_ret;exact⟨_,rfl,bT.nil _ _,aI _ _⟩
 | some ad=>
  obtain⟨W,hW⟩:=w9nm (w.alloc (an #[] 3));have SB:=Lb w;rw[hW]at SB;have hb:=aH w (an #[] 3);rw[hW]at hb;have ho:bT w.heap.size W (af (some ⟨w.heap.size,0,none⟩) 0 0) []:=by
   rw[←hW];exact Lc _ w (aG _)
  obtain⟨u,W2,hr,h1,h2⟩:=Ld ho (HP.out.below hb) hb.size (by simpa using hlen);have HA:=ae hr;have HO:=ae h1;have HB:w9h w W2:=hb.grown h2 hb.size (fun j e=>by cases e;exact aG _);have HS:=ae SB;clear hr h1 h2 ho hb SB h4 h0 hW HP;go_enter func186,ntmps186;go_wp2_with (first | (refine iu ?_;refine dR 41 0 #[] rfl rfl [] _ rfl HS.out ?_) | (at_builtin;refine wpList_append_run (.tmp 5) (.tmp 6) 41 rfl rfl _ _ _ rfl rfl (HA.out _) ?_));go_ret;exact⟨_,rfl,HO.out,HB.out⟩
end
section
attribute [-simp] isAgg51 zeroValue51
attribute [-go_sem] aE aL
attribute [local go_sem] bC bD fe ez
structure SecAt (w:ah) (N sb o:Nat) (s:Sec) (v:ak):Prop where
 ok:s.Ok
 cont:w.rangeAt sb o s.c
 ver:w.cell? ⟨sb,o+64,none⟩=some v
 there:w.there sb o 65
 row:w.ownsRow N 51 64 v s.vs.length s.vs.flatten
 apart:v.ownBlock≠some sb
theorem SecAt.lt {w:ah} {N sb o:Nat} {s:Sec} {v:ak} (h:SecAt w N sb o s v):sb<w.heap.size:=World.block_lt_of_cell? w _ h.ver
theorem SecAt.form {w:ah} {N sb o:Nat} {s:Sec} {v:ak} (h:SecAt w N sb o s v):∃a cap,v=af a s.vs.length cap/\s.vs.length<=cap/\cap<=aY/\(s.vs≠ []->∃g,a=some ⟨g,0,none⟩/\g≠sb/\g<w.heap.size/\N<=g/\∀k u,s.vs[k]? =some u->w.rangeAt g (k*64) u):=by
 have hap:=h.apart;rcases h.row.2 with⟨rfl,h0⟩ | ⟨g,cap,cur,rfl,h1,h2,h3,h4,h5,h6⟩
 ·exact⟨none,0,by rw[h0],by omega,by simp[aY],fun hn=>absurd (ka h0) hn⟩
 ·refine⟨some ⟨g,0,none⟩,cap,rfl,h3,h4,fun _=>⟨g,rfl,fun e=>hap (by rw[e];rfl),(bL.1 h2).1,h1,fun k u hu j x hx=> ?_⟩⟩;have hk:k<s.vs.length:=(bZ.1 hu).1;have hj:j<64:=by have:=(bZ.1 hx).1;rw[(h.ok.2 u (dp hu)).length]at this;exact this
  have hf:=Gb h.ok.2 hu j hj;rw[dq _ _ _ _ _ _ h2,←Array.getElem?_toList];rw[←h6,kx,if_pos (by omega)]at hf;rw[hf,hx]
theorem Li (N sb o:Nat) (s:Sec) (v:ak) (w:ah) (h:SecAt w N sb o s v):
  ap aj 240 #[am (some ⟨sb,o,none⟩)] w fun e w'=>e=ao (al s.look.toArray)/\ag w.heap.size w w':=by
 obtain⟨a,cap,rfl,hcap,hmax,hv⟩:=h.form;obtain⟨W,hW⟩:=w9nm (w.alloc (an cF 51));have hsz:w.heap.size<W.heap.size:=by rw[←hW];simp
 have c1:W.cell? ⟨sb,o+64,none⟩=some (af a s.vs.length cap):=by rw[←hW,World.cell?_alloc_lt _ _ _ h.lt];exact h.ver
 have hB:ag w.heap.size w (w.alloc (an s.look.toArray 51)):=(aI _ w).alloc (aG _) _;have hok:=h.ok.look;by_cases hn:s.vs= []
 ·have hl:s.look=s.c:=Sec.look_none hn;rw[hl]at hB hok ⊢;have h0:s.vs.length=0:=by rw[hn];rfl
  have L:(aE 51 ⟨sb,o,none⟩).run aj W=.ok (al s.c.toArray) W:=by rw[←hW];exact gl (World.rangeAt_alloc h.cont _) h.ok.1.length
  have S:(aL 51 ⟨w.heap.size,0,none⟩ (al s.c.toArray)).run aj W=.ok () (w.alloc (an s.c.toArray 51)):=by rw[←hW];exact oD gk h.ok.1
  have R:(aE 51 ⟨w.heap.size,0,none⟩).run aj (w.alloc (an s.c.toArray 51))=.ok (al s.c.toArray) (w.alloc (an s.c.toArray 51)):=rt (by simpa using h.ok.1.length);have HB:=ae hB;rw[h0]at c1;clear hB hok hl hn h0 hv h hsz hcap hmax;go_enter func240,ntmps240;go_wp2_with (with_reducible (rw[hW];clear hW));refine bo (ev rfl rfl R) rfl ⟨rfl,HB.out⟩
 ·obtain⟨g,rfl,hg1,hg2,hg3,hv⟩:=hv hn;obtain⟨m,hm⟩:∃m,s.vs.length=m+1:=⟨s.vs.length - 1,by have:=List.length_pos_iff.2 hn;omega⟩;have hu:s.vs[m]? =some s.look:=by
   have:=Sec.look_some hn;rw[hm,Nat.add_sub_cancel]at this;rw[aZ (by omega)]at this ⊢;rw[this];rfl
  have hr:=hv m _ hu;obtain⟨u,hul⟩:=w9nm s.look;rw[hul]at hr hB hok hu ⊢;have L:(aE 51 ⟨g,m*64,none⟩).run aj W.drew=.ok (al u.toArray) W.drew:=by rw[←hW];exact gl (by simpa using World.rangeAt_alloc hr _) hok.length
  have S:(aL 51 ⟨w.heap.size,0,none⟩ (al u.toArray)).run aj W.drew=.ok () (w.alloc (an u.toArray 51)).drew:=by rw[←hW];exact oD (w:=w.drew) gk hok
  have R:(aE 51 ⟨w.heap.size,0,none⟩).run aj (w.alloc (an u.toArray 51)).drew=.ok (al u.toArray) (w.alloc (an u.toArray 51)).drew:=rt (w:=w.drew) (by simpa using hok.length);have HB:=ae hB;have hmx:=w9x
  rw[hm]at c1 hcap;have HM1:Hid (m+1<=aY):=by show _<=_;omega
  clear hB hok hul hn hm hu hr hv h hsz hg1 hg2 hg3 hcap hmax;go_enter func240,ntmps240;go_wp2_with (with_reducible (rw[hW];clear hW));have hm1:(m:Int)+1<=9223372036854775807:=by have:=HM1.out;unfold aY at this;omega
  refine du (fun x=>x=W.drew) 12 (.takes [0,1,2,3,4,5,6,7,8,9,10,11] .leaf) hmx (by kernel_rfl) (by intro c x v a w h;cases x<;>exact h) rfl ?_;repeat(rw[bu];simp only[aB,aC];go_big_quiet_step (fail);refine aV ?_)
  rw[bt,cW];simp only[bR,bQ];go_wp2_with fail;refine bo (ev rfl rfl R) rfl ⟨rfl,HB.out.drew⟩
end
section
theorem AR (b:Nat):∀(vs:List ak) (o:Nat) (w:ah),KeepsOthers w (w.setCells b o vs)
 | [],_,w=>KeepsOthers.refl w
 | v::r,o,w=>(iK w _ v).trans (AR b r (o+1) _)
theorem qw {N b:Nat} (h:N<=b):∀(vs:List ak) (o:Nat) (w:ah),ag N w (w.setCells b o vs)
 | [],_,w=>aI N w
 | v::r,o,w=>((aI N w).setCell (p:=⟨b,o,none⟩) h v).trans (qw h r (o+1) _)
theorem AS (b:Nat):∀(vs:List ak) (o:Nat) (w:ah),(w.setCells b o vs).heap.size=w.heap.size
 | [],_,w=>rfl
 | v::r,o,w=>(AS b r (o+1) _).trans (by simp[World.setCell])
theorem Lj (w:ah) (p:aF) (v:ak):w.grownBy (w.setCell p v) (some p.block):=
 ⟨rfl,rfl,rfl,by simp[World.setCell],fun k _ hne=>eG _ _ _ k (fun e=>hne (by rw[e]))⟩
theorem lS (w:ah) (p:aF) (v:ak):(w.setCell p v).heap.size=w.heap.size:=by simp[World.setCell]
theorem vV {a b c:ah} (h:b.os=a.os/\b.tape=a.tape/\b.output=a.output) (k:c.os=b.os/\c.tape=b.tape/\c.output=b.output):c.os=a.os/\c.tape=a.tape/\c.output=a.output:=
 ⟨k.1.trans h.1,k.2.1.trans h.2.1,k.2.2.trans h.2.2⟩
theorem Lk (b:Nat) (vs:List ak) (o:Nat) (w:ah):(w.setCells b o vs).os=w.os/\(w.setCells b o vs).tape=w.tape/\(w.setCells b o vs).output=w.output:=by
 have:=qw (bc b) vs o w;exact⟨this.os,this.tape,this.output⟩
structure Step (w w':ah) (sb o:Nat) (v:ak):Prop where
 still:w'.os=w.os/\w'.tape=w.tape/\w'.output=w.output
 others:KeepsOthers w w'
 blocks:∀k,k<w.heap.size->k≠sb->some k≠v.ownBlock->w'.heap[k]? =w.heap[k]?
 cells:∀j,j<o\/o+65<=j->w'.cell? ⟨sb,j,none⟩=w.cell? ⟨sb,j,none⟩
 there:∀i m,w.there sb i m->w'.there sb i m
theorem Step.size {w w':ah} {sb o:Nat} {v:ak} (h:Step w w' sb o v):w.heap.size<=w'.heap.size:=h.others.size
theorem Step.refl (w:ah) (sb o:Nat) (v:ak):Step w w sb o v:=⟨⟨rfl,rfl,rfl⟩,KeepsOthers.refl w,fun _ _ _ _=>rfl,fun _ _=>rfl,fun _ _ h=>h⟩
theorem Step.trans {a b c:ah} {sb o:Nat} {v:ak} (h:Step a b sb o v) (k:Step b c sb o v):Step a c sb o v:=
 ⟨vV h.still k.still,h.others.trans k.others,fun i hi h1 h2=>(k.blocks i (bq hi h.size) h1 h2).trans (h.blocks i hi h1 h2),fun j hj=>(k.cells j hj).trans (h.cells j hj),fun i m ht=>k.there i m (h.there i m ht)⟩
theorem Step.drew {a b:ah} {sb o:Nat} {v:ak} (h:Step a b sb o v):Step a b.drew sb o v:=⟨h.still,h.others.trans (KeepsOthers.drew b),h.blocks,h.cells,h.there⟩
theorem Step.alloc {a b:ah} {sb o:Nat} {v:ak} (h:Step a b sb o v) (hsb:sb<b.heap.size) (ob:Obj):Step a (b.alloc ob) sb o v:=
 h.trans ⟨⟨rfl,rfl,rfl⟩,KeepsOthers.alloc b ob,fun k hk _ _=>Below.heap_alloc b ob k hk,fun j _=>World.cell?_alloc_lt _ _ _ hsb,fun i m ht=>World.there_alloc ht ob⟩
theorem Step.setCell {a b:ah} {sb o j:Nat} {v:ak} (h:Step a b sb o v) (h1:o<=j) (h2:j<o+65) (hs:(b.cell? ⟨sb,j,none⟩).isSome=true) (u:ak):Step a (b.setCell ⟨sb,j,none⟩ u) sb o v:=
 h.trans ⟨⟨rfl,rfl,rfl⟩,iK b _ u,fun k hk hne _=>eG _ _ _ k (fun e=>hne e),fun i hi=>World.cell?_setCell_other b _ _ u (fun e=>by cases e;omega),fun i m ht=>World.there_setCells ht sb j [u]⟩
theorem Step.setCells {a b:ah} {sb o:Nat} {v:ak} {c:List ak} (h:Step a b sb o v) (hsb:sb<b.heap.size) (hl:c.length=64):Step a (b.setCells sb o c) sb o v:=
 h.trans ⟨Lk sb c o b,AR sb c o b,fun k hk hne _=>rk b sb o c hk hne,fun i hi=>World.cell?_setCells_out sb c o b _ (fun _ _=>by rw[hl];show i<o\/o+64<=i;omega),fun i m ht=>World.there_setCells ht sb o c⟩
theorem Step.grown {a b c:ah} {sb o:Nat} {v:ak} (h:Step a b sb o v) (hg:b.grownBy c v.ownBlock) (hsb:sb<b.heap.size) (hne:v.ownBlock≠some sb) (hv:∀j ob,v.ownBlock=some j->b.heap[j]? =some ob->ob.isCells=true):Step a c sb o v:=by
 have hb:c.heap[sb]? =b.heap[sb]? :=hg.block sb hsb (fun e=>hne e.symm);exact h.trans ⟨⟨hg.os,hg.tape,hg.output⟩,KeepsOthers.of_grownBy hg hv,fun k hk _ h2=>hg.block k hk h2,fun i _=>gj (a:=⟨sb,i,none⟩) hb,
  fun i m ht j hj=>by rw[gj (a:=⟨sb,i+j,none⟩) hb,World.frozen?_of_block (a:=⟨sb,i+j,none⟩) hb];exact ht j hj⟩
theorem AT {w:ah} {N e size n:Nat} {v:ak} {xs:List ak} (h:w.ownsRow N e size v n xs):∀j ob,v.ownBlock=some j->w.heap[j]? =some ob->ob.isCells=true:=by
 intro j ob hj hb;rcases h.2 with⟨rfl,_⟩ | ⟨g,cap,cur,rfl,_,h2,_⟩
 ·simp[jb]at hj
 ·obtain rfl:g=j:=by simpa [jb]using hj
  rw[h2]at hb;cases hb
  rfl
attribute [-simp] isAgg51 zeroValue51
attribute [-go_sem] aE aL
attribute [local go_sem] bC bD fe ez
theorem Ll (N sb o:Nat) (s:Sec) (v:ak) (w:ah) (h:SecAt w N sb o s v):
  ap aj 207 #[am (some ⟨sb,o,none⟩),ab ac 0] w fun e w'=>e=ao (aQ #[])/\SecAt w' N sb o (s.settle 0) (af none 0 0)/\Step w w' sb o v:=by
 have c1:=h.ver;have f1:w.frozen? ⟨sb,o+64,none⟩=false:=(h.there 64 (by omega)).2;have HH:=ae h;clear h;go_enter func207,ntmps207;go_wp2_with fail
 go_end0
 have h:=HH.out;have hst:Step w (w.setCell ⟨sb,o+64,none⟩ (af none 0 0)) sb o v:=(Step.refl w sb o v).setCell (by omega) (by omega) (by rw[h.ver];rfl) _;refine⟨rfl,⟨h.ok.settle, ?_,World.cell?_setCell_same' _ _ _ (by rw[h.ver];rfl),hst.there _ _ h.there,jc _ _ _ _,by simp[jb]⟩,hst⟩;exact ml h.cont sb (o+64) [af none 0 0] (by rw[h.ok.1.length];omega)
theorem Lm (N sb o m:Nat) (s:Sec) (v:ak) (w:ah) (h:SecAt w N sb o s v) (hm:m<s.vs.length):
  ap aj 207 #[am (some ⟨sb,o,none⟩),ab ac ((m:Int)+1)] w fun e w'=>e=ao (aQ #[])/\SecAt w' N sb o (s.settle (m+1)) (af none 0 0)/\Step w w' sb o v:=by
 have hn:s.vs≠ []:=fun e=>by rw[e]at hm;simp at hm
 have hsb:=h.lt;obtain⟨a,cap,rfl,hcap,hmax,hv⟩:=h.form;obtain⟨g,rfl,hg1,hg2,hg3,hv⟩:=hv hn;obtain⟨u,hu⟩:∃u,s.vs[m]? =some u:=⟨_,aZ hm⟩;have hub:=h.ok.2 u (dp hu);have c1:=h.ver;have L:(aE 51 ⟨g,m*64,none⟩).run aj w=.ok (al u.toArray) w:=gl (hv m u hu) hub.length;obtain⟨W,hW⟩:=w9nm (w.setCells sb o u);have S:(aL 51 ⟨sb,o,none⟩ (al u.toArray)).run aj w=.ok () W:=by rw[←hW];exact pN (fun j hj=>h.there j (by omega)) hub
 have hst0:Step w W sb o (af (some ⟨g,0,none⟩) s.vs.length cap):=by rw[←hW];exact(Step.refl w sb o _).setCells hsb hub.length
 have c2:W.cell? ⟨sb,o+64,none⟩=some (af (some ⟨g,0,none⟩) s.vs.length cap):=by
  rw[←hW,World.cell?_setCells_out sb u o w _ (fun _ _=>by rw[hub.length];exact aD (aG _))];exact h.ver
 have f2:W.frozen? ⟨sb,o+64,none⟩=false:=(hst0.there _ _ h.there 64 (by omega)).2;have r2:W.rangeAt sb o u:=by rw[←hW];exact kz w sb o u (fun j hj=>h.there j (by rw[hub.length]at hj;omega))
 have e1:(s.settle (m+1)).c=u:=by simp[Sec.settle,hu]
 have g1:decide (0< (m:Int)+1)=true:=by simp
 have g2:(m:Int)< (s.vs.length:Int):=by omega
 obtain⟨n,hnn⟩:=w9nm s.vs.length;have HM:Hid ((m:Int)<=(aY:Int)):=by show _<=_;omega
 have HH:=ae h;have H0:=ae hst0;have HE:=ae e1;have HR:=ae r2;have HU:=ae hub;have hm1:wrap64 (m:Int)=(m:Int):=by
  have:=HM.out;unfold aY at this;have e:=IntKind.wrap_i64 (m:Int);show wrap64 _=_;unfold wrap64;omega
 have HNN:=ae hnn;rw[hnn]at c1 c2 g2;clear h hst0 e1 r2 hub hm hn hu hv hcap hmax hW hnn hg1 hg2 hg3 hsb;go_enter func207,ntmps207;go_wp2_with fail
 go_end0
 have h:=HH.out;have hst:Step w (W.setCell ⟨sb,o+64,none⟩ (af none 0 0)) sb o _:=H0.out.setCell (by omega) (by omega) (by rw[c2];rfl) _;refine⟨rfl,⟨h.ok.settle, ?_,World.cell?_setCell_same' _ _ _ (by rw[c2];rfl),hst.there _ _ h.there,jc _ _ _ _,by simp[jb]⟩,by rw[HNN.out]at hst ⊢;exact hst⟩;rw[HE.out];exact ml HR.out sb (o+64) [af none 0 0] (by rw[HU.out.length];omega)
theorem AU (N sb o k:Nat) (s:Sec) (v:ak) (w:ah) (h:SecAt w N sb o s v) (hk:k<=s.vs.length):
  ap aj 207 #[am (some ⟨sb,o,none⟩),ab ac (k:Int)] w fun e w'=>e=ao (aQ #[])/\SecAt w' N sb o (s.settle k) (af none 0 0)/\Step w w' sb o v:=by
 cases k with
 | zero=>exact Ll N sb o s v w h
 | succ m=>exact Lm N sb o m s v w h hk
end
section
theorem vW (w:ah) (b:List ak) (h:b.length=64):(dh 54 1 #[(0,al b.toArray)]).run aj w=.ok (af (some ⟨w.heap.size,0,none⟩) 1 1) (w.alloc (an b.toArray 51)):=by
 have e:(b.zipIdx.foldl (fun cs (x:ak×Nat)=>cs.setIfInBounds (0+x.2) x.1) ((Array.range 64).map (cF[·%cF.size]!)))=b.toArray:=sp b _ (by simp[h]);have e2:b.toArray.zipIdx.foldl (fun cs (x:ak×Nat)=>cs.setIfInBounds (0+x.2) x.1) ((Array.range 64).map (cF[·%cF.size]!))=b.toArray:=by
  rw[←Array.foldl_toList,Array.toList_zipIdx];exact e
 obtain⟨i0,hi,hz0,hz1,hz2⟩:=fy yf;refine run_buildSlice (P:=aj) w 54 51 1 _ b.toArray i0 (al cF) (by kernel_rfl) hi hz0 (by rw[hz1];decide) (by rw[hz1];decide) ?_;rw[hz1];show ir _ _ [(0,Value.agg b.toArray)]=_;simp only[ir];rw[if_neg (by simp[Value.cells,h])]
 congr 1
end
section
attribute [-simp] isAgg51 zeroValue51
attribute [-go_sem] aE aL
attribute [local go_sem] bC bD fe ez
theorem Ln:(aj.info? 51).map (fun i=>(i.zero,i.size,i.bytes))=some (some (al cF),64,64):=yf
set_option maxRecDepth 100000 in
theorem vX (N:Nat) (w:ah) (v:ak) (vs:List (List ak)) (b:List ak) (B:Nat) (hown:w.ownsRow N 51 64 v vs.length vs.flatten) (hb:cz b) (hB:w.rangeAt B 0 b) (hlen:vs.length<=1000000) (hN:N<=w.heap.size):
  ∃v' w',(Builtin.append_ #[54, 54] 54 #[v,af (some ⟨B,0,none⟩) 1 1]).run aj w=.ok v' w'/\w'.ownsRow N 51 64 v' (vs++ [b]).length (vs++ [b]).flatten/\w.grownBy w' v.ownBlock/\(v'.ownBlock=v.ownBlock\/v'.ownBlock=some w.heap.size):=by
 obtain⟨i0,hi,hz0,hz1,hz2⟩:=fy Ln;obtain⟨v',w',hr,h1,h2,_,h3⟩:=run_append_own_at (P:=aj) w N 54 54 51 i0 (al cF) 64 64 Tryz.underlying54 hi hz0 hz1 hz2 gk (by omega) v vs.length vs.flatten hown
  ⟨B,0,none⟩ 1 1 b (by rw[hb.length]) (fun j u hj=>by have:=hB j u hj;rwa [Addr.add_mid]) hb.one (by unfold aY;omega) (by omega) hN
 exact⟨v',w',hr,by simpa using h1,h2,h3⟩
def nQ (sb o B:Nat) (v:ak) (b:List ak):Type:={x:ah // x.cell? ⟨sb,o+64,none⟩=some v/\x.rangeAt B 0 b}
theorem add_few (N sb o:Nat) (s:Sec) (v:ak) (b:List ak) (w:ah) (h:SecAt w N sb o s v) (hb:cz b) (hN:N<=w.heap.size) (hk:¬255<s.vs.length):
  ap aj 228 #[am (some ⟨sb,o,none⟩),al b.toArray] w fun e w'=>e=ao (aQ #[])/\∃v',SecAt w' N sb o (s.add b) v'/\Step w w' sb o v/\(v'.ownBlock=v.ownBlock\/∃k,v'.ownBlock=some k/\w.heap.size<=k):=by
 have hsb:=h.lt;have hf:=h.form;have hown:=h.row;obtain⟨W,hW⟩:=w9nm (w.alloc (an b.toArray 51));have hsz:W.heap.size=w.heap.size+1:=by rw[←hW];simp
 have hst:Step w W sb o v:=by rw[←hW];exact(Step.refl w sb o v).alloc hsb _
 have c1:W.cell? ⟨sb,o+64,none⟩=some v:=by rw[←hW,World.cell?_alloc_lt _ _ _ hsb];exact h.ver
 have r1:W.rangeAt w.heap.size 0 b:=by
  rw[←hW];intro j x hx;rw[dq _ _ _ _ _ _ (cD w _)];simpa using hx
 have hown1:W.ownsRow N 51 64 v s.vs.length s.vs.flatten:=by rw[←hW];exact hown.alloc _
 obtain⟨W2,hW2⟩:=w9nm (W.drew.alloc (an b.toArray 51));have hsb1:sb<W.heap.size:=by omega
 have hsz2:W2.heap.size=W.heap.size+1:=by rw[←hW2];simp
 have hst2:Step w W2 sb o v:=by rw[←hW2];exact hst.drew.alloc hsb1 _
 have c2:W2.cell? ⟨sb,o+64,none⟩=some v:=by rw[←hW2,World.cell?_alloc_lt _ _ _ hsb1];exact c1
 have r2:W2.rangeAt w.heap.size 0 b:=by rw[←hW2];exact World.rangeAt_alloc (by simpa using r1) _
 have r3:W2.rangeAt W.heap.size 0 b:=by
  rw[←hW2];intro j x hx;have:=dq _ _ (0+j) _ _ _ (cD W.drew (an b.toArray 51));exact this.trans (by simpa using hx)
 have hown2:W2.ownsRow N 51 64 v s.vs.length s.vs.flatten:=by rw[←hW2];exact hown1.drew.alloc _
 obtain⟨v',w3,hrun,ho3,hg3,hb3⟩:=vX N W2 v s.vs b W.heap.size hown2 hb r3 (by omega) (by omega);have hap:v.ownBlock≠some sb:=h.apart;have hst3:Step w w3 sb o v:=hst2.grown hg3 (by omega) hap (AT hown2);have c3:w3.cell? ⟨sb,o+64,none⟩=some v:=hg3.cell c2 (fun e=>hap e.symm);have f3:w3.frozen? ⟨sb,o+64,none⟩=false:=(hst3.there _ _ h.there 64 (by omega)).2;have r4:w3.rangeAt w.heap.size 0 b:=fun j x hx=>hg3.cell (r2 j x hx) (fun e=>by have:=(hown.lt _ e.symm).2;simp at this);have hv'sb:v'.ownBlock≠some sb:=by rcases hb3 with e | e<;>rw[e];exact hap;simp;omega
 have hst4:Step w (w3.setCell ⟨sb,o+64,none⟩ v') sb o v:=hst3.setCell (by omega) (by omega) (by rw[c3];rfl) v';have hc4:w3.rangeAt sb o s.c:=fun j x hx=>by
  have hj:j<64:=by have:=(bZ.1 hx).1;rw[h.ok.1.length]at this;exact this
  have e1:W.cell? ⟨sb,o+j,none⟩=some x:=by rw[←hW,World.cell?_alloc_lt _ _ _ hsb];exact h.cont j x hx
  have e2:W2.cell? ⟨sb,o+j,none⟩=some x:=by rw[←hW2,World.cell?_alloc_lt _ _ _ hsb1];exact e1
  exact hg3.cell e2 (fun e=>hap e.symm)
 have hadd:s.add b=⟨s.c,s.vs++ [b]⟩:=by unfold Sec.add;rw[if_neg hk]
 have hfin:SecAt (w3.setCell ⟨sb,o+64,none⟩ v') N sb o (s.add b) v':=by
  refine⟨h.ok.add hb, ?_,World.cell?_setCell_same' _ _ _ (by rw[c3];rfl),hst4.there _ _ h.there, ?_,hv'sb⟩
  ·rw[hadd];exact ml hc4 sb (o+64) [v'] (by rw[h.ok.1.length];omega)
  ·rw[hadd];exact ho3.kept (Lj w3 ⟨sb,o+64,none⟩ v') (aD hv'sb)
 have HF:=ae hfin;have HV:Hid (∃a' cap',v'=af a' (s.add b).vs.length cap'):=by obtain⟨a',cap',e,_⟩:=hfin.form;exact⟨a',cap',e⟩
 have HB:Hid ((dh 54 1 #[(0,al b.toArray)]).run aj W.drew=.ok (af (some ⟨W.heap.size,0,none⟩) 1 1) W2):=by rw[←hW2];exact vW W.drew b hb.length
 have HS:=ae hst4;have HN:Hid (v'.ownBlock=v.ownBlock\/∃k,v'.ownBlock=some k/\w.heap.size<=k):=hb3.imp id fun e=>⟨_,e,by omega⟩;have HA:=ae hrun;have hC:∀x:nQ sb o w.heap.size v b,x.1.cell? ⟨sb,o+64,none⟩=some v:=fun x=>x.2.1;have hL:∀x:nQ sb o w.heap.size v b,(aE 51 ⟨w.heap.size,0,none⟩).run aj x.1=.ok (al b.toArray) x.1:=fun x=>gl x.2.2 hb.length
 haveI hne:Nonempty (nQ sb o w.heap.size v b):=⟨⟨W,c1,r1⟩⟩
 have K1:Hid (∃y:nQ sb o w.heap.size v b,W.drew=y.1):=⟨⟨W.drew,c1,by simpa using r1⟩,rfl⟩;have K2:Hid (∃y:nQ sb o w.heap.size v b,W2=y.1):=⟨⟨W2,c2,r2⟩,rfl⟩;have K3:Hid (∃y:nQ sb o w.heap.size v b,w3=y.1):=⟨⟨w3,c3,r4⟩,rfl⟩;obtain⟨a,cap,hva, -, -, -⟩:=hf;obtain⟨n,hn⟩:=w9nm s.vs.length;rw[hn]at hva hk;have g1:decide ((255:Int)< (n:Int))=false:=by simp;omega
 subst hva;have hmx:=w9x
 have HSZ:=ae hsz;clear h hown hst hown1 hsz2 hst2 hown2 ho3 hg3 hb3 hap hst3 hv'sb hst4 hc4 hadd hfin hrun hn hk c2 r1 r2 r3 r4 hsb hsb1 hsz;go_enter func228,ntmps228;go_wp2_with (with_reducible (rw[hW];clear hW));refine du (fun x=>∃y:nQ sb o w.heap.size (af a n cap) b,x=y.1) 8 (.takes [0,1,2,3,4,5] (.one 6 (.one 7 .leaf))) hmx (by kernel_rfl) (by intro c x v a w h;cases x<;>exact h) K1.out ?_;repeat(rw[bu];simp only[aB,aC];go_big_quiet_step (fail);refine aV ?_)
 rw[bt,aT];simp only[aB,aC]
 (with_reducible refine iu ?_)
 refine dR _ _ _ rfl rfl [(0,al b.toArray)] _ rfl HB.out ?_;go_wp2_with fail;refine aN K2.out ?_;rw[aT];simp only[aB,aC];refine wpList_append_run (.tmp 20) (.tmp 22) 54 rfl rfl _ _ _ rfl rfl HA.out ?_;go_wp2_with fail;refine aN K3.out ?_;rw[cW];simp only[bR,bQ];obtain⟨a',cap',rfl⟩:=HV.out;go_wp2_with fail
 go_end0
 exact⟨rfl,_,HF.out,HS.out,HN.out⟩
def jp (rb sb n:Nat) (sv:Nat->ak) (k:Nat):Prop:=k=rb\/k=sb\/∃i,i<n/\(sv i).ownBlock=some k
structure DskAt (w:ah) (rb sb n:Nat) (sv:Nat->ak) (D:Nat->Sec):Prop where
 head:Boxed w rb 263 (af (some ⟨sb,0,none⟩) n n)
 ne:rb≠sb
 max:n<=4096
 secs:∀i,i<n->SecAt w 0 sb (i*65) (D i) (sv i)
 far:∀i,i<n->(sv i).ownBlock≠some rb
 apart:∀i j,i<n->j<n->i≠j->∀k,(sv i).ownBlock=some k->(sv j).ownBlock≠some k
def Disk (w:ah) (rb n:Nat) (f:Nat->Prop) (D:Nat->Sec):Prop:=∃sb sv,DskAt w rb sb n sv D/\f=jp rb sb n sv
structure Turn (f f':Nat->Prop) (w w':ah):Prop where
 still:w'.os=w.os/\w'.tape=w.tape/\w'.output=w.output
 others:KeepsOthers w w'
 out:∀k,k<w.heap.size->¬f k->w'.heap[k]? =w.heap[k]?
 new:∀k,f' k->f k\/w.heap.size<=k
theorem Turn.size {f f':Nat->Prop} {w w':ah} (h:Turn f f' w w'):w.heap.size<=w'.heap.size:=h.others.size
theorem Turn.refl (f:Nat->Prop) (w:ah):Turn f f w w:=⟨⟨rfl,rfl,rfl⟩,KeepsOthers.refl w,fun _ _ _=>rfl,fun k h=>aA h⟩
theorem Turn.trans {f f' f'':Nat->Prop} {a b c:ah} (h:Turn f f' a b) (k:Turn f' f'' b c):Turn f f'' a c:=
 ⟨vV h.still k.still,h.others.trans k.others,fun i hi hn=>(k.out i (bq hi h.size) (fun hf=>(h.new i hf).elim hn (fun h'=>absurd h' (Nat.not_le.2 hi)))).trans (h.out i hi hn),
  fun i hi=>(k.new i hi).elim (h.new i) (fun h'=>aD (bm h.size h'))⟩
theorem SecAt.kept {w w':ah} {N sb o:Nat} {s:Sec} {v:ak} (h:SecAt w N sb o s v) (h1:w'.heap[sb]? =w.heap[sb]?) (h2:∀g,v.ownBlock=some g->w'.heap[g]? =w.heap[g]?):SecAt w' N sb o s v:=by
 refine⟨h.ok,fun j x hx=>(gj (a:=⟨sb,o+j,none⟩) h1).trans (h.cont j x hx),(gj (a:=⟨sb,o+64,none⟩) h1).trans h.ver,
  fun j hj=>⟨by rw[gj (a:=⟨sb,o+j,none⟩) h1];exact(h.there j hj).1,by rw[World.frozen?_of_block (a:=⟨sb,o+j,none⟩) h1];exact(h.there j hj).2⟩,⟨h.row.1, ?_⟩,h.apart⟩
 rcases h.row.2 with h' | ⟨g,cap,cur,rfl,a1,a2,a3⟩
 ·exact aA h'
 ·exact aD ⟨g,cap,cur,rfl,a1,(h2 g rfl).trans a2,a3⟩
theorem DskAt.kept {w w':ah} {rb sb n:Nat} {sv:Nat->ak} {D:Nat->Sec} (h:DskAt w rb sb n sv D) (hk:∀k,jp rb sb n sv k->w'.heap[k]? =w.heap[k]?):DskAt w' rb sb n sv D:=
 ⟨(hk rb (aA rfl)).trans h.head,h.ne,h.max,fun i hi=>(h.secs i hi).kept (hk sb (aD (aA rfl))) (fun g hg=>hk g (aD (aD ⟨i,hi,hg⟩))),h.far,h.apart⟩
theorem DskAt.lt {w:ah} {rb sb n:Nat} {sv:Nat->ak} {D:Nat->Sec} (h:DskAt w rb sb n sv D) (hn:0<n) {k:Nat} (hk:jp rb sb n sv k):k<w.heap.size:=by
 rcases hk with rfl | rfl | ⟨i,hi,hk⟩
 ·exact h.head.lt
 ·exact(h.secs 0 hn).lt
 ·exact((h.secs i hi).row.lt k hk).2
theorem DskAt.isCells {w:ah} {rb sb n:Nat} {sv:Nat->ak} {D:Nat->Sec} (h:DskAt w rb sb n sv D) (hn:0<n) {k:Nat} (hk:jp rb sb n sv k) {ob:Obj} (ho:w.heap[k]? =some ob):ob.isCells=true:=by
 rcases hk with rfl | rfl | ⟨i,hi,hk⟩
 ·rw[show w.heap[k]? =_ from h.head]at ho;cases ho;rfl
 ·have:=(h.secs 0 hn).ver;obtain⟨o,h1,h2⟩:=cells_of_cell this;rw[h1]at ho;cases ho;exact h2
 ·exact AT (h.secs i hi).row k ob hk ho
theorem DskAt.step {w w':ah} {rb sb n i:Nat} {sv:Nat->ak} {D:Nat->Sec} {s':Sec} {v':ak} (h:DskAt w rb sb n sv D) (hi:i<n) (hs:Step w w' sb (i*65) (sv i)) (hs':SecAt w' 0 sb (i*65) s' v')
  (hv:v'.ownBlock=none\/v'.ownBlock=(sv i).ownBlock\/∃k,v'.ownBlock=some k/\w.heap.size<=k):DskAt w' rb sb n (upd sv i v') (upd D i s'):=by
 have hlt:∀j,j<n->∀k,(sv j).ownBlock=some k->k<w.heap.size:=fun j hj k hk=>((h.secs j hj).row.lt k hk).2;have hfar:∀j,j<n->(upd sv i v' j).ownBlock≠some rb:=fun j hj=>by
  by_cases e:j=i
  ·subst e;rw[kg];rcases hv with e | e | ⟨k,e,hk⟩<;>rw[e]
   ·simp
   ·exact h.far j hj
   ·have:=h.head.lt;simp;omega
  ·rw[ji _ _ e];exact h.far j hj
 refine⟨(hs.blocks rb h.head.lt h.ne (fun e=>h.far i hi e.symm)).trans h.head,h.ne,h.max,fun j hj=> ?_,hfar,fun a b ha hb hab k hka hkb=> ?_⟩
 ·by_cases e:j=i
  ·subst e;rw[kg,kg];exact hs'
  ·rw[ji _ _ e,ji _ _ e];have hj':=h.secs j hj;have hr:j*65+65<=i*65\/i*65+65<=j*65:=by omega
   refine⟨hj'.ok,fun m x hx=> ?_,(hs.cells _ (by omega)).trans hj'.ver,hs.there _ _ hj'.there,⟨hj'.row.1, ?_⟩,hj'.apart⟩
   ·have hm:m<64:=by have:=(bZ.1 hx).1;rw[hj'.ok.1.length]at this;exact this
    exact(hs.cells _ (by omega)).trans (hj'.cont m x hx)
   ·rcases hj'.row.2 with h' | ⟨g,cap,cur,hg,a1,a2,a3⟩
    ·exact aA h'
    ·refine aD ⟨g,cap,cur,hg,a1, ?_,a3⟩;have hg':(sv j).ownBlock=some g:=by rw[hg];rfl
     rw[hs.blocks g (hlt j hj g hg') (fun e'=>hj'.apart (by rw[hg',e'])) (fun e'=>h.apart j i hj hi e g hg' e'.symm)];exact a2
 ·have key:∀j,j<n->j≠i->∀k,v'.ownBlock=some k->(sv j).ownBlock≠some k:=fun j hj hji k hk hk'=>by
   rcases hv with e | e | ⟨k',e,hk2⟩
   ·rw[e]at hk;cases hk
   ·rw[e]at hk;exact h.apart j i hj hi hji k hk' hk
   ·rw[e]at hk;cases hk;have:=hlt j hj _ hk';omega
  by_cases e1:a=i
  ·by_cases e2:b=i
   ·omega
   ·subst e1;rw[kg]at hka;rw[ji _ _ e2]at hkb;exact key b hb e2 k hka hkb
  ·rw[ji _ _ e1]at hka;by_cases e2:b=i
   ·subst e2;rw[kg]at hkb;exact key a ha e1 k hkb hka
   ·rw[ji _ _ e2]at hkb;exact h.apart a b ha hb hab k hka hkb
theorem DskAt.turn {w w':ah} {rb sb n i:Nat} {sv:Nat->ak} {D:Nat->Sec} {v':ak} (h:DskAt w rb sb n sv D) (hi:i<n) (hs:Step w w' sb (i*65) (sv i))
  (hv:v'.ownBlock=none\/v'.ownBlock=(sv i).ownBlock\/∃k,v'.ownBlock=some k/\w.heap.size<=k):Turn (jp rb sb n sv) (jp rb sb n (upd sv i v')) w w':=by
 refine⟨hs.still,hs.others,fun k hk hn=>hs.blocks k hk (fun e=>hn (aD (aA e))) (fun e=>hn (aD (aD ⟨i,hi,e.symm⟩))),fun k hk=> ?_⟩;rcases hk with rfl | rfl | ⟨j,hj,hk⟩
 ·exact aA (aA rfl)
 ·exact aA (aD (aA rfl))
 ·by_cases e:j=i
  ·subst e;rw[kg]at hk;rcases hv with e | e | ⟨k',e,hk2⟩
   ·rw[e]at hk;cases hk
   ·rw[e]at hk;exact aA (aD (aD ⟨j,hj,hk⟩))
   ·rw[e]at hk;cases hk;exact aD hk2
  ·rw[ji _ _ e]at hk;exact aA (aD (aD ⟨j,hj,hk⟩))
theorem Disk.out {w w':ah} {rb n:Nat} {f:Nat->Prop} {D:Nat->Sec} (h:Disk w rb n f D) (hk:∀k,f k->w'.heap[k]? =w.heap[k]?):Disk w' rb n f D:=by
 obtain⟨sb,sv,h,rfl⟩:=h;exact⟨sb,sv,h.kept hk,rfl⟩
theorem Disk.lt {w:ah} {rb n:Nat} {f:Nat->Prop} {D:Nat->Sec} (h:Disk w rb n f D) (hn:0<n):∀k,f k->k<w.heap.size:=by
 obtain⟨sb,sv,h,rfl⟩:=h;exact fun k hk=>h.lt hn hk
theorem Disk.below {w w':ah} {rb n:Nat} {f:Nat->Prop} {D:Nat->Sec} (h:Disk w rb n f D) (hn:0<n) (hb:ag w.heap.size w w'):Disk w' rb n f D:=
 h.out fun k hk=>hb.block k (h.lt hn k hk)
theorem Disk.ok {w:ah} {rb n:Nat} {f:Nat->Prop} {D:Nat->Sec} (h:Disk w rb n f D) {i:Nat} (hi:i<n):(D i).Ok:=by obtain⟨sb,sv,h,rfl⟩:=h;exact(h.secs i hi).ok
theorem qy (rb n:Nat) (f:Nat->Prop) (D:Nat->Sec) (w:ah) (h:Disk w rb n f D):
  ap aj 226 #[am (some ⟨rb,0,none⟩)] w fun e w'=>e=ao (ab ac (n:Int))/\w'=w:=by
 obtain⟨sb,sv,h,rfl⟩:=h;have c1:=h.head.cell;clear h;go_enter func226,ntmps226;go_wp2;go_ret;exact⟨rfl,rfl⟩
theorem vY (w:ah):
  ap aj 226 #[am none] w fun e w'=>e=ao (ab ac 0)/\w'=w:=by
 go_enter func226,ntmps226;go_wp2;go_ret;exact⟨rfl,rfl⟩
theorem AV (p:Option aF) (n:Nat) (i:Int) (w:ah) (hl:ap aj 226 #[am p] w fun e w'=>e=ao (ab ac (n:Int))/\w'=w):
  ap aj 227 #[am p,ab ac i] w fun e w'=>e=ao (.bool (decide (0<=i/\i< (n:Int))))/\w'=w:=by
 have HL:=ae hl;clear hl;by_cases h0:0<=i
 ·have g0:decide (0<=i)=true:=by simpa using h0
  have HE:Hid (decide (i< (n:Int))=decide (0<=i/\i< (n:Int))):=by show _=_;simp[h0]
  go_enter func227,ntmps227;go_wp2_with fail;refine HL.out.mono ?_;rintro e w' ⟨rfl,rfl⟩;go_wp2_with fail;go_ret;exact⟨by rw[←HE.out];rfl,rfl⟩
 ·have g0:decide (0<=i)=false:=by simpa using h0
  have HE:Hid (false=decide (0<=i/\i< (n:Int))):=by show _=_;simp[h0]
  go_enter func227,ntmps227;go_wp2_with fail;go_ret;exact⟨rfl,rfl⟩
theorem AW (rb n i:Nat) (f:Nat->Prop) (D:Nat->Sec) (w:ah) (h:Disk w rb n f D) (hi:i<n):
  ap aj 165 #[am (some ⟨rb,0,none⟩),ab ac (i:Int)] w fun e w'=>e=ao (aQ #[al (D i).look.toArray,ab ac 0])/\ag w.heap.size w w':=by
 obtain⟨W,hW⟩:=w9nm (w.alloc (an cF 51));have hB:ag w.heap.size w W:=by rw[←hW];exact(aI _ w).alloc (aG _) _
 have h':=h.below (by omega) hB;have hok:cz (D i).look:=(h.ok hi).look;have HH:=ae (AV _ n (i:Int) W (qy rb n f D W h'));have HE:Hid (decide (0<=(i:Int)/\(i:Int)< (n:Int))=true):=by show _=_;simp;omega
 obtain⟨sb,sv,hd,rfl⟩:=h';have c1:=hd.head.cell;have HY:=ae (Li 0 sb (i*65) (D i) (sv i) W (hd.secs i hi));obtain⟨u,hu⟩:=w9nm ((D i).look);rw[hu]at HY hok ⊢;have g1:(i:Int)< (n:Int):=by omega
 have K:Hid (∀w',ag W.heap.size W w'->∃w'',(aL 51 ⟨w.heap.size,0,none⟩ (al u.toArray)).run aj w'=.ok () w''/\(aE 51 ⟨w.heap.size,0,none⟩).run aj w''=.ok (al u.toArray) w''/\ag w.heap.size w w''):=by
  intro w' hb;have hlt:w.heap.size<W.heap.size:=by rw[←hW];simp
  have hblk:w'.heap[w.heap.size]? =some (an cF 51 (0,0)):=(hb.block _ hlt).trans (by rw[←hW];exact cD w _);have ht:w'.there w.heap.size 0 64:=fun j hj=>by
   have hcell:=dq w' w.heap.size (0+j) cF _ _ hblk;refine⟨?_, ?_⟩
   ·rw[hcell];simp[gk];omega
   ·simp[World.frozen?,hblk]
  have hs:=pN ht hok;refine⟨_,hs,gl (kz w' _ 0 u (by rw[hok.length];exact ht)) hok.length, ?_⟩;exact hB.trans ((hb.mono (jt hlt)).trans (qw (aG _) _ _ _))
 clear hd hB h hok hi hu;go_enter func165,ntmps165;go_wp2_with fail;clear hW;refine HH.out.mono ?_;rintro e w' ⟨rfl,rfl⟩;rw[HE.out];go_wp2_with fail;refine HY.out.mono ?_;rintro e w' ⟨rfl,hb⟩;obtain⟨w'',S,R,hB2⟩:=K.out w' hb;have HB2:=ae hB2;clear hb hB2;go_wp2_with fail;exact bo (eH rfl rfl R) rfl ⟨rfl,HB2.out⟩
theorem Turn.of_below {f:Nat->Prop} {w W:ah} (h:ag w.heap.size w W):Turn f f w W:=
 ⟨⟨h.os,h.tape,h.output⟩,⟨h.size,fun k o hk _=>(h.block k (bL.1 hk).1).trans hk⟩,fun k hk _=>h.block k hk,fun _ hk=>aA hk⟩
theorem Turn.below {f f':Nat->Prop} {w W:ah} {N:Nat} (h:Turn f f' w W) (hN:N<=w.heap.size) (hf:∀k,f k->N<=k):ag N w W:=
 ⟨h.still.1,h.still.2.1,h.still.2.2,h.size,fun k hk=>h.out k (by omega) (fun hfk=>by have:=hf k hfk;omega)⟩
theorem AX (rb n i:Nat) (f:Nat->Prop) (D:Nat->Sec) (b:List ak) (w:ah) (h:Disk w rb n f D) (hi:i<n) (hb:cz b) (hk:¬255< (D i).vs.length):
  ap aj 152 #[am (some ⟨rb,0,none⟩),ab ac (i:Int),al b.toArray] w fun e w'=>e=ao (ab ac 0)/\∃f',Disk w' rb n f' (upd D i ((D i).add b))/\Turn f f' w w':=by
 obtain⟨W,hW⟩:=w9nm (w.alloc (an b.toArray 51));have hB:ag w.heap.size w W:=by rw[←hW];exact(aI _ w).alloc (aG _) _
 have h':=h.below (by omega) hB;have HH:=ae (AV _ n (i:Int) W (qy rb n f D W h'));have HE:Hid (decide (0<=(i:Int)/\(i:Int)< (n:Int))=true):=by show _=_;simp;omega
 obtain⟨sb,sv,hd,rfl⟩:=h';have HA:Hid (ap aj 228 #[am (some ⟨sb,i*65,none⟩),al b.toArray] W.drew fun e w'=>e=ao (aQ #[])/\∃f',Disk w' rb n f' (upd D i ((D i).add b))/\Turn (jp rb sb n sv) f' w w'):=by
  have hs:SecAt W.drew 0 sb (i*65) (D i) (sv i):=(hd.secs i hi).kept rfl (fun _ _=>rfl);refine(add_few 0 sb (i*65) (D i) (sv i) b W.drew hs hb (bc _) hk).mono ?_;rintro e w' ⟨rfl,v',h1,h2,h3⟩;have hd':DskAt W.drew rb sb n sv D:=hd.kept fun _ _=>rfl;have h3':v'.ownBlock=none\/v'.ownBlock=(sv i).ownBlock\/∃k,v'.ownBlock=some k/\W.drew.heap.size<=k:=aD h3;exact⟨rfl,_,⟨sb,_,hd'.step hi h2 h1 h3',rfl⟩,(Turn.of_below hB.drew).trans (hd'.turn hi h2 h3')⟩
 have c1:=hd.head.cell;have L:(aE 51 ⟨w.heap.size,0,none⟩).run aj W.drew=.ok (al b.toArray) W.drew:=by rw[←hW];exact rt (w:=w.drew) (by simpa using hb.length)
 have hmx:=w9x
 have G1:Hid ((i:Int)< (n:Int)):=by show _<_;omega
 clear hd h hi hb hk hB;go_enter func152,ntmps152;go_wp2_with fail;clear hW;refine HH.out.mono ?_;rintro e w' ⟨rfl,hw⟩;obtain rfl:=hw.symm;rw[HE.out];go_wp2_with fail;have g1:=G1.out;refine du (fun x=>x=W.drew) 7 (.takes [0,1,2,3,4,5,6] .leaf) hmx (by kernel_rfl) (by intro c x v a w h;cases x<;>exact h) rfl ?_;repeat(rw[bu];simp only[aB,aC];go_big_quiet_step (fail);refine aV ?_)
 rw[bt,cW];simp only[bR,bQ];go_wp2_with fail;refine HA.out.mono ?_;rintro e w' ⟨rfl,hf⟩;have HF:=ae hf;clear hf;go_wp2_with fail;go_ret;exact⟨rfl,HF.out⟩
def jN:Sec:=⟨bf 0, []⟩
theorem AY:jN.Ok:=⟨eV 0,fun v hv=>by cases hv⟩
def mG:Array ak:=(bf 0++ [Value.slice none 0 0]).toArray
theorem AZ:mG.size=65:=by simp[mG,bf]
theorem Lo:(aj.info? 298).map (fun i=>(i.zero,i.size,i.bytes))=some (some (al mG),65,88):=by kernel_rfl
theorem Ba (z:Array ak) (k:Nat) (hz:z.size=k) (hk:0<k) (n i j:Nat) (hi:i<n) (hj:j<k):(madeCells z (n*k))[i*k+j]? =z[j]? :=by
 have h1:i*k+j<n*k:=by
  have:(i+1)*k<=n*k:=Nat.mul_le_mul_right k hi;rw[Nat.add_mul]at this;omega
 have h2:(i*k+j)%k=j:=by rw[Nat.mul_comm,Nat.mul_add_mod,Nat.mod_eq_of_lt hj]
 unfold madeCells;simp only[Array.getElem?_map,hz];rw[Array.getElem?_range,if_pos h1];simp only[Option.map_some,h2];rw[getElem!_pos z j (by omega),Array.getElem?_eq_getElem (by omega)]
theorem vZ {w:ah} {base e n g size:Nat} {xs:List ak} (h:w.ownsRow base e size (af (some ⟨g,0,none⟩) n n) n xs):w.heap[g]? =some (an xs.toArray e (0,0)):=by
 rcases h.2 with⟨h',_⟩ | ⟨g',cap,cur,h',_,hg,_,_,hs,ht⟩
 ·simp at h'
 ·simp only[Value.slice.injEq,Option.some.injEq,Addr.mk.injEq,and_true,true_and]at h';obtain⟨rfl,rfl⟩:=h';rw[hg,←ht,de (by rw[Array.length_toList];omega)]
theorem Lp {w:ah} {rb sb n:Nat} (hr:Boxed w rb 263 (af (some ⟨sb,0,none⟩) n n)) (hs:w.heap[sb]? =some (an (madeCells mG (n*65)) 298 (0,0))) (hne:rb≠sb) (hn:n<=4096):
  DskAt w rb sb n (fun _=>af none 0 0) (fun _=>jN):=by
 have hc:∀i j,i<n->j<65->w.cell? ⟨sb,i*65+j,none⟩=mG[j]? :=fun i j hi hj=>by
  rw[dq _ _ _ _ _ _ hs];exact Ba mG 65 AZ (by omega) n i j hi hj
 refine⟨hr,hne,hn,fun i hi=>⟨AY,fun j x hx=> ?_, ?_,fun j hj=>⟨?_,by simp[World.frozen?,hs]⟩,jc _ _ _ _,by simp[jb]⟩,fun _ _=>by simp[jb],fun _ _ _ _ _ _ h=>by simp[jb]at h⟩
 ·have hj:j<64:=by have:=(bZ.1 hx).1;rw[AY.1.length]at this;exact this
  rw[hc i j hi (by omega),←hx];show((bf 0++ [Value.slice none 0 0]).toArray)[j]? =(bf 0)[j]?;rw[List.getElem?_toArray,fS (by rw[(eV 0).length];exact hj)]
 ·rw[hc i 64 hi (by omega)];rfl
 ·rw[hc i j hi hj,Array.getElem?_eq_getElem (by rw[AZ];exact hj)];rfl
set_option maxRecDepth 100000 in
theorem Be (n:Nat) (w:ah) (h1:1<=n) (h2:n<=4096):
  ap aj 78 #[ab ac (n:Int)] w fun e w'=>∃rb,e=ao (aQ #[am (some ⟨rb,0,none⟩),ab ac 0])/\(∃f,Disk w' rb n f (fun _=>jN)/\∀k,f k->w.heap.size<=k)/\ag w.heap.size w w':=by
 obtain⟨i0,hi,hz0,hz1,hz2⟩:=fy Lo;have g1:decide ((n:Int)<1)=false:=by simp;omega
 have g2:decide (4096< (n:Int))=false:=by simp;omega
 go_enter func78,ntmps78;go_wp2_with (first | (at_make;refine wpList_make_full _ rfl _ _ 261 rfl w.heap.size 298 i0 (al mG) 65 Tryz.underlying261 hi hz0 hz1 ac ac _ _ n rfl rfl rfl rfl (by rw[hz2];omega) (by unfold aY;omega) (by simp) ?_;intro w1 hown1 hgrow1));have hrow:=vZ hown1;rw[show(Value.agg mG).cells=mG from rfl]at hrow;have hlt:w.heap.size<w1.heap.size:=(bL.1 hrow).1;go_ret2;refine⟨_,rfl,⟨_,⟨w.heap.size,_,Lp (dD _ _ _) ?_ (by omega) h2,rfl⟩, ?_⟩, ?_⟩
 ·rw[Below.heap_alloc _ _ _ hlt];simpa using hrow
 ·intro k hk;rcases hk with rfl | rfl | ⟨i,hi,hk⟩
  ·omega
  ·omega
  ·simp[jb]at hk
 ·exact((aI _ w).grown hgrow1 (aG _) (fun k e=>by cases e)).alloc (by omega) _
end
section
attribute [-simp] isAgg51 zeroValue51
attribute [-go_sem] aE aL
attribute [local go_sem] bC bD fe ez
attribute [local go_sem] Oper.semAt_some
def cZ (D:Nat->Sec) (k:Nat):List Nat:=(cI k).filter fun i=> !(D i).vs.isEmpty
theorem Lq {D:Nat->Sec} {k:Nat} (h:(D k).vs≠ []):cZ D (k+1)=cZ D k++ [k]:=by
 unfold cZ;rw[List.range_succ,lG];simp[h]
theorem Lr {D:Nat->Sec} {k:Nat} (h:(D k).vs= []):cZ D (k+1)=cZ D k:=by
 unfold cZ;rw[List.range_succ,lG];simp[h]
theorem wd {D:Nat->Sec} {k i:Nat} (h:i ∈ cZ D k):i<k:=by
 have:=(lH.1 h).1
 simpa using this
theorem qz {D:Nat->Sec} {k i:Nat} (h:i ∈ cZ D k):(D i).vs≠ []:=by
 have:=(lH.1 h).2
 simpa using this
theorem sR {D:Nat->Sec} {k i:Nat} (hi:i<k) (h:(D i).vs≠ []):i ∈ cZ D k:=by
 unfold cZ;rw[lH];exact⟨by simpa using hi,by simpa using h⟩
theorem Ls (D:Nat->Sec) (k:Nat):(cZ D k).length<=k:=by
 have:=List.length_filter_le (fun i=> !(D i).vs.isEmpty) (cI k)
 simpa [cZ]using this
def qA (sb:Nat) (i:Nat):Array ak:=#[ab ac (i:Int),am (some ⟨sb,i*65,none⟩)]
def Bf (Bd rb sb n:Nat) (D0:Nat->Sec) (pre:List Nat) (W:ah):Prop:=
 Boxed W Bd 134 (am (some ⟨rb,0,none⟩))/\∃sv D,DskAt W rb sb n sv D/\∀i,i<n->i ∉ pre->(D i).vs.length=(D0 i).vs.length
def Bk (n:Nat) (D0:Nat->Sec) (pre:List Nat) (x:Nat):Prop:=∃k,k<n/\pre=cZ D0 k/\x=k/\(D0 k).vs≠ []
theorem Lt (Bd rb sb n:Nat) (D0:Nat->Sec) (l:Nat) (J Jx:List Nat->ah->Prop) (hR:∀pre W,J pre W->Bf Bd rb sb n D0 pre W)
  (hY:∀pre x W,J pre W->Bk n D0 pre x->YieldAt Fence.wide 1 aj l (qA sb x) W fun e W'=>
   (e=ao (.bool true)/\J (pre++ [x]) W')\/(e=ao (.bool false)/\Jx (pre++ [x]) W'))
  (W:ah) (h0:J [] W):
  CallsIn Fence.wide 2 aj 262 #[.func (.yield l) #[] #[],am (some ⟨Bd,0,none⟩)] W fun e W'=>(∃v,e=ao v)/\
   ((∃xs,xs=cZ D0 n/\J xs W')\/(∃pre,Jx pre W')):=by
 refine callsIn_of_wp func262 rfl trivial ?_ rfl;simp only[ntmps262,cJ,bz,cx,Nat.reduceAdd,Nat.reduceSub,cO,cP,cQ,cR,cy,cC];obtain⟨hbx,sv,D,hd,hD⟩:=hR _ _ h0;have hbc:=hbx.cell;have HL:=ae (qy rb n _ D W ⟨sb,sv,hd,rfl⟩);clear hbx hd hD
 gi_wp2_with (refine⟨trivial, ?_⟩;gi_at_call 226;refine(callsIn_wide.2 HL.out).mono ?_;rintro e w' ⟨rfl,rfl⟩)
 clear hbc HL
 gi_loopw [7] (fun i wr=>∃k:Nat,k<=n/\i=ab ac k/\J (cZ D0 k) wr) (fun i _=>n - (aS i).toNat)
 case atStart=>exact⟨0,bc _,rfl,h0⟩
 case round=>
  obtain⟨k,hk,rfl,hJs⟩:=hrel;by_cases hlt:k<n
  ·obtain⟨hbx,sv,D,hd,hD⟩:=hR _ _ hJs;have hbc:=hbx.cell;have hhc:=hd.head.cell;have hlen:=hD k hlt (fun hm=>by have:=wd hm;omega);have hver:=(hd.secs k hlt).ver;obtain⟨a,cap,hf, -⟩:=(hd.secs k hlt).form;rw[hf,hlen]at hver;have hb1:(k:Int)< (n:Int):=by omega
   have HW:Hid (wrap64 ((k:Int)+1)=(k:Int)+1):=kR _ (by have:=hd.max;omega);clear hbx hd hD hlen hf;by_cases hv:(D0 k).vs= []
   ·have hz:(D0 k).vs.length=0:=by rw[hv];rfl
    rw[hz]at hver;have hnext:=Lr hv;have HN:=ae hnext;clear hv hz hnext
    gi_wp2
    refine⟨fun _ h=>(by cases h), ?_⟩
    gi_wp2
    go_roundw
    case rel=>exact uJ (C:=fun k=>J (cZ D0 k) wr) HW.out hlt (by rw[HN.out];exact hJs)
    case measure=>
      exact uK HW.out hlt
   ·obtain⟨fn,tmps,assign,body,hy,hYr⟩:=hY _ k wr hJs ⟨k,hlt,rfl,rfl,hv⟩
    dsimp only[qA]at hy
    obtain⟨m,hm⟩:=w9nm ((D0 k).vs.length);have hm0:(0:Int)< (m:Int):=by have:=List.length_pos_iff.2 hv;omega
    rw[hm]at hver;have hnext:=Lq hv;have HN:=ae hnext;clear hv hm hnext
    gi_wp2
    refine hYr.mono ?_;rintro e W3 (⟨rfl,hJ3⟩ | ⟨rfl,hJx3⟩)
    ·gi_wp2
     go_roundw
     case rel=>exact uJ (C:=fun k=>J (cZ D0 k) W3) HW.out hlt (by rw[HN.out];exact hJ3)
     case measure=>
      exact uK HW.out hlt
    ·gi_wp2
     refine bo (results_none rfl _ _ _) rfl ?_;exact⟨⟨_,rfl⟩,aD ⟨_,hJx3⟩⟩
  ·obtain rfl:k=n:=by omega
   gi_wp2
   go_end0
   exact⟨⟨_,rfl⟩,aA ⟨_,rfl,hJs⟩⟩
theorem oJ.mono {α:Type} {F:Fence} {n:Nat} {P:Program} {g:Nat} {lb:Array ak} {encs:α->Array ak} {R R':List α->ah->Prop} {Ok:List α->α->Prop} {S:List α->Prop} {w:ah}
  (h:oJ F n P g lb encs R Ok S w) (hR:∀pre W,R' pre W->R pre W):oJ F n P g lb encs R' Ok S w:=
 fun l J Jx W hW hJ hA hAx hY h0=>h l J Jx W hW (fun pre W' hj=>hR pre W' (hJ pre W' hj)) hA hAx hY h0
theorem Bm (Bd rb sb n:Nat) (D0:Nat->Sec) (w:ah):oJ Fence.wide 2 aj 262 #[am (some ⟨Bd,0,none⟩)] (qA sb) (Bf Bd rb sb n D0) (Bk n D0) (fun xs=>xs=cZ D0 n) w:=
 fun l J Jx W _ hR _ _ hY h0=>Lt Bd rb sb n D0 l J Jx hR hY W h0
theorem Bo (F:Fence) (n:Nat) (hf:F.fn 206) (hro:F.round=none) (p:Option aF) (w:ah):
  CallsIn F n aj 206 #[am p] w fun e w'=>e=ao (.func (.func 262) #[] #[am (some ⟨w.heap.size,0,none⟩)])/\w'=w.alloc (an #[am p] 134):=by
 refine callsIn_of_wp func206 rfl hf ?_ hro;simp only[ntmps206,cJ,bz,cx,Nat.reduceAdd,Nat.reduceSub,cO,cP,cQ,cR,cy,cC]
 gi_wp2
 go_ret;exact⟨rfl,rfl⟩
theorem lr {β:Type} (B:Nat) (t:aR) (f:β->ak) (N:Nat):OwnFrom N (fun s W=>Boxed W B t (f s)):=(boxed_own B t f).from N
open Classical in
noncomputable def dN (D:Nat->Sec) (g:Nat->Nat) (pre:List Nat):Nat->Sec:=fun j=>if j ∈ pre then(D j).settle (g j)else D j
theorem Br (D:Nat->Sec) (g:Nat->Nat):dN D g []=D:=by funext j;simp[dN]
theorem ko {D:Nat->Sec} {g:Nat->Nat} {pre:List Nat} {j:Nat} (h:j ∉ pre):dN D g pre j=D j:=if_neg h
theorem nS {D:Nat->Sec} {g:Nat->Nat} {pre:List Nat} {j:Nat} (h:j ∈ pre):dN D g pre j=(D j).settle (g j):=if_pos h
theorem Lu (D:Nat->Sec) (g:Nat->Nat) (pre:List Nat) (x:Nat):dN D g (pre++ [x])=upd (dN D g pre) x ((D x).settle (g x)):=by
 funext j
 by_cases e:j=x
 ·subst e;rw[kg,nS (by simp)]
 ·rw[ji _ _ e];by_cases h:j ∈ pre
  ·rw[nS h,nS (by simp[h])]
  ·rw[ko h,ko (by simp[h,e])]
theorem sT (D:Nat->Sec) (x:Nat):x ∉ cZ D x:=fun h=>by have:=wd h;omega
def lu (w:ah) (rb sb n:Nat) (f:Nat->Prop) (D:Nat->Sec) (g:Nat->Nat) (pre:List Nat) (W:ah):Prop:=∃sv,DskAt W rb sb n sv (dN D g pre)/\Turn f (jp rb sb n sv) w W
theorem Turn.kept {f f':Nat->Prop} {w W W':ah} {row:Option Nat} (h:Turn f f' w W) (hg:W.grownBy W' row) (hr:∀r,row=some r->w.heap.size<=r):Turn f f' w W':=by
 have hb:∀k,k<w.heap.size->W'.heap[k]? =W.heap[k]? :=fun k hk=>hg.block k (bq hk h.size) (fun e=>by have:=hr k e.symm;omega);exact⟨vV h.still ⟨hg.os,hg.tape,hg.output⟩,⟨bm h.size hg.size,fun k o hk ho=>(hb k (bL.1 hk).1).trans (h.others.same k o hk ho)⟩,
  fun k hk hn=>(hb k hk).trans (h.out k hk hn),h.new⟩
theorem DskAt.grown {W W':ah} {rb sb n:Nat} {sv:Nat->ak} {D:Nat->Sec} {row:Option Nat} (h:DskAt W rb sb n sv D) (hn:0<n) (hg:W.grownBy W' row) (hr:∀r,row=some r->∃o:Obj,W.heap[r]? =some o/\o.isCells=false):DskAt W' rb sb n sv D:=
 h.kept fun k hk=>hg.block k (h.lt hn hk) fun e=>by
  obtain⟨o,ho,hc⟩:=hr k e.symm;rw[h.isCells hn hk ho]at hc;cases hc
theorem Bu (w:ah) (rb sb n:Nat) (f:Nat->Prop) (D:Nat->Sec) (g:Nat->Nat) (hn:0<n) (N:Nat) (hN:w.heap.size<=N):OwnFrom N (lu w rb sb n f D g):=by
 rintro pre W W' row ⟨sv,h1,h2⟩ hg hr;exact⟨sv,h1.grown hn hg (fun r e=>(hr r e).2),h2.kept hg (fun r e=>bm hN (hr r e).1)⟩
theorem lu.next {w W W':ah} {rb sb n x:Nat} {f:Nat->Prop} {D:Nat->Sec} {g:Nat->Nat} {sv:Nat->ak} {pre:List Nat} (h1:DskAt W rb sb n sv (dN D g pre)) (h2:Turn f (jp rb sb n sv) w W) (hx:x<n) (hp:x ∉ pre)
  (hs':SecAt W' 0 sb (x*65) ((dN D g pre x).settle (g x)) (af none 0 0)) (hs:Step W W' sb (x*65) (sv x)):lu w rb sb n f D g (pre++ [x]) W':=by
 rw[ko hp]at hs';refine⟨upd sv x (af none 0 0), ?_,h2.trans (h1.turn hx hs (aA rfl))⟩;rw[Lu];exact h1.step hx hs hs' (aA rfl)
theorem Boxed.step {W W':ah} {B t sb o N n:Nat} {u v:ak} {xs:List ak} (h:Boxed W B t u) (hs:Step W W' sb o v) (hr:W.ownsRow N 51 64 v n xs) (ht:t≠ 51) (hne:B≠sb):Boxed W' B t u:=
 (hs.blocks B h.lt hne (h.not_row ht hr)).trans h
theorem Bx (rb n:Nat) (f:Nat->Prop) (D:Nat->Sec) (w:ah) (h:Disk w rb n f D) (hn:0<n):
  ap aj 169 #[am (some ⟨rb,0,none⟩)] w fun e w'=>e=ao (ab ac 0)/\∃f',Disk w' rb n f' (dN D (fun j=>(D j).vs.length) (cZ D n))/\Turn f f' w w':=by
 obtain⟨g,hg⟩:∃g:Nat->Nat,(fun j=>(D j).vs.length)=g:=⟨_,rfl⟩;rw[hg];refine(callsIn_wide (n:=3)).1 ?_;refine gA func169 rfl trivial ?_ rfl;simp only[ntmps169,cJ,bz,cx,Nat.reduceAdd,Nat.reduceSub,cO,cP,cQ,cR,cy,cC];obtain⟨sb,sv,hd,rfl⟩:=h;have hmax:=hd.max;have HD:=ae hd;have HG:=ae hg;clear hd hg
 gi_wp2_with (refine⟨trivial, ?_⟩;gi_at_call 206;refine(Bo _ _ trivial rfl _ _).mono ?_;rintro e w' ⟨rfl,rfl⟩)
 obtain⟨W0,hW0⟩:=w9nm (w.alloc (an #[am (some ⟨rb,0,none⟩)] 134));have bd0:Boxed W0 w.heap.size 134 (am (some ⟨rb,0,none⟩)):=by rw[←hW0];exact dD w _ _
 have hB0:ag w.heap.size w W0:=by rw[←hW0];exact(aI _ w).alloc (aG _) _
 have hsz0:W0.heap.size=w.heap.size+1:=by rw[←hW0];simp
 rw[hW0];clear hW0;have P0:lu w rb sb n (jp rb sb n sv) D g [] W0:=⟨sv,by rw[Br];exact HD.out.kept (fun k hk=>hB0.block k (HD.out.lt hn hk)),Turn.of_below hB0⟩;refine pQ (n:=3) rfl (by omega) (gf:= 262) (lb:=#[am (some ⟨w.heap.size,0,none⟩)]) rfl trivial (enters_of func262 (by kernel_rfl) rfl)
  (fun pre W=>Boxed W w.heap.size 134 (am (some ⟨rb,0,none⟩))/\lu w rb sb n (jp rb sb n sv) D g pre W)
  (fun _ _ _=>False)
  ((Bm w.heap.size rb sb n D W0).mono fun pre W hI=>⟨hI.1,by obtain⟨sv',h1,_⟩:=hI.2;exact⟨sv',_,h1,fun i _ hi=>by rw[ko hi]⟩⟩)
  (aI _ _) (fun _=>rfl)
  ((lr _ _ (fun _=>am (some ⟨rb,0,none⟩)) _).and (Bu w rb sb n _ D g hn _ (by omega)))
  (fun _ _ _ _ _ h _ _=>h.elim) ⟨bd0,P0⟩ ?a1 ?assign ?body ?done ?stop
 case assign=>
  intro l x W K hK
  dsimp only[qA]
  gi_wp2
  exact hK
 case body=>
  rintro l pre x W ⟨hbd,sv',h1,h2⟩ ⟨k,hk,rfl,rfl,hvs⟩;have hs:=h1.secs x hk;have hsv:=hs.ver;have hsx:dN D g (cZ D x) x=D x:=ko (sT D x);obtain⟨a,cap,hf, -⟩:=hs.form;have hS:=AU 0 sb (x*65) (g x) _ _ W hs (by rw[hsx,←HG.out];exact aG _);have hlen:(dN D g (cZ D x) x).vs.length=g x:=by rw[hsx,←HG.out]
  rw[hlen]at hf;rw[hf]at hsv;have HS:=ae hS;have H1:=ae h1;have H2:=ae h2;have HK:=ae hk;have hsb:=hs.lt;have HB:=ae hbd;have HSB:Hid (sb<w.heap.size):=(HD.out.secs x hk).lt;obtain⟨m,hm⟩:=w9nm (g x);have HM:=ae hm;rw[hm]at hsv HS;clear hs hf hS hlen hsx h1 h2 hk hsb hvs hbd hm
  gi_wp2_with (refine⟨trivial, ?_⟩;gi_at_call 207;refine(CallsIn.inRound l (callsIn_wide.2 HS.out)).mono ?_;rintro e w' ⟨rfl,hsa,hst⟩)
  refine⟨hst.others.from _,trivial,Boxed.step HB.out hst (H1.out.secs x HK.out).row (by decide) (by have:=HSB.out;omega),lu.next H1.out H2.out HK.out (sT D x) (by rw[HM.out];exact hsa) hst⟩
 case done=>
  rintro Dd xs W hDd rfl ⟨hbd,sv',h1,h2⟩ hK
  gi_wp2
  refine⟨by simp,aA ⟨_,_,rfl,eU hK, ?_⟩⟩;have hgr:=grownBy_putObj' W Dd (.deferred none);exact⟨_,results_tmp rfl _ _ _,rfl,_,⟨sb,sv',h1.grown hn hgr (fun r e=>by cases e;exact⟨_,hK,rfl⟩),rfl⟩,h2.kept hgr (fun r e=>by cases e;omega)⟩
 case stop=>
  rintro D c pre W _ h _;exact h.elim
def pp (bs:List Int) (i m:Nat):Nat:=if i<bs.length then(bs[i]?.getD 0).toNat%(m+1)else 0
theorem Lv (bs:List Int) (i m:Nat):pp bs i m<=m:=by
 unfold pp;split
 ·exact Nat.le_of_lt_succ (iI _ (by omega))
 ·omega
def jO (D:Nat->Sec) (bs:List Int) (j:Nat):Nat:=pp bs (cZ D j).length (D j).vs.length
def nT (f:Nat->Prop) (v:ak):Prop:=∀b off len cap,v=af (some ⟨b,off,none⟩) len cap->¬f b
theorem By {α:Type} {B:Nat} {Kp:ah->ah->Prop} {I:List α->ah->Prop} {Ix:Code->List α->ah->Prop} {xs:List α} {W:ah}:¬LetsOut (ownPostG B Kp I Ix xs W):=fun⟨a,w,e⟩=>e.elim
theorem lu.box {w W:ah} {rb sb n B t:Nat} {f:Nat->Prop} {D:Nat->Sec} {g:Nat->Nat} {pre:List Nat} {u:ak} (h:lu w rb sb n f D g pre W) (hb:Boxed W B t u) (ht:t≠ 51) (hB:w.heap.size<=B) (h1:rb<w.heap.size) (h2:sb<w.heap.size) (u':ak):
  lu w rb sb n f D g pre (W.setCell ⟨B,0,none⟩ u'):=by
 obtain⟨sv,hd,htn⟩:=h;refine⟨sv,hd.kept fun k hk=>eG _ _ _ k (fun e=> ?_),htn.kept (grownBy_setCell' W B u') (fun r e=>by cases e;exact hB)⟩;have e:B=k:=e.symm;subst e;rcases hk with rfl | rfl | ⟨i,hi,hk⟩
 ·omega
 ·omega
 ·exact hb.not_row ht (hd.secs i hi).row hk.symm
theorem Bz {w W w':ah} {rb sb n K N:Nat} {sv:Nat->ak} {D:Nat->Sec} {g:Nat->Nat} {pv dv:ak} {pre:List Nat} {x:Nat} {a:Act} (HD:DskAt w rb sb n sv D) (hn:0<n) (hK:pre.length=K)
  (e1:Boxed w' w.heap.size 76 pv) (e2:Boxed w' (w.heap.size+1) 3 (ab ac (K:Int))) (e3:Boxed w' (w.heap.size+1+1) 134 dv) (e4:KeepsOthers W w') (e5:lu w rb sb n (jp rb sb n sv) D g (pre++ [x]) w') (hN:w.heap.size<=N):
  ownPostG N (fun _ _=>True) (fun pre W=>Boxed W w.heap.size 76 pv/\Boxed W (w.heap.size+1) 3 (ab ac (pre.length:Int))/\Boxed W (w.heap.size+1+1) 134 dv/\lu w rb sb n (jp rb sb n sv) D g pre W)
   (fun _ _ _=>False) (pre++ [x]) W Exit.normal a (w'.setCell ⟨w.heap.size+1,0,none⟩ (ab ac ((K:Int)+1))):=by
 refine⟨(e4.trans (iK _ _ _)).from _,trivial,e1.other (by omega) _, ?_,e3.other (by omega) _,e5.box e2 (by decide) (by omega) (HD.lt hn (aA rfl)) (HD.lt hn (aD (aA rfl))) _⟩;have:=e2.set (ab ac ((K:Int)+1));rw[cE,hK];exact this
theorem BA (rb n:Nat) (f:Nat->Prop) (D:Nat->Sec) (v:ak) (bs:List Int) (w:ah) (h:Disk w rb n f D) (hn:0<n) (hv:Sl ay w v bs) (hB:aP bs) (hc:bs≠ []->nT f v) (hl:∀i,i<n->(D i).vs.length<=1000000):
  ap aj 119 #[am (some ⟨rb,0,none⟩),v] w fun e w'=>e=ao (aQ #[])/\∃f',Disk w' rb n f' (dN D (jO D bs) (cZ D n))/\Turn f f' w w':=by
 obtain⟨g,hg⟩:∃g:Nat->Nat,jO D bs=g:=⟨_,rfl⟩;rw[hg];obtain⟨ad,cap,rfl,hcap,hmaxc,hlies, -⟩:=hv;refine(callsIn_wide (n:=3)).1 ?_;refine gA func119 rfl trivial ?_ rfl;simp only[ntmps119,cJ,bz,cx,Nat.reduceAdd,Nat.reduceSub,cO,cP,cQ,cR,cy,cC];obtain⟨sb,sv,hd,rfl⟩:=h;have hmax:=hd.max;have HD:=ae hd;have HG:=ae hg;have HC:=ae hc;have HLI:=ae hlies;have HBY:=ae hB;have HMC:=ae hmaxc;have HCAP:=ae hcap;obtain⟨L,hL⟩:=w9nm bs.length;have HL:=ae hL;rw[hL];clear hd hg hc hlies hB hmaxc hcap hL
 gi_wp2_with (refine⟨trivial, ?_⟩;gi_at_call 206;refine(Bo _ _ trivial rfl _ _).mono ?_;rintro e w' ⟨rfl,rfl⟩)
 obtain⟨W0,hW0⟩:=w9nm ((((w.alloc (an #[af ad L cap] 76)).alloc (an #[ab ac 0] 3)).alloc (an #[am (some ⟨rb,0,none⟩)] 134)));have bp0:Boxed W0 w.heap.size 76 (af ad L cap):=by rw[←hW0];exact((dD w _ _).alloc _).alloc _
 have bk0:Boxed W0 (w.heap.size+1) 3 (ab ac 0):=by
  rw[←hW0];have:=(dD (w.alloc (an #[af ad L cap] 76)) 3 (ab ac 0)).alloc (an #[am (some ⟨rb,0,none⟩)] 134)
  rwa [bO]at this
 have bd0:Boxed W0 (w.heap.size+1+1) 134 (am (some ⟨rb,0,none⟩)):=by
  rw[←hW0];have:=dD ((w.alloc (an #[af ad L cap] 76)).alloc (an #[ab ac 0] 3)) 134 (am (some ⟨rb,0,none⟩))
  rwa [bO,bO]at this
 have hB0:ag w.heap.size w W0:=by rw[←hW0];exact(((aI _ w).alloc (aG _) _).alloc (by simp) _).alloc (by simp;omega) _
 have hsz0:W0.heap.size=w.heap.size+3:=by rw[←hW0];simp
 rw[hW0];clear hW0;have P0:lu w rb sb n (jp rb sb n sv) D g [] W0:=⟨sv,by rw[Br];exact HD.out.kept (fun k hk=>hB0.block k (HD.out.lt hn hk)),Turn.of_below hB0⟩;refine pQ (n:=3) rfl (by omega) (gf:= 262) (lb:=#[am (some ⟨w.heap.size+1+1,0,none⟩)]) rfl trivial (enters_of func262 (by kernel_rfl) rfl)
  (fun pre W=>Boxed W w.heap.size 76 (af ad L cap)/\Boxed W (w.heap.size+1) 3 (ab ac (pre.length:Int))/\Boxed W (w.heap.size+1+1) 134 (am (some ⟨rb,0,none⟩))/\lu w rb sb n (jp rb sb n sv) D g pre W)
  (fun _ _ _=>False)
  ((Bm (w.heap.size+1+1) rb sb n D W0).mono fun pre W hI=>⟨hI.2.2.1,by obtain⟨sv',h1,_⟩:=hI.2.2.2;exact⟨sv',_,h1,fun i _ hi=>by rw[ko hi]⟩⟩)
  (aI _ _) (fun _=>rfl)
  ((lr _ _ (fun _=>af ad L cap) _).and ((lr _ _ (fun pre:List Nat=>ab ac (pre.length:Int)) _).and ((lr _ _ (fun _=>am (some ⟨rb,0,none⟩)) _).and (Bu w rb sb n _ D g hn _ (by omega)))))
  (fun _ _ _ _ _ h _ _=>h.elim) ⟨bp0,bk0,bd0,P0⟩ ?a1 ?assign ?body ?done ?stop
 case assign=>
  intro l x W K hK
  dsimp only[qA]
  gi_wp2
  exact hK
 case body=>
  rintro l pre x W ⟨hbp,hbk,hbd,sv',h1,h2⟩ ⟨k,hk,rfl,rfl,hvs⟩;have hs:=h1.secs x hk;have hsv:=hs.ver;have hsx:dN D g (cZ D x) x=D x:=ko (sT D x);obtain⟨a,cap',hf,hc1,hc2, -⟩:=hs.form;rw[hsx]at hf hc1;obtain⟨m,hm⟩:=w9nm ((D x).vs.length);rw[hf,hm]at hsv;rw[hm]at hc1;obtain⟨K,hK⟩:=w9nm ((cZ D x).length);have hKx:K<=x:=by rw[←hK];exact Ls D x
  have hgx:g x=pp bs K m:=by rw[←HG.out,jO,hK,hm]
  have hgm:g x<=m:=by rw[hgx];exact Lv _ _ _
  obtain⟨q,hq⟩:=w9nm (g x);have hS:∀W':ah,W'=W\/W'=W.drew->ap aj 207 #[am (some ⟨sb,x*65,none⟩),ab ac (q:Int)] W' fun e w'=>e=ao (aQ #[])/\Boxed w' w.heap.size 76 (af ad L cap)/\Boxed w' (w.heap.size+1) 3 (ab ac (K:Int))/\Boxed w' (w.heap.size+1+1) 134 (am (some ⟨rb,0,none⟩))/\KeepsOthers W w'/\lu w rb sb n (jp rb sb n sv) D g (cZ D x++ [x]) w':=by
   intro W' hW';have hsec:SecAt W' 0 sb (x*65) (dN D g (cZ D x) x) (sv' x):=by rcases hW' with rfl | rfl;exact hs;exact hs.kept rfl (fun _ _=>rfl)
   have hlt:sb<w.heap.size:=(HD.out.secs x hk).lt;refine(AU 0 sb (x*65) q _ _ W' hsec (by rw[hsx,←hq,hm];exact hgm)).mono ?_;rintro e w' ⟨rfl,hsa,hst⟩;have hst':Step W w' sb (x*65) (sv' x):=by rcases hW' with rfl | rfl;exact hst;exact(Step.refl W sb (x*65) (sv' x)).drew.trans hst
   exact⟨rfl,Boxed.step hbp hst' hs.row (by decide) (by omega),Boxed.step (by rw[←hK];exact hbk) hst' hs.row (by decide) (by omega),Boxed.step hbd hst' hs.row (by decide) (by omega),hst'.others,lu.next h1 h2 hk (sT D x) (by rw[hq];exact hsa) hst'⟩
  have HS:=ae hS;have d1:=hbp.cell;have d2:=hbk.cell;rw[hK]at d2;have HK:=ae hK;have HW1:Hid (wrap64 ((K:Int)+1)=(K:Int)+1):=kR _ (by omega);by_cases hKL:K<L
  ·obtain⟨b,off,rfl,hbw,hby⟩:∃b off,ad=some ⟨b,off,none⟩/\b<w.heap.size/\∀j,j<bs.length->w.cell? ⟨b,off+j,none⟩=some (ab ay (bs[j]?.getD 0)):=by
    rcases HLI.out with e | e
    ·have:=HL.out;rw[e]at this;simp at this;omega
    ·exact e
   obtain⟨y,hy⟩:=w9nm (bs[K]?.getD 0);obtain⟨y0,y1⟩:=HBY.out K;rw[hy]at y0 y1;have d3:W.cell? ⟨b,off+K,none⟩=some (ab ay y):=by
    rw[←hy,←hby K (by rw[HL.out];exact hKL)];exact gj (a:=⟨b,off+K,none⟩) (h2.out b hbw (HC.out (fun e=>by have:=HL.out;rw[e]at this;simp at this;omega) b off _ _ rfl))
   have hqy:q=y.toNat%(m+1):=by rw[←hq,hgx,pp,if_pos (by rw[HL.out];exact hKL),hy]
   have hlt:(K:Int)< (L:Int):=by omega
   have HY0:Hid (0<=y):=y0;have HY1:Hid (y<256):=y1;have HQY:Hid (y%((m:Int)+1)=(q:Int)):=by
    show _=_;obtain⟨z,rfl⟩:=mO y0;rw[hqy,iG,Int.natCast_emod,Int.natCast_add]
    rfl
   have HM:Hid ((m:Int)<=1000000):=by have:=hl x hk;show _<=_;omega
   have hmx:=w9x
   clear hs hf hsx hm hgx hgm hq hS h1 h2 hk hvs hbp hbk hbd hc1 hc2 hK hKx hKL hby hy y0 y1 hqy hbw
   gi_wp2
   ·have hm1:=HM.out;have y0:=HY0.out;have y1:=HY1.out;refine uR (fun x=>x=W.drew) 12 (.takes [0,1,2,3,4,5,6,7,8,9,10,11] .leaf) (fun⟨a,w,e⟩=>False.elim e) (by kernel_rfl) hmx (by kernel_rfl) (by intro c x v a w h;cases x<;>exact h) rfl ?_;repeat(rw[bu];simp only[aB,aC];go_big_quiet_step (fail);refine aV ?_)
    rw[bt,cW];simp only[bR,bQ];rw[HQY.out];clear hm1 y0 y1;go_wp2_with fail
    gi_wp2_with (refine⟨trivial, ?_⟩;gi_at_call 207;refine(CallsIn.inRound l (callsIn_wide.2 (HS.out _ (aD rfl)))).mono ?_;rintro e w' ⟨rfl,e1,e2,e3,e4,e5⟩;have e2c:=e2.cell;have e2f:=e2.frozen;have E1:=ae e1;have E2:=ae e2;have E3:=ae e3;have E4:=ae e4;have E5:=ae e5;clear e1 e2 e3 e4 e5)
    have HLT:=HD.out;rw[HW1.out];exact Bz HLT hn HK.out E1.out E2.out E3.out E4.out E5.out (by omega)
  ·have hq0:q=0:=by rw[←hq,hgx];unfold pp;rw[if_neg (by rw[HL.out];exact hKL)]
   subst hq0;have g1:¬((K:Int)< (L:Int)):=by omega
   clear hs hf hsx hm hgx hgm hq hS h1 h2 hk hvs hbp hbk hbd hc1 hc2 hK hKx hKL
   gi_wp2_with (refine⟨trivial, ?_⟩;gi_at_call 207;refine(CallsIn.inRound l (callsIn_wide.2 (HS.out _ (aA rfl)))).mono ?_;rintro e w' ⟨rfl,e1,e2,e3,e4,e5⟩;have e2c:=e2.cell;have e2f:=e2.frozen;have E1:=ae e1;have E2:=ae e2;have E3:=ae e3;have E4:=ae e4;have E5:=ae e5;clear e1 e2 e3 e4 e5)
   have HLT:=HD.out;rw[HW1.out];exact Bz HLT hn HK.out E1.out E2.out E3.out E4.out E5.out (by omega)
 case done=>
  rintro Dd xs W hDd rfl ⟨-, -,hbd,sv',h1,h2⟩ hK
  gi_wp2
  refine⟨by simp,aA ⟨_,_,rfl,eU hK, ?_⟩⟩;have hgr:=grownBy_putObj' W Dd (.deferred none);exact⟨_,results_none rfl _ _ _,rfl,_,⟨sb,sv',h1.grown hn hgr (fun r e=>by cases e;exact⟨_,hK,rfl⟩),rfl⟩,h2.kept hgr (fun r e=>by cases e;omega)⟩
 case stop=>
  rintro D c pre W _ h _;exact h.elim
end
section
def At (w0 W:ah) (rb n:Nat) (D:Nat->Sec) (own:Nat->Prop):Prop:=
 ∃f,Disk W rb n f D/\(∀k,f k->w0.heap.size<=k/\¬own k)/\(∀k,own k->k<W.heap.size)/\ag w0.heap.size w0 W/\0<n
theorem Sl.same {k:IntKind} {w w':ah} {v:ak} {bs:List Int} (h:Sl k w v bs) (hs:w.heap.size<=w'.heap.size) (hb:∀b,v.ownBlock=some b->w'.heap[b]? =w.heap[b]?):Sl k w' v bs:=by
 obtain⟨a,cap,rfl,h1,h2,h3,h4⟩:=h;refine⟨a,cap,rfl,h1,h2, ?_,h4⟩;rcases h3 with h3 | ⟨b,off,rfl,h5,h6⟩
 ·exact aA h3
 ·exact aD ⟨b,off,rfl,bq h5 hs,fun j hj=>(gj (a:=⟨b,off+j,none⟩) (hb b rfl)).trans (h6 j hj)⟩
theorem Lw {w:ah} {B:Nat} {c:List ak} (h:w.heap[B]? =some (an c.toArray 51 (0,0))) (hc:cz c):(aE 51 ⟨B,0,none⟩).run aj w=.ok (al c.toArray) w:=
 gl (fun j x hx=>by rw[dq _ _ _ _ _ _ h];simpa using hx) hc.length
end
section
abbrev ef:=ah->(Nat->Prop)->Prop
structure IsRes (P:ef):Prop where
 out:∀{w w':ah} {f:Nat->Prop},P w f->(∀k,f k->w'.heap[k]? =w.heap[k]?)->P w' f
 lt:∀{w:ah} {f:Nat->Prop},P w f->∀k,f k->k<w.heap.size
 cells:∀{w:ah} {f:Nat->Prop},P w f->∀k,f k->∀ob,w.heap[k]? =some ob->ob.isCells=true
section
variable {P P' Q Q':ef} {w w' w0 W W':ah} {f:Nat->Prop} {own:Nat->Prop}
theorem IsRes.below (hP:IsRes P) (h:P w f) (hb:ag w.heap.size w w'):P w' f:=hP.out h fun k hk=>hb.block k (hP.lt h k hk)
theorem IsRes.grown {row:Option Nat} (hP:IsRes P) (h:P w f) (hg:w.grownBy w' row) (hr:∀r,row=some r->∃o:Obj,w.heap[r]? =some o/\o.isCells=false):P w' f:=
 hP.out h fun k hk=>hg.block k (hP.lt h k hk) fun e=>by
  obtain⟨o,ho,hc⟩:=hr k e.symm;rw[hP.cells h k hk o ho]at hc;cases hc
def dr (P Q:ef):ef:=fun w f=>∃f1 f2,P w f1/\Q w f2/\(∀k,f1 k->¬f2 k)/\f=fun k=>f1 k\/f2 k
theorem IsRes.sep (hP:IsRes P) (hQ:IsRes Q):IsRes (dr P Q) where
 out:=by
  rintro w w' f ⟨f1,f2,h1,h2,h3,rfl⟩ hk;exact⟨f1,f2,hP.out h1 (fun k h=>hk k (aA h)),hQ.out h2 (fun k h=>hk k (aD h)),h3,rfl⟩
 lt:=by
  rintro w f ⟨f1,f2,h1,h2,h3,rfl⟩ k hk;exact hk.elim (hP.lt h1 k) (hQ.lt h2 k)
 cells:=by
  rintro w f ⟨f1,f2,h1,h2,h3,rfl⟩ k hk;exact hk.elim (hP.cells h1 k) (hQ.cells h2 k)
theorem dr.swap (h:dr P Q w f):dr Q P w f:=by
 obtain⟨f1,f2,h1,h2,h3,rfl⟩:=h;exact⟨f2,f1,h2,h1,fun k a b=>h3 k b a,by funext k;exact propext Or.comm⟩
theorem Turn.first (hP:IsRes P) (hQ:IsRes Q) {f1 f2:Nat->Prop} (h1:P w f1) (h2:Q w f2) (h3:∀k,f1 k->¬f2 k) (h:∃f1',P' w' f1'/\Turn f1 f1' w w'):∃f',dr P' Q w' f'/\Turn (fun k=>f1 k\/f2 k) f' w w':=by
 obtain⟨f1',g1,g2⟩:=h;refine⟨_,⟨f1',f2,g1,hQ.out h2 (fun k hk=>g2.out k (hQ.lt h2 k hk) (fun h=>h3 k h hk)),fun k a b=> ?_,rfl⟩,⟨g2.still,g2.others,fun k hk hn=>g2.out k hk (fun h=>hn (aA h)),fun k hk=> ?_⟩⟩
 ·rcases g2.new k a with h | h
  ·exact h3 k h b
  ·have:=hQ.lt h2 k b;omega
 ·rcases hk with hk | hk
  ·exact(g2.new k hk).imp aA id
  ·exact aA (aD hk)
theorem dr.first {g:FuncId} {args:Array ak} {R:Ending->ah->Prop} (hP:IsRes P) (hQ:IsRes Q) (h:dr P Q w f)
  (hc:∀f1,P w f1->ap aj g args w fun e w'=>R e w'/\∃f1',P' w' f1'/\Turn f1 f1' w w'):ap aj g args w fun e w'=>R e w'/\∃f',dr P' Q w' f'/\Turn f f' w w':=by
 obtain⟨f1,f2,h1,h2,h3,rfl⟩:=h;exact(hc f1 h1).mono fun e w' ⟨hr,h⟩=>⟨hr,Turn.first hP hQ h1 h2 h3 h⟩
theorem dr.second {g:FuncId} {args:Array ak} {R:Ending->ah->Prop} (hP:IsRes P) (hQ:IsRes Q) (h:dr P Q w f)
  (hc:∀f2,Q w f2->ap aj g args w fun e w'=>R e w'/\∃f2',Q' w' f2'/\Turn f2 f2' w w'):ap aj g args w fun e w'=>R e w'/\∃f',dr P Q' w' f'/\Turn f f' w w':=
 (dr.first hQ hP h.swap hc).mono fun e w' ⟨hr,f',h1,h2⟩=>⟨hr,f',h1.swap,h2⟩
def gT (P:ef) (w0 W:ah) (own:Nat->Prop):Prop:=∃f,P W f/\(∀k,f k->w0.heap.size<=k/\¬own k)/\(∀k,own k->k<W.heap.size)/\ag w0.heap.size w0 W
theorem gT.bel (h:gT P w0 W own):ag w0.heap.size w0 W:=by obtain⟨f,h1,h2,h3,h4⟩:=h;exact h4
theorem gT.below (hP:IsRes P) (h:gT P w0 W own) (hb:ag W.heap.size W W') (own':Nat->Prop) (ho:∀k,own' k->own k\/(W.heap.size<=k/\k<W'.heap.size)):gT P w0 W' own':=by
 obtain⟨f,h1,h2,h3,h4⟩:=h;refine⟨f,hP.below h1 hb,fun k hk=>⟨(h2 k hk).1,fun h'=> ?_⟩,fun k hk=> ?_,h4.trans (hb.mono h4.size)⟩
 ·rcases ho k h' with h' | ⟨h',_⟩
  ·exact(h2 k hk).2 h'
  ·have:=hP.lt h1 k hk;omega
 ·rcases ho k hk with h' | ⟨_,h'⟩
  ·exact bq (h3 k h') hb.size
  ·exact h'
theorem gT.beside (hP:IsRes P) (h:gT P w0 W own) (hb:ag W.heap.size W W'):gT P w0 W' own:=h.below hP hb own fun _ h=>aA h
theorem gT.less (h:gT P w0 W own) (own':Nat->Prop) (ho:∀k,own' k->own k):gT P w0 W own':=by
 obtain⟨f,h1,h2,h3,h4⟩:=h;exact⟨f,h1,fun k hk=>⟨(h2 k hk).1,fun h'=>(h2 k hk).2 (ho k h')⟩,fun k hk=>h3 k (ho k hk),h4⟩
theorem gT.turned (hP':IsRes P') {f:Nat->Prop} (h2:∀k,f k->w0.heap.size<=k/\¬own k) (h3:∀k,own k->k<W.heap.size) (h4:ag w0.heap.size w0 W)
  (h:∃f',P' W' f'/\Turn f f' W W'):gT P' w0 W' own/\∀k,own k->W'.heap[k]? =W.heap[k]? :=by
 obtain⟨f',g1,g2⟩:=h;refine⟨⟨f',g1,fun k hk=> ?_,fun k hk=>bq (h3 k hk) g2.size,h4.trans (g2.below h4.size (fun k hk=>(h2 k hk).1))⟩,fun k hk=>g2.out k (h3 k hk) (fun h'=>(h2 k h').2 hk)⟩;rcases g2.new k hk with h' | h'
 ·exact h2 k h'
 ·exact⟨bm h4.size h',fun ho=>by have:=h3 k ho;omega⟩
theorem gT.call {g:FuncId} {args:Array ak} {R:Ending->ah->Prop} (hP':IsRes P') (h:gT P w0 W own)
  (hc:∀f,P W f->(∀k,f k->w0.heap.size<=k/\¬own k)->ap aj g args W fun e w'=>R e w'/\∃f',P' w' f'/\Turn f f' W w'):
  ap aj g args W fun e w'=>R e w'/\gT P' w0 w' own/\∀k,own k->w'.heap[k]? =W.heap[k]? :=by
 obtain⟨f,h1,h2,h3,h4⟩:=h;exact(hc f h1 h2).mono fun e w' ⟨hr,h⟩=>⟨hr,gT.turned hP' h2 h3 h4 h⟩
end
def lT (B:Nat) (a:Array ak) (t:aR):ef:=fun w f=>w.heap[B]? =some (an a t (0,0))/\f=fun k=>k=B
theorem lT.isRes (B:Nat) (a:Array ak) (t:aR):IsRes (lT B a t) where
 out:=by rintro w w' f ⟨h1,rfl⟩ hk;exact⟨(hk B rfl).trans h1,rfl⟩
 lt:=by rintro w f ⟨h1,rfl⟩ k rfl;exact(bL.1 h1).1
 cells:=by rintro w f ⟨h1,rfl⟩ k rfl ob ho;rw[h1]at ho;cases ho;rfl
theorem Lx {w:ah} {B:Nat} {a:Array ak} {t:aR} (h:w.heap[B]? =some (an a t (0,0))) (j:Nat) (v:ak):(w.setCell ⟨B,j,none⟩ v).heap[B]? =some (an (a.setIfInBounds j v) t (0,0)):=by
 obtain⟨hlt,hk⟩:=bL.1 h;show(w.heap.modify B _)[B]? =_;rw[Array.getElem?_eq_getElem (by rw[Array.size_modify];exact hlt),Array.getElem_modify_self,hk]
 rfl
theorem lU (w:ah) (B j:Nat) (v:ak) {f:Nat->Prop} (hB:f B):Turn f f w (w.setCell ⟨B,j,none⟩ v):=
 ⟨⟨rfl,rfl,rfl⟩,iK _ _ _,fun k hk hn=>eG _ _ _ k (fun e=>hn (e▸hB)),fun k hk=>aA hk⟩
theorem dr.set {R:ef} {B:Nat} {a:Array ak} {t:aR} {w:ah} {f:Nat->Prop} (hR:IsRes R) (h:dr (lT B a t) R w f) (j:Nat) (v:ak):
  dr (lT B (a.setIfInBounds j v) t) R (w.setCell ⟨B,j,none⟩ v) f/\Turn f f w (w.setCell ⟨B,j,none⟩ v):=by
 obtain⟨f1,f2,⟨h1,rfl⟩,h2,h3,rfl⟩:=h;exact⟨⟨_,f2,⟨Lx h1 j v,rfl⟩,hR.out h2 (fun k hk=>eG _ _ _ k (fun e=>h3 k e hk)),h3,rfl⟩,lU w B j v (aA rfl)⟩
theorem dr.cell {R:ef} {B:Nat} {a:Array ak} {t:aR} {w:ah} {f:Nat->Prop} (h:dr (lT B a t) R w f) (j:Nat):w.cell? ⟨B,j,none⟩=a[j]? :=by
 obtain⟨f1,f2,⟨h1,rfl⟩,h2,h3,rfl⟩:=h;exact dq _ _ _ _ _ _ h1
theorem dr.frozen {R:ef} {B:Nat} {a:Array ak} {t:aR} {w:ah} {f:Nat->Prop} (h:dr (lT B a t) R w f) (j:Nat):w.frozen? ⟨B,j,none⟩=false:=by
 obtain⟨f1,f2,⟨h1,rfl⟩,h2,h3,rfl⟩:=h;simp[World.frozen?,h1]
def wg (p n:Nat) (D:Nat->Sec):ef:=fun w f=>Disk w p n f D/\0<n
theorem wg.isRes (p n:Nat) (D:Nat->Sec):IsRes (wg p n D) where
 out:=fun h hk=>⟨h.1.out hk,h.2⟩
 lt:=fun h=>h.1.lt h.2
 cells:=by
  rintro w f ⟨⟨sb,sv,h,rfl⟩,hn⟩ k hk ob ho;exact h.isCells hn hk ho
end
section
theorem lw {w w':ah} {N e sz n:Nat} {v:ak} {xs:List ak} (h:w.ownsRow N e sz v n xs) (hk:∀k,v.ownBlock=some k->w'.heap[k]? =w.heap[k]?):w'.ownsRow N e sz v n xs:=by
 refine⟨h.1, ?_⟩;rcases h.2 with h' | ⟨g,cap,cur,rfl,a1,a2,a3⟩
 ·exact aA h'
 ·exact aD ⟨g,cap,cur,rfl,a1,(hk g rfl).trans a2,a3⟩
theorem lV {w:ah} {N e sz n k:Nat} {v:ak} {xs:List ak} (h:w.ownsRow N e sz v n xs) (hk:v.ownBlock=some k):N<=k/\∃o,w.heap[k]? =some o/\o.isCells=true:=by
 rcases h.2 with⟨rfl,_⟩ | ⟨g,cap,cur,rfl,a1,a2,a3⟩
 ·cases hk
 ·cases hk;exact⟨a1,_,a2,rfl⟩
theorem qB {w:ah} {N M e sz n:Nat} {v:ak} {xs:List ak} (h:w.ownsRow N e sz v n xs) (hk:∀k,v.ownBlock=some k->M<=k):w.ownsRow M e sz v n xs:=by
 refine⟨h.1, ?_⟩;rcases h.2 with h' | ⟨g,cap,cur,rfl,a1,a3⟩
 ·exact aA h'
 ·exact aD ⟨g,cap,cur,rfl,hk g rfl,a3⟩
theorem SnF.keep {N:Nat} {w w':ah} {x:SV} {t:SN} (h:SnF N w x t) (hk:∀k,(aK x.2.1).ownBlock=some k\/(aK x.2.2).ownBlock=some k->w'.heap[k]? =w.heap[k]?):SnF N w' x t:=
 ⟨h.id,lw h.ch fun k e=>hk k (aA e),⟨lw h.tb.1 fun k e=>hk k (aD e),h.tb.2⟩,h.ok⟩
structure StP (f:Nat->Prop) (w:ah) (q:PS) (r:List SV) (s:ST):Prop where
 nx:q.nx=s.nx
 kd:q.kd=s.kd
 id:q.id=s.id
 len:r.length=s.sn.length
 dd:bT 0 w (aK q.d) s.d
 sn:w.ownsRow 0 90 3 (aK q.sn) s.sn.length (iM r)
 pr:dT 0 w (aK q.pr) s.pr
 ss:∀(j:Nat) (x:SV) (t:SN),r[j]? =some x->s.sn[j]? =some t->SnF 0 w x t
 fd:∀k,(aK q.d).ownBlock=some k->f k
 fs:∀k,(aK q.sn).ownBlock=some k->f k
 fp:∀k,(aK q.pr).ownBlock=some k->f k
 fc:∀(j:Nat) (x:SV),r[j]? =some x->∀k,(aK x.2.1).ownBlock=some k\/(aK x.2.2).ownBlock=some k->f k
theorem StP.keep {f:Nat->Prop} {w w':ah} {q:PS} {r:List SV} {s:ST} (h:StP f w q r s) (hk:∀k,f k->w'.heap[k]? =w.heap[k]?):StP f w' q r s:=
 ⟨h.nx,h.kd,h.id,h.len,lw h.dd fun k e=>hk k (h.fd k e),lw h.sn fun k e=>hk k (h.fs k e),⟨lw h.pr.1 fun k e=>hk k (h.fp k e),h.pr.2⟩,fun j x t a b=>(h.ss j x t a b).keep fun k e=>hk k (h.fc j x a k e),h.fd,h.fs,h.fp,h.fc⟩
theorem StP.o {f:Nat->Prop} {w:ah} {q:PS} {r:List SV} {s:ST} (h:StP f w q r s):StO 0 w q s.d s.sn s.pr:=⟨h.dd,⟨r,h.len,h.sn,h.ss⟩,h.pr⟩
def gU (q:PS) (s:ST):ef:=fun w f=>(∃r,StP f w q r s)/\∀k,f k->∃o,w.heap[k]? =some o/\o.isCells=true
theorem gU.isRes (q:PS) (s:ST):IsRes (gU q s) where
 out:=by
  rintro w w' f ⟨⟨r,h⟩,hc⟩ hk;exact⟨⟨r,h.keep hk⟩,fun k e=>by rw[hk k e];exact hc k e⟩
 lt:=by
  rintro w f ⟨_,hc⟩ k hk;obtain⟨o,ho,_⟩:=hc k hk;exact(bL.1 ho).1
 cells:=by
  rintro w f ⟨_,hc⟩ k hk ob ho;obtain⟨o,ho',e⟩:=hc k hk;rw[ho]at ho';cases ho';exact e
theorem gU.o {q:PS} {s:ST} {w:ah} {f:Nat->Prop} (h:gU q s w f):StO 0 w q s.d s.sn s.pr:=by
 obtain⟨⟨r,h⟩,_⟩:=h;exact h.o
theorem gU.num {q:PS} {s:ST} {w:ah} {f:Nat->Prop} (h:gU q s w f):q.nx=s.nx/\q.kd=s.kd/\q.id=s.id:=by
 obtain⟨⟨r,h⟩,_⟩:=h;exact⟨h.nx,h.kd,h.id⟩
def From (N:Nat) (w:ah):Nat->Prop:=fun k=>N<=k/\∃o,w.heap[k]? =some o/\o.isCells=true
theorem gU.made {N:Nat} {q:PS} {s:ST} {w:ah} (h:StO N w q s.d s.sn s.pr) (h1:q.nx=s.nx) (h2:q.kd=s.kd) (h3:q.id=s.id):gU q s w (From N w):=by
 obtain⟨r,e1,e2,e3⟩:=h.sn;refine⟨⟨r,h1,h2,h3,e1,iN h.dd (bc _),iN e2 (bc _),h.pr.weak (bc _),fun j x t a b=>(e3 j x t a b).weak (bc _),fun k e=>lV h.dd e,fun k e=>lV e2 e,fun k e=>lV h.pr.1 e,fun j x a k e=> ?_⟩,fun k hk=>hk.2⟩;have hj:j<s.sn.length:=by rw[←e1];exact(bZ.1 a).1
 have:=e3 j x _ a (aZ hj);rcases e with e | e
 ·exact lV this.ch e
 ·exact lV this.tb.1 e
structure Img where
 index:Int
 body:List Int
structure Img.Ok (x:Img):Prop where
 len:x.body.length=48
 bytes:aP x.body
def Img.cells (x:Img):List ak:=ab ac x.index::aw x.body
def Img.fits (x:Img):Prop:=0<=x.index/\x.index<=65535
theorem Img.cells_length {x:Img} (h:x.body.length=48):x.cells.length=49:=by simp[Img.cells,aw,h]
theorem Img.cells_one (x:Img):∀v ∈ x.cells,v.oneCell'=true:=by
 intro v hv;simp only[Img.cells,dy]at hv;rcases hv with rfl | hv
 ·rfl
 ·exact mV _ v hv
def eN (seq:Int) (x:Img):Sct:=⟨73,seq,x.index,x.body⟩
def dI (seq:Int) (n:Nat):Sct:=⟨67,seq,n,bg 48 0⟩
def dx (seq:Int):Prop:=0<=seq/\seq<4294967296
theorem sU (n:Nat):aP (bg n 0):=fun j=>by
 rw[kO];split<;>decide
theorem nU {seq:Int} {x:Img} (hs:dx seq) (hx:x.Ok):(eN seq x).Ok:=⟨by show(0:Int)<=73/\(73:Int)<256;omega,hs,hx.len,hx.bytes⟩
theorem pq {seq:Int} {n:Nat} (hs:dx seq):(dI seq n).Ok:=⟨by show(0:Int)<=67/\(67:Int)<256;omega,hs,by simp[dI],sU 48⟩
theorem qC {seq:Int} {x:Img} (hx:x.fits):(eN seq x).fits=true:=decide_eq_true ⟨by show(73:Int)≠0;omega,hx⟩
theorem wi {seq:Int} {n:Nat} (hn:n<=65535):(dI seq n).fits=true:=decide_eq_true ⟨by show(67:Int)≠0;omega,by show(0:Int)<=n/\(n:Int)<=65535;omega⟩
theorem nV {p:Sct} (hp:p.Ok) (hf:p.fits=true):fi p.bytes=true/\Sct.of p.bytes=p:=by
 have hx:=of_decide_eq_true hf;have e:=Ih hp ⟨hx.2.1,hx.2.2⟩;refine⟨?_,e⟩;unfold fi;rw[e,hf];simp
theorem wj:fi (bg 64 0)=false:=by
 have h:(Sct.of (bg 64 0)).fits=false:=by decide
 unfold fi;rw[h]
 rfl
def iT (g:Nat->List Int) (seq:Int):Nat->Nat->List Img->Option (List Img)
 | 0,_,_=>none
 | f+1,k,acc=>
  if fi (g k)=false\/(Sct.of (g k)).seq≠seq then none
  else if(Sct.of (g k)).mark=67 then(if k<1\/(Sct.of (g k)).index≠k\/(Sct.of (g k)).body≠bg 48 0 then none else some acc)
  else if(Sct.of (g k)).mark≠73 then none
  else iT g seq f (k+1) (acc++ [⟨(Sct.of (g k)).index,(Sct.of (g k)).body⟩])
def kH (rd:Nat->List Int) (frm count at0:Nat):Nat->List Int:=fun k=>rd (frm+(at0+k)%count)
def lW (rd:Nat->List Int) (frm count at0:Nat) (seq:Int):Option (List Img):=iT (kH rd frm count at0) seq count 0 []
def jP (rd:Nat->List Int) (frm count:Nat):Nat->Nat->Int->List (List Img)->List (List Img)×Nat×Int
 | 0,at0,seq,acc=>(acc,at0,seq)
 | f+1,at0,seq,acc=>
  match lW rd frm count at0 seq with
  | none=>(acc,at0,seq)
  | some t=>jP rd frm count f ((at0+t.length+1)%count) ((seq+1)%4294967296) (acc++ [t])
def eh (rd:Nat->List Int) (frm count at0:Nat) (seq:Int):List (List Img)×Nat×Int:=jP rd frm count count at0 seq []
def bG (seq:Int) (t:List Img):List (List Int):=t.map (fun x=>(eN seq x).bytes)++ [(dI seq t.length).bytes]
theorem iU (seq:Int) (t:List Img):(bG seq t).length=t.length+1:=by simp[bG]
structure TxnOk (count:Nat) (t:List Img):Prop where
 least:1<=t.length
 most:t.length+1<=count
 ok:∀x ∈ t,x.Ok
 fits:∀x ∈ t,x.fits
theorem BC {g:Nat->List Int} {seq:Int} {t:List Img} (hs:dx seq) (h1:1<=t.length) (h2:t.length<=65535) (hok:∀x ∈ t,x.Ok) (hft:∀x ∈ t,x.fits)
  (hg:∀k,k<=t.length->(bG seq t)[k]? =some (g k)):∀f k:Nat,k<=t.length->t.length<f+k->iT g seq f k (t.take k)=some t
 | 0,k,hk,hf=>by omega
 | f+1,k,hk,hf=>by
  have hgk:=hg k hk;unfold iT;by_cases hlt:k<t.length
  ·have e:g k=(eN seq t[k]).bytes:=by
    unfold bG at hgk;rw[fS (by simpa using hlt),dY,aZ hlt]at hgk
    simpa using hgk.symm
   have hm:=List.getElem_mem hlt;obtain⟨d1,d2⟩:=nV (nU hs (hok _ hm)) (qC (seq:=seq) (hft _ hm));rw[e,d1,d2,if_neg (by simp[eN]),if_neg (by simp[eN]),if_neg (by simp[eN])];have:=BC hs h1 h2 hok hft hg f (k+1) hlt (by omega);rw[List.take_succ_eq_append_getElem hlt]at this;exact this
  ·obtain rfl:k=t.length:=by omega
   have e:g t.length=(dI seq t.length).bytes:=by
    unfold bG at hgk;rw[fv (by simp)]at hgk
    simpa using hgk.symm
   obtain⟨d1,d2⟩:=nV (pq (n:=t.length) hs) (wi (seq:=seq) h2);rw[e,d1,d2,if_neg (by simp[dI]),if_pos (by simp[dI]),if_neg (by rintro(h | h | h)<;>first | omega | exact h rfl),List.take_length]
theorem Ly {rd:Nat->List Int} {frm count at0:Nat} {seq:Int} {t:List Img} (hs:dx seq) (ht:TxnOk count t) (hc:count<=65535)
  (hg:∀k,k<=t.length->(bG seq t)[k]? =some (rd (frm+(at0+k)%count))):lW rd frm count at0 seq=some t:=
 BC hs ht.least (by have:=ht.most;omega) ht.ok ht.fits hg count 0 (bc _) (by have:=ht.most;omega)
def qD (rd:Nat->List Int) (frm count:Nat):Nat->Int->List (List Img)->Nat->Int->Prop
 | at0,seq, [],at1,seq1=>at1=at0/\seq1=seq
 | at0,seq,t::ts,at1,seq1=>lW rd frm count at0 seq=some t/\qD rd frm count ((at0+t.length+1)%count) ((seq+1)%4294967296) ts at1 seq1
theorem BD {rd:Nat->List Int} {frm count:Nat} {at1:Nat} {seq1:Int} (hn:lW rd frm count at1 seq1=none):
  ∀(ts:List (List Img)) (f at0:Nat) (seq:Int) (acc:List (List Img)),qD rd frm count at0 seq ts at1 seq1->ts.length<=f->jP rd frm count f at0 seq acc=(acc++ts,at1,seq1)
 | [],f,at0,seq,acc,h,hf=>by
  obtain⟨rfl,rfl⟩:=h;cases f with
  | zero=>simp[jP]
  | succ f=>unfold jP;rw[hn];simp
 | t::ts,0,at0,seq,acc,h,hf=>by simp at hf
 | t::ts,f+1,at0,seq,acc,h,hf=>by
  unfold jP;rw[h.1];have:=BD hn ts f _ _ (acc++ [t]) h.2 (by simpa using hf)
  simpa using this
theorem Lz {rd:Nat->List Int} {frm count at0 at1:Nat} {seq seq1:Int} {ts:List (List Img)} (h:qD rd frm count at0 seq ts at1 seq1) (hn:lW rd frm count at1 seq1=none) (hf:ts.length<=count):
  eh rd frm count at0 seq=(ts,at1,seq1):=by
 have:=BD hn ts count at0 seq [] h hf;rw[cy]at this;exact this
def bJ:Int->List (List Img)->List (List Int)
 | _, []=> []
 | seq,t::ts=>bG seq t++bJ ((seq+1)%4294967296) ts
def gF (seq:Int) (n:Nat):Int:=(seq+n)%4294967296
theorem BE {seq:Int}:dx ((seq+1)%4294967296):=⟨by omega,by omega⟩
theorem BG {rd:Nat->List Int} {frm count:Nat} (hc:count<=65535) (h0:0<count):∀(ts:List (List Img)) (at0:Nat) (seq:Int),dx seq->(∀t ∈ ts,TxnOk count t)->
  (∀k,k< (bJ seq ts).length->(bJ seq ts)[k]? =some (rd (frm+(at0+k)%count)))->at0<count->qD rd frm count at0 seq ts ((at0+(bJ seq ts).length)%count) (gF seq ts.length)
 | [],at0,seq,hs,_,_,ha=>by
  refine⟨?_, ?_⟩
  ·show(at0+0)%count=at0;rw[Nat.add_zero,Nat.mod_eq_of_lt ha]
  ·show(seq+((0:Nat):Int))%4294967296=seq;have:=hs.1;have:=hs.2;omega
 | t::ts,at0,seq,hs,hok,hg,ha=>by
  have hlen:(bJ seq (t::ts)).length=t.length+1+(bJ ((seq+1)%4294967296) ts).length:=by
   show(bG seq t++_).length=_;rw[cE,iU]
  refine⟨Ly hs (hok t dC) hc fun k hk=> ?_, ?_⟩
  ·have:=hg k (by rw[hlen];omega);unfold bJ at this;rw[fS (by rw[iU];omega)]at this;exact this
  ·have e:=BG hc h0 ts ((at0+t.length+1)%count) ((seq+1)%4294967296) BE (fun u hu=>hok u (ea _ hu)) (fun k hk=>by
    have:=hg (t.length+1+k) (by rw[hlen];omega);unfold bJ at this;rw[fv (by rw[iU];omega),iU,Nat.add_sub_cancel_left]at this;rw[this,Nat.mod_add_mod,show at0+(t.length+1+k)=at0+t.length+1+k by omega]) (iI _ h0)
   rw[Nat.mod_add_mod]at e;have e2:at0+(bJ seq (t::ts)).length=at0+t.length+1+(bJ ((seq+1)%4294967296) ts).length:=by rw[hlen];omega
   have e3:gF seq (t::ts).length=gF ((seq+1)%4294967296) ts.length:=by
    unfold gF;rw[bz];omega
   rw[e2,e3];exact e
theorem LC {seq:Int} (hs:dx seq):gF seq 0=seq:=by
 unfold gF;have:=hs.1;have:=hs.2;omega
theorem LF (seq:Int) (n:Nat):gF seq (n+1)=gF ((seq+1)%4294967296) n:=by
 unfold gF;omega
theorem wk (us:List (List Img)):∀(ts:List (List Img)) (seq:Int),dx seq->bJ seq (ts++us)=bJ seq ts++bJ (gF seq ts.length) us
 | [],seq,hs=>by
  show bJ seq us= []++bJ (gF seq 0) us;rw[LC hs]
  rfl
 | t::ts,seq,hs=>by
  show bG seq t++bJ ((seq+1)%4294967296) (ts++us)=(bG seq t++bJ ((seq+1)%4294967296) ts)++_;rw[wk us ts _ BE,kb,bz,LF]
theorem BH (seq:Int) (t:List Img):bJ seq [t]=bG seq t:=by
 show bG seq t++ []=_;rw[List.append_nil]
end
section
attribute [-simp] isAgg51 zeroValue51
attribute [-go_sem] aE aL
attribute [local go_sem] bC bD fe ez
attribute [local go_sem] Oper.semAt_some
structure RS where
 n0:Nat
 n1:Nat
 D0:Nat->Sec
 D1:Nat->Sec
 fuse:Int
 down:Bool
 done:Int
def RS.head (p0 p1:Nat) (S:RS):Array ak:=#[am (some ⟨p0,0,none⟩),am (some ⟨p1,0,none⟩),ab ac S.fuse,.bool S.down,ab ac S.done]
def RS.disks (p0 p1:Nat) (S:RS):ef:=dr (wg p0 S.n0 S.D0) (wg p1 S.n1 S.D1)
theorem RS.disks_isRes (p0 p1:Nat) (S:RS):IsRes (S.disks p0 p1):=(wg.isRes _ _ _).sep (wg.isRes _ _ _)
def aU (rb p0 p1:Nat) (S:RS):ef:=dr (lT rb (S.head p0 p1) 139) (S.disks p0 p1)
theorem aU.isRes (rb p0 p1:Nat) (S:RS):IsRes (aU rb p0 p1 S):=(lT.isRes _ _ _).sep (S.disks_isRes p0 p1)
def RS.ok (S:RS):Bool:= !S.down&&decide (S.fuse≠0)
def RS.after (S:RS):RS:=if S.ok=true then{S with fuse:=if 0<S.fuse then S.fuse - 1 else S.fuse,done:=S.done+1}else{S with down:=true}
structure RS.Fit (S:RS):Prop where
 fuse:0<S.fuse->wrap64 (S.fuse - 1)=S.fuse - 1
 done:wrap64 (S.done+1)=S.done+1
theorem sV (rb p0 p1:Nat) (S:RS) (f:Nat->Prop) (w:ah) (h:aU rb p0 p1 S w f) (hS:S.Fit):
  ap aj 151 #[am (some ⟨rb,0,none⟩)] w fun e w'=>e=ao (.bool S.ok)/\∃f',aU rb p0 p1 S.after w' f'/\Turn f f' w w':=by
 have hR:=S.disks_isRes p0 p1;have c2:w.cell? ⟨rb,2,none⟩=some (ab ac S.fuse):=h.cell 2;have c3:w.cell? ⟨rb,3,none⟩=some (.bool S.down):=h.cell 3;have c4:w.cell? ⟨rb,4,none⟩=some (ab ac S.done):=h.cell 4;have r2:=h.frozen 2;have r3:=h.frozen 3;have r4:=h.frozen 4;have HF:=ae hS.fuse;have HD:=hS.done;have H:=ae h;obtain⟨fu,hfu⟩:=w9nm S.fuse;obtain⟨dn,hdn⟩:=w9nm S.done;obtain⟨dw,hdw⟩:=w9nm S.down;have EF:=ae hfu;have ED:=ae hdn;have EW:=ae hdw;rw[hfu]at c2 HF;rw[hdn]at c4 HD;rw[hdw]at c3;clear h hS hfu hdn hdw;by_cases h0:fu=0
 ·subst h0;have HE:Hid (S.ok=false):=by show _=_;simp[RS.ok,EF.out]
  have HA:Hid ({S with down:=true}=S.after):=by show _=_;unfold RS.after;rw[if_neg (by rw[HE.out];simp)]
  go_enter func151,ntmps151;go_wp2;go_ret;obtain⟨g1,g2⟩:=H.out.set hR 3 (.bool true);rw[HE.out,←HA.out];exact⟨rfl,f,g1,g2⟩
 ·have q0:(fu==0)=false:=by simpa using h0
  cases dw with
  | true=>
   have HE:Hid (S.ok=false):=by show _=_;simp[RS.ok,EW.out]
   have HA:Hid (S=S.after):=by show _=_;unfold RS.after;rw[if_neg (by rw[HE.out];simp)];cases S;simp at *;exact EW.out
   go_enter func151,ntmps151;go_wp2;go_ret;rw[HE.out,←HA.out];exact⟨rfl,f,H.out,Turn.refl _ _⟩
  | false=>
   have HE:Hid (S.ok=true):=by show _=_;simp[RS.ok,EW.out,EF.out,h0]
   by_cases h1:0<fu
   ·have HA:Hid ({S with fuse:=fu - 1,done:=dn+1}=S.after):=by show _=_;unfold RS.after;rw[if_pos HE.out,EF.out,ED.out,if_pos h1]
    have HF1:=HF.out h1;have r2':(w.setCell ⟨rb,2,none⟩ (ab ac (fu - 1))).frozen? ⟨rb,4,none⟩=false:=by rw[World.frozen?_setCell];exact r4
    clear HF;go_enter func151,ntmps151;go_wp2;go_ret;obtain⟨g1,g2⟩:=H.out.set hR 2 (ab ac (fu - 1));obtain⟨g3,g4⟩:=g1.set hR 4 (ab ac (dn+1));rw[HE.out,←HA.out];exact⟨rfl,f,g3,g2.trans g4⟩
   ·have HA:Hid ({S with done:=dn+1}=S.after):=by show _=_;unfold RS.after;rw[if_pos HE.out,EF.out,ED.out,if_neg h1]
    clear HF;go_enter func151,ntmps151;go_wp2;go_ret;obtain⟨g1,g2⟩:=H.out.set hR 4 (ab ac (dn+1));rw[HE.out,←HA.out];exact⟨rfl,f,g1,g2⟩
end
section
attribute [-simp] isAgg51 zeroValue51
attribute [-go_sem] aE aL
attribute [local go_sem] bC bD fe ez
attribute [local go_sem] Oper.semAt_some
theorem LI (a b:Option aF) (w:ah):(Instr.index 137 (al #[am a,am b]) (ab ac 0)).run aj w=.ok (am a) w:=by kernel_rfl
theorem LJ (a b:Option aF) (w:ah):(Instr.index 137 (al #[am a,am b]) (ab ac 1)).run aj w=.ok (am b) w:=by kernel_rfl
attribute [local go_sem] LI LJ
def sX (p0 p1 i:Nat):Nat:=if i=0 then p0 else p1
def qE (p0 p1:Nat) (i:Nat):Array ak:=#[ab ac (i:Int),am (some ⟨sX p0 p1 i,0,none⟩)]
def LK (Bd rb p0 p1:Nat) (W:ah):Prop:=Boxed W Bd 31 (am (some ⟨rb,0,none⟩))/\W.cell? ⟨rb,0,none⟩=some (am (some ⟨p0,0,none⟩))/\W.cell? ⟨rb,0+1,none⟩=some (am (some ⟨p1,0,none⟩))
def BJ (pre:List Nat) (x:Nat):Prop:=(pre= []/\x=0)\/(pre= [0]/\x=1)
theorem BK (Bd rb p0 p1:Nat) (w:ah):oJ Fence.wide 2 aj 205 #[am (some ⟨Bd,0,none⟩)] (qE p0 p1) (fun _ W=>LK Bd rb p0 p1 W) BJ (fun xs=>xs= [0,1]) w:=by
 intro l J Jx W _ hR _ _ hY h0;refine callsIn_of_wp func205 rfl trivial ?_ rfl;simp only[ntmps205,cJ,bz,cx,Nat.reduceAdd,Nat.reduceSub,cO,cP,cQ,cR,cy,cC];obtain⟨hbx,c0,c1⟩:=hR _ _ h0;have hbc:=hbx.cell;clear hbx
 gi_wp2
 clear hbc c0 c1
 gi_loopw [11] (fun i wr=>(i=ab ac 0/\J [] wr)\/(i=ab ac 1/\J [0] wr)\/(i=ab ac 2/\J [0,1] wr)) (fun i _=>2 - (aS i).toNat)
 case atStart=>exact aA ⟨rfl,h0⟩
 case round=>
  rcases hrel with⟨rfl,hJ⟩ | ⟨rfl,hJ⟩ | ⟨rfl,hJ⟩
  ·obtain⟨fn,tmps,assign,body,hy0,hYr⟩:=hY [] 0 wr hJ (aA ⟨rfl,rfl⟩);have hy:(Instr.yield l #[ab ac 0,am (some ⟨p0,0,none⟩)]).run aj wr=_:=hy0;clear hy0
   gi_wp2
   refine hYr.mono ?_;rintro e W3 (⟨rfl,hJ3⟩ | ⟨rfl,hJx3⟩)
   ·gi_wp2
    go_roundw
    case rel=>exact aD (aA ⟨rfl,hJ3⟩)
    case measure=>simp[aS]
   ·gi_wp2
    refine bo (results_none rfl _ _ _) rfl ?_;exact⟨⟨_,rfl⟩,aD ⟨_,hJx3⟩⟩
  ·obtain⟨fn,tmps,assign,body,hy0,hYr⟩:=hY [0] 1 wr hJ (aD ⟨rfl,rfl⟩);have hy:(Instr.yield l #[ab ac 1,am (some ⟨p1,0,none⟩)]).run aj wr=_:=hy0;clear hy0
   gi_wp2
   refine hYr.mono ?_;rintro e W3 (⟨rfl,hJ3⟩ | ⟨rfl,hJx3⟩)
   ·gi_wp2
    go_roundw
    case rel=>exact aD (aD ⟨rfl,hJ3⟩)
    case measure=>simp[aS]
   ·gi_wp2
    refine bo (results_none rfl _ _ _) rfl ?_;exact⟨⟨_,rfl⟩,aD ⟨_,hJx3⟩⟩
  ·gi_wp2
   go_end0
   exact⟨⟨_,rfl⟩,aA ⟨_,rfl,hJ⟩⟩
theorem LM (Bd:Nat) (encs:Nat->Array ak) (w:ah):oJ Fence.wide 2 aj 205 #[am (some ⟨Bd,0,none⟩)] encs (fun _ W=>Boxed W Bd 31 (am none)) (fun _ _=>False) (fun xs=>xs= []) w:=by
 intro l J Jx W _ hR _ _ _ h0;refine callsIn_of_wp func205 rfl trivial ?_ rfl;simp only[ntmps205,cJ,bz,cx,Nat.reduceAdd,Nat.reduceSub,cO,cP,cQ,cR,cy,cC];have hbc:=(hR _ _ h0).cell
 gi_wp2
 refine bo (results_none rfl _ _ _) rfl ?_;exact⟨⟨_,rfl⟩,aA h0⟩
theorem wl (F:Fence) (n:Nat) (hf:F.fn 118) (hro:F.round=none) (p:Option aF) (w:ah):
  CallsIn F n aj 118 #[am p] w fun e w'=>e=ao (.func (.func 205) #[] #[am (some ⟨w.heap.size,0,none⟩)])/\w'=w.alloc (an #[am p] 31):=by
 refine callsIn_of_wp func118 rfl hf ?_ hro;simp only[ntmps118,cJ,bz,cx,Nat.reduceAdd,Nat.reduceSub,cO,cP,cQ,cR,cy,cC]
 gi_wp2
 go_ret;exact⟨rfl,rfl⟩
end
section
attribute [-simp] isAgg51 zeroValue51
attribute [-go_sem] aE aL
attribute [local go_sem] bC bD fe ez
attribute [local go_sem] Oper.semAt_some
def dk (p0 p1:Nat) (dev:Int):Option aF:=if dev=0 then some ⟨p0,0,none⟩else if dev=1 then some ⟨p1,0,none⟩else none
set_option maxRecDepth 100000 in
theorem LN (rb p0 p1:Nat) (dev:Int) (w:ah) (hlt:rb<w.heap.size) (hc0:w.cell? ⟨rb,0,none⟩=some (am (some ⟨p0,0,none⟩))) (hc1:w.cell? ⟨rb,1,none⟩=some (am (some ⟨p1,0,none⟩))):
  ap aj 149 #[am (some ⟨rb,0,none⟩),ab ac dev] w fun e w'=>e=ao (am (dk p0 p1 dev))/\ag w.heap.size w w':=by
 refine(callsIn_wide (n:=3)).1 ?_;refine gA func149 rfl trivial ?_ rfl;simp only[ntmps149,cJ,bz,cx,Nat.reduceAdd,Nat.reduceSub,cO,cP,cQ,cR,cy,cC];have C0:=ae hc0;have C1:=ae hc1;have HLT:=ae hlt;clear hc0 hc1 hlt
 gi_wp2_with (refine⟨trivial, ?_⟩;gi_at_call 118;refine(wl _ _ trivial rfl _ _).mono ?_;rintro e w' ⟨rfl,rfl⟩)
 obtain⟨W0,hW0⟩:=w9nm (((w.alloc (an #[ab ac dev] 3)).alloc (an #[am none] 134)).alloc (an #[am (some ⟨rb,0,none⟩)] 31));have bv:Boxed W0 w.heap.size 3 (ab ac dev):=by rw[←hW0];exact((dD w _ _).alloc _).alloc _
 have br:Boxed W0 (w.heap.size+1) 134 (am none):=by
  rw[←hW0];have:=(dD (w.alloc (an #[ab ac dev] 3)) 134 (am none)).alloc (an #[am (some ⟨rb,0,none⟩)] 31)
  rwa [bO]at this
 have bd:Boxed W0 (w.heap.size+1+1) 31 (am (some ⟨rb,0,none⟩)):=by
  rw[←hW0];have:=dD ((w.alloc (an #[ab ac dev] 3)).alloc (an #[am none] 134)) 31 (am (some ⟨rb,0,none⟩))
  rwa [bO,bO]at this
 have hB0:ag w.heap.size w W0:=by rw[←hW0];exact(((aI _ w).alloc (aG _) _).alloc (by simp) _).alloc (by simp;omega) _
 have hsz0:W0.heap.size=w.heap.size+3:=by rw[←hW0];simp
 rw[hW0];clear hW0;refine pQ (n:=3) rfl (by omega) (gf:= 205) (lb:=#[am (some ⟨w.heap.size+1+1,0,none⟩)]) rfl trivial (enters_of func205 (by kernel_rfl) rfl)
  (fun pre W=>Boxed W w.heap.size 3 (ab ac dev)/\Boxed W (w.heap.size+1) 134 (am none)/\Boxed W (w.heap.size+1+1) 31 (am (some ⟨rb,0,none⟩))/\ag w.heap.size w W/\∀y:Nat,y ∈ pre->(y:Int)≠dev)
  (fun c pre W=>c=.ret/\Boxed W (w.heap.size+1) 134 (am (dk p0 p1 dev))/\ag w.heap.size w W)
  ((BK (w.heap.size+1+1) rb p0 p1 W0).mono fun pre W hI=>⟨hI.2.2.1,(hI.2.2.2.1.cell (p:=⟨rb,0,none⟩) HLT.out).trans C0.out,(hI.2.2.2.1.cell (p:=⟨rb,1,none⟩) HLT.out).trans C1.out⟩)
  (aI _ _) (fun _=>rfl)
  ((lr _ _ (fun _=>ab ac dev) _).and ((lr _ _ (fun _=>am none) _).and ((lr _ _ (fun _=>am (some ⟨rb,0,none⟩)) _).and ((ownFrom_below (aG _) (by omega)).and (fun s W W' row hs hg hr=>hs)))))
  (fun c=>OwnFrom.and (fun s W W' row hs hg hr=>hs) ((lr _ _ (fun _=>am (dk p0 p1 dev)) _).and (ownFrom_below (aG _) (by omega))))
  ⟨bv,br,bd,hB0,fun y hy=>by cases hy⟩ ?a1 ?assign ?body ?done ?stop
 case assign=>
  intro l x W K hK
  dsimp only[qE]
  gi_wp2
  exact hK
 case body=>
  rintro l pre x W ⟨hbv,hbr,hbd,hB,hne⟩ hok;have d1:=hbv.cell;have d2:=hbr.cell;have d3:=hbr.frozen;have HBV:=ae hbv;have HBR:=ae hbr;have HBD:=ae hbd;have HB:=ae hB;have HNE:=ae hne;have HOK:=ae hok;obtain⟨p,hp⟩:=w9nm (sX p0 p1 x);have HP:=ae hp;rw[hp];clear hbv hbr hbd hB hne hok hp;by_cases q:(x:Int)=dev
  ·have q1:((x:Int)==dev)=true:=by simpa using q
   have HQ:=ae q;clear q
   gi_wp2
   have e:dk p0 p1 dev=some ⟨p,0,none⟩:=by
    rw[←HQ.out,←HP.out];rcases HOK.out with⟨_,rfl⟩ | ⟨_,rfl⟩<;>simp[dk,sX]
   rw[e];exact⟨(iK _ _ _).from _,rfl,HBR.out.set _,HB.out.setCell (p:=⟨w.heap.size+1,0,none⟩) (by simp) _⟩
  ·have q1:((x:Int)==dev)=false:=by simpa using q
   have HQ:=ae q;clear q
   gi_wp2
   refine⟨(KeepsOthers.refl _).from _,trivial,HBV.out,HBR.out,HBD.out,HB.out,fun y hy=> ?_⟩;rcases gc.1 hy with hy | hy
   ·exact HNE.out y hy
   ·rw[eF.1 hy];exact HQ.out
 case done=>
  rintro Dd xs W hDd rfl ⟨hbv,hbr,hbd,hB,hne⟩ hK;have d2:=hbr.cell;have d3:=hbr.frozen;have e:dk p0 p1 dev=none:=by
   have h0:=hne 0 (by simp);have h1:=hne 1 (by simp);unfold dk;rw[if_neg (fun h=>h0 (by simp[h])),if_neg (fun h=>h1 (by simp[h]))]
  have HE:=ae e;clear e
  gi_wp2
  have hK':=(iK W ⟨w.heap.size+1,0,none⟩ (am none)).same Dd _ hK rfl;refine⟨by simp,aA ⟨_,_,rfl,eU hK', ?_⟩⟩;have hc5:=cell_kept (hbr.set (am none)).cell (grownBy_putObj' _ Dd (.deferred none)) (fun r e=>by cases e;exact⟨_,hK',rfl⟩);refine⟨am none, ?_,by rw[HE.out],(hB.setCell (p:=⟨w.heap.size+1,0,none⟩) (by simp) _).trans (belowK_b (w:=w) (aG _) _ Dd _ _ (by omega) hK' rfl rfl)⟩;simp[results,Tryz.f149,go_sem,hc5]
 case stop=>
  rintro Dd c pre W hDd ⟨rfl,hbr,hB⟩ hK
  gi_wp2
  refine⟨by simp,aA ⟨_,_,rfl,eU hK, ?_⟩⟩;have hc5:=cell_kept hbr.cell (grownBy_putObj' _ Dd (.deferred none)) (fun r e=>by cases e;exact⟨_,hK,rfl⟩);refine⟨am (dk p0 p1 dev), ?_,rfl,hB.trans (belowK_b (w:=w) (aG _) W Dd _ _ (by omega) hK rfl rfl)⟩;simp[results,Tryz.f149,go_sem,hc5]
set_option maxRecDepth 100000 in
theorem sY (dev:Int) (w:ah):
  ap aj 149 #[am none,ab ac dev] w fun e w'=>e=ao (am none)/\ag w.heap.size w w':=by
 refine(callsIn_wide (n:=3)).1 ?_;refine gA func149 rfl trivial ?_ rfl;simp only[ntmps149,cJ,bz,cx,Nat.reduceAdd,Nat.reduceSub,cO,cP,cQ,cR,cy,cC]
 gi_wp2_with (refine⟨trivial, ?_⟩;gi_at_call 118;refine(wl _ _ trivial rfl _ _).mono ?_;rintro e w' ⟨rfl,rfl⟩)
 obtain⟨W0,hW0⟩:=w9nm (((w.alloc (an #[ab ac dev] 3)).alloc (an #[am none] 134)).alloc (an #[am none] 31));have br:Boxed W0 (w.heap.size+1) 134 (am none):=by
  rw[←hW0];have:=(dD (w.alloc (an #[ab ac dev] 3)) 134 (am none)).alloc (an #[am none] 31)
  rwa [bO]at this
 have bd:Boxed W0 (w.heap.size+1+1) 31 (am none):=by
  rw[←hW0];have:=dD ((w.alloc (an #[ab ac dev] 3)).alloc (an #[am none] 134)) 31 (am none)
  rwa [bO,bO]at this
 have hB0:ag w.heap.size w W0:=by rw[←hW0];exact(((aI _ w).alloc (aG _) _).alloc (by simp) _).alloc (by simp;omega) _
 have hsz0:W0.heap.size=w.heap.size+3:=by rw[←hW0];simp
 rw[hW0];clear hW0;refine pQ (n:=3) rfl (by omega) (gf:= 205) (lb:=#[am (some ⟨w.heap.size+1+1,0,none⟩)]) rfl trivial (enters_of func205 (by kernel_rfl) rfl)
  (fun pre W=>Boxed W (w.heap.size+1) 134 (am none)/\Boxed W (w.heap.size+1+1) 31 (am none)/\ag w.heap.size w W)
  (fun _ _ _=>False)
  ((LM (w.heap.size+1+1) (qE 0 0) W0).mono fun pre W hI=>hI.2.1)
  (aI _ _) (fun _=>rfl)
  ((lr _ _ (fun _=>am none) _).and ((lr _ _ (fun _=>am none) _).and (ownFrom_below (aG _) (by omega))))
  (fun _ _ _ _ _ h _ _=>h.elim) ⟨br,bd,hB0⟩ ?a1 ?assign ?body ?done ?stop
 case assign=>
  intro l x W K hK
  dsimp only[qE]
  gi_wp2
  exact hK
 case body=>
  rintro l pre x W _ h;exact h.elim
 case done=>
  rintro Dd xs W hDd rfl ⟨hbr,hbd,hB⟩ hK;have d2:=hbr.cell;have d3:=hbr.frozen
  gi_wp2
  have hK':=(iK W ⟨w.heap.size+1,0,none⟩ (am none)).same Dd _ hK rfl;refine⟨by simp,aA ⟨_,_,rfl,eU hK', ?_⟩⟩;have hc5:=cell_kept (hbr.set (am none)).cell (grownBy_putObj' _ Dd (.deferred none)) (fun r e=>by cases e;exact⟨_,hK',rfl⟩);refine⟨am none, ?_,rfl,(hB.setCell (p:=⟨w.heap.size+1,0,none⟩) (by simp) _).trans (belowK_b (w:=w) (aG _) _ Dd _ _ (by omega) hK' rfl rfl)⟩;simp[results,Tryz.f149,go_sem,hc5]
 case stop=>
  rintro D c pre W _ h _;exact h.elim
theorem BL (p:Option aF) (n:Nat) (i:Int) (w:ah) (hl:ap aj 226 #[am p] w fun e w'=>e=ao (ab ac (n:Int))/\w'=w):
  ap aj 150 #[am p,ab ac i] w fun e w'=>e=ao (.bool (decide (0<=i/\i< (n:Int))))/\w'=w:=by
 have HL:=ae hl;clear hl;by_cases h0:0<=i
 ·have g0:decide (0<=i)=true:=by simpa using h0
  have HE:Hid (decide (i< (n:Int))=decide (0<=i/\i< (n:Int))):=by show _=_;simp[h0]
  go_enter func150,ntmps150;go_wp2_with fail;refine HL.out.mono ?_;rintro e w' ⟨rfl,rfl⟩;go_wp2_with fail;go_ret;exact⟨by rw[←HE.out];rfl,rfl⟩
 ·have g0:decide (0<=i)=false:=by simpa using h0
  have HE:Hid (false=decide (0<=i/\i< (n:Int))):=by show _=_;simp[h0]
  go_enter func150,ntmps150;go_wp2_with fail;go_ret;exact⟨rfl,rfl⟩
end
section
theorem LO (D:Nat->Sec) (n j:Nat) (hj:j<n):(dN D (fun j=>(D j).vs.length) (cZ D n) j).look=(D j).look:=by
 by_cases h:(D j).vs= []
 ·rw[ko (fun hm=>qz hm h)]
 ·rw[nS (sR hj h),Sec.look_some h];have hp:=List.length_pos_iff.2 h;unfold Sec.settle Sec.look;simp only[List.getLast?_nil,Option.getD_none];rw[if_neg (by omega)]
theorem add_look (s:Sec) (b:List ak) (h:s.vs.length<=255):(s.add b).look=b:=by
 unfold Sec.add Sec.look;rw[if_neg (by omega)];simp
theorem BM (s:Sec) (b:List ak) (h:s.vs.length<=255):(s.add b).vs.length=s.vs.length+1:=by
 unfold Sec.add;rw[if_neg (by omega)];simp
theorem BN (D:Nat->Sec) (n j:Nat) (hj:j<n):(dN D (fun j=>(D j).vs.length) (cZ D n) j).vs= []:=by
 by_cases h:(D j).vs= []
 ·rw[ko (fun hm=>qz hm h)];exact h
 ·rw[nS (sR hj h)];rfl
theorem LQ (D:Nat->Sec) (n j:Nat) (hj:j<n):(dN D (fun j=>(D j).vs.length) (cZ D n) j).c=(D j).look:=by
 rw[←LO D n j hj,Sec.look_none (BN D n j hj)]
theorem qF (D:Nat->Sec) (g:Nat->Nat) (n j:Nat) (hj:j<n):(dN D g (cZ D n) j).vs= []:=by
 by_cases h:(D j).vs= []
 ·rw[ko (fun hm=>qz hm h)];exact h
 ·rw[nS (sR hj h)];rfl
theorem LR (D:Nat->Sec) (g:Nat->Nat) (n j:Nat) (hj:j<n):(dN D g (cZ D n) j).look=(D j).c\/(dN D g (cZ D n) j).look ∈(D j).vs:=by
 rw[Sec.look_none (qF D g n j hj)];by_cases h:(D j).vs= []
 ·rw[ko (fun hm=>qz hm h)];exact aA rfl
 ·rw[nS (sR hj h)];unfold Sec.settle
  dsimp only
  split
  ·exact aA rfl
  ·cases e:(D j).vs[g j - 1]? with
   | none=>exact aA rfl
   | some v=>exact aD (dp e)
end
section
attribute [-simp] isAgg51 zeroValue51
attribute [-go_sem] aE aL
attribute [local go_sem] bC bD fe ez
theorem ij {w w':ah} {b o:Nat} {c:List ak} (h:w.rangeAt b o c) (hb:w'.heap[b]? =w.heap[b]?):w'.rangeAt b o c:=fun j x hx=>(gj (a:=⟨b,o+j,none⟩) hb).trans (h j x hx)
def Own (W x:ah) (v:ak) (vs:List (List ak)):Prop:=x.ownsRow W.heap.size 51 64 v vs.length vs.flatten
def One (W x:ah) (B:Nat) (b:List ak):Prop:=W.heap.size<=B/\B<x.heap.size/\x.rangeAt B 0 b
end
end Go.Proofs.YtbeeenembgplmaaGreat
