/- Made shorter by a tool: what the statements rest on. -/
import Derived.Test.YtbeeenembgplmaaGreatMT6
import Derived.Deep.Cut
import Derived.Deep.CutRange
import Derived.Deep.CutBlock
set_option maxRecDepth 100000
set_option maxHeartbeats 20000000
set_option linter.unusedVariables false
set_option linter.unusedSimpArgs false
open List renaming drop_succ_cons -> be, drop_zero -> bf, getElem?_eq_getElem -> bJ, replicate -> bK, length_append -> cX, mem_map -> dc, range -> dm, getElem?_eq_some_iff -> dp, getElem?_map -> du, mem_of_getElem? -> dI, mem_singleton -> dO, mem_cons -> ec, mem_cons_self -> eV, length_take -> fd, mem_range -> fo, map_append -> fp, mem_cons_of_mem -> fG, length_map -> fZ, mem_append -> gW, mem_of_mem_take -> gX, getElem?_eq_none -> iB, eq_nil_of_length_eq_zero -> je
open Nat renaming le_refl -> aJ, lt_of_lt_of_le -> aU, le_trans -> aZ, zero_le -> bq, zero_add -> dC, mod_lt -> fO
open Int renaming le_refl -> fP, toNat_natCast -> gO
open Go.Lib renaming hid -> ae
open Go renaming World -> ak, Value -> am, Calls -> az, loadVar -> aE, storeVar -> aL, Addr -> aN, wpQuiet_nil -> aO, maxLen -> aS, TypeId -> aV, heap_alloc_new -> bR, cell_of_row -> cl, run_equalIn_agg -> cZ, all_oneCell_toArray -> gD, run_loadVar_mid -> iL, run_storeVar_new -> iU
open Go.Instr renaming buildSlice -> cO, build -> cY
open Go.IntWalk renaming wrap64_in -> gj
open Go.Op renaming equalIn -> eG
open Go.RowKit renaming Below -> ah, intOf -> aW
open Go.RowKit.Below renaming refl -> aF
open Go.World renaming cell?_of_block -> cL, ownsRow_nil -> ft
open Go.Ending renaming returned -> ar
open Go.IntKind renaming i64 -> af, u8 -> aq, u32 -> aD
open Go.Obj renaming cells -> ap
open Go.Value renaming int -> ab, slice -> ag, agg -> al, pointer -> ao, tuple -> aQ
open Or renaming inl -> aA, inr -> aC
open Go.Proofs.Tryz
open Go.Proofs.Tryz renaming prog -> aj
namespace Go.Proofs.YtbeeenembgplmaaGreat
open Go.RowKit Go.Shelf Go.Lib
section
attribute [-simp] isAgg51 zeroValue51 isAgg205 zeroValue205 isAgg23 zeroValue23 isAgg29 zeroValue29 isAgg112 zeroValue112 isAgg254 zeroValue254
attribute [-go_sem] aE aL cZ
attribute [local go_sem] bC bD cV iR jZ iQ mF mG
attribute [-simp] isAgg232 zeroValue232
attribute [local go_sem] nL kv
section
theorem Gx {m rq q0 q1:Nat} {S:RS} {M:MS} {w:ak} {f:Nat->Prop} (h:cS (bG rq q0 q1 S) (ka m rq M) w f) (hu:S.Up) (hf:S.Few 100) (hd:0<=S.done/\S.done<=500000) (hn:S.n0<=4096) (hok:M.Ok S)
  {v:am} {bs:List Int} (hv:Sl aq w v bs) (hb:aP bs) (hl:bs.length=M.b.length) (ha:jw v f):
  az aj 61 #[ao (some ⟨m,0,none⟩),v] w fun e w'=>e=ar (ab af 0)/\∃f',cS (bG rq q0 q1 (S.cmt M bs).1) (ka m rq (M.next bs)) w' f'/\Turn f f' w w':=by
 obtain⟨f1,f2,hR,⟨Bb,cb,Bh,ch,hM,rfl⟩,hD,rfl⟩:=h;have hN:=Geo.nats hok.good;have hpc:=hok.pcs;have hpc':=hok.pcs' hl;have hmx:=w9x
 have hbl:M.b.length<=714:=by rw[hok.len];exact hN.b2
 have hb0:0<M.b.length:=hM.b0;have hne:bs≠ []:=by intro e;rw[e]at hl;simp at hl;omega
 have HCW:Hid (∀x,w9b w x->az aj 139 #[ag (some ⟨Bb,0,none⟩) M.b.length cb] x fun e w'=>∃g c cur,e=ar (ag (some ⟨g,0,none⟩) (cB M.b) c)/\PgsR w' (ag (some ⟨g,0,none⟩) (cB M.b) c) g (aM M.b)/\x.heap.size<=g/\w'.heap[g]? =some (ap cur 205 (0,0))/\ah x.heap.size x w'):=fun x hx=>tH x (hM.below hx).sl hok.bytes (by omega) (by rw[hpc];have:=hN.p1;omega);have HCN:Hid (∀x,w9b w x->az aj 139 #[v] x fun e w'=>∃g c cur,e=ar (ag (some ⟨g,0,none⟩) (cB bs) c)/\PgsR w' (ag (some ⟨g,0,none⟩) (cB bs) c) g (aM bs)/\x.heap.size<=g/\w'.heap[g]? =some (ap cur 205 (0,0))/\ah x.heap.size x w'):=fun x hx=>tH x (hv.below hx) hb (by omega) (by rw[hpc'];have:=hN.p1;omega);rw[hpc]at HCW;rw[hpc']at HCN;have c6:w.cell? ⟨m,6,none⟩=some (ag (some ⟨Bb,0,none⟩) M.b.length cb):=hM.row.cell 6 _ rfl;have HF1:Hid (∀k,f1 k->k<w.heap.size):=(bG.isRes rq q0 q1 S).lt hR;have HD0:Hid (¬f1 m/\¬f1 Bb/\¬f1 Bh):=⟨fun e=>hD m e (aA rfl),fun e=>hD Bb e (aC (aA rfl)),fun e=>hD Bh e (aC (aC rfl))⟩;have HTAIL:=ae (fun(ht:M.dif bs≠ [])=>hok.txn hl hb ht);have HAM:Hid (∀b off len cap,v=ag (some ⟨b,off,none⟩) len cap->b≠m):=fun b off len cap e h=>ha b off len cap e (aC (aA h));have HML:Hid (m<w.heap.size/\Bb<w.heap.size/\Bh<w.heap.size):=hM.lt;have HAW:Hid (jw v f1):=fun b off len cap e hk=>ha b off len cap e (aA hk);have HV:=ae hv;have HR:=ae hR;have HM:=ae hM;have HU:=ae hu;have HFW:=ae hf;have HDN:=ae hd;have HN0:=ae hn;have HOK:=ae hok;have HNT:=ae hN;have HBB:=ae hb;have HBL:Hid (0<M.b.length/\M.b.length<=714/\bs.length=M.b.length):=⟨hb0,hbl,hl⟩;have HNE:=ae hne;have HWL:Hid ((aM M.b).length=M.g.P/\(aM bs).length=M.g.P):=⟨(it _).trans hpc,(it _).trans hpc'⟩;have HPN:Hid (2<=M.g.P/\M.g.P<=15):=⟨hN.p1,hN.p2⟩;have HD2:Hid (∀k,(fun k=>k=m\/k=Bb\/k=Bh) k->f1 k->False):=fun k h1 h2=>hD k h2 h1;obtain⟨av,cv,rfl,_⟩:=hv;rw[hl]at HCN HAW HAM HV ⊢;obtain⟨n,hnn⟩:=w9nm M.b.length;rw[hnn]at c6 HCW HCN HBL HAW HAM HV ⊢;have HNN:=ae hnn;obtain⟨P,hP⟩:=w9nm M.g.P;rw[hP]at HCW HCN HWL HPN;have HPP:=ae hP;clear hR hM hD hu hf hd hn hok hb hl ha hN hpc hpc' hbl hb0 hne hnn hP;go_enter func61,ntmps61;go_wp2_with fail;go_at_call 139;refine(HCW.out w (aF _ _)).mono ?_;rintro e x1 ⟨gw,cw,curw,rfl,hpw,hgw,hcw,hb1⟩;clear c6;go_wp2_with fail;go_at_call 139;refine(HCN.out x1 hb1).mono ?_;rintro e x2 ⟨gn,cn,curn,rfl,hpn,hgn,hcn,hb2⟩;have K2:w9h w x2:=hb1.trans (hb2.mono hb1.size);have hnf:∀k,w.heap.size<=k->¬f1 k:=fun k hk h=>by have:=HF1.out k h;omega
 have hgwl:gw<x1.heap.size:=hpw.lt;have YC:Hid (ByC m rq Bb cb Bh ch M gw cw gn cn w.heap.size (aM M.b) (aM bs) (ag av n cv) bs x2 f1):=by
  refine⟨HM.out.below K2.out,HD0.out,⟨by rw[HWL.out.1];exact hpw.below hb2,⟨curw,(hb2.block gw hgwl).trans hcw⟩,hnf gw hgw,hgw⟩,⟨by rw[HWL.out.2];exact hpn,⟨curn,hcn⟩,hnf gn (aZ hb1.size hgn),aZ hb1.size hgn⟩,HV.out.below K2.out,HNE.out,HAW.out⟩
 have YR:Hid (bG rq q0 q1 S x2 f1):=(bG.isRes _ _ _ _).below HR.out K2.out;clear hpw hgw hcw hb1 hpn hgn hcn hb2 hnf hgwl HCW HCN;go_wp2_with fail;go_loopw [7,8] (fun lv i wr=>∃k:Nat,k<=P/\i=ab af (k:Int)/\Hid (wr.ownsRow x2.heap.size 232 49 lv (bI (jp (aM M.b) (aM bs) k)).length (bI (jp (aM M.b) (aM bs) k)).flatten)/\w9h x2 wr) (fun _ i _=>P - (aW i).toNat)
 case atStart=>exact⟨0,bq _,rfl,ft _ _ _ _,aF _ _⟩
 case round=>
  obtain⟨k,hk,rfl,HO,HB⟩:=hrel;by_cases hlt:k<P
  ·have g3:decide ((k:Int)< (P:Int))=true:=by simpa using hlt
   have hpw:=YC.out.w9.pg.below HB.out;have hpn:=YC.out.n9.pg.below HB.out;have hkw:k< (aM M.b).length:=by rw[HWL.out.1];exact hlt
   have hkn:k< (aM bs).length:=by rw[HWL.out.2];exact hlt
   have hlw:=(hpw.page hkw).2;have hln:=(hpn.page hkn).2;have LW:∀z:aI wr,(aE 205 ⟨gw,k*48,none⟩).run aj z.1=.ok (al (an (aY (aM M.b) k)).toArray) z.1:=fun z=>(hpw.below z.2).load hkw;have LN:∀z:aI wr,(aE 205 ⟨gn,k*48,none⟩).run aj z.1=.ok (al (an (aY (aM bs) k)).toArray) z.1:=fun z=>(hpn.below z.2).load hkn;have EQ:∀z:ak,(eG 10000 205 (al (an (aY (aM bs) k)).toArray) (al (an (aY (aM M.b) k)).toArray)).run aj z=.ok (fg (an (aY (aM bs) k)) (an (aY (aM M.b) k))) z:=fun z=>nh hln hlw z;have hdf:=differs hkn hkw;obtain⟨b,hbb⟩:=w9nm (fg (an (aY (aM bs) k)) (an (aY (aM M.b) k)));rw[hbb]at EQ hdf;have HDF:=ae hdf;have HLN:=ae hln;have HLN2:=ae LN;obtain⟨ra,na,ca,rfl⟩:=lE HO.out;obtain⟨pn,hpnn⟩:=w9nm ((an (aY (aM bs) k)).toArray);obtain⟨pw,hpww⟩:=w9nm ((an (aY (aM M.b) k)).toArray);have HPNN:=ae hpnn;rw[hpnn]at EQ LN;rw[hpww]at EQ LW;have hk20:k<20:=by have:=HPN.out;omega
   clear hpw hpn hkw hkn hlw hln hdf hbb hpnn hpww;go_wp2_with fail;refine ex (fun x=>∃y:aI wr,x=y.1) 9 (.takes [0,1,2,3,4,5,6,7,8] .leaf) hmx (by kernel_rfl) ⟨⟨wr.drew,(aF _ wr).drew⟩,rfl⟩ ?_;repeat(rw[cP];simp only[au,ay];go_big_quiet_step (fail);try(with_reducible refine aO ?_))
   rw[cT];rw[dW];simp only[be,bf];clear LW LN EQ;obtain⟨V,hV⟩:=w9nm wr.drew;have BV:Hid (ah wr.heap.size wr V):=by show ah _ _ _;rw[←hV];exact(aF _ wr).drew
   try rw[hV]
   clear hV;have OV:=ae (eK HO.out BV.out);have KV:w9h x2 V:=HB.out.trans (BV.out.mono HB.out.size);cases b with
   | true=>
    have e9:jp (aM M.b) (aM bs) (k+1)=jp (aM M.b) (aM bs) k:=tI (by rw[HDF.out];rfl);rw[←e9]at OV;clear e9;go_wp2_with fail;go_roundw
    case rel=>exact⟨k+1,hlt,by go_num,OV,KV⟩
    case measure=>simp[aW];omega
   | false=>
    have e9:jp (aM M.b) (aM bs) (k+1)=jp (aM M.b) (aM bs) k++ [⟨(k:Int),aY (aM bs) k⟩]:=qm (by rw[HDF.out];rfl);have LV:=HLN2.out ⟨V,BV.out⟩;have BI:(cY 232 #[(0,ab af (k:Int)),(1,al (an (aY (aM bs) k)).toArray)]).run aj V=.ok (al (⟨(k:Int),aY (aM bs) k⟩:Img).cells.toArray) V:=vJ _ _ (by rw[bi];exact HLN.out) V;have hil:(⟨(k:Int),aY (aM bs) k⟩:Img).cells.length=49:=Img.cells_length HLN.out;obtain⟨ic,hic⟩:=w9nm ((⟨(k:Int),aY (aM bs) k⟩:Img).cells);have hi1:∀u ∈ ic,u.oneCell'=true:=by rw[←hic];intro v hv;rcases ec.1 hv with rfl | hv;rfl;exact iO _ v hv
    rw[hic]at hil BI;have eI:bI (jp (aM M.b) (aM bs) (k+1))=bI (jp (aM M.b) (aM bs) k)++ [ic]:=by rw[e9,←hic];unfold bI;rw[fp];rfl
    obtain⟨V1,hV1⟩:=w9nm (V.alloc (ap ic.toArray 232));have SB:(cO 231 1 #[(0,al ic.toArray)]).run aj V=.ok (ag (some ⟨V.heap.size,0,none⟩) 1 1) V1:=by rw[←hV1];exact vK V _ hil
    have b1:ah V.heap.size V V1:=by rw[←hV1];exact aR V _
    have hVs:x2.heap.size<=V1.heap.size:=aZ KV.out.size b1.size;have hlen:(bI (jp (aM M.b) (aM bs) k)).length<=1000000:=by rw[jF];have:=zh (p:=fun i=>decide ((aM bs)[i]? ≠(aM M.b)[i]?)) (f:=fun i=>(⟨(i:Int),aY (aM bs) i⟩:Img)) (k:=k);unfold jp;omega
    obtain⟨v5,V2,ra5,o5,g5, -⟩:=vL x2.heap.size V1 (ag ra na ca) _ ic V.heap.size (eK OV.out b1) hil hi1 (dJ (t:= 232) (by rw[←hV1];exact bR V _)) hlen hVs;rw[←eI]at o5;have O5:=ae o5;have RA:=ae ra5;have K5:w9h x2 V2:=(KV.out.trans (b1.mono KV.out.size)).grown g5 hVs (fun j e=>(jb OV.out j e).1);obtain⟨Bi,hBi⟩:=w9nm V.heap.size;rw[hBi]at SB RA;rw[HPNN.out]at LV BI;clear e9 hil hic hi1 eI hV1 b1 hVs hlen ra5 o5 g5;go_wp2_with (first | ((with_reducible refine gU 232 ?_);refine fJ _ _ rfl rfl [(0,ab af (k:Int)),(1,al pn)] _ rfl BI ?_) | ((with_reducible refine gG ?_);refine dq _ _ _ rfl rfl [(0,al ic.toArray)] _ rfl SB ?_) | (at_builtin;refine wpList_append_run (.tmp 44) (.tmp 51) 231 rfl rfl _ _ _ rfl rfl RA.out ?_));go_roundw
    case rel=>exact⟨k+1,hlt,by go_num,O5,K5⟩
    case measure=>simp[aW];omega
  ·obtain rfl:k=P:=by omega
   have g3:decide ((k:Int)< (k:Int))=false:=by simp
   have hall:jp (aM M.b) (aM bs) k=M.dif bs:=by
    have h1:=Gm (aM M.b) (aM bs);rw[HWL.out.2]at h1;exact h1.symm
   rw[hall]at HO;obtain⟨t,ht⟩:=w9nm (M.dif bs);rw[ht]at HO;have HTE:=ae ht;have htl:t.length<=15:=by
    have h1:(jp (aM M.b) (aM bs) k).length<=k:=zh;rw[hall,ht]at h1;have:=HPN.out;omega
   have HTL:=ae htl;obtain⟨ra,ca,hlv, -⟩:=fR HO.out;subst hlv;rw[jF]at HO ⊢;have YC2:=ae (YC.out.below HB.out);have YR2:Hid (bG rq q0 q1 S wr f1):=(bG.isRes _ _ _ _).below YR.out HB.out;have K3:w9h w wr:=K2.out.trans (HB.out.mono K2.out.size);have HXW:Hid (w.heap.size<=x2.heap.size):=K2.out.size;clear hall ht htl YC YR K2 HB hlt hk;by_cases htn:t= []
   ·have e1:t.length=0:=by rw[htn];rfl
    have hcn:=yH S (M:=M) (b:=bs) (HTE.out.trans htn);have HCM:=ae hcn;have HTN:=ae htn;rw[e1]at HO ⊢;clear hcn htn e1;go_wp2_with fail;go_ret;rw[HCM.out.1,HCM.out.2];exact⟨rfl,_,⟨f1,_,YR2.out,⟨Bb,cb,Bh,ch,YC2.out.at_,rfl⟩,fun k h1 h2=>HD2.out k h2 h1,rfl⟩,Turn.of_below K3.out⟩
   ·have htp:0<t.length:=by cases t with | nil=>exact absurd rfl htn | cons _ _=>simp
    obtain⟨gi,ci,hlv,hgiN, -,hgil,hgir⟩:=jm HO.out htp;cases hlv;have YI:Hid (ByI gi w.heap.size t wr f1):=⟨hgir,hgil,fun hk=>by have:=HF1.out gi hk;have:=HXW.out;omega,aZ HXW.out hgiN⟩;have HTX:Hid (TxnOk M.g.C t):=by have:=HTAIL.out (by rw[HTE.out];exact htn);rwa [HTE.out]at this
    obtain⟨tn,htn2⟩:=w9nm t.length;have HTN:=ae htn2;have htn15:tn<=15:=by rw[←htn2];exact HTL.out
    have g5:((tn:Int)==0)=false:=by rw[←htn2];simp;omega
    rw[htn2];have HT0:Hid (t≠ []):=htn;have LG:=nM YC2.out.at_.row;obtain⟨C9,hC9⟩:=w9nm (db M.g.bts M.g.pgs M.g.slots 2 (2+M.g.r) (2+M.g.r+M.g.pgs) (2+M.g.r+M.g.pgs+M.g.slots) (M.g.b+M.g.a));have HC9:=ae hC9;have HOF:Hid (∀y,az aj 11 #[al M.g.v] y fun e w'=>e=ar (al C9.toArray)/\ah y.heap.size y w'):=fun y=>by
     have:=mw M.g y;have e:M.g.szl=db M.g.bts M.g.pgs M.g.slots 2 (2+M.g.r) (2+M.g.r+M.g.pgs) (2+M.g.r+M.g.pgs+M.g.slots) (M.g.b+M.g.a):=if_pos HOK.out.good;rw[e,hC9]at this;exact this
    clear htp hgiN hgil hgir htn htn2 hC9 HO;go_wp2_with fail;go_at_call 11;refine(HOF.out wr).mono ?_;rintro e z1 ⟨rfl,hb⟩;obtain⟨z2,ST9,r9,c9⟩:=nt z1 M.g.bts M.g.pgs M.g.slots 2 (2+M.g.r) (2+M.g.r+M.g.pgs) (2+M.g.r+M.g.pgs+M.g.slots) (M.g.b+M.g.a);rw[HC9.out]at ST9 r9;obtain⟨B9,hB9⟩:=w9nm z1.heap.size;rw[hB9]at ST9 r9;have hbz:w9b wr z2:=hb.trans (c9.mono hb.size);have R9:=ae r9;have HB9:Hid (w.heap.size<=B9/\¬f1 B9):=by have h1:=K3.out.size;have h2:=hb.size;exact⟨by omega,fun hk=>by have:=HF1.out B9 hk;omega⟩
    have YC3:=ae (YC2.out.below hbz);have YI3:=ae (YI.out.turn (Turn.of_below hbz));have YR3:Hid (bG rq q0 q1 S z2 f1):=(bG.isRes _ _ _ _).below YR2.out hbz;have K4:=w9bt K3 hbz;have HRM:=ae (yG (m:=m) (rq:=rq) (M:=M) (w:=z2) (f:=fun k=>k=m\/k=Bb\/k=Bh) ⟨Bb,cb,Bh,ch,YC3.out.at_,rfl⟩ (by have h1:=HNT.out.c;have h2:=HNT.out.c2;omega) (by have h1:=HOK.out.used;have h2:=HNT.out.c2;omega));have hrb: -1000<=M.room/\M.room<=1000:=by unfold MS.room;have h1:=HOK.out.used;have h2:=HNT.out.c2;have h3:=HNT.out.c;omega
    have hww:wrap64 ((tn:Int)+1)=(tn:Int)+1:=gj _ (by omega);obtain⟨sc9,hsc9⟩:=w9nm C9.toArray;rw[hsc9]at ST9;try rw[hsc9]
    obtain⟨rm,hrm⟩:=w9nm M.room;rw[hrm]at HRM hrb;have HRMM:=ae hrm;have HFU:Hid (M.full bs↔rm< (tn:Int)+1):=by unfold MS.full;rw[HTE.out,HTN.out,hrm];exact Iff.rfl
    clear hb c9 r9 hbz LG hsc9 hrm YC2 YI YR2;go_wp2_with fail;clear ST9 hB9;go_at_call 70;refine HRM.out.mono ?_;rintro e z3 ⟨rfl,hb⟩;have R10:Hid (ByR B9 29 C9 z3 f1):=⟨R9.out.below hb,HB9.out.2⟩;have YC4:=ae (YC3.out.below hb);have YI4:=ae (YI3.out.turn (Turn.of_below hb));have YR4:Hid (bG rq q0 q1 S z3 f1):=(bG.isRes _ _ _ _).below YR3.out hb;have K5:=w9bt K4 hb;clear hb R9 YC3 YI3 YR3 K4 HRM K3;obtain⟨fb,hfb⟩:=w9nm (decide (rm< (tn:Int)+1));have HFB:Hid (fb=true↔M.full bs):=by show _↔_;rw[←hfb,decide_eq_true_iff];exact HFU.out.symm
    go_upto_if 66 with fail
    clear hfb hrb hww;go_cut []from 14 (fun wx=>∃(S1:RS) (M1:MS) (fr:Nat->Prop) (Bh1 ch1:Nat),Hid (bG rq q0 q1 S1 wx fr)/\Hid (RmAt m rq Bb cb Bh1 ch1 M1 wx)/\Hid (¬fr m/\¬fr Bb/\¬fr Bh1)/\Hid (Sl aq wx (ag av n cv) bs/\jw (ag av n cv) fr)/\Hid (ByI gi w.heap.size t wx fr)/\Hid (ByR B9 29 C9 wx fr)/\Hid (Turn (fun k=>f1 k\/k=m) (fun k=>fr k\/k=m) w wx)/\Hid (S1.Up/\S1.Few 110/\0<=S1.done/\S1.done<=600000/\S1.n0=S.n0)/\Hid (M1.g=M.g/\M1.b=M.b/\M1.at0=M.at0/\M1.seq=M.seq/\M1.used<=M.g.C)/\Hid ((S.cmt M bs).1=(S1.bat (M1.appW bs)).1/\M.next bs=M1.app bs)/\Hid (Bh1=Bh\/w.heap.size<=Bh1))
    case first=>
     cases fb with
     | true=>
      have HFULL:Hid (M.full bs):=HFB.out.1 rfl;have c0:z3.cell? ⟨m,0,none⟩=some (ao (some ⟨rq,0,none⟩)):=YC4.out.at_.row.cell 0 _ rfl;obtain⟨X1,hX1⟩:=w9nm (z3.alloc (ap (j7 rq) 217));obtain⟨fw,qw,tw⟩:=Gn YR4.out hX1;obtain⟨wb,hwb⟩:=w9nm z3.heap.size;rw[hwb]at qw;have HQ:=ae qw;have HC1:=ae (YC4.out.turn tw);have HI1:=ae (YI4.out.turn tw);have HR1:=ae (R10.out.turn tw);have HT1:Hid (Turn f1 fw w X1):=(Turn.of_below K5.out).trans tw;have HMB:=ae (HOK.out.bat1 HU.out HFW.out HDN.out);obtain⟨wc0,hwc⟩:=w9nm (j7 rq);have BW:=yX rq z3;rw[hwc]at BW hX1;clear qw tw;go_wp2_with ((with_reducible refine gU 217 ?_);refine fJ _ _ rfl rfl [(0,ao (some ⟨rq,0,none⟩))] _ rfl BW ?_);clear BW hX1 hwb hwc c0;go_loopw [11] (fun i wr=>∃(k2:Nat) (T:RS) (fk:Nat->Prop),k2<=k/\i=ab af (k2:Int)/\Hid (OnWay S M.homW 100 (ke M k2).length T)/\Hid (gx wb rq q0 q1 T wr fk)/\Hid (Turn f1 fk w wr)/\Hid (ByC m rq Bb cb Bh ch M gw cw gn cn w.heap.size (aM M.b) (aM bs) (ag av n cv) bs wr fk)/\Hid (ByI gi w.heap.size t wr fk)/\Hid (ByR B9 29 C9 wr fk)) (fun i _=>k - (aW i).toNat)
      case atStart=>exact⟨0,S,fw,bq _,rfl,HMB.out.start,HQ,HT1,HC1,HI1,HR1⟩
      case round=>
       obtain⟨k2,T,fk,hk2,rfl,HO2,HQ2,HT2,HC2,HI2,HR2⟩:=hrel;clear HQ HT1 HC1 HI1 HR1;by_cases hlt2:k2<k
       ·have g7:decide ((k2:Int)< (k:Int))=true:=by simpa using hlt2
        have hpw:=HC2.out.w9.pg;have hph:=HC2.out.at_.pgs (fun x hx=>(HOK.out.homb x hx).1) (by rw[HOK.out.homl];have:=HNT.out.p2;omega);have hhl:M.home.length=k:=by rw[HOK.out.homl];exact HPP.out
        have hkw:k2< (aM M.b).length:=by rw[HWL.out.1];exact hlt2
        have hkh:k2<M.home.length:=by rw[hhl];exact hlt2
        have hlw:=(hpw.page hkw).2;have hlh:=(hph.page hkh).2;have c7:∀z:aI wr,z.1.cell? ⟨m,7,none⟩=some (ag (some ⟨Bh,0,none⟩) k ch):=fun z=>by rw[←hhl];exact(HC2.out.at_.below z.2).row.cell 7 _ rfl
        have LW:∀z:aI wr,(aE 205 ⟨gw,k2*48,none⟩).run aj z.1=.ok (al (an (aY (aM M.b) k2)).toArray) z.1:=fun z=>(hpw.below z.2).load hkw;have LH:∀z:aI wr,(aE 205 ⟨Bh,k2*48,none⟩).run aj z.1=.ok (al (an (aY M.home k2)).toArray) z.1:=fun z=>(hph.below z.2).load hkh;have EQ:∀z:ak,(eG 10000 205 (al (an (aY (aM M.b) k2)).toArray) (al (an (aY M.home k2)).toArray)).run aj z=.ok (fg (an (aY (aM M.b) k2)) (an (aY M.home k2))) z:=fun z=>nh hlw hlh z;have hdf:=differs hkw hkh;have hpa:aY (aM M.b) k2=bM M.b k2:=sK M.b (by rw[←it M.b];exact hkw);rw[hpa]at EQ hdf LW;obtain⟨b,hbb⟩:=w9nm (fg (an (bM M.b k2)) (an (aY M.home k2)));rw[hbb]at EQ hdf;have HDF:=ae hdf;have HPA:=ae hpa;have HKW:=ae hkw;obtain⟨pw,hpww⟩:=w9nm ((an (bM M.b k2)).toArray);obtain⟨ph,hphh⟩:=w9nm ((an (aY M.home k2)).toArray);rw[hpww]at EQ LW;rw[hphh]at EQ LH;have hk20:k2<20:=by have:=HPN.out;omega
        clear hpw hph hhl hkw hkh hlw hlh hdf hpa hbb hpww hphh;go_wp2_with fail;refine ex (fun x=>∃y:aI wr,x=y.1) 12 (.takes [0,1,2,3,4,5,6,7,8,9,10,11] .leaf) hmx (by kernel_rfl) ⟨⟨wr.drew,(aF _ wr).drew⟩,rfl⟩ ?_;repeat(rw[cP];simp only[au,ay];go_big_quiet_step (fail);try(with_reducible refine aO ?_))
        rw[cT];rw[dW];simp only[be,bf];clear LW LH EQ c7;obtain⟨V,hV⟩:=w9nm wr.drew;have BV:Hid (ah wr.heap.size wr V):=by show ah _ _ _;rw[←hV];exact(aF _ wr).drew
        try rw[hV]
        clear hV;have tV:=ae (Turn.of_below (f:=fk) BV.out);have HQV:=ae (HQ2.out.below BV.out);have HCV:=ae (HC2.out.turn tV.out);have HIV:=ae (HI2.out.turn tV.out);have HRV:=ae (HR2.out.turn tV.out);have HTV:Hid (Turn f1 fk w V):=HT2.out.trans tV.out;clear HQ2 HC2 HI2 HR2 HT2 tV;cases b with
        | true=>
         have e9:ke M (k2+1)=ke M k2:=tI (by rw[HDF.out];rfl);rw[←e9]at HO2;clear e9;go_wp2_with fail;go_roundw
         case rel=>exact⟨k2+1,T,fk,hlt2,by go_num,HO2,HQV,HTV,HCV,HIV,HRV⟩
         case measure=>simp[aW];omega
        | false=>
         have hpk:decide ((aM M.b)[k2]? ≠M.home[k2]?)=true:=by rw[HDF.out];rfl
         have e9:ke M (k2+1)=ke M k2++ [(M.g.H+k2,an (de k2 (bM M.b k2)).bytes)]:=qm hpk;obtain⟨n2,hn2⟩:=w9nm (M.g.H+k2);have hat:M.homW[(ke M k2).length]? =some (n2,an (de k2 (bM M.b k2)).bytes):=by rw[zj,←hn2,HPP.out];exact Gl hlt2 hpk
         have HST:=ae (HMB.out.step HO2.out hat);have hl9:(ke M (k2+1)).length=(ke M k2).length+1:=by rw[e9,cX];rfl
         rw[←hl9]at HST;have hw:wrap64 (2+M.g.r+(k2:Int))=(n2:Int):=by
          have h1:=HNT.out.c;have h2:=HNT.out.c2;rw[gj _ (by omega),←hn2];unfold Geo.H;omega
         have hn0:n2<T.n0:=by rw[HO2.out.n0];exact HMB.out.lt _ (dI hat)
         have HNN0:=ae hn0;have e4:∀z:dB B9 gw V,z.1.cell? ⟨B9,4,none⟩=some (ab af (2+M.g.r)):=fun z=>by
          rw[cL (w:=V) z.2.1];have:=HRV.out.row;rw[←HC9.out]at this;exact this.cell 4 _ rfl
         have ep:∀z:dB B9 gw V,(aE 205 ⟨gw,k2*48,none⟩).run aj z.1=.ok (al (an (bM M.b k2)).toArray) z.1:=fun z=>by
          rw[←HPA.out];exact HCV.out.w9.pg.loadAt HKW.out z.2.2
         clear hpk e9 hn2 hat hl9 hn0;go_wp2_with fail;refine ex (fun x=>∃y:dB B9 gw V,x=y.1) 12 (.takes [0,1,2,3,4,5,6,7,8,9] (.one 10 (.one 11 .leaf))) hmx (by kernel_rfl) ⟨⟨V.drew,rfl,rfl⟩,rfl⟩ ?_;repeat(rw[cP];simp only[au,ay];go_big_quiet_step (fail);try(with_reducible refine aO ?_))
         rw[cT];rw[bU];simp only[au,ay];clear e4 ep;obtain⟨U,hU⟩:=w9nm V.drew;have BU:Hid (ah V.heap.size V U):=by show ah _ _ _;rw[←hU];exact(aF _ V).drew
         try rw[hU]
         clear hU;go_wp2_with fail;go_at_call 140;refine(yZ (k:=k2) (by omega) (gH M.b k2) (ir HOK.out.bytes k2) U).mono ?_;rintro e U1 ⟨rfl,hb⟩;have BU1:=w9bt BU hb;have hbk:bx (an (de k2 (bM M.b k2)).bytes):=dr (Sct.bytes_length (jX (gH M.b k2) (ir HOK.out.bytes k2)));have HBK:=ae hbk;obtain⟨bk,hbk'⟩:∃b,an (de k2 (bM M.b k2)).bytes=b:=⟨_,rfl⟩;rw[hbk']at HST HBK;try rw[hbk']
         clear hb hbk hbk';go_wp2_with fail;refine aG ⟨⟨U1,BU1.out.block _ HRV.out.row.lt,BU1.out.block _ HCV.out.w9.pg.lt⟩,rfl⟩ ?_;rw[bU];simp only[au,ay];go_wp2_with fail;go_at_call 137;refine(lK (HQV.out.below BU1.out) HO2.out.up HO2.out.fit (HO2.out.few.mono (by omega)) HNN0.out HBK.out).mono ?_;rintro e U2 ⟨rfl,f',q',t'⟩;have HQ':=ae q';have HT':Hid (Turn fk f' V U2):=(Turn.of_below BU1.out).trans t';have h8:=HT'.out.out _ HRV.out.row.lt HRV.out.nf;have h9:=HT'.out.out _ HCV.out.w9.pg.lt HCV.out.w9.nf;clear q' t';go_wp2_with fail;refine aG ⟨⟨U2,h8,h9⟩,rfl⟩ ?_;rw[dW];simp only[be,bf];clear h8 h9 hw;go_wp2_with fail;go_roundw
         case rel=>exact⟨k2+1,_,f',hlt2,by go_num,HST,HQ',HTV.out.trans HT'.out,HCV.out.turn HT'.out,HIV.out.turn HT'.out,HRV.out.turn HT'.out⟩
         case measure=>simp[aW];omega
       ·obtain rfl:k2=k:=by omega
        have g7:decide ((k2:Int)< (k2:Int))=false:=by simp
        have hkall:(ke M k2).length=M.homW.length:=by rw[zj,HPP.out]
        have HO3:=HO2.out;rw[hkall]at HO3;have HD1:=ae (HMB.out.done HO3);have HF:=ae (nz HQ2.out HO3.up HO3.fit);obtain⟨Sa,hSa⟩:=w9nm (T.flush 0);rw[hSa]at HD1 HF;clear hkall HO3 hSa hlt2 hk2 HO2 HMB;go_wp2_with fail;go_at_call 138;refine HF.out.mono ?_;rintro e y1 ⟨rfl,fa,qa,ta⟩;have Q1:=ae qa;have T1:=ae (HT2.out.trans ta);have C1:=ae (HC2.out.turn ta);have I1:=ae (HI2.out.turn ta);have R1:=ae (HR2.out.turn ta);clear qa ta HQ2 HT2 HC2 HI2 HR2 HF;have hlw:M.homW.length<=15:=HOK.out.homB.2.2.2;have MB2:Hid (MayBat Sa M.supW 101):=by
         obtain⟨u1,u2,u3,u4,u5,u6,_⟩:=HD1.out;obtain⟨h1,h2,h3,h4⟩:=HOK.out.supB;have:=HDN.out;exact⟨u1,fun x hx=>by rw[u3];exact h1 x hx,h2,u2,by omega,by omega,by omega⟩
        obtain⟨n3,hn3⟩:=w9nm (1 - M.sup);have hs1:wrap64 (1 - (M.sup:Int))=(n3:Int):=by have:=HOK.out.sup1;rw[gj _ (by omega)];omega
        have HN3:=ae hn3;have hSW:M.supW= [(n3,an (dt (M.gen+1) M.g M.at0 M.seq).bytes)]:=by rw[←hn3];rfl
        have hg3:cH (M.gen+1):=⟨by have:=HOK.out.gen.1;omega,by have:=HOK.out.gen.2;omega⟩;have hsi:SupIn (M.gen+1) M.g M.at0 M.seq:=Geo.supIn HOK.out.good hg3 ⟨by omega,by have:=HOK.out.at0;have:=HNT.out.c;omega⟩ ⟨by have:=HOK.out.seq.1;omega,by have:=HOK.out.seq.2;omega⟩;have HBO:=fun x=>ae (tj hsi x);have HMS:=fun x=>ae (za (gen:=M.gen+1) (g:=M.g) (a:=M.at0) (q:=M.seq) hg3 x);have HSB:Hid (bx (an (dt (M.gen+1) M.g M.at0 M.seq).bytes)):=dr (Sct.bytes_length (kw hg3 _ _ _));have O30:=MB2.out.start;have O31:=ae (MB2.out.step O30 (i:=n3) (b:=an (dt (M.gen+1) M.g M.at0 M.seq).bytes) (by rw[hSW];rfl));have hmem:(n3,an (dt (M.gen+1) M.g M.at0 M.seq).bytes)∈ M.supW:=by rw[hSW];exact dO.2 rfl
        have hn3lt:n3<Sa.n0:=MB2.out.lt (n3,an (dt (M.gen+1) M.g M.at0 M.seq).bytes) hmem;have HPU:Hid (∀x,w9b y1 x->az aj 137 #[ao (some ⟨wb,0,none⟩),ab af (n3:Int),al (an (dt (M.gen+1) M.g M.at0 M.seq).bytes).toArray] x fun e w'=>e=ar (aQ #[])/\∃f',gx wb rq q0 q1 (Sa.write 0 (n3:Int) (an (dt (M.gen+1) M.g M.at0 M.seq).bytes)) w' f'/\Turn fa f' x w'):=fun x hx=>lK (Q1.out.below hx) O30.up O30.fit (O30.few.mono (by omega)) hn3lt HSB.out;have HSLN:Hid (M.supW.length=1):=by show _=_;rw[hSW];rfl
        obtain⟨bb,hbb⟩:=w9nm ((an (dh M.g (M.at0:Int) M.seq++bK 30 0)));rw[hbb]at HMS HBO;obtain⟨sb,hsb⟩:=w9nm (an (dt (M.gen+1) M.g M.at0 M.seq).bytes);rw[hsb]at HMS HSB HPU O31;obtain⟨g0,hg0⟩:=w9nm M.gen;have HG0:=ae hg0;have hgr:0<=g0/\g0<=1000000:=by rw[←hg0];exact HOK.out.gen
        have HSLX:Hid (MayBat Sa M.supW 101):=MB2.out;rw[hg0]at HMS;have dG:∀z:dB m m y1,(aE 23 ⟨m,1,none⟩).run aj z.1=.ok (al M.g.v) z.1:=fun z=>nM (t:= 112) (z.2.1.trans C1.out.at_.row);have d8:∀z:dB m m y1,z.1.cell? ⟨m,8,none⟩=some (ab aD g0):=fun z=>by rw[←hg0];exact(cL (a:=⟨m,8,none⟩) z.2.1).trans (C1.out.at_.row.cell 8 _ rfl)
        have d9:∀z:dB m m y1,z.1.cell? ⟨m,9,none⟩=some (ab af (M.sup:Int)):=fun z=>(cL (a:=⟨m,9,none⟩) z.2.1).trans (C1.out.at_.row.cell 9 _ rfl);have d10:∀z:dB m m y1,z.1.cell? ⟨m,10,none⟩=some (ab af (M.at0:Int)):=fun z=>(cL (a:=⟨m,10,none⟩) z.2.1).trans (C1.out.at_.row.cell 10 _ rfl);have d11:∀z:dB m m y1,z.1.cell? ⟨m,11,none⟩=some (ab aD M.seq):=fun z=>(cL (a:=⟨m,11,none⟩) z.2.1).trans (C1.out.at_.row.cell 11 _ rfl);clear hlw hSW hg3 hsi O30 hbb hsb hg0 hn3 hmem hn3lt;go_wp2_with fail;refine ex (fun x=>∃y:dB m m y1,x=y.1) 26 (.takes [0,1,2,3,4,5,6,7,8,9,10,11,12,13,14,15,16,17,18,19,20,21,22] (.one 23 (.one 24 (.one 25 .leaf)))) hmx (by kernel_rfl) ⟨⟨y1.drew,rfl,rfl⟩,rfl⟩ ?_;repeat(rw[cP];simp only[au,ay];go_big_quiet_step (fail);try(with_reducible refine aO ?_))
        rw[cT];rw[bU];simp only[au,ay];clear dG d8 d9 d10 d11;obtain⟨V,hV⟩:=w9nm y1.drew;have BV:Hid (ah y1.heap.size y1 V):=by show ah _ _ _;rw[←hV];exact(aF _ y1).drew
        try rw[hV]
        clear hV;go_wp2_with fail;go_at_call 141;refine(HBO V).out.mono ?_;rintro e V1 ⟨rfl,hb⟩;have BV1:=w9bt BV hb;clear hb;go_wp2_with fail;refine aG ⟨⟨V1,BV1.out.block _ C1.out.at_.lt.1,BV1.out.block _ C1.out.at_.lt.1⟩,rfl⟩ ?_;rw[bU];simp only[au,ay];go_wp2_with fail;go_at_call 140;refine(HMS V1).out.mono ?_;rintro e V2 ⟨rfl,hb⟩;have BV2:=w9bt BV1 hb;clear hb BV1 BV;go_wp2_with fail;refine aG ⟨⟨V2,BV2.out.block _ C1.out.at_.lt.1,BV2.out.block _ C1.out.at_.lt.1⟩,rfl⟩ ?_;rw[bU];simp only[au,ay];go_wp2_with fail;go_at_call 137;refine(HPU.out V2 BV2.out).mono ?_;rintro e V3 ⟨rfl,f4,q4,t4⟩;have t4':Turn fa f4 y1 V3:=(Turn.of_below BV2.out).trans t4;have Q4:=ae q4;have T4:=ae (T1.out.trans t4');have C4:=ae (C1.out.turn t4');have I4:=ae (I1.out.turn t4');have R4:=ae (R1.out.turn t4');have hm4:=t4'.out m C1.out.at_.lt.1 C1.out.nm.1;go_wp2_with fail;refine aG ⟨⟨V3,hm4,hm4⟩,rfl⟩ ?_;rw[dW];simp only[be,bf];clear q4 t4 t4' BV2 Q1 T1 C1 I1 R1 HPU HMS HBO hs1 hm4;have O32:=O31.out;rw[show(0:Nat)+1=M.supW.length from HSLN.out.symm]at O32;have HD3:=ae (MB2.out.done O32);have HF:=ae (nz Q4.out O32.up O32.fit);obtain⟨Sb,hSb⟩:=w9nm ((Sa.write 0 (n3:Int) sb).flush 0);rw[hSb]at HD3 HF;clear hSb O32;go_wp2_with fail;go_at_call 138;refine HF.out.mono ?_;rintro e y5 ⟨rfl,f5,q5,t5⟩;have Q5:=ae q5;have T5:=ae (T4.out.trans t5);have C5:=ae (C4.out.turn t5);have I5:=ae (I4.out.turn t5);have R5:=ae (R4.out.turn t5);have we1:y5.cell? ⟨wb,1,none⟩=some (ab af 0):=q5.cell 1;clear q5 t5 Q4 T4 C4 I4 R4 HF O31 MB2;go_wp2_with fail;clear we1;obtain⟨V,hV⟩:=w9nm y5.drew;have BV:Hid (ah y5.heap.size y5 V):=by show ah _ _ _;rw[←hV];exact(aF _ y5).drew
        have RV:=C5.out.at_.row.below BV.out;rw[HG0.out]at RV;have w8:V.cell? ⟨m,8,none⟩=some (ab aD g0):=RV.cell 8 _ rfl;have w9:V.cell? ⟨m,9,none⟩=some (ab af (M.sup:Int)):=RV.cell 9 _ rfl;have w7:V.cell? ⟨m,7,none⟩=some (ag (some ⟨Bh,0,none⟩) M.home.length ch):=RV.cell 7 _ rfl;have z7:V.frozen? ⟨m,7,none⟩=false:=RV.frozen 7;have hs1:wrap64 (1 - (M.sup:Int))=(n3:Int):=by have h1:=HOK.out.sup1;have h2:=HN3.out;rw[gj _ (by omega)];omega
        have r7:=RV.set 7 (ag (some ⟨gw,0,none⟩) k2 cw);have w8':(V.setCell ⟨m,7,none⟩ (ag (some ⟨gw,0,none⟩) k2 cw)).cell? ⟨m,8,none⟩=some (ab aD g0):=r7.cell 8 _ rfl;have z8:(V.setCell ⟨m,7,none⟩ (ag (some ⟨gw,0,none⟩) k2 cw)).frozen? ⟨m,8,none⟩=false:=r7.frozen 8;have r8:=r7.set 8 (ab aD (g0+1));have w9':((V.setCell ⟨m,7,none⟩ (ag (some ⟨gw,0,none⟩) k2 cw)).setCell ⟨m,8,none⟩ (ab aD (g0+1))).cell? ⟨m,9,none⟩=some (ab af (M.sup:Int)):=r8.cell 9 _ rfl;have z9:((V.setCell ⟨m,7,none⟩ (ag (some ⟨gw,0,none⟩) k2 cw)).setCell ⟨m,8,none⟩ (ab aD (g0+1))).frozen? ⟨m,9,none⟩=false:=r8.frozen 9;have r9:=r8.set 9 (ab af (n3:Int));have w12:(((V.setCell ⟨m,7,none⟩ (ag (some ⟨gw,0,none⟩) k2 cw)).setCell ⟨m,8,none⟩ (ab aD (g0+1))).setCell ⟨m,9,none⟩ (ab af (n3:Int))).cell? ⟨m,12,none⟩=some (ab af (M.used:Int)):=r9.cell 12 _ rfl;have z12:(((V.setCell ⟨m,7,none⟩ (ag (some ⟨gw,0,none⟩) k2 cw)).setCell ⟨m,8,none⟩ (ab aD (g0+1))).setCell ⟨m,9,none⟩ (ab af (n3:Int))).frozen? ⟨m,12,none⟩=false:=r9.frozen 12;have r12:=r9.set 12 (ab af 0);rw[Gp]at r12;have ho:Only m V ((((V.setCell ⟨m,7,none⟩ (ag (some ⟨gw,0,none⟩) k2 cw)).setCell ⟨m,8,none⟩ (ab aD (g0+1))).setCell ⟨m,9,none⟩ (ab af (n3:Int))).setCell ⟨m,12,none⟩ (ab af 0)):=((((Only.refl m V).set 7 _).set 8 _).set 9 _).set 12 _;obtain⟨fr,hqr,htr⟩:=Q5.out.rig2;have C6:=(C5.out.turn htr).below BV.out;have I6:=(I5.out.turn htr).turn (Turn.of_below BV.out);have R6:=(R5.out.turn htr).turn (Turn.of_below BV.out);have hqV:=(bG.isRes rq q0 q1 Sb).below hqr BV.out;have T6:=((T5.out.trans htr).trans (Turn.of_below BV.out)).frame (fun k=>k=m);have hbt:S.bat [M.homW,M.supW]=(Sb,0):=by
         obtain⟨_,_,_,_,_,_,b1⟩:=HD1.out;obtain⟨_,_,_,_,_,_,b2⟩:=HD3.out;rw[b1,b2,RS.bat_nil]
        have hcm:=yI S (M:=M) (b:=bs) (by rw[HTE.out];exact HT0.out) HFULL.out;rw[hbt]at hcm;have hup:Sb.Up/\Sb.Few 110/\0<=Sb.done/\Sb.done<=600000/\Sb.n0=S.n0:=by
         obtain⟨u1,u2,u3,u4,u5,u6,_⟩:=HD1.out;obtain⟨v1,v2,v3,v4,v5,v6,_⟩:=HD3.out;have h1:=HDN.out;have h2:=HOK.out.homB.2.2.2;have h3:=HSLN.out;exact⟨v1,v2.mono (by omega),by omega,by omega,by omega⟩
        have hgm:gw≠m:=by have h1:=HML.out.1;have h2:=C6.w9.ge;omega
        have hgb:gw≠Bb:=by have h1:=HML.out.2.1;have h2:=C6.w9.ge;omega
        have hrm:RmAt m rq Bb cb gw cw M.ckpt ((((V.setCell ⟨m,7,none⟩ (ag (some ⟨gw,0,none⟩) k2 cw)).setCell ⟨m,8,none⟩ (ab aD (g0+1))).setCell ⟨m,9,none⟩ (ab af (n3:Int))).setCell ⟨m,12,none⟩ (ab af 0)):=C6.at_.ckpt ho (by rw[HG0.out,HN3.out,HWL.out.1];exact r12) C6.w9.pg.at_ C6.w9.cur hgm hgb (by rw[HWL.out.1];have:=HPN.out;omega);have hnm:¬fr m:=C6.nm.1;have HKEY:Hid (∃(S1:RS) (M1:MS) (fr:Nat->Prop) (Bh1 ch1:Nat),Hid (bG rq q0 q1 S1 ((((V.setCell ⟨m,7,none⟩ (ag (some ⟨gw,0,none⟩) k2 cw)).setCell ⟨m,8,none⟩ (ab aD (g0+1))).setCell ⟨m,9,none⟩ (ab af (n3:Int))).setCell ⟨m,12,none⟩ (ab af 0)) fr)/\Hid (RmAt m rq Bb cb Bh1 ch1 M1 ((((V.setCell ⟨m,7,none⟩ (ag (some ⟨gw,0,none⟩) k2 cw)).setCell ⟨m,8,none⟩ (ab aD (g0+1))).setCell ⟨m,9,none⟩ (ab af (n3:Int))).setCell ⟨m,12,none⟩ (ab af 0)))/\Hid (¬fr m/\¬fr Bb/\¬fr Bh1)/\Hid (Sl aq ((((V.setCell ⟨m,7,none⟩ (ag (some ⟨gw,0,none⟩) k2 cw)).setCell ⟨m,8,none⟩ (ab aD (g0+1))).setCell ⟨m,9,none⟩ (ab af (n3:Int))).setCell ⟨m,12,none⟩ (ab af 0)) (ag av n cv) bs/\jw (ag av n cv) fr)/\Hid (ByI gi w.heap.size t ((((V.setCell ⟨m,7,none⟩ (ag (some ⟨gw,0,none⟩) k2 cw)).setCell ⟨m,8,none⟩ (ab aD (g0+1))).setCell ⟨m,9,none⟩ (ab af (n3:Int))).setCell ⟨m,12,none⟩ (ab af 0)) fr)/\Hid (ByR B9 29 C9 ((((V.setCell ⟨m,7,none⟩ (ag (some ⟨gw,0,none⟩) k2 cw)).setCell ⟨m,8,none⟩ (ab aD (g0+1))).setCell ⟨m,9,none⟩ (ab af (n3:Int))).setCell ⟨m,12,none⟩ (ab af 0)) fr)/\Hid (Turn (fun k=>f1 k\/k=m) (fun k=>fr k\/k=m) w ((((V.setCell ⟨m,7,none⟩ (ag (some ⟨gw,0,none⟩) k2 cw)).setCell ⟨m,8,none⟩ (ab aD (g0+1))).setCell ⟨m,9,none⟩ (ab af (n3:Int))).setCell ⟨m,12,none⟩ (ab af 0)))/\Hid (S1.Up/\S1.Few 110/\0<=S1.done/\S1.done<=600000/\S1.n0=S.n0)/\Hid (M1.g=M.g/\M1.b=M.b/\M1.at0=M.at0/\M1.seq=M.seq/\M1.used<=M.g.C)/\Hid ((S.cmt M bs).1=(S1.bat (M1.appW bs)).1/\M.next bs=M1.app bs)/\Hid (Bh1=Bh\/w.heap.size<=Bh1)):=⟨Sb,M.ckpt,fr,gw,cw,(bG.isRes rq q0 q1 Sb).out hqV (fun j hj=>ho.at (fun e=>hnm (e▸hj))),hrm,⟨hnm,C6.nm.2.1,C6.w9.nf⟩,⟨ho.sl C6.sl HNE.out HAM.out,C6.aw⟩,⟨da I6.at_ (ho.at (by have h1:=HML.out.1;have h2:=I6.ge;omega)),by rw[ho.sz];exact I6.lt,I6.nf,I6.ge⟩,⟨(ho.at (by have h1:=HML.out.1;have h2:=HB9.out.1;omega)).trans R6.row,R6.nf⟩,kZ (kZ (kZ (kZ T6 7 _) 8 _) 9 _) 12 _,hup,⟨rfl,rfl,rfl,rfl,bq _⟩,⟨by rw[hcm.1,if_pos rfl];rfl,hcm.2⟩,aC C6.w9.ge⟩;clear RV r7 r8 r9 r12 ho hqr htr C6 I6 R6 hqV T6 hbt hcm hup hgm hgb hrm hnm;refine zp (fun _=>True) 27 (.takes [0,1,2,3,4,5,10,6,11,7,12] (.two 8 13 (.takes [9] (.one 13 (.takes [14,15,16] (.one 17 (.takes [18,19] (.one 20 (.takes [21,22] (.one 23 (.takes [24,25] (.one 26 .leaf)))))))))) (.takes [14] (.one 8 (.takes [9,15,16] (.one 17 (.takes [18,19] (.one 20 (.takes [21,22] (.one 23 (.takes [24,25] (.one 26 .leaf)))))))))))) hmx (by kernel_rfl) trivial ?_;rw[hV];clear hV
        repeat' (first | (rw[zo];simp only[au,ay];go_big_quiet_step (fail);try(with_reducible refine aO ?_)) | rw[zn] | (rw[zm];refine⟨?_, ?_⟩) | rw[zl] | (simp only[au,ay];go_wp2_with fail;refine aG trivial ?_))
        all_goals(rw[zk];simp only[be,bf];go_wp2_with fail)
        all_goals(
         go_meet
         case rel=>exact HKEY.out)
     | false=>
      have HNF:Hid (¬M.full bs):=fun h=>by have:=HFB.out.2 h;cases this
      have HCR:=ae (yJ S (M:=M) (b:=bs) (by rw[HTE.out];exact HT0.out) HNF.out);go_wp2_with fail
      go_meet
      case rel=>exact⟨S,M,f1,Bh,ch,YR4,YC4.out.at_,HD0,⟨YC4.out.sl,YC4.out.aw⟩,YI4,R10,(Turn.of_below K5.out).frame _,⟨HU.out,HFW.out.mono (by omega),HDN.out.1,by have:=HDN.out;omega,rfl⟩,⟨rfl,rfl,rfl,rfl,HOK.out.used⟩,⟨by rw[HCR.out.1],HCR.out.2⟩,aA rfl⟩
    case rest=>
     obtain⟨S1,M1,fr,Bh1,ch1,HQ,HA,HN1,HSA,HI,HR9,HT,HS1,HM1,HCC,HB1⟩:=hcut;have HAP:Hid (∀x,w9b wc x->az aj 147 #[ao (some ⟨rq,0,none⟩),ab af 2,ab af M.g.r,ab af (M.at0:Int),ab aD M.seq,ag (some ⟨gi,0,none⟩) tn ca] x fun e w'=>e=ar (aQ #[ab af (((M.at0+tn+1)%M.g.C:Nat):Int),ab af 0])/\∃f',bG rq q0 q1 (S1.app 2 M.g.C M.at0 M.seq t).1 w' f'/\Turn fr f' x w'):=fun x hx=>by
      obtain⟨u1,u2,u3,u4,u5⟩:=HS1.out;have h1:=HOK.out.room;have h2:=HI.out.turn (Turn.of_below hx);have:=DR ((bG.isRes rq q0 q1 S1).below HQ.out hx) u1 (m:=110) u2 (by omega) ⟨u3,by omega⟩ (F:=2) (C:=M.g.C) (A:=M.at0) (by have:=HNT.out.c1;omega) HNT.out.c2 (by omega) HOK.out.at0 (by have:=HN0.out;omega) (seq:=M.seq) ⟨by have:=HOK.out.seq.1;omega,by have:=HOK.out.seq.2;omega⟩ HTX.out (g:=gi) (c:=ca) h2.at_ h2.lt h2.nf;rw[HTN.out,HNT.out.c]at this;exact this
     obtain⟨a2,ha2⟩:=w9nm ((M.at0+tn+1)%M.g.C);have HA2:=ae ha2;rw[ha2]at HAP;obtain⟨s0,hs0⟩:=w9nm M.seq;have HS0:=ae hs0;obtain⟨S2,hS2⟩:=w9nm ((S1.app 2 M.g.C M.at0 M.seq t).1);have HS2:=ae hS2;rw[hS2]at HAP;rw[hs0]at HAP;have hrow:=HA.out.row;obtain⟨e1,e2,e3,e4,e5⟩:=HM1.out;have rM:aB wc m 112 (mC (ao (some ⟨rq,0,none⟩)) M.g (ag (some ⟨Bb,0,none⟩) n cb) (ag (some ⟨Bh1,0,none⟩) M1.home.length ch1) M1.gen M1.sup M.at0 s0 M1.used):=by
      rw[e1,e2,e3,e4,HNN.out,hs0]at hrow;exact hrow
     have d0:∀z:dB m B9 wc,z.1.cell? ⟨m,0,none⟩=some (ao (some ⟨rq,0,none⟩)):=fun z=>(cL (a:=⟨m,0,none⟩) z.2.1).trans (rM.cell 0 _ rfl);have d5:∀z:dB m B9 wc,z.1.cell? ⟨m,5,none⟩=some (ab af M.g.r):=fun z=>(cL (a:=⟨m,5,none⟩) z.2.1).trans (rM.cell 5 _ rfl);have d10:∀z:dB m B9 wc,z.1.cell? ⟨m,10,none⟩=some (ab af (M.at0:Int)):=fun z=>(cL (a:=⟨m,10,none⟩) z.2.1).trans (rM.cell 10 _ rfl);have d11:∀z:dB m B9 wc,z.1.cell? ⟨m,11,none⟩=some (ab aD s0):=fun z=>(cL (a:=⟨m,11,none⟩) z.2.1).trans (rM.cell 11 _ rfl);have d3:∀z:dB m B9 wc,z.1.cell? ⟨B9,3,none⟩=some (ab af 2):=fun z=>by
      rw[cL (w:=wc) z.2.2];have:=HR9.out.row;rw[←HC9.out]at this;exact this.cell 3 _ rfl
     have HRM1:=ae rM;have hq:0<=s0/\s0<=1000000:=by rw[←hs0];exact HOK.out.seq
     obtain⟨us,hus⟩:=w9nm M1.used;have HUS:=ae hus;have hub:us<=256:=by have:=HNT.out.c2;omega
     clear ha2 hs0 hS2 hrow rM e1 e2 e3 e4 e5 hus;go_wp2_with fail;refine ex (fun x=>∃y:dB m B9 wc,x=y.1) 26 (.takes [0,1,2,3,4,5,6,7,8,9,10,11,12,13,14,15,16,17,18,19] (.one 20 (.takes [21,22,23,24,25] .leaf))) hmx (by kernel_rfl) ⟨⟨wc.drew,rfl,rfl⟩,rfl⟩ ?_;repeat(rw[cP];simp only[au,ay];go_big_quiet_step (fail);try(with_reducible refine aO ?_))
     rw[cT];rw[bU];simp only[au,ay];clear d0 d5 d10 d11 d3;obtain⟨V,hV⟩:=w9nm wc.drew;have BV:Hid (ah wc.heap.size wc V):=by show ah _ _ _;rw[←hV];exact(aF _ wc).drew
     try rw[hV]
     clear hV;go_wp2_with fail;go_at_call 147;refine(HAP.out V BV.out).mono ?_;rintro e y1 ⟨rfl,fa,qa,ta⟩;have tb:Turn fr fa wc y1:=(Turn.of_below BV.out).trans ta;have hm1:=tb.out m HA.out.lt.1 HN1.out.1;have h91:=tb.out B9 HR9.out.row.lt HR9.out.nf;have Q1:=ae qa;have T1:Hid (Turn (fun k=>f1 k\/k=m) (fun k=>fa k\/k=m) w y1):=HT.out.trans (tb.frame _);have hlt:=HA.out.lt;have hnw:∀j,j<wc.heap.size->¬fr j->¬fa j:=fun j h1 h2 h3=>(tb.new j h3).elim h2 (fun h=>by omega);have A1:Hid (RmAt m rq Bb cb Bh1 ch1 M1 y1):=HA.out.keep hm1 (tb.out Bb hlt.2.1 HN1.out.2.1) (tb.out Bh1 hlt.2.2 HN1.out.2.2);have N1:Hid (¬fa m/\¬fa Bb/\¬fa Bh1):=⟨hnw _ hlt.1 HN1.out.1,hnw _ hlt.2.1 HN1.out.2.1,hnw _ hlt.2.2 HN1.out.2.2⟩;have SL1:Hid (Sl aq y1 (ag av n cv) bs):=by
      have h1:=HSA.out.1;obtain⟨a,cap,e,l1,l2,h3,l4⟩:=id h1;rcases h3 with h3 | ⟨b,off,e6,h5,_⟩
      ·exact absurd h3 HNE.out
      ·subst e6;exact h1.same tb.size (fun b' e7=>by
        rw[e]at e7;cases e7;exact tb.out b h5 (HSA.out.2 b off _ _ e))
     have RM1:Hid (aB y1 m 112 (mC (ao (some ⟨rq,0,none⟩)) M.g (ag (some ⟨Bb,0,none⟩) n cb) (ag (some ⟨Bh1,0,none⟩) M1.home.length ch1) M1.gen M1.sup M.at0 s0 M1.used)):=hm1.trans HRM1.out;go_wp2_with fail;refine aG ⟨⟨y1,hm1,h91⟩,rfl⟩ ?_;clear qa ta tb hm1 h91 hlt hnw;repeat(rw[cP];simp only[au,ay];go_big_quiet_step (fail);try(with_reducible refine aO ?_))
     rw[cT,dW];simp only[be,bf];go_wp2_with fail;obtain⟨Y,hY⟩:=w9nm y1.drew;have BY:Hid (ah y1.heap.size y1 Y):=by show ah _ _ _;rw[←hY];exact(aF _ y1).drew
     have hb700:bs.length<=1000:=by have:=HBL.out;omega
     obtain⟨v',V2,hr2,ho2,hB2⟩:=mP Y (ag av n cv) bs (SL1.out.below BY.out) (by omega);have b0:ah Y.heap.size Y (Y.alloc (ap #[] 5)):=aR Y _;have hbl0:0<bs.length:=by have:=HBL.out;omega
     obtain⟨Bc,cc,rfl,hBcN,hcc,hBcl,hrg⟩:=jm ho2.out hbl0;have hcur:cc<=aS/\∃cur,V2.heap[Bc]? =some (ap cur 5 (0,0)):=by
      rcases ho2.out.2 with⟨h',_⟩ | ⟨g',c'',cur,e,h1,h2,h3,h4,_⟩
      ·cases h'
      ·cases e;exact⟨h4,cur,h2⟩
     rw[HBL.out.2.2]at hr2;have rY:=RM1.out.below BY.out;have rZ:=rY.below b0;have r2:=rY.below hB2.out;rw[HUS.out]at rY rZ r2;have y11:Y.cell? ⟨m,11,none⟩=some (ab aD s0):=rY.cell 11 _ rfl;have y12:Y.cell? ⟨m,12,none⟩=some (ab af (us:Int)):=rY.cell 12 _ rfl;have x11:(Y.alloc (ap #[] 5)).cell? ⟨m,11,none⟩=some (ab aD s0):=rZ.cell 11 _ rfl;have x12:(Y.alloc (ap #[] 5)).cell? ⟨m,12,none⟩=some (ab af (us:Int)):=rZ.cell 12 _ rfl;have w11:V2.cell? ⟨m,11,none⟩=some (ab aD s0):=r2.cell 11 _ rfl;have w12:V2.cell? ⟨m,12,none⟩=some (ab af (us:Int)):=r2.cell 12 _ rfl;have w10:V2.cell? ⟨m,10,none⟩=some (ab af (M.at0:Int)):=r2.cell 10 _ rfl;have z10:V2.frozen? ⟨m,10,none⟩=false:=r2.frozen 10;have r3:=r2.set 10 (ab af (a2:Int));have w11':(V2.setCell ⟨m,10,none⟩ (ab af (a2:Int))).cell? ⟨m,11,none⟩=some (ab aD s0):=r3.cell 11 _ rfl;have z11:(V2.setCell ⟨m,10,none⟩ (ab af (a2:Int))).frozen? ⟨m,11,none⟩=false:=r3.frozen 11;have r4:=r3.set 11 (ab aD (s0+1));have w12':((V2.setCell ⟨m,10,none⟩ (ab af (a2:Int))).setCell ⟨m,11,none⟩ (ab aD (s0+1))).cell? ⟨m,12,none⟩=some (ab af (us:Int)):=r4.cell 12 _ rfl;have z12:((V2.setCell ⟨m,10,none⟩ (ab af (a2:Int))).setCell ⟨m,11,none⟩ (ab aD (s0+1))).frozen? ⟨m,12,none⟩=false:=r4.frozen 12;have r5:=r4.set 12 (ab af ((us:Int)+(tn:Int)+1));have w6:(((V2.setCell ⟨m,10,none⟩ (ab af (a2:Int))).setCell ⟨m,11,none⟩ (ab aD (s0+1))).setCell ⟨m,12,none⟩ (ab af ((us:Int)+(tn:Int)+1))).cell? ⟨m,6,none⟩=some (ag (some ⟨Bb,0,none⟩) n cb):=r5.cell 6 _ rfl;have z6:(((V2.setCell ⟨m,10,none⟩ (ab af (a2:Int))).setCell ⟨m,11,none⟩ (ab aD (s0+1))).setCell ⟨m,12,none⟩ (ab af ((us:Int)+(tn:Int)+1))).frozen? ⟨m,6,none⟩=false:=r5.frozen 6;have r6:=r5.set 6 (ag (some ⟨Bc,0,none⟩) n cc);rw[Gq]at r6;obtain⟨hw1,hw2,hw3⟩:=Gr hub htn15;have ho:Only m V2 ((((V2.setCell ⟨m,10,none⟩ (ab af (a2:Int))).setCell ⟨m,11,none⟩ (ab aD (s0+1))).setCell ⟨m,12,none⟩ (ab af ((us:Int)+(tn:Int)+1))).setCell ⟨m,6,none⟩ (ag (some ⟨Bc,0,none⟩) n cc)):=((((Only.refl m V2).set 10 _).set 11 _).set 12 _).set 6 _;have BY2:w9b y1 V2:=BY.out.trans (hB2.out.mono BY.out.size);have hA2:=A1.out.below BY2;have hq2:=(bG.isRes rq q0 q1 S2).below Q1.out BY2;have hml:=A1.out.lt;have hysz:=BY2.size;have hw0:=T1.out.size;have hBy:y1.heap.size<=Bc:=aZ BY.out.size hBcN;obtain⟨e1,e2,e3,e4,e5⟩:=HM1.out;have hrm:RmAt m rq Bc cc Bh1 ch1 (M1.app bs) ((((V2.setCell ⟨m,10,none⟩ (ab af (a2:Int))).setCell ⟨m,11,none⟩ (ab aD (s0+1))).setCell ⟨m,12,none⟩ (ab af ((us:Int)+(tn:Int)+1))).setCell ⟨m,6,none⟩ (ag (some ⟨Bc,0,none⟩) n cc)):=hA2.app ho (by
       have h1:M1.dif bs=t:=by unfold MS.dif;rw[e2];exact HTE.out
       rw[h1,HTN.out,e1,e3,e4,HS0.out,HUS.out,HBL.out.2.2,HA2.out];rw[hw3];exact r6) hrg (by obtain⟨c,h⟩:=hcur.2;exact⟨c,h⟩) (by omega) (by omega) hbl0 ⟨hcc,hcur.1⟩
     have hnm:¬fa m:=N1.out.1;have hqW:bG rq q0 q1 S2 ((((V2.setCell ⟨m,10,none⟩ (ab af (a2:Int))).setCell ⟨m,11,none⟩ (ab aD (s0+1))).setCell ⟨m,12,none⟩ (ab af ((us:Int)+(tn:Int)+1))).setCell ⟨m,6,none⟩ (ag (some ⟨Bc,0,none⟩) n cc)) fa:=(bG.isRes rq q0 q1 S2).out hq2 (fun j hj=>ho.at (fun e=>hnm (e▸hj)));have T2:Turn (fun k=>f1 k\/k=m) (fun k=>fa k\/k=m) w ((((V2.setCell ⟨m,10,none⟩ (ab af (a2:Int))).setCell ⟨m,11,none⟩ (ab aD (s0+1))).setCell ⟨m,12,none⟩ (ab af ((us:Int)+(tn:Int)+1))).setCell ⟨m,6,none⟩ (ag (some ⟨Bc,0,none⟩) n cc)):=kZ (kZ (kZ (kZ (T1.out.trans (Turn.of_below BY2)) 10 _) 11 _) 12 _) 6 _;have hfl:=(bG.isRes rq q0 q1 S2).lt Q1.out;have hS2:(S.cmt M bs).1=S2:=by
      rw[HCC.out.1,app_bat HS1.out.1 (by
       intro l hl x hx;have h1:M1.dif bs=t:=by unfold MS.dif;rw[e2];exact HTE.out
       have h2:x ∈ bQ 2 M.g.C M.at0 M.seq t:=by
        unfold MS.appW at hl;rw[h1,e1,e3,e4]at hl;rcases ec.1 hl with rfl | hl
        ·exact gX hx
        ·rw[dO.1 hl]at hx;exact List.mem_of_mem_drop hx
       have h3:=pz (seq:=M.seq) (t:=t) (A:=M.at0) (F:=2) (C:=M.g.C) (S:=S) (by have:=HOK.out.room;omega) (by have:=HNT.out.c1;omega) x h2;rw[HS1.out.2.2.2.2];exact h3)]
      have h1:M1.dif bs=t:=by unfold MS.dif;rw[e2];exact HTE.out
      rw[h1,e1,e3,e4];exact HS2.out
     have HKEY:Hid (∃f',cS (bG rq q0 q1 (S.cmt M bs).1) (ka m rq (M.next bs)) ((((V2.setCell ⟨m,10,none⟩ (ab af (a2:Int))).setCell ⟨m,11,none⟩ (ab aD (s0+1))).setCell ⟨m,12,none⟩ (ab af ((us:Int)+(tn:Int)+1))).setCell ⟨m,6,none⟩ (ag (some ⟨Bc,0,none⟩) n cc)) f'/\Turn (fun k=>f1 k\/(k=m\/k=Bb\/k=Bh)) f' w ((((V2.setCell ⟨m,10,none⟩ (ab af (a2:Int))).setCell ⟨m,11,none⟩ (ab aD (s0+1))).setCell ⟨m,12,none⟩ (ab af ((us:Int)+(tn:Int)+1))).setCell ⟨m,6,none⟩ (ag (some ⟨Bc,0,none⟩) n cc))):=by
      rw[hS2,HCC.out.2];refine⟨fun k=>fa k\/(k=m\/k=Bc\/k=Bh1),⟨fa,_,hqW,⟨Bc,cc,Bh1,ch1,hrm,rfl⟩,fun j hj hm=> ?_,rfl⟩,⟨T2.still,T2.others,fun j h1 h2=>T2.out j h1 (fun h=>h2 (h.elim aA (fun e=>aC (aA e)))),fun j hj=> ?_⟩⟩
      ·rcases hm with rfl | rfl | rfl
       ·exact hnm hj
       ·have:=hfl _ hj;omega
       ·exact N1.out.2.2 hj
      ·rcases hj with h | rfl | rfl | rfl
       ·rcases T2.new j (aA h)with h | h
        ·exact aA (h.elim aA (fun e=>aC (aA e)))
        ·exact aC h
       ·exact aA (aC (aA rfl))
       ·right;omega
       ·rcases HB1.out with e | h
        ·exact aA (aC (aC (aC e)))
        ·exact aC h
     clear hw3 b0 hbl0 hBcN hcc hBcl hrg hcur rY rZ r2 r3 r4 r5 r6 ho BY2 hA2 hq2 hml hysz hw0 hBy e1 e2 e3 e4 e5 hrm hnm hqW T2 hfl hS2 ho2 hB2;refine zp (fun _=>True) 33 (.takes [0,1,2,3,4,5,10,14,19,6,11,15,7,12] (.three 8 13 18 (.takes [9] (.two 13 18 (.takes [16,17] (.one 18 (.one 20 (.takes [21,22] (.one 23 (.takes [24,25] (.one 26 (.takes [27,28] (.one 29 (.takes [30,31] (.one 32 .leaf))))))))))) (.two 13 20 (.takes [16,17] (.one 20 (.takes [21,22] (.one 23 (.takes [24,25] (.one 26 (.takes [27,28] (.one 29 (.takes [30,31] (.one 32 .leaf)))))))))) (.one 13 (.takes [16,21,17,22] (.one 23 (.takes [24,25] (.one 26 (.takes [27,28] (.one 29 (.takes [30,31] (.one 32 .leaf)))))))))))) (.takes [16,17] (.two 8 18 (.takes [9] (.one 18 (.one 20 (.takes [21,22] (.one 23 (.takes [24,25] (.one 26 (.takes [27,28] (.one 29 (.takes [30,31] (.one 32 .leaf))))))))))) (.two 8 20 (.takes [9] (.one 20 (.takes [21,22] (.one 23 (.takes [24,25] (.one 26 (.takes [27,28] (.one 29 (.takes [30,31] (.one 32 .leaf)))))))))) (.one 8 (.takes [9,21,22] (.one 23 (.takes [24,25] (.one 26 (.takes [27,28] (.one 29 (.takes [30,31] (.one 32 .leaf)))))))))))) (.three 8 13 20 (.takes [9] (.two 13 20 (.takes [16,17] (.one 20 (.takes [21,22] (.one 23 (.takes [24,25] (.one 26 (.takes [27,28] (.one 29 (.takes [30,31] (.one 32 .leaf)))))))))) (.one 13 (.takes [16,21,17,22] (.one 23 (.takes [24,25] (.one 26 (.takes [27,28] (.one 29 (.takes [30,31] (.one 32 .leaf))))))))))) (.takes [16,17] (.two 8 20 (.takes [9] (.one 20 (.takes [21,22] (.one 23 (.takes [24,25] (.one 26 (.takes [27,28] (.one 29 (.takes [30,31] (.one 32 .leaf)))))))))) (.one 8 (.takes [9,21,22] (.one 23 (.takes [24,25] (.one 26 (.takes [27,28] (.one 29 (.takes [30,31] (.one 32 .leaf))))))))))) (.two 8 13 (.takes [9] (.one 13 (.takes [16,21,17,22] (.one 23 (.takes [24,25] (.one 26 (.takes [27,28] (.one 29 (.takes [30,31] (.one 32 .leaf)))))))))) (.takes [16,17] (.one 8 (.takes [9,21,22] (.one 23 (.takes [24,25] (.one 26 (.takes [27,28] (.one 29 (.takes [30,31] (.one 32 .leaf)))))))))))))) hmx ?_ trivial ?_
     ·exact Gw
     rw[hY];clear hY
     repeat' (first | (rw[zo];simp only[au,ay];go_big_quiet_step (fail);try(with_reducible refine aO ?_)) | rw[zn] | (rw[Gs];refine⟨?_, ?_, ?_⟩) | (rw[zm];refine⟨?_, ?_⟩) | rw[zl] | (simp only[au,ay];go_wp2_with (at_builtin;refine wpList_append_run (.tmp 210) (.tmp 211) 76 rfl rfl _ _ _ rfl rfl hr2.out ?_);refine aG trivial ?_))
     all_goals(rw[zk];simp only[be,bf];go_wp2_with fail)
     all_goals(go_ret;exact⟨rfl,HKEY.out⟩)
end
end
section
structure Sec.Al (P:List am->Prop) (s:Sec):Prop where
 c:P s.c
 vs:∀v ∈ s.vs,P v
def RS.Al (P:List am->Prop) (S:RS):Prop:=∀i,(S.D0 i).Al P
section
variable {P P':List am->Prop} {s:Sec} {S:RS} {b:List am}
theorem Sec.Al.look (h:s.Al P):P s.look:=by
 unfold Sec.look;cases e:s.vs.getLast? with
 | none=>exact h.c
 | some v=>exact h.vs v (List.mem_of_getLast? e)
theorem Sec.Al.add (h:s.Al P) (hb:P b):(s.add b).Al P:=by
 unfold Sec.add;split
 ·exact⟨h.c,fun v hv=>by
   rcases List.mem_or_eq_of_mem_set hv with h1 | h1
   ·exact h.vs v h1
   ·exact h1▸hb⟩
 ·exact⟨h.c,fun v hv=>by
   rcases gW.1 hv with h1 | h1
   ·exact h.vs v h1
   ·rw[dO]at h1;exact h1▸hb⟩
theorem Sec.Al.settle (h:s.Al P) (k:Nat):(s.settle k).Al P:=by
 unfold Sec.settle;refine⟨?_,fun v hv=>by cases hv⟩;show P (if k=0 then s.c else s.vs[k - 1]?.getD s.c);split
 ·exact h.c
 ·cases e:s.vs[k - 1]? with
  | none=>exact h.c
  | some v=>exact h.vs v (dI e)
theorem RS.Al.mono (h:S.Al P) (hp:∀v,P v->P' v):S.Al P':=fun i=>⟨hp _ (h i).c,fun v hv=>hp v ((h i).vs v hv)⟩
theorem RS.after_al (h:S.Al P):S.after.Al P:=fun i=>by rw[S.after_same.2.2.1];exact h i
theorem RS.Al.put (h:S.Al P) (dev:Int) (i:Nat) (hb:P b):(S.put dev i b).Al P:=by
 unfold RS.put;split
 ·intro j;show(dD S.D0 i ((S.D0 i).add b) j).Al P;unfold dD;split
  ·exact(h i).add hb
  ·exact h j
 ·exact h
theorem RS.Al.fl (h:S.Al P) (dev:Int):(S.fl dev).Al P:=by
 unfold RS.fl;split
 ·intro j;show(dA S.D0 S.n0 j).Al P;unfold dA;split
  ·exact⟨(h j).look,fun v hv=>by cases hv⟩
  ·exact h j
 ·exact h
theorem RS.Al.write (h:S.Al P) (dev i:Int) (hb:P b):(S.write dev i b).Al P:=by
 unfold RS.write;split
 ·split
  ·exact(RS.after_al h).put dev i.toNat hb
  ·exact RS.after_al h
 ·exact h
theorem RS.Al.flush (h:S.Al P) (dev:Int):(S.flush dev).Al P:=by
 unfold RS.flush;split
 ·split
  ·exact(RS.after_al h).fl dev
  ·exact RS.after_al h
 ·exact h
theorem RS.Al.wrs:∀(l:List (Nat×List am)) {S:RS},S.Al P->(∀x ∈ l,P x.2)->(S.wrs l).1.Al P
 | [],S,h,_=>h
 | (i,b)::l,S,h,hl=>by
  have h1:=h.write 0 (i:Int) (hl (i,b) eV);unfold RS.wrs;split
  ·exact RS.Al.wrs l h1 fun x hx=>hl x (fG _ hx)
  ·exact h1
theorem RS.Al.bat:∀(ls:List cA) {S:RS},S.Al P->(∀l ∈ ls,∀x ∈ l,P x.2)->(S.bat ls).1.Al P
 | [],S,h,_=>h
 | l::ls,S,h,hl=>by
  have h1:=RS.Al.wrs l h (hl l eV);rw[RS.bat_cons];split
  ·exact h1
  ·split
   ·exact h1.flush 0
   ·exact RS.Al.bat ls (h1.flush 0) fun k hk=>hl k (fG _ hk)
theorem RS.Al.crash (h:S.Al P) (b0 b1:List Int):(S.crash b0 b1).Al P:=by
 intro j;show(cR S.D0 (ip S.D0 b0) (bF S.D0 S.n0) j).Al P;unfold cR;split
 ·exact(h j).settle _
 ·exact h j
end
theorem RS.bb_al {S:RS}:S.BB↔S.Al Go.Proofs.YtbeeenembgplmaaGreat.BB:=⟨fun h i=>⟨(h i).c,(h i).vs⟩,fun h i=>⟨(h i).c,(h i).vs⟩⟩
theorem RS.BB.bat {S:RS} (h:S.BB) {ls:List cA} (hl:∀l ∈ ls,∀x ∈ l,Go.Proofs.YtbeeenembgplmaaGreat.BB x.2):(S.bat ls).1.BB:=RS.bb_al.2 (RS.Al.bat ls (RS.bb_al.1 h) hl)
def qo (n:Int) (bs:List Int):Prop:=dF bs=true->(Sct.of bs).seq<=n/\((Sct.of bs).mark=83->fW (Sct.of bs).body<=n)
def iz (n:Int) (c:List am):Prop:=qo n (byt c)
theorem iz.mono {n m:Int} (h:n<=m) (c:List am) (k:iz n c):iz m c:=fun hd=>by
 obtain⟨h1,h2⟩:=k hd;exact⟨by omega,fun hm=>by have:=h2 hm;omega⟩
theorem Gy:∀v:Fin 256,dF (bK 64 (v.1:Int))=false:=by decide+kernel
theorem iz.fill {n v:Int} (h:0<=v/\v<256):iz n (a9 v):=fun hd=>by
 rw[so]at hd;have:=Gy ⟨v.toNat,by omega⟩;rw[show((v.toNat:Nat):Int)=v from by omega]at this;rw[this]at hd;cases hd
theorem iz.sct {n:Int} {s:Sct} (hs:s.Ok) (hf:s.fits=true) (h1:s.seq<=n) (h2:s.mark=83->fW s.body<=n):iz n (an s.bytes):=fun _=>by
 obtain⟨_,d2⟩:=kI hs hf;rw[jT,d2];exact⟨h1,h2⟩
def RS.Sm (S:RS) (n:Int):Prop:=S.Al (iz n)
theorem Gz (n0 n1:Nat) (n:Int):(gq n0 n1).Sm n:=fun i=>⟨iz.fill (by omega),fun v hv=>by cases hv⟩
theorem RS.Sm.rd {S:RS} {n:Int} (h:S.Sm n) (i:Nat):qo n (S.rd i):=(h i).look
theorem zq {g:Nat->List Int} {seq:Int}:∀(f k:Nat) (acc t:List Img),acc.length=k->fc g seq f k acc=some t->k<=t.length/\∀j,k<=j->j<=t.length->dF (g j)=true/\(Sct.of (g j)).seq=seq
 | 0,_,_,_,_,h=>by cases h
 | f+1,k,acc,t,ha,h=>by
  unfold fc at h;split at h
  ·cases h
  ·rename_i hn;have hk:dF (g k)=true/\(Sct.of (g k)).seq=seq:=by
    constructor
    ·cases e:dF (g k)with
     | true=>rfl
     | false=>exact absurd (aA e) hn
    ·by_cases e:(Sct.of (g k)).seq=seq
     ·exact e
     ·exact absurd (aC e) hn
   split at h
   ·split at h
    ·cases h
    ·cases h;exact⟨by omega,fun j h1 h2=>by have e:j=k:=(by omega);subst e;exact hk⟩
   ·split at h
    ·cases h
    ·obtain⟨h1,h2⟩:=zq f (k+1) _ t (by simp[ha]) h;refine⟨by omega,fun j h3 h4=> ?_⟩;by_cases e:j=k
     ·subst e;exact hk
     ·exact h2 j (by omega) h4
theorem GA {rd:Nat->List Int} {frm count at0:Nat} {seq:Int} {t:List Img} (h:io rd frm count at0 seq=some t):∀j,j<=t.length->dF (rd (frm+(at0+j)%count))=true/\(Sct.of (rd (frm+(at0+j)%count))).seq=seq:=
 fun j hj=>(zq count 0 [] t rfl h).2 j (by omega) hj
theorem zr {rd:Nat->List Int} {frm C a:Nat} {q n:Int} (hC:0<C) (hC2:C<=256) (ha:a<C) (hq:cH q) (hn:∀k,k<C->qo n (rd (frm+k))) (hqn:q<=n) (hn0:0<=n) (hn1:n<1000000):
  ∀(f at0:Nat) (seq:Int) (acc:List (List Img)),acc.length+f<=256->cE acc<=C->at0=(a+cE acc)%C->seq=q+acc.length->seq<=n+1->
   (acc≠ []->(Sct.of (rd (frm+a%C))).seq=q)->
   cE (fz rd frm C f at0 seq acc).1<=C/\(fz rd frm C f at0 seq acc).2.1<C/\0<=(fz rd frm C f at0 seq acc).2.2/\(fz rd frm C f at0 seq acc).2.2<=n+1
 | 0,at0,seq,acc,_,hu,he,hs,hs1,_=>⟨hu,by show at0<C;rw[he];exact fO _ hC,by show 0<=seq;have:=hq.1;omega,hs1⟩
 | f+1,at0,seq,acc,hf,hu,he,hs,hs1,h0=>by
  unfold fz;cases ho:io rd frm C at0 seq with
  | none=>exact⟨hu,by show at0<C;rw[he];exact fO _ hC,by show 0<=seq;have:=hq.1;omega,hs1⟩
  | some t=>
   have hsq:=GA ho;have hlen:=xj ho;have hs0:seq<=n:=by
    obtain⟨d1,d2⟩:=hsq 0 (by omega);have:=(hn ((at0+0)%C) (fO _ hC) d1).1;omega
   have hq0:=hq.1;have e1:(seq+1)%4294967296=seq+1:=Int.emod_eq_of_lt (by omega) (by omega);have eu:cE (acc++ [t])=cE acc+(t.length+1):=xd acc t;have hfit:cE acc+(t.length+1)<=C:=by
    by_cases hle:cE acc+(t.length+1)<=C
    ·exact hle
    ·exfalso;by_cases hnil:acc= []
     ·subst hnil;have:cE ([]:List (List Img))=0:=rfl;omega
     ·have h1:=h0 hnil;obtain⟨_,h2⟩:=hsq (C - cE acc) (by omega);have hpl:(at0+(C - cE acc))%C=a%C:=by
       rw[he,Nat.mod_add_mod,show a+cE acc+(C - cE acc)=a+C by omega,Nat.add_mod_right]
      rw[hpl,h1]at h2;have:acc.length=0:=by omega
      exact hnil (je this)
   rw[e1];refine zr hC hC2 ha hq hn hqn hn0 hn1 f _ _ _ (by simp;omega) (by rw[eu];exact hfit) ?_ (by rw[cX,hs];simp;omega) (by omega) (fun _=> ?_)
   ·rw[he,eu,Nat.add_assoc,Nat.mod_add_mod]
    congr 1
    omega
   ·by_cases hnil:acc= []
    ·subst hnil;have hu0:cE ([]:List (List Img))=0:=rfl;obtain⟨_,h2⟩:=hsq 0 (by omega);rw[he,hu0,Nat.add_zero,Nat.add_zero,Nat.mod_mod]at h2;rw[h2,hs];simp
    ·exact h0 hnil
theorem GB {rd:Nat->List Int} {frm C a:Nat} {q n:Int} (hC:0<C) (hC2:C<=256) (ha:a<C) (hq:cH q) (hn:∀k,k<C->qo n (rd (frm+k))) (hqn:q<=n) (hn1:n<1000000):
  cE (cC rd frm C a q).1<=C/\(cC rd frm C a q).2.1<C/\0<=(cC rd frm C a q).2.2/\(cC rd frm C a q).2.2<=n+1:=
 zr hC hC2 ha hq hn hqn (by have:=hq.1;omega) hn1 C a q [] (by simpa using hC2) (by show 0<=C;omega) (by show a=(a+0)%C;rw[Nat.add_zero,Nat.mod_eq_of_lt ha]) (by simp) (by omega) (fun h=>absurd rfl h)
end
section
structure Run (S:RS) (k:Nat):Prop where
 up:S.Up
 n0:S.n0<=200
 n1:S.n1<=200
 d0:0<=S.done
 d1:S.done<=400*k
 bb:S.BB
 sm:S.Sm k
 few:S.Few k
structure MRun (S:RS) (M:MS) (k:Nat):Prop where
 ok:M.Ok S
 gen:M.gen<=k
 seq:M.seq<=k+1
section
variable {S T:RS} {M:MS} {k:Nat} {b:List Int}
theorem Run.rdy (h:Run S k) (hk:k<=100):S.Rdy:=⟨by have:=h.n0;omega,by have:=h.n1;omega,h.d0,by have:=h.d1;omega,by rw[h.up.fuse];omega,h.few.mono hk,h.bb⟩
theorem Run.down (h:Run S k):S.down=false:=h.up.down
theorem zt:∀(ls:List cA) (S:RS),S.Up->(∀l ∈ ls,∀x ∈ l,x.1<S.n0)->ls≠ []->(S.bat ls).1.Dry
 | [],S,_,_,h=>absurd rfl h
 | l::ls,S,hu,h,_=>by
  obtain⟨h1,h2⟩:=RS.Up.wrs l hu (h l eV);have s1:=(RS.wrs_spec l S (h l eV)).1;rw[RS.bat_cons,if_neg (by rw[h1];simp)];obtain⟨u1,u2⟩:=h2.flush 0;obtain⟨s2,hf⟩:=RS.flush0 (S.wrs l).1;have hE:(S.wrs l).1.flushE 0=0/\((S.wrs l).1.flush 0).D0=dA (S.wrs l).1.D0 (S.wrs l).1.n0:=by
   rcases hf with⟨_,h3,h4⟩ | ⟨h3,_,_⟩
   ·exact⟨h3,h4⟩
   ·rw[h2.ok]at h3;cases h3
  rw[if_neg (by omega)];by_cases hn:ls= []
  ·subst hn;show((S.wrs l).1.flush 0).Dry;intro i hi;rw[hE.2];rw[s2.n0]at hi;unfold dA;rw[if_pos hi]
  ·exact zt ls _ u1 (fun k hk x hx=>by rw[s2.n0,s1.n0];exact h k (fG _ hk) x hx) hn
theorem Run.mono (h:Run S k) {m:Nat} (hk:k<=m):Run S m:=⟨h.up,h.n0,h.n1,h.d0,by have:=h.d1;omega,h.bb,h.sm.mono (fun v=>iz.mono (by omega) v),h.few.mono hk⟩
structure WOk (S:RS) (k:Nat) (ls:List cA):Prop where
 lt:∀l ∈ ls,∀x ∈ l,x.1<S.n0
 bb:∀l ∈ ls,∀x ∈ l,BB x.2
 sm:∀l ∈ ls,∀x ∈ l,iz k x.2
 few:fB ls<=400
theorem Run.bat (h:Run S k) {ls:List cA} (hw:WOk S (k+1) ls):(S.bat ls).2=0/\Run (S.bat ls).1 (k+1):=by
 obtain⟨u1,u2⟩:=RS.bat_up ls S h.up hw.lt;obtain⟨w1,w2,_⟩:=RS.bat_way ls S;obtain⟨v1,v2,v3⟩:=RS.bat_D1 ls S hw.lt;have:=hw.few;have h0:=h.d0;have h1:=h.d1;refine⟨u1,u2,by rw[v2];exact h.n0,by rw[v3];exact h.n1,by omega,by omega,h.bb.bat hw.bb,RS.Al.bat ls (h.sm.mono (fun v=>iz.mono (by omega) v)) hw.sm, ?_⟩;by_cases hn:ls= []
 ·subst hn;exact h.few.mono (by omega)
 ·exact sp (zt ls S h.up hw.lt hn) (h.few.mono (by omega)) v1 v3
theorem Run.fill (h:Run S k) (hk:k<=100) (i:Int) {v:Int} (hv:0<=v/\v<256):Run (S.write 0 i (a9 v)) (k+1):=by
 obtain⟨u1,u2⟩:=h.up.write 0 i (a9 v);have h0:=h.d0;have h1:=h.d1;have hn:(S.write 0 i (a9 v)).n0=S.n0/\(S.write 0 i (a9 v)).n1=S.n1:=by
  unfold RS.write;split
  ·split
   ·unfold RS.put;rw[if_pos rfl];exact⟨S.after_same.1,S.after_same.2.1⟩
   ·exact⟨S.after_same.1,S.after_same.2.1⟩
  ·exact⟨rfl,rfl⟩
 exact⟨u1,by rw[hn.1];exact h.n0,by rw[hn.2];exact h.n1,by omega,by omega,h.bb.write 0 i (BB.fill hv),(RS.Al.mono h.sm (fun v=>iz.mono (by omega) v)).write 0 i (iz.fill hv),RS.few_write h.few (by omega) 0 i (a9 v)⟩
theorem Run.crash (h:Run S k) (b0 b1:List Int):Run (S.crash b0 b1) k:=
 ⟨(RS.crash_up S b0 b1).1,h.n0,h.n1,by rw[(RS.crash_up S b0 b1).2];exact h.d0,by rw[(RS.crash_up S b0 b1).2];exact h.d1,h.bb.crash b0 b1,h.sm.crash b0 b1,RS.few_crash S b0 b1 k⟩
theorem Run.new {n0 n1:Nat} (h0:n0<=200) (h1:n1<=200):Run (gq n0 n1) 1:=
 ⟨rg n0 n1,h0,h1,fP _,by show(0:Int)<=_;omega,rO n0 n1,Gz n0 n1 _,rh n0 n1 1⟩
theorem qp {M:MS} (h:M.Ok S) (hl:b.length=M.b.length):cB b=M.g.P:=by
 have hN:=Geo.nats h.good;unfold cB;rw[hl,h.len,hN.bp]
theorem zu {bs:List Int}:aP bs↔∀x ∈ bs,0<=x/\x<256:=by
 constructor
 ·intro h x hx;obtain⟨j,hj,rfl⟩:=List.getElem_of_mem hx;have:=h j;rw[bJ hj]at this;exact this
 ·intro h j;by_cases hj:j<bs.length
  ·rw[bJ hj];exact h _ (List.getElem_mem hj)
  ·rw[iB (by omega)];decide
theorem zv:∀(l:List Img) (now:List (List Int)),(∀y ∈ now,aP y)->(∀x ∈ l,aP x.body)->∀y ∈ l.foldl cD now,aP y
 | [],now,h,_=>h
 | x::l,now,h,hx=>zv l (cD now x) (fun y hy=>by
   unfold cD at hy;split at hy
   ·rcases List.mem_or_eq_of_mem_set hy with h1 | rfl
    ·exact h y h1
    ·exact hx x eV
   ·exact h y hy) (fun z hz=>hx z (fG _ hz))
theorem GC {home:List (List Int)} {ts:List (List Img)} (h:∀y ∈ home,aP y) (hi:∀x ∈ ts.flatten,aP x.body) (n:Nat):aP ((dV home ts).flatten.take n):=by
 rw[zu];intro x hx;obtain⟨y,hy,hxy⟩:=List.mem_flatten.1 (gX hx);rw[pB]at hy;exact zu.1 (zv _ _ h hi y hy) x hxy
theorem Run.opn (h:Run S k) (hk:k<=1000) (ho:S.opn=some M):MRun S M k:=by
 have hby:=h.bb.byt;unfold RS.opn at ho;split at ho
 ·cases ho
 ·rename_i j x hx;obtain⟨t1,t2,t3,t4⟩:=qk hby hx;have hsx:(S.supAt j)=some x:=by
   rcases yR hx with⟨rfl,e⟩ | ⟨rfl,e⟩<;>exact e
  split at ho
  ·rename_i hh;have ho:=(Option.some.inj ho).symm;have hsup:dF (S.rd j)=true/\(Sct.of (S.rd j)).mark=83/\x.gen=(Sct.of (S.rd j)).seq/\x.q=fW (Sct.of (S.rd j)).body:=by
    unfold RS.supAt at hsx;split at hsx
    ·unfold eo at hsx;split at hsx
     ·rename_i hp;have:=Option.some.inj hsx;subst this;exact⟨hp.1,hp.2.1,rfl,rfl⟩
     ·cases hsx
    ·cases hsx
   obtain⟨s1,s2⟩:=(h.sm.rd j) hsup.1;have s3:=s2 hsup.2.1;have hg:x.g.good/\x.g.oF<=S.n0/\x.g.oW<=S.n1:=t2;have hN:=Geo.nats hg.1;have hr:=Geo.room hg.1 hg.2.1;have ha:x.a<x.g.C:=by have:=hN.c;omega
   have hrep:=GB (rd:=S.rd) (frm:=2) (C:=x.g.C) (a:=x.a) (q:=x.q) (n:=k) (by have:=hN.c1;have:=hN.p1;omega) hN.c2 ha t4.seq (fun i _=>h.sm.rd _) (by rw[hsup.2.2.2];exact s3) (by omega);have hwh:=tE (rd:=S.rd) (frm:=2) (count:=x.g.C) (at0:=x.a) (seq:=x.q) (by have:=hN.c1;omega) hN.c2 (fun i h1 h2=>⟨(hby i (by omega)).1,(hby i (by omega)).2.1⟩);have hhome:∀y ∈ S.homes x.g.H x.g.P,y.length=48/\aP y:=by
    intro y hy;unfold RS.homes at hy;obtain⟨i,hi,rfl⟩:=dc.1 hy;have hi:=fo.1 hi;have hb:=hby (x.g.H+i) (by unfold Geo.H;omega);have:=jg hb.1 hb.2.1;exact⟨this.len,this.bytes⟩
   have hhl:(S.homes x.g.H x.g.P).length=x.g.P:=by unfold RS.homes;simp
   have hfl:(dV (S.homes x.g.H x.g.P) (cC S.rd 2 x.g.C x.a x.q).1).flatten.length=48*x.g.P:=by
    rw[yT (fun y hy=>(hhome y hy).1) hwh.1,hhl]
   subst ho;refine⟨⟨hg.1,hg.2.1,hg.2.2,t1,⟨t4.gen.1,by rw[show(MS.gen _)=x.gen from rfl,hsup.2.2.1];omega⟩,⟨hrep.2.2.1,by have:=hrep.2.2.2;show(cC S.rd 2 x.g.C x.a x.q).2.2<=_;omega⟩,hrep.2.1,hrep.1,hhl,hhome, ?_, ?_⟩,by show x.gen<=_;rw[hsup.2.2.1];exact s1,hrep.2.2.2⟩
   ·show(List.take _ _).length=_;rw[fd,hfl];have:=hN.bp;have:=hN.b2;show min x.g.bts.toNat (48*x.g.P)=x.g.bts.toNat;omega
   ·refine GC (fun y hy=>(hhome y hy).2) (fun y hy=> ?_) _;obtain⟨r1,_⟩:=tD (rd:=S.rd) (frm:=2) (count:=x.g.C) (by have:=hN.c1;omega) (fun i h1 h2=>⟨(hby i (by omega)).1,(hby i (by omega)).2.1⟩) x.g.C x.a x.q [] (fun t h=>by cases h);obtain⟨t,ht,hyt⟩:=List.mem_flatten.1 hy;exact((r1 t ht).1 y hyt).2.2
  ·cases ho
theorem zw {n:Int} (hn:0<=n) {i:Nat} (hi:i<=65535) {body:List Int} (h1:body.length=48) (h2:aP body):iz n (an (de i body).bytes):=
 iz.sct (jX h1 h2) (pi hi body) hn (fun e=>by cases e)
theorem zx {n gen q:Int} {g:Geo} {a:Nat} (hg:g.good) (ha:(a:Int)<g.r) (hn:cH gen) (hq:cH q) (h1:gen<=n) (h2:q<=n):iz n (an (dt gen g a q).bytes):=
 iz.sct (kw hn g a q) (rR gen g a q) h1 (fun _=>by show fW (fU g a q)<=n;rw[(vX hg ha hq).2.2];exact h2)
theorem GD {F C A:Nat} {seq n:Int} {t:List Img} (hs:cH seq) (hn:seq<=n) (hok:∀x ∈ t,x.Ok) (hfi:∀x ∈ t,x.fits) (hl:t.length<=65535):∀x ∈ bQ F C A seq t,iz n x.2:=by
 intro x hx;unfold bQ at hx;obtain⟨y,hy,rfl⟩:=dc.1 hx;have hm:y.1 ∈ bu seq t:=by
  have:=List.mem_zipIdx hy;simp only[dC]at this;rw[this.2.2];exact List.getElem_mem _
 unfold bu at hm;rcases gW.1 hm with h | h
 ·obtain⟨z,hz,e⟩:=dc.1 h;show iz n (an y.1);rw[←e];exact iz.sct (jz hs (hok z hz)) (lu (hfi z hz)) hn (fun e=>by cases e)
 ·rw[dO]at h;show iz n (an y.1);rw[h];exact iz.sct (jQ hs) (mR hl) hn (fun e=>by cases e)
theorem zy (h:M.Ok S) (hl:b.length=M.b.length) (hb:aP b):(∀x ∈ M.dif b,x.Ok/\x.fits)/\(M.dif b).length<=M.g.P:=by
 have hN:=Geo.nats h.good;have hp:=qp h hl;refine⟨fun x hx=> ?_,by have:=pm (aM M.b) (aM b);rwa [gJ b,hp]at this⟩;obtain⟨i,rfl,hi,_⟩:=pk _ _ x hx;have hi':i<cB b:=by rwa [gJ]at hi
 have e:(aM b)[i]?.getD []=bM b i:=by rw[lF b hi'];rfl
 rw[e];have hp2:=hN.p2;exact⟨⟨gH b i,ir hb i⟩,by show(0:Int)<=i/\(i:Int)<=65535;omega⟩
theorem MRun.wok (h:MRun S M k) (hk:k<=1000) (hl:b.length=M.b.length) (hb:aP b):WOk S (k+1) (M.bats b):=by
 have hN:=Geo.nats h.ok.good;have hr:=Geo.room h.ok.good h.ok.n0;have hM:=qp h.ok (b:=M.b) rfl;obtain⟨d1,d2⟩:=zy h.ok hl hb;have hq:cH M.seq:=⟨h.ok.seq.1,by have:=h.ok.seq.2;omega⟩;have hgen:cH (M.gen+1):=⟨by have:=h.ok.gen.1;omega,by have:=h.ok.gen.2;omega⟩;have hC:=h.ok.at0;have hsup:=h.ok.sup1;have hhom:∀x ∈ M.homW,x.1<S.n0/\BB x.2/\iz ((k:Int)+1) x.2:=by
  intro x hx;unfold MS.homW at hx;obtain⟨i,hi,rfl⟩:=dc.1 hx;have hi:=fo.1 (List.mem_filter.1 hi).1;refine⟨by show M.g.H+i<_;unfold Geo.H;omega,mt (jX (gH _ _) (ir h.ok.bytes i)),zw (by omega) (by have:=hN.p2;omega) (gH _ _) (ir h.ok.bytes i)⟩
 have hsW:∀x ∈ M.supW,x.1<S.n0/\BB x.2/\iz ((k:Int)+1) x.2:=by
  intro x hx;unfold MS.supW at hx;rw[dO.1 hx];exact⟨by show 1 - M.sup<_;omega,mt (kw hgen _ _ _),zx h.ok.good (by have:=hN.c;omega) hgen hq (by have:=h.gen;omega) h.seq⟩
 have hok:∀x ∈ M.dif b,x.Ok:=fun x hx=>(d1 x hx).1;have htx:∀x ∈ bQ 2 M.g.C M.at0 M.seq (M.dif b),x.1<S.n0/\BB x.2/\iz ((k:Int)+1) x.2:=by
  intro x hx;refine⟨?_,vV hq hok x hx,GD hq h.seq hok (fun y hy=>(d1 y hy).2) (by have:=hN.p2;omega) x hx⟩;have:x.1 ∈(bQ 2 M.g.C M.at0 M.seq (M.dif b)).map (·.1):=dc.2 ⟨x,hx,rfl⟩;rw[rk]at this;obtain⟨j,_,e⟩:=dc.1 this;have:=fO (M.at0+j) (by omega:0<M.g.C);omega
 have hall:∀l ∈ M.bats b,∀x ∈ l,x.1<S.n0/\BB x.2/\iz ((k:Int)+1) x.2:=by
  intro l hl x hx;unfold MS.bats at hl;split at hl
  ·cases hl
  ·rcases gW.1 hl with hl | hl
   ·split at hl
    ·rcases ec.1 hl with rfl | hl
     ·exact hhom x hx
     ·rw[dO.1 hl]at hx;exact hsW x hx
    ·cases hl
   ·unfold MS.appW at hl;rcases ec.1 hl with rfl | hl
    ·exact htx x (gX hx)
    ·rw[dO.1 hl]at hx;exact htx x (List.mem_of_mem_drop hx)
 refine⟨fun l hl x hx=>(hall l hl x hx).1,fun l hl x hx=>(hall l hl x hx).2.1,fun l hl x hx=>by have:=(hall l hl x hx).2.2;exact_mod_cast this, ?_⟩;have hh:M.homW.length<=M.g.P:=by
  unfold MS.homW;rw[fZ];exact aZ (List.length_filter_le _ _) (by simp)
 have hp2:=hN.p2;have ha:fB (M.appW b)=(M.dif b).length+3:=by
  unfold MS.appW fB;simp[lA]
 unfold MS.bats;split
 ·simp[fB]
 ·split
  ·have e:fB ([M.homW,M.supW]++M.appW b)=M.homW.length+1+(2+fB (M.appW b)):=rfl;rw[e,ha];omega
  ·have e:fB ([]++M.appW b)=fB (M.appW b):=rfl;rw[e,ha];omega
theorem MRun.cmt (hR:Run S k) (h:MRun S M k) (hk:k<=1000) (hl:b.length=M.b.length) (hb:aP b):(S.cmt M b).2=0/\Run (S.cmt M b).1 (k+1)/\MRun (S.cmt M b).1 (M.next b) (k+1)/\(M.next b).b=b:=by
 have hw:=h.wok hk hl hb;obtain⟨e,hR'⟩:=hR.bat hw;obtain⟨v1,v2,v3⟩:=RS.bat_D1 (M.bats b) S hw.lt;have hN:=Geo.nats h.ok.good;obtain⟨d1,d2⟩:=zy h.ok hl hb;have hC:=h.ok.at0;have hc:=hN.c;have hc1:=hN.c1;have hM:=qp h.ok (b:=M.b) rfl;have hg:=h.gen;have hs:=h.seq;have hg0:=h.ok.gen;have hs0:=h.ok.seq;have hnb:(M.next b).b=b:=by
  unfold MS.next;split
  ·rename_i h0;have h1:=sh (was:=aM M.b) (now:=aM b) (by rw[gJ,gJ,qp h.ok hl,hM]);have h0':jY (aM M.b) (aM b)= []:=h0;rw[h0']at h1;have h2:aM M.b=aM b:=h1;have h3:=ns M.b;rw[h2,←hl,ns b]at h3;exact h3.symm
  ·split<;>rfl
 have hcl:(aM M.b).length=M.g.P:=by rw[gJ,hM]
 have hcb:∀x ∈ aM M.b,x.length=48/\aP x:=lL h.ok.bytes;refine⟨e,hR', ?_,hnb⟩;have n0:M.g.oF<=(S.cmt M b).1.n0:=by show M.g.oF<=(((S.bat (M.bats b)).1.n0:Nat):Int);rw[v2];exact h.ok.n0
 have n1:M.g.oW<=(S.cmt M b).1.n1:=by show M.g.oW<=(((S.bat (M.bats b)).1.n1:Nat):Int);rw[v3];exact h.ok.n1
 unfold MS.next;split
 ·exact⟨⟨h.ok.good,n0,n1,h.ok.sup1,hg0,hs0,hC,h.ok.used,h.ok.homl,h.ok.homb,h.ok.len,h.ok.bytes⟩,by omega,by omega⟩
 ·split
  ·rename_i hf;exact⟨⟨h.ok.good,n0,n1,by show 1 - M.sup<=1;omega,by show 0<=M.gen+1/\M.gen+1<=_;omega,by show 0<=M.seq+1/\M.seq+1<=_;omega,fO _ (by show 0<M.g.C;omega),by show 0+(M.dif b).length+1<=M.g.C;omega,hcl,hcb,by show b.length=_;rw[hl,h.ok.len];rfl,hb⟩,by show M.gen+1<=_;omega,by show M.seq+1<=_;omega⟩
  ·rename_i hf;have hroom:(M.dif b).length+1<=M.g.r - M.used:=by
    unfold MS.full MS.room at hf;omega
   exact⟨⟨h.ok.good,n0,n1,h.ok.sup1,hg0,by show 0<=M.seq+1/\M.seq+1<=_;omega,fO _ (by show 0<M.g.C;omega),by show M.used+(M.dif b).length+1<=M.g.C;omega,h.ok.homl,h.ok.homb,by show b.length=_;rw[hl,h.ok.len];rfl,hb⟩,by show M.gen<=_;omega,by show M.seq+1<=_;omega⟩
theorem Run.fmt (h:Run S k) {g:Geo} (hg:g.good) (h0:g.oF<=S.n0) (h1:g.oW<=S.n1) (hl:b.length=g.bts.toNat) (hb:aP b):(S.bat (co g b)).2=0/\Run (S.bat (co g b)).1 (k+1)/\MRun (S.bat (co g b)).1 (MS.new g b) (k+1):=by
 have hN:=Geo.nats hg;have hr:=Geo.room hg h0;have hok:=mu (S:=S) hg h0 hb;have ht:fB (co g b)<=300:=by
  have:=hN.c2;have:=hN.p2;unfold fB co;simp;omega
 have hsm:∀l ∈ co g b,∀x ∈ l,iz ((k:Int)+1) x.2:=by
  intro l hl x hx;have hz:iz ((k:Int)+1) (a9 0):=iz.fill (by omega);unfold co at hl;rcases ec.1 hl with rfl | hl
  ·rcases ec.1 hx with rfl | hx
   ·exact hz
   ·rw[dO.1 hx];exact hz
  ·rcases ec.1 hl with rfl | hl
   ·rcases gW.1 hx with hx | hx
    ·obtain⟨j,hj,_,e⟩:=po (i:=x.1) (v:=x.2) hx;rw[e];exact hz
    ·obtain⟨j,hj,_,e⟩:=pp (i:=x.1) (v:=x.2) hx;rw[e];exact zw (by omega) (by have:=hN.p2;omega) (gH _ _) (ir hb j)
   ·rw[dO.1 hl]at hx;rw[dO.1 hx];exact zx hg (by have:=hN.c;have:=hN.c1;omega) ⟨by omega,by omega⟩ ⟨by omega,by omega⟩ (by omega) (by omega)
 have hw:WOk S (k+1) (co g b):=⟨fun l hl x hx=>(hok l hl).lt x hx,fun l hl x hx=>(hok l hl).bb x hx,fun l hl x hx=>by have:=hsm l hl x hx;exact_mod_cast this,by omega⟩;obtain⟨e,hR'⟩:=h.bat hw;obtain⟨v1,v2,v3⟩:=RS.bat_D1 (co g b) S hw.lt;have hM:cB b=g.P:=by unfold cB;rw[hl,hN.bp]
 refine⟨e,hR',⟨hg,by rw[v2];exact h0,by rw[v3];exact h1,bq _,by show(0:Int)<=1/\(1:Int)<=_;omega,by show(0:Int)<=1/\(1:Int)<=_;omega,by show 0<g.C;have:=hN.c1;omega,bq _,by show(aM b).length=_;rw[gJ,hM];rfl,lL hb,hl,hb⟩,by show(1:Int)<=_;omega,by show(1:Int)<=_;omega⟩
end
end
section
attribute [-simp] isAgg51 zeroValue51
attribute [-go_sem] aE aL
attribute [local go_sem] bC bD dZ dQ
section
variable {rq q0 q1:Nat} {S:RS} {w:ak} {f:Nat->Prop} {v:am} {b:List Int}
theorem bG.crash0 (h:bG rq q0 q1 S w f) (hv:Sl aq w v b) (hB:aP b) (hc:b≠ []->ju f v) (hm:S.Few 1000000):
  az aj 148 #[ao (some ⟨q0,0,none⟩),v] w fun e w'=>e=ar (aQ #[])/\∃f',bG rq q0 q1 (S.cr0 b) w' f'/\Turn f f' w w':=by
 refine cS.secondC (R:=fun e _=>e=ar (aQ #[])) (kL.isRes _ _ _) (S.disks2_isRes q0 q1) h (Q':=(S.cr0 b).disks2 q0 q1) fun f2 h2 hs2=> ?_;refine cS.firstC (R:=fun e _=>e=ar (aQ #[])) (rK.isRes _ _ _) (rK.isRes _ _ _) h2 fun f3 h3 hs3=> ?_;refine(vR q0 S.n0 f3 S.D0 v b w h3.1 h3.2 hv hB (fun hn x off len cap e hf=>hc hn x off len cap e (hs2 _ (hs3 _ hf))) hm.1).mono ?_;rintro e w' ⟨rfl,f',g1,g2⟩;exact⟨rfl,f',⟨g1,h3.2⟩,g2⟩
theorem bG.crash1 (h:bG rq q0 q1 S w f) (hv:Sl aq w v b) (hB:aP b) (hc:b≠ []->ju f v) (hm:S.Few 1000000):
  az aj 148 #[ao (some ⟨q1,0,none⟩),v] w fun e w'=>e=ar (aQ #[])/\∃f',bG rq q0 q1 (S.cr1 b) w' f'/\Turn f f' w w':=by
 refine cS.secondC (R:=fun e _=>e=ar (aQ #[])) (kL.isRes _ _ _) (S.disks2_isRes q0 q1) h (Q':=(S.cr1 b).disks2 q0 q1) fun f2 h2 hs2=> ?_;refine cS.secondC (R:=fun e _=>e=ar (aQ #[])) (rK.isRes _ _ _) (rK.isRes _ _ _) h2 fun f3 h3 hs3=> ?_;refine(vR q1 S.n1 f3 S.D1 v b w h3.1 h3.2 hv hB (fun hn x off len cap e hf=>hc hn x off len cap e (hs2 _ (hs3 _ hf))) hm.2).mono ?_;rintro e w' ⟨rfl,f',g1,g2⟩;exact⟨rfl,f',⟨g1,h3.2⟩,g2⟩
theorem bG.crash {v0 v1:am} {b0 b1:List Int} (h:bG rq q0 q1 S w f) (hv0:Sl aq w v0 b0) (hv1:Sl aq w v1 b1) (hB0:aP b0) (hB1:aP b1) (hc0:b0≠ []->ju f v0) (hc1:b1≠ []->ju f v1) (hm:S.Few 1000000):
  az aj 62 #[ao (some ⟨rq,0,none⟩),v0,v1] w fun e w'=>e=ar (aQ #[])/\∃f',bG rq q0 q1 (S.crash b0 b1) w' f'/\Turn f f' w w':=by
 obtain⟨a0,cap0,rfl, -, -, -, -⟩:=id hv0;obtain⟨a1,cap1,rfl, -, -, -, -⟩:=id hv1;obtain⟨L0,hL0⟩:=w9nm b0.length;obtain⟨L1,hL1⟩:=w9nm b1.length;rw[hL0]at hv0 hc0 ⊢;rw[hL1]at hv1 hc1 ⊢;have c0:w.cell? ⟨rq,0,none⟩=some (ao (some ⟨q0,0,none⟩)):=h.cell 0;have H1:=ae (h.crash0 hv0 hB0 hc0 hm);have H2:Hid (∀(x:ak) (f2:Nat->Prop),bG rq q0 q1 (S.cr0 b0) x f2->Turn f f2 w x->az aj 148 #[ao (some ⟨q1,0,none⟩),ag a1 L1 cap1] x fun e w'=>e=ar (aQ #[])/\∃f',bG rq q0 q1 ((S.cr0 b0).cr1 b1) w' f'/\Turn f2 f' x w'):=fun x f2 hx ht=>
  hx.crash1 (hv1.stay ht.size (fun hn y off len cap e hy=>ht.out y hy (hc1 hn y off len cap e))) hB1 (fun hn y off len cap e hf=>(ht.new y hf).elim (hc1 hn y off len cap e) (fun h=>by have:=hv1.lt_of hn e;omega)) (RS.cr0_few hm b0)
 clear h hv0 hv1 hB0 hB1 hc0 hc1 hm hL0 hL1;go_enter func62,ntmps62;go_wp2_with fail;go_at_call 148;refine H1.out.mono ?_;rintro e x1 ⟨rfl,f1,g1,g2⟩;have c1:x1.cell? ⟨rq,1,none⟩=some (ao (some ⟨q1,0,none⟩)):=g1.cell 1;have H3:=ae (H2.out x1 f1 g1 g2);have HT:=ae g2;clear g1 g2 c0;go_wp2_with fail;go_at_call 148;refine H3.out.mono ?_;rintro e x2 ⟨rfl,f2,g1,g2⟩;have e2:x2.cell? ⟨rq,2,none⟩=some (ab af S.fuse):=g1.cell 2;have e3:x2.cell? ⟨rq,3,none⟩=some (.bool S.down):=g1.cell 3;have r2:=g1.frozen 2;have r3:=g1.frozen 3;have HU:=ae g2;have HR:=ae g1;clear g1 g2 c1;go_wp2_with fail
 go_end0
 obtain⟨g3,g4⟩:=HR.out.set (RS.disks2_isRes q0 q1 _) 2 (ab af (-1));obtain⟨g5,g6⟩:=g3.set (RS.disks2_isRes q0 q1 _) 3 (.bool false);exact⟨rfl,f2,g5,HT.out.trans (HU.out.trans (g4.trans g6))⟩
end
theorem GF (n0 n1:Nat) (w:ak) (h01:1<=n0) (h02:n0<=4096) (h11:1<=n1) (h12:n1<=4096):
  az aj 56 #[ab af (n0:Int),ab af (n1:Int)] w fun e w'=>∃rq q0 q1,e=ar (aQ #[ao (some ⟨rq,0,none⟩),ab af 0])/\(∃f,bG rq q0 q1 (gq n0 n1) w' f/\∀k,f k->w.heap.size<=k)/\ah w.heap.size w w':=by
 have H0:=ae (rf n0 w h01 h02);have H1:=ae (fun x=>rf n1 x h11 h12);have HP:Hid (0<n0/\0<n1):=⟨by omega,by omega⟩;clear h01 h02 h11 h12;go_enter func56,ntmps56;go_wp2_with fail;go_at_call 125;refine H0.out.mono ?_;rintro e x1 ⟨q0,rfl,⟨f0,g1,g2⟩,g3⟩;have A1:=ae g1;have A2:=ae g2;have A3:=ae g3;clear g1 g2 g3;go_wp2_with fail;go_at_call 125;refine(H1.out x1).mono ?_;rintro e x2 ⟨q1,rfl,⟨f1,g1,g2⟩,g3⟩;have B1:=ae g1;have B2:=ae g2;have B3:=ae g3;clear g1 g2 g3;go_wp2_with fail;go_ret2;have hA:∀k,f0 k->k<x1.heap.size:=A1.out.lt HP.out.1;have hB:∀k,f1 k->k<x2.heap.size:=B1.out.lt HP.out.2;have hz1:=A3.out.size;have hz2:=B3.out.size;have hal:∀o:Obj,ah x2.heap.size x2 (x2.alloc o):=fun o=>(aF _ x2).alloc (aJ _) o;refine⟨_,q0,q1,rfl,⟨_,⟨fun k=>k=x2.heap.size,fun k=>f0 k\/f1 k,⟨bR x2 _,rfl⟩,⟨f0,f1,⟨(A1.out.below HP.out.1 B3.out).below HP.out.1 (hal _),HP.out.1⟩,⟨B1.out.below HP.out.2 (hal _),HP.out.2⟩,fun k a b=> ?_,rfl⟩,fun k a b=> ?_,rfl⟩,fun k hk=> ?_⟩, ?_⟩
 ·have:=hA k a;have:=B2.out k b;omega
 ·subst a;rcases b with b | b
  ·have:=hA _ b;omega
  ·have:=hB _ b;omega
 ·rcases hk with rfl | hk | hk
  ·omega
  ·exact A2.out k hk
  ·have:=B2.out k hk;omega
 ·exact(A3.out.trans (B3.out.mono A3.out.size)).trans ((hal _).mono (by omega))
theorem zA (n:Int) (w:ak):az aj 125 #[ab af n] w fun e w'=>∃p,e=ar (aQ #[ao p,ab af (if n<1\/4096<n then 1 else 0)])/\ah w.heap.size w w':=by
 by_cases h:n<1\/4096<n
 ·rw[if_pos h];refine(AR n w h).mono ?_;rintro e w' ⟨rfl,rfl⟩;exact⟨_,rfl,aF _ _⟩
 ·rw[if_neg h];obtain⟨m,rfl⟩:∃m:Nat,n=(m:Int):=⟨n.toNat,by omega⟩;refine(rf m w (by omega) (by omega)).mono ?_;rintro e w' ⟨rq,rfl, -,h⟩;exact⟨_,rfl,h⟩
theorem GG (n0 n1:Int) (w:ak) (h:(n0<1\/4096<n0)\/(n1<1\/4096<n1)):
  az aj 56 #[ab af n0,ab af n1] w fun e w'=>e=ar (aQ #[ao none,ab af 1])/\ah w.heap.size w w':=by
 obtain⟨e0,he0⟩:∃e0:Int,(if n0<1\/4096<n0 then 1 else 0)=e0:=⟨_,rfl⟩;obtain⟨e1,he1⟩:∃e1:Int,(if n1<1\/4096<n1 then 1 else 0)=e1:=⟨_,rfl⟩;have H0:=ae (zA n0 w);have H1:=ae (fun x=>zA n1 x);rw[he0]at H0;rw[he1]at H1;have hc:e0=1\/(e0=0/\e1=1):=by
  by_cases h0:n0<1\/4096<n0
  ·rw[if_pos h0]at he0;exact aA he0.symm
  ·rw[if_neg h0]at he0;rw[if_pos (h.resolve_left h0)]at he1;exact aC ⟨he0.symm,he1.symm⟩
 clear h he0 he1;rcases hc with rfl | ⟨rfl,rfl⟩;all_goals
  go_enter func56,ntmps56;go_wp2_with fail;go_at_call 125;refine H0.out.mono ?_;rintro e x1 ⟨p,rfl,hb⟩;have HB:=ae hb;clear hb;go_wp2_with fail;go_at_call 125;refine(H1.out x1).mono ?_;rintro e x2 ⟨p',rfl,hb⟩;have HB2:=ae hb;clear hb;go_wp2_with fail;go_ret2;exact⟨rfl,HB.out.trans (HB2.out.mono HB.out.size)⟩
end
section
structure PP where
 rb:Nat
 p0:Nat
 p1:Nat
 rq:Nat
 q0:Nat
 q1:Nat
abbrev cU (w0 W:ak) (p:PP) (S T:RS) (own:Nat->Prop):Prop:=dL (cS (aX p.rb p.p0 p.p1 S) (bG p.rq p.q0 p.q1 T)) w0 W own
theorem qr (p:PP) (S T:RS):IsRes (cS (aX p.rb p.p0 p.p1 S) (bG p.rq p.q0 p.q1 T)):=(aX.isRes _ _ _ _).sep (bG.isRes _ _ _ _)
section
variable {w0 W W':ak} {p:PP} {S T:RS} {own:Nat->Prop}
theorem cU.beside (h:cU w0 W p S T own) (hb:w9b W W'):cU w0 W' p S T own:=dL.beside (qr _ _ _) h hb
theorem cU.below (h:cU w0 W p S T own) (hb:w9b W W') (own':Nat->Prop) (ho:∀k,own' k->own k\/(W.heap.size<=k/\k<W'.heap.size)):cU w0 W' p S T own':=dL.below (qr _ _ _) h hb own' ho
theorem cU.first {g:FuncId} {args:Array am} {R:Ending->ak->Prop} {S':RS} (h:cU w0 W p S T own)
  (hc:∀f,aX p.rb p.p0 p.p1 S W f->(∀k,f k->w0.heap.size<=k/\¬own k)->az aj g args W fun e w'=>R e w'/\∃f',aX p.rb p.p0 p.p1 S' w' f'/\Turn f f' W w'):
  az aj g args W fun e w'=>R e w'/\cU w0 w' p S' T own/\∀k,own k->w'.heap[k]? =W.heap[k]? :=
 dL.call (qr _ _ _) h fun f hf hk=>cS.firstC (aX.isRes _ _ _ _) (bG.isRes _ _ _ _) hf fun f1 h1 hs=>hc f1 h1 fun k hk1=>hk k (hs k hk1)
theorem cU.second {g:FuncId} {args:Array am} {R:Ending->ak->Prop} {T':RS} (h:cU w0 W p S T own)
  (hc:∀f,bG p.rq p.q0 p.q1 T W f->(∀k,f k->w0.heap.size<=k/\¬own k)->az aj g args W fun e w'=>R e w'/\∃f',bG p.rq p.q0 p.q1 T' w' f'/\Turn f f' W w'):
  az aj g args W fun e w'=>R e w'/\cU w0 w' p S T' own/\∀k,own k->w'.heap[k]? =W.heap[k]? :=
 dL.call (qr _ _ _) h fun f hf hk=>cS.secondC (aX.isRes _ _ _ _) (bG.isRes _ _ _ _) hf fun f1 h1 hs=>hc f1 h1 fun k hk1=>hk k (hs k hk1)
theorem cU.rig (h:cU w0 W p S T own):∃f,aX p.rb p.p0 p.p1 S W f:=by obtain⟨f,⟨f1,f2,h1,h2,_⟩,_⟩:=h;exact⟨f1,h1⟩
theorem cU.ref (h:cU w0 W p S T own):∃f,bG p.rq p.q0 p.q1 T W f:=by obtain⟨f,⟨f1,f2,h1,h2,_⟩,_⟩:=h;exact⟨f2,h2⟩
theorem cU.write (h:cU w0 W p S T own) (hS:S.Fit) (hm:S.Few 255) (dev i:Int) {b:List am} (hb:bx b):
  az aj 63 #[ao (some ⟨p.rb,0,none⟩),ab af dev,ab af i,al b.toArray] W fun e w'=>e=ar (ab af (S.writeE dev i))/\cU w0 w' p (S.write dev i b) T own/\∀k,own k->w'.heap[k]? =W.heap[k]? :=
 cU.first (R:=fun e _=>e=ar (ab af (S.writeE dev i))) h fun f hf _=>hf.write hS hm dev i hb
theorem cU.write2 (h:cU w0 W p S T own) (hS:T.Fit) (hm:T.Few 255) (dev i:Int) {b:List am} (hb:bx b):
  az aj 64 #[ao (some ⟨p.rq,0,none⟩),ab af dev,ab af i,al b.toArray] W fun e w'=>e=ar (ab af (T.writeE dev i))/\cU w0 w' p S (T.write dev i b) own/\∀k,own k->w'.heap[k]? =W.heap[k]? :=
 cU.second (R:=fun e _=>e=ar (ab af (T.writeE dev i))) h fun f hf _=>hf.write hS hm dev i hb
theorem cU.crash {v0 v1:am} {b0 b1:List Int} (h:cU w0 W p S T own) (hv0:Sl aq W v0 b0) (hv1:Sl aq W v1 b1) (hB0:aP b0) (hB1:aP b1)
  (hc0:b0≠ []->∀b off len cap,v0=ag (some ⟨b,off,none⟩) len cap->b<w0.heap.size\/own b) (hc1:b1≠ []->∀b off len cap,v1=ag (some ⟨b,off,none⟩) len cap->b<w0.heap.size\/own b) (hm:S.Few 1000000):
  az aj 47 #[ao (some ⟨p.rb,0,none⟩),v0,v1] W fun e w'=>e=ar (aQ #[])/\cU w0 w' p (S.crash b0 b1) T own/\∀k,own k->w'.heap[k]? =W.heap[k]? :=
 cU.first (R:=fun e _=>e=ar (aQ #[])) h fun f hf hk=>by
  refine hf.crash hv0 hv1 hB0 hB1 (fun hn b off len cap e hfb=> ?_) (fun hn b off len cap e hfb=> ?_) hm
  ·rcases hc0 hn b off len cap e with h' | h'
   ·have:=(hk b hfb).1;omega
   ·exact(hk b hfb).2 h'
  ·rcases hc1 hn b off len cap e with h' | h'
   ·have:=(hk b hfb).1;omega
   ·exact(hk b hfb).2 h'
theorem cU.crash2 {v0 v1:am} {b0 b1:List Int} (h:cU w0 W p S T own) (hv0:Sl aq W v0 b0) (hv1:Sl aq W v1 b1) (hB0:aP b0) (hB1:aP b1)
  (hc0:b0≠ []->∀b off len cap,v0=ag (some ⟨b,off,none⟩) len cap->b<w0.heap.size\/own b) (hc1:b1≠ []->∀b off len cap,v1=ag (some ⟨b,off,none⟩) len cap->b<w0.heap.size\/own b) (hm:T.Few 1000000):
  az aj 62 #[ao (some ⟨p.rq,0,none⟩),v0,v1] W fun e w'=>e=ar (aQ #[])/\cU w0 w' p S (T.crash b0 b1) own/\∀k,own k->w'.heap[k]? =W.heap[k]? :=
 cU.second (R:=fun e _=>e=ar (aQ #[])) h fun f hf hk=>by
  refine hf.crash hv0 hv1 hB0 hB1 (fun hn b off len cap e hfb=> ?_) (fun hn b off len cap e hfb=> ?_) hm
  ·rcases hc0 hn b off len cap e with h' | h'
   ·have:=(hk b hfb).1;omega
   ·exact(hk b hfb).2 h'
  ·rcases hc1 hn b off len cap e with h' | h'
   ·have:=(hk b hfb).1;omega
   ·exact(hk b hfb).2 h'
theorem cU.read (h:cU w0 W p S T own) (dev i:Int):
  az aj 72 #[ao (some ⟨p.rb,0,none⟩),ab af dev,ab af i] W fun e w'=>e=ar (aQ #[al (S.read dev i).toArray,ab af (S.readE dev i)])/\ah W.heap.size W w':=by
 obtain⟨f,hf⟩:=h.rig;exact hf.read dev i
theorem cU.okRead (h:cU w0 W p S T own) (dev i:Int):bx (S.read dev i):=by
 obtain⟨f,h1⟩:=h.rig;unfold RS.read;split
 ·next hh=>exact h1.okLook hh.1
 ·exact fv 0
theorem cU.cell (h:cU w0 W p S T own) (j:Nat):W.cell? ⟨p.rq,j,none⟩=(T.head p.q0 p.q1)[j]? :=by
 obtain⟨f,hf⟩:=h.ref;exact cS.cell hf j
theorem cU.rq_lt (h:cU w0 W p S T own):p.rq<W.heap.size:=by obtain⟨f,hf⟩:=h.ref;exact hf.rq_lt
theorem cU.disk0 (h:cU w0 W p S T own):∃ss,W.cell? ⟨p.q0,0,none⟩=some (ag (some ⟨ss,0,none⟩) T.n0 T.n0)/\p.q0<W.heap.size/\ss<W.heap.size/\∀i,i<T.n0->W.rangeAt ss (i*64) (T.D0 i).c/\bx (T.D0 i).c:=by
 obtain⟨f,hf⟩:=h.ref;obtain⟨g,⟨ss,vb,sv,h1,rfl⟩,h2⟩:=hf.d0;exact⟨ss,by rw[cl _ _ _ _ _ _ h1.head];rfl,h1.lt h2 (aA rfl),h1.lt h2 (aC (aA rfl)),fun i hi=>⟨h1.cont i hi,(h1.ok i hi).1⟩⟩
end
def GH (B:Nat) (W:ak):Type:={x:ak // x.heap[B]? =W.heap[B]?}
instance (B:Nat) (W:ak):Nonempty (GH B W):=⟨⟨W,rfl⟩⟩
end
section
theorem dL.sub {P Q:ea} {w0 W:ak} {own:Nat->Prop} (h:dL P w0 W own) (hs:∀f,P W f->∃f',Q W f'/\∀k,f' k->f k):dL Q w0 W own:=by
 obtain⟨f,h1,h2,h3,h4⟩:=h;obtain⟨f',g1,g2⟩:=hs f h1;exact⟨f',g1,fun k hk=>h2 k (g2 k hk),h3,h4⟩
abbrev Three (p:PP) (m:Nat) (S T:RS) (M:MS):ea:=cS (cS (aX p.rb p.p0 p.p1 S) (fX m p.rb M)) (bG p.rq p.q0 p.q1 T)
abbrev zB (p:PP) (m n:Nat) (S T:RS) (M N:MS):ea:=cS (cS (aX p.rb p.p0 p.p1 S) (fX m p.rb M)) (cS (bG p.rq p.q0 p.q1 T) (ka n p.rq N))
abbrev fY (w0 W:ak) (p:PP) (m n:Nat) (S T:RS) (M N:MS) (own:Nat->Prop):Prop:=dL (zB p m n S T M N) w0 W own
theorem nS (p:PP) (m:Nat) (S:RS) (M:MS):IsRes (cS (aX p.rb p.p0 p.p1 S) (fX m p.rb M)):=(aX.isRes _ _ _ _).sep (fX.isRes _ _ _)
theorem qs (p:PP) (n:Nat) (T:RS) (N:MS):IsRes (cS (bG p.rq p.q0 p.q1 T) (ka n p.rq N)):=(bG.isRes _ _ _ _).sep (ka.isRes _ _ _)
theorem qt (p:PP) (m n:Nat) (S T:RS) (M N:MS):IsRes (zB p m n S T M N):=(nS p m S M).sep (qs p n T N)
section
variable {w0 W W':ak} {p:PP} {m n:Nat} {S T S':RS} {M N:MS} {own:Nat->Prop} {v:am} {bs:List Int} {k:Nat}
theorem fY.rigs (h:fY w0 W p m n S T M N own):cU w0 W p S T own:=
 h.sub fun f ⟨f1,f2,⟨a1,a2,h1,h2,_,e1⟩,⟨b1,b2,h3,h4,_,e2⟩,hd,e⟩=>⟨_,⟨a1,b1,h1,h3,fun k ha hb=>hd k (by rw[e1];exact aA ha) (by rw[e2];exact aA hb),rfl⟩,fun k hk=>by
  rw[e];rcases hk with h | h
  ·exact aA (by rw[e1];exact aA h)
  ·exact aC (by rw[e2];exact aA h)⟩
theorem fY.doc (h:fY w0 W p m n S T M N own):∃f,ka n p.rq N W f:=by
 obtain⟨f,⟨f1,f2,_,⟨b1,b2,_,h4,_,_⟩,_⟩,_⟩:=h;exact⟨b2,h4⟩
theorem fY.dev (h:fY w0 W p m n S T M N own):∃f,fX m p.rb M W f:=by
 obtain⟨f,⟨f1,f2,⟨a1,a2,_,h2,_,_⟩,_⟩,_⟩:=h;exact⟨a2,h2⟩
theorem fY.below (h:fY w0 W p m n S T M N own) (hb:w9b W W') (own':Nat->Prop) (ho:∀k,own' k->own k\/(W.heap.size<=k/\k<W'.heap.size)):fY w0 W' p m n S T M N own':=dL.below (qt _ _ _ _ _ _ _) h hb own' ho
theorem fY.beside (h:fY w0 W p m n S T M N own) (hb:w9b W W'):fY w0 W' p m n S T M N own:=dL.beside (qt _ _ _ _ _ _ _) h hb
theorem cU.fmtD (h:cU w0 W p S T own) (hr:S.Rdy) (hu:S.Up) {g:Geo} (hi:g.In) (hg:g.good) (h0:g.oF<=S.n0) (h1:g.oW<=S.n1) (hv:KeptV own W v bs) (hl:bs.length=g.bts.toNat):
  az aj 57 #[ao (some ⟨p.rb,0,none⟩),al g.v,v] W fun e w'=>∃m,e=ar (aQ #[ao (some ⟨m,0,none⟩),ab af 0])/\dL (Three p m (S.bat (co g bs)).1 T (MS.new g bs)) w0 w' own/\(∀k,own k->w'.heap[k]? =W.heap[k]?)/\W.heap.size<=w'.heap.size:=by
 obtain⟨fQ,q1,q2,hP⟩:=dL.split (bG.isRes _ _ _ _) h;refine(jD.format kB hP hr hu hi hg h0 h1 (hv.more fun k hk=>aA hk) hl).mono ?_;rintro e w' ⟨m,rfl,hM,hk,hs⟩;exact⟨m,rfl,dL.join ((bG.isRes _ _ _ _).out q1 fun k hq=>hk k (aC hq)) q2 hM,fun k ho=>hk k (aA ho),hs⟩
theorem dL.fmtQ (h:dL (Three p m S T M) w0 W own) (hu:T.Up) (hf:T.Few 100) (hd:0<=T.done/\T.done<=900000) {g:Geo} (hg:g.good) (h0:g.oF<=T.n0) (h1:g.oW<=T.n1) (hv:KeptV own W v bs) (hl:bs.length=g.bts.toNat):
  az aj 58 #[ao (some ⟨p.rq,0,none⟩),al g.v,v] W fun e w'=>∃n,e=ar (aQ #[ao (some ⟨n,0,none⟩),ab af 0])/\fY w0 w' p m n S (T.bat (co g bs)).1 M (MS.new g bs) own/\(∀k,own k->w'.heap[k]? =W.heap[k]?)/\W.heap.size<=w'.heap.size:=by
 obtain⟨f,⟨f1,f2,a1,a2,a3,rfl⟩,g2,g3,g4⟩:=h;refine(Gb a2 hu hf hd hg h0 h1 hv.sl hv.bytes hl (hv.away fun k hk=>(g2 k (aC hk)).2)).mono ?_;rintro e w' ⟨n,rfl,h⟩;have hs:W.heap.size<=w'.heap.size:=by obtain⟨f',_,t⟩:=h;exact t.size
 obtain⟨f',b1,b2⟩:=Turn.first (bG.isRes _ _ _ _) (nS p m S M) a2 a1 (fun k h1 h2=>a3 k h2 h1) h;have hsw:(fun k=>f2 k\/f1 k)=fun k=>f1 k\/f2 k:=by funext k;exact propext or_comm
 rw[hsw]at b2;obtain⟨k1,k2⟩:=dL.turned (qt _ _ _ _ _ _ _) g2 g3 g4 ⟨f',b1.swap,b2⟩;exact⟨n,rfl,k1,k2,hs⟩
theorem fY.cmtD (h:fY w0 W p m n S T M N own) (hr:S.Rdy) (hd:S.down=false) (hM:M.Ok S) (hv:KeptV own W v bs) (hl:bs.length=M.b.length) (hc:(S.cmt M bs).2=0):
  az aj 60 #[ao (some ⟨m,0,none⟩),v] W fun e w'=>e=ar (ab af 0)/\fY w0 w' p m n (S.cmt M bs).1 T (M.next bs) N own/\(∀k,own k->w'.heap[k]? =W.heap[k]?)/\W.heap.size<=w'.heap.size:=by
 obtain⟨fQ,q1,q2,hP⟩:=dL.split (qs _ _ _ _) h;refine(jk.commit kB hP hr hd hM (hv.more fun k hk=>aA hk) hl (T:=(S.cmt M bs).1) (E:=0) (Prod.ext rfl hc)).mono ?_;rintro e w' ⟨rfl,hM,_,hk,hs⟩;exact⟨rfl,dL.join ((qs _ _ _ _).out q1 fun k hq=>hk k (aC hq)) q2 (hM rfl),fun k ho=>hk k (aA ho),hs⟩
theorem fY.cmtQ (h:fY w0 W p m n S T M N own) (hu:T.Up) (hf:T.Few 100) (hd:0<=T.done/\T.done<=500000) (hn:T.n0<=4096) (hN:N.Ok T) (hv:KeptV own W v bs) (hl:bs.length=N.b.length):
  az aj 61 #[ao (some ⟨n,0,none⟩),v] W fun e w'=>e=ar (ab af 0)/\fY w0 w' p m n S (T.cmt N bs).1 M (N.next bs) own/\(∀k,own k->w'.heap[k]? =W.heap[k]?)/\W.heap.size<=w'.heap.size:=by
 obtain⟨f,⟨f1,f2,a1,a2,a3,rfl⟩,g2,g3,g4⟩:=h;have hne:bs≠ []:=by
  obtain⟨b1,b2,_,⟨Bb,cb,Bh,ch,hm,_⟩,_⟩:=a2;intro e;have:=hm.b0;rw[e]at hl;simp at hl;omega
 refine(Gx a2 hu hf hd hn hN hv.sl hv.bytes hl (hv.away (fun k hk=>(g2 k (aC hk)).2) hne)).mono ?_;rintro e w' ⟨rfl,h⟩;have hs:W.heap.size<=w'.heap.size:=by obtain⟨f',_,t⟩:=h;exact t.size
 obtain⟨f',b1,b2⟩:=Turn.first (qs _ _ _ _) (nS p m S M) a2 a1 (fun k h1 h2=>a3 k h2 h1) h;have hsw:(fun k=>f2 k\/f1 k)=fun k=>f1 k\/f2 k:=by funext k;exact propext or_comm
 rw[hsw]at b2;obtain⟨k1,k2⟩:=dL.turned (qt _ _ _ _ _ _ _) g2 g3 g4 ⟨f',b1.swap,b2⟩;exact⟨rfl,k1,k2,hs⟩
theorem cU.opnD (h:cU w0 W p S T own) (hr:S.Rdy) (hu:S.Up) (ho:S.opn=some M):
  az aj 65 #[ao (some ⟨p.rb,0,none⟩)] W fun e w'=>∃m,e=ar (aQ #[ao (some ⟨m,0,none⟩),ab af 0])/\dL (Three p m S T M) w0 w' own/\(∀k,own k->w'.heap[k]? =W.heap[k]?)/\W.heap.size<=w'.heap.size:=by
 obtain⟨fQ,q1,q2,hP⟩:=dL.split (bG.isRes _ _ _ _) h;refine(jD.openM kB hP hr hu ho).mono ?_;rintro e w' ⟨m,rfl,hM,hk,hs⟩;exact⟨m,rfl,dL.join ((bG.isRes _ _ _ _).out q1 fun k hq=>hk k (aC hq)) q2 hM,fun k ho=>hk k (aA ho),hs⟩
theorem dL.opnQ (h:dL (Three p m S T M) w0 W own) (hr:T.Rdy) (hd:T.down=false) (hn:2<=T.n0) (ho:T.opn=some N):
  az aj 66 #[ao (some ⟨p.rq,0,none⟩)] W fun e w'=>∃n,e=ar (aQ #[ao (some ⟨n,0,none⟩),ab af 0])/\fY w0 w' p m n S T M N own/\(∀k,own k->w'.heap[k]? =W.heap[k]?)/\W.heap.size<=w'.heap.size:=by
 obtain⟨f,⟨f1,f2,a1,a2,a3,rfl⟩,g2,g3,g4⟩:=h;refine(zg a2 hr hd hn).mono ?_;rintro e w' ⟨hc,hb⟩;rcases hc with⟨M',n,fm,e1,rfl,hm,hfm⟩ | ⟨e1,_⟩
 ·rw[ho]at e1;cases e1;refine⟨n,rfl,⟨fun k=>(f1 k)\/(f2 k\/fm k),⟨f1,_,(nS p m S M).below a1 hb,⟨f2,fm,(bG.isRes _ _ _ _).below a2 hb,hm,fun k h1 h2=> ?_,rfl⟩,fun k h1 h2=> ?_,rfl⟩,fun k hk=> ?_,fun k hk=>aU (g3 k hk) hb.size,g4.trans (hb.mono g4.size)⟩,fun k hk=>hb.block k (g3 k hk),hb.size⟩
  ·have:=(bG.isRes _ _ _ _).lt a2 k h1;have:=hfm k h2;omega
  ·rcases h2 with h2 | h2
   ·exact a3 k h1 h2
   ·have:=(nS p m S M).lt a1 k h1;have:=hfm k h2;omega
  ·rcases hk with hk | hk | hk
   ·exact g2 k (aA hk)
   ·exact g2 k (aC hk)
   ·exact⟨aZ g4.size (hfm k hk),fun h=>by have:=g3 k h;have:=hfm k hk;omega⟩
 ·rw[ho]at e1;cases e1
theorem cU.opnN (h:cU w0 W p S T own) (hr:S.Rdy) (hu:S.Up) (hn:2<=S.n0) (ho:S.opn=none):
  az aj 65 #[ao (some ⟨p.rb,0,none⟩)] W fun e w'=>e=ar (aQ #[ao none,ab af 11])/\ah W.heap.size W w':=by
 obtain⟨f,h1⟩:=h.rig;exact kB.open_no h1 hr hu hn ho
theorem cU.opnNQ (h:cU w0 W p S T own) (hr:T.Rdy) (hd:T.down=false) (hn:2<=T.n0) (ho:T.opn=none):
  az aj 66 #[ao (some ⟨p.rq,0,none⟩)] W fun e w'=>e=ar (aQ #[ao none,ab af 11])/\ah W.heap.size W w':=by
 obtain⟨f,h1⟩:=h.ref;refine(zg h1 hr hd hn).mono ?_;rintro e w' ⟨hc,hb⟩;rcases hc with⟨M',n,fm,e1,_⟩ | ⟨_,e1⟩
 ·rw[ho]at e1;cases e1
 ·exact⟨e1,hb⟩
theorem fY.bytes (h:fY w0 W p m n S T M N own) (hl:M.b.length<=100000) (hb:aP M.b):az aj 68 #[ao (some ⟨m,0,none⟩)] W fun e w'=>∃v,e=ar v/\Sl aq w' v M.b/\kS v W w'/\ah W.heap.size W w':=by
 obtain⟨f,h1⟩:=h.dev;exact kB.bytes h1 hl hb
theorem fY.roomD (h:fY w0 W p m n S T M N own) (hg:M.g.good) (hu:M.used<=M.g.C):az aj 69 #[ao (some ⟨m,0,none⟩)] W fun e w'=>e=ar (ab af M.room)/\ah W.heap.size W w':=by
 obtain⟨f,h1⟩:=h.dev;exact kB.room h1 hg hu
theorem fY.roomQ (h:fY w0 W p m n S T M N own) (hg:N.g.good) (hu:N.used<=N.g.C):az aj 70 #[ao (some ⟨n,0,none⟩)] W fun e w'=>e=ar (ab af N.room)/\ah W.heap.size W w':=by
 obtain⟨f,h1⟩:=h.doc;have hN:=Geo.nats hg;have h2:=hN.c;have h3:=hN.c2;exact yG h1 (by omega) (by omega)
theorem fY.geomD (h:fY w0 W p m n S T M N own):az aj 71 #[ao (some ⟨m,0,none⟩)] W fun e w'=>e=ar (al M.g.v)/\ah W.heap.size W w':=by
 obtain⟨f,h1⟩:=h.dev;exact kB.geom h1
theorem fY.cells (h:fY w0 W p m n S T M N own):∃Bb cb,W.cell? ⟨n,6,none⟩=some (ag (some ⟨Bb,0,none⟩) N.b.length cb)/\Sl aq W (ag (some ⟨Bb,0,none⟩) N.b.length cb) N.b/\(aE 23 ⟨n,1,none⟩).run aj W=.ok (al N.g.v) W/\n<W.heap.size/\Bb<W.heap.size:=by
 obtain⟨f,Bb,cb,Bh,ch,hm,_⟩:=h.doc;exact⟨Bb,cb,hm.row.cell 6 _ rfl,hm.sl,nM hm.row,hm.lt.1,hm.lt.2.1⟩
end
end
section
open Go.ChangeShapes Go.WideShapes Go.ChangeAt Go.RowKit
structure St8 where
 kind:Int
 i:Int
 tv:am
 ps:List (Int×Int)
 p0:Option aN
 cap0:Nat
 b0:List Int
def St8.pick (s:St8):am:=ag s.p0 s.b0.length s.cap0
structure StAt8 (W:ak) (b o:Nat) (s:St8):Prop where
 c0:W.cell? ⟨b,o,none⟩=some (ab af s.kind)
 c1:W.cell? ⟨b,o+1,none⟩=some (ab af s.i)
 c2:W.cell? ⟨b,o+2,none⟩=some s.tv
 c3:W.cell? ⟨b,o+3,none⟩=some s.pick
structure St8.Ok (W:ak) (s:St8):Prop where
 turn:lm W s.tv s.ps
 pick:Sl aq W s.pick s.b0
 bytes:aP s.b0
 a0: -9223372036854775808<=s.i
 a1:s.i<=9223372036854775807
def qu (W:ak) (v:am) (l:List St8):Prop:=∃a cap,v=ag a l.length cap/\l.length<=cap/\cap<=aS/\(∀s ∈ l,s.Ok W)/\(l= []\/∃b off,a=some ⟨b,off,none⟩/\b<W.heap.size/\∀j s,l[j]? =some s->StAt8 W b (off+j*4) s)
theorem StAt8.below {W W':ak} {b o:Nat} {s:St8} (h:StAt8 W b o s) (hb:b<W.heap.size) (hB:w9b W W'):StAt8 W' b o s:=
 ⟨(hB.cell (p:=⟨b,o,none⟩) hb).trans h.c0,(hB.cell (p:=⟨b,o+1,none⟩) hb).trans h.c1,(hB.cell (p:=⟨b,o+2,none⟩) hb).trans h.c2,(hB.cell (p:=⟨b,o+3,none⟩) hb).trans h.c3⟩
theorem St8.Ok.below {W W':ak} {s:St8} (h:s.Ok W) (hB:w9b W W'):s.Ok W':=⟨h.turn.below hB,h.pick.below hB,h.bytes,h.a0,h.a1⟩
set_option maxRecDepth 100000 in
theorem GI:∃fs,aj.underlying 108 =some (.struct fs)/\(fs[0]?).map (fun f=>(f.offset,f.type))=some (0, 3)/\(fs[1]?).map (fun f=>(f.offset,f.type))=some (1, 3)/\(fs[2]?).map (fun f=>(f.offset,f.type))=some (2, 106)/\(fs[3]?).map (fun f=>(f.offset,f.type))=some (3, 76):=
 ⟨_,Tryz.underlying108,rfl,rfl,rfl,rfl⟩
def St8.cells (s:St8):List am:= [ab af s.kind,ab af s.i,s.tv,s.pick]
set_option maxRecDepth 100000 in
theorem GJ {W:ak} {cs:List am} (h:gk W 108 cs):∃s:St8,s.Ok W/\cs=s.cells:=by
 obtain⟨fs,hu,f0,f1,f2,f3⟩:=GI;obtain⟨hl,hf⟩:=h.struct hu;rw[show aj.cellsOf 108 =4 from by kernel_rfl]at hl;have field:∀(j o:Nat) t,(fs[j]?).map (fun f=>(f.offset,f.type))=some (o,t)->gk W t ((cs.drop o).take (aj.cellsOf t)):=by
  intro j o t hj;obtain⟨f,hf1,hf2⟩:=Option.map_eq_some_iff.1 hj;cases hf2;exact hf j f hf1
 obtain⟨x0,x1,x2,x3,rfl⟩:∃x0 x1 x2 x3,cs= [x0,x1,x2,x3]:=by
  match cs,hl with
  | [x0,x1,x2,x3],_=>exact⟨x0,x1,x2,x3,rfl⟩
 have g0:=field 0 0 _ f0;have g1:=field 1 1 _ f1;have g2:=field 2 2 _ f2;have g3:=field 3 3 _ f3;rw[show aj.cellsOf 106 =1 from by kernel_rfl]at g2;rw[show aj.cellsOf 3 =1 from by kernel_rfl]at g0 g1;rw[show aj.cellsOf 76 =1 from by kernel_rfl]at g3;obtain⟨n0,e0,w0⟩:=g0.int Tryz.underlying3;obtain⟨n1,e1,w1⟩:=g1.int Tryz.underlying3;obtain⟨pv,pl,e2,hp⟩:=g2.prs;obtain⟨a,len,cap,xs,e3,hx,hm,hs,hw⟩:=g3.bytes Tryz.underlying76 Tryz.underlying5 (by kernel_rfl);simp at e0 e1 e2 e3;subst e0 e1 e2 e3 hx;have b1:=bounds_i64 w1;exact⟨⟨n0,n1,_,pl,a,cap,xs⟩,⟨hp,hs,hw,b1.1,b1.2⟩,rfl⟩
set_option maxRecDepth 100000 in
theorem kD.sts8 {W:ak} {v:am} (h:kD W 95 v):∃l,qu W v l:=by
 obtain⟨a,len,cap,rfl,r⟩:=h.slice Tryz.underlying95;rcases r with⟨rfl,rfl,rfl⟩ | ⟨x,rfl,h1,h2,h3⟩
 ·exact⟨[],none,0,rfl,aJ _,bq _,(fun s hs=>by cases hs),aA rfl⟩
 ·rw[show aj.cellsOf 108 =4 from by kernel_rfl]at h3;have h4:∀i,i<cap->∃s:St8,s.Ok W/\∀j v,s.cells[j]? =some v->j<4->W.cell? ((x.add (i*4)).add j)=some v:=by
   intro i hi;obtain⟨es,g1,g2⟩:=h3 i hi;obtain⟨s,hs,rfl⟩:=GJ g2;have hm:=(tJ g1).2;exact⟨s,hs,fun j v hj hj5=>by
    obtain⟨u,hu1,hu2⟩:=hm j hj5;rw[hj]at hu1;cases hu1;exact hu2⟩
  have h5:∀i,∃s:St8,i<cap->s.Ok W/\∀j v,s.cells[j]? =some v->j<4->W.cell? ((x.add (i*4)).add j)=some v:=fun i=>by
   by_cases hi:i<cap
   ·obtain⟨s,hs⟩:=h4 i hi;exact⟨s,fun _=>hs⟩
   ·exact⟨⟨0,0,.bool false, [],none,0, []⟩,fun h=>absurd h hi⟩
  obtain⟨f,hf⟩:=Classical.axiomOfChoice h5;refine⟨(dm len).map f,some x,cap,by simp,by simp;omega,h2,fun s hs=> ?_, ?_⟩
  ·obtain⟨i,hi,rfl⟩:=dc.1 hs;exact(hf i (by have:=fo.1 hi;omega)).1
  ·by_cases h0:len=0
   ·subst h0;exact aA rfl
   ·have hc0:=(hf 0 (by omega)).2 0 _ rfl (by omega);rw[Nat.zero_mul,show(x.add 0).add 0=x by simp[Addr.add]]at hc0;obtain⟨b,off,rfl,hb⟩:=qy hc0;refine aC ⟨b,off,rfl,hb,fun j s hj=> ?_⟩;have hjl:j<len:=by have:=(dp.1 hj).1;simpa using this
    have hs:s=f j:=by rw[du]at hj;simp[hjl]at hj;exact hj.symm
    subst hs;have q:=(hf j (by omega)).2;simp only[qz]at q;exact⟨q 0 _ rfl (by omega),q 1 _ rfl (by omega),q 2 _ rfl (by omega),q 3 _ rfl (by omega)⟩
theorem qu.open {w:ak} {a:Option aN} {L cap:Nat} {l:List St8} (h:qu w (ag a L cap) l) (hL:l.length=L) {k:Nat} {s:St8} (hs:l[k]? =some s):
  ∃b off,a=some ⟨b,off,none⟩/\s.Ok w/\b<w.heap.size/\StAt8 w b (off+k*4) s:=by
 obtain⟨a',cap',e,_,_,h3,h4⟩:=h;simp only[Value.slice.injEq]at e;obtain⟨rfl,_,rfl⟩:=e;rcases h4 with e | ⟨b,off,rfl,h5,h6⟩
 ·rw[e]at hs;simp at hs
 ·exact⟨b,off,rfl,h3 s (dI hs),h5,h6 k s hs⟩
def zC (w0 W:ak) (own:Nat->Prop) (n0 n1:Int) (v:am):Prop:=(v=ao none/\(n0<1\/n1<1)/\ah w0.heap.size w0 W)\/(∃rb p0 p1,1<=n0/\1<=n1/\v=ao (some ⟨rb,0,none⟩)/\jD w0 W rb p0 p1 (gq n0.toNat n1.toNat) own)
theorem GK (n0 n1:Int) (h0:n0<=200) (h1:n1<=200) (w0 W:ak) (hb:w9b w0 W) (own:Nat->Prop) (ho:∀k,own k->k<W.heap.size):az aj 12 #[ab af n0,ab af n1] W fun e w'=>∃v E,e=ar (aQ #[v,ab af E])/\zC w0 w' own n0 n1 v/\ah W.heap.size W w':=by
 by_cases h:n0<1\/n1<1
 ·exact(AZ n0 n1 W (by rcases h with h | h;exact aA (aA h);exact aC (aA h))).mono fun e w' ⟨h1,h2⟩=>⟨_,_,h1,aA ⟨rfl,h,hb.trans (h2.mono hb.size)⟩,h2⟩
 ·obtain⟨m,rfl⟩:∃m:Nat,n0=(m:Int):=⟨n0.toNat,by omega⟩;obtain⟨k,rfl⟩:∃k:Nat,n1=(k:Int):=⟨n1.toNat,by omega⟩;exact(jD.new m k w0 W hb (by omega) (by omega) (by omega) (by omega) own ho).mono fun e w' ⟨rb,p0,p1,h1,h2,h3⟩=>⟨_,_,h1,aC ⟨rb,p0,p1,by omega,by omega,rfl,h2⟩,h3⟩
theorem GL (n0 n1:Int) (h0:n0<=200) (h1:n1<=200) (w0 W:ak) (own:Nat->Prop) (ho:∀k,own k->k<W.heap.size) {v1:am} (h:zC w0 W own n0 n1 v1):az aj 56 #[ab af n0,ab af n1] W fun e w'=>∃v E,e=ar (aQ #[v,ab af E])/\((v1=ao none/\v=ao none/\ah w0.heap.size w0 w')\/∃p:PP,v1=ao (some ⟨p.rb,0,none⟩)/\v=ao (some ⟨p.rq,0,none⟩)/\cU w0 w' p (gq n0.toNat n1.toNat) (gq n0.toNat n1.toNat) own)/\ah W.heap.size W w':=by
 rcases h with⟨rfl,hlt,hb⟩ | ⟨rb,p0,p1,hg0,hg1,rfl,hr⟩
 ·exact(GG n0 n1 W (by rcases hlt with h | h;exact aA (aA h);exact aC (aA h))).mono fun e w' ⟨h1,h2⟩=>⟨_,_,h1,aA ⟨rfl,rfl,hb.trans (h2.mono hb.size)⟩,h2⟩
 ·obtain⟨m,rfl⟩:∃m:Nat,n0=(m:Int):=⟨n0.toNat,by omega⟩;obtain⟨k,rfl⟩:∃k:Nat,n1=(k:Int):=⟨n1.toNat,by omega⟩;have hm:(m:Int).toNat=m:=by omega
  have hk:(k:Int).toNat=k:=by omega
  rw[hm,hk]at hr ⊢;refine(GF m k W (by omega) (by omega) (by omega) (by omega)).mono ?_;rintro e w' ⟨rq,q0,q1,h1,⟨f2,g1,g2⟩,h3⟩;obtain⟨f,a1,a2,a3,a4⟩:=hr;refine⟨_,_,h1,aC ⟨⟨rb,p0,p1,rq,q0,q1⟩,rfl,rfl,⟨fun j=>f j\/f2 j,⟨f,f2,(aX.isRes _ _ _ _).below a1 h3,g1,fun j h1 h2=> ?_,rfl⟩,fun j hj=> ?_,fun j hj=>aU (a3 j hj) h3.size,a4.trans (h3.mono a4.size)⟩⟩,h3⟩
  ·have:=(aX.isRes _ _ _ _).lt a1 j h1;have:=g2 j h2;omega
  ·rcases hj with h | h
   ·exact a2 j h
   ·exact⟨aZ a4.size (g2 j h),fun ho=>by have:=a3 j ho;have:=g2 j h;omega⟩
section
def GM (l:List St8):Prop:=l.length<=60/\∀s ∈ l,s.ps.length<=50/\s.b0.length<=300
theorem GN (n0 n1:Int) (w:ak):az aj 54 #[al #[ab af n0,ab af n1]] w fun e w'=>e=ar (.bool (decide (n0<=200/\n1<=200)))/\ah w.heap.size w w':=by
 obtain⟨W,hW⟩:=w9nm (w.alloc (ap #[ab af n0,ab af n1] 94));have hb:Hid (ah w.heap.size w W):=by show ah _ _ _;rw[←hW];exact aR w _
 have r0:aB W w.heap.size 94 [ab af n0,ab af n1]:=by rw[←hW];exact aB.new w _ _
 have c0:W.cell? ⟨w.heap.size,0,none⟩=some (ab af n0):=r0.cell 0 _ rfl;have c1:W.cell? ⟨w.heap.size,1,none⟩=some (ab af n1):=r0.cell 1 _ rfl;clear r0;go_enter func54,ntmps54;by_cases h0:n0<=200
 ·have g0:decide (n0<=200)=true:=decide_eq_true h0;by_cases h1:n1<=200
  ·have g1:decide (n1<=200)=true:=decide_eq_true h1;rw[decide_eq_true (show n0<=200/\n1<=200 from⟨h0,h1⟩)];go_wp2_with fail;go_ret;exact⟨rfl,hb.out⟩
  ·have g1:decide (n1<=200)=false:=decide_eq_false h1;rw[decide_eq_false (show¬(n0<=200/\n1<=200)from fun h=>h1 h.2)];go_wp2_with fail;go_ret;exact⟨rfl,hb.out⟩
 ·have g0:decide (n0<=200)=false:=decide_eq_false h0;rw[decide_eq_false (show¬(n0<=200/\n1<=200)from fun h=>h0 h.1)];go_wp2_with fail;go_ret;exact⟨rfl,hb.out⟩
theorem GO (v:am) (l:List St8) (w:ak) (h:qu w v l):az aj 52 #[v] w fun e w'=>∃b,e=ar (.bool b)/\(b=true->GM l)/\ah w.heap.size w w':=by
 obtain⟨a,cap,rfl,hcap,hcm, -⟩:=id h;obtain⟨n,hn⟩:=w9nm l.length;have HN:=ae hn;rw[hn]at h hcap ⊢;have HL:=ae h;have HCM:Hid (n<=aS):=aZ hcap hcm;clear h hn hcap hcm;go_enter func52,ntmps52;go_wp2_with fail;go_loopw [3] (fun i wr=>∃k:Nat,k<=n/\i=ab af (k:Int)/\wr=w/\Hid (∀j s,j<k->l[j]? =some s->s.ps.length<=50/\s.b0.length<=300)) (fun i _=>n - (aW i).toNat)
 case atStart=>exact⟨0,bq _,rfl,rfl,fun j s hj=>absurd hj (by omega)⟩
 case round=>
  obtain⟨k,hk,rfl,rfl,HA⟩:=hrel;by_cases hlt:k<n
  ·have g3:decide ((k:Int)< (n:Int))=true:=by simpa using hlt
   obtain⟨s,hs⟩:∃s,l[k]? =some s:=⟨_,bJ (by rw[HN.out];exact hlt)⟩;obtain⟨b,off,rfl,hok,hbl,hat⟩:=HL.out.open HN.out hs;obtain⟨pa,pcap,htv, -⟩:=hok.turn;have c2:=hat.c2;have c3:=hat.c3;rw[htv]at c2;unfold St8.pick at c3;obtain⟨np,hnp⟩:=w9nm s.ps.length;obtain⟨nb,hnb⟩:=w9nm s.b0.length;rw[hnp]at c2;rw[hnb]at c3;have HNP:=ae hnp;have HNB:=ae hnb;have HS:=ae hs;have hkm:(k:Int)<9223372036854775807:=by have:=HCM.out;unfold aS at this;omega
   clear hok hbl hat htv hnp hnb hs;by_cases h1:50<np
   ·have g4:decide ((50:Int)< (np:Int))=true:=decide_eq_true (by omega);go_wp2_with fail;go_ret;exact⟨_,rfl,fun h=>(by cases h),aF _ _⟩
   ·have g4:decide ((50:Int)< (np:Int))=false:=decide_eq_false (by omega);by_cases h2:300<nb
    ·have g5:decide ((300:Int)< (nb:Int))=true:=decide_eq_true (by omega);go_wp2_with fail;go_ret;exact⟨_,rfl,fun h=>(by cases h),aF _ _⟩
    ·have g5:decide ((300:Int)< (nb:Int))=false:=decide_eq_false (by omega);have HA':Hid (∀j s,j<k+1->l[j]? =some s->s.ps.length<=50/\s.b0.length<=300):=fun j s' hj hs'=>by
      rcases Nat.lt_succ_iff_lt_or_eq.1 hj with h | rfl
      ·exact HA.out j s' h hs'
      ·rw[HS.out]at hs';cases hs';rw[HNP.out,HNB.out];omega
     have hw:wrap64 ((k:Int)+1)=(k:Int)+1:=gj _ (by omega);go_wp2_with fail;go_roundw
     case rel=>exact⟨k+1,hlt,(by first | (rw[hw];simp) | simp | go_num),(by first | rfl | trivial),HA'⟩
     case measure=>(first | (rw[hw];simp[aW];omega) | (simp[aW];omega))
  ·have g3:decide ((k:Int)< (n:Int))=false:=by simp;omega
   obtain rfl:k=n:=by omega
   go_wp2_with fail;go_ret;refine⟨_,rfl,fun h=>⟨?_,fun s hs=> ?_⟩,aF _ _⟩
   ·have h2:(k:Int)<=60:=by simpa using h
    rw[HN.out];omega
   ·obtain⟨j,hj,rfl⟩:=List.getElem_of_mem hs;exact HA.out j _ (by rw[←HN.out];exact hj) (bJ hj)
end
set_option maxRecDepth 100000 in
theorem zD:∃fs,aj.underlying 23 =some (.struct fs)/\(fs[0]?).map (fun f=>(f.offset,f.type))=some (0, 3)/\(fs[1]?).map (fun f=>(f.offset,f.type))=some (1, 3)/\(fs[2]?).map (fun f=>(f.offset,f.type))=some (2, 3)/\(fs[3]?).map (fun f=>(f.offset,f.type))=some (3, 3)/\(fs[4]?).map (fun f=>(f.offset,f.type))=some (4, 3):=
 ⟨_,Tryz.underlying23,rfl,rfl,rfl,rfl,rfl⟩
set_option maxRecDepth 100000 in
theorem GP {W:ak} {cs:List am} (h:gk W 23 cs):∃g:Geo,g.In/\cs=g.cs:=by
 obtain⟨fs,hu,f0,f1,f2,f3,f4⟩:=zD;obtain⟨hl,hf⟩:=h.struct hu;rw[show aj.cellsOf 23 =5 from by kernel_rfl]at hl;have field:∀(j o:Nat) t,(fs[j]?).map (fun f=>(f.offset,f.type))=some (o,t)->gk W t ((cs.drop o).take (aj.cellsOf t)):=by
  intro j o t hj;obtain⟨f,hf1,hf2⟩:=Option.map_eq_some_iff.1 hj;cases hf2;exact hf j f hf1
 obtain⟨x0,x1,x2,x3,x4,rfl⟩:∃x0 x1 x2 x3 x4,cs= [x0,x1,x2,x3,x4]:=by
  match cs,hl with
  | [x0,x1,x2,x3,x4],_=>exact⟨x0,x1,x2,x3,x4,rfl⟩
 have g0:=field 0 0 _ f0;have g1:=field 1 1 _ f1;have g2:=field 2 2 _ f2;have g3:=field 3 3 _ f3;have g4:=field 4 4 _ f4;rw[show aj.cellsOf 3 =1 from by kernel_rfl]at g0 g1 g2 g3 g4;obtain⟨n0,e0,w0⟩:=g0.int Tryz.underlying3;obtain⟨n1,e1,w1⟩:=g1.int Tryz.underlying3;obtain⟨n2,e2,w2⟩:=g2.int Tryz.underlying3;obtain⟨n3,e3,w3⟩:=g3.int Tryz.underlying3;obtain⟨n4,e4,w4⟩:=g4.int Tryz.underlying3;simp at e0 e1 e2 e3 e4;subst e0 e1 e2 e3 e4;refine⟨⟨n0,n1,n2,n3,n4⟩, ?_,rfl⟩;intro n hn;simp only[ec,List.mem_nil_iff,or_false]at hn;rcases hn with rfl | rfl | rfl | rfl | rfl
 ·exact bounds_i64 w0
 ·exact bounds_i64 w1
 ·exact bounds_i64 w2
 ·exact bounds_i64 w3
 ·exact bounds_i64 w4
theorem kD.geo {W:ak} {v:am} (h:kD W 23 v):∃g:Geo,g.In/\v=al g.v:=by
 obtain⟨fs,hu,_⟩:=zD;obtain⟨cs,rfl,_,hc⟩:=h.agg (aA ⟨fs,hu⟩);obtain⟨g,hg,rfl⟩:=GP hc;exact⟨g,hg,rfl⟩
end
section
open Go.ChangeShapes Go.WideShapes Go.ChangeAt Go.RowKit
set_option maxRecDepth 100000 in
theorem GQ:∃fs,aj.underlying 94 =some (.struct fs)/\(fs[0]?).map (fun f=>(f.offset,f.type))=some (0, 3)/\(fs[1]?).map (fun f=>(f.offset,f.type))=some (1, 3):=
 ⟨_,Tryz.underlying94,rfl,rfl⟩
set_option maxRecDepth 100000 in
theorem kD.rigs8 {W:ak} {v:am} (h:kD W 94 v):∃n0 n1:Int,v=al #[ab af n0,ab af n1]:=by
 obtain⟨fs,hu,f0,f1⟩:=GQ;obtain⟨cs,rfl,_,hc⟩:=h.agg (aA ⟨fs,hu⟩);obtain⟨hl,hf⟩:=hc.struct hu;rw[show aj.cellsOf 94 =2 from by kernel_rfl]at hl;have field:∀(j o:Nat) t,(fs[j]?).map (fun f=>(f.offset,f.type))=some (o,t)->gk W t ((cs.drop o).take (aj.cellsOf t)):=by
  intro j o t hj;obtain⟨f,hf1,hf2⟩:=Option.map_eq_some_iff.1 hj;cases hf2;exact hf j f hf1
 obtain⟨x0,x1,rfl⟩:∃x0 x1,cs= [x0,x1]:=by
  match cs,hl with
  | [x0,x1],_=>exact⟨x0,x1,rfl⟩
 have g0:=field 0 0 _ f0;have g1:=field 1 1 _ f1;rw[show aj.cellsOf 3 =1 from by kernel_rfl]at g0 g1;obtain⟨n0,e0,w0⟩:=g0.int Tryz.underlying3;obtain⟨n1,e1,w1⟩:=g1.int Tryz.underlying3;simp at e0 e1;subst e0 e1;exact⟨n0,n1,rfl⟩
def iK (s:St8):List am:= [ab af s.kind,ab af s.i,s.tv,s.pick]
theorem zE:(aj.info? 108).map (·.size)=some 4:=by kernel_rfl
theorem GR (w:ak):(zeroValue 108).run aj w=.ok (al #[ab af 0,ab af 0,ag none 0 0,ag none 0 0]) w:=by kernel_rfl
set_option maxRecDepth 100000 in
theorem GS {x:ak} {b o:Nat} {s:St8} (h:StAt8 x b o s):(aE 108 ⟨b,o,none⟩).run aj x=.ok (al (iK s).toArray) x:=
 iL x b o _ (iK s) _ (fun j v hj=>by
  match j,hj with
  | 0,hj=>cases hj;exact h.c0
  | 1,hj=>cases hj;exact h.c1
  | 2,hj=>cases hj;exact h.c2
  | 3,hj=>cases hj;exact h.c3
  | j+4,hj=>simp[iK]at hj) Tryz.underlying108 rfl (by rw[show(iK s).length=4 from rfl];exact zE)
theorem GU (x:ak) (s:St8) (h:s.tv.oneCell'=true):∃y,(aL 108 ⟨x.heap.size,0,none⟩ (al (iK s).toArray)).run aj (x.alloc (ap #[ab af 0,ab af 0,ag none 0 0,ag none 0 0] 108))=.ok () y/\aB y x.heap.size 108 (iK s)/\ah x.heap.size x y:=
 ⟨_,iU x _ _ (iK s).toArray (by simpa [iK]using zE) rfl (gD (by
  intro v hv;simp only[iK,ec,List.not_mem_nil,or_false]at hv;rcases hv with rfl | rfl | rfl | rfl
  ·rfl
  ·rfl
  ·exact h
  ·rfl)),aB.new x _ _,aR x _⟩
theorem GV (t:aV) (h:t≠ 23 /\t≠ 51 /\t≠ 29 /\t≠ 108) (a:aN):aE t a=(do if←isAgg t then pure (al (←loadCells a (←sizeOf t)))else load a):=rfl
theorem GW (t:aV) (h:t≠ 23 /\t≠ 51 /\t≠ 29 /\t≠ 108) (a:aN) (v:am):aL t a v=(do
  if v.cells.size≠(←sizeOf t)then stuck "storeVar: the value has not the size of the variable"
  storeCells a v.cells.toList):=rfl
def GX (w0 wr:ak) (p:PP) (N0 N1 k:Nat) (own:Nat->Prop) (m n:am):Prop:=
 ∃S:RS,Run S k/\S.n0=N0/\S.n1=N1/\((m=ao none/\n=ao none/\cU w0 wr p S S own)\/∃(m' n':Nat) (M:MS),m=ao (some ⟨m',0,none⟩)/\n=ao (some ⟨n',0,none⟩)/\MRun S M k/\fY w0 wr p m' n' S S M M own)
section
variable {S:RS} {M:MS} {k:Nat} {b:List Int}
theorem MRun.more (h:MRun S M k) {j:Nat} (hj:k<=j):MRun S M j:=⟨h.ok,by have:=h.gen;omega,by have:=h.seq;omega⟩
theorem zF (h:M.Ok S) (hR:Run S k) (hM:MRun S M k) (hk:k<=1000) (hl:b.length=M.b.length) (hb:aP b):(S.cmt M b).1.n0=S.n0/\(S.cmt M b).1.n1=S.n1:=by
 have hw:=hM.wok hk hl hb;obtain⟨v1,v2,v3⟩:=RS.bat_D1 (M.bats b) S hw.lt;exact⟨v2,v3⟩
theorem zG {g:Geo} (hg:g.good) (h0:g.oF<=S.n0) (hb:aP b):(S.bat (co g b)).1.n0=S.n0/\(S.bat (co g b)).1.n1=S.n1:=by
 obtain⟨v1,v2,v3⟩:=RS.bat_D1 (co g b) S fun l hl x hx=>(mu hg h0 hb l hl).lt x hx;exact⟨v2,v3⟩
end
def qv (g:Geo) (N:RS):Prop:=g.good/\g.oF<=N.n0/\g.oW<=N.n1
def lX (w0 W:ak) (own:Nat->Prop) (N:RS) (r q:am):Prop:=
 (r=ao none/\q=ao none/\ah w0.heap.size w0 W/\∀k,own k->k<W.heap.size)\/∃p:PP,r=ao (some ⟨p.rb,0,none⟩)/\q=ao (some ⟨p.rq,0,none⟩)/\cU w0 W p N N own
def zH (w0 W:ak) (own:Nat->Prop) (g:Geo) (z:List Int) (N:RS) (r q mv:am) (E:Int):Prop:=
 (r=ao none/\q=ao none/\mv=ao none/\E=1/\ah w0.heap.size w0 W/\∀k,own k->k<W.heap.size)\/
 (∃p:PP,r=ao (some ⟨p.rb,0,none⟩)/\q=ao (some ⟨p.rq,0,none⟩)/\mv=ao none/\E=1/\¬qv g N/\cU w0 W p N N own)\/
 (∃(p:PP) (m:Nat),r=ao (some ⟨p.rb,0,none⟩)/\q=ao (some ⟨p.rq,0,none⟩)/\mv=ao (some ⟨m,0,none⟩)/\E=0/\qv g N/\dL (Three p m (N.bat (co g z)).1 N (MS.new g z)) w0 W own)
def GY (w0 W:ak) (own:Nat->Prop) (g:Geo) (z:List Int) (N:RS) (r q mv nv:am) (E:Int):Prop:=
 (r=ao none/\q=ao none/\mv=ao none/\nv=ao none/\E=1/\ah w0.heap.size w0 W/\∀k,own k->k<W.heap.size)\/
 (∃p:PP,r=ao (some ⟨p.rb,0,none⟩)/\q=ao (some ⟨p.rq,0,none⟩)/\mv=ao none/\nv=ao none/\E=1/\cU w0 W p N N own)\/
 (∃(p:PP) (m n:Nat),r=ao (some ⟨p.rb,0,none⟩)/\q=ao (some ⟨p.rq,0,none⟩)/\mv=ao (some ⟨m,0,none⟩)/\nv=ao (some ⟨n,0,none⟩)/\E=0/\qv g N/\fY w0 W p m n (N.bat (co g z)).1 (N.bat (co g z)).1 (MS.new g z) (MS.new g z) own)
section
variable {w0 W W':ak} {own own':Nat->Prop} {g:Geo} {z:List Int} {N:RS} {r q mv v:am} {E:Int}
theorem lX.below (h:lX w0 W own N r q) (hb:w9b W W') (ho:∀k,own' k->own k\/(W.heap.size<=k/\k<W'.heap.size)):lX w0 W' own' N r q:=by
 rcases h with⟨h1,h2,h3,h4⟩ | ⟨p,h1,h2,h3⟩
 ·refine aA ⟨h1,h2,h3.trans (hb.mono h3.size),fun k hk=> ?_⟩;rcases ho k hk with h | ⟨_,h⟩
  ·exact aU (h4 k h) hb.size
  ·exact h
 ·exact aC ⟨p,h1,h2,cU.below h3 hb own' ho⟩
theorem GZ (h:lX w0 W own N r q) (hN:Run N 1) (hi:g.In) (hv:KeptV own W v z) (hz:g.good->z.length=g.bts.toNat):
  az aj 57 #[r,al g.v,v] W fun e w'=>(∃mv E,e=ar (aQ #[mv,ab af E])/\zH w0 w' own g z N r q mv E)/\(∀k,own k->w'.heap[k]? =W.heap[k]?)/\W.heap.size<=w'.heap.size:=by
 rcases h with⟨rfl,rfl,h3,h4⟩ | ⟨p,rfl,rfl,h⟩
 ·exact(F7 hi hv.sl).mono fun e w' ⟨h1,h2⟩=>⟨⟨_,_,h1,aA ⟨rfl,rfl,rfl,rfl,h3.trans (h2.mono h3.size),fun k hk=>aU (h4 k hk) h2.size⟩⟩,fun k hk=>h2.block k (h4 k hk),h2.size⟩
 ·by_cases hf:qv g N
  ·exact(h.fmtD (hN.rdy (by omega)) hN.up hi hf.1 hf.2.1 hf.2.2 hv (hz hf.1)).mono fun e w' ⟨m,h1,h2,h3,h4⟩=>⟨⟨_,_,h1,aC (aC ⟨p,m,rfl,rfl,rfl,rfl,hf,h2⟩)⟩,h3,h4⟩
  ·obtain⟨f,hr⟩:=h.rig;exact(kB.format_no hr (hN.rdy (by omega)) hi hv.sl (fun hh=>hf ⟨hh.1,hh.2.1,hh.2.2.1⟩)).mono fun e w' ⟨h1,h2⟩=>⟨⟨_,_,h1,aC (aA ⟨p,rfl,rfl,rfl,rfl,hf,h.beside h2⟩)⟩,fun k hk=>h2.block k (dL.lt h hk),h2.size⟩
theorem G0 (h:zH w0 W own g z N r q mv E) (hN:Run N 1) (hv:KeptV own W v z) (hz:g.good->z.length=g.bts.toNat):
  az aj 58 #[q,al g.v,v] W fun e w'=>(∃nv,e=ar (aQ #[nv,ab af E])/\GY w0 w' own g z N r q mv nv E)/\(∀k,own k->w'.heap[k]? =W.heap[k]?)/\W.heap.size<=w'.heap.size:=by
 rcases h with⟨rfl,rfl,rfl,rfl,h3,h4⟩ | ⟨p,rfl,rfl,rfl,rfl,hf,h⟩ | ⟨p,m,rfl,rfl,rfl,rfl,hf,h⟩
 ·exact(F8 hv.sl).mono fun e w' ⟨h1,h2⟩=>⟨⟨_,h1,aA ⟨rfl,rfl,rfl,rfl,rfl,h3.trans (h2.mono h3.size),fun k hk=>aU (h4 k hk) h2.size⟩⟩,fun k hk=>h2.block k (h4 k hk),h2.size⟩
 ·obtain⟨f,hr⟩:=h.ref;exact(F9 hr hv.sl (fun hh=>hf ⟨hh.1,hh.2.1,hh.2.2.1⟩)).mono fun e w' ⟨h1,h2⟩=>⟨⟨_,h1,aC (aA ⟨p,rfl,rfl,rfl,rfl,rfl,h.beside h2⟩)⟩,fun k hk=>h2.block k (dL.lt h hk),h2.size⟩
 ·exact(dL.fmtQ h hN.up (hN.few.mono (by omega)) ⟨hN.d0,by have:=hN.d1;omega⟩ hf.1 hf.2.1 hf.2.2 hv (hz hf.1)).mono fun e w' ⟨n,h1,h2,h3,h4⟩=>⟨⟨_,h1,aC (aC ⟨p,m,n,rfl,rfl,rfl,rfl,rfl,hf,h2⟩)⟩,h3,h4⟩
end
def k8 (w wr:ak) (p:PP) (N0 N1 B:Nat) (g:Geo) (bv:am) (z:List Int) (k:Nat) (m n:am):Prop:=
 ∃own:Nat->Prop,own B/\aB wr B 23 g.cs/\KeptV own wr bv z/\GX w wr p N0 N1 k own m n
theorem StAt8.to {w wr:ak} {b o:Nat} {s:St8} (h:StAt8 w b o s) (hb:b<w.heap.size) (hB:w9b w wr):StAt8 wr b o s:=h.below hb hB
theorem RS.write_n (S:RS) (dev i:Int) (b:List am):(S.write dev i b).n0=S.n0/\(S.write dev i b).n1=S.n1:=by
 unfold RS.write;split
 ·split
  ·exact⟨(RS.put_rest S.after dev i.toNat b).2.2.2.1.trans S.after_same.1,(RS.put_rest S.after dev i.toNat b).2.2.2.2.trans S.after_same.2.1⟩
  ·exact⟨S.after_same.1,S.after_same.2.1⟩
 ·exact⟨rfl,rfl⟩
end
section
attribute [-simp] isAgg23 zeroValue23
attribute [-go_sem] aE aL cZ
theorem k8.beside {w wr x:ak} {p:PP} {N0 N1 B:Nat} {g:Geo} {bv:am} {z:List Int} {k:Nat} {m n:am} (h:k8 w wr p N0 N1 B g bv z k m n) (hb:w9b wr x):k8 w x p N0 N1 B g bv z k m n:=by
 obtain⟨own,h1,h2,h3,S,h4,h5,h6,h7⟩:=h;refine⟨own,h1,h2.below hb,h3.below hb,S,h4,h5,h6, ?_⟩;rcases h7 with⟨a,b,c⟩ | ⟨m',n',M,a,b,c,d⟩
 ·exact aA ⟨a,b,c.beside hb⟩
 ·exact aC ⟨m',n',M,a,b,c,d.beside hb⟩
structure RestF (wc:ak) (m mq Bb ml cb:Nat) (gv:Array am) (rm:Int) (mb:List Int):Prop where
 len:mb.length=ml
 cell:∀y:aI wc,y.1.cell? ⟨mq,6,none⟩=some (ag (some ⟨Bb,0,none⟩) ml cb)
 geo:∀y:aI wc,(aE 23 ⟨mq,1,none⟩).run aj y.1=.ok (al gv) y.1
 sl:Sl aq wc (ag (some ⟨Bb,0,none⟩) ml cb) mb
 bytes:∀x:ak,w9b wc x->az aj 68 #[ao (some ⟨m,0,none⟩)] x fun e w'=>∃a c,e=ar (ag a ml c)/\Sl aq w' (ag a ml c) mb/\ah x.heap.size x w'
 roomD:∀x:ak,w9b wc x->az aj 69 #[ao (some ⟨m,0,none⟩)] x fun e w'=>e=ar (ab af rm)/\ah x.heap.size x w'
 roomQ:∀x:ak,w9b wc x->az aj 70 #[ao (some ⟨mq,0,none⟩)] x fun e w'=>e=ar (ab af rm)/\ah x.heap.size x w'
 geomD:∀x:ak,w9b wc x->az aj 71 #[ao (some ⟨m,0,none⟩)] x fun e w'=>e=ar (al gv)/\ah x.heap.size x w'
 eq:∀x:ak,(eG 10000 23 (al gv) (al gv)).run aj x=.ok true x
theorem Ha {w wc:ak} {p:PP} {N0 N1 B:Nat} {g:Geo} {bv:am} {z:List Int} {k:Nat} {s12 s14:am} (h:k8 w wc p N0 N1 B g bv z k s12 s14):
  (s12=ao none/\s14=ao none)\/∃(m mq Bb ml cb:Nat) (gv:Array am) (rm:Int) (mb:List Int),s12=ao (some ⟨m,0,none⟩)/\s14=ao (some ⟨mq,0,none⟩)/\RestF wc m mq Bb ml cb gv rm mb:=by
 obtain⟨own, -, -, -,S, -, -, -,h⟩:=h;rcases h with⟨a,b, -⟩ | ⟨m,n,M,a,b,hM,hF⟩
 ·exact aA ⟨a,b⟩
 ·right
  obtain⟨Bb,cb,c6,s6,lg,hm1,hm2⟩:=hF.cells;have hbl:M.b.length<=100000:=by
   have h1:=Geo.nats hM.ok.good;have h2:=hM.ok.len;have h3:=h1.b2;omega
  refine⟨m,n,Bb,M.b.length,cb,M.g.v,M.room,M.b,a,b,rfl,fun y=>(y.2.cell (p:=⟨n,6,none⟩) hm1).trans c6,fun y=> ?_,s6,fun x hb=> ?_,fun x hb=>(hF.beside hb).roomD hM.ok.good hM.ok.used,fun x hb=>(hF.beside hb).roomQ hM.ok.good hM.ok.used,fun x hb=>(hF.beside hb).geomD,fun x=>wA M.g x⟩
  ·obtain⟨_,_,_,_,lg2,_,_⟩:=(hF.beside y.2).cells;exact lg2
  ·refine((hF.beside hb).bytes hbl hM.ok.bytes).mono ?_;rintro e w' ⟨v,rfl,hs, -,hbb⟩;obtain⟨a',c',rfl,h5⟩:=id hs;exact⟨a',c',rfl,hs,hbb⟩
end
section
attribute [-simp] isAgg23 zeroValue23 isAgg51 zeroValue51 isAgg29 zeroValue29 isAgg108 zeroValue108
attribute [-go_sem] aE aL cZ
attribute [local go_sem] GV GW sy DI jZ bC bD GR
section
theorem mpWalk {g:Geo} (hin:g.In) (n0 n1:Int) {a:Option aN} {n cap:Nat} {l:List St8} (w:ak) (hL:qu w (ag a n cap) l) (hn:l.length=n):
  az aj 7 #[al g.v,al #[ab af n0,ab af n1],ag a n cap] w fun e w'=>e=ar (.bool true)/\ah w.heap.size w w':=by
 have hmx:=w9x
 have HL:=ae hL;have HLEN:=ae hn;have HW:=ae (Dq kB);have HIN:=ae hin;have HFA:=ae (fun x (hx:w9b w x)=>GO (ag a n cap) l x (by
  obtain⟨a',c',e,h1,h2,h3,h4⟩:=hL;refine⟨a',c',e,h1,h2,fun s hs=>(h3 s hs).below hx, ?_⟩;rcases h4 with h4 | ⟨b,off,e2,h5,h6⟩
  ·exact aA h4
  ·exact aC ⟨b,off,e2,aU h5 hx.size,fun j s hj=>(h6 j s hj).below h5 hx⟩))
 have HSM:=ae (fun x=>Db g x);have HLI:=ae (fun x=>GN n0 n1 x);obtain⟨W,hW⟩:=w9nm (w.alloc (ap g.v 23));have r0:aB W w.heap.size 23 g.cs:=by rw[←hW];exact aB.new w _ _
 have b0:ah w.heap.size w W:=by rw[←hW];exact aR w _
 obtain⟨B,hB⟩:=w9nm w.heap.size;rw[hB]at r0;obtain⟨V,hV⟩:=w9nm (W.alloc (ap #[ab af n0,ab af n1] 94));have r1:aB V W.heap.size 94 [ab af n0,ab af n1]:=by rw[←hV];exact aB.new W _ _
 have b1:ah W.heap.size W V:=by rw[←hV];exact aR W _
 obtain⟨C,hC⟩:=w9nm W.heap.size;rw[hC]at r1;have R0:=ae (r0.below b1);have R1:=ae r1;have HBW:Hid (w.heap.size=B):=hB;have K0:w9h w V:=b0.trans (b1.mono b0.size);have LG:=cF R0.out;have c0:V.cell? ⟨C,0,none⟩=some (ab af n0):=r1.cell 0 _ rfl;have c1:V.cell? ⟨C,1,none⟩=some (ab af n1):=r1.cell 1 _ rfl;clear r0 b0 r1 b1 hin hL hn;go_enter func7,ntmps7;go_wp2_with fail;clear hW hV hB hC;go_at_call 52;refine(HFA.out V K0.out).mono ?_;rintro e x1 ⟨fb,rfl,hfb,hx⟩;have K1:=w9bt K0 hx;have R01:=ae (R0.out.below hx);have R11:=ae (R1.out.below hx);have HFB:=ae hfb;clear hx hfb LG c0 c1 R0 R1;have LG:=cF R01.out;have c0:x1.cell? ⟨C,0,none⟩=some (ab af n0):=R11.out.cell 0 _ rfl;have c1:x1.cell? ⟨C,1,none⟩=some (ab af n1):=R11.out.cell 1 _ rfl;cases fb with
 | false=>
  go_wp2_with fail;go_at_call 55;refine(HW.out x1).mono ?_;rintro e xz ⟨rfl,hz⟩;have HZ:=w9bt K1 hz;clear hz;go_wp2_with fail;go_ret;exact⟨rfl,HZ.out⟩
 | true=>
  have HFAIR:=ae (HFB.out rfl);go_wp2_with fail;go_at_call 53;refine(HSM.out x1).mono ?_;rintro e x2 ⟨rfl,hx⟩;have K2:=w9bt K1 hx;have R02:=ae (R01.out.below hx);have R12:=ae (R11.out.below hx);clear hx LG c0 c1 R01 R11;have LG:=cF R02.out;have c0:x2.cell? ⟨C,0,none⟩=some (ab af n0):=R12.out.cell 0 _ rfl;have c1:x2.cell? ⟨C,1,none⟩=some (ab af n1):=R12.out.cell 1 _ rfl;obtain⟨sb,hsb⟩:=w9nm (decide g.light);rw[hsb];have HSB:=ae hsb;clear hsb;cases sb with
  | false=>
   go_wp2_with fail;go_at_call 55;refine(HW.out x2).mono ?_;rintro e xz ⟨rfl,hz⟩;have HZ:=w9bt K2 hz;clear hz;go_wp2_with fail;go_ret;exact⟨rfl,HZ.out⟩
  | true=>
   have HLT:Hid g.light:=by show g.light;exact of_decide_eq_true HSB.out
   go_wp2_with fail;go_at_call 54;refine(HLI.out x2).mono ?_;rintro e x3 ⟨rfl,hx⟩;have K3:=w9bt K2 hx;have R03:=ae (R02.out.below hx);have R13:=ae (R12.out.below hx);clear hx LG c0 c1 R02 R12;have LG:=cF R03.out;have c0:x3.cell? ⟨C,0,none⟩=some (ab af n0):=R13.out.cell 0 _ rfl;have c1:x3.cell? ⟨C,1,none⟩=some (ab af n1):=R13.out.cell 1 _ rfl;obtain⟨lb,hlb⟩:=w9nm (decide (n0<=200/\n1<=200));rw[hlb];have HLB:=ae hlb;clear hlb;cases lb with
   | false=>
    go_wp2_with fail;go_at_call 55;refine(HW.out x3).mono ?_;rintro e xz ⟨rfl,hz⟩;have HZ:=w9bt K3 hz;clear hz;go_wp2_with fail;go_ret;exact⟨rfl,HZ.out⟩
   | true=>
    have H200:Hid (n0<=200/\n1<=200):=by show _/\_;exact of_decide_eq_true HLB.out
    clear HSB HLB HFA HSM HLI HFB;have HO0:Hid (∀k,(fun k=>k=B\/k=C) k->k<x3.heap.size):=fun k hk=>by rcases hk with rfl | rfl;exact R03.out.lt;exact R13.out.lt
    go_wp2_with fail;go_at_call 12;refine(GK n0 n1 H200.out.1 H200.out.2 w x3 K3.out (fun k=>k=B\/k=C) HO0.out).mono ?_;rintro e x4 ⟨rv8,e8,rfl,hnd,hx⟩;have HND:=ae hnd;have K4:=w9bt K3 hx;have R04:=ae (R03.out.below hx);have R14:=ae (R13.out.below hx);clear hx hnd LG c0 c1 R03 R13;have c0:x4.cell? ⟨C,0,none⟩=some (ab af n0):=R14.out.cell 0 _ rfl;have c1:x4.cell? ⟨C,1,none⟩=some (ab af n1):=R14.out.cell 1 _ rfl;have HO1:Hid (∀k,(fun k=>k=B\/k=C) k->k<x4.heap.size):=fun k hk=>by rcases hk with rfl | rfl;exact R04.out.lt;exact R14.out.lt
    go_wp2_with fail;go_at_call 56;refine(GL n0 n1 H200.out.1 H200.out.2 w x4 (fun k=>k=B\/k=C) HO1.out HND.out).mono ?_;rintro e x5 ⟨qv8,e9,rfl,hst,hx⟩;have K5:=w9bt K4 hx;have R05:=ae (R04.out.below hx);have R15:=ae (R14.out.below hx);obtain⟨NS,hNS⟩:=w9nm (gq n0.toNat n1.toNat);have HF0:Hid (lX w x5 (fun k=>k=B\/k=C) NS rv8 qv8):=by
     show lX _ _ _ _ _ _;rw[←hNS];rcases hst with⟨e1,e2,e3⟩ | h
     ·exact aA ⟨e1,e2,e3,fun k hk=>by rcases hk with rfl | rfl;exact R05.out.lt;exact R15.out.lt⟩
     ·exact aC h
    have HNR:Hid (Run NS 1):=by show Run _ _;rw[←hNS];exact Run.new (by have:=H200.out.1;omega) (by have:=H200.out.2;omega)
    clear hx hst hNS c0 c1 R04 R14 HND HO0 HO1;have LG:=cF R05.out;obtain⟨o1,o2,o3,o4,o5,o6,o7,o8,hszl, -, -,ho1, -⟩:=g.szl_eq;obtain⟨nb,hnb⟩:∃n:Nat,(if g.good then g.bts.toNat else 0)=n:=⟨_,rfl⟩;have hob:o1=(nb:Int):=by
     rw[ho1,←hnb];show(if g.good then g.bts else 0)=_;by_cases hg:g.good
     ·rw[if_pos hg,if_pos hg];exact(Geo.nats hg).b.symm
     ·rw[if_neg hg,if_neg hg];rfl
    have HNB:Hid (nb<=714/\(g.good->(bK nb (0:Int)).length=g.bts.toNat)):=by
     show _/\_;rw[←hnb];by_cases hg:g.good
     ·rw[if_pos hg];exact⟨(Geo.nats hg).b2,fun _=>by simp⟩
     ·rw[if_neg hg];exact⟨by omega,fun h=>absurd h hg⟩
    rw[hob]at hszl;have HOF:Hid (∀x,az aj 11 #[al g.v] x fun e w'=>e=ar (al g.szl.toArray)/\ah x.heap.size x w'):=fun x=>mw g x;rw[hszl]at HOF;obtain⟨sz,hsz⟩:=w9nm ((db (nb:Int) o2 o3 o4 o5 o6 o7 o8).toArray);have FL:∀x,(Instr.field 29 (al sz) 0).run aj x=.ok (ab af (nb:Int)) x:=fun x=>by rw[←hsz];exact DJ _ _ _ _ _ _ _ _ x
    rw[hsz]at HOF;clear hszl hnb hob ho1 hsz;go_wp2_with fail;go_at_call 11;refine(HOF.out x5).mono ?_;rintro e x6 ⟨rfl,hx⟩;have K6:=w9bt K5 hx;obtain⟨x7,hmk,hs7,hg7, -⟩:=wB x6 nb (by have:=HNB.out.1;omega);have hx67:w9b x6 x7:=(aF _ _).grown hg7 (aJ _) (fun k e=>by cases e);have K7:=w9bt K6 hx67;have R07:=ae (R05.out.below (hx.trans (hx67.mono hx.size)));have R17:=ae (R15.out.below (hx.trans (hx67.mono hx.size)));obtain⟨own,hown⟩:∃o,et (fun k=>k=B\/k=C) x6 x7=o:=⟨_,rfl⟩;obtain⟨z,hz⟩:∃z:List Int,bK nb 0=z:=⟨_,rfl⟩;have HZL:Hid (z.length=nb):=by show _=_;rw[←hz];simp
    have HZG:Hid (g.good->z.length=g.bts.toNat):=by rw[←hz];exact HNB.out.2
    have HV7:Hid (KeptV own x7 (ag (some ⟨x6.heap.size,0,none⟩) nb nb) z):=by show KeptV _ _ _ _;rw[←hown,←hz];exact KeptV.new hs7 (mm nb) fun b off len cap e=>by cases e;exact aJ _
    have HF7:Hid (lX w x7 own NS rv8 qv8):=HF0.out.below (hx.trans (hx67.mono hx.size)) (fun k hk=>by
     rw[←hown]at hk;rcases hk with hk | hk
     ·exact aA hk
     ·exact aC ⟨aZ hx.size hk.1,hk.2⟩)
    have HOB:Hid (own B):=by show own B;rw[←hown];exact aA (aA rfl)
    obtain⟨bz,hbz⟩:=w9nm x6.heap.size;rw[hbz]at HV7;have HMK:=ae hmk;clear hx hs7 hg7 hx67 hown hmk hz LG R05 R15 HF0 HOF;go_wp2_with ((with_reducible refine vU ?_);refine vT _ _ _ rfl rfl _ _ _ rfl rfl HMK.out ?_);clear FL;try rw[hbz]
    clear hbz;have HLK:∀y:dB B B x7,(aE 23 ⟨B,0,none⟩).run aj y.1=.ok (al g.v) y.1:=fun y=>cF (y.2.1.trans R07.out);refine ex (fun x=>∃y:dB B B x7,x=y.1) 11 (.takes [0,1,3] (.one 2 (.one 4 (.one 5 (.takes [6,7,8,9,10] .leaf))))) hmx (by kernel_rfl) ⟨⟨x7.drew,rfl,rfl⟩,rfl⟩ ?_;repeat(rw[cP];simp only[au,ay];go_big_quiet_step (fail);try(with_reducible refine aO ?_))
    rw[cT,bU];simp only[au,ay];clear HLK;obtain⟨V8,hV8⟩:=w9nm x7.drew;have BV:Hid (ah x7.heap.size x7 V8):=by show ah _ _ _;rw[←hV8];exact(aF _ x7).drew
    try rw[hV8]
    clear hV8;have b8:ah V8.heap.size V8 (V8.alloc (ap #[] 5)):=aR V8 _;have BV1:Hid (ah x7.heap.size x7 (V8.alloc (ap #[] 5))):=BV.out.trans (b8.mono BV.out.size);obtain⟨vc,V9,hr9,hk9,hb9⟩:=lJ (HV7.out.sl.below BV.out) HV7.out.bytes (by rw[HZL.out];have:=HNB.out.1;omega) own;go_wp2_with fail;refine aG ⟨⟨_,BV1.out.block _ R07.out.lt,BV1.out.block _ R07.out.lt⟩,rfl⟩ ?_;rw[bU];simp only[au,ay];clear b8 BV1;have BV9:w9h x7 V9:=BV.out.trans (hb9.out.mono BV.out.size);go_wp2_with (at_builtin;refine wpList_append_run (.tmp 60) (.tmp 61) 76 rfl rfl _ _ _ rfl rfl hr9.out ?_);refine aG ⟨⟨_,BV9.out.block _ R07.out.lt,BV9.out.block _ R07.out.lt⟩,rfl⟩ ?_;rw[bU];simp only[au,ay];have HF9:Hid (lX w V9 (et own V8 V9) NS rv8 qv8):=HF7.out.below BV9.out (fun k hk=>by
     rcases hk with hk | hk
     ·exact aA hk
     ·exact aC ⟨aZ BV.out.size hk.1,hk.2⟩)
    clear hr9 hb9 HF7;go_wp2_with fail;go_at_call 57;refine(GZ HF9.out HNR.out HIN.out hk9.out HZG.out).mono ?_;rintro e x8 ⟨⟨mv,Ef,rfl,hf1⟩,hk8,hs8⟩;have HF1:=ae hf1;have h8B:x8.heap[B]? =x7.heap[B]? :=(hk8 B (aA HOB.out)).trans (BV9.out.block _ R07.out.lt);have R08:Hid (aB x8 B 23 g.cs):=h8B.trans R07.out;have HV8:Hid (KeptV (et own V8 V9) x8 (ag (some ⟨bz,0,none⟩) nb nb) z):=((HV7.out.below BV9.out).more (fun k hk=>Or.inl hk)).over hs8 hk8;obtain⟨own2,hown2⟩:=w9nm (et own V8 V9);have HOB2:Hid (own2 B):=by show own2 B;rw[←hown2];exact aA HOB.out
    rw[hown2]at HF1 HV8;go_wp2_with fail;refine aG ⟨⟨x8,h8B,h8B⟩,rfl⟩ ?_;clear hf1 hk8 hs8 h8B hk9 HF9 hown2 HV7 HOB;repeat(rw[cP];simp only[au,ay];go_big_quiet_step (fail);try(with_reducible refine aO ?_))
    rw[cT,dW];simp only[be,bf];have LG:=cF R08.out;go_wp2_with fail;go_at_call 58;refine(G0 HF1.out HNR.out HV8.out HZG.out).mono ?_;rintro e x9 ⟨⟨nv,rfl,hf2⟩,hk9,hs9⟩;have HF2:=ae hf2;have R09:Hid (aB x9 B 23 g.cs):=(hk9 B HOB2.out).trans R08.out;have HV9:=ae (HV8.out.over hs9 hk9);clear LG hf2 hk9 hs9 HF1 R08 HV8;rcases HF2.out with⟨rfl,rfl,rfl,rfl,rfl,hbA, -⟩ | ⟨p,rfl,rfl,rfl,rfl,rfl,hB8⟩ | ⟨p,m,mq,rfl,rfl,rfl,rfl,rfl,hfit,hFA⟩
    ·as_aux_lemma=>
      have K9:=ae hbA;clear hbA HF2 HV9 HOB2 R09;obtain⟨cb,hcb⟩:=w9nm (decide (0<n));have hcb2:decide ((0:Int)< (n:Int))=cb:=by rw[←hcb];simp
      go_wp2_with fail;go_loopw [14,16] (fun s14 i wr=>s14=ao none/\i=ab af 0/\wr=x9) (fun _ _ _=>0)
      case atStart=>exact⟨rfl,rfl,rfl⟩
      case round=>
       obtain⟨rfl,rfl,rfl⟩:=hrel;cases cb with
       | false=>
        go_wp2_with fail;clear hcb hcb2;go_loopw [20] (fun i y=>i=ab af 0/\y=wr) (fun _ _=>0)
        case atStart=>exact⟨rfl,rfl⟩
        case round=>
         obtain⟨rfl,rfl⟩:=hrel;go_wp2_with fail;go_at_call 55;refine(HW.out _).mono ?_;rintro e xz ⟨rfl,hz⟩;have HZ:=w9bt K9 hz;clear hz;go_wp2_with fail;go_ret;exact⟨rfl,HZ.out⟩
       | true=>
        go_wp2_with fail;clear hcb hcb2;go_loopw [20] (fun i y=>i=ab af 0/\y=wr) (fun _ _=>0)
        case atStart=>exact⟨rfl,rfl⟩
        case round=>
         obtain⟨rfl,rfl⟩:=hrel;go_wp2_with fail;go_at_call 55;refine(HW.out _).mono ?_;rintro e xz ⟨rfl,hz⟩;have HZ:=w9bt K9 hz;clear hz;go_wp2_with fail;go_ret;exact⟨rfl,HZ.out⟩
    ·as_aux_lemma=>
      have HBT:=ae hB8;clear hB8 HF2 HV9 R09;obtain⟨S,rfl⟩:∃s,s=NS:=⟨_,rfl⟩;have HRS:=HNR;obtain⟨cb,hcb⟩:=w9nm (decide (0<n));have hcb2:decide ((0:Int)< (n:Int))=cb:=by rw[←hcb];simp
      go_wp2_with fail;go_loopw [14,16] (fun s14 i wr=>s14=ao none/\i=ab af 0/\wr=x9) (fun _ _ _=>0)
      case atStart=>exact⟨rfl,rfl,rfl⟩
      case round=>
       obtain⟨rfl,rfl,rfl⟩:=hrel;cases cb with
       | false=>
        go_wp2_with fail;clear hcb hcb2;go_loopw [20] (fun i wr=>∃k:Nat,k<=S.n0/\i=ab af (k:Int)/\Hid (cU w wr p S S own2)) (fun i _=>S.n0 - (aW i).toNat)
        case atStart=>exact⟨0,bq _,rfl,HBT⟩
        case round=>
         obtain⟨kq,hkq,rfl,HBq⟩:=hrel;have q0c:wr.cell? ⟨p.rq,0,none⟩=some (ao (some ⟨p.q0,0,none⟩)):=(HBq.out.cell 0).trans rfl;obtain⟨ss,d0,hq0l,hssl, -⟩:=HBq.out.disk0;have hrql:=HBq.out.rq_lt;by_cases hlt:kq<S.n0
         ·as_aux_lemma=>
           have g3:decide ((kq:Int)< (S.n0:Int))=true:=by simpa using hlt
           have hhas:S.has 0 (kq:Int)=true:=by unfold RS.has RS.len;rw[if_pos rfl];exact decide_eq_true ⟨by omega,by omega⟩
           have hdn:=HRS.out.up.down;have hre:S.readE 0 (kq:Int)=0:=by unfold RS.readE;rw[if_pos hhas,if_neg (by rw[hdn];simp)]
           have hrd:S.read 0 (kq:Int)=S.look 0 kq:=by unfold RS.read;rw[if_pos ⟨hhas,hdn⟩,gO]
           have hbk:bx (S.look 0 kq):=by rw[←hrd];exact HBq.out.okRead 0 kq
           have HRD:=ae (HBq.out.read 0 (kq:Int));rw[hre,hrd]at HRD;have HR3:Hid (∀y,w9b wr y->az aj 73 #[ao (some ⟨p.q0,0,none⟩),ab af (kq:Int)] y fun e w'=>e=ar (al (S.look 0 kq).toArray)/\ah y.heap.size y w'):=fun y hy=>by
            obtain⟨f,h1⟩:=HBq.out.ref;have:=bG.readOf (h1.beside hy) hhas;rw[gO]at this;exact this
           obtain⟨bk,hbk2⟩:=w9nm (S.look 0 kq);rw[hbk2]at HRD HR3 hbk;have HBK:=ae hbk;have Q0:Hid (wr.cell? ⟨p.rq,0,none⟩=some (ao (some ⟨p.q0,0,none⟩))/\p.rq<wr.heap.size):=⟨q0c,hrql⟩;have hk200:kq<200:=by have:=HRS.out.n0;omega
           clear hhas hdn hre hrd hbk hbk2 hrql hq0l hssl;go_wp2_with fail;go_at_call 72;refine HRD.out.mono ?_;rintro e y1 ⟨rfl,hb⟩;obtain⟨y2,ST,r2,b2⟩:=ib y1 HBK.out;obtain⟨Bx,hBx⟩:=w9nm y1.heap.size;rw[hBx]at ST r2;have KY:w9h wr y2:=hb.trans (b2.mono hb.size);have LBz:∀z:aI y2,(aE 51 ⟨Bx,0,none⟩).run aj z.1=.ok (al bk.toArray) z.1:=fun z=>(r2.below z.2).blk HBK.out.length;have q0z:∀z:aI y2,z.1.cell? ⟨p.rq,0,none⟩=some (ao (some ⟨p.q0,0,none⟩)):=fun z=>((z.2.cell (p:=⟨p.rq,0,none⟩) (aU Q0.out.2 KY.out.size)).trans (KY.out.cell (p:=⟨p.rq,0,none⟩) Q0.out.2)).trans Q0.out.1;have EQ:∀z:ak,(eG 10000 51 (al bk.toArray) (al bk.toArray)).run aj z=.ok true z:=fun z=>by rw[iN HBK.out HBK.out z,ll]
           clear hb b2 r2 HRD q0c d0;go_wp2_with fail;clear ST hBx;refine ex (fun x=>∃y:aI y2,x=y.1) 13 (.takes [0,1,2,3,4,5,6,7,8,9] (.one 10 (.takes [11,12] .leaf))) hmx (by kernel_rfl) ⟨⟨y2.drew,(aF _ y2).drew⟩,rfl⟩ ?_;repeat(rw[cP];simp only[au,ay];go_big_quiet_step (fail);try(with_reducible refine aO ?_))
           rw[cT,bU];simp only[au,ay];clear LBz q0z;obtain⟨Y,hY⟩:=w9nm y2.drew;have BY:Hid (ah y2.heap.size y2 Y):=by show ah _ _ _;rw[←hY];exact(aF _ y2).drew
           try rw[hY]
           clear hY;go_wp2_with fail;go_at_call 73;refine(HR3.out Y (KY.out.trans (BY.out.mono KY.out.size))).mono ?_;rintro e Y1 ⟨rfl,hb⟩;have BY1:=w9bt BY hb;clear hb HR3;go_wp2_with fail;refine aG ⟨⟨Y1,BY1.out⟩,rfl⟩ ?_;repeat(rw[cP];simp only[au,ay];go_big_quiet_step (fail);try(with_reducible refine aO ?_))
           rw[cT,dW];simp only[be,bf];have HBY:Hid (cU w Y1 p S S own2):=HBq.out.beside (KY.out.trans (BY1.out.mono KY.out.size));clear EQ;go_wp2_with fail;go_roundw
           case rel=>exact⟨kq+1,hlt,by go_num,HBY⟩
           case measure=>simp[aW];omega
         ·as_aux_lemma=>
           have g3:decide ((kq:Int)< (S.n0:Int))=false:=by simp;omega
           have KF:w9h w wr:=dL.bel HBq.out
           skip
           go_wp2_with fail;go_at_call 55;refine(HW.out _).mono ?_;rintro e xz ⟨rfl,hz⟩;have HZ:=w9bt KF hz;clear hz;go_wp2_with fail;go_ret;exact⟨rfl,HZ.out⟩
       | true=>
        go_wp2_with fail;clear hcb hcb2;go_loopw [20] (fun i wr=>∃k:Nat,k<=S.n0/\i=ab af (k:Int)/\Hid (cU w wr p S S own2)) (fun i _=>S.n0 - (aW i).toNat)
        case atStart=>exact⟨0,bq _,rfl,HBT⟩
        case round=>
         obtain⟨kq,hkq,rfl,HBq⟩:=hrel;have q0c:wr.cell? ⟨p.rq,0,none⟩=some (ao (some ⟨p.q0,0,none⟩)):=(HBq.out.cell 0).trans rfl;obtain⟨ss,d0,hq0l,hssl, -⟩:=HBq.out.disk0;have hrql:=HBq.out.rq_lt;by_cases hlt:kq<S.n0
         ·as_aux_lemma=>
           have g3:decide ((kq:Int)< (S.n0:Int))=true:=by simpa using hlt
           have hhas:S.has 0 (kq:Int)=true:=by unfold RS.has RS.len;rw[if_pos rfl];exact decide_eq_true ⟨by omega,by omega⟩
           have hdn:=HRS.out.up.down;have hre:S.readE 0 (kq:Int)=0:=by unfold RS.readE;rw[if_pos hhas,if_neg (by rw[hdn];simp)]
           have hrd:S.read 0 (kq:Int)=S.look 0 kq:=by unfold RS.read;rw[if_pos ⟨hhas,hdn⟩,gO]
           have hbk:bx (S.look 0 kq):=by rw[←hrd];exact HBq.out.okRead 0 kq
           have HRD:=ae (HBq.out.read 0 (kq:Int));rw[hre,hrd]at HRD;have HR3:Hid (∀y,w9b wr y->az aj 73 #[ao (some ⟨p.q0,0,none⟩),ab af (kq:Int)] y fun e w'=>e=ar (al (S.look 0 kq).toArray)/\ah y.heap.size y w'):=fun y hy=>by
            obtain⟨f,h1⟩:=HBq.out.ref;have:=bG.readOf (h1.beside hy) hhas;rw[gO]at this;exact this
           obtain⟨bk,hbk2⟩:=w9nm (S.look 0 kq);rw[hbk2]at HRD HR3 hbk;have HBK:=ae hbk;have Q0:Hid (wr.cell? ⟨p.rq,0,none⟩=some (ao (some ⟨p.q0,0,none⟩))/\p.rq<wr.heap.size):=⟨q0c,hrql⟩;have hk200:kq<200:=by have:=HRS.out.n0;omega
           clear hhas hdn hre hrd hbk hbk2 hrql hq0l hssl;go_wp2_with fail;go_at_call 72;refine HRD.out.mono ?_;rintro e y1 ⟨rfl,hb⟩;obtain⟨y2,ST,r2,b2⟩:=ib y1 HBK.out;obtain⟨Bx,hBx⟩:=w9nm y1.heap.size;rw[hBx]at ST r2;have KY:w9h wr y2:=hb.trans (b2.mono hb.size);have LBz:∀z:aI y2,(aE 51 ⟨Bx,0,none⟩).run aj z.1=.ok (al bk.toArray) z.1:=fun z=>(r2.below z.2).blk HBK.out.length;have q0z:∀z:aI y2,z.1.cell? ⟨p.rq,0,none⟩=some (ao (some ⟨p.q0,0,none⟩)):=fun z=>((z.2.cell (p:=⟨p.rq,0,none⟩) (aU Q0.out.2 KY.out.size)).trans (KY.out.cell (p:=⟨p.rq,0,none⟩) Q0.out.2)).trans Q0.out.1;have EQ:∀z:ak,(eG 10000 51 (al bk.toArray) (al bk.toArray)).run aj z=.ok true z:=fun z=>by rw[iN HBK.out HBK.out z,ll]
           clear hb b2 r2 HRD q0c d0;go_wp2_with fail;clear ST hBx;refine ex (fun x=>∃y:aI y2,x=y.1) 13 (.takes [0,1,2,3,4,5,6,7,8,9] (.one 10 (.takes [11,12] .leaf))) hmx (by kernel_rfl) ⟨⟨y2.drew,(aF _ y2).drew⟩,rfl⟩ ?_;repeat(rw[cP];simp only[au,ay];go_big_quiet_step (fail);try(with_reducible refine aO ?_))
           rw[cT,bU];simp only[au,ay];clear LBz q0z;obtain⟨Y,hY⟩:=w9nm y2.drew;have BY:Hid (ah y2.heap.size y2 Y):=by show ah _ _ _;rw[←hY];exact(aF _ y2).drew
           try rw[hY]
           clear hY;go_wp2_with fail;go_at_call 73;refine(HR3.out Y (KY.out.trans (BY.out.mono KY.out.size))).mono ?_;rintro e Y1 ⟨rfl,hb⟩;have BY1:=w9bt BY hb;clear hb HR3;go_wp2_with fail;refine aG ⟨⟨Y1,BY1.out⟩,rfl⟩ ?_;repeat(rw[cP];simp only[au,ay];go_big_quiet_step (fail);try(with_reducible refine aO ?_))
           rw[cT,dW];simp only[be,bf];have HBY:Hid (cU w Y1 p S S own2):=HBq.out.beside (KY.out.trans (BY1.out.mono KY.out.size));clear EQ;go_wp2_with fail;go_roundw
           case rel=>exact⟨kq+1,hlt,by go_num,HBY⟩
           case measure=>simp[aW];omega
         ·as_aux_lemma=>
           have g3:decide ((kq:Int)< (S.n0:Int))=false:=by simp;omega
           have KF:w9h w wr:=dL.bel HBq.out
           skip
           go_wp2_with fail;go_at_call 55;refine(HW.out _).mono ?_;rintro e xz ⟨rfl,hz⟩;have HZ:=w9bt KF hz;clear hz;go_wp2_with fail;go_ret;exact⟨rfl,HZ.out⟩
    ·as_aux_lemma=>
      obtain⟨N0,hN0⟩:=w9nm NS.n0;obtain⟨N1,hN1⟩:=w9nm NS.n1;have HFIT:Hid (g.good/\g.oF<=N0/\g.oW<=N1):=by show _/\_/\_;rw[←hN0,←hN1];exact hfit
      have hfm:=HNR.out.fmt hfit.1 hfit.2.1 hfit.2.2 (HZG.out hfit.1) HV9.out.bytes;have hfn:=zG (S:=NS) hfit.1 hfit.2.1 HV9.out.bytes;have HML0:Hid (k8 w x9 p N0 N1 B g (ag (some ⟨bz,0,none⟩) nb nb) z (0+2) (ao (some ⟨m,0,none⟩)) (ao (some ⟨mq,0,none⟩))):=⟨own2,HOB2.out,R09.out,HV9.out,_,hfm.2.1,by rw[hfn.1,hN0],by rw[hfn.2,hN1],aC ⟨m,mq,_,rfl,rfl,hfm.2.2,hFA⟩⟩;have HZB:=ae HV9.out.bytes;clear hfm hfn hfit hFA hN0 hN1 HF2 HV9 R09 HOB2 HNR;go_wp2_with fail;go_loopw [12,14,16] (fun s12 s14 i wr=>∃k:Nat,k<=n/\i=ab af (k:Int)/\Hid (k8 w wr p N0 N1 B g (ag (some ⟨bz,0,none⟩) nb nb) z (k+2) s12 s14)) (fun _ _ i _=>n - (aW i).toNat)
      case atStart=>exact⟨0,bq _,rfl,HML0⟩
      case round=>
       obtain⟨k,hk,rfl,HML⟩:=hrel;clear HML0;have hk60:k<=60:=by have h1:=HFAIR.out.1;rw[HLEN.out]at h1;omega
       obtain⟨own2,hoB,hrow,hkv,S,hR,hn0,hn1,hc⟩:=HML.out;have HRS:=ae hR;have HOB2:Hid (own2 B):=hoB;have R0k:=ae hrow;have HKV:=ae hkv;have HNN:Hid (S.n0=N0/\S.n1=N1):=⟨hn0,hn1⟩;clear hoB hrow hkv hR hn0 hn1 HML;rcases hc with⟨rfl,rfl,hB8⟩ | ⟨m,mq,M,rfl,rfl,hMR,hFA⟩
       ·as_aux_lemma=>
         have HBT:=ae hB8;clear hB8;obtain⟨cb,hcb⟩:=w9nm (decide (k<n));have hcb2:decide ((k:Int)< (n:Int))=cb:=by rw[←hcb];simp
         cases cb with
         | false=>
          go_wp2_with fail;clear hcb hcb2;go_loopw [20] (fun i wr=>∃k:Nat,k<=S.n0/\i=ab af (k:Int)/\Hid (cU w wr p S S own2)) (fun i _=>S.n0 - (aW i).toNat)
          case atStart=>exact⟨0,bq _,rfl,HBT⟩
          case round=>
           obtain⟨kq,hkq,rfl,HBq⟩:=hrel;have q0c:wr.cell? ⟨p.rq,0,none⟩=some (ao (some ⟨p.q0,0,none⟩)):=(HBq.out.cell 0).trans rfl;obtain⟨ss,d0,hq0l,hssl, -⟩:=HBq.out.disk0;have hrql:=HBq.out.rq_lt;by_cases hlt:kq<S.n0
           ·as_aux_lemma=>
             have g3:decide ((kq:Int)< (S.n0:Int))=true:=by simpa using hlt
             have hhas:S.has 0 (kq:Int)=true:=by unfold RS.has RS.len;rw[if_pos rfl];exact decide_eq_true ⟨by omega,by omega⟩
             have hdn:=HRS.out.up.down;have hre:S.readE 0 (kq:Int)=0:=by unfold RS.readE;rw[if_pos hhas,if_neg (by rw[hdn];simp)]
             have hrd:S.read 0 (kq:Int)=S.look 0 kq:=by unfold RS.read;rw[if_pos ⟨hhas,hdn⟩,gO]
             have hbk:bx (S.look 0 kq):=by rw[←hrd];exact HBq.out.okRead 0 kq
             have HRD:=ae (HBq.out.read 0 (kq:Int));rw[hre,hrd]at HRD;have HR3:Hid (∀y,w9b wr y->az aj 73 #[ao (some ⟨p.q0,0,none⟩),ab af (kq:Int)] y fun e w'=>e=ar (al (S.look 0 kq).toArray)/\ah y.heap.size y w'):=fun y hy=>by
              obtain⟨f,h1⟩:=HBq.out.ref;have:=bG.readOf (h1.beside hy) hhas;rw[gO]at this;exact this
             obtain⟨bk,hbk2⟩:=w9nm (S.look 0 kq);rw[hbk2]at HRD HR3 hbk;have HBK:=ae hbk;have Q0:Hid (wr.cell? ⟨p.rq,0,none⟩=some (ao (some ⟨p.q0,0,none⟩))/\p.rq<wr.heap.size):=⟨q0c,hrql⟩;have hk200:kq<200:=by have:=HRS.out.n0;omega
             clear hhas hdn hre hrd hbk hbk2 hrql hq0l hssl;go_wp2_with fail;go_at_call 72;refine HRD.out.mono ?_;rintro e y1 ⟨rfl,hb⟩;obtain⟨y2,ST,r2,b2⟩:=ib y1 HBK.out;obtain⟨Bx,hBx⟩:=w9nm y1.heap.size;rw[hBx]at ST r2;have KY:w9h wr y2:=hb.trans (b2.mono hb.size);have LBz:∀z:aI y2,(aE 51 ⟨Bx,0,none⟩).run aj z.1=.ok (al bk.toArray) z.1:=fun z=>(r2.below z.2).blk HBK.out.length;have q0z:∀z:aI y2,z.1.cell? ⟨p.rq,0,none⟩=some (ao (some ⟨p.q0,0,none⟩)):=fun z=>((z.2.cell (p:=⟨p.rq,0,none⟩) (aU Q0.out.2 KY.out.size)).trans (KY.out.cell (p:=⟨p.rq,0,none⟩) Q0.out.2)).trans Q0.out.1;have EQ:∀z:ak,(eG 10000 51 (al bk.toArray) (al bk.toArray)).run aj z=.ok true z:=fun z=>by rw[iN HBK.out HBK.out z,ll]
             clear hb b2 r2 HRD q0c d0;go_wp2_with fail;clear ST hBx;refine ex (fun x=>∃y:aI y2,x=y.1) 13 (.takes [0,1,2,3,4,5,6,7,8,9] (.one 10 (.takes [11,12] .leaf))) hmx (by kernel_rfl) ⟨⟨y2.drew,(aF _ y2).drew⟩,rfl⟩ ?_;repeat(rw[cP];simp only[au,ay];go_big_quiet_step (fail);try(with_reducible refine aO ?_))
             rw[cT,bU];simp only[au,ay];clear LBz q0z;obtain⟨Y,hY⟩:=w9nm y2.drew;have BY:Hid (ah y2.heap.size y2 Y):=by show ah _ _ _;rw[←hY];exact(aF _ y2).drew
             try rw[hY]
             clear hY;go_wp2_with fail;go_at_call 73;refine(HR3.out Y (KY.out.trans (BY.out.mono KY.out.size))).mono ?_;rintro e Y1 ⟨rfl,hb⟩;have BY1:=w9bt BY hb;clear hb HR3;go_wp2_with fail;refine aG ⟨⟨Y1,BY1.out⟩,rfl⟩ ?_;repeat(rw[cP];simp only[au,ay];go_big_quiet_step (fail);try(with_reducible refine aO ?_))
             rw[cT,dW];simp only[be,bf];have HBY:Hid (cU w Y1 p S S own2):=HBq.out.beside (KY.out.trans (BY1.out.mono KY.out.size));clear EQ;go_wp2_with fail;go_roundw
             case rel=>exact⟨kq+1,hlt,by go_num,HBY⟩
             case measure=>simp[aW];omega
           ·as_aux_lemma=>
             have g3:decide ((kq:Int)< (S.n0:Int))=false:=by simp;omega
             have KF:w9h w wr:=dL.bel HBq.out
             skip
             go_wp2_with fail;go_at_call 55;refine(HW.out _).mono ?_;rintro e xz ⟨rfl,hz⟩;have HZ:=w9bt KF hz;clear hz;go_wp2_with fail;go_ret;exact⟨rfl,HZ.out⟩
         | true=>
          go_wp2_with fail;clear hcb hcb2;go_loopw [20] (fun i wr=>∃k:Nat,k<=S.n0/\i=ab af (k:Int)/\Hid (cU w wr p S S own2)) (fun i _=>S.n0 - (aW i).toNat)
          case atStart=>exact⟨0,bq _,rfl,HBT⟩
          case round=>
           obtain⟨kq,hkq,rfl,HBq⟩:=hrel;have q0c:wr.cell? ⟨p.rq,0,none⟩=some (ao (some ⟨p.q0,0,none⟩)):=(HBq.out.cell 0).trans rfl;obtain⟨ss,d0,hq0l,hssl, -⟩:=HBq.out.disk0;have hrql:=HBq.out.rq_lt;by_cases hlt:kq<S.n0
           ·as_aux_lemma=>
             have g3:decide ((kq:Int)< (S.n0:Int))=true:=by simpa using hlt
             have hhas:S.has 0 (kq:Int)=true:=by unfold RS.has RS.len;rw[if_pos rfl];exact decide_eq_true ⟨by omega,by omega⟩
             have hdn:=HRS.out.up.down;have hre:S.readE 0 (kq:Int)=0:=by unfold RS.readE;rw[if_pos hhas,if_neg (by rw[hdn];simp)]
             have hrd:S.read 0 (kq:Int)=S.look 0 kq:=by unfold RS.read;rw[if_pos ⟨hhas,hdn⟩,gO]
             have hbk:bx (S.look 0 kq):=by rw[←hrd];exact HBq.out.okRead 0 kq
             have HRD:=ae (HBq.out.read 0 (kq:Int));rw[hre,hrd]at HRD;have HR3:Hid (∀y,w9b wr y->az aj 73 #[ao (some ⟨p.q0,0,none⟩),ab af (kq:Int)] y fun e w'=>e=ar (al (S.look 0 kq).toArray)/\ah y.heap.size y w'):=fun y hy=>by
              obtain⟨f,h1⟩:=HBq.out.ref;have:=bG.readOf (h1.beside hy) hhas;rw[gO]at this;exact this
             obtain⟨bk,hbk2⟩:=w9nm (S.look 0 kq);rw[hbk2]at HRD HR3 hbk;have HBK:=ae hbk;have Q0:Hid (wr.cell? ⟨p.rq,0,none⟩=some (ao (some ⟨p.q0,0,none⟩))/\p.rq<wr.heap.size):=⟨q0c,hrql⟩;have hk200:kq<200:=by have:=HRS.out.n0;omega
             clear hhas hdn hre hrd hbk hbk2 hrql hq0l hssl;go_wp2_with fail;go_at_call 72;refine HRD.out.mono ?_;rintro e y1 ⟨rfl,hb⟩;obtain⟨y2,ST,r2,b2⟩:=ib y1 HBK.out;obtain⟨Bx,hBx⟩:=w9nm y1.heap.size;rw[hBx]at ST r2;have KY:w9h wr y2:=hb.trans (b2.mono hb.size);have LBz:∀z:aI y2,(aE 51 ⟨Bx,0,none⟩).run aj z.1=.ok (al bk.toArray) z.1:=fun z=>(r2.below z.2).blk HBK.out.length;have q0z:∀z:aI y2,z.1.cell? ⟨p.rq,0,none⟩=some (ao (some ⟨p.q0,0,none⟩)):=fun z=>((z.2.cell (p:=⟨p.rq,0,none⟩) (aU Q0.out.2 KY.out.size)).trans (KY.out.cell (p:=⟨p.rq,0,none⟩) Q0.out.2)).trans Q0.out.1;have EQ:∀z:ak,(eG 10000 51 (al bk.toArray) (al bk.toArray)).run aj z=.ok true z:=fun z=>by rw[iN HBK.out HBK.out z,ll]
             clear hb b2 r2 HRD q0c d0;go_wp2_with fail;clear ST hBx;refine ex (fun x=>∃y:aI y2,x=y.1) 13 (.takes [0,1,2,3,4,5,6,7,8,9] (.one 10 (.takes [11,12] .leaf))) hmx (by kernel_rfl) ⟨⟨y2.drew,(aF _ y2).drew⟩,rfl⟩ ?_;repeat(rw[cP];simp only[au,ay];go_big_quiet_step (fail);try(with_reducible refine aO ?_))
             rw[cT,bU];simp only[au,ay];clear LBz q0z;obtain⟨Y,hY⟩:=w9nm y2.drew;have BY:Hid (ah y2.heap.size y2 Y):=by show ah _ _ _;rw[←hY];exact(aF _ y2).drew
             try rw[hY]
             clear hY;go_wp2_with fail;go_at_call 73;refine(HR3.out Y (KY.out.trans (BY.out.mono KY.out.size))).mono ?_;rintro e Y1 ⟨rfl,hb⟩;have BY1:=w9bt BY hb;clear hb HR3;go_wp2_with fail;refine aG ⟨⟨Y1,BY1.out⟩,rfl⟩ ?_;repeat(rw[cP];simp only[au,ay];go_big_quiet_step (fail);try(with_reducible refine aO ?_))
             rw[cT,dW];simp only[be,bf];have HBY:Hid (cU w Y1 p S S own2):=HBq.out.beside (KY.out.trans (BY1.out.mono KY.out.size));clear EQ;go_wp2_with fail;go_roundw
             case rel=>exact⟨kq+1,hlt,by go_num,HBY⟩
             case measure=>simp[aW];omega
           ·as_aux_lemma=>
             have g3:decide ((kq:Int)< (S.n0:Int))=false:=by simp;omega
             have KF:w9h w wr:=dL.bel HBq.out
             skip
             go_wp2_with fail;go_at_call 55;refine(HW.out _).mono ?_;rintro e xz ⟨rfl,hz⟩;have HZ:=w9bt KF hz;clear hz;go_wp2_with fail;go_ret;exact⟨rfl,HZ.out⟩
       ·have HF:=ae hFA;have HMR:=ae hMR;clear hFA hMR;by_cases hlt:k<n
        ·as_aux_lemma=>
          have g3:decide ((k:Int)< (n:Int))=true:=by simpa using hlt
          obtain⟨s,hs⟩:∃s,l[k]? =some s:=⟨_,bJ (by rw[HLEN.out];exact hlt)⟩;obtain⟨b,off,hae,hok,hbl,hat⟩:=HL.out.open HLEN.out hs;subst hae;have hbw:=dL.bel HF.out;have hfs:=HFAIR.out.2 s (dI hs);have LD:=GS (hat.to hbl hbw);have htv1:s.tv.oneCell'=true:=by obtain⟨pa,pc,e,_⟩:=hok.turn;rw[e];rfl
          obtain⟨y,ST,rS,bS⟩:=GU wr s htv1;obtain⟨Bs,hBs⟩:=w9nm wr.heap.size;rw[hBs]at ST rS;have RS8:=ae rS;have KY:=ae bS;have HOKS:=ae hok;have HFS:=ae hfs;have HWB:=ae hbw;have HBS:=ae hBs;obtain⟨sc,hsc⟩:=w9nm ((iK s).toArray);rw[hsc]at LD ST;obtain⟨kd,hkd⟩:=w9nm s.kind;have s0:y.cell? ⟨Bs,0,none⟩=some (ab af kd):=by rw[←hkd];exact rS.cell 0 _ rfl
          have HKD:=ae hkd;clear hs hok hbl hat hbw hfs htv1 rS bS hsc hkd;go_upto_block 2 with fail
          clear LD ST hBs;go_cut [12,14]from 83 to 239 (fun s12 s14 wx=>Hid (k8 w wx p N0 N1 B g (ag (some ⟨bz,0,none⟩) nb nb) z (k+3) s12 s14))
          case first=>as_aux_lemma=>
           obtain⟨own3,hown⟩:=w9nm (et own2 wr y);have HOB3:Hid (own3 B):=by show own3 B;rw[←hown];exact aA HOB2.out
           have HOS3:Hid (own3 Bs):=by show own3 Bs;rw[←hown,←HBS.out];exact aC ⟨aJ _,by rw[HBS.out];exact RS8.out.lt⟩
           have HFy:Hid (fY w y p m mq S S M M own3):=by show fY _ _ _ _ _ _ _ _ _ _;rw[←hown];exact HF.out.below KY.out _ (fun k hk=>hk)
           have HVy:Hid (KeptV own3 y (ag (some ⟨bz,0,none⟩) nb nb) z):=(HKV.out.below KY.out).more (fun k hk=>by rw[←hown];exact aA hk);have R0y:Hid (aB y B 23 g.cs):=R0k.out.below KY.out;have HRS2:=HRS;have HMR2:=HMR;have HR3:=ae (HRS.out.mono (show k+2<=k+3 by omega));have HM3:=ae (HMR.out.more (show k+2<=k+3 by omega));have HMLy:Hid (k8 w y p N0 N1 B g (ag (some ⟨bz,0,none⟩) nb nb) z (k+3) (ao (some ⟨m,0,none⟩)) (ao (some ⟨mq,0,none⟩))):=⟨own3,HOB3.out,R0y.out,HVy.out,S,HR3.out,HNN.out.1,HNN.out.2,aC ⟨m,mq,M,rfl,rfl,HM3.out,HFy.out⟩⟩;clear hown HF HKV R0k HRS HMR HOB2;by_cases hk0:kd=0
           ·as_aux_lemma=>
             subst hk0;obtain⟨Bb,cb,c6,hsb, -,hml, -⟩:=HFy.out.cells;have hlen:M.b.length<=714:=by rw[HMR2.out.ok.len];exact(Geo.nats HMR2.out.ok.good).b2
             have c6b:(y.alloc (ap #[] 5)).cell? ⟨mq,6,none⟩=some (ag (some ⟨Bb,0,none⟩) M.b.length cb):=((aR y _).cell (p:=⟨mq,6,none⟩) hml).trans c6;obtain⟨vc,Y2,hr2,hk2,hb2⟩:=lJ hsb HMR2.out.ok.bytes (by omega) own3;have HRk:Hid (Run S (k+2)):=HRS2.out;have HMk:Hid (MRun S M (k+2)):=HMR2.out;have HFZ:=ae (HFy.out.below hb2.out (et own3 y Y2) (fun k hk=>hk));obtain⟨own4,hown⟩:=w9nm (et own3 y Y2);have HOB4:Hid (own4 B):=by show own4 B;rw[←hown];exact aA HOB3.out
             have HVZ:Hid (KeptV own4 Y2 (ag (some ⟨bz,0,none⟩) nb nb) z):=(HVy.out.below hb2.out).more (fun k hk=>by rw[←hown];exact aA hk);have R0Z:Hid (aB Y2 B 23 g.cs):=R0y.out.below hb2.out;have RSZ:Hid (aB Y2 Bs 108 (iK s)):=RS8.out.below hb2.out;rw[hown]at hk2 HFZ;have HKZ:=ae hk2.out;have HTP:=ae (((HOKS.out.turn.below HWB.out).below KY.out).below hb2.out);obtain⟨nm,hnm⟩:=w9nm M.b.length;have HNM:=ae hnm;rw[hnm]at c6b hr2 hlen;have s0Z:Y2.cell? ⟨Bs,0,none⟩=some (ab af 0):=by have:=RSZ.out.cell 0 _ rfl;rw[HKD.out]at this;exact this
             have s2Z:Y2.cell? ⟨Bs,2,none⟩=some s.tv:=RSZ.out.cell 2 _ rfl;obtain⟨pa,pc,hpa, -⟩:=HOKS.out.turn;rw[hpa]at s2Z HTP;obtain⟨av,cv,hvc⟩:∃a c,vc=ag a nm c:=by obtain⟨a,c,e,_⟩:=HKZ.out.sl;rw[hnm]at e;exact⟨a,c,e⟩
             subst hvc;clear c6 hsb hml hk2 hb2 hown hnm HFy HVy R0y HMLy;have HTU:=ae (wC (ag av nm cv) (ag pa s.ps.length pc) M.b s.ps Y2 HKZ.out.sl HKZ.out.bytes HTP.out (by rw[HNM.out];omega));obtain⟨c3,hc3⟩:=w9nm (gV M.b s.ps);have HC3:Hid (c3.length=M.b.length/\c3.length<=714):=by show _/\_;rw[←hc3,my,HNM.out];exact⟨rfl,hlen⟩
             have HCBY:Hid (aP c3):=by show aP c3;rw[←hc3];exact pq _ _ HKZ.out.bytes
             rw[hc3]at HTU;clear hc3 hlen;go_wp2_with (at_builtin;refine wpList_append_run (.tmp 102) (.tmp 106) 76 rfl rfl _ _ _ rfl rfl hr2.out ?_);go_at_call 59;refine HTU.out.mono ?_;rintro e Y3 ⟨vt,rfl,hst,hft,hbt⟩;have HFU:=ae (HFZ.out.below hbt (et own4 Y2 Y3) (fun k hk=>hk));have HKU:Hid (KeptV (et own4 Y2 Y3) Y3 vt c3):=KeptV.new hst HCBY.out hft;obtain⟨own5,hown⟩:=w9nm (et own4 Y2 Y3);have HOB5:Hid (own5 B):=by show own5 B;rw[←hown];exact aA HOB4.out
             have HVU:Hid (KeptV own5 Y3 (ag (some ⟨bz,0,none⟩) nb nb) z):=(HVZ.out.below hbt).more (fun k hk=>by rw[←hown];exact aA hk);have R0U:Hid (aB Y3 B 23 g.cs):=R0Z.out.below hbt;rw[hown]at HFU HKU;obtain⟨ac,cc,hvt, -⟩:=id hst;subst hvt;obtain⟨lc,hlc⟩:=w9nm c3.length;rw[hlc]at HKU;rw[hlc];clear hst hft hbt hown HTU hr2 c6b s0Z s2Z hlc HFZ HVZ R0Z HKZ;obtain⟨vd,X2,hr9,hk9,hb9⟩:=lJ HKU.out.sl HKU.out.bytes (by have:=HC3.out;omega) own5;have HF2:=ae (HFU.out.below hb9.out (et own5 Y3 X2) (fun k hk=>hk));obtain⟨ownD,hown⟩:=w9nm (et own5 Y3 X2);have HOBD:Hid (ownD B):=by show ownD B;rw[←hown];exact aA HOB5.out
             have HVD:Hid (KeptV ownD X2 (ag (some ⟨bz,0,none⟩) nb nb) z):=(HVU.out.below hb9.out).more (fun k hk=>by rw[←hown];exact aA hk);have HCD:Hid (KeptV ownD X2 (ag ac lc cc) c3):=(HKU.out.below hb9.out).more (fun k hk=>by rw[←hown];exact aA hk);have R0D:Hid (aB X2 B 23 g.cs):=R0U.out.below hb9.out;rw[hown]at HF2 hk9;have HKD:=ae hk9.out;have HCM:=ae (MRun.cmt HRk.out HMk.out (by omega) HC3.out.1 HKD.out.bytes);have HCN:=ae (zF HMk.out.ok HRk.out HMk.out (by omega) HC3.out.1 HKD.out.bytes);have HD1:=ae (fY.cmtD HF2.out (HRk.out.rdy (by omega)) HRk.out.down HMk.out.ok HKD.out HC3.out.1 HCM.out.1);clear hk9 hb9 hown;go_wp2_with (at_builtin;refine wpList_append_run (.tmp 116) (.tmp 117) 76 rfl rfl _ _ _ rfl rfl hr9.out ?_);clear hr9;go_at_call 60;refine HD1.out.mono ?_;rintro e xa ⟨rfl,hF3,hk3,hs3⟩;have HF3:=ae hF3;have HCE:=ae (HCD.out.over hs3 hk3);have HVE:=ae (HVD.out.over hs3 hk3);have R0E:Hid (aB xa B 23 g.cs):=(hk3 B HOBD.out).trans R0D.out;clear hF3 hk3 hs3 HD1 HF2 HCD HVD R0D;go_wp2_with fail;go_at_call 61;refine(fY.cmtQ HF3.out HRk.out.up (HRk.out.few.mono (by omega)) ⟨HRk.out.d0,by have:=HRk.out.d1;omega⟩ (by have:=HRk.out.n0;omega) HMk.out.ok HCE.out HC3.out.1).mono ?_;rintro e xb ⟨rfl,hF4,hk4,hs4⟩;have HF4:=ae hF4;have HVF:=ae (HVE.out.over hs4 hk4);have R0F:Hid (aB xb B 23 g.cs):=(hk4 B HOBD.out).trans R0E.out;clear hF4 hk4 hs4 HF3 HCE HVE R0E;go_wp2_with fail
             go_meet
             case rel=>exact⟨ownD,HOBD.out,R0F.out,HVF.out,_,HCM.out.2.1,by rw[HCN.out.1];exact HNN.out.1,by rw[HCN.out.2];exact HNN.out.2,aC ⟨m,mq,_,rfl,rfl,HCM.out.2.2.1,HF4.out⟩⟩
           ·as_aux_lemma=>
             have t0:(kd==0)=false:=by simpa using hk0
             by_cases hk5:kd=5
             ·as_aux_lemma=>
               subst hk5;obtain⟨Bb,cb,c6,hsb, -,hml, -⟩:=HFy.out.cells;have hlen:M.b.length<=714:=by rw[HMR2.out.ok.len];exact(Geo.nats HMR2.out.ok.good).b2
               have c6b:(y.alloc (ap #[] 5)).cell? ⟨mq,6,none⟩=some (ag (some ⟨Bb,0,none⟩) M.b.length cb):=((aR y _).cell (p:=⟨mq,6,none⟩) hml).trans c6;obtain⟨vc,Y2,hr2,hk2,hb2⟩:=lJ hsb HMR2.out.ok.bytes (by omega) own3;have HRk:Hid (Run S (k+2)):=HRS2.out;have HMk:Hid (MRun S M (k+2)):=HMR2.out;have HFZ:=ae (HFy.out.below hb2.out (et own3 y Y2) (fun k hk=>hk));obtain⟨own4,hown⟩:=w9nm (et own3 y Y2);have HOB4:Hid (own4 B):=by show own4 B;rw[←hown];exact aA HOB3.out
               have HVZ:Hid (KeptV own4 Y2 (ag (some ⟨bz,0,none⟩) nb nb) z):=(HVy.out.below hb2.out).more (fun k hk=>by rw[←hown];exact aA hk);have R0Z:Hid (aB Y2 B 23 g.cs):=R0y.out.below hb2.out;have RSZ:Hid (aB Y2 Bs 108 (iK s)):=RS8.out.below hb2.out;rw[hown]at hk2 HFZ;have HKZ:=ae hk2.out;have HTP:=ae (((HOKS.out.turn.below HWB.out).below KY.out).below hb2.out);obtain⟨nm,hnm⟩:=w9nm M.b.length;have HNM:=ae hnm;rw[hnm]at c6b hr2 hlen;have s0Z:Y2.cell? ⟨Bs,0,none⟩=some (ab af 5):=by have:=RSZ.out.cell 0 _ rfl;rw[HKD.out]at this;exact this
               have s2Z:Y2.cell? ⟨Bs,2,none⟩=some s.tv:=RSZ.out.cell 2 _ rfl;obtain⟨pa,pc,hpa, -⟩:=HOKS.out.turn;rw[hpa]at s2Z HTP;obtain⟨av,cv,hvc⟩:∃a c,vc=ag a nm c:=by obtain⟨a,c,e,_⟩:=HKZ.out.sl;rw[hnm]at e;exact⟨a,c,e⟩
               subst hvc;clear c6 hsb hml hk2 hb2 hown hnm HFy HVy R0y HMLy;obtain⟨ac,lc,cc,hac⟩:∃a l c,(Value.slice av nm cv)=ag a l c:=⟨_,_,_,rfl⟩;obtain⟨c3,hc3⟩:=w9nm M.b;have HC3:Hid (c3.length=M.b.length/\c3.length<=714):=by show _/\_;rw[←hc3,HNM.out];exact⟨rfl,hlen⟩
               rw[hc3]at HKZ;rw[hac]at HKZ hr2;clear hc3 hlen hac;go_upto_region 20 with(at_builtin;refine wpList_append_run (.tmp 102) (.tmp 106) 76 rfl rfl _ _ _ rfl rfl hr2.out ?_)
               clear hr2 c6b s0Z s2Z;obtain⟨vd,X2,hr9,hk9,hb9⟩:=lJ HKZ.out.sl HKZ.out.bytes (by have:=HC3.out;omega) own4;have HF2:=ae (HFZ.out.below hb9.out (et own4 Y2 X2) (fun k hk=>hk));obtain⟨ownD,hown⟩:=w9nm (et own4 Y2 X2);have HOBD:Hid (ownD B):=by show ownD B;rw[←hown];exact aA HOB4.out
               have HVD:Hid (KeptV ownD X2 (ag (some ⟨bz,0,none⟩) nb nb) z):=(HVZ.out.below hb9.out).more (fun k hk=>by rw[←hown];exact aA hk);have HCD:Hid (KeptV ownD X2 (ag ac lc cc) c3):=(HKZ.out.below hb9.out).more (fun k hk=>by rw[←hown];exact aA hk);have R0D:Hid (aB X2 B 23 g.cs):=R0Z.out.below hb9.out;rw[hown]at HF2 hk9;have HKD:=ae hk9.out;have HCM:=ae (MRun.cmt HRk.out HMk.out (by omega) HC3.out.1 HKD.out.bytes);have HCN:=ae (zF HMk.out.ok HRk.out HMk.out (by omega) HC3.out.1 HKD.out.bytes);have HD1:=ae (fY.cmtD HF2.out (HRk.out.rdy (by omega)) HRk.out.down HMk.out.ok HKD.out HC3.out.1 HCM.out.1);clear hk9 hb9 hown;go_wp2_with (at_builtin;refine wpList_append_run (.tmp 116) (.tmp 117) 76 rfl rfl _ _ _ rfl rfl hr9.out ?_);clear hr9;go_at_call 60;refine HD1.out.mono ?_;rintro e xa ⟨rfl,hF3,hk3,hs3⟩;have HF3:=ae hF3;have HCE:=ae (HCD.out.over hs3 hk3);have HVE:=ae (HVD.out.over hs3 hk3);have R0E:Hid (aB xa B 23 g.cs):=(hk3 B HOBD.out).trans R0D.out;clear hF3 hk3 hs3 HD1 HF2 HCD HVD R0D;go_wp2_with fail;go_at_call 61;refine(fY.cmtQ HF3.out HRk.out.up (HRk.out.few.mono (by omega)) ⟨HRk.out.d0,by have:=HRk.out.d1;omega⟩ (by have:=HRk.out.n0;omega) HMk.out.ok HCE.out HC3.out.1).mono ?_;rintro e xb ⟨rfl,hF4,hk4,hs4⟩;have HF4:=ae hF4;have HVF:=ae (HVE.out.over hs4 hk4);have R0F:Hid (aB xb B 23 g.cs):=(hk4 B HOBD.out).trans R0E.out;clear hF4 hk4 hs4 HF3 HCE HVE R0E;go_wp2_with fail
               go_meet
               case rel=>exact⟨ownD,HOBD.out,R0F.out,HVF.out,_,HCM.out.2.1,by rw[HCN.out.1];exact HNN.out.1,by rw[HCN.out.2];exact HNN.out.2,aC ⟨m,mq,_,rfl,rfl,HCM.out.2.2.1,HF4.out⟩⟩
             ·as_aux_lemma=>
               have t5:(kd==5)=false:=by simpa using hk5
               by_cases hk3:kd=3
               ·as_aux_lemma=>
                 subst hk3;have hbt:=HFIT.out;have hzl:z.length=g.bts.toNat:=HZG.out hbt.1;have hz7:z.length<=714:=by rw[hzl];exact(Geo.nats hbt.1).b2
                 have HTU:=ae (wC (ag (some ⟨bz,0,none⟩) nb nb) s.tv z s.ps y HVy.out.sl HVy.out.bytes ((HOKS.out.turn.below HWB.out).below KY.out) (by omega));obtain⟨tv,htv⟩:=w9nm s.tv;have s2:y.cell? ⟨Bs,2,none⟩=some tv:=by rw[←htv];exact RS8.out.cell 2 _ rfl
                 obtain⟨pa,pc,hpa, -⟩:=HOKS.out.turn;rw[htv]at HTU hpa;subst hpa;obtain⟨c3b,hcb⟩:=w9nm (gV z s.ps);have HCB:Hid (aP c3b/\c3b.length=g.bts.toNat/\c3b.length<=714):=by show _/\_/\_;rw[←hcb,my];exact⟨pq _ _ HVy.out.bytes,hzl,hz7⟩
                 rw[hcb]at HTU;have HRk:Hid (Run S (k+2)):=HRS2.out;have HBy:=ae HFy.out.rigs;clear hbt hzl hz7 htv hcb HFy HMLy;go_wp2_with fail;go_at_call 59;refine HTU.out.mono ?_;rintro e y3 ⟨vt,rfl,hst,hft,hbt⟩;have HB3:=ae (HBy.out.below hbt (et own3 y y3) (fun k hk=>hk));have HKT:Hid (KeptV (et own3 y y3) y3 vt c3b):=KeptV.new hst HCB.out.1 hft;obtain⟨own4,hown⟩:=w9nm (et own3 y y3);have HOB4:Hid (own4 B):=by show own4 B;rw[←hown];exact aA HOB3.out
                 have HV3:Hid (KeptV own4 y3 (ag (some ⟨bz,0,none⟩) nb nb) z):=(HVy.out.below hbt).more (fun k hk=>by rw[←hown];exact aA hk);have R03:Hid (aB y3 B 23 g.cs):=R0y.out.below hbt;rw[hown]at HB3 HKT;obtain⟨at_,ct,hvt, -⟩:=id hst;subst hvt;clear hst hft hbt hown HTU s2 HBy HVy R0y;have HLK:∀z:dB B B y3,(aE 23 ⟨B,0,none⟩).run aj z.1=.ok (al g.v) z.1:=fun z=>cF (z.2.1.trans R03.out);go_wp2_with fail;refine ex (fun x=>∃y:dB B B y3,x=y.1) 11 (.takes [0,1,3] (.one 2 (.one 4 (.one 5 (.takes [6,7,8,9,10] .leaf))))) hmx (by kernel_rfl) ⟨⟨y3.drew,rfl,rfl⟩,rfl⟩ ?_;repeat(rw[cP];simp only[au,ay];go_big_quiet_step (fail);try(with_reducible refine aO ?_))
                 rw[cT,bU];simp only[au,ay];clear HLK;obtain⟨V8,hV8⟩:=w9nm y3.drew;have BV:Hid (ah y3.heap.size y3 V8):=by show ah _ _ _;rw[←hV8];exact(aF _ y3).drew
                 try rw[hV8]
                 clear hV8;have b8:ah V8.heap.size V8 (V8.alloc (ap #[] 5)):=aR V8 _;have BV1:Hid (ah y3.heap.size y3 (V8.alloc (ap #[] 5))):=BV.out.trans (b8.mono BV.out.size);obtain⟨vc,V9,hr9,hk9,hb9⟩:=lJ (HKT.out.sl.below BV.out) HKT.out.bytes (by have:=HCB.out.2.2;omega) own4;go_wp2_with fail;refine aG ⟨⟨_,BV1.out.block _ R03.out.lt,BV1.out.block _ R03.out.lt⟩,rfl⟩ ?_;rw[bU];simp only[au,ay];clear b8 BV1;have BV9:w9h y3 V9:=BV.out.trans (hb9.out.mono BV.out.size);go_wp2_with (at_builtin;refine wpList_append_run (.tmp 133) (.tmp 134) 76 rfl rfl _ _ _ rfl rfl hr9.out ?_);refine aG ⟨⟨_,BV9.out.block _ R03.out.lt,BV9.out.block _ R03.out.lt⟩,rfl⟩ ?_;rw[bU];simp only[au,ay];obtain⟨own5,hown5⟩:=w9nm (et own4 V8 V9);have HB9:Hid (cU w V9 p S S own5):=HB3.out.below BV9.out own5 (fun k hk=>by
                  rw[←hown5]at hk;rcases hk with hk | hk
                  ·exact aA hk
                  ·exact aC ⟨aZ BV.out.size hk.1,hk.2⟩)
                 have HOB5:Hid (own5 B):=by show own5 B;rw[←hown5];exact aA HOB4.out
                 have HV9:Hid (KeptV own5 V9 (ag (some ⟨bz,0,none⟩) nb nb) z):=(HV3.out.below BV9.out).more (fun k hk=>by rw[←hown5];exact aA hk);have HKT9:Hid (KeptV own5 V9 (ag at_ c3b.length ct) c3b):=(HKT.out.below BV9.out).more (fun k hk=>by rw[←hown5];exact aA hk);rw[hown5]at hk9;have HKC:=ae hk9.out;have HPF:Hid (g.good/\g.oF<=S.n0/\g.oW<=S.n1):=by show _/\_/\_;rw[HNN.out.1,HNN.out.2];exact HFIT.out
                 have HFM:=ae (HRk.out.fmt HPF.out.1 HPF.out.2.1 HPF.out.2.2 HCB.out.2.1 HCB.out.1);have HFN:=ae (zG (S:=S) HPF.out.1 HPF.out.2.1 HCB.out.1);have HD1:=ae (cU.fmtD HB9.out (HRk.out.rdy (by omega)) HRk.out.up HIN.out HPF.out.1 HPF.out.2.1 HPF.out.2.2 HKC.out HCB.out.2.1);clear hk9 hr9 hb9 hown5 HV3 HKT HB3 HB9;go_wp2_with fail;go_at_call 57;refine HD1.out.mono ?_;rintro e x8 ⟨ma,rfl,hA,hk8,hs8⟩;have HA8:=ae hA;have h8B:x8.heap[B]? =y3.heap[B]? :=(hk8 B HOB5.out).trans (BV9.out.block _ R03.out.lt);have R08:Hid (aB x8 B 23 g.cs):=h8B.trans R03.out;have HV8:=ae (HV9.out.over hs8 hk8);have HKT8:=ae (HKT9.out.over hs8 hk8);go_wp2_with fail;refine aG ⟨⟨x8,h8B,h8B⟩,rfl⟩ ?_;clear hA hk8 hs8 h8B HD1 HV9 HKT9;repeat(rw[cP];simp only[au,ay];go_big_quiet_step (fail);try(with_reducible refine aO ?_))
                 rw[cT,dW];simp only[be,bf];have LG:=cF R08.out;go_wp2_with fail;go_at_call 58;refine(dL.fmtQ HA8.out HRk.out.up (HRk.out.few.mono (by omega)) ⟨HRk.out.d0,by have:=HRk.out.d1;omega⟩ HPF.out.1 HPF.out.2.1 HPF.out.2.2 HKT8.out HCB.out.2.1).mono ?_;rintro e x9 ⟨mb,rfl,hF,hk9,hs9⟩;have HF9:=ae hF;have R09:Hid (aB x9 B 23 g.cs):=(hk9 B HOB5.out).trans R08.out;have HV9:=ae (HV8.out.over hs9 hk9);clear LG hF hk9 hs9 HA8 R08 HV8;go_wp2_with fail
                 go_meet
                 case rel=>exact⟨own5,HOB5.out,R09.out,HV9.out,_,HFM.out.2.1,by rw[HFN.out.1];exact HNN.out.1,by rw[HFN.out.2];exact HNN.out.2,aC ⟨ma,mb,_,rfl,rfl,HFM.out.2.2,HF9.out⟩⟩
               ·as_aux_lemma=>
                 have t3:(kd==3)=false:=by simpa using hk3
                 by_cases hk1:kd=1
                 ·as_aux_lemma=>
                   subst hk1;have hpk:Sl aq y s.pick s.b0:=(HOKS.out.pick.below HWB.out).below KY.out;have c3:(y.alloc (ap #[] 5)).cell? ⟨Bs,3,none⟩=some s.pick:=(RS8.out.below (aR y _)).cell 3 _ rfl;obtain⟨vc,Y2,hr2,hk2,hb2⟩:=lJ hpk HOKS.out.bytes (by have:=HFS.out.2;omega) own3;have HPK:=ae HOKS.out.pick;have HBy:=ae (HFy.out.rigs.below hb2.out (et own3 y Y2) (fun k hk=>hk));obtain⟨own4,hown⟩:=w9nm (et own3 y Y2);have HOB4:Hid (own4 B):=by show own4 B;rw[←hown];exact aA HOB3.out
                   have HOS4:Hid (own4 Bs):=by show own4 Bs;rw[←hown];exact aA HOS3.out
                   have HV2:Hid (KeptV own4 Y2 (ag (some ⟨bz,0,none⟩) nb nb) z):=(HVy.out.below hb2.out).more (fun k hk=>by rw[←hown];exact aA hk);have R02:Hid (aB Y2 B 23 g.cs):=R0y.out.below hb2.out;have RS2:Hid (aB Y2 Bs 108 (iK s)):=RS8.out.below hb2.out;rw[hown]at hk2 HBy;have HK2:=ae hk2.out;have HCR:Hid (Run (S.crash s.b0 []) (k+3)):=HR3.out.crash _ _;have HC1:=ae (cU.crash (b0:=s.b0) (b1:= []) HBy.out HK2.out.sl (Sl.nil _ _) HK2.out.bytes (fun j=>by simp) (fun hn b off len cap e=>aC (HK2.out.own hn b off len cap e)) (fun h=>absurd rfl h) (HR3.out.few.mono (by omega)));have HC2:=ae (fun(x:ak) (h:cU w x p (S.crash s.b0 []) S own4)=>cU.crash2 (v0:=s.pick) (b0:=s.b0) (b1:= []) h (HPK.out.below (dL.bel h)) (Sl.nil _ _) HK2.out.bytes (fun j=>by simp) (fun hn b off len cap e=>aA (HPK.out.lt_of hn e)) (fun h=>absurd rfl h) (HR3.out.few.mono (by omega)));have hpf:s.pick=ag s.p0 s.b0.length s.cap0:=rfl;obtain⟨np,hnp⟩:=w9nm s.b0.length;have HPF:Hid (s.pick=ag s.p0 np s.cap0):=by show _=_;rw[hpf,hnp]
                   rw[HPF.out]at c3 hr2 HC2;clear hpk hk2 hb2 hown hpf hnp HFy HVy R0y HBy HMLy;go_wp2_with (at_builtin;refine wpList_append_run (.tmp 164) (.tmp 166) 76 rfl rfl _ _ _ rfl rfl hr2.out ?_);go_at_call 47;refine HC1.out.mono ?_;rintro e zc1 ⟨rfl,hB1,hk1⟩;have HB1:=ae hB1;have RS3:Hid (aB zc1 Bs 108 (iK s)):=(hk1 Bs HOS4.out).trans RS2.out;have R03:Hid (aB zc1 B 23 g.cs):=(hk1 B HOB4.out).trans R02.out;have HV3:Hid (KeptV own4 zc1 (ag (some ⟨bz,0,none⟩) nb nb) z):=HV2.out.overA HB1.out hk1;have c3:zc1.cell? ⟨Bs,3,none⟩=some (ag s.p0 np s.cap0):=by rw[←HPF.out];exact RS3.out.cell 3 _ rfl
                   clear hB1 hk1 HC1 hr2 RS2 R02 HV2;go_wp2_with fail;go_at_call 62;refine(HC2.out zc1 HB1.out).mono ?_;rintro e zc2 ⟨rfl,hB2,hk3⟩;have HB2:=ae hB2;have RS4:Hid (aB zc2 Bs 108 (iK s)):=(hk3 Bs HOS4.out).trans RS3.out;have s0:zc2.cell? ⟨Bs,0,none⟩=some (ab af 1):=by have:=RS4.out.cell 0 _ rfl;rw[HKD.out]at this;exact this
                   have R0X:Hid (aB zc2 B 23 g.cs):=(hk3 B HOB4.out).trans R03.out;have HVX:Hid (KeptV own4 zc2 (ag (some ⟨bz,0,none⟩) nb nb) z):=HV3.out.overA HB2.out hk3;obtain⟨Sc,hSc⟩:=w9nm (S.crash s.b0 []);have HNX:Hid (Sc.n0=N0/\Sc.n1=N1):=by show _/\_;rw[←hSc];exact HNN.out
                   rw[hSc]at HB2 HCR;have HBX:=HB2;have HRX:=HCR;clear hB2 hk3 hSc HC2 HB1 RS3 R03 HV3 c3;have h2n:2<=Sc.n0:=by have h1:=HFIT.out;have h2:=Geo.least h1.1;have h3:=HNX.out.1;omega
                   have hrdy:=HRX.out.rdy (by omega);have HKX:=HBX.out;cases ho:Sc.opn with
                   | none=>
                    have HO:=ae ho;have HD1:=ae (cU.opnN HBX.out hrdy HRX.out.up h2n ho);have HD2:=ae (fun z1 (hb:w9b zc2 z1)=>cU.opnNQ (HBX.out.beside hb) hrdy HRX.out.down h2n ho);clear ho hrdy h2n HKX;go_wp2_with fail;go_at_call 65;refine HD1.out.mono ?_;rintro e z1 ⟨rfl,hb1⟩;have HZ1:=ae hb1;clear hb1;go_wp2_with fail;go_at_call 66;refine(HD2.out z1 HZ1.out).mono ?_;rintro e z2 ⟨rfl,hb2⟩;have HZ2:=w9bt HZ1 hb2;clear hb2 HD1 HD2;go_wp2_with fail
                    go_meet
                    case rel=>exact⟨own4,HOB4.out,R0X.out.below HZ2.out,HVX.out.below HZ2.out,Sc,HRX.out,HNX.out.1,HNX.out.2,aA ⟨rfl,rfl,HBX.out.beside HZ2.out⟩⟩
                   | some M2=>
                    have HO:=ae ho;have HMX:=ae (HRX.out.opn (by omega) ho);have HD1:=ae (cU.opnD HBX.out hrdy HRX.out.up ho);have HRDY:=ae hrdy;have H2N:=ae h2n;clear ho hrdy h2n HKX;go_wp2_with fail;go_at_call 65;refine HD1.out.mono ?_;rintro e z1 ⟨ma,rfl,hA,hk1,hs1⟩;have HA1:=ae hA;have HV1:=ae (HVX.out.over hs1 hk1);have R01:Hid (aB z1 B 23 g.cs):=(hk1 B HOB4.out).trans R0X.out;clear hA hk1 hs1;go_wp2_with fail;go_at_call 66;refine(dL.opnQ HA1.out HRDY.out HRX.out.down H2N.out HO.out).mono ?_;rintro e z2 ⟨mb,rfl,hF,hk2,hs2⟩;have HF2:=ae hF;have HV2:=ae (HV1.out.over hs2 hk2);have R02:Hid (aB z2 B 23 g.cs):=(hk2 B HOB4.out).trans R01.out;clear hF hk2 hs2 HD1 HA1 HV1 R01;go_wp2_with fail
                    go_meet
                    case rel=>exact⟨own4,HOB4.out,R02.out,HV2.out,Sc,HRX.out,HNX.out.1,HNX.out.2,aC ⟨ma,mb,_,rfl,rfl,HMX.out,HF2.out⟩⟩
                 ·as_aux_lemma=>
                   have t1:(kd==1)=false:=by simpa using hk1
                   by_cases hk2:kd=2
                   ·as_aux_lemma=>
                     subst hk2;have HBX:=ae HFy.out.rigs;have HRX:=HR3;have HNX:=HNN;have HVX:=HVy;have R0X:=R0y;have h2n:2<=S.n0:=by have h1:=HFIT.out;have h2:=Geo.least h1.1;have h3:=HNX.out.1;omega
                     have hrdy:=HRX.out.rdy (by omega);have HKX:=HBX.out;cases ho:S.opn with
                     | none=>
                      have HO:=ae ho;have HD1:=ae (cU.opnN HBX.out hrdy HRX.out.up h2n ho);have HD2:=ae (fun z1 (hb:w9b y z1)=>cU.opnNQ (HBX.out.beside hb) hrdy HRX.out.down h2n ho);clear ho hrdy h2n HKX;go_wp2_with fail;go_at_call 65;refine HD1.out.mono ?_;rintro e z1 ⟨rfl,hb1⟩;have HZ1:=ae hb1;clear hb1;go_wp2_with fail;go_at_call 66;refine(HD2.out z1 HZ1.out).mono ?_;rintro e z2 ⟨rfl,hb2⟩;have HZ2:=w9bt HZ1 hb2;clear hb2 HD1 HD2;go_wp2_with fail
                      go_meet
                      case rel=>exact⟨own3,HOB3.out,R0X.out.below HZ2.out,HVX.out.below HZ2.out,S,HRX.out,HNX.out.1,HNX.out.2,aA ⟨rfl,rfl,HBX.out.beside HZ2.out⟩⟩
                     | some M2=>
                      have HO:=ae ho;have HMX:=ae (HRX.out.opn (by omega) ho);have HD1:=ae (cU.opnD HBX.out hrdy HRX.out.up ho);have HRDY:=ae hrdy;have H2N:=ae h2n;clear ho hrdy h2n HKX;go_wp2_with fail;go_at_call 65;refine HD1.out.mono ?_;rintro e z1 ⟨ma,rfl,hA,hk1,hs1⟩;have HA1:=ae hA;have HV1:=ae (HVX.out.over hs1 hk1);have R01:Hid (aB z1 B 23 g.cs):=(hk1 B HOB3.out).trans R0X.out;clear hA hk1 hs1;go_wp2_with fail;go_at_call 66;refine(dL.opnQ HA1.out HRDY.out HRX.out.down H2N.out HO.out).mono ?_;rintro e z2 ⟨mb,rfl,hF,hk2,hs2⟩;have HF2:=ae hF;have HV2:=ae (HV1.out.over hs2 hk2);have R02:Hid (aB z2 B 23 g.cs):=(hk2 B HOB3.out).trans R01.out;clear hF hk2 hs2 HD1 HA1 HV1 R01;go_wp2_with fail
                      go_meet
                      case rel=>exact⟨own3,HOB3.out,R02.out,HV2.out,S,HRX.out,HNX.out.1,HNX.out.2,aC ⟨ma,mb,_,rfl,rfl,HMX.out,HF2.out⟩⟩
                   ·as_aux_lemma=>
                     have t2:(kd==2)=false:=by simpa using hk2
                     by_cases hk4:kd=4
                     ·as_aux_lemma=>
                       subst hk4;obtain⟨si,hsi⟩:=w9nm s.i;obtain⟨zi,hzi⟩:=w9nm (si%256);have hzb:0<=zi/\zi<256:=by omega
                       have hblk:bx (a9 zi):=fv zi;have hfit:S.Fit:=RS.fit (by rw[HR3.out.up.fuse];decide) HR3.out.d0 (by have:=HR3.out.d1;omega);have hbb:0<=si\/True:=aC trivial;have HSW:Hid (Run (S.write 0 si (a9 zi)) (k+3)):=by
                        have h1:Run S (k+2):=⟨HR3.out.up,HR3.out.n0,HR3.out.n1,HR3.out.d0,HRS2.out.d1,HR3.out.bb,HRS2.out.sm,HRS2.out.few⟩;exact h1.fill (by omega) si hzb
                       have HN4:Hid ((S.write 0 si (a9 zi)).n0=N0/\(S.write 0 si (a9 zi)).n1=N1):=by
                        have h1:=RS.write_n S 0 si (a9 zi);show _/\_;rw[h1.1,h1.2];exact HNN.out
                       have HWD:=ae (fun(x:ak) (h:cU w x p S S own3)=>h.write hfit (HR3.out.few.mono (by omega)) 0 si hblk);have HWQ:=ae (fun(x:ak) (h:cU w x p (S.write 0 si (a9 zi)) S own3)=>h.write2 hfit (HR3.out.few.mono (by omega)) 0 si hblk);have HFL:Hid (∀x:ak,az aj 15 #[ab aq zi] x fun e w'=>e=ar (al (a9 zi).toArray)/\ah x.heap.size x w'):=fun x=>Bj zi x;have HBy:=ae HFy.out.rigs;have C1:∀z:dB Bs Bs y,z.1.cell? ⟨Bs,1,none⟩=some (ab af si):=fun z=>by rw[←hsi];exact(cL (a:=⟨Bs,1,none⟩) z.2.1).trans (RS8.out.cell 1 _ rfl)
                       have HSI:=ae hsi;have HZI:=ae hzi;clear hzb hblk hfit hbb HFy HMLy hsi;go_wp2_with fail;refine ex (fun x=>∃z:dB Bs Bs y,x=z.1) 8 (.takes [0,1,2,3,4,5] (.one 6 (.one 7 .leaf))) hmx (by kernel_rfl) ⟨⟨y.drew,rfl,rfl⟩,rfl⟩ ?_;repeat(rw[cP];simp only[au,ay];go_big_quiet_step (fail);try(with_reducible refine aO ?_))
                       rw[cT,bU];simp only[au,ay];clear C1;obtain⟨V,hV⟩:=w9nm y.drew;have BV:Hid (ah y.heap.size y V):=by show ah _ _ _;rw[←hV];exact(aF _ y).drew
                       try rw[hV]
                       clear hV;go_wp2_with fail;try go_at_call 15
                       refine(HFL.out V).mono ?_;rintro e V1 ⟨rfl,hb⟩;have BV1:=w9bt BV hb;clear hb;go_wp2_with fail;refine aG ⟨⟨V1,BV1.out.block _ RS8.out.lt,BV1.out.block _ RS8.out.lt⟩,rfl⟩ ?_;rw[bU];simp only[au,ay];go_wp2_with fail;go_at_call 63;refine(HWD.out V1 (HBy.out.beside BV1.out)).mono ?_;rintro e x1 ⟨rfl,hB1,hk1⟩;have HB1:=ae hB1;have i1:x1.heap[Bs]? =y.heap[Bs]? :=(hk1 Bs HOS3.out).trans (BV1.out.block _ RS8.out.lt);have R01:Hid (aB x1 B 23 g.cs):=(hk1 B HOB3.out).trans (R0y.out.below BV1.out);have RS1:Hid (aB x1 Bs 108 (iK s)):=i1.trans RS8.out;have HV1:=ae ((HVy.out.below BV1.out).overA HB1.out hk1);go_wp2_with fail;refine aG ⟨⟨x1,i1,i1⟩,rfl⟩ ?_;rw[dW];simp only[be,bf];clear hB1 hk1 i1 HWD HBy;have C1:∀z:dB Bs Bs x1,z.1.cell? ⟨Bs,1,none⟩=some (ab af si):=fun z=>by rw[←HSI.out];exact(cL (a:=⟨Bs,1,none⟩) z.2.1).trans (RS1.out.cell 1 _ rfl)
                       go_wp2_with fail;refine ex (fun x=>∃z:dB Bs Bs x1,x=z.1) 8 (.takes [0,1,2,3,4,5] (.one 6 (.one 7 .leaf))) hmx (by kernel_rfl) ⟨⟨x1.drew,rfl,rfl⟩,rfl⟩ ?_;repeat(rw[cP];simp only[au,ay];go_big_quiet_step (fail);try(with_reducible refine aO ?_))
                       rw[cT,bU];simp only[au,ay];clear C1;obtain⟨U,hU⟩:=w9nm x1.drew;have BU:Hid (ah x1.heap.size x1 U):=by show ah _ _ _;rw[←hU];exact(aF _ x1).drew
                       try rw[hU]
                       clear hU;go_wp2_with fail;try go_at_call 15
                       refine(HFL.out U).mono ?_;rintro e U1 ⟨rfl,hb⟩;have BU1:=w9bt BU hb;clear hb;go_wp2_with fail;refine aG ⟨⟨U1,BU1.out.block _ RS1.out.lt,BU1.out.block _ RS1.out.lt⟩,rfl⟩ ?_;rw[bU];simp only[au,ay];go_wp2_with fail;go_at_call 64;refine(HWQ.out U1 (HB1.out.beside BU1.out)).mono ?_;rintro e xw ⟨rfl,hB2,hk2⟩;have HB2:=ae hB2;have i2:xw.heap[Bs]? =x1.heap[Bs]? :=(hk2 Bs HOS3.out).trans (BU1.out.block _ RS1.out.lt);have R0X:Hid (aB xw B 23 g.cs):=(hk2 B HOB3.out).trans (R01.out.below BU1.out);have HVX:=ae ((HV1.out.below BU1.out).overA HB2.out hk2);go_wp2_with fail;refine aG ⟨⟨xw,i2,i2⟩,rfl⟩ ?_;rw[dW];simp only[be,bf];clear hB2 hk2 i2 HWQ HB1 R01 HV1 RS1 hzi;obtain⟨Sc,hSc⟩:=w9nm (S.write 0 si (a9 zi));rw[hSc]at HB2 HSW HN4;have HBX:=HB2;have HRX:=HSW;have HNX:=HN4;clear hSc;have h2n:2<=Sc.n0:=by have h1:=HFIT.out;have h2:=Geo.least h1.1;have h3:=HNX.out.1;omega
                       have hrdy:=HRX.out.rdy (by omega);have HKX:=HBX.out;cases ho:Sc.opn with
                       | none=>
                        have HO:=ae ho;have HD1:=ae (cU.opnN HBX.out hrdy HRX.out.up h2n ho);have HD2:=ae (fun z1 (hb:w9b xw z1)=>cU.opnNQ (HBX.out.beside hb) hrdy HRX.out.down h2n ho);clear ho hrdy h2n HKX;go_wp2_with fail;go_at_call 65;refine HD1.out.mono ?_;rintro e z1 ⟨rfl,hb1⟩;have HZ1:=ae hb1;clear hb1;go_wp2_with fail;go_at_call 66;refine(HD2.out z1 HZ1.out).mono ?_;rintro e z2 ⟨rfl,hb2⟩;have HZ2:=w9bt HZ1 hb2;clear hb2 HD1 HD2;go_wp2_with fail
                        go_meet
                        case rel=>exact⟨own3,HOB3.out,R0X.out.below HZ2.out,HVX.out.below HZ2.out,Sc,HRX.out,HNX.out.1,HNX.out.2,aA ⟨rfl,rfl,HBX.out.beside HZ2.out⟩⟩
                       | some M2=>
                        have HO:=ae ho;have HMX:=ae (HRX.out.opn (by omega) ho);have HD1:=ae (cU.opnD HBX.out hrdy HRX.out.up ho);have HRDY:=ae hrdy;have H2N:=ae h2n;clear ho hrdy h2n HKX;go_wp2_with fail;go_at_call 65;refine HD1.out.mono ?_;rintro e z1 ⟨ma,rfl,hA,hk1,hs1⟩;have HA1:=ae hA;have HV1:=ae (HVX.out.over hs1 hk1);have R01:Hid (aB z1 B 23 g.cs):=(hk1 B HOB3.out).trans R0X.out;clear hA hk1 hs1;go_wp2_with fail;go_at_call 66;refine(dL.opnQ HA1.out HRDY.out HRX.out.down H2N.out HO.out).mono ?_;rintro e z2 ⟨mb,rfl,hF,hk2,hs2⟩;have HF2:=ae hF;have HV2:=ae (HV1.out.over hs2 hk2);have R02:Hid (aB z2 B 23 g.cs):=(hk2 B HOB3.out).trans R01.out;clear hF hk2 hs2 HD1 HA1 HV1 R01;go_wp2_with fail
                        go_meet
                        case rel=>exact⟨own3,HOB3.out,R02.out,HV2.out,Sc,HRX.out,HNX.out.1,HNX.out.2,aC ⟨ma,mb,_,rfl,rfl,HMX.out,HF2.out⟩⟩
                     ·as_aux_lemma=>
                       have t4:(kd==4)=false:=by simpa using hk4
                       go_wp2_with fail
                       go_meet
                       case rel=>exact HMLy
          case rest=>as_aux_lemma=>
           have HCUT:Hid (k8 w wc p N0 N1 B g (ag (some ⟨bz,0,none⟩) nb nb) z (k+3) u12 u14):=hcut.out;clear hcut;rcases Ha HCUT.out with⟨rfl,rfl⟩ | ⟨m3,mq3,Bb,ml,cb,gv,rm,mb,rfl,rfl,hRF⟩
           ·as_aux_lemma=>
             go_wp2_with fail;refine ex (fun x=>∃y:aI wc,x=y.1) 27 (.takes [0,1,2,3,5,6,7,8] (.one 4 (.one 9 (.takes [10,11,12,14] (.one 13 (.one 15 (.takes [16,17,18,19,21,22,23,24] (.one 20 (.takes [25,26] .leaf))))))))) hmx (by kernel_rfl) ⟨⟨wc.drew,(aF _ wc).drew⟩,rfl⟩ ?_;repeat(rw[cP];simp only[au,ay];go_big_quiet_step (fail);try(with_reducible refine aO ?_))
             rw[cT,bU];simp only[au,ay];go_wp2_with fail;refine aG ⟨⟨wc.drew,(aF _ wc).drew⟩,rfl⟩ ?_;repeat(rw[cP];simp only[au,ay];go_big_quiet_step (fail);try(with_reducible refine aO ?_))
             rw[bU];simp only[au,ay];go_wp2_with fail;refine aG ⟨⟨wc.drew,(aF _ wc).drew⟩,rfl⟩ ?_;repeat(rw[cP];simp only[au,ay];go_big_quiet_step (fail);try(with_reducible refine aO ?_))
             rw[cT,bU];simp only[au,ay];go_wp2_with fail;refine aG ⟨⟨wc.drew,(aF _ wc).drew⟩,rfl⟩ ?_;repeat(rw[cP];simp only[au,ay];go_big_quiet_step (fail);try(with_reducible refine aO ?_))
             rw[bU];simp only[au,ay];go_wp2_with fail;refine aG ⟨⟨wc.drew,(aF _ wc).drew⟩,rfl⟩ ?_;repeat(rw[cP];simp only[au,ay];go_big_quiet_step (fail);try(with_reducible refine aO ?_))
             rw[cT,bU];simp only[au,ay];go_wp2_with fail;refine aG ⟨⟨wc.drew,(aF _ wc).drew⟩,rfl⟩ ?_;repeat(rw[cP];simp only[au,ay];go_big_quiet_step (fail);try(with_reducible refine aO ?_))
             rw[cT,dW];simp only[be,bf];go_wp2_with fail;go_roundw
             case rel=>exact⟨k+1,hlt,by go_num,HCUT.out.beside (aF _ wc).drew⟩
             case measure=>simp[aW];omega
           ·as_aux_lemma=>
             have HRF:=ae hRF;have C6:=hRF.cell;have LG:=hRF.geo;have EG:=hRF.eq;clear hRF;go_wp2_with fail;refine ex (fun x=>∃y:aI wc,x=y.1) 27 (.takes [0,1,2,3,5,6,7,8] (.one 4 (.one 9 (.takes [10,11,12,14] (.one 13 (.one 15 (.takes [16,17,18,19,21,22,23,24] (.one 20 (.takes [25,26] .leaf))))))))) hmx (by kernel_rfl) ⟨⟨wc.drew,(aF _ wc).drew⟩,rfl⟩ ?_;repeat(rw[cP];simp only[au,ay];go_big_quiet_step (fail);try(with_reducible refine aO ?_))
             clear C6;rw[cT,bU];simp only[au,ay];go_wp2_with fail;try go_at_call 68
             refine(HRF.out.bytes wc.drew (aF _ wc).drew).mono ?_;rintro e z1 ⟨va,vc,rfl,hs1,hb1⟩;have HB1:w9h wc z1:=(aF _ wc).drew.trans hb1;have HKB:=ae (CZ _ _ mb z1 hs1 (HRF.out.sl.below HB1.out));clear hb1 hs1;go_wp2_with fail;refine aG ⟨⟨z1,HB1.out⟩,rfl⟩ ?_;rw[bU];simp only[au,ay];go_wp2_with fail;try go_at_call 67
             refine HKB.out.mono ?_;rintro e z1b ⟨rfl,hz1b⟩;obtain rfl:=hz1b.symm;clear HKB;go_wp2_with fail;refine aG ⟨⟨z1,HB1.out⟩,rfl⟩ ?_;repeat(rw[cP];simp only[au,ay];go_big_quiet_step (fail);try(with_reducible refine aO ?_))
             rw[cT,bU];simp only[au,ay];go_wp2_with fail;try go_at_call 69
             refine(HRF.out.roomD z1 HB1.out).mono ?_;rintro e z2 ⟨rfl,hb2⟩;have HB2:=w9bt HB1 hb2;clear hb2;go_wp2_with fail;refine aG ⟨⟨z2,HB2.out⟩,rfl⟩ ?_;rw[bU];simp only[au,ay];go_wp2_with fail;try go_at_call 70
             refine(HRF.out.roomQ z2 HB2.out).mono ?_;rintro e z3 ⟨rfl,hb3⟩;have HB3:=w9bt HB2 hb3;clear hb3;go_wp2_with fail;refine aG ⟨⟨z3,HB3.out⟩,rfl⟩ ?_;repeat(rw[cP];simp only[au,ay];go_big_quiet_step (fail);try(with_reducible refine aO ?_))
             clear LG;rw[cT,bU];simp only[au,ay];go_wp2_with fail;try go_at_call 71
             refine(HRF.out.geomD z3 HB3.out).mono ?_;rintro e z4 ⟨rfl,hb4⟩;have HB4:=w9bt HB3 hb4;clear hb4;go_wp2_with fail;refine aG ⟨⟨z4,HB4.out⟩,rfl⟩ ?_;repeat(rw[cP];simp only[au,ay];go_big_quiet_step (fail);try(with_reducible refine aO ?_))
             rw[cT,dW];simp only[be,bf];go_wp2_with fail;go_roundw
             case rel=>exact⟨k+1,hlt,by go_num,HCUT.out.beside HB4.out⟩
             case measure=>simp[aW];omega
        ·as_aux_lemma=>
          have g3:decide ((k:Int)< (n:Int))=false:=by simp;omega
          have HBT:=ae HF.out.rigs;go_wp2_with fail;go_loopw [20] (fun i wr=>∃k:Nat,k<=S.n0/\i=ab af (k:Int)/\Hid (cU w wr p S S own2)) (fun i _=>S.n0 - (aW i).toNat)
          case atStart=>exact⟨0,bq _,rfl,HBT⟩
          case round=>
           obtain⟨kq,hkq,rfl,HBq⟩:=hrel;have q0c:wr.cell? ⟨p.rq,0,none⟩=some (ao (some ⟨p.q0,0,none⟩)):=(HBq.out.cell 0).trans rfl;obtain⟨ss,d0,hq0l,hssl, -⟩:=HBq.out.disk0;have hrql:=HBq.out.rq_lt;by_cases hlt:kq<S.n0
           ·as_aux_lemma=>
             have g3:decide ((kq:Int)< (S.n0:Int))=true:=by simpa using hlt
             have hhas:S.has 0 (kq:Int)=true:=by unfold RS.has RS.len;rw[if_pos rfl];exact decide_eq_true ⟨by omega,by omega⟩
             have hdn:=HRS.out.up.down;have hre:S.readE 0 (kq:Int)=0:=by unfold RS.readE;rw[if_pos hhas,if_neg (by rw[hdn];simp)]
             have hrd:S.read 0 (kq:Int)=S.look 0 kq:=by unfold RS.read;rw[if_pos ⟨hhas,hdn⟩,gO]
             have hbk:bx (S.look 0 kq):=by rw[←hrd];exact HBq.out.okRead 0 kq
             have HRD:=ae (HBq.out.read 0 (kq:Int));rw[hre,hrd]at HRD;have HR3:Hid (∀y,w9b wr y->az aj 73 #[ao (some ⟨p.q0,0,none⟩),ab af (kq:Int)] y fun e w'=>e=ar (al (S.look 0 kq).toArray)/\ah y.heap.size y w'):=fun y hy=>by
              obtain⟨f,h1⟩:=HBq.out.ref;have:=bG.readOf (h1.beside hy) hhas;rw[gO]at this;exact this
             obtain⟨bk,hbk2⟩:=w9nm (S.look 0 kq);rw[hbk2]at HRD HR3 hbk;have HBK:=ae hbk;have Q0:Hid (wr.cell? ⟨p.rq,0,none⟩=some (ao (some ⟨p.q0,0,none⟩))/\p.rq<wr.heap.size):=⟨q0c,hrql⟩;have hk200:kq<200:=by have:=HRS.out.n0;omega
             clear hhas hdn hre hrd hbk hbk2 hrql hq0l hssl;go_wp2_with fail;go_at_call 72;refine HRD.out.mono ?_;rintro e y1 ⟨rfl,hb⟩;obtain⟨y2,ST,r2,b2⟩:=ib y1 HBK.out;obtain⟨Bx,hBx⟩:=w9nm y1.heap.size;rw[hBx]at ST r2;have KY:w9h wr y2:=hb.trans (b2.mono hb.size);have LBz:∀z:aI y2,(aE 51 ⟨Bx,0,none⟩).run aj z.1=.ok (al bk.toArray) z.1:=fun z=>(r2.below z.2).blk HBK.out.length;have q0z:∀z:aI y2,z.1.cell? ⟨p.rq,0,none⟩=some (ao (some ⟨p.q0,0,none⟩)):=fun z=>((z.2.cell (p:=⟨p.rq,0,none⟩) (aU Q0.out.2 KY.out.size)).trans (KY.out.cell (p:=⟨p.rq,0,none⟩) Q0.out.2)).trans Q0.out.1;have EQ:∀z:ak,(eG 10000 51 (al bk.toArray) (al bk.toArray)).run aj z=.ok true z:=fun z=>by rw[iN HBK.out HBK.out z,ll]
             clear hb b2 r2 HRD q0c d0;go_wp2_with fail;clear ST hBx;refine ex (fun x=>∃y:aI y2,x=y.1) 13 (.takes [0,1,2,3,4,5,6,7,8,9] (.one 10 (.takes [11,12] .leaf))) hmx (by kernel_rfl) ⟨⟨y2.drew,(aF _ y2).drew⟩,rfl⟩ ?_;repeat(rw[cP];simp only[au,ay];go_big_quiet_step (fail);try(with_reducible refine aO ?_))
             rw[cT,bU];simp only[au,ay];clear LBz q0z;obtain⟨Y,hY⟩:=w9nm y2.drew;have BY:Hid (ah y2.heap.size y2 Y):=by show ah _ _ _;rw[←hY];exact(aF _ y2).drew
             try rw[hY]
             clear hY;go_wp2_with fail;go_at_call 73;refine(HR3.out Y (KY.out.trans (BY.out.mono KY.out.size))).mono ?_;rintro e Y1 ⟨rfl,hb⟩;have BY1:=w9bt BY hb;clear hb HR3;go_wp2_with fail;refine aG ⟨⟨Y1,BY1.out⟩,rfl⟩ ?_;repeat(rw[cP];simp only[au,ay];go_big_quiet_step (fail);try(with_reducible refine aO ?_))
             rw[cT,dW];simp only[be,bf];have HBY:Hid (cU w Y1 p S S own2):=HBq.out.beside (KY.out.trans (BY1.out.mono KY.out.size));clear EQ;go_wp2_with fail;go_roundw
             case rel=>exact⟨kq+1,hlt,by go_num,HBY⟩
             case measure=>simp[aW];omega
           ·as_aux_lemma=>
             have g3:decide ((kq:Int)< (S.n0:Int))=false:=by simp;omega
             have KF:w9h w wr:=dL.bel HBq.out
             skip
             go_wp2_with fail;go_at_call 55;refine(HW.out _).mono ?_;rintro e xz ⟨rfl,hz⟩;have HZ:=w9bt KF hz;clear hz;go_wp2_with fail;go_ret;exact⟨rfl,HZ.out⟩
end
end
end Go.Proofs.YtbeeenembgplmaaGreat
