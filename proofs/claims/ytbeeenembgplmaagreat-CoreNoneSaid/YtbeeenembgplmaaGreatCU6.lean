/- Made shorter by a tool: what the statements rest on. -/
import Derived.Test.YtbeeenembgplmaaGreatCU5
import Derived.Deep.Cut
import Derived.Deep.CutRange
import Derived.WalkKit
import Derived.LoopTactic
set_option maxRecDepth 100000
set_option maxHeartbeats 20000000
set_option linter.unusedVariables false
set_option linter.unusedSimpArgs false
open List renaming getElem?_eq_getElem -> aZ, replicate -> bg, length_cons -> bz, drop_zero -> bQ, drop_succ_cons -> bR, getElem?_eq_some_iff -> bZ, length_nil -> cx, nil_append -> cy, cons_append -> cC, length_append -> cE, range -> cI, size_toArray -> cJ, mem_map -> cM, push_toArray -> cQ, append_toArray -> cR, take_of_length_le -> de, length_take -> dj, mem_of_getElem? -> dp, mem_cons -> dy, mem_cons_self -> dC, mem_range -> dJ, length_map -> dV, getElem?_map -> dY, mem_cons_of_mem -> ea, map_append -> ec, getElem?_eq_none -> ej, mem_singleton -> eF, mem_append -> gc, length_replicate -> iq, ext_getElem? -> jD, mem_of_mem_take -> jE, take_add_one -> jZ, getElem?_take -> kx, flatten_cons -> kN, getElem?_replicate -> kO, filter_append -> lG, mem_filter -> lH, take_append_drop -> lK, not_mem_nil -> lM, getElem?_range -> mj
open Nat renaming le_refl -> aG, zero_le -> bc, le_trans -> bm, lt_of_lt_of_le -> bq, zero_add -> dP, mod_lt -> iI, le_of_lt -> jt, mul_le_mul -> kP, min_eq_left -> lJ
open Int renaming toNat_natCast -> iG, eq_ofNat_of_zero_le -> mO
open Array renaming getElem?_eq_some_iff -> bL, replicate_succ -> cO, replicate_zero -> cP
open Go.Lib renaming hid -> ae
open Go renaming World -> ah, Value -> ak, Calls -> ap, undef -> az, loadVar -> aE, Addr -> aF, storeVar -> aL, TypeId -> aR, wpQuiet_nil -> aV, maxLen -> aY, bodyPost_ret -> bo, heap_alloc_new -> cD, run_equalIn_agg -> cS, run_takeDeferred -> eU, info_parts -> fy, callsIn_of_wp_marks -> gA, run_loadVar_mid -> jF
open Go.Boxed renaming new -> dD
open Go.Instr renaming build -> df, buildSlice -> dh
open Go.IntWalk renaming wrap64_in -> kR
open Go.KeepsOthers renaming setCell -> iK
open Go.RowKit renaming Below -> ag, intOf -> aS
open Go.RowKit.Below renaming refl -> aI, heap_setCell -> eG
open Go.Value renaming ownBlock -> jb
open Go.World renaming size_alloc -> bO, cell?_of_block -> gj, ownsRow_nil -> jc, heap_setCells_other -> rk
open Go.Ending renaming returned -> ao
open Go.IntKind renaming i64 -> ac, u8 -> ay, u32 -> aO
open Go.Obj renaming cells -> an
open Go.Value renaming int -> ab, slice -> af, agg -> al, pointer -> am, tuple -> aQ
open Or renaming inl -> aA, inr -> aD
open Go.Proofs.Tryz
open Go.Proofs.Tryz renaming prog -> aj
namespace Go.Proofs.YtbeeenembgplmaaGreat
open Go.RowKit Go.Shelf Go.Lib
section
attribute [-simp] isAgg51 zeroValue51 isAgg205 zeroValue205 isAgg304 zeroValue304 isAgg226 zeroValue226 isAgg207 zeroValue207 isAgg198 zeroValue198 isAgg23 zeroValue23
attribute [-go_sem] aE aL cS
attribute [local go_sem] bC bD dz eK eL eM iD ew gH iC hU ia gI gJ
def DZ (C:List ak):Nat->List ak->List ak
 | _, []=>C
 | o,v::r=>DZ (C.set o v) (o+1) r
theorem aq.sets {B:Nat} {t:aR}:∀(u:List ak) (o:Nat) {C:List ak} {x:ah},aq x B t C->aq (x.setCells B o u) B t (DZ C o u)
 | [],_,_,_,h=>h
 | v::r,o,C,x,h=>aq.sets r (o+1) (h.set o v)
theorem Ea {f:Nat->Prop} {B:Nat} (hB:f B):∀(u:List ak) (o:Nat) (w:ah),Turn f f w (w.setCells B o u)
 | [],_,w=>Turn.refl f w
 | v::r,o,w=>(lU w B o v hB).trans (Ea hB r (o+1) _)
theorem Turn.frame {f g:Nat->Prop} {w w':ah} (h:Turn f g w w') (F:Nat->Prop):Turn (fun k=>f k\/F k) (fun k=>g k\/F k) w w':=
 ⟨h.still,h.others,fun k hk hn=>h.out k hk (fun hf=>hn (aA hf)),fun k hk=>hk.elim (fun hg=>(h.new k hg).imp aA id) (fun hF=>aA (aD hF))⟩
theorem Turn.less {f g g':Nat->Prop} {w w':ah} (h:Turn f g w w') (hg:∀k,g' k->g k\/w.heap.size<=k):Turn f g' w w':=
 ⟨h.still,h.others,h.out,fun k hk=>(hg k hk).elim (h.new k) aD⟩
theorem PgsR.of_owns {x:ah} {N n:Nat} {v:ak} {now:List (List Int)} (h:x.ownsRow N 205 48 v n (now.map aw).flatten) (hn:now.length=n) (h0:0<n) (hl:∀y ∈ now,y.length=48) (hf:n<=1000):
  ∃g c cur,v=af (some ⟨g,0,none⟩) n c/\PgsR x v g now/\N<=g/\x.heap[g]? =some (an cur 205 (0,0)):=by
 rcases h.2 with⟨rfl,h'⟩ | ⟨g,cap,cur,rfl,h1,h2,h3,h4,h5,h6⟩
 ·omega
 ·refine⟨g,cap,cur,rfl,⟨⟨_,_,by rw[hn],fun _=>rfl⟩,(bL.1 h2).1,fun j u hj=> ?_,hl,by omega⟩,h1,h2⟩;have:=h.cells (g:=g) rfl j u hj
  rwa [Addr.add_mid]at this
theorem ug {v:ak} {bs:List Int} (w:ah) (hv:Sl ay w v bs) (hb:aP bs) (hl:bs.length<=10000) (h0:0<dt bs):
  ap aj 128 #[v] w fun e w'=>∃g c cur,e=ao (af (some ⟨g,0,none⟩) (dt bs) c)/\PgsR w' (af (some ⟨g,0,none⟩) (dt bs) c) g (aX bs)/\w.heap.size<=g/\w'.heap[g]? =some (an cur 205 (0,0))/\ag w.heap.size w w':=by
 refine(IQ v bs w hv (by omega)).mono ?_;rintro e w' ⟨v',rfl,hO,hB⟩;rw[MW]at hO;obtain⟨g,c,cur,rfl,h1,h2,h3⟩:=PgsR.of_owns hO (lX bs) h0 (fun y hy=>(tm hb y hy).1) (by unfold dt;omega);exact⟨g,c,cur,rfl,h1,h2,h3,hB⟩
set_option maxRecDepth 100000 in
theorem Eb {w:ah} {b o:Nat} {a q:Int} (hc:w.rangeAt b o [ab ac a,ab aO q]):(aE 196 ⟨b,o,none⟩).run aj w=.ok (al #[ab ac a,ab aO q]) w:=
 jF w b o _ _ _ hc Tryz.underlying196 rfl (by kernel_rfl)
def uh (B C:Nat) (W:ah):Type:={x:ah // x.heap[B]? =W.heap[B]? /\x.heap[C]? =W.heap[C]? }
instance (B C:Nat) (W:ah):Nonempty (uh B C W):=⟨⟨W,rfl,rfl⟩⟩
section
theorem OR {rb p0 p1 m:Nat} {S:RS} {M:MS} {w:ah} {f:Nat->Prop} (h:dr (aU rb p0 p1 S) (eR m rb M) w f) (hr:S.Rdy) (hok:M.Ok S):
  ap aj 145 #[am (some ⟨m,0,none⟩)] w fun e w'=>e=ao (ab ac (S.bat [M.homW,M.supW]).2)/\∃f',(if(S.bat [M.homW,M.supW]).2=0 then dr (aU rb p0 p1 (S.bat [M.homW,M.supW]).1) (eR m rb M.ckpt)else aU rb p0 p1 (S.bat [M.homW,M.supW]).1) w' f'/\Turn f f' w w':=by
 obtain⟨f1,f2,hR,⟨Bb,cb,Bh,ch,a,q,hM,rfl⟩,hD,rfl⟩:=h;have hN:=Geo.nats hok.good;obtain⟨nH,nP,nR,nB,nC⟩:=Geo.goodNums hok.good;have hgi:=Geo.goodIn hok.good;have hpc:=hok.pcs;obtain⟨hm1,hm2,hm3,hm4⟩:=hok.homB;obtain⟨hs1,hs2,hs3,hs4⟩:=hok.supB;obtain⟨k1,k2,k3,k4,k5⟩:=RS.Rdy.st (m:=100) (d:=0) (l:=M.homW) hr.few ⟨hr.d0,by have:=hr.d1;omega⟩ hr.fu (by omega) hm1 hm2;have HOM:Hid (∀(x:ah) (f':Nat->Prop) (v:ak) (N:Nat),aU rb p0 p1 S x f'->x.ownsRow N 207 65 v (bU M.homW).length (bU M.homW).flatten->(∀g,v.ownBlock=some g->¬f' g)->
   ap aj 134 #[am (some ⟨rb,0,none⟩),v] x fun e w'=>e=ao (ab ac (S.st M.homW).2)/\∃f'',aU rb p0 p1 (S.st M.homW).1 w' f''/\Turn f' f'' x w'):=fun x f' v N hx hv hf=>
  xd hx (by have:=hr.fu;omega) ⟨hr.d0,by have:=hr.d1;omega⟩ hr.few (by omega) hm1 hm2 hm3 (by omega) hv hf
 have HSU:Hid (∀(x:ah) (f':Nat->Prop) (v:ak) (N:Nat),aU rb p0 p1 (S.st M.homW).1 x f'->x.ownsRow N 207 65 v (bU M.supW).length (bU M.supW).flatten->(∀g,v.ownBlock=some g->¬f' g)->
   ap aj 134 #[am (some ⟨rb,0,none⟩),v] x fun e w'=>e=ao (ab ac ((S.st M.homW).1.st M.supW).2)/\∃f'',aU rb p0 p1 ((S.st M.homW).1.st M.supW).1 w' f''/\Turn f' f'' x w'):=fun x f' v N hx hv hf=>
  xd hx (by omega) ⟨by omega,by omega⟩ k2 (by omega) (by rw[k1];exact hs1) hs2 hs3 (by omega) hv hf
 have hE2:((S.st M.homW).1.st M.supW).2=0\/((S.st M.homW).1.st M.supW).2=14:=(RS.st_spec (S:=(S.st M.homW).1) (l:=M.supW) (by rw[k1];exact hs1) hs2 k2 (by omega)).2.2.2.2.2;have hbat:=S.bat_two M.homW M.supW;obtain⟨S1,hS1⟩:=w9nm (S.st M.homW);rw[hS1]at HOM HSU hE2 hbat k5;obtain⟨S2,hS2⟩:=w9nm (S1.1.st M.supW);rw[hS2]at HSU hE2 hbat;obtain⟨RR,hRR⟩:=w9nm (S.bat [M.homW,M.supW]);rw[hRR]at hbat ⊢;have HBAT:=ae hbat;obtain⟨Po,hPo⟩:∃Po:ef,(if RR.2=0 then dr (aU rb p0 p1 RR.1) (eR m rb M.ckpt)else aU rb p0 p1 RR.1)=Po:=⟨_,rfl⟩;have HPO:=ae hPo;rw[hPo];obtain⟨er,her⟩:=w9nm RR.2;have HER:=ae her;rw[her];have HSL:=ae hM.sl;have HBY:=ae hok.bytes;have hbl:M.b.length<=714:=by have:=hok.len;have:=hN.b2;omega
 have HHL:=ae hok.homl;have HHB:Hid (∀x ∈ M.home,x.length=48):=fun x hx=>(hok.homb x hx).1;have HGI:=ae hgi;have HNH:=ae nH;have HSIN:Hid (SupIn (M.gen+1) M.g M.at0 M.seq):=Geo.supIn hok.good ⟨by have:=hok.gen.1;omega,by have:=hok.gen.2;omega⟩ ⟨Int.natCast_nonneg _,by have:=hok.at0;have:=hN.c;omega⟩ ⟨hok.seq.1,by have:=hok.seq.2;omega⟩;have HPC:=ae hpc;have HHS:=ae (MU M hpc);have HSW:Hid (M.supW= [(1 - M.sup,aw (eB (M.gen+1) M.g M.at0 M.seq).bytes)]):=by show _=_;rw[xh];rfl
 have HCL:Hid ((aX M.b).length=M.g.P):=by show _=_;rw[lX,hpc]
 have HCK:=ae (tm hok.bytes);have hg0:=hok.gen.1;have hg1:=hok.gen.2;have hsup:=hok.sup1;have hP2:2<=M.g.P:=hN.p1;have hP15:M.g.P<=15:=hN.p2;have hHb:M.g.H<=300:=by unfold Geo.H;have:=hN.c2;omega
 have HM:=ae hM;have HR:=ae hR;have HD:Hid (∀k,f1 k->k≠m/\k≠Bb/\k≠Bh):=fun k hk=>⟨fun e=>hD k hk (aA e),fun e=>hD k hk (aD (aA e)),fun e=>hD k hk (aD (aD e))⟩;obtain⟨P,hP⟩:=w9nm M.g.P;rw[hP]at hP2 hP15 HPC HCL HHL;have hmx:=w9x
 have c1:w.cell? ⟨m,1,none⟩=some (af (some ⟨Bb,0,none⟩) M.b.length cb):=hM.row.cell 1 _ rfl;have HCUT:=ae (ug w hM.sl hok.bytes (by omega) (by rw[hpc,hP];omega));rw[HPC.out]at HCUT;obtain⟨n,hn⟩:=w9nm M.b.length;have HN:=ae hn;rw[hn]at c1 HCUT;clear hR hM hD hN nH nP nR nB nC hgi hpc hm1 hm2 hm3 hm4 hs1 hs2 hs3 hs4 k1 k2 k3 k4 hr hok hS1 hS2 hRR hbat hP hn hbl hPo her;go_enter func145,ntmps145;go_wp2_with fail;go_at_call 128;refine HCUT.out.mono ?_;rintro e x1 ⟨Bp,cp,cur,rfl,hpg,hBp,hcur,hb⟩;have hM1:=HM.out.below hb;have L4:(aE 23 ⟨m,4,none⟩).run aj x1=.ok (al M.g.v) x1:=hM1.row.geoAt (g:=M.g) (pre:= [am (some ⟨rb,0,none⟩),af (some ⟨Bb,0,none⟩) M.b.length cb,af (some ⟨Bh,0,none⟩) M.home.length ch,ab aO M.gen]) (post:= [ab ac a,ab aO q,ab ac M.sup,ab ac M.at0,ab aO M.seq,ab ac M.room]) rfl;obtain⟨x2,ST2,r2,hb2⟩:=xF x1 M.g;obtain⟨Bg,hBg⟩:=w9nm x1.heap.size;rw[hBg]at ST2 r2;have hM2:=hM1.below hb2;have hR2:aU rb p0 p1 S x2 f1:=HR.out.beside (hb.trans (hb2.mono hb.size));have hpg2:=hpg.below hb2;have K2:w9h w x2:=hb.trans (hb2.mono hb.size);have HPG2:=ae hpg2;have HM2:=ae hM2;have HG2:=ae r2;have HBP:Hid (w.heap.size<=Bp/\Bp<Bg):=⟨hBp,by rw[←hBg];exact hpg.lt⟩;have HCUR:Hid (x2.heap[Bp]? =some (an cur 205 (0,0))):=(hb2.block _ hpg.lt).trans hcur;have d0:∀z:aM x2,z.1.cell? ⟨m,0,none⟩=some (am (some ⟨rb,0,none⟩)):=fun z=>(hM2.row.below z.2).cell 0 _ rfl;have d2:∀z:aM x2,z.1.cell? ⟨m,2,none⟩=some (af (some ⟨Bh,0,none⟩) P ch):=fun z=>by rw[←HHL.out];exact(hM2.row.below z.2).cell 2 _ rfl
 have dg:∀z:aM x2,(aE 23 ⟨Bg,0,none⟩).run aj z.1=.ok (al M.g.v) z.1:=fun z=>cG (r2.below z.2);clear hpg hBp hcur hb hM1 hb2 hM2 hpg2 r2 c1 HCUT;go_wp2_with fail;clear ST2 L4;refine du (fun x=>∃y:aM x2,x=y.1) 12 (.takes [0,1,2,3,4,5,6,7,8,9] (.one 10 (.one 11 .leaf))) hmx (by kernel_rfl) (by intro c x v a w h;cases x<;>exact h) ⟨⟨x2.drew,(aI _ x2).drew⟩,rfl⟩ ?_;repeat(rw[bu];simp only[aB,aC];go_big_quiet_step (fail);refine aV ?_)
 rw[bt,aT];simp only[aB,aC];clear d0 d2 dg;go_wp2_with fail;go_at_call 143;obtain⟨X,hX⟩:=w9nm x2.drew;have bX:ag x2.heap.size x2 X:=by rw[←hX];exact(aI _ x2).drew
 try rw[hX]
 refine(Dl _ _ _ _ _ _ X).mono ?_;rintro e x3 ⟨rfl,hx3⟩;have hsz:X.heap.size=x2.heap.size:=by rw[←hX];rfl
 have b3:ag X.heap.size X x3:=by rw[hx3];exact(aH X _).trans ((aH _ _).mono (by simp))
 have K3:w9h x2 x3:=bX.trans (b3.mono (by omega));obtain⟨Bw,hBw⟩:=w9nm X.heap.size;have hPW:PgsB x3 Bw Bh M.home:=by
  refine⟨⟨af (some ⟨Bh,0,none⟩) M.home.length ch, ?_,(HM2.out.pgs HHB.out (by rw[HHL.out];omega)).below K3.out⟩, ?_⟩
  ·rw[hx3,←hBw,HHL.out];exact(dD X _ _).alloc _
  ·rw[hx3,←hBw,bO,bO];omega
 have hPN:PgsB x3 (Bw+1) Bp (aX M.b):=by
  refine⟨⟨af (some ⟨Bp,0,none⟩) P cp, ?_,HPG2.out.below K3.out⟩, ?_⟩
  ·rw[hx3,←hBw];have:=dD (X.alloc (an #[af (some ⟨Bh,0,none⟩) P ch] 109)) 109 (af (some ⟨Bp,0,none⟩) P cp)
   rwa [bO]at this
  ·rw[hx3,←hBw,bO,bO];omega
 have hlt3:∀k,SD (Bw+1) Bp Bw Bh k->k<x3.heap.size:=by
  rintro k (rfl | rfl | rfl | rfl)
  ·exact hPN.lt
  ·obtain⟨⟨v,_,h⟩,_⟩:=hPN;exact h.lt
  ·exact hPW.lt
  ·obtain⟨⟨v,_,h⟩,_⟩:=hPW;exact h.lt
 have HHW:=ae (DU (H:=M.g.H) HGI.out HNH.out (by omega) HCL.out (by omega) HCK.out (jT M.home (aX M.b)) 220 #[am (some ⟨Bw+1,0,none⟩),am (some ⟨Bw,0,none⟩)]
  (enters_of func220 (by kernel_rfl) rfl) (SD (Bw+1) Bp Bw Bh) x3 hlt3 (Dm 2 (by omega) (Bw+1) Bp Bw Bh P M.home (aX M.b) HCL.out HHL.out x3 hPN hPW))
 rw[←HCL.out]at HHW;rw[←HHS.out]at HHW;rw[hBw];clear bX hX hx3 hsz b3 hBw hPW hPN hlt3;go_wp2_with fail;refine aN ⟨⟨x3,K3.out⟩,rfl⟩ ?_;rw[aT];simp only[aB,aC];go_wp2_with fail;go_at_call 131;refine HHW.out.mono ?_;rintro e x4 ⟨v4,rfl,hO,hb⟩;have K4:=w9bt K3 hb;have HO:=ae hO;have HX3:Hid (x2.heap.size<=x3.heap.size):=K3.out.size;clear hO hb HHW;go_wp2_with fail;refine aN ⟨⟨x4,K4.out⟩,rfl⟩ ?_;rw[cW];simp only[bR,bQ];have hf4:∀g,v4.ownBlock=some g->¬f1 g:=fun g e hf=>by
  have h1:=(HO.out.lt g e).1;have h2:=(aU.isRes rb p0 p1 S).lt HR.out g hf;have h3:=HX3.out;have h4:=K2.out.size;omega
 have hR4:aU rb p0 p1 S x4 f1:=HR.out.beside (K2.out.trans (K4.out.mono K2.out.size));have HST:=ae (HOM.out x4 f1 v4 x3.heap.size hR4 HO.out hf4);clear hf4 hR4 HOM;go_wp2_with fail;go_at_call 134;refine HST.out.mono ?_;rintro e x5 ⟨rfl,f5,hR5,hT5⟩;have K24:w9b w x4:=K2.out.trans (K4.out.mono K2.out.size);have HW5:Hid (∀k,k<x4.heap.size->¬f1 k->x5.heap[k]? =x4.heap[k]?):=hT5.out;have hm4:=HM2.out.below K4.out;have hm5:MemAt m rb Bb cb Bh ch a q M x5:=hm4.keep (hT5.out m hm4.lt.1 (fun h=>(HD.out m h).1 rfl)) (hT5.out Bb hm4.lt.2.1 (fun h=>(HD.out Bb h).2.1 rfl)) (hT5.out Bh hm4.lt.2.2 (fun h=>(HD.out Bh h).2.2 rfl));have hD5:∀k,f5 k->k≠m/\k≠Bb/\k≠Bh/\k≠Bp/\k≠Bg:=fun k hk=>by
  have hl:=hm4.lt;have hbg:=bq HG2.out.lt K4.out.size;have hbb:=HBP.out;have hbp:Bp<x4.heap.size/\w.heap.size<=Bp:=⟨bq (HG2.out.lt |> fun h=>Nat.lt_trans HBP.out.2 h) K4.out.size,HBP.out.1⟩;rcases hT5.new k hk with h1 | h1
  ·have:=HD.out k h1;have h2:=(aU.isRes rb p0 p1 S).lt HR.out k h1;exact⟨this.1,this.2.1,this.2.2,by omega,by omega⟩
  ·exact⟨by omega,by omega,by omega,by omega,by omega⟩
 have hBpn:¬f1 Bp:=fun h=>by
  have h2:=(aU.isRes rb p0 p1 S).lt HR.out Bp h;have:=HBP.out.1;omega
 have hBgn:¬f1 Bg:=fun h=>by
  have h2:=(aU.isRes rb p0 p1 S).lt HR.out Bg h;have:=HBP.out;omega
 have hcur5:x5.heap[Bp]? =some (an cur 205 (0,0)):=by
  have hl:Bp<x2.heap.size:=(bL.1 HCUR.out).1;rw[hT5.out Bp (bq hl K4.out.size) hBpn,K4.out.block Bp hl];exact HCUR.out
 have hpg5:PgsR x5 (af (some ⟨Bp,0,none⟩) P cp) Bp (aX M.b):=(HPG2.out.below K4.out).keep hT5.size (hT5.out Bp (bq HPG2.out.lt K4.out.size) hBpn);have hbg5:aq x5 Bg 23 M.g.cs:=(hT5.out Bg (bq HG2.out.lt K4.out.size) hBgn).trans (HG2.out.below K4.out);have HT5:Hid (Turn (fun k=>f1 k\/k=m\/k=Bb\/k=Bh) (fun k=>f5 k\/k=m\/k=Bb\/k=Bh) w x5):=(Turn.of_below K24).trans (hT5.frame _);have HM5:=ae hm5;have HR5:=ae hR5;have HD5:=ae hD5;have HC5:=ae hcur5;have HP5:=ae hpg5;have HG5:=ae hbg5;clear K24 hm4 hm5 hD5 hBpn hBgn hcur5 hpg5 hbg5 hT5 hR5 HST HO HX3 HW5;by_cases h1:S1.2=0
 ·have HB2:Hid (RR=S2):=by show _=_;rw[HBAT.out,if_pos h1]
  rw[h1];clear k5;have e0:x5.cell? ⟨m,3,none⟩=some (ab aO M.gen):=HM5.out.row.cell 3 _ rfl;have e0z:∀z:aM x5,z.1.cell? ⟨m,3,none⟩=some (ab aO M.gen):=fun z=>(HM5.out.row.below z.2).cell 3 _ rfl;have egz:∀z:aM x5,(aE 23 ⟨Bg,0,none⟩).run aj z.1=.ok (al M.g.v) z.1:=fun z=>cG (HG5.out.below z.2);have e12:∀z:aM x5,z.1.cell? ⟨m,12,none⟩=some (ab ac M.at0):=fun z=>(HM5.out.row.below z.2).cell 12 _ rfl;have e13:∀z:aM x5,z.1.cell? ⟨m,13,none⟩=some (ab aO M.seq):=fun z=>(HM5.out.row.below z.2).cell 13 _ rfl;have esp:∀z:aM x5,(aE 196 ⟨m,12,none⟩).run aj z.1=.ok (al #[ab ac M.at0,ab aO M.seq]) z.1:=fun z=>Eb fun j v hj=>by
   match j,hj with
   | 0,hj=>simp at hj;rw[←hj];exact e12 z
   | 1,hj=>simp at hj;rw[←hj];exact e13 z
   | j+2,hj=>simp at hj
  go_wp2_with fail;refine du (fun x=>∃y:aM x5,x=y.1) 13 (.takes [0,1,2,3,4,5,6,7,8,9,10] (.take 11 (.one 12 .leaf))) hmx (by kernel_rfl) (by intro c x v a w h;cases x<;>exact h) ⟨⟨x5.drew,(aI _ x5).drew⟩,rfl⟩ ?_;repeat(rw[bu];simp only[aB,aC];go_big_quiet_step (fail);refine aV ?_)
  rw[bt];clear e0 e0z egz e12 e13 esp;rw[rz];simp only[aB,aC];refine tw _ _ rfl rfl [(0,ab aO (M.gen+1)),(1,al M.g.v),(2,al #[ab ac M.at0,ab aO M.seq])] (al (cB (M.gen+1) M.g M.at0 M.seq).toArray) rfl (fun z _=>Dq (M.gen+1) M.g M.at0 M.seq z) ?_;refine aV ?_;obtain⟨X,hX⟩:=w9nm x5.drew;have bX:ag x5.heap.size x5 X:=by rw[←hX];exact(aI _ x5).drew
  try rw[hX]
  obtain⟨x6,ST6,r6,hb6⟩:=qS X (C:=cB (M.gen+1) M.g M.at0 M.seq) rfl (jU _ _ _ _);have hsz:X.heap.size=x5.heap.size:=by rw[←hX];rfl
  have K6:w9h x5 x6:=bX.trans (hb6.mono (by omega));have bA:ag x5.heap.size x5 (X.alloc (an fR.toArray 198)):=bX.trans ((aH X _).mono (by omega));obtain⟨Bs,hBs⟩:=w9nm X.heap.size;rw[hBs]at ST6 r6;have HS6:=ae r6;have HBS:Hid (x5.heap.size<=Bs):=by show _<=_;omega
  obtain⟨sc,hsc⟩:=w9nm ((cB (M.gen+1) M.g M.at0 M.seq).toArray);have HSC:=ae hsc;rw[hsc]at ST6;rw[hsc];clear hb6 r6 hsz bX hsc;rw[aT];simp only[aB,aC];go_wp2_with fail;refine aN ⟨⟨_,bA⟩,rfl⟩ ?_;rw[cW];simp only[bR,bQ];have hM6:=HM5.out.below K6.out;have c11:x6.cell? ⟨m,11,none⟩=some (ab ac M.sup):=hM6.row.cell 11 _ rfl;obtain⟨ol,hol⟩:∃ol:Nat,1 - M.sup=ol:=⟨_,rfl⟩;have hol':(1:Int) - (M.sup:Int)=(ol:Int):=by omega
  have HOL:=ae hol;have d0:∀z:aM x6,z.1.cell? ⟨m,0,none⟩=some (am (some ⟨rb,0,none⟩)):=fun z=>(hM6.row.below z.2).cell 0 _ rfl;have ds:∀z:aM x6,(aE 198 ⟨Bs,0,none⟩).run aj z.1=.ok (al sc) z.1:=fun z=>by rw[←HSC.out];exact(HS6.out.below z.2).sup
  have HSWR:Hid (∀x,ap aj 133 #[ab ac (ol:Int),al sc] x fun e w'=>e=ao (al (dW (ol,aw (eB (M.gen+1) M.g M.at0 M.seq).bytes)).toArray)/\ag x.heap.size x w'):=fun x=>by
   rw[←HSC.out];exact DI ol HSIN.out x
  clear hM6 hol;go_wp2_with fail;clear ST6 c11;refine du (fun x=>∃y:aM x6,x=y.1) 8 (.takes [0,1,2,3,4,5] (.one 6 (.one 7 .leaf))) hmx (by kernel_rfl) (by intro c x v a w h;cases x<;>exact h) ⟨⟨x6.drew,(aI _ x6).drew⟩,rfl⟩ ?_;repeat(rw[bu];simp only[aB,aC];go_big_quiet_step (fail);refine aV ?_)
  rw[bt,aT];simp only[aB,aC];clear d0 ds;go_wp2_with fail;go_at_call 133;refine(HSWR.out _).mono ?_;rintro e x7 ⟨rfl,hb⟩;have K7:w9h x6 x7:=((aI _ x6).drew).trans hb;have hbk:cz (aw (eB (M.gen+1) M.g M.at0 M.seq).bytes):=gQ (Sct.bytes_length (xz HSIN.out.gen _ _ _));have hwl:=nb (x:=(ol,aw (eB (M.gen+1) M.g M.at0 M.seq).bytes)) hbk.length;have HSW2:Hid (bU M.supW= [dW (ol,aw (eB (M.gen+1) M.g M.at0 M.seq).bytes)]):=by show _=_;rw[HSW.out,HOL.out];rfl
  obtain⟨wc,hwc⟩:=w9nm (dW (ol,aw (eB (M.gen+1) M.g M.at0 M.seq).bytes));rw[hwc]at hwl HSW2;rw[hwc];obtain⟨x8,hx8⟩:=w9nm (x7.alloc (an wc.toArray 207));have SB:(dh 199 1 #[(0,al wc.toArray)]).run aj x7=.ok (af (some ⟨x7.heap.size,0,none⟩) 1 1) x8:=by rw[←hx8];exact tt x7 _ hwl
  have b8:ag x7.heap.size x7 x8:=by rw[←hx8];exact aH x7 _
  have K8:=w9bt K7 b8;have hO8:x8.ownsRow x7.heap.size 207 65 (af (some ⟨x7.heap.size,0,none⟩) 1 1) (bU M.supW).length (bU M.supW).flatten:=by
   rw[HSW2.out];refine⟨by simp[hwl],aD ⟨x7.heap.size,1,wc.toArray,rfl,aG _,by rw[←hx8];exact cD x7 _,by simp,by unfold aY;omega,by simp[hwl], ?_⟩⟩;simp;exact de (by omega)
  have K58:w9b x5 x8:=K6.out.trans (K8.out.mono K6.out.size);have hR8:=(aU.isRes rb p0 p1 S1.1).below HR5.out K58;have hf8:∀g,(Value.slice (some ⟨x7.heap.size,0,none⟩) 1 1).ownBlock=some g->¬f5 g:=fun g e hf=>by
   have h1:x7.heap.size=g:=by simpa [jb]using e
   have h2:=(aU.isRes rb p0 p1 S1.1).lt HR5.out g hf;have h3:=K6.out.size;have h4:=K7.out.size;omega
  have HST:=ae (HSU.out x8 f5 _ x7.heap.size hR8 hO8 hf8);obtain⟨Bq,hBq⟩:=w9nm x7.heap.size;rw[hBq]at SB HST;clear hb hbk hwl hwc hx8 b8 hO8 hR8 hf8 HSU HSWR;go_wp2_with fail;refine aN ⟨⟨x7,K7.out⟩,rfl⟩ ?_;rw[aT];simp only[aB,aC];refine dR _ _ _ rfl rfl [(0,al wc.toArray)] _ rfl SB ?_;clear SB;go_wp2_with fail;refine aN ⟨⟨x8,K8.out⟩,rfl⟩ ?_;rw[cW];simp only[bR,bQ];clear hBq;go_wp2_with fail;go_at_call 134;refine HST.out.mono ?_;rintro e x9 ⟨rfl,f9,hR9,hT9⟩;have hm8:=HM5.out.below K58;have hm9:MemAt m rb Bb cb Bh ch a q M x9:=hm8.keep (hT9.out m hm8.lt.1 (fun h=>(HD5.out m h).1 rfl)) (hT9.out Bb hm8.lt.2.1 (fun h=>(HD5.out Bb h).2.1 rfl)) (hT9.out Bh hm8.lt.2.2 (fun h=>(HD5.out Bh h).2.2.1 rfl));have hbp5:Bp<x5.heap.size:=(bL.1 HC5.out).1;have hbp8:Bp<x8.heap.size:=bq hbp5 K58.size;have hD9:∀k,f9 k->k≠m/\k≠Bb/\k≠Bh/\k≠Bp:=fun k hk=>by
   have hl:=hm8.lt;rcases hT9.new k hk with h1 | h1
   ·exact⟨(HD5.out k h1).1,(HD5.out k h1).2.1,(HD5.out k h1).2.2.1,(HD5.out k h1).2.2.2.1⟩
   ·exact⟨by omega,by omega,by omega,by omega⟩
  have hcur9:x9.heap[Bp]? =some (an cur 205 (0,0)):=by
   rw[hT9.out Bp hbp8 (fun h=>(HD5.out Bp h).2.2.2.1 rfl),K58.block Bp hbp5];exact HC5.out
  have hpg9:PgsR x9 (af (some ⟨Bp,0,none⟩) P cp) Bp (aX M.b):=(HP5.out.below K58).keep hT9.size (hT9.out Bp hbp8 (fun h=>(HD5.out Bp h).2.2.2.1 rfl));have HT9:Hid (Turn (fun k=>f1 k\/k=m\/k=Bb\/k=Bh) (fun k=>f9 k\/k=m\/k=Bb\/k=Bh) w x9):=HT5.out.trans ((Turn.of_below K58).trans (hT9.frame _));have HW9:Hid (∀k,k<x5.heap.size->¬f5 k->x9.heap[k]? =x5.heap[k]?):=fun k hk hn=>(hT9.out k (bq hk K58.size) hn).trans (K58.block k hk);have hbg9:aq x9 Bg 23 M.g.cs:=(HW9.out Bg HG5.out.lt (fun h=>(HD5.out Bg h).2.2.2.2 rfl)).trans HG5.out;have hbs9:aq x9 Bs 198 (cB (M.gen+1) M.g M.at0 M.seq):=(hT9.out Bs (bq HS6.out.lt K8.out.size) (fun h=>by
   have h2:=(aU.isRes rb p0 p1 S1.1).lt HR5.out Bs h;have:=HBS.out;omega)).trans (HS6.out.below K8.out)
  have HM9:=ae hm9;have HR9:=ae hR9;have HD9:=ae hD9;have HC9:=ae hcur9;have HP9:=ae hpg9;have HG9:=ae hbg9;have HS9:=ae hbs9;have HWB:Hid (w.heap.size<=Bp):=HBP.out.1;clear hm8 hm9 hbp5 hbp8 hD9 hcur9 hpg9 hbg9 hbs9 hT9 hR9 HST K58 HW9;by_cases h2:S2.2=0
  ·rw[h2];have HRZ:Hid (RR.2=0/\RR.1=S2.1):=by refine(?_:_/\_);rw[HB2.out];exact⟨h2,rfl⟩
   clear hE2 h1 h2;have eg4:∀z:uh Bs Bg x9,z.1.cell? ⟨Bg,4,none⟩=some (ab ac M.g.r):=fun z=>(gj (a:=⟨Bg,4,none⟩) z.2.2).trans (HG9.out.cell 4 _ rfl);have esz:∀z:uh Bs Bg x9,(aE 198 ⟨Bs,0,none⟩).run aj z.1=.ok (al sc) z.1:=fun z=>by
    rw[←HSC.out];exact aq.sup (t:= 198) (z.2.1.trans HS9.out)
   obtain⟨X,hX⟩:=w9nm x9.drew;have bX:ag x9.heap.size x9 X:=by rw[←hX];exact(aI _ x9).drew
   have hmBs:m≠Bs/\m≠Bg:=by
    have h1:=HM.out.lt;have h2:=HBP.out;have h3:=HBS.out;have h4:=HG5.out.lt;exact⟨by omega,by omega⟩
   have r0:=HM9.out.row.below bX;have c2:X.cell? ⟨m,2,none⟩=some (af (some ⟨Bh,0,none⟩) M.home.length ch):=r0.cell 2 _ rfl;have f2:=r0.frozen 2;obtain⟨y1,hy1⟩:=w9nm (X.setCell ⟨m,2,none⟩ (af (some ⟨Bp,0,none⟩) P cp));have r1:=r0.set 2 (af (some ⟨Bp,0,none⟩) P cp);rw[hy1]at r1;have tS:y1.there m 3 8:=kD r1 3 8 (by simp[kq,cB]);have STS:=Dn (c:=cB (M.gen+1) M.g M.at0 M.seq) tS rfl (jU _ _ _ _);obtain⟨y2,hy2⟩:=w9nm (y1.setCells m 3 (cB (M.gen+1) M.g M.at0 M.seq));rw[hy2,HSC.out]at STS;have r2:=aq.sets (cB (M.gen+1) M.g M.at0 M.seq) 3 r1;rw[hy2]at r2;have c11:y2.cell? ⟨m,11,none⟩=some (ab ac M.sup):=r2.cell 11 _ rfl;have f11:=r2.frozen 11;obtain⟨y3,hy3⟩:=w9nm (y2.setCell ⟨m,11,none⟩ (ab ac ol));have r3:=r2.set 11 (ab ac ol);rw[hy3]at r3;have c14:y3.cell? ⟨m,14,none⟩=some (ab ac M.room):=r3.cell 14 _ rfl;have f14:=r3.frozen 14;obtain⟨y4,hy4⟩:=w9nm (y3.setCell ⟨m,14,none⟩ (ab ac M.g.r));have r4:=r3.set 14 (ab ac M.g.r);rw[hy4]at r4;have hrow:aq y4 m 213 (kq rb (af (some ⟨Bb,0,none⟩) M.b.length cb) (af (some ⟨Bp,0,none⟩) P cp) (M.gen+1) M.g M.at0 M.seq ol M.at0 M.seq M.g.r):=r4;have hk:∀k,k≠m->k<x9.heap.size->y4.heap[k]? =x9.heap[k]? :=fun k hk hl=>by
    have a1:y1.heap[k]? =X.heap[k]? :=by rw[←hy1];exact eG _ _ _ k hk
    have a2:y2.heap[k]? =y1.heap[k]? :=by rw[←hy2];exact rk _ _ _ _ (by rw[←hy1,lS];exact bq hl bX.size) hk
    have a3:y3.heap[k]? =y2.heap[k]? :=by rw[←hy3];exact eG _ _ _ k hk
    have a4:y4.heap[k]? =y3.heap[k]? :=by rw[←hy4];exact eG _ _ _ k hk
    rw[a4,a3,a2,a1];exact bX.block k hl
   have hlt9:=HM9.out.lt;have hpl9:Bp<x9.heap.size:=(bL.1 HC9.out).1;have hne:m≠Bp/\Bb≠Bp:=by
    have h1:=HM.out.lt;have h2:=HWB.out;exact⟨by omega,by omega⟩
   have hM4:MemAt m rb Bb cb Bp cp (M.at0:Int) M.seq M.ckpt y4:=by
    have hbb:=hk Bb (fun e=>HM9.out.mb e.symm) hlt9.2.1;have hpp:=hk Bp (fun e=>hne.1 e.symm) hpl9;refine⟨?_,HM9.out.mb,hne.1,hne.2,HM9.out.b0,by show 0< (aX M.b).length;rw[HCL.out];omega,HM9.out.cbl, ?_,ij HM9.out.bat hbb,⟨cur,_,hpp.trans HC9.out⟩,ij HP9.out.at_ hpp⟩
    ·show aq y4 m _ (kq rb _ (af _ (aX M.b).length cp) (M.gen+1) M.g M.at0 M.seq ((1 - M.sup:Nat):Int) M.at0 M.seq (M.g.r - ((0:Nat):Int)));rw[HCL.out,HOL.out,show M.g.r - ((0:Nat):Int)=M.g.r by omega];exact hrow
    ·obtain⟨c,t,e⟩:=HM9.out.cb';exact⟨c,t,hbb.trans e⟩
   have hR4:aU rb p0 p1 S2.1 y4 f9:=(aU.isRes rb p0 p1 S2.1).out HR9.out fun k hk'=>hk k (HD9.out k hk').1 ((aU.isRes rb p0 p1 S2.1).lt HR9.out k hk');have hT4:Turn (fun k=>f9 k\/k=m\/k=Bb\/k=Bh) (fun k=>f9 k\/k=m\/k=Bb\/k=Bh) x9 y4:=by
    refine(Turn.of_below bX).trans ?_;rw[←hy4,←hy3,←hy2,←hy1];exact(((lU _ m 2 _ (aD (aA rfl))).trans (Ea (aD (aA rfl)) _ 3 _)).trans (lU _ m 11 _ (aD (aA rfl)))).trans (lU _ m 14 _ (aD (aA rfl)))
   have HTF:Hid (Turn (fun k=>f1 k\/k=m\/k=Bb\/k=Bh) (fun k=>f9 k\/k=m\/k=Bb\/k=Bp) w y4):=(HT9.out.trans hT4).less fun k hk=>by
    rcases hk with h | h | h | h
    ·exact aA (aA h)
    ·exact aA (aD (aA h))
    ·exact aA (aD (aD (aA h)))
    ·right;rw[h];exact HWB.out
   have HSEP:Hid (dr (aU rb p0 p1 S2.1) (eR m rb M.ckpt) y4 (fun k=>f9 k\/k=m\/k=Bb\/k=Bp)):=⟨f9,_,hR4,⟨Bb,cb,Bp,cp,M.at0,M.seq,hM4,rfl⟩,fun k hk h=>by
    have:=HD9.out k hk;rcases h with h | h | h
    ·exact this.1 h
    ·exact this.2.1 h
    ·exact this.2.2.2 h,rfl⟩
   have kX:X.heap[Bs]? =x9.heap[Bs]? /\X.heap[Bg]? =x9.heap[Bg]? :=⟨bX.block Bs HS9.out.lt,bX.block Bg HG9.out.lt⟩;have k1:y1.heap[Bs]? =x9.heap[Bs]? /\y1.heap[Bg]? =x9.heap[Bg]? :=by rw[←hy1];exact⟨(eG _ _ _ _ (fun e=>hmBs.1 e.symm)).trans kX.1,(eG _ _ _ _ (fun e=>hmBs.2 e.symm)).trans kX.2⟩
   have l1:Bs<y1.heap.size/\Bg<y1.heap.size:=by rw[←hy1,lS];exact⟨bq HS9.out.lt bX.size,bq HG9.out.lt bX.size⟩
   have k2:y2.heap[Bs]? =x9.heap[Bs]? /\y2.heap[Bg]? =x9.heap[Bg]? :=by rw[←hy2];exact⟨(rk _ _ _ _ l1.1 (fun e=>hmBs.1 e.symm)).trans k1.1,(rk _ _ _ _ l1.2 (fun e=>hmBs.2 e.symm)).trans k1.2⟩
   have k3:y3.heap[Bs]? =x9.heap[Bs]? /\y3.heap[Bg]? =x9.heap[Bg]? :=by rw[←hy3];exact⟨(eG _ _ _ _ (fun e=>hmBs.1 e.symm)).trans k2.1,(eG _ _ _ _ (fun e=>hmBs.2 e.symm)).trans k2.2⟩
   clear r0 r1 r2 r3 r4 tS bX hrow hk hlt9 hpl9 hne hM4 hR4 hT4 hmBs l1;go_wp2_with fail;refine du (fun x=>∃y:uh Bs Bg x9,x=y.1) 20 (.takes [0,1,2,3,4,5,6,7,8,9,10] (.one 11 (.takes [12,13] (.one 14 (.takes [15,16] (.one 17 (.takes [18,19] .leaf))))))) hmx (by kernel_rfl) (by intro c x v a w h;cases x<;>exact h) ⟨⟨x9.drew,rfl,rfl⟩,rfl⟩ ?_;repeat(rw[bu];simp only[aB,aC];go_big_quiet_step (fail);refine aV ?_)
   rw[bt,aT];simp only[aB,aC];try rw[hX]
   go_wp2_with fail;refine aN ⟨⟨y1,k1⟩,rfl⟩ ?_;repeat(rw[bu];simp only[aB,aC];go_big_quiet_step (fail);refine aV ?_)
   rw[bt,aT];simp only[aB,aC];clear hX hy1 c2 f2;go_wp2_with fail;refine aN ⟨⟨y2,k2⟩,rfl⟩ ?_;repeat(rw[bu];simp only[aB,aC];go_big_quiet_step (fail);refine aV ?_)
   rw[bt,aT];simp only[aB,aC];clear STS;go_wp2_with fail;refine aN ⟨⟨y3,k3⟩,rfl⟩ ?_;repeat(rw[bu];simp only[aB,aC];go_big_quiet_step (fail);refine aV ?_)
   rw[bt,cW];simp only[bR,bQ];clear eg4 esz hy3;go_wp2_with fail;go_ret;rw[←HPO.out,if_pos HRZ.out.1,←HER.out,HRZ.out.1,HRZ.out.2];exact⟨rfl,_,HSEP.out,HTF.out⟩
  ·have h14:S2.2=14:=hE2.resolve_left h2;have HRZ:Hid (RR.2=14/\RR.1=S2.1):=by refine(?_:_/\_);rw[HB2.out];exact⟨h14,rfl⟩
   rw[h14];have HTF:Hid (Turn (fun k=>f1 k\/k=m\/k=Bb\/k=Bh) f9 w x9):=HT9.out.less fun k hk=>aA (aA hk);clear hE2 h1 h2 h14;go_wp2_with fail;go_ret;rw[←HPO.out,if_neg (by rw[HRZ.out.1];omega),←HER.out,HRZ.out.1,HRZ.out.2];exact⟨rfl,_,HR9.out,HTF.out⟩
 ·have h14:S1.2=14:=k5.resolve_left h1;have HRZ:Hid (RR.2=14/\RR.1=S1.1):=by refine(?_:_/\_);rw[HBAT.out,if_neg h1];exact⟨h14,rfl⟩
  rw[h14];have HTF:Hid (Turn (fun k=>f1 k\/k=m\/k=Bb\/k=Bh) f5 w x5):=HT5.out.less fun k hk=>aA (aA hk);clear k5 h1 h14;go_wp2_with fail;go_ret;rw[←HPO.out,if_neg (by rw[HRZ.out.1];omega),←HER.out,HRZ.out.1,HRZ.out.2];exact⟨rfl,_,HR5.out,HTF.out⟩
end
end
section
theorem OS (S:RS) {M:MS} {b:List Int} (h:M.dif b= []):S.cmt M b=(S,0)/\M.next b=M:=by
 unfold RS.cmt MS.bats MS.next;rw[if_pos h,if_pos h];exact⟨rfl,rfl⟩
theorem OT (S:RS) {M:MS} {b:List Int} (h:M.dif b≠ []) (hf:M.full b):(S.cmt M b=if(S.bat [M.homW,M.supW]).2=0 then(S.bat [M.homW,M.supW]).1.bat (M.appW b)else S.bat [M.homW,M.supW])/\M.next b=M.ckpt.app b:=by
 unfold RS.cmt MS.bats MS.next;rw[if_neg h,if_pos hf,if_neg h,if_pos hf];exact⟨RS.bat_append _ _ _,rfl⟩
theorem OU (S:RS) {M:MS} {b:List Int} (h:M.dif b≠ []) (hf:¬M.full b):S.cmt M b=S.bat (M.appW b)/\M.next b=M.app b:=by
 unfold RS.cmt MS.bats MS.next;rw[if_neg h,if_neg hf,if_neg h,if_neg hf];exact⟨rfl,rfl⟩
def me (now:List (List Int)) {m:Nat} (xs:List (Fin m)):List Img:=xs.map fun x=>⟨(x.1:Int),bE now x.1⟩
theorem OV (now:List (List Int)) {m:Nat} (pre:List (Fin m)) (x:Fin m):cL (me now (pre++ [x]))=cL (me now pre)++ [(⟨(x.1:Int),bE now x.1⟩:Img).cells]:=by
 unfold cL me;rw[ec,ec]
 rfl
theorem OW {S:RS} {M:MS} {b:List Int} (h:M.Ok S) (hl:b.length=M.b.length):M.dif b=me (aX b) (fX M.g.P (jT (aX M.b) (aX b))):=by
 unfold MS.dif;rw[MT,lX,h.pcs' hl]
 rfl
structure TailOk (S:RS) (M:MS) (t:List Img):Prop where
 fu:S.fuse<=1000000
 d:0<=S.done/\S.done<=900000
 few:S.Few 250
 n0:S.n0<=4096
 c:2+M.g.C<=S.n0
 good:M.g.good
 at0:M.at0<M.g.C
 seq:0<=M.seq/\M.seq<=1000000
 txn:TxnOk M.g.C t
 room: -1000000<=M.room/\M.room<=1000000
theorem MS.Ok.tail {S:RS} {M:MS} {b:List Int} (h:M.Ok S) (hr:S.Rdy) (hl:b.length=M.b.length) (hb:aP b) (hd:M.dif b≠ []):TailOk S M (M.dif b):=by
 have hN:=Geo.nats h.good;have hrm:=h.room;have hu:=h.used;exact⟨hr.fu,⟨hr.d0,by have:=hr.d1;omega⟩,hr.few.mono (by omega),hr.n0,by omega,h.good,h.at0,h.seq,h.txn hl hb hd,by unfold MS.room;have:=hN.c;have:=hN.c2;omega⟩
theorem MS.Ok.tail2 {S:RS} {M:MS} {b:List Int} (h:M.Ok S) (hr:S.Rdy) (hl:b.length=M.b.length) (hb:aP b) (hd:M.dif b≠ []):TailOk (S.bat [M.homW,M.supW]).1 M.ckpt (M.dif b):=by
 have hN:=Geo.nats h.good;have hrm:=h.room;obtain⟨hm1,hm2,hm3,hm4⟩:=h.homB;obtain⟨hs1,hs2,hs3,hs4⟩:=h.supB;obtain⟨k1,k2,k3,k4,k5⟩:=RS.Rdy.st (m:=100) (d:=0) (l:=M.homW) hr.few ⟨hr.d0,by have:=hr.d1;omega⟩ hr.fu (by omega) hm1 hm2;obtain⟨j1,j2,j3,j4,j5⟩:=RS.Rdy.st (S:=(S.st M.homW).1) (m:=101) (d:=0+M.homW.length+1) (l:=M.supW) k2 k3 k4 (by omega) (by rw[k1];exact hs1) hs2;have key:(S.bat [M.homW,M.supW]).1.n0=S.n0/\(S.bat [M.homW,M.supW]).1.Few 250/\(0<=(S.bat [M.homW,M.supW]).1.done/\(S.bat [M.homW,M.supW]).1.done<=900000)/\(S.bat [M.homW,M.supW]).1.fuse<=1000000:=by
  rw[RS.bat_two];split
  ·exact⟨j1.trans k1,j2.mono (by omega),⟨j3.1,by have:=j3.2;omega⟩,j4⟩
  ·exact⟨k1,k2.mono (by omega),⟨k3.1,by have:=k3.2;omega⟩,k4⟩
 obtain⟨e1,e2,e3,e4⟩:=key;have hn:=hr.n0;refine⟨e4,e3,e2,by rw[e1];exact hn, ?_,h.good,h.at0,h.seq,h.txn hl hb hd, ?_⟩
 ·rw[e1];show 2+M.g.C<=_;omega
 ·show -1000000<=M.g.r - ((0:Nat):Int)/\M.g.r - ((0:Nat):Int)<=1000000;have:=hN.c;have:=hN.c2;omega
theorem OX (S:RS) (M:MS) (b:List Int):S.app 2 M.g.C M.at0 M.seq (M.dif b)=S.bat (M.appW b):=RS.app_bat S 2 M.g.C M.at0 M.seq (M.dif b)
theorem RS.bat_e:∀(ls:List cH) (S:RS),(S.bat ls).2=0\/(S.bat ls).2=14
 | [],_=>aA rfl
 | l::ls,S=>by
  rw[RS.bat_cons];split
  ·exact aD rfl
  ·split
   ·exact aD rfl
   ·exact RS.bat_e ls _
theorem OY (S:RS) (F C A:Nat) (q:Int) (t:List Img):(S.app F C A q t).2=0\/(S.app F C A q t).2=14:=by
 rw[RS.app_bat];exact RS.bat_e _ _
def nf (A B C:Nat) (W:ah):Type:={x:ah // x.heap[A]? =W.heap[A]? /\x.heap[B]? =W.heap[B]? /\x.heap[C]? =W.heap[C]? }
instance (A B C:Nat) (W:ah):Nonempty (nf A B C W):=⟨⟨W,rfl,rfl,rfl⟩⟩
end
section
attribute [-simp] isAgg51 zeroValue51 isAgg205 zeroValue205 isAgg304 zeroValue304 isAgg226 zeroValue226 isAgg207 zeroValue207 isAgg198 zeroValue198 isAgg23 zeroValue23
attribute [-go_sem] aE aL cS
theorem xG (w:ah):(zeroValue 196).run aj w=.ok (al #[ab ac 0,ab aO 0]) w:=by kernel_rfl
attribute [local go_sem] xG bC bD dz eK eL eM iD ew gH iC hU ia gI gJ xe Oper.semAt_some
section
theorem OZ {rb p0 p1 m:Nat} {S:RS} {M:MS} {w:ah} {f:Nat->Prop} (h:dr (aU rb p0 p1 S) (eR m rb M) w f) (hr:S.Rdy) (hok:M.Ok S) {v:ak} {bs:List Int} (hv:Sl ay w v bs) (hbs:aP bs) (hl:bs.length=M.b.length) (ha:ub v f):
  ap aj 60 #[am (some ⟨m,0,none⟩),v] w fun e w'=>e=ao (ab ac (S.cmt M bs).2)/\∃f',(if(S.cmt M bs).2=0 then dr (aU rb p0 p1 (S.cmt M bs).1) (eR m rb (M.next bs))else aU rb p0 p1 (S.cmt M bs).1) w' f'/\Turn f f' w w':=by
 obtain⟨Po,hPo⟩:∃Po:ef,(if(S.cmt M bs).2=0 then dr (aU rb p0 p1 (S.cmt M bs).1) (eR m rb (M.next bs))else aU rb p0 p1 (S.cmt M bs).1)=Po:=⟨_,rfl⟩;have HPO:=ae hPo;rw[hPo];obtain⟨er,her⟩:=w9nm ((S.cmt M bs).2);have HER:=ae her;rw[her];have HSEP:=ae h;obtain⟨f1,f2,hR,⟨Bb,cb,Bh,ch,a,q,hM,hf2⟩,hD,hf⟩:=h;subst hf2;have hN:=Geo.nats hok.good;have HFF:=ae hf;have hpc:=hok.pcs;have hpc':=hok.pcs' hl;have hb2:M.b.length<=714:=by have:=hok.len;have:=hN.b2;omega
 have HCK:=ae (tm hbs);have HCP:Hid (∀x,ag w.heap.size w x->ap aj 145 #[am (some ⟨m,0,none⟩)] x fun e w'=>e=ao (ab ac (S.bat [M.homW,M.supW]).2)/\∃f',(if(S.bat [M.homW,M.supW]).2=0 then dr (aU rb p0 p1 (S.bat [M.homW,M.supW]).1) (eR m rb M.ckpt)else aU rb p0 p1 (S.bat [M.homW,M.supW]).1) w' f'/\Turn f f' x w'):=fun x hx=>OR (((aU.isRes rb p0 p1 S).sep (eR.isRes m rb M)).below HSEP.out hx) hr hok;have HHL:Hid ((aX bs).length=M.g.P):=by show _=_;rw[lX,hpc']
 have HHW:Hid ((aX M.b).length=M.g.P):=by show _=_;rw[lX,hpc]
 have HDI:=ae (OW hok hl);have HT1:Hid (M.dif bs≠ []->TailOk S M (M.dif bs)):=fun hd=>hok.tail hr hl hbs hd;have HT2:Hid (M.dif bs≠ []->TailOk (S.bat [M.homW,M.supW]).1 M.ckpt (M.dif bs)):=fun hd=>hok.tail2 hr hl hbs hd;have HOK:=ae hok;have HRY:=ae hr;have HM:=ae hM;have HR:=ae hR;have HVS:=ae hv;have HBS:=ae hbs;have HLN:=ae hl;have HVA:=ae ha;have HD:Hid (∀k,f1 k->k≠m/\k≠Bb/\k≠Bh):=fun k hk=>⟨fun e=>hD k hk (aA e),fun e=>hD k hk (aD (aA e)),fun e=>hD k hk (aD (aD e))⟩;have hP2:2<=M.g.P:=hN.p1;have hP15:M.g.P<=15:=hN.p2;obtain⟨P,hP⟩:=w9nm M.g.P;rw[hP]at hP2 hP15 HHL HHW HDI hpc hpc';have hmx:=w9x
 have c1:w.cell? ⟨m,1,none⟩=some (af (some ⟨Bb,0,none⟩) M.b.length cb):=hM.row.cell 1 _ rfl;have HCUT1:Hid (∀x,ag w.heap.size w x->ap aj 128 #[af (some ⟨Bb,0,none⟩) M.b.length cb] x fun e w'=>∃g c cur,e=ao (af (some ⟨g,0,none⟩) P c)/\PgsR w' (af (some ⟨g,0,none⟩) P c) g (aX M.b)/\x.heap.size<=g/\w'.heap[g]? =some (an cur 205 (0,0))/\ag x.heap.size x w'):=fun x hx=>by
  have:=ug x (hM.below hx).sl hok.bytes (by omega) (by rw[hpc];omega)
  rwa [hpc]at this
 have HCUT2:Hid (∀x,ag w.heap.size w x->ap aj 128 #[v] x fun e w'=>∃g c cur,e=ao (af (some ⟨g,0,none⟩) P c)/\PgsR w' (af (some ⟨g,0,none⟩) P c) g (aX bs)/\x.heap.size<=g/\w'.heap[g]? =some (an cur 205 (0,0))/\ag x.heap.size x w'):=fun x hx=>by
  have:=ug x (hv.below hx) hbs (by omega) (by rw[hpc'];omega)
  rwa [hpc']at this
 have hne:bs≠ []:=by intro e;rw[e]at hl;have:=hM.b0;simp at hl;omega
 obtain⟨Bv,ov,cv,rfl,hvl⟩:∃Bv ov cv,v=af (some ⟨Bv,ov,none⟩) bs.length cv/\Bv<w.heap.size:=by
  obtain⟨a',c',e,_,_,hla,_⟩:=hv;rcases hla with h0 | ⟨b',o',e',h3,_⟩
  ·exact absurd h0 hne
  ·exact⟨b',o',c',by rw[e,e'],h3⟩
 have HVF:Hid (¬f1 Bv/\Bv≠m/\Bv≠Bb/\Bv≠Bh/\Bv<w.heap.size):=by
  have hn:=ha Bv ov bs.length cv rfl;rw[hf]at hn;exact⟨fun h=>hn (aA h),fun h=>hn (aD (aA h)),fun h=>hn (aD (aD (aA h))),fun h=>hn (aD (aD (aD h))),hvl⟩
 obtain⟨n,hn⟩:=w9nm M.b.length;have HN:=ae hn;rw[hl,hn]at HVS HVA HCUT2;rw[hn]at c1 HCUT1;rw[hl,hn];clear hR hM hD hN hpc hpc' hb2 hr hok hbs hl hne hP hn hv ha hf hPo her hvl;refine(callsIn_wide (n:=3)).1 ?_;refine gA func60 rfl trivial ?_ rfl;simp only[ntmps60,cJ,bz,cx,Nat.reduceAdd,Nat.reduceSub,cO,cP,cQ,cR,cy,cC];obtain⟨W0,hW0⟩:=w9nm (w.alloc (an #[af none 0 0] 223));have b0:ag w.heap.size w W0:=by rw[←hW0];exact aH w _
 have hbx:Boxed W0 w.heap.size 223 (af none 0 0):=by rw[←hW0];exact dD w _ _
 have c1':W0.cell? ⟨m,1,none⟩=some (af (some ⟨Bb,0,none⟩) n cb):=(b0.cell (p:=⟨m,1,none⟩) HM.out.lt.1).trans c1;obtain⟨Bi,hBi⟩:=w9nm w.heap.size;have HBI:=ae hBi;rw[hBi]at hbx;have HZ0:Hid (W0.heap.size=Bi+1):=by show _=_;rw[←hW0,bO,hBi]
 have HB0:=ae b0;have HX0:=ae hbx;clear b0 hbx
 gi_wp2_with (first | (refine⟨trivial, ?_⟩;gi_at_call 128;refine(callsIn_wide.2 (HCUT1.out W0 HB0.out)).mono ?_;rintro e x1 ⟨Bp,cp,cur,rfl,hpg,hBp,hcur,hb⟩;have K1:w9h w x1:=HB0.out.trans (hb.mono HB0.out.size);have X1:Hid (Boxed x1 Bi 223 (af none 0 0)):=HX0.out.kept (dS hb none) (by simp);have P1:=ae hpg;have Z01:Hid (W0.heap.size<=x1.heap.size):=hb.size;have L1:Hid (W0.heap.size<=Bp):=hBp;clear hpg hBp hcur hb HX0 HB0) | (refine⟨trivial, ?_⟩;gi_at_call 128;refine(callsIn_wide.2 (HCUT2.out x1 K1.out)).mono ?_;rintro e x2 ⟨Bq,cq,cur2,rfl,hpg,hBp,hcur,hb⟩;have K2:w9h w x2:=K1.out.trans (hb.mono K1.out.size);have X2:Hid (Boxed x2 Bi 223 (af none 0 0)):=X1.out.kept (dS hb none) (by simp);have P2:=ae hpg;have P1':=ae (P1.out.below hb);have L2:Hid (x1.heap.size<=Bq/\W0.heap.size<=x1.heap.size):=⟨hBp,Z01.out⟩;clear hpg hBp hcur hb X1 P1 K1) | (refine⟨trivial, ?_⟩;gi_at_call 143;refine(callsIn_wide.2 (Dl _ _ _ _ _ _ x2)).mono ?_;rintro e x3 ⟨rfl,hx3⟩;have HX3:=ae hx3;clear hx3))
 have hx3:=HX3.out;obtain⟨Bw,hBw⟩:=w9nm x2.heap.size;have b3:ag x2.heap.size x2 x3:=by rw[hx3];exact(aH x2 _).trans ((aH _ _).mono (by simp))
 have hPW:PgsB x3 Bw Bp (aX M.b):=by
  refine⟨⟨af (some ⟨Bp,0,none⟩) P cp, ?_,P1'.out.below b3⟩, ?_⟩
  ·rw[hx3,←hBw];exact(dD x2 _ _).alloc _
  ·rw[hx3,←hBw,bO,bO];omega
 have hPN:PgsB x3 (Bw+1) Bq (aX bs):=by
  refine⟨⟨af (some ⟨Bq,0,none⟩) P cq, ?_,P2.out.below b3⟩, ?_⟩
  ·rw[hx3,←hBw];have:=dD (x2.alloc (an #[af (some ⟨Bp,0,none⟩) P cp] 109)) 109 (af (some ⟨Bq,0,none⟩) P cq)
   rwa [bO]at this
  ·rw[hx3,←hBw,bO,bO];omega
 have hlt3:∀k,SD (Bw+1) Bq Bw Bp k->k<x3.heap.size/\k≠Bi:=by
  have hz:=HZ0.out;have h2:=L2.out;have h1:=L1.out;have h3:=b3.size;have hp1:=P1'.out.lt;have hp2:=P2.out.lt;rintro k (rfl | rfl | rfl | rfl)
  ·exact⟨hPN.lt,by omega⟩
  ·exact⟨by omega,by omega⟩
  ·exact⟨hPW.lt,by omega⟩
  ·exact⟨by omega,by omega⟩
 have HLT:=ae hlt3;have HBX:Hid (Boxed x3 Bi 223 (af none 0 0)):=X2.out.kept (dS b3 none) (by simp);have K3:=w9bt K2 b3;have HIT:=ae (Dm 2 (by omega) (Bw+1) Bq Bw Bp P (aX M.b) (aX bs) HHL.out HHW.out x3 hPN hPW);have HBl:Hid (Bi<x3.heap.size):=HBX.out.lt;have HLB:=ae (fun x hx=>(HCK.out x hx).1);have HKA:Hid (∀(W W':ah),x3.heap.size<=W.heap.size->ag W.heap.size W W'->dG (SD (Bw+1) Bq Bw Bp) W W'):=fun W W' h h'=>⟨h'.size,fun k hk=>h'.block k (bq (HLT.out k hk).1 h)⟩;rw[hBw];clear b3 hPW hPN hlt3 hx3 hBw hW0 c1' P1' P2 X2 HCUT1 HCUT2;refine wpIn_rangeFunc_ownH (n:=3) rfl (by omega) (gf:= 220) (lb:=#[am (some ⟨Bw+1,0,none⟩),am (some ⟨Bw,0,none⟩)]) rfl trivial (enters_of func220 (by kernel_rfl) rfl)
  HIT.out jJ (qi (fun k hk=>(HLT.out k hk).1)) (aI _ _) (fun _=>rfl)
  (fun pre W=>(∃v,Boxed W Bi 223 v/\W.ownsRow x3.heap.size 226 49 v (cL (me (aX bs) pre)).length (cL (me (aX bs) pre)).flatten)/\(x3.heap.size<=W.heap.size/\∀k,k<x3.heap.size->k≠Bi->W.heap[k]? =x3.heap[k]?)/\ag Bi w W)
  (fun _ _ _=>False)
  ?hI ?hIx ⟨⟨_,HBX.out,jc _ _ _ _⟩,⟨aG _,fun _ _ _=>rfl⟩,by rw[←hBi];exact K3.out⟩
  (fun x a' W=>∃C,x3.heap.size<=C/\aq W C 205 (aw (bE (aX bs) x.1))/\a'={tmps:=#[am (some ⟨m,0,none⟩),af (some ⟨Bv,ov,none⟩) n cv,az,az,ab ac 0,am (some ⟨Bi,0,none⟩),ab ac (x.1:Int),am (some ⟨C,0,none⟩),az,az,az,az,am (some ⟨m,0,none⟩),.bool false,.bool false,af (some ⟨Bv,ov,none⟩) n cv,ab ac (n:Int),am (some ⟨m,0,none⟩),am (some ⟨m,0,none⟩),am (some ⟨m,1,none⟩),af (some ⟨Bb,0,none⟩) n cb,ab ac (n:Int),.bool false,.bool false,am (some ⟨m,0,none⟩),am (some ⟨m,0,none⟩),am (some ⟨m,1,none⟩),af (some ⟨Bb,0,none⟩) n cb,af (some ⟨Bp,0,none⟩) P cp,af (some ⟨Bv,ov,none⟩) n cv,af (some ⟨Bq,0,none⟩) P cq,.func (.func 220) #[] #[am (some ⟨Bw+1,0,none⟩),am (some ⟨Bw,0,none⟩)],ab ac (x.1:Int),al (aw (bE (aX bs) x.1)).toArray,az,az,az,az,az,az,az,az,az,az,az,az,az,az,az,az,az,az,az,az,az,az,az,az,az,az,az,az,az,az,az,az,az,az,az,az,az,az,az,az,az,az,az,az,az,az,az,az,az,az,az,az,az,az,az,az,az,az,az,az,az,az,az,az,az,az,az,az,az,az,az,az,az,az,az,az,az],defers:= []})
  ?hAx ?assign ?body ?done ?stop
 case hI=>
  rintro s X Y row ⟨⟨v,h1,h2⟩,⟨h3,h4⟩,h5⟩ hg hr;exact⟨⟨v,boxed_own _ _ (fun _:Unit=>_) () X Y row h1 hg (fun r e=>(hr r e).2),DT h2 hg hr⟩,⟨bm h3 hg.size,fun k hk hn=>(hg.block k (bq hk h3) (fun e=>by have:=(hr k e.symm).1;omega)).trans (h4 k hk hn)⟩,ownFrom_below (β:=Unit) (B:=x3.heap.size) (Nat.le_of_eq hBi.symm) (by have:=HBl.out;omega) () X Y row h5 hg hr⟩
 case hIx=>exact fun _ _ _ _ _ h _ _=>h.elim
 case assign=>
  rintro l pre x W K ⟨⟨v,h1,h2⟩,⟨h3,h4⟩,h5⟩ hK;have hxn:(bE (aX bs) x.1).length=48:=by
   have hx:x.1< (aX bs).length:=by rw[HHL.out];exact x.2
   have e:(aX bs)[x.1]? =some (bE (aX bs) x.1):=by unfold bE;rw[aZ hx];rfl
   exact HLB.out _ (dp e)
  obtain⟨y,ST,hr,hb⟩:=qP W hxn;obtain⟨C,hC⟩:=w9nm W.heap.size;have hlt:x3.heap.size<=C:=by omega
  have hK:=hK _ y ((KeepsOthers.of_grownBy (dS hb none) (fun j o e=>by cases e)).from _) (HKA.out W y h3 hb) ⟨⟨v,(hb.block _ h1.lt).trans h1,jm h2 hb⟩,⟨bm h3 hb.size,fun k hk hn=>(hb.block k (bq hk h3)).trans (h4 k hk hn)⟩,h5.trans (hb.mono (by have:=h1.lt;omega))⟩ ⟨C,hlt,by rw[←hC];exact hr,rfl⟩;rw[hC]at ST;clear h1 h2 h3 h4 h5 hr hb hxn hlt
  dsimp only[mK]
  gi_wp2
  exact hK
 case hAx=>
  rintro x a' _ X Y row ⟨C,h1,h2,h3⟩ hg hr;exact⟨C,h1,mM h2 hg hr,h3⟩
 case body=>
  rintro l pre x a' W _ _ ⟨⟨v,h1,h2⟩,⟨h3,h4⟩,h5⟩ ⟨C,hC,hx,rfl⟩ hlen;have hxm:=x.2;have hxl:x.1< (aX bs).length:=by rw[HHL.out];exact x.2
  have hpx:(aX bs)[x.1]? =some (bE (aX bs) x.1):=by unfold bE;rw[aZ hxl];rfl
  have hp48:=HLB.out _ (dp hpx);obtain⟨ra,nv,cv',hv⟩:=pi h2;subst hv;have c0:W.cell? ⟨Bi,0,none⟩=some (af ra nv cv'):=h1.cell;have c2:(aE 205 ⟨C,0,none⟩).run aj W=.ok (al (aw (bE (aX bs) x.1)).toArray) W:=hx.body hp48;have HWC:=ae (OV (aX bs) pre x);have BI:Hid ((df 226 #[(0,ab ac (x.1:Int)),(1,al (aw (bE (aX bs) x.1)).toArray)]).run aj W=.ok (al (Img.cells ⟨(x.1:Int),bE (aX bs) x.1⟩).toArray) W):=Cf (x.1:Int) (aw (bE (aX bs) x.1)) (by rw[cw];exact hp48) W;have hil:(Img.cells ⟨(x.1:Int),bE (aX bs) x.1⟩).length=49:=Img.cells_length hp48;obtain⟨IC,hIC⟩:=w9nm (Img.cells ⟨(x.1:Int),bE (aX bs) x.1⟩);have hi1:∀v ∈ IC,v.oneCell'=true:=by rw[←hIC];exact Img.cells_one _
  rw[hIC]at HWC BI hil;obtain⟨x4,hx4⟩:=w9nm (W.alloc (an IC.toArray 226));have SB:Hid ((dh 223 1 #[(0,al IC.toArray)]).run aj W=.ok (af (some ⟨W.heap.size,0,none⟩) 1 1) x4):=by show _=_;rw[←hx4];exact Cg W _ hil
  have b4:ag W.heap.size W x4:=by rw[←hx4];exact aH W _
  have O4:=jm h2 b4;have hBiW:Bi<W.heap.size:=h1.lt;obtain⟨v5,x5,r5,o5,g5, -⟩:=Ch x3.heap.size x4 (af ra nv cv') (cL (me (aX bs) pre)) IC W.heap.size O4 hil hi1 (jg (t:= 226) (by rw[←hx4];exact cD W _)) (by simp[cL,me];omega) (bm h3 b4.size);rw[←HWC.out]at o5;obtain⟨ra5,n5,c5,hv5⟩:=pi o5;subst hv5;have R5:=ae r5;have h14:Boxed x4 Bi 223 (af ra nv cv'):=h1.kept (dS b4 none) (by simp);have h15:=h14.kept g5 (h14.not_row (by decide) O4);have B4:ag Bi w x4:=h5.trans (b4.mono (by omega));have hB3:Bi<x3.heap.size:=HBl.out;have B5:ag Bi w x5:=B4.grown g5 (by have:=b4.size;omega) (fun j e=>by have:=(O4.lt j e).1;omega);obtain⟨y,hy⟩:=w9nm (x5.setCell ⟨Bi,0,none⟩ (af ra5 n5 c5));have gy:x5.grownBy y (some Bi):=by rw[←hy];exact grownBy_setCell' x5 Bi _
  have h1y:Boxed y Bi 223 (af ra5 n5 c5):=by rw[←hy];exact h15.set _
  have h2y:=o5.kept gy (aD (fun e=>h15.not_row (by decide) o5 e.symm));have h5y:ag Bi w y:=B5.grown gy (by have:=b4.size;have:=g5.size;omega) (fun j e=>by cases e;exact aG _);have hblk:∀k,k<x3.heap.size->k≠Bi->y.heap[k]? =x3.heap[k]? :=fun k hk hn=>by
   have hkW:k<W.heap.size:=bq hk h3;have a1:y.heap[k]? =x5.heap[k]? :=gy.block k (by have:=b4.size;have:=g5.size;omega) (fun e=>hn (by cases e;rfl));have a2:x5.heap[k]? =x4.heap[k]? :=g5.block k (by have:=b4.size;omega) (fun e=>by
    have:=(O4.lt k e.symm).1;omega)
   rw[a1,a2,b4.block k hkW];exact h4 k hk hn
  have KF:KeepsFrom x3.heap.size W y:=(((KeepsOthers.of_grownBy (dS b4 none) (fun j o e=>by cases e)).trans (KeepsOthers.of_grownBy g5 (fun j o hj hoj=>vG O4 hj hoj))).trans (by rw[←hy];exact iK _ _ _)).from _;have KS:dG (SD (Bw+1) Bq Bw Bp) W y:=⟨bm b4.size (bm g5.size gy.size),fun j hj=>by
   have h:=HLT.out j hj;rw[hblk j h.1 h.2,h4 j h.1 h.2]⟩
  have POST:Hid (KeepsFrom x3.heap.size W y/\dG (SD (Bw+1) Bq Bw Bp) W y/\(∃v,Boxed y Bi 223 v/\y.ownsRow x3.heap.size 226 49 v (cL (me (aX bs) (pre++ [x]))).length (cL (me (aX bs) (pre++ [x]))).flatten)/\(x3.heap.size<=y.heap.size/\∀k,k<x3.heap.size->k≠Bi->y.heap[k]? =x3.heap[k]?)/\ag Bi w y):=⟨KF,KS,⟨_,h1y,h2y⟩,⟨bm h3 (bm b4.size (bm g5.size gy.size)),hblk⟩,h5y⟩;have c5':=h15.cell;have f5':=h15.frozen;clear hxm hxl hpx hp48 hIC hi1 hil hx4 b4 O4 hBiW r5 o5 g5 h14 h15 B4 B5 gy h1y h2y h5y hblk KF KS h1 h2 h3 h4 h5 hx;gi_step
  gi_step
  refine sG (iL By) (by kernel_rfl) ?_;go_wp2_with (first | ((with_reducible refine nA 226 ?_);refine nz _ _ rfl rfl [(0,ab ac (x.1:Int)),(1,al (aw (bE (aX bs) x.1)).toArray)] _ rfl BI.out ?_) | ((with_reducible refine iu ?_);refine dR _ _ _ rfl rfl [(0,al IC.toArray)] _ rfl SB.out ?_) | (at_builtin;refine wpList_append_run (.tmp 34) (.tmp 38) 223 rfl rfl _ _ _ rfl rfl R5.out ?_));exact POST.out
 case done=>
  rintro D xs W hD rfl ⟨⟨vi,h1,h2⟩,⟨h3,h4⟩,h5⟩ hK;rw[←HDI.out]at h2;have hBi3:Bi<x3.heap.size:=HBl.out;have HMW:Hid (MemAt m rb Bb cb Bh ch a q M W):=by
   have hl:=HM.out.lt;exact HM.out.keep (h5.block m (by omega)) (h5.block Bb (by omega)) (h5.block Bh (by omega))
  have HBW:Hid (ag w.heap.size w W):=by show ag _ _ _;rw[hBi];exact h5
  have HRW:Hid (aU rb p0 p1 S W f1):=HR.out.beside HBW.out;have HKD:=ae hK;have H1:=ae h1;have H2:=ae h2;have HDD:Hid (w.heap.size<=D):=by show _<=_;omega
  obtain⟨t,ht⟩:=w9nm (M.dif bs);rw[ht]at H2 HT1 HT2;have HT:=ae ht;have htl:(cL t).length=t.length:=nY t;rw[htl]at H2;obtain⟨ri,ci,hvi,hrow⟩:=ke H2.out;subst hvi;have HROW:=ae hrow;have c5:W.cell? ⟨Bi,0,none⟩=some (af ri t.length ci):=h1.cell;clear h1 h2 h3 h4 h5 hK ht htl hrow HX3 HIT HKA;by_cases hd:t= []
  ·have HC:=ae (OS S (M:=M) (b:=bs) (by rw[HT.out];exact hd));have hl0:t.length=0:=by rw[hd];rfl
   rw[hl0]at c5;clear hd hl0
   gi_wp2_with fail
   refine⟨by simp,aA ⟨_,_,rfl,eU HKD.out, ?_⟩⟩;refine⟨_,results_tmp rfl _ _ _,by rw[←HER.out,HC.out.1];rfl, ?_⟩;have hbp:ag w.heap.size w (W.putObj D (.deferred none)):=HBW.out.trans (belowK_b (w:=w) (aG _) W D _ _ HDD.out HKD.out rfl rfl);refine⟨f, ?_,Turn.of_below hbp⟩;rw[←HPO.out,HC.out.1,HC.out.2,if_pos rfl];exact((aU.isRes rb p0 p1 S).sep (eR.isRes m rb M)).below HSEP.out hbp
  ·have hlen0:0<t.length:=by cases t with | nil=>exact absurd rfl hd | cons _ _=>simp
   have g8:((t.length:Int)==0)=false:=by simp;exact hd
   have HDN:Hid (M.dif bs≠ []):=by show _≠_;rw[HT.out];exact hd
   have HTA:=ae (HT1.out hd);have HTB:=ae (HT2.out hd);obtain⟨gi,rfl,hgl,hgr⟩:=HROW.out hlen0;have hgN:w.heap.size<=gi:=by
    obtain⟨g',c',e',hN',_⟩:=px H2.out hlen0;cases e';exact bm K3.out.size hN'
   have hBiW:Bi<W.heap.size:=H1.out.lt;have hDW:D<W.heap.size:=(bL.1 HKD.out).1;have HGI:Hid (w.heap.size<=gi/\gi<W.heap.size/\w.heap.size<=Bi/\Bi<W.heap.size/\w.heap.size<=D/\D<W.heap.size):=⟨hgN,hgl,Nat.le_of_eq hBi,hBiW,HDD.out,hDW⟩;have HGR:=ae hgr;have HFL:Hid (∀k,f k->k<w.heap.size):=fun k hk=>(((aU.isRes rb p0 p1 S).sep (eR.isRes m rb M)).lt HSEP.out k hk);have htl100:t.length<=300:=by have:=HTA.out.txn.most;have:=(Geo.nats HTA.out.good).c2;omega
   have c5z:∀z:aM W,z.1.cell? ⟨Bi,0,none⟩=some (af (some ⟨gi,0,none⟩) t.length ci):=fun z=>(z.2.cell (p:=⟨Bi,0,none⟩) hBiW).trans c5;have c14z:∀z:aM W,z.1.cell? ⟨m,14,none⟩=some (ab ac M.room):=fun z=>(HMW.out.row.below z.2).cell 14 _ rfl;have HFU:Hid (M.full bs↔M.room< (t.length:Int)+1):=by show _↔_;rw[←HT.out];exact Iff.rfl
   obtain⟨tn,htn⟩:=w9nm t.length;have HTN:=ae htn;rw[htn]at c5 g8 c5z HFU htl100;clear hd hlen0 hgl hgr hgN hBiW hDW HT1 HT2 HBX HLT HLB HBl hBi3 H2 HROW htn;gi_step
   gi_step
   refine wpIn_wide.2 ?_;go_wp2_with fail;refine mX (fun x=>∃y:aM W,x=y.1) 6 (.takes [0,2,3,4,5] (.one 1 .leaf)) hmx (by kernel_rfl) ⟨⟨W.drew,(aI _ W).drew⟩,rfl⟩ ?_;repeat(rw[jM];simp only[aB,aC];go_big_quiet_step (fail);refine aV ?_)
   rw[jL,eY];simp only[aB,aC];clear c5z c14z;obtain⟨V,hV⟩:=w9nm W.drew;have bV:ag W.heap.size W V:=by rw[←hV];exact(aI _ W).drew
   try rw[hV]
   have hVs:V.heap.size=W.heap.size:=by rw[←hV];rfl
   clear hV;go_wp2_with fail;go_at_call 144;refine(wY (some ⟨gi,0,none⟩) tn ci (by omega) V).mono ?_;rintro e V' ⟨rfl,hv'⟩;obtain rfl:=hv'.symm;clear hv';go_wp2_with fail;refine aN ⟨⟨V,bV⟩,rfl⟩ ?_;rw[lR];simp only[bR,bQ];have HV:=ae bV;have HWV:=w9bt HBW bV;go_upto_if 49 with(fail)
   go_cut [8]from 49 to 54 (fun s8 wx=>∃(S1:RS) (M1:MS) (fx f1x:Nat->Prop) (Bbx cbx Bhx chx:Nat) (ax qx:Int),Hid (Turn f fx w wx)/\Hid (∀k,w.heap.size<=k->k<W.heap.size->wx.heap[k]? =W.heap[k]?)/\Hid (∀k,fx k->¬(w.heap.size<=k/\k<W.heap.size))/\Hid (wx.heap[D]? =some (.deferred (some [])))/\Hid (wx.heap[Bv]? =w.heap[Bv]?)/\Hid (S.cmt M bs=S1.bat (M1.appW bs)/\M.next bs=M1.app bs)/\Hid (TailOk S1 M1 t)/\Hid (M1.dif bs=t)/\Hid (M1.b.length=n)/\Hid (aU rb p0 p1 S1 wx f1x)/\Hid (MemAt m rb Bbx cbx Bhx chx ax qx M1 wx)/\Hid (∀k,f1x k->¬(k=m\/k=Bbx\/k=Bhx))/\Hid (fx=fun k=>f1x k\/k=m\/k=Bbx\/k=Bhx))
   case first=>
    by_cases hf:M.room< (tn:Int)+1
    ·have gd:decide ((tn:Int)+1>M.room)=true:=decide_eq_true hf;have gd':decide (M.room< (tn:Int)+1)=true:=gd;have HCF:=ae (OT S HDN.out (HFU.out.2 hf));have HC0:=ae (HCP.out V HWV.out);obtain⟨B2,hB2⟩:=w9nm (S.bat [M.homW,M.supW]);have hB2e:B2.2=0\/B2.2=14:=by rw[←hB2];exact RS.bat_e _ _
     rw[hB2]at HCF HC0 HTB;have hf2:¬(tn:Int)+1<=M.room:=by omega
     clear HCP hB2 bV;go_wp2_with fail;go_at_call 145;refine HC0.out.mono ?_;rintro e X ⟨rfl,fx,hPx,hTx⟩;have hKx:∀k,w.heap.size<=k->k<W.heap.size->X.heap[k]? =W.heap[k]? :=fun k h1 h2=>(hTx.out k (by omega) (fun h=>by have:=HFL.out k h;omega)).trans (HV.out.block k h2);have HKX:=ae hKx;have HTX:Hid (Turn f fx w X):=(Turn.of_below HWV.out).trans hTx;have HVX:Hid (X.heap[Bv]? =w.heap[Bv]?):=(HTX.out.out Bv HVF.out.2.2.2.2 (fun h=>by
      rw[HFF.out]at h;rcases h with h | h | h | h
      ·exact HVF.out.1 h
      ·exact HVF.out.2.1 h
      ·exact HVF.out.2.2.1 h
      ·exact HVF.out.2.2.2.1 h))
     have HNX:Hid (∀k,fx k->¬(w.heap.size<=k/\k<W.heap.size)):=fun k hk h=>by
      rcases hTx.new k hk with h1 | h1
      ·have:=HFL.out k h1;omega
      ·omega
     have HKDX:Hid (X.heap[D]? =some (.deferred (some []))):=(hKx D HGI.out.2.2.2.2.1 HGI.out.2.2.2.2.2).trans HKD.out;clear hKx hTx HC0;by_cases h0:B2.2=0
     ·rw[if_pos h0]at hPx;rw[h0];have HCM:Hid (S.cmt M bs=B2.1.bat (M.ckpt.appW bs)/\M.next bs=M.ckpt.app bs):=by refine(?_:_/\_);rw[HCF.out.1,HCF.out.2,if_pos h0];exact⟨rfl,rfl⟩
      obtain⟨f1x,f2x,hRx,⟨Bbx,cbx,Bhx,chx,ax,qx,hMx,rfl⟩,hDx,hfx⟩:=hPx;have HTLX:=HTB;have HDF:Hid (M.ckpt.dif bs=t):=HT.out;obtain⟨M1,hM1⟩:∃M',M.ckpt=M':=⟨_,rfl⟩;have HMB:Hid (M1.b.length=n):=by show _=_;rw[←hM1];exact HN.out
      rw[hM1]at hMx HCM HTLX HDF;obtain⟨S1,hS1⟩:∃S',B2.1=S':=⟨_,rfl⟩;rw[hS1]at hRx HCM HTLX;clear h0 hB2e HCF hM1 hS1;have HRQ:=ae hRx;have HMQ:=ae hMx;have HDQ:=ae hDx;have HFQ:=ae hfx;clear hRx hMx hDx hfx;go_wp2_with fail
      go_meet
      exact⟨S1,M1,fx,f1x,Bbx,cbx,Bhx,chx,ax,qx,HTX,HKX,HNX,HKDX,HVX,HCM,HTLX,HDF,HMB,HRQ,HMQ,HDQ,HFQ⟩
     ·have h14:B2.2=14:=hB2e.resolve_left h0;rw[if_neg h0]at hPx;rw[h14];have HCM:Hid (S.cmt M bs=B2):=by show _=_;rw[HCF.out.1,if_neg h0]
      have HPX:=ae hPx;have HE14:Hid (B2.2=14):=h14;clear h0 hB2e h14 hPx;go_wp2_with fail;refine⟨by simp,aA ⟨_,_,rfl,eU HKDX.out, ?_⟩⟩;refine⟨_,results_tmp rfl _ _ _,by rw[←HER.out,HCM.out,HE14.out];rfl, ?_⟩;have hg:=grownBy_putObj' X D (.deferred none);have hnx:∀k,fx k->(X.putObj D (.deferred none)).heap[k]? =X.heap[k]? :=fun k hk=>hg.block k ((aU.isRes rb p0 p1 B2.1).lt HPX.out k hk) (fun e=>HNX.out k hk (by cases e;exact⟨HGI.out.2.2.2.2.1,HGI.out.2.2.2.2.2⟩));refine⟨fx, ?_,HTX.out.kept hg (fun r e=>by cases e;exact HGI.out.2.2.2.2.1)⟩;rw[←HPO.out,HCM.out,if_neg (by rw[HE14.out];decide)];exact(aU.isRes rb p0 p1 B2.1).out HPX.out hnx
    ·have HCM:Hid (S.cmt M bs=S.bat (M.appW bs)/\M.next bs=M.app bs):=OU S HDN.out (fun h=>hf (HFU.out.1 h));have gd:decide ((tn:Int)+1>M.room)=false:=decide_eq_false hf;have gd':decide (M.room< (tn:Int)+1)=false:=gd;obtain⟨X,hVX⟩:=w9nm V;rw[hVX]at bV HV HWV;rw[hVX];obtain⟨fx,hfxf⟩:=w9nm f;have hRx:aU rb p0 p1 S X f1:=HR.out.beside HWV.out;have hMx:=HMW.out.below bV;have HTX:Hid (Turn f fx w X):=by show Turn _ _ _ _;rw[←hfxf];exact Turn.of_below HWV.out
     have HKX:Hid (∀k,w.heap.size<=k->k<W.heap.size->X.heap[k]? =W.heap[k]?):=fun k _ h2=>bV.block k h2;have HNX:Hid (∀k,fx k->¬(w.heap.size<=k/\k<W.heap.size)):=fun k hk h=>by rw[←hfxf]at hk;have:=HFL.out k hk;omega
     have HKDX:Hid (X.heap[D]? =some (.deferred (some []))):=(bV.block D HGI.out.2.2.2.2.2).trans HKD.out;have HVX:Hid (X.heap[Bv]? =w.heap[Bv]?):=HWV.out.block Bv HVF.out.2.2.2.2;have hDx:∀k,f1 k->¬(k=m\/k=Bb\/k=Bh):=fun k hk h=>by
      have:=HD.out k hk;rcases h with h | h | h
      ·exact this.1 h
      ·exact this.2.1 h
      ·exact this.2.2 h
     have hfx:fx=fun k=>f1 k\/k=m\/k=Bb\/k=Bh:=hfxf.symm.trans HFF.out;have HTLX:=HTA;have HDF:Hid (M.dif bs=t):=HT.out;obtain⟨M1,hM1⟩:∃M',M=M':=⟨_,rfl⟩;rw[hM1]at hMx HCM HTLX HDF;obtain⟨S1,hS1⟩:∃S',S=S':=⟨_,rfl⟩;have HCM:Hid (S.cmt M bs=S1.bat (M1.appW bs)/\M.next bs=M1.app bs):=by rw[←hS1,←hM1];rw[←hM1]at HCM;exact HCM
     rw[hS1]at hRx HTLX;have HMB:Hid (M1.b.length=n):=by show _=_;rw[←hM1];exact HN.out
     obtain⟨f1x,hf1x⟩:=w9nm f1;rw[hf1x]at hRx hDx hfx;obtain⟨Bbx,hb1⟩:=w9nm Bb;obtain⟨Bhx,hb2⟩:=w9nm Bh;obtain⟨cbx,hb3⟩:=w9nm cb;obtain⟨chx,hb4⟩:=w9nm ch;obtain⟨ax,hb5⟩:=w9nm a;obtain⟨qx,hb6⟩:=w9nm q;rw[hb1,hb2,hb3,hb4,hb5,hb6]at hMx;rw[hb1,hb2]at hDx hfx;clear hVX hfxf hM1 hS1 hf1x hb1 hb2 hb3 hb4 hb5 hb6 bV HCP;have hf2:(tn:Int)+1<=M.room:=by omega
     have HRQ:=ae hRx;have HMQ:=ae hMx;have HDQ:=ae hDx;have HFQ:=ae hfx;clear hRx hMx hDx hfx;go_wp2_with fail
     go_meet
     exact⟨S1,M1,fx,f1x,Bbx,cbx,Bhx,chx,ax,qx,HTX,HKX,HNX,HKDX,HVX,HCM,HTLX,HDF,HMB,HRQ,HMQ,HDQ,HFQ⟩
   case rest=>
    obtain⟨S1,M1,fx,f1x,Bbx,cbx,Bhx,chx,ax,qx,HTX,HKX,HNX,HKDX,HVX,HCM,HTLX,HDF,HMB,HRQ,HMQ,HDQ,HFQ⟩:=hcut;have hRx:=HRQ.out;have hMx:=HMQ.out;have hDx:=HDQ.out;have hfx:=HFQ.out;clear HRQ HMQ HDQ HFQ HV HWV bV HCP HTA HTB HRW HMW HBW;have hN:=Geo.nats HTLX.out.good;have hgr:M1.g.r=(M1.g.C:Int):=hN.c.symm;have hmlt:=hMx.lt;have hFlt:∀k,f1x k->k<wc.heap.size:=fun k hk=>(aU.isRes rb p0 p1 S1).lt hRx k hk;have hfi:∀k,f1x k->fx k:=fun k hk=>by rw[hfx];exact aA hk
    have hfm:fx m:=by rw[hfx];exact aD (aA rfl)
    have hbi:=HKX.out Bi HGI.out.2.2.1 HGI.out.2.2.2.1;have cX5:wc.cell? ⟨Bi,0,none⟩=some (af (some ⟨gi,0,none⟩) tn ci):=(gj (a:=⟨Bi,0,none⟩) hbi).trans c5;have hgi:=HKX.out gi HGI.out.1 HGI.out.2.1;have grX:wc.rangeAt gi 0 (cL t).flatten:=ij HGR.out hgi;have hgiX:gi<wc.heap.size:=by
     rw[Array.getElem?_eq_getElem HGI.out.2.1]at hgi;exact(bL.1 hgi).1
    have hBiX:Bi<wc.heap.size:=by
     rw[Array.getElem?_eq_getElem HGI.out.2.2.2.1]at hbi;exact(bL.1 hbi).1
    have hDX:D<wc.heap.size:=(bL.1 HKDX.out).1;have hnr:¬f1x gi/\¬f1x Bi/\¬f1x D:=⟨fun h=>HNX.out _ (hfi _ h) ⟨HGI.out.1,HGI.out.2.1⟩,fun h=>HNX.out _ (hfi _ h) ⟨HGI.out.2.2.1,HGI.out.2.2.2.1⟩,fun h=>HNX.out _ (hfi _ h) ⟨HGI.out.2.2.2.2.1,HGI.out.2.2.2.2.2⟩⟩;have hmBi:m≠Bi/\m≠D:=⟨fun e=>HNX.out m hfm (by rw[e];exact⟨HGI.out.2.2.1,HGI.out.2.2.2.1⟩),fun e=>HNX.out m hfm (by rw[e];exact⟨HGI.out.2.2.2.2.1,HGI.out.2.2.2.2.2⟩)⟩;have LG:(aE 23 ⟨m,4,none⟩).run aj wc=.ok (al M1.g.v) wc:=hMx.row.geoAt (g:=M1.g) (pre:= [am (some ⟨rb,0,none⟩),af (some ⟨Bbx,0,none⟩) M1.b.length cbx,af (some ⟨Bhx,0,none⟩) M1.home.length chx,ab aO M1.gen]) (post:= [ab ac ax,ab aO qx,ab ac M1.sup,ab ac M1.at0,ab aO M1.seq,ab ac M1.room]) rfl;obtain⟨x1,ST1,r1,hb1'⟩:=xF wc M1.g;obtain⟨Bg,hBg⟩:=w9nm wc.heap.size;rw[hBg]at ST1 r1;have hM1':=hMx.below hb1';have d0:∀z:nf m Bg Bi x1,z.1.cell? ⟨m,0,none⟩=some (am (some ⟨rb,0,none⟩)):=fun z=>(gj (a:=⟨m,0,none⟩) z.2.1).trans (hM1'.row.cell 0 _ rfl);have d12:∀z:nf m Bg Bi x1,z.1.cell? ⟨m,12,none⟩=some (ab ac M1.at0):=fun z=>(gj (a:=⟨m,12,none⟩) z.2.1).trans (hM1'.row.cell 12 _ rfl);have d13:∀z:nf m Bg Bi x1,z.1.cell? ⟨m,13,none⟩=some (ab aO M1.seq):=fun z=>(gj (a:=⟨m,13,none⟩) z.2.1).trans (hM1'.row.cell 13 _ rfl);have dg:∀z:nf m Bg Bi x1,(aE 23 ⟨Bg,0,none⟩).run aj z.1=.ok (al M1.g.v) z.1:=fun z=>cG (z.2.2.1.trans r1);have dg4:∀z:nf m Bg Bi x1,z.1.cell? ⟨Bg,4,none⟩=some (ab ac M1.g.r):=fun z=>(gj (a:=⟨Bg,4,none⟩) z.2.2.1).trans (r1.cell 4 _ rfl);have cx15:x1.cell? ⟨Bi,0,none⟩=some (af (some ⟨gi,0,none⟩) tn ci):=(hb1'.cell (p:=⟨Bi,0,none⟩) hBiX).trans cX5;have di:∀z:nf m Bg Bi x1,z.1.cell? ⟨Bi,0,none⟩=some (af (some ⟨gi,0,none⟩) tn ci):=fun z=>(gj (a:=⟨Bi,0,none⟩) z.2.2.2).trans cx15;have l1:m<x1.heap.size/\Bg<x1.heap.size/\Bi<x1.heap.size:=⟨hM1'.lt.1,aq.lt r1,bq hBiX hb1'.size⟩;have HL1:=ae l1;have HGIN:=ae (Geo.goodIn HTLX.out.good);have HGG:=ae HTLX.out.good;have HRX:=ae hRx;have HMX:=ae hMx;have HBX1:=ae hb1';have HGRX:=ae grX;have HNR:=ae hnr;have HDXX:=ae hDx;have HCI:=ae cX5;have HLL:=ae (And.intro hgiX (And.intro hBiX (And.intro hDX hmBi)));have HFX:=ae hfx;have HFLX:=ae hFlt;have HMLT:=ae hmlt;have HBG:=ae hBg;have HGRE:=ae hgr;obtain⟨gr,hgrn⟩:=w9nm M1.g.r;have HGRN:=ae hgrn;rw[hgrn]at dg4;clear hN hgr hgrn hmlt hFlt hfi hfm hbi cX5 hgi grX hgiX hBiX hDX hnr hmBi hb1' hM1' cx15 l1 hRx hMx hDx hfx c5 r1;go_wp2_with fail;clear LG ST1 hBg;obtain⟨X2,hX2⟩:=w9nm x1.drew;have bX2:ag x1.heap.size x1 X2:=by rw[←hX2];exact(aI _ x1).drew
    refine mX (fun x=>∃y:nf m Bg Bi x1,x=y.1) 24 (.takes [0,1,2,3,4,6,7,8,9,10,11,12,13,14,15,16,17,18] (.one 5 (.one 19 (.takes [20,21,23,22] .leaf)))) hmx (by kernel_rfl) ⟨⟨x1.drew,rfl,rfl,rfl⟩,rfl⟩ ?_;repeat(rw[jM];simp only[aB,aC];go_big_quiet_step (fail);refine aV ?_)
    rw[jL,eY];simp only[aB,aC];clear d0 d12 d13 dg dg4 di;try rw[hX2]
    clear hX2;go_wp2_with fail;go_at_call 130;refine(tX M1.g HGIN.out X2).mono ?_;rw[Geo.oR,if_pos HGG.out];rintro e X3 ⟨rfl,hb3'⟩;have B13:w9h x1 X3:=bX2.trans (hb3'.mono bX2.size);clear bX2 hb3';go_wp2_with fail;refine aN ⟨⟨X3,B13.out.block m HL1.out.1,B13.out.block Bg HL1.out.2.1,B13.out.block Bi HL1.out.2.2⟩,rfl⟩ ?_;rw[eY];simp only[aB,aC];have hBX3:w9b wc X3:=HBX1.out.trans (B13.out.mono HBX1.out.size);have HBX3:=ae hBX3;have HAP:=ae (Db.append (HRX.out.beside hBX3) HTLX.out.fu HTLX.out.d.1 HTLX.out.d.2 HTLX.out.few (F:=2) (C:=M1.g.C) (A:=M1.at0) (by have:=(Geo.nats HGG.out).c1;omega) (Geo.nats HGG.out).c2 HTLX.out.c HTLX.out.at0 HTLX.out.n0 (seq:=M1.seq) ⟨HTLX.out.seq.1,by have:=HTLX.out.seq.2;omega⟩ HTLX.out.txn (g:=gi) (c:=ci) (ij HGRX.out (hBX3.block gi HLL.out.1)) (bq HLL.out.1 hBX3.size) HNR.out.1);obtain⟨RA,hRA⟩:=w9nm (S1.app 2 M1.g.C M1.at0 M1.seq t);have HEA:Hid (RA.2=0\/RA.2=14):=by rw[←hRA];exact OY _ _ _ _ _ _
    have HCR:Hid (S.cmt M bs=RA):=by
     have h:=OX S1 M1 bs;rw[HDF.out,hRA]at h;show _=_;rw[HCM.out.1,h]
    rw[hRA,←HGRE.out,HGRN.out,HTN.out]at HAP;obtain⟨na,hna⟩:∃x:Int,(if RA.2=0 then(((M1.at0+tn+1)%M1.g.C:Nat):Int)else 0)=x:=⟨_,rfl⟩;rw[hna]at HAP;have HNA:=ae hna;clear hBX3 hRA hna;go_wp2_with fail;go_at_call 146;refine HAP.out.mono ?_;rintro e X4 ⟨rfl,f4,hR4,hT4⟩;have hk4:∀k,k<wc.heap.size->¬f1x k->X4.heap[k]? =wc.heap[k]? :=fun k hk hn=>(hT4.out k (bq hk HBX3.out.size) hn).trans (HBX3.out.block k hk);have hf4n:∀k,f4 k->f1x k\/wc.heap.size<=k:=fun k hk=>(hT4.new k hk).imp id (fun h=>bm HBX3.out.size h);have hm4:X4.heap[m]? =x1.heap[m]? :=(hT4.out m (bq HMLT.out.1 HBX3.out.size) (fun h=>HDXX.out m h (aA rfl))).trans (B13.out.block m HL1.out.1);have hg4:X4.heap[Bg]? =x1.heap[Bg]? :=(hT4.out Bg (bq HL1.out.2.1 B13.out.size) (fun h=>by have:=HFLX.out _ h;have:=HBG.out;omega)).trans (B13.out.block Bg HL1.out.2.1);have hi4:X4.heap[Bi]? =x1.heap[Bi]? :=(hT4.out Bi (bq HL1.out.2.2 B13.out.size) HNR.out.2.1).trans (B13.out.block Bi HL1.out.2.2);have HT4:Hid (Turn fx (fun k=>f4 k\/k=m\/k=Bbx\/k=Bhx) wc X4):=by
     show Turn _ _ _ _;rw[HFX.out];exact(Turn.of_below HBX3.out).trans (hT4.frame _)
    have HK4:=ae hk4;have HR4:=ae hR4;have HF4:=ae hf4n;have HS4:Hid (wc.heap.size<=X4.heap.size):=bm HBX3.out.size hT4.size;clear hT4 hk4 hR4 hf4n HAP;go_wp2_with fail;refine aN ⟨⟨X4,hm4,hg4,hi4⟩,rfl⟩ ?_;clear hm4 hg4 hi4;repeat(rw[jM];simp only[aB,aC];go_big_quiet_step (fail);refine aV ?_)
    rw[jL,lR];simp only[bR,bQ];by_cases hz:RA.2=0
    ·rw[hz];have HZ:=ae hz;clear hz;have hna:na=(((M1.at0+tn+1)%M1.g.C:Nat):Int):=by rw[←HNA.out,if_pos HZ.out]
     have HNA2:=ae hna;have hM4:MemAt m rb Bbx cbx Bhx chx ax qx M1 X4:=HMX.out.keep (HK4.out m HMLT.out.1 (fun h=>HDXX.out m h (aA rfl))) (HK4.out Bbx HMLT.out.2.1 (fun h=>HDXX.out Bbx h (aD (aA rfl)))) (HK4.out Bhx HMLT.out.2.2 (fun h=>HDXX.out Bhx h (aD (aD rfl))));have q13:X4.cell? ⟨m,13,none⟩=some (ab aO M1.seq):=hM4.row.cell 13 _ rfl;have hq0:=HTLX.out.seq.1;have hq1:=HTLX.out.seq.2;have q12:X4.cell? ⟨m,12,none⟩=some (ab ac M1.at0):=hM4.row.cell 12 _ rfl;have z12:=hM4.row.frozen 12;obtain⟨y0,hy0⟩:=w9nm (X4.setCell ⟨m,12,none⟩ (ab ac na));have rr0:=hM4.row.set 12 (ab ac na);rw[hy0]at rr0;have q13':y0.cell? ⟨m,13,none⟩=some (ab aO M1.seq):=rr0.cell 13 _ rfl;have z13:=rr0.frozen 13;obtain⟨y1,hy1⟩:=w9nm (y0.setCell ⟨m,13,none⟩ (ab aO (M1.seq+1)));have rr1:=rr0.set 13 (ab aO (M1.seq+1));rw[hy1]at rr1;have hky1:∀k,k<X4.heap.size->k≠m->y1.heap[k]? =X4.heap[k]? :=fun k hk hn=>by rw[←hy1,←hy0];exact(eG _ _ _ k hn).trans (eG _ _ _ k hn)
     have hsy1:X4.heap.size<=y1.heap.size:=by rw[←hy1,←hy0,lS,lS];exact aG _
     have HTS:Hid (Turn (fun k=>f4 k\/k=m\/k=Bbx\/k=Bhx) (fun k=>f4 k\/k=m\/k=Bbx\/k=Bhx) X4 y1):=by
      show Turn _ _ _ _;rw[←hy1,←hy0];exact(lU _ m 12 _ (aD (aA rfl))).trans (lU _ m 13 _ (aD (aA rfl)))
     have HM4:=ae hM4;have HY1:=ae hky1;have HSY1:=ae hsy1;have HRR1:=ae rr1;clear hM4 hky1 hsy1 hna rr0 rr1;go_wp2_with fail;clear q12 z12 q13 q13' z13 hy0 hy1;have hnB:¬f1x Bv:=fun h=>by
      have h1:fx Bv:=by rw[HFX.out];exact aA h
      rcases HTX.out.new Bv h1 with h2 | h2
      ·rw[HFF.out]at h2;rcases h2 with h2 | h2 | h2 | h2
       ·exact HVF.out.1 h2
       ·exact HVF.out.2.1 h2
       ·exact HVF.out.2.2.1 h2
       ·exact HVF.out.2.2.2.1 h2
      ·have:=HVF.out.2.2.2.2;omega
     have hBvX:Bv<wc.heap.size:=bq HVF.out.2.2.2.2 HTX.out.size;have hv1:y1.heap[Bv]? =w.heap[Bv]? :=(HY1.out Bv (bq hBvX HS4.out) HVF.out.2.1).trans ((HK4.out Bv hBvX hnB).trans HVX.out);have hi1:y1.heap[Bi]? =wc.heap[Bi]? :=(HY1.out Bi (bq HLL.out.2.1 HS4.out) (fun e=>HLL.out.2.2.2.1 e.symm)).trans (HK4.out Bi HLL.out.2.1 HNR.out.2.1);have hd1:y1.heap[D]? =some (.deferred (some [])):=(HY1.out D (bq HLL.out.2.2.1 HS4.out) (fun e=>HLL.out.2.2.2.2 e.symm)).trans ((HK4.out D HLL.out.2.2.1 HNR.out.2.2).trans HKDX.out);have hbi1:Bi<y1.heap.size:=bq HLL.out.2.1 (bm HS4.out HSY1.out);have q14z:∀z:aM y1,z.1.cell? ⟨m,14,none⟩=some (ab ac M1.room):=fun z=>(HRR1.out.below z.2).cell 14 _ rfl;have qiz:∀z:aM y1,z.1.cell? ⟨Bi,0,none⟩=some (af (some ⟨gi,0,none⟩) tn ci):=fun z=>(gj (a:=⟨Bi,0,none⟩) ((z.2.block Bi hbi1).trans hi1)).trans HCI.out;have hrm1:=HTLX.out.room.1;have hrm2:=HTLX.out.room.2;refine mX (fun x=>∃y:aM y1,x=y.1) 9 (.takes [0,1,2,3,4] (.one 5 (.takes [6,7,8] .leaf))) hmx (by kernel_rfl) ⟨⟨y1.drew,(aI _ y1).drew⟩,rfl⟩ ?_;repeat(rw[jM];simp only[aB,aC];go_big_quiet_step (fail);refine aV ?_)
     rw[jL,eY];simp only[aB,aC];clear q14z qiz;obtain⟨V2,hV2⟩:=w9nm y1.drew;have bV2:ag y1.heap.size y1 V2:=by rw[←hV2];exact(aI _ y1).drew
     try rw[hV2]
     have hV2s:V2.heap.size=y1.heap.size:=by rw[←hV2];rfl
     clear hV2;go_wp2_with fail;go_at_call 144;refine(wY (some ⟨gi,0,none⟩) tn ci (by omega) V2).mono ?_;rintro e V' ⟨rfl,hv'⟩;obtain rfl:=hv'.symm;clear hv';go_wp2_with fail;refine aN ⟨⟨V2,bV2⟩,rfl⟩ ?_;repeat(rw[jM];simp only[aB,aC];go_big_quiet_step (fail);refine aV ?_)
     rw[jL,lR];simp only[bR,bQ];have rr2:=HRR1.out.below bV2;have c14:V2.cell? ⟨m,14,none⟩=some (ab ac M1.room):=rr2.cell 14 _ rfl;have f14:=rr2.frozen 14;obtain⟨y2,hy2⟩:=w9nm (V2.setCell ⟨m,14,none⟩ (ab ac (M1.room - ((tn:Int)+1))));have rr3:=rr2.set 14 (ab ac (M1.room - ((tn:Int)+1)));rw[hy2]at rr3;have h2k:∀k,k≠m->y2.heap[k]? =V2.heap[k]? :=fun k hk=>by rw[←hy2];exact eG _ _ _ k hk
     have h2s:y2.heap.size=V2.heap.size:=by rw[←hy2,lS]
     have hv2:y2.heap[Bv]? =w.heap[Bv]? :=(h2k Bv HVF.out.2.1).trans ((bV2.block Bv (bq hBvX (bm HS4.out HSY1.out))).trans hv1);have HSV:Hid (Sl ay y2 (af (some ⟨Bv,ov,none⟩) n cv) bs):=HVS.out.same (by rw[h2s,hV2s];exact bm HTX.out.size (bm HS4.out HSY1.out)) (fun b e=>by cases e;exact hv2);have HD2:Hid (y2.heap[D]? =some (.deferred (some []))):=(h2k D (fun e=>HLL.out.2.2.2.2 e.symm)).trans ((bV2.block D (bL.1 hd1).1).trans hd1);have HY2:Hid (∀k,k<X4.heap.size->k≠m->y2.heap[k]? =X4.heap[k]?):=fun k hk hn=>(h2k k hn).trans ((bV2.block k (bq hk HSY1.out)).trans (HY1.out k hk hn));have HS2:Hid (X4.heap.size<=y2.heap.size):=by show _<=_;rw[h2s,hV2s];exact HSY1.out
     have HT2:Hid (Turn (fun k=>f4 k\/k=m\/k=Bbx\/k=Bhx) (fun k=>f4 k\/k=m\/k=Bbx\/k=Bhx) X4 y2):=by
      show Turn _ _ _ _;rw[←hy2];exact HTS.out.trans ((Turn.of_below bV2).trans (lU _ m 14 _ (aD (aA rfl))))
     have HRR3:=ae rr3;have hbn:bs.length=n:=by have h1:=HLN.out;have h2:=HN.out;omega
     have HBN:=ae hbn;have hn0:0<n:=by have:=HM.out.b0;have:=HN.out;omega
     have hnM:n<=714:=by have:=HOK.out.len;have:=(Geo.nats HOK.out.good).b2;have:=HN.out;omega
     have HCL:=ae (xC y2 HSV.out (by intro e;rw[e]at hbn;simp at hbn;omega) (by omega));clear hnB hBvX hv1 hi1 hd1 hbi1 rr2 rr3 h2k h2s hv2 hbn hV2s bV2;go_wp2_with fail;clear hy2 c14 f14;go_at_call 135;refine HCL.out.mono ?_;rintro e y3 ⟨v',rfl,hO,hB⟩;obtain⟨Bc,cc,rfl,hBcN,hcc,hBcl,hrg⟩:=px hO (by rw[HBN.out];exact hn0);have hcur:cc<=aY/\∃cur,y3.heap[Bc]? =some (an cur 5 (0,0)):=by
      rcases hO.2 with⟨h',_⟩ | ⟨g',c',cur,e,h1,h2,h3,h4,_⟩
      ·cases h'
      ·cases e;exact⟨h4,cur,h2⟩
     have rr4:=HRR3.out.below hB;have c1m:y3.cell? ⟨m,1,none⟩=some (af (some ⟨Bbx,0,none⟩) M1.b.length cbx):=rr4.cell 1 _ rfl;have f1m:=rr4.frozen 1;obtain⟨y4,hy4⟩:=w9nm (y3.setCell ⟨m,1,none⟩ (af (some ⟨Bc,0,none⟩) bs.length cc));have rr5:=rr4.set 1 (af (some ⟨Bc,0,none⟩) bs.length cc);rw[hy4]at rr5;have h4k:∀k,k≠m->y4.heap[k]? =y3.heap[k]? :=fun k hk=>by rw[←hy4];exact eG _ _ _ k hk
     have HTY:Hid (Turn (fun k=>f4 k\/k=m\/k=Bbx\/k=Bhx) (fun k=>f4 k\/k=m\/k=Bbx\/k=Bhx) X4 y4):=by
      show Turn _ _ _ _;rw[←hy4];exact HT2.out.trans ((Turn.of_below hB).trans (lU _ m 1 _ (aD (aA rfl))))
     have hDy:D<y2.heap.size:=(bL.1 HD2.out).1;have HD4:Hid (y4.heap[D]? =some (.deferred (some []))):=(h4k D (fun e=>HLL.out.2.2.2.2 e.symm)).trans ((hB.block D hDy).trans HD2.out);have HY4:Hid (∀k,k<X4.heap.size->k≠m->y4.heap[k]? =X4.heap[k]?):=fun k hk hn=>(h4k k hn).trans ((hB.block k (bq hk HS2.out)).trans (HY2.out k hk hn));have HBC:Hid (y2.heap.size<=Bc):=hBcN;have hBcm:Bc≠m:=fun e=>by have h1:=HMLT.out.1;have h2:=HS4.out;have h3:=HS2.out;omega
     have HRC:Hid (bs.length<=cc/\cc<=aY/\(∃cur t,y4.heap[Bc]? =some (an cur t (0,0)))/\y4.rangeAt Bc 0 (aw bs)):=⟨hcc,hcur.1,by obtain⟨cur,h⟩:=hcur.2;exact⟨cur,_,(h4k Bc hBcm).trans h⟩,ij hrg (h4k Bc hBcm)⟩;have HR5:=ae rr5;clear hO hBcN hcc hBcl hrg hcur rr4 rr5 h4k hDy hBcm hB;go_wp2_with fail;clear hy4 c1m f1m;refine⟨by simp,aA ⟨_,_,rfl,eU HD4.out, ?_⟩⟩;refine⟨_,results_tmp rfl _ _ _,by rw[←HER.out,HCR.out,HZ.out];rfl, ?_⟩;have hg:=grownBy_putObj' y4 D (.deferred none);obtain⟨yF,hyF⟩:=w9nm (y4.putObj D (.deferred none));rw[hyF]at hg ⊢;have hsz:y4.heap.size<=yF.heap.size:=hg.size;have hkF:∀k,k<y4.heap.size->k≠D->yF.heap[k]? =y4.heap[k]? :=fun k h1 h2=>hg.block k h1 (fun e=>h2 (by cases e;rfl));have hX4:wc.heap.size<=X4.heap.size:=HS4.out;have hY4:X4.heap.size<=y4.heap.size:=HTY.out.size;have hDl:D<wc.heap.size:=HLL.out.2.2.1;have hmD:m≠D:=HLL.out.2.2.2.2;have hml:=HMLT.out;have hDn:¬fx D:=fun h=>HNX.out D h ⟨HGI.out.2.2.2.2.1,HGI.out.2.2.2.2.2⟩;have hDb:D≠Bbx/\D≠Bhx:=by
      rw[HFX.out]at hDn;exact⟨fun e=>hDn (aD (aD (aA e))),fun e=>hDn (aD (aD (aD e)))⟩
     have hf4m:∀k,f4 k->k≠m/\k≠D/\k≠Bc/\k≠Bhx:=fun k hk=>by
      have hl:=(aU.isRes rb p0 p1 RA.1).lt HR4.out k hk;have hc:y2.heap.size<=Bc:=HBC.out;have h2:X4.heap.size<=y2.heap.size:=HS2.out;rcases HF4.out k hk with h | h
      ·have hd:=HDXX.out k h;exact⟨fun e=>hd (aA e),fun e=>hDn (by rw[HFX.out];exact aA (by rw[←e];exact h)),by omega,fun e=>hd (aD (aD e))⟩
      ·exact⟨by omega,by omega,by omega,by omega⟩
     have hBcl:Bc<y4.heap.size:=by
      obtain⟨cur,t,h⟩:=HRC.out.2.2.1;exact(bL.1 h).1
     have hcB:X4.heap.size<=Bc:=bm HS2.out HBC.out;have hBcF:yF.heap[Bc]? =y4.heap[Bc]? :=hkF Bc hBcl (by omega);have hBhF:yF.heap[Bhx]? =wc.heap[Bhx]? :=(hkF Bhx (by omega) (fun e=>hDb.2 e.symm)).trans ((HY4.out Bhx (by omega) (fun e=>HMX.out.mh e.symm)).trans (HK4.out Bhx hml.2.2 (fun h=>HDXX.out Bhx h (aD (aD rfl)))));have hmF:yF.heap[m]? =y4.heap[m]? :=hkF m (by omega) hmD;have e1:(((M1.app bs).at0:Nat):Int)=na:=by
      show(((M1.at0+(M1.dif bs).length+1)%M1.g.C:Nat):Int)=na;rw[HDF.out,HTN.out,HNA2.out]
     have e2:(M1.app bs).room=M1.room - ((tn:Int)+1):=by
      show M1.g.r - ((M1.used+(M1.dif bs).length+1:Nat):Int)=M1.g.r - (M1.used:Int) - _;rw[HDF.out,HTN.out];omega
     have hMF:MemAt m rb Bc cc Bhx chx ax qx (M1.app bs) yF:=by
      refine⟨?_,by omega,HMX.out.mh,by omega,by show 0<bs.length;rw[HBN.out];exact hn0,HMX.out.h0,⟨HRC.out.1,HRC.out.2.1⟩, ?_,ij HRC.out.2.2.2 hBcF, ?_,ij HMX.out.hat hBhF⟩
      ·rw[e1,e2];show yF.heap[m]? =_;rw[hmF];exact HR5.out
      ·obtain⟨cur,t,h⟩:=HRC.out.2.2.1;exact⟨cur,t,hBcF.trans h⟩
      ·obtain⟨cur,t,h⟩:=HMX.out.ch';exact⟨cur,t,hBhF.trans h⟩
     have hRF:aU rb p0 p1 RA.1 yF f4:=(aU.isRes rb p0 p1 RA.1).out HR4.out fun k hk=>by
      have hl:=(aU.isRes rb p0 p1 RA.1).lt HR4.out k hk;exact(hkF k (by omega) (hf4m k hk).2.1).trans (HY4.out k hl (hf4m k hk).1)
     have hTF:Turn f (fun k=>f4 k\/k=m\/k=Bc\/k=Bhx) w yF:=by
      refine((HTX.out.trans (HT4.out.trans HTY.out)).kept hg (fun r e=>by cases e;exact HGI.out.2.2.2.2.1)).less fun k hk=> ?_;have h1:=HTX.out.size;rcases hk with h | h | h | h
      ·exact aA (aA h)
      ·exact aA (aD (aA h))
      ·right;omega
      ·exact aA (aD (aD (aD h)))
     refine⟨_, ?_,hTF⟩;rw[←HPO.out,HCR.out,if_pos HZ.out,HCM.out.2];exact⟨f4,_,hRF,⟨Bc,cc,Bhx,chx,ax,qx,hMF,rfl⟩,fun k hk h=>by
      have:=hf4m k hk;rcases h with h | h | h
      ·exact this.1 h
      ·exact this.2.2.1 h
      ·exact this.2.2.2 h,rfl⟩
    ·have h14:RA.2=14:=HEA.out.resolve_left hz;rw[h14];have HE14:=ae h14;clear hz h14;go_wp2_with fail;refine⟨by simp,aA ⟨_,_,rfl,eU ((HK4.out D HLL.out.2.2.1 HNR.out.2.2).trans HKDX.out), ?_⟩⟩;refine⟨_,results_tmp rfl _ _ _,by rw[←HER.out,HCR.out,HE14.out];rfl, ?_⟩;have hg:=grownBy_putObj' X4 D (.deferred none);have hD4:¬f4 D:=fun h=>by
      rcases HF4.out D h with h | h
      ·exact HNR.out.2.2 h
      ·have:=HLL.out.2.2.1;omega
     refine⟨f4, ?_,((HTX.out.trans HT4.out).less (fun k hk=>aA (aA hk))).kept hg (fun r e=>by cases e;exact HGI.out.2.2.2.2.1)⟩;rw[←HPO.out,HCR.out,if_neg (by rw[HE14.out];decide)];exact(aU.isRes rb p0 p1 RA.1).out HR4.out fun k hk=>hg.block k ((aU.isRes rb p0 p1 RA.1).lt HR4.out k hk) (fun e=>by cases e;exact hD4 hk)
 case stop=>
  rintro D c pre W hD _ h _;exact h.elim
end
end
section
attribute [-simp] isAgg51 zeroValue51 isAgg205 zeroValue205 isAgg304 zeroValue304 isAgg226 zeroValue226 isAgg207 zeroValue207 isAgg198 zeroValue198 isAgg23 zeroValue23
attribute [-go_sem] aE aL cS
attribute [local go_sem] bC bD dz eK eL eM iD ew gH iC hU ia gI gJ
section
theorem Pa (w:ah) {v:ak} {bs:List Int} (hv:Sl ay w v bs):ap aj 60 #[am none,v] w fun e w'=>e=ao (ab ac 1)/\ag w.heap.size w w':=by
 refine(callsIn_wide (n:=3)).1 ?_;refine gA func60 rfl trivial ?_ rfl;simp only[ntmps60,cJ,bz,cx,Nat.reduceAdd,Nat.reduceSub,cO,cP,cQ,cR,cy,cC]
 gi_wp2_with fail
 exact⟨_,results_tmp rfl _ _ _,rfl,aI _ _⟩
theorem Pb {m rb:Nat} {M:MS} {w:ah} {f:Nat->Prop} (h:eR m rb M w f) {v:ak} {bs:List Int} (hv:Sl ay w v bs) (hl:bs.length≠M.b.length):ap aj 60 #[am (some ⟨m,0,none⟩),v] w fun e w'=>e=ao (ab ac 1)/\ag w.heap.size w w':=by
 obtain⟨Bb,cb,Bh,ch,a,q,h,rfl⟩:=h;obtain⟨av,c',rfl,_⟩:=hv;have c1:w.cell? ⟨m,1,none⟩=some (af (some ⟨Bb,0,none⟩) M.b.length cb):=h.row.cell 1 _ rfl;have g1:((bs.length:Int) !=(M.b.length:Int))=true:=by simp only[bne_iff_ne,ne_eq];omega
 clear h;refine(callsIn_wide (n:=3)).1 ?_;refine gA func60 rfl trivial ?_ rfl;simp only[ntmps60,cJ,bz,cx,Nat.reduceAdd,Nat.reduceSub,cO,cP,cQ,cR,cy,cC]
 gi_wp2_with fail
 exact⟨_,results_tmp rfl _ _ _,rfl,aI _ _⟩
theorem Pc (w:ah):ap aj 65 #[am none] w fun e w'=>e=ao (aQ #[am none,ab ac 1])/\ag w.heap.size w w':=by
 go_enter func65,ntmps65;go_wp2_with fail;refine bo (results_tmp2 rfl _ _ _) rfl ?_;exact⟨rfl,aI _ _⟩
end
end
section
def qT (x:Img):Prop:=0<=x.index/\x.body.length=48/\aP x.body
theorem Ec {g:Nat->List Int} {seq:Int} (hg:∀k,aP (g k)/\(g k).length=64):∀(f k:Nat) (acc t:List Img),iT g seq f k acc=some t->(∀x ∈ acc,qT x)->(∀x ∈ t,qT x)/\t.length<=acc.length+f
 | 0,_,_,_,h,_=>by cases h
 | f+1,k,acc,t,h,ha=>by
  unfold iT at h;split at h
  ·cases h
  ·split at h
   ·split at h
    ·cases h
    ·cases h;exact⟨ha,by omega⟩
   ·split at h
    ·cases h
    ·have hp:=mU (hg k).1 (hg k).2;have hi:=zv (hg k).1 (hg k).2;obtain⟨h1,h2⟩:=Ec hg f (k+1) _ t h (fun x hx=>by
      rcases gc.1 hx with hx | hx
      ·exact ha x hx
      ·rw[eF.1 hx];exact⟨hi.1,hp.len,hp.bytes⟩)
     refine⟨h1, ?_⟩;rw[cE]at h2;simp only[bz,cx]at h2;omega
theorem Pd {rd:Nat->List Int} {frm count at0:Nat} {seq:Int} (hc:0<count) (hg:∀k,frm<=k->k<frm+count->aP (rd k)/\(rd k).length=64) {t:List Img} (h:lW rd frm count at0 seq=some t):(∀x ∈ t,qT x)/\t.length<=count:=by
 obtain⟨h1,h2⟩:=Ec (fun k=>hg _ (Nat.le_add_right _ _) (Nat.add_lt_add_left (iI _ hc) _)) count 0 [] t h (fun x hx=>by cases hx);exact⟨h1,by simpa using h2⟩
theorem Ed {rd:Nat->List Int} {frm count:Nat} (hc:0<count) (hg:∀k,frm<=k->k<frm+count->aP (rd k)/\(rd k).length=64):∀(f at0:Nat) (seq:Int) (acc:List (List Img)),(∀t ∈ acc,(∀x ∈ t,qT x)/\t.length<=count)->
  (∀t ∈(jP rd frm count f at0 seq acc).1,(∀x ∈ t,qT x)/\t.length<=count)/\(jP rd frm count f at0 seq acc).1.length<=acc.length+f
 | 0,at0,seq,acc,h=>⟨h,aG _⟩
 | f+1,at0,seq,acc,h=>by
  unfold jP;cases ho:lW rd frm count at0 seq with
  | none=>exact⟨h,by show acc.length<=_;omega⟩
  | some t=>
   obtain⟨h1,h2⟩:=Ed hc hg f ((at0+t.length+1)%count) ((seq+1)%4294967296) (acc++ [t]) (fun u hu=>by
    rcases gc.1 hu with hu | hu
    ·exact h u hu
    ·rw[eF.1 hu];exact Pd hc hg ho)
   refine⟨h1, ?_⟩;rw[cE]at h2;simp only[bz,cx]at h2;show(jP rd frm count f ((at0+t.length+1)%count) ((seq+1)%4294967296) (acc++ [t])).1.length<=_;omega
theorem Ee {count:Nat}:∀(ts:List (List Img)),(∀t ∈ ts,t.length<=count)->ts.flatten.length<=ts.length*count/\eP ts=ts.flatten.length+ts.length
 | [],_=>⟨by simp,rfl⟩
 | t::ts,h=>by
  obtain⟨h1,h2⟩:=Ee ts (fun u hu=>h u (ea _ hu));have h3:=h t (dC ..);refine⟨?_, ?_⟩
  ·rw[kN,cE,bz,Nat.add_mul,Nat.one_mul];omega
  ·rw[kN,cE,bz];have e:eP (t::ts)=t.length+1+eP ts:=by unfold eP;simp
   rw[e,h2];omega
theorem Pe {rd:Nat->List Int} {frm count at0:Nat} {seq:Int} (hc:0<count) (hc2:count<=256) (hg:∀k,frm<=k->k<frm+count->aP (rd k)/\(rd k).length=64):
  (∀x ∈(eh rd frm count at0 seq).1.flatten,0<=x.index/\x.body.length=48)/\(eh rd frm count at0 seq).1.flatten.length<=100000/\(eh rd frm count at0 seq).1.length<=256/\eP (eh rd frm count at0 seq).1<=100000:=by
 obtain⟨h1,h2⟩:=Ed hc hg count at0 seq [] (fun t h=>by cases h);have h2':(eh rd frm count at0 seq).1.length<=256:=bm h2 (by simpa using hc2);obtain⟨h3,h4⟩:=Ee (eh rd frm count at0 seq).1 (fun t ht=>(h1 t ht).2);have h5:(eh rd frm count at0 seq).1.length*count<=256*256:=kP h2' hc2;refine⟨fun x hx=> ?_,by omega,h2',by omega⟩;obtain⟨t,ht,hxt⟩:=List.mem_flatten.1 hx;have:=(h1 t ht).1 x hxt;exact⟨this.1,this.2.1⟩
end
section
attribute [-simp] isAgg51 zeroValue51 isAgg205 zeroValue205 isAgg304 zeroValue304 isAgg226 zeroValue226 isAgg207 zeroValue207 isAgg198 zeroValue198 isAgg23 zeroValue23 isAgg244 zeroValue244 isAgg213 zeroValue213
attribute [-go_sem] aE aL cS
section
theorem Ef (w:ah):(zeroValue 244).run aj w=.ok (al #[af none 0 0,ab ac 0,ab aO 0]) w:=by kernel_rfl
theorem Eg (w:ah) (rb:Nat) (a a':Option aF) (n c n' c':Nat) (gen:Int) (g:Geo) (x q wh at0 sq room:Int):
  (df 213 #[(0,am (some ⟨rb,0,none⟩)),(1,af a n c),(2,af a' n' c'),(3,al (cB gen g x q).toArray),(4,ab ac wh),(5,al #[ab ac at0,ab aO sq]),(6,ab ac room)]).run aj w=
   .ok (al (kq rb (af a n c) (af a' n' c') gen g x q wh at0 sq room).toArray) w:=by kernel_rfl
end
attribute [local go_sem] bC bD dz eK eL eM iD ew gH iC hU ia xG Ef xe gI gJ
theorem Pf {a b:Option Sup} {j:Nat} {x:Sup} (h:newer a b=some (j,x)):(j=0/\a=some x)\/(j=1/\b=some x):=by
 unfold newer at h;cases b with
 | none=>
  cases a with
  | none=>cases h
  | some y=>left;cases h;exact⟨rfl,rfl⟩
 | some y=>
  cases a with
  | none=>right;cases h;exact⟨rfl,rfl⟩
  | some z=>
   dsimp only at h
   split at h
   ·right;cases h;exact⟨rfl,rfl⟩
   ·left;cases h;exact⟨rfl,rfl⟩
theorem Eh {S:RS} (hby:S.Byt) {j:Nat} {x:Sup} (h:newer (S.supAt 0) (S.supAt 1)=some (j,x)):j<=1/\x.g.fitsR S.n0 S.n1/\(x.a:Int)<x.g.r/\SupIn x.gen x.g x.a x.q:=by
 have key:∀i,S.supAt i=some x->x.g.fitsR S.n0 S.n1/\(x.a:Int)<x.g.r/\SupIn x.gen x.g x.a x.q:=fun i hi=>by
  unfold RS.supAt at hi;split at hi
  ·rename_i hl;rcases DO S.n0 S.n1 (hby i hl).1 (hby i hl).2.1 with⟨y,h1,_,_,h4,h5⟩ | ⟨h1,_⟩
   ·rw[h1]at hi;cases hi;exact⟨h4.1,h4.2,h5⟩
   ·rw[h1]at hi;cases hi
  ·cases hi
 rcases Pf h with⟨rfl,h1⟩ | ⟨rfl,h1⟩
 ·exact⟨by omega,key 0 h1⟩
 ·exact⟨aG _,key 1 h1⟩
theorem Pg {now:List (List Int)} {x:Img} (h:∀y ∈ now,y.length=48) (hx:x.body.length=48):∀y ∈ eO now x,y.length=48:=by
 intro y hy;unfold eO at hy;split at hy
 ·rcases List.mem_or_eq_of_mem_set hy with h1 | h1
  ·exact h y h1
  ·rw[h1];exact hx
 ·exact h y hy
theorem Ei:∀(l:List Img) (now:List (List Int)),(∀y ∈ now,y.length=48)->(∀x ∈ l,x.body.length=48)->∀y ∈ l.foldl eO now,y.length=48
 | [],_,h,_=>h
 | x::l,now,h,hl=>Ei l (eO now x) (Pg h (hl x (dC ..))) (fun z hz=>hl z (ea _ hz))
theorem Ej:∀(l:List (List Int)),(∀y ∈ l,y.length=48)->l.flatten.length=48*l.length
 | [],_=>rfl
 | x::l,h=>by
  rw[kN,cE,Ej l (fun y hy=>h y (ea _ hy)),h x (dC ..),bz];omega
theorem Ph {home:List (List Int)} {ts:List (List Img)} (h:∀y ∈ home,y.length=48) (hi:∀x ∈ ts.flatten,0<=x.index/\x.body.length=48):(fo home ts).flatten.length=48*home.length:=by
 rw[Ej _ (by rw[CA];exact Ei _ _ h (fun x hx=>(hi x hx).2)),tj]
theorem qU {P:Program} {Q:Exit->Act->ah->Prop} {S:ah->Prop} {l:List Oper} {n i:Nat} {p:Plan} {a:Act} {w:ah}:gR P l Q S n (.take i p) a w=wpQuiet P l.toArray S (fun a'=>gR P l Q S n p a' w) [dL l i] a:=rfl
section
theorem Ek {rb p0 p1:Nat} {S:RS} {w:ah} {f:Nat->Prop} (h:aU rb p0 p1 S w f) (hr:S.Rdy) (hup:S.down=false) (hn2:2<=S.n0):
  ap aj 65 #[am (some ⟨rb,0,none⟩)] w fun e w'=>((∃M m fm,S.opn=some M/\e=ao (aQ #[am (some ⟨m,0,none⟩),ab ac 0])/\eR m rb M w' fm/\∀k,fm k->w.heap.size<=k)\/(S.opn=none/\e=ao (aQ #[am none,ab ac 11])))/\ag w.heap.size w w':=by
 have hby:=hr.bb.byt;have HNW:=ae (Ou h hby hup hn2);have hop:∀nv,newer (S.supAt 0) (S.supAt 1)=nv->S.opn=match nv with
  | none=>none
  | some (k,x)=>if∀i,i<x.g.P->il (S.rd (x.g.H+i)) i then some {g:=x.g,b:=((fo (S.homes x.g.H x.g.P) (eh S.rd 2 x.g.C x.a x.q).1).flatten).take x.g.bts.toNat,home:=S.homes x.g.H x.g.P,gen:=x.gen,sup:=k,at0:=(eh S.rd 2 x.g.C x.a x.q).2.1,seq:=(eh S.rd 2 x.g.C x.a x.q).2.2,used:=eP (eh S.rd 2 x.g.C x.a x.q).1}else none:=fun nv e=>by
  subst e
  rfl
 have hNT:∀j x,newer (S.supAt 0) (S.supAt 1)=some (j,x)->j<=1/\x.g.fitsR S.n0 S.n1/\(x.a:Int)<x.g.r/\SupIn x.gen x.g x.a x.q:=fun j x e=>Eh hby e;obtain⟨nv,hnv⟩:=w9nm (newer (S.supAt 0) (S.supAt 1));have HOP:=ae (hop nv hnv);rw[hnv]at HNW;have HNT:Hid (∀j x,nv=some (j,x)->j<=1/\x.g.fitsR S.n0 S.n1/\(x.a:Int)<x.g.r/\SupIn x.gen x.g x.a x.q):=fun j x e=>hNT j x (hnv.trans e);have HH:=ae h;have HRY:=ae hr;have HBY:=ae hby;have HUP:=ae hup;have hmx:=w9x
 clear h hr hup hn2 hby hop hNT hnv;go_enter func65,ntmps65;go_wp2_with fail;go_at_call 156;refine HNW.out.mono ?_;rintro e x1 ⟨rfl,hb⟩;cases nv with
 | none=>
  obtain⟨x2,ST2,r2,hb2⟩:=qS x1 (C:=fR) rfl (DQ none);have HB2:w9h w x2:=hb.trans (hb2.mono hb.size);clear hb r2 hb2;rw[show xB none=#[al fR.toArray,ab ac 0,ab ac 11]from rfl];obtain⟨zc,hzc⟩:=w9nm fR.toArray;rw[hzc];rw[hzc]at ST2;go_wp2_with fail;refine bo (results_tmp2 rfl _ _ _) rfl ?_;exact⟨aD ⟨HOP.out,rfl⟩,HB2.out⟩
 | some p=>
  obtain⟨j,x⟩:=p;have HOP:Hid (S.opn=if∀i,i<x.g.P->il (S.rd (x.g.H+i)) i then some {g:=x.g,b:=((fo (S.homes x.g.H x.g.P) (eh S.rd 2 x.g.C x.a x.q).1).flatten).take x.g.bts.toNat,home:=S.homes x.g.H x.g.P,gen:=x.gen,sup:=j,at0:=(eh S.rd 2 x.g.C x.a x.q).2.1,seq:=(eh S.rd 2 x.g.C x.a x.q).2.2,used:=eP (eh S.rd 2 x.g.C x.a x.q).1}else none):=HOP.out;obtain⟨hj,hfit,hax,hin⟩:=HNT.out j x rfl;obtain⟨hgood,hf0,hf1⟩:=hfit;obtain⟨nH,nP,nR,nB,nC⟩:=Geo.goodNums hgood;have hN:=Geo.nats hgood;have hgi:=Geo.goodIn hgood;have hHP:x.g.H+x.g.P<=S.n0:=by have:=hN.f;have:=hN.s1;unfold Geo.H;omega
  have hCn:2+x.g.C<=S.n0:=by have:=hHP;unfold Geo.H at this;omega
  have hW:=Pe (rd:=S.rd) (frm:=2) (count:=x.g.C) (at0:=x.a) (seq:=x.q) (by have:=hN.c1;omega) hN.c2 (fun k h1 h2=>⟨(HBY.out k (by omega)).1,(HBY.out k (by omega)).2.1⟩);have HRP:Hid (∀Y,ag w.heap.size w Y->ap aj 158 #[am (some ⟨rb,0,none⟩),ab ac ((2:Nat):Int),ab ac (x.g.C:Int),ab ac (x.a:Int),ab aO x.q] Y fun e w'=>
   (∃v,e=ao (aQ #[al (eQ v (eh S.rd 2 x.g.C x.a x.q).2.1 (eh S.rd 2 x.g.C x.a x.q).2.2).toArray,ab ac 0])/\iB 223 226 w' Y.heap.size v (eh S.rd 2 x.g.C x.a x.q).1)/\ag Y.heap.size Y w'):=fun Y hY=>
   Db.replay (HH.out.beside hY) HBY.out HUP.out (by have:=hN.c1;omega) hN.c2 hCn (by omega) HRY.out.n0 ⟨hin.seq.1,by have:=hin.seq.2;omega⟩
  have HRH:Hid (∀Y,ag w.heap.size w Y->ap aj 157 #[am (some ⟨rb,0,none⟩),al x.g.v] Y fun e w'=>
   (((∀i,i<x.g.P->il (S.rd (x.g.H+i)) i)/\∃v,e=ao (aQ #[v,ab ac 0])/\w'.ownsRow Y.heap.size 205 48 v x.g.P ((S.homes x.g.H x.g.P).map aw).flatten)\/((¬∀i,i<x.g.P->il (S.rd (x.g.H+i)) i)/\e=ao (aQ #[af none 0 0,ab ac 11])))/\ag Y.heap.size Y w'):=fun Y hY=>
   OM (HH.out.beside hY) HBY.out HUP.out hgi nH nP hHP HRY.out.n0
  have HM0:Hid (∀y ∈ S.homes x.g.H x.g.P,y.length=48):=fun y hy=>by
   unfold RS.homes at hy;obtain⟨i,hi,rfl⟩:=cM.1 hy;have hi':=dJ.1 hi;have hb:=HBY.out (x.g.H+i) (by omega);exact(mU hb.1 hb.2.1).len
  have hml:(S.homes x.g.H x.g.P).length=x.g.P:=by unfold RS.homes;simp
  have HML:=ae hml;obtain⟨RP,hRP⟩:=w9nm (eh S.rd 2 x.g.C x.a x.q);rw[hRP]at HRP HOP hW;obtain⟨hm,hhm⟩:=w9nm (S.homes x.g.H x.g.P);rw[hhm]at HRH HOP HM0 HML;obtain⟨ts,ta,tq⟩:=RP;obtain⟨w1,w2,w3,w4⟩:=hW;have HW1:=ae w1;have HW2:=ae w2;have HW4:=ae w4;have hfl:=Ph HM0.out w1;rw[HML.out]at hfl;have HFL:=ae hfl;have HIN:=ae hin;have HGI:=ae hgi;have HNR:=ae nR;have HNB:=ae nB;have HNT2:=ae hN;have HGD:=ae hgood;obtain⟨gr,hgr⟩:=w9nm x.g.r;have HGR:=ae hgr;rw[←nC,hgr]at HRP;clear hax hin hgood hf0 hf1 nH nP nR nB nC hN hgi hHP hCn hml hRP hhm w1 w2 hfl HNT HNW hgr;obtain⟨sc,hsc⟩:=w9nm ((cB x.gen x.g x.a x.q).toArray);have HSC:=ae hsc;obtain⟨x2,ST2,r2,hb2⟩:=qS x1 (C:=cB x.gen x.g x.a x.q) rfl (jU _ _ _ _);rw[hsc]at ST2;obtain⟨B4,hB4⟩:=w9nm x1.heap.size;rw[hB4]at ST2 r2;have K2:w9h w x2:=hb.trans (hb2.mono hb.size);have hB4w:w.heap.size<=B4:=by rw[←hB4];exact hb.size
  have LG:(aE 23 ⟨B4,1,none⟩).run aj x2=.ok (al x.g.v) x2:=r2.geoAt (g:=x.g) (pre:= [ab aO x.gen]) (post:= [ab ac x.a,ab aO x.q]) rfl;have R2:=ae r2;rw[show xB (some (j,x))=#[al sc,ab ac (j:Int),ab ac 0]from by rw[←hsc];rfl];clear hb hb2 r2 hsc;go_wp2_with fail;clear ST2 hB4 LG;go_at_call 157;refine(HRH.out x2 K2.out).mono ?_;rintro e x3 ⟨hcase,hb⟩;have K3:=w9bt K2 hb;have R3:=ae (R2.out.below hb);clear HRH;rcases hcase with⟨hok,v,rfl,hO⟩ | ⟨hno,rfl⟩
  ·have hop:S.opn=some {g:=x.g,b:=((fo hm ts).flatten).take x.g.bts.toNat,home:=hm,gen:=x.gen,sup:=j,at0:=ta,seq:=tq,used:=eP ts}:=by rw[HOP.out];exact if_pos hok
   obtain⟨gh,ch,cur,rfl,hpg,hghN,hcur⟩:=PgsR.of_owns hO HML.out (by have:=HNT2.out.p1;omega) HM0.out (by have:=HNT2.out.p2;omega);obtain⟨P,hP⟩:=w9nm x.g.P;rw[hP]at hpg;rw[hP];have HP:=ae hP;have HOPN:=ae hop;have HPG:=ae hpg;have HCU:=ae hcur;have HGH:Hid (w.heap.size<=gh):=bm K2.out.size hghN;clear hok hO hop hpg hghN hcur hb HOP hP;have dg:∀z:aM x3,(aE 23 ⟨B4,1,none⟩).run aj z.1=.ok (al x.g.v) z.1:=fun z=>(R3.out.below z.2).geoAt (g:=x.g) (pre:= [ab aO x.gen]) (post:= [ab ac x.a,ab aO x.q]) rfl;have d5:∀z:aM x3,z.1.cell? ⟨B4,5,none⟩=some (ab ac gr):=fun z=>by rw[←HGR.out];exact(R3.out.below z.2).cell 5 _ rfl
   have d6:∀z:aM x3,z.1.cell? ⟨B4,6,none⟩=some (ab ac (x.a:Int)):=fun z=>(R3.out.below z.2).cell 6 _ rfl;have d7:∀z:aM x3,z.1.cell? ⟨B4,7,none⟩=some (ab aO x.q):=fun z=>(R3.out.below z.2).cell 7 _ rfl;go_upto_region 9 with(fail)
   go_cut [6,8]from 30 to 47 (fun s6 s8 wx=>∃(Bt:Nat) (ra:Option aF) (cc TN:Nat),s6=ab ac 0/\s8=am (some ⟨Bt,0,none⟩)/\w9h x3 wx/\Hid (aq wx Bt 244 (eQ (af ra ts.length cc) ta tq))/\Hid (iB 223 226 wx TN (af ra ts.length cc) ts))
   case first=>
    refine mX (fun x=>∃y:aM x3,x=y.1) 19 (.takes [0,1,2,4,5,6,7,8,9,10,11,12] (.two 3 17 (.two 13 17 (.takes [14,15,16] (.one 17 (.one 18 .leaf))) (.one 13 (.takes [14,15,16] (.one 18 .leaf)))) (.one 3 (.one 13 (.takes [14,15,16] (.one 18 .leaf)))))) hmx (by kernel_rfl) ⟨⟨x3.drew,(aI _ x3).drew⟩,rfl⟩ ?_;repeat(rw[jM];simp only[aB,aC];go_big_quiet_step (fail);refine aV ?_)
    rw[jL,Az];simp only[aB,aC];clear dg d5 d6 d7;obtain⟨Y,hY⟩:=w9nm x3.drew;have BY:Hid (ag x3.heap.size x3 Y):=by show ag _ _ _;rw[←hY];exact(aI _ x3).drew
    try rw[hY]
    clear hY;refine⟨?_, ?_⟩
    ·go_wp2_with fail;go_at_call 130;refine(tX x.g HGI.out Y).mono ?_;rw[HNR.out];rintro e Y' ⟨rfl,hb⟩;have BY':w9h x3 Y':=BY.out.trans (hb.mono BY.out.size);clear hb BY;obtain⟨Y,rfl⟩:∃y,y=Y':=⟨_,rfl⟩;have BY:=BY';clear BY';go_wp2_with fail;refine aN ⟨⟨Y,BY.out⟩,rfl⟩ ?_;rw[Az];simp only[aB,aC];refine⟨?_, ?_⟩
     ·go_wp2_with fail;go_at_call 158;refine(HRP.out Y (K3.out.trans (BY.out.mono K3.out.size))).mono ?_;rintro e Y' ⟨⟨vt,rfl,ht⟩,hb⟩;obtain⟨ra,cc,rfl, -⟩:=ht.at
      have BY':w9h x3 Y':=BY.out.trans (hb.mono BY.out.size);have HT:=ae ht;obtain⟨lc,hlc⟩:=w9nm ((eQ (af ra ts.length cc) ta tq).toArray);have HLC:=ae hlc;rw[hlc];clear hb BY ht hlc;obtain⟨Y,rfl⟩:∃y,y=Y':=⟨_,rfl⟩;have BY:=BY';clear BY';go_wp2_with fail;refine aN ⟨⟨Y,BY.out⟩,rfl⟩ ?_;repeat(rw[jM];simp only[aB,aC];go_big_quiet_step (fail);refine aV ?_)
      rw[jL,eY];simp only[aB,aC];obtain⟨Y',hY'⟩:∃y,Y.alloc (an #[af none 0 0,ab ac 0,ab aO 0] 244)=y:=⟨_,rfl⟩;obtain⟨Bt,hBt⟩:=w9nm Y.heap.size;have RL:Hid (aq Y' Bt 244 [af none 0 0,ab ac 0,ab aO 0]):=by show aq _ _ _ _;rw[←hY',←hBt];exact aq.new Y _ _
      have hb:ag Y.heap.size Y Y':=by rw[←hY'];exact aH Y _
      have BY':w9h x3 Y':=BY.out.trans (hb.mono BY.out.size);have HBT:Hid (x3.heap.size<=Bt):=by show _<=_;rw[←hBt];exact BY.out.size
      have HT':=ae (HT.out.below hb);clear HT;have HT:=HT';clear HT';clear hb;go_wp2_with fail;clear hY' hBt BY;obtain⟨Y,rfl⟩:∃y,y=Y':=⟨_,rfl⟩;have BY:=BY';clear BY';refine aN ⟨⟨Y,BY.out⟩,rfl⟩ ?_;rw[eY];simp only[aB,aC];obtain⟨Z,STL,rZ,hgZ⟩:=og (v:=af ra ts.length cc) (a:=ta) (q:=tq) RL.out rfl rfl;rw[HLC.out]at STL;have BZ:w9h x3 Z:=BY.out.grown hgZ BY.out.size (fun j e=>by cases e;exact HBT.out);have TZ:=ae (HT.out.grownC RL.out (by decide) (by decide) hgZ);have RZ:=ae rZ;clear hgZ rZ HT BY RL HRP;go_wp2_with fail;refine aN ⟨⟨Z,BZ.out⟩,rfl⟩ ?_;rw[lR];simp only[bR,bQ];go_wp2_with fail
      go_meet
      exact⟨Bt,ra,cc,_,rfl,rfl,BZ,RZ,TZ⟩
     ·obtain⟨Y',hY'⟩:∃y,Y.alloc (an #[af none 0 0,ab ac 0,ab aO 0] 244)=y:=⟨_,rfl⟩;obtain⟨Bt,hBt⟩:=w9nm Y.heap.size;have RL:Hid (aq Y' Bt 244 [af none 0 0,ab ac 0,ab aO 0]):=by show aq _ _ _ _;rw[←hY',←hBt];exact aq.new Y _ _
      have hb:ag Y.heap.size Y Y':=by rw[←hY'];exact aH Y _
      have BY':w9h x3 Y':=BY.out.trans (hb.mono BY.out.size);have HBT:Hid (x3.heap.size<=Bt):=by show _<=_;rw[←hBt];exact BY.out.size
      clear hb;go_wp2_with fail;clear hY' hBt BY;obtain⟨Y,rfl⟩:∃y,y=Y':=⟨_,rfl⟩;have BY:=BY';clear BY';refine aN ⟨⟨Y,BY.out⟩,rfl⟩ ?_;rw[eY];simp only[aB,aC];go_wp2_with fail;go_at_call 158;refine(HRP.out Y (K3.out.trans (BY.out.mono K3.out.size))).mono ?_;rintro e Y' ⟨⟨vt,rfl,ht⟩,hb⟩;obtain⟨ra,cc,rfl, -⟩:=ht.at
      have BY':w9h x3 Y':=BY.out.trans (hb.mono BY.out.size);have RL':=ae (RL.out.below hb);clear RL;have RL:=RL';clear RL';have HT:=ae ht;obtain⟨lc,hlc⟩:=w9nm ((eQ (af ra ts.length cc) ta tq).toArray);have HLC:=ae hlc;rw[hlc];clear hb BY ht hlc;obtain⟨Y,rfl⟩:∃y,y=Y':=⟨_,rfl⟩;have BY:=BY';clear BY';go_wp2_with fail;refine aN ⟨⟨Y,BY.out⟩,rfl⟩ ?_;repeat(rw[jM];simp only[aB,aC];go_big_quiet_step (fail);refine aV ?_)
      rw[jL,eY];simp only[aB,aC];obtain⟨Z,STL,rZ,hgZ⟩:=og (v:=af ra ts.length cc) (a:=ta) (q:=tq) RL.out rfl rfl;rw[HLC.out]at STL;have BZ:w9h x3 Z:=BY.out.grown hgZ BY.out.size (fun j e=>by cases e;exact HBT.out);have TZ:=ae (HT.out.grownC RL.out (by decide) (by decide) hgZ);have RZ:=ae rZ;clear hgZ rZ HT BY RL HRP;go_wp2_with fail;refine aN ⟨⟨Z,BZ.out⟩,rfl⟩ ?_;rw[lR];simp only[bR,bQ];go_wp2_with fail
      go_meet
      exact⟨Bt,ra,cc,_,rfl,rfl,BZ,RZ,TZ⟩
    ·obtain⟨Y',hY'⟩:∃y,Y.alloc (an #[af none 0 0,ab ac 0,ab aO 0] 244)=y:=⟨_,rfl⟩;obtain⟨Bt,hBt⟩:=w9nm Y.heap.size;have RL:Hid (aq Y' Bt 244 [af none 0 0,ab ac 0,ab aO 0]):=by show aq _ _ _ _;rw[←hY',←hBt];exact aq.new Y _ _
     have hb:ag Y.heap.size Y Y':=by rw[←hY'];exact aH Y _
     have BY':w9h x3 Y':=BY.out.trans (hb.mono BY.out.size);have HBT:Hid (x3.heap.size<=Bt):=by show _<=_;rw[←hBt];exact BY.out.size
     clear hb;go_wp2_with fail;clear hY' hBt BY;obtain⟨Y,rfl⟩:∃y,y=Y':=⟨_,rfl⟩;have BY:=BY';clear BY';refine aN ⟨⟨Y,BY.out⟩,rfl⟩ ?_;rw[eY];simp only[aB,aC];go_wp2_with fail;go_at_call 130;refine(tX x.g HGI.out Y).mono ?_;rw[HNR.out];rintro e Y' ⟨rfl,hb⟩;have BY':w9h x3 Y':=BY.out.trans (hb.mono BY.out.size);have RL':=ae (RL.out.below hb);clear RL;have RL:=RL';clear RL';clear hb BY;obtain⟨Y,rfl⟩:∃y,y=Y':=⟨_,rfl⟩;have BY:=BY';clear BY';go_wp2_with fail;refine aN ⟨⟨Y,BY.out⟩,rfl⟩ ?_;rw[eY];simp only[aB,aC];go_wp2_with fail;go_at_call 158;refine(HRP.out Y (K3.out.trans (BY.out.mono K3.out.size))).mono ?_;rintro e Y' ⟨⟨vt,rfl,ht⟩,hb⟩;obtain⟨ra,cc,rfl, -⟩:=ht.at
     have BY':w9h x3 Y':=BY.out.trans (hb.mono BY.out.size);have RL':=ae (RL.out.below hb);clear RL;have RL:=RL';clear RL';have HT:=ae ht;obtain⟨lc,hlc⟩:=w9nm ((eQ (af ra ts.length cc) ta tq).toArray);have HLC:=ae hlc;rw[hlc];clear hb BY ht hlc;obtain⟨Y,rfl⟩:∃y,y=Y':=⟨_,rfl⟩;have BY:=BY';clear BY';go_wp2_with fail;refine aN ⟨⟨Y,BY.out⟩,rfl⟩ ?_;repeat(rw[jM];simp only[aB,aC];go_big_quiet_step (fail);refine aV ?_)
     rw[jL,eY];simp only[aB,aC];obtain⟨Z,STL,rZ,hgZ⟩:=og (v:=af ra ts.length cc) (a:=ta) (q:=tq) RL.out rfl rfl;rw[HLC.out]at STL;have BZ:w9h x3 Z:=BY.out.grown hgZ BY.out.size (fun j e=>by cases e;exact HBT.out);have TZ:=ae (HT.out.grownC RL.out (by decide) (by decide) hgZ);have RZ:=ae rZ;clear hgZ rZ HT BY RL HRP;go_wp2_with fail;refine aN ⟨⟨Z,BZ.out⟩,rfl⟩ ?_;rw[lR];simp only[bR,bQ];go_wp2_with fail
     go_meet
     exact⟨Bt,ra,cc,_,rfl,rfl,BZ,RZ,TZ⟩
   case rest=>
    obtain⟨Bt,ra,cc,TN,rfl,rfl,BZ,RZ,TZ⟩:=hcut;clear dg d5 d6 d7 HRP;have R4:=ae (R3.out.below BZ.out);have e0:∀z:aM wc,z.1.cell? ⟨Bt,0,none⟩=some (af ra ts.length cc):=fun z=>(RZ.out.below z.2).cell 0 _ rfl;have e1:∀z:aM wc,z.1.cell? ⟨Bt,1,none⟩=some (ab ac (ta:Int)):=fun z=>(RZ.out.below z.2).cell 1 _ rfl;have e2:∀z:aM wc,z.1.cell? ⟨Bt,2,none⟩=some (ab aO tq):=fun z=>(RZ.out.below z.2).cell 2 _ rfl;have eg:∀z:aM wc,(aE 23 ⟨B4,1,none⟩).run aj z.1=.ok (al x.g.v) z.1:=fun z=>(R4.out.below z.2).geoAt (g:=x.g) (pre:= [ab aO x.gen]) (post:= [ab ac x.a,ab aO x.q]) rfl;have e5:∀z:aM wc,z.1.cell? ⟨B4,5,none⟩=some (ab ac gr):=fun z=>by rw[←HGR.out];exact(R4.out.below z.2).cell 5 _ rfl
    have es:∀z:aM wc,(aE 198 ⟨B4,0,none⟩).run aj z.1=.ok (al sc) z.1:=fun z=>by rw[←HSC.out];exact(R4.out.below z.2).sup
    have HZ3:w9h w wc:=K3.out.trans (BZ.out.mono K3.out.size);go_wp2_with fail;refine mX (fun x=>∃y:aM wc,x=y.1) 26 (.takes [0,1,2,3,5,6,9,10,11,12,13,14,15,16,17,18,19,20,21] (.one 4 (.one 7 (.take 8 (.one 22 (.take 23 (.take 24 (.one 25 .leaf)))))))) hmx (by kernel_rfl) ⟨⟨wc.drew,(aI _ wc).drew⟩,rfl⟩ ?_;repeat(rw[jM];simp only[aB,aC];go_big_quiet_step (fail);refine aV ?_)
    rw[jL,eY];simp only[aB,aC];clear e0 e1 e2 eg e5 es;obtain⟨V,hV⟩:=w9nm wc.drew;have BV:Hid (ag wc.heap.size wc V):=by show ag _ _ _;rw[←hV];exact(aI _ wc).drew
    try rw[hV]
    clear hV;have HRPL:=ae (OJ V (HPG.out.below (BZ.out.trans (BV.out.mono BZ.out.size))) (by intro e;have h1:=HML.out;have h2:=HNT2.out.p1;rw[e]at h1;simp at h1;omega) (TZ.out.below BV.out) HW1.out HW2.out (by omega));obtain⟨FL,hFL⟩:=w9nm ((fo hm ts).flatten);have HFLE:=ae hFL;have HFL:=ae HFL.out;rw[hFL]at HRPL HFL;obtain⟨fl,hfl⟩:=w9nm FL.length;have HFLN:=ae hfl;rw[hfl]at HRPL HFL;clear hFL hfl;go_wp2_with fail;go_at_call 159;refine HRPL.out.mono ?_;rintro e V1 ⟨v',rfl,hO,hb⟩;have h0fl:0<fl:=by have h1:=HFL.out;have h2:=HNT2.out.p1;omega
    obtain⟨Bb,cb,rfl,hBbN,hcb,hBbl,hrg⟩:=px hO h0fl;have hcur:cb<=aY/\∃cur,V1.heap[Bb]? =some (an cur 5 (0,0)):=by
     rcases hO.2 with⟨h',_⟩ | ⟨g',c',cur,e,h1,h2,h3,h4,_⟩
     ·cases h'
     ·cases e;exact⟨h4,cur,h2⟩
    have BV1:=w9bt BV hb;have HBB:Hid (V.heap.size<=Bb/\fl<=cb/\Bb<V1.heap.size/\V1.rangeAt Bb 0 (aw FL)/\cb<=aY/\∃cur,V1.heap[Bb]? =some (an cur 5 (0,0))):=⟨hBbN,hcb,hBbl,hrg,hcur.1,hcur.2⟩;clear hO hb h0fl hBbN hBbl hrg hcur HRPL;go_wp2_with fail;refine aN ⟨⟨V1,BV1.out⟩,rfl⟩ ?_;rw[eY];simp only[aB,aC];go_wp2_with fail;go_at_call 127;refine(qu x.g HGI.out V1).mono ?_;obtain⟨bn,hbn⟩:=w9nm x.g.bts.toNat;have hbb:x.g.bts=(bn:Int):=by rw[←hbn];exact HNT2.out.b.symm
    rw[HNB.out,hbb];rintro e V2 ⟨rfl,hb⟩;have BV2:=w9bt BV1 hb;have HV12:w9h V1 V2:=hb;have hbf:0<bn/\bn<=fl/\bn<=714:=by
     have h1:=HFL.out;have h2:=HNT2.out.bp;have h3:=HNT2.out.p1;have h4:=HNT2.out.b2;rw[hbn]at h2 h4;exact⟨by omega,by omega,h4⟩
    have HBN:=ae hbn;have HBF:=ae hbf;have hs1:(bn:Int)<=(cb:Int):=by have:=hbf.2.1;omega
    clear hb hbn hbb hbf;go_wp2_with fail;refine aN ⟨⟨V2,BV2.out⟩,rfl⟩ ?_;rw[qU];simp only[aB,aC]
    go_big_quiet_step (fail)
    refine aV ?_;clear hs1;have hus:eP ts<=100000:=HW4.out;have hg0:0<=gr/\gr<=256:=by have h1:=HNT2.out.c;have h2:=HNT2.out.c2;have h3:=HGR.out;exact⟨by omega,by omega⟩
    obtain⟨hg1,hg2⟩:=hg0;rw[eY];simp only[aB,aC];go_wp2_with fail;go_at_call 160;refine(NK _ ts V2 (TZ.out.below BV2.out) (by omega)).mono ?_;rintro e V' ⟨rfl,hv'⟩;obtain rfl:=hv'.symm;clear hv';obtain⟨us,husn⟩:=w9nm (eP ts);have HUS:=ae husn;rw[husn]at hus;rw[husn];clear husn;go_wp2_with fail;refine aN ⟨⟨V2,BV2.out⟩,rfl⟩ ?_;rw[qU];simp only[aB,aC]
    go_big_quiet_step (fail)
    refine aV ?_;rw[qU];simp only[aB,aC];refine tw _ _ rfl rfl [(0,am (some ⟨rb,0,none⟩)),(1,af (some ⟨Bb,0,none⟩) bn cb),(2,af (some ⟨gh,0,none⟩) P ch),(3,al sc),(4,ab ac (j:Int)),(5,al #[ab ac (ta:Int),ab aO tq]),(6,ab ac (gr - (us:Int)))] (al (kq rb (af (some ⟨Bb,0,none⟩) bn cb) (af (some ⟨gh,0,none⟩) P ch) x.gen x.g x.a x.q j ta tq (gr - (us:Int))).toArray) rfl (fun z _=>by rw[←HSC.out];exact Eg z rb _ _ _ _ _ _ _ _ _ _ _ _ _ _) ?_;refine aV ?_;rw[eY];simp only[aB,aC];obtain⟨mc,hmc⟩:=w9nm ((kq rb (af (some ⟨Bb,0,none⟩) bn cb) (af (some ⟨gh,0,none⟩) P ch) x.gen x.g x.a x.q j ta tq (gr - (us:Int))).toArray);rw[hmc];obtain⟨F,hF⟩:=w9nm (V2.alloc (an mc 213));obtain⟨m,hm'⟩:∃b,V2.heap.size=b:=⟨_,rfl⟩;have BF:Hid (ag V2.heap.size V2 F):=by show ag _ _ _;rw[←hF];exact aH V2 _
    have BZF:w9h wc F:=BV2.out.trans (BF.out.mono BV2.out.size);have RF:Hid (aq F m 213 (kq rb (af (some ⟨Bb,0,none⟩) bn cb) (af (some ⟨gh,0,none⟩) P ch) x.gen x.g x.a x.q j ta tq (gr - (us:Int)))):=by show aq _ _ _ _;rw[←hF,←hm',←hmc];exact aq.new V2 _ _
    have HMM:Hid (V2.heap.size=m):=hm';go_wp2_with fail;clear hF hm' hmc;refine aN ⟨⟨F,BZF.out⟩,rfl⟩ ?_;rw[lR];simp only[bR,bQ];go_wp2_with fail;refine bo (results_tmp2 rfl _ _ _) rfl ?_;have hbl:(List.take x.g.bts.toNat (fo hm ts).flatten).length=bn:=by rw[HFLE.out,HBN.out,dj,HFLN.out];have:=HBF.out.2.1;omega
    have hml:hm.length=P:=HML.out.trans HP.out;have h1:w.heap.size<=wc.heap.size:=HZ3.out.size;have h2:wc.heap.size<=V.heap.size:=BV.out.size;have h3:V1.heap.size<=V2.heap.size:=HV12.out.size;have h4:V.heap.size<=V1.heap.size:=by have:=HBB.out.1;have:=HBB.out.2.2.1;omega
    have h5:=HMM.out;have hghl:gh<x3.heap.size:=HPG.out.lt;have h6:x3.heap.size<=wc.heap.size:=BZ.out.size;have hBB:=HBB.out;have hgF:F.heap[gh]? =x3.heap[gh]? :=(BF.out.block gh (by omega)).trans ((BV2.out.block gh (by omega)).trans (BZ.out.block gh hghl));have hbF:F.heap[Bb]? =V1.heap[Bb]? :=(BF.out.block Bb (by omega)).trans (HV12.out.block Bb (by omega));refine⟨aA ⟨_,m,fun k=>k=m\/k=Bb\/k=gh,HOPN.out,rfl,⟨Bb,cb,gh,ch,x.a,x.q, ?_,rfl⟩,fun k hk=> ?_⟩,HZ3.out.trans (BZF.out.mono h1)⟩
    ·refine⟨?_,by omega,by omega,by omega,by show 0< (List.take x.g.bts.toNat (fo hm ts).flatten).length;rw[hbl];exact HBF.out.1,by show 0<hm.length;rw[hml];have h7:=HNT2.out.p1;have h8:=HP.out;omega,by show(List.take x.g.bts.toNat (fo hm ts).flatten).length<=cb/\cb<=aY;rw[hbl];exact⟨by have:=HBF.out.2.1;omega,hBB.2.2.2.2.1⟩, ?_, ?_,⟨cur,_,hgF.trans HCU.out⟩,ij HPG.out.at_ hgF⟩
     ·show aq F m _ (kq rb (af (some ⟨Bb,0,none⟩) (List.take x.g.bts.toNat (fo hm ts).flatten).length cb) (af (some ⟨gh,0,none⟩) hm.length ch) x.gen x.g x.a x.q j ta tq (x.g.r - ((eP ts:Nat):Int)));rw[hbl,hml,HGR.out,HUS.out];exact RF.out
     ·obtain⟨cur',h⟩:=hBB.2.2.2.2.2;exact⟨cur',_,hbF.trans h⟩
     ·show F.rangeAt Bb 0 (aw (List.take x.g.bts.toNat (fo hm ts).flatten));rw[HFLE.out];refine ij (fun i v hi=>hBB.2.2.2.1 i v ?_) hbF;unfold aw at hi ⊢;rw[List.map_take,kx]at hi;split at hi
      ·exact hi
      ·cases hi
    ·have h9:w.heap.size<=gh:=HGH.out;rcases hk with rfl | rfl | rfl
     ·omega
     ·omega
     ·exact h9
  ·have hop:S.opn=none:=by rw[HOP.out];exact if_neg hno
   clear hb;go_wp2_with fail;refine bo (results_tmp2 rfl _ _ _) rfl ?_;exact⟨aD ⟨hop,rfl⟩,K3.out⟩
end
theorem Pi {S:RS} (hby:S.Byt) {M:MS} (h:S.opn=some M):2<=S.n0:=by
 cases hn:newer (S.supAt 0) (S.supAt 1)with
 | none=>unfold RS.opn at h;rw[hn]at h;cases h
 | some p=>
  obtain⟨j,x⟩:=p;obtain⟨_,hf,_⟩:=Eh hby hn;have hN:=Geo.nats hf.1;have h1:=hN.f;have h2:=hf.2.1;have h3:=hN.s1;omega
theorem Pj {rb p0 p1:Nat} {S:RS} {w:ah} {f:Nat->Prop} (h:aU rb p0 p1 S w f) (hr:S.Rdy) (hu:S.Up) {M:MS} (ho:S.opn=some M):
  ap aj 65 #[am (some ⟨rb,0,none⟩)] w fun e w'=>∃m,e=ao (aQ #[am (some ⟨m,0,none⟩),ab ac 0])/\∃f',dr (aU rb p0 p1 S) (eR m rb M) w' f'/\Turn f f' w w':=by
 refine(Ek h hr hu.down (Pi hr.bb.byt ho)).mono ?_;rintro e w' ⟨⟨M',m,fm,h1,rfl,h2,h3⟩ | ⟨h1,_⟩,hb⟩
 ·rw[ho]at h1;cases h1;have hlt:=(aU.isRes rb p0 p1 S).lt h;exact⟨m,rfl,fun k=>f k\/fm k,⟨f,fm,h.beside hb,h2,fun k hk hm=>by have:=hlt k hk;have:=h3 k hm;omega,rfl⟩,(Turn.of_below hb).less fun k hk=>hk.elim aA fun hm=>aD (h3 k hm)⟩
 ·rw[ho]at h1;cases h1
theorem Pk {rb p0 p1:Nat} {S:RS} {w:ah} {f:Nat->Prop} (h:aU rb p0 p1 S w f) (hr:S.Rdy) (hu:S.Up) (hn:2<=S.n0) (ho:S.opn=none):
  ap aj 65 #[am (some ⟨rb,0,none⟩)] w fun e w'=>e=ao (aQ #[am none,ab ac 11])/\ag w.heap.size w w':=by
 refine(Ek h hr hu.down hn).mono ?_;rintro e w' ⟨⟨M',m,fm,h1,_⟩ | ⟨_,rfl⟩,hb⟩
 ·rw[ho]at h1;cases h1
 ·exact⟨rfl,hb⟩
end
section
theorem xH (g:Geo) (b:List Int) (h:dt b=g.P):cU g b= [fP 0 2,fP 2 g.C++fY g.H (aX b) (fX (aX b).length fun _=>true), [(0,aw (gG 1 g 0 1).bytes)]]:=by
 unfold cU;rw[MV g b h]
 rfl
structure StepOk (S T:RS) (l:cH):Prop where
 st:S.st l=(T,0)
 fu:S.fuse<=1000000
 d:0<=S.done/\S.done<=940000
 few:S.Few 250
 lt:∀x ∈ l,x.1<S.n0
 nodup:(l.map (·.1)).Nodup
 blk:∀x ∈ l,cz x.2
 len:l.length<=1000
theorem Pm {S:RS} (hr:S.Rdy) (hu:S.Up) {g:Geo} {b:List Int} (hg:g.good) (h0:g.oF<=S.n0) (hl:b.length=g.bts.toNat) (hb:aP b):
  ∀k l,(cU g b)[k]? =some l->StepOk (S.bat ((cU g b).take k)).1 (S.bat ((cU g b).take (k+1))).1 l:=by
 have hok:=wP hg h0 hb (S:=S);have hN:=Geo.nats hg;have hpc:dt b=g.P:=by unfold dt;rw[hl,hN.bp]
 have hL3:(cU g b).length=3:=by rw[xH g b hpc];rfl
 have hlen:∀l ∈ cU g b,l.length<=1000:=by
  intro l h;rw[xH g b hpc]at h;have:=hN.c2;have:=hN.p2;simp only[dy,lM,or_false]at h;rcases h with rfl | rfl | rfl
  ·rw[xb];omega
  ·rw[cE,xb];have h2:(fY g.H (aX b) (fX (aX b).length fun _=>true)).length<=(aX b).length:=by unfold fY;rw[dV];exact MR _ _
   rw[lX,hpc]at h2;rw[lX,hpc];omega
  ·simp
 have hE:∀k,(S.bat ((cU g b).take k)).2=0:=fun k=>(RS.bat_up _ S hu fun l hl x hx=>(hok l (jE hl)).lt x hx).1;have hst:∀k l,(cU g b)[k]? =some l->(S.bat ((cU g b).take k)).1.st l=((S.bat ((cU g b).take (k+1))).1,0):=fun k l hk=>by
  have e:(cU g b).take (k+1)=(cU g b).take k++ [l]:=by rw[jZ,hk];rfl
  have h1:=RS.bat_append ((cU g b).take k) [l] S;rw[if_pos (hE k),←e,RS.bat_one]at h1;rw[←h1];exact Prod.ext rfl (hE (k+1))
 have key:∀k,k<=3->(S.bat ((cU g b).take k)).1.n0=S.n0/\(S.bat ((cU g b).take k)).1.Few (100+k)/\(0<=(S.bat ((cU g b).take k)).1.done/\(S.bat ((cU g b).take k)).1.done<=500000+(1001*k:Nat))/\(S.bat ((cU g b).take k)).1.fuse<=1000000:=by
  intro k
  induction k with
  | zero=>intro _;exact⟨rfl,hr.few,⟨hr.d0,hr.d1⟩,hr.fu⟩
  | succ k ih=>
   intro hk;obtain⟨i1,i2,i3,i4⟩:=ih (by omega);have hget:(cU g b)[k]? =some ((cU g b)[k]'(by omega)):=aZ _;have hm:=dp hget;obtain⟨j1,j2,j3,j4,_⟩:=RS.Rdy.st (l:=(cU g b)[k]'(by omega)) (m:=100+k) (d:=1001*k) i2 i3 i4 (by omega) (by rw[i1];exact(hok _ hm).lt) (hok _ hm).nodup;rw[hst k _ hget]at j1 j2 j3 j4;have:=hlen _ hm;refine⟨j1.trans i1,j2,⟨j3.1, ?_⟩,j4⟩;have h:(S.bat ((cU g b).take (k+1))).1.done<=_:=j3.2;omega
 intro k l hk;have hkl:k<3:=by rw[←hL3];exact(bZ.1 hk).1
 obtain⟨i1,i2,i3,i4⟩:=key k (by omega);have hm:=dp hk;refine⟨hst k l hk,i4,⟨i3.1,by have:=i3.2;omega⟩,i2.mono (by omega),by rw[i1];exact(hok l hm).lt,(hok l hm).nodup,fun x hx=> ?_,hlen l hm⟩;obtain⟨bs,e,_,h64⟩:=(hok l hm).bb x hx;rw[e];exact gQ h64
theorem Pn {S:RS} (hu:S.Up) {g:Geo} {b:List Int} (hg:g.good) (h0:g.oF<=S.n0) (hb:aP b):(S.bat ((cU g b).take 0)).1=S/\(S.bat ((cU g b).take 3)).1=(S.bat (cU g b)).1:=by
 refine⟨rfl, ?_⟩;rw[de (by unfold cU;simp)]
section
theorem Pp (w:ah) (a b c:Option aF) (la lb lc ca cb cc:Nat):(dh 209 3 #[(0,af a la ca),(1,af b lb cb),(2,af c lc cc)]).run aj w=.ok (af (some ⟨w.heap.size,0,none⟩) 3 3) (w.alloc (an #[af a la ca,af b lb cb,af c lc cc] 199)):=by kernel_rfl
end
theorem Pq {l:cH} (h:∀x ∈ l,cz x.2):∀x ∈ bU l,∀y ∈ x,y.oneCell'=true:=by
 intro x hx;obtain⟨y,hy,rfl⟩:=cM.1 hx;exact qK (h y hy)
theorem Pr (a b:cH):bU (a++b)=bU a++bU b:=ec
theorem Ps {w w':ah} {N e size n:Nat} {v:ak} {xs:List ak} (h:w.ownsRow N e size v n xs) (h2:∀g,v.ownBlock=some g->w'.heap[g]? =w.heap[g]?):w'.ownsRow N e size v n xs:=by
 refine⟨h.1, ?_⟩;rcases h.2 with h' | ⟨g,cap,cur,rfl,a1,a2,a3⟩
 ·exact aA h'
 ·exact aD ⟨g,cap,cur,rfl,a1,(h2 g rfl).trans a2,a3⟩
theorem oq {w:ah} {N M e size n:Nat} {v:ak} {xs:List ak} (h:w.ownsRow N e size v n xs) (hM:M<=N):w.ownsRow M e size v n xs:=by
 refine⟨h.1, ?_⟩;rcases h.2 with h' | ⟨g,cap,cur,rfl,a1,a2,a3⟩
 ·exact aA h'
 ·exact aD ⟨g,cap,cur,rfl,bm hM a1,a2,a3⟩
theorem qV {w:ah} {N e size n:Nat} {v:ak} {xs:List ak} (h:w.ownsRow N e size v n xs):∀g,v.ownBlock=some g->N<=g/\g<w.heap.size:=by
 intro g hg;rcases h.2 with⟨rfl,_⟩ | ⟨g',cap,cur,rfl,a1,a2,a3⟩
 ·cases hg
 ·cases hg;exact⟨a1,(bL.1 a2).1⟩
end
section
attribute [-simp] isAgg51 zeroValue51 isAgg205 zeroValue205 isAgg304 zeroValue304 isAgg226 zeroValue226 isAgg207 zeroValue207 isAgg198 zeroValue198 isAgg23 zeroValue23 isAgg244 zeroValue244 isAgg213 zeroValue213
attribute [-go_sem] aE aL cS
attribute [local go_sem] bC bD dz eK eL eM iD ew gH iC hU ia xG Ef xe gI gJ
section
theorem Pt {rb p0 p1:Nat} {S:RS} {w:ah} {f:Nat->Prop} (h:aU rb p0 p1 S w f) (hr:S.Rdy) (hu:S.Up) {g:Geo} (hgi:g.In) (hg:g.good) (h0:g.oF<=S.n0) (h1:g.oW<=S.n1) {v:ak} {bs:List Int} (hv:Sl ay w v bs) (hbs:aP bs) (hl:bs.length=g.bts.toNat) (ha:ub v f):
  ap aj 57 #[am (some ⟨rb,0,none⟩),al g.v,v] w fun e w'=>∃m,e=ao (aQ #[am (some ⟨m,0,none⟩),ab ac 0])/\∃f',dr (aU rb p0 p1 (S.bat (cU g bs)).1) (eR m rb (MS.new g bs)) w' f'/\Turn f f' w w':=by
 have hN:=Geo.nats hg;obtain⟨nH,nP,nR,nB,nC⟩:=Geo.goodNums hg;have hpc:dt bs=g.P:=by unfold dt;rw[hl,hN.bp]
 have hP2:2<=g.P:=hN.p1;have hP15:g.P<=15:=hN.p2;have hb0:0<bs.length:=by have:=hN.bp;rw[hl];omega
 have hb7:bs.length<=714:=by rw[hl];exact hN.b2
 have HST:=ae (Pm hr hu hg h0 hl hbs);obtain⟨e0,e3⟩:=Pn hu hg h0 hbs;rw[←e3];obtain⟨T,hT⟩:∃T:Nat->RS,(fun k=>(S.bat ((cU g bs).take k)).1)=T:=⟨_,rfl⟩;have hTk:∀k,(S.bat ((cU g bs).take k)).1=T k:=fun k=>by rw[←hT]
 rw[hTk]at e0;rw[hTk];have HST:Hid (∀k l,(cU g bs)[k]? =some l->StepOk (T k) (T (k+1)) l):=fun k l hk=>by have:=HST.out k l hk;rwa [hTk,hTk]at this
 rw[xH g bs hpc]at HST;have HT0:=ae e0;have HFI:Hid (∀Y,ag w.heap.size w Y->ap aj 126 #[am (some ⟨rb,0,none⟩),al g.v] Y fun e w'=>e=ao (.bool true)/\ag Y.heap.size Y w'):=fun Y hY=>by
  have:=(h.beside hY).fits g hgi
  rwa [decide_eq_true (show g.fitsR S.n0 S.n1 from⟨hg,h0,h1⟩)]at this
 have HCT:Hid (∀x,ag w.heap.size w x->ap aj 128 #[v] x fun e w'=>∃gh c cur,e=ao (af (some ⟨gh,0,none⟩) g.P c)/\PgsR w' (af (some ⟨gh,0,none⟩) g.P c) gh (aX bs)/\x.heap.size<=gh/\w'.heap[gh]? =some (an cur 205 (0,0))/\ag x.heap.size x w'):=fun x hx=>by
  have:=ug x (hv.below hx) hbs (by omega) (by rw[hpc];omega)
  rwa [hpc]at this
 have HCL:Hid ((aX bs).length=g.P):=by show _=_;rw[lX,hpc]
 have HCK:=ae (tm hbs);have hne:bs≠ []:=by intro e;rw[e]at hb0;simp at hb0
 obtain⟨Bv,ov,cv,rfl,hvl⟩:∃Bv ov cv,v=af (some ⟨Bv,ov,none⟩) bs.length cv/\Bv<w.heap.size:=by
  obtain⟨a',c',e,_,_,hla,_⟩:=hv;rcases hla with h0 | ⟨b',o',e',h3,_⟩
  ·exact absurd h0 hne
  ·exact⟨b',o',c',by rw[e,e'],h3⟩
 have HVF:Hid (¬f Bv/\Bv<w.heap.size):=⟨ha Bv ov bs.length cv rfl,hvl⟩;have hB:g.oB=(bs.length:Int):=by rw[nB,hl];exact hN.b.symm
 have HB:=ae hB;have HVS:=ae hv;have HH:=ae h;have HGI:=ae hgi;have HGD:=ae hg;have HNN:=ae hN;have HNH:=ae nH;have HNR:=ae nR;have HLB:=ae hl;have HB0:Hid (0<bs.length/\bs.length<=714):=⟨hb0,hb7⟩;have HSIN:Hid (SupIn 1 g 0 1):=Geo.supIn hg ⟨by omega,by omega⟩ ⟨by omega,by have:=hN.c;have:=hN.c1;omega⟩ ⟨by omega,by omega⟩;have HZ0:Hid (∀Y:ah,ap aj 129 #[ab ac 0,ab ac 2] Y fun e w'=>∃v,e=ao v/\w'.ownsRow Y.heap.size 207 65 v (bU (fP 0 2)).length (bU (fP 0 2)).flatten/\ag Y.heap.size Y w'):=fun Y=>Dh (F:=0) (n:=2) (by omega) (by omega) Y;obtain⟨gr,hgr⟩:=w9nm g.r;have HGR:=ae hgr;have HZ1:Hid (∀Y:ah,ap aj 129 #[ab ac ((2:Nat):Int),ab ac gr] Y fun e w'=>∃v,e=ao v/\w'.ownsRow Y.heap.size 207 65 v (bU (fP 2 g.C)).length (bU (fP 2 g.C)).flatten/\ag Y.heap.size Y w'):=fun Y=>by
  have:=Dh (F:=2) (n:=g.C) (by omega) (by have:=hN.c2;omega) Y
  rwa [←nC,hgr]at this
 have HSWR:Hid (∀x,ap aj 133 #[ab ac 0,al (cB 1 g 0 1).toArray] x fun e w'=>e=ao (al (dW (0,aw (eB 1 g 0 1).bytes)).toArray)/\ag x.heap.size x w'):=fun x=>DI 0 HSIN.out x;have hmx:=w9x
 obtain⟨P,hP⟩:=w9nm g.P;rw[hP]at HCT HCL hP2 hP15;obtain⟨n,hn⟩:=w9nm bs.length;rw[hn]at HCT HB HVS HLB HB0;have HBN:=ae hn;rw[hn];clear h hr hu hgi hg h0 h1 hv hbs hl ha hN nH nP nR nB nC hpc hb0 hb7 e0 e3 hT hTk hne hvl hB hP hn hgr;obtain⟨W1,hW1⟩:=w9nm (w.alloc (an g.v 23));have r1:aq W1 w.heap.size 23 g.cs:=by rw[←hW1];exact aq.new w _ _
 have b1:ag w.heap.size w W1:=by rw[←hW1];exact aH w _
 obtain⟨B1,hB1⟩:=w9nm w.heap.size;have HB1:=ae hB1;rw[hB1]at r1;have R1:=ae r1;have K1:=ae b1;have L1:=cG r1;clear r1 b1;go_enter func57,ntmps57;go_wp2_with fail;clear hW1 hB1 L1;go_at_call 126;refine(HFI.out W1 K1.out).mono ?_;rintro e x1 ⟨rfl,hb⟩;have K2:=w9bt K1 hb;have R2:=ae (R1.out.below hb);have L1:=cG R2.out;clear hb R1 HFI;go_wp2_with fail;clear L1;go_at_call 127;refine(qu g HGI.out x1).mono ?_;rw[HB.out];rintro e x2 ⟨rfl,hb⟩;have K3:=w9bt K2 hb;have R3:=ae (R2.out.below hb);clear hb R2;go_wp2_with fail;go_at_call 128;refine(HCT.out x2 K3.out).mono ?_;rintro e x3 ⟨gh,ch,cur,rfl,hpg,hgh,hcur,hb⟩;have K4:=w9bt K3 hb;have R4:=ae (R3.out.below hb);have HGH:Hid (w.heap.size<=gh):=bm K3.out.size hgh;have L1:=cG R4.out;obtain⟨x4,ST,r4,hb4⟩:=qS x3 (C:=cB 1 g 0 1) rfl (jU _ _ _ _);obtain⟨B9,hB9⟩:=w9nm x3.heap.size;obtain⟨sc,hsc⟩:=w9nm ((cB 1 g 0 1).toArray);have HSC:=ae hsc;have BS:Hid ((df 198 #[(0,ab aO 1),(1,al g.v),(2,al #[ab ac 0,ab aO 1])]).run aj x3=.ok (al sc) x3):=by show _=_;rw[←hsc];exact Dq 1 g 0 1 x3
 rw[hB9,hsc]at ST;rw[hB9]at r4;rw[hsc]at HSWR;have K5:=w9bt K4 hb4;have R5:=ae (R4.out.below hb4);have R9:=ae r4;have PG:=ae (hpg.below hb4);have HCU:Hid (x4.heap[gh]? =some (an cur 205 (0,0))):=(hb4.block _ hpg.lt).trans hcur;have HB9:Hid (w.heap.size<=B9):=by show _<=_;rw[←hB9];exact K4.out.size
 clear hb hpg hgh hcur hb4 r4 R3 R4 HCT hsc;go_wp2_with (first | ((with_reducible refine nA 198 ?_);refine nz _ _ rfl rfl [(0,ab aO 1),(1,al g.v),(2,al #[ab ac 0,ab aO 1])] _ rfl BS.out ?_));clear ST L1 hB9 BS;have eg:∀z:aM x4,(aE 23 ⟨B1,0,none⟩).run aj z.1=.ok (al g.v) z.1:=fun z=>cG (R5.out.below z.2);have e4:∀z:aM x4,z.1.cell? ⟨B1,4,none⟩=some (ab ac gr):=fun z=>by rw[←HGR.out];exact(R5.out.below z.2).cell 4 _ rfl
 have es:∀z:aM x4,(aE 198 ⟨B9,0,none⟩).run aj z.1=.ok (al sc) z.1:=fun z=>by rw[←HSC.out];exact(R9.out.below z.2).sup
 refine mX (fun x=>∃y:aM x4,x=y.1) 17 (.takes [1,3,4,6,7,11,16] (.one 0 (.one 2 (.one 5 (.one 8 (.one 9 (.one 10 (.one 12 (.one 13 (.one 14 (.take 15 .leaf))))))))))) hmx (by kernel_rfl) ⟨⟨x4.drew,(aI _ x4).drew⟩,rfl⟩ ?_;repeat(rw[jM];simp only[aB,aC];go_big_quiet_step (fail);refine aV ?_)
 rw[jL,eY];simp only[aB];clear eg e4 es;obtain⟨V0,hV0⟩:=w9nm x4.drew;have BV0:Hid (ag x4.heap.size x4 V0):=by show ag _ _ _;rw[←hV0];exact(aI _ x4).drew
 try rw[hV0]
 clear hV0;go_wp2_with fail;go_at_call 129;refine(HZ0.out V0).mono ?_;rintro e V1 ⟨v0,rfl,hO0,hb⟩;have BV1:=w9bt BV0 hb;have O0:=ae (oq hO0 BV0.out.size);clear hO0 hb;go_wp2_with fail;refine aN ⟨⟨V1,BV1.out⟩,rfl⟩ ?_;rw[eY];simp only[aB,aC];go_wp2_with fail;go_at_call 130;refine(tX g HGI.out V1).mono ?_;rw[HNR.out];rintro e V2 ⟨rfl,hb⟩;have BV2:=w9bt BV1 hb;have O0':=ae (dQ O0.out hb);clear hb O0;go_wp2_with fail;refine aN ⟨⟨V2,BV2.out⟩,rfl⟩ ?_;rw[eY];simp only[aB,aC];go_wp2_with fail;go_at_call 129;refine(HZ1.out V2).mono ?_;rintro e V3 ⟨v1,rfl,hO1,hb⟩;have BV3:=w9bt BV2 hb;have O0:=ae (dQ O0'.out hb);have HV23:Hid (V2.heap.size<=V3.heap.size):=hb.size;have HN0:Hid (∀b,v0.ownBlock=some b->b<V2.heap.size):=fun b e=>(qV O0'.out b e).2;have O1:=ae hO1;clear hb O0' hO1;go_wp2_with fail;refine aN ⟨⟨V3,BV3.out⟩,rfl⟩ ?_;rw[eY];simp only[aB,aC];go_wp2_with fail;go_at_call 132;refine(NO _ _ _ V3).mono ?_;rintro e V4 ⟨rfl,hV4⟩;have hb:ag V3.heap.size V3 V4:=by rw[hV4];exact aH V3 _
 have HV24:Hid (V2.heap.size<=V4.heap.size):=bm HV23.out hb.size;have BV4:=w9bt BV3 hb;obtain⟨Bs,hBs⟩:=w9nm V3.heap.size;have hPB:PgsB V4 Bs gh (aX bs):=by
  refine⟨⟨af (some ⟨gh,0,none⟩) P ch, ?_,PG.out.below BV4.out⟩, ?_⟩
  ·rw[hV4,←hBs];exact dD V3 _ _
  ·rw[hV4,←hBs,bO];omega
 have HHW:=ae (DU (H:=g.H) HGI.out HNH.out (by have:=HNN.out.c2;unfold Geo.H;omega) HCL.out (by omega) HCK.out (fun _=>true) 215 #[am (some ⟨Bs,0,none⟩)]
  (enters_of func215 (by kernel_rfl) rfl) (fun k=>k=Bs\/k=gh) V4 (by rintro k (rfl | rfl);exact hPB.lt;exact(PG.out.below BV4.out).lt) (NQ 2 (by omega) Bs gh P (aX bs) HCL.out V4 hPB))
 rw[←HCL.out]at HHW;have O0':=ae (dQ O0.out hb);have O1':=ae (dQ O1.out hb);rw[hBs];clear hb O0 O1 hV4 hBs hPB;go_wp2_with fail;refine aN ⟨⟨V4,BV4.out⟩,rfl⟩ ?_;rw[eY];simp only[aB,aC];go_wp2_with fail;go_at_call 131;refine HHW.out.mono ?_;rintro e V5 ⟨v2,rfl,hO2,hb⟩;have HV25:Hid (V2.heap.size<=V5.heap.size):=bm HV24.out hb.size;have BV5:=w9bt BV4 hb;have O0:=ae (dQ O0'.out hb);have O1:=ae (dQ O1'.out hb);have O2:=ae hO2;clear hb O0' O1' HHW hO2;go_wp2_with fail;refine aN ⟨⟨V5,BV5.out⟩,rfl⟩ ?_;rw[eY];simp only[aB,aC];have hN1:=qV O1.out;obtain⟨v3,V6,ra,o3,g6, -⟩:=Nc V2.heap.size V5 v1 v2 _ _ O1.out (oq O2.out (bc _)) (Pq fun x hx=>(HST.out 1 _ rfl).blk x (List.mem_append_right _ hx)) (by
  have h1:=(HST.out 1 _ rfl).len;rw[cE]at h1;have e1:(bU (fP 2 g.C)).length=(fP 2 g.C).length:=by simp[bU]
  have e2:(bU (fY g.H (aX bs) (fX (aX bs).length fun _=>true))).length=(fY g.H (aX bs) (fX (aX bs).length fun _=>true)).length:=by simp[bU]
  rw[e1,e2];omega) HV25.out
 have RA6:=ae ra;have hne:v0.ownBlock=none\/v0.ownBlock≠v1.ownBlock:=by
  cases e:v0.ownBlock with
  | none=>exact aA rfl
  | some b=>exact aD fun e2=>by have h1:=HN0.out b e;have h2:=(hN1 b e2.symm).1;omega
 have O6:=ae (O0.out.kept g6 hne);have BV6:w9h x4 V6:=BV5.out.grown g6 BV5.out.size (fun j e=>bm BV2.out.size (hN1 j e).1);have O3:Hid (V6.ownsRow x4.heap.size 207 65 v3 (bU (fP 2 g.C++fY g.H (aX bs) (fX (aX bs).length fun _=>true))).length (bU (fP 2 g.C++fY g.H (aX bs) (fX (aX bs).length fun _=>true))).flatten):=by
  rw[Pr];exact oq o3 BV2.out.size
 clear hN1 ra o3 g6 hne O0 O1 O2 HN0;go_wp2_with ((at_builtin;refine wpList_append_run (.tmp 34) (.tmp 38) 199 rfl rfl _ _ _ rfl rfl RA6.out ?_));refine aN ⟨⟨V6,BV6.out⟩,rfl⟩ ?_;clear RA6;rw[eY];simp only[aB,aC];go_wp2_with fail;go_at_call 133;refine(HSWR.out V6).mono ?_;rintro e V7 ⟨rfl,hb⟩;have BV7:=w9bt BV6 hb;have O0:=ae (dQ O6.out hb);have O1:=ae (dQ O3.out hb);have hbk:cz (aw (eB 1 g 0 1).bytes):=gQ (Sct.bytes_length (xz HSIN.out.gen _ _ _));have hwl:=nb (x:=(0,aw (eB 1 g 0 1).bytes)) hbk.length;have hl2: [dW (0,aw (eB 1 g 0 1).bytes)]=bU [(0,aw (gG 1 g 0 1).bytes)]:=by rw[show gG 1 g 0 1=eB 1 g 0 1 from(xh 1 g 0 1).symm];rfl
 obtain⟨wc,hwc⟩:=w9nm (dW (0,aw (eB 1 g 0 1).bytes));rw[hwc]at hwl hl2;rw[hwc];obtain⟨V8,hx8⟩:=w9nm (V7.alloc (an wc.toArray 207));have SB:(dh 199 1 #[(0,al wc.toArray)]).run aj V7=.ok (af (some ⟨V7.heap.size,0,none⟩) 1 1) V8:=by rw[←hx8];exact tt V7 _ hwl
 have b8:ag V7.heap.size V7 V8:=by rw[←hx8];exact aH V7 _
 have BV8:=w9bt BV7 b8;have hO8:V8.ownsRow V7.heap.size 207 65 (af (some ⟨V7.heap.size,0,none⟩) 1 1) (bU [(0,aw (gG 1 g 0 1).bytes)]).length (bU [(0,aw (gG 1 g 0 1).bytes)]).flatten:=by
  rw[←hl2];refine⟨by simp[hwl],aD ⟨V7.heap.size,1,wc.toArray,rfl,aG _,by rw[←hx8];exact cD V7 _,by simp,by unfold aY;omega,by simp[hwl], ?_⟩⟩;simp;exact de (by omega)
 have O2:=ae (oq hO8 BV7.out.size);have O0':=ae (dQ O0.out b8);have O1':=ae (dQ O1.out b8);obtain⟨Bq,hBq⟩:=w9nm V7.heap.size;rw[hBq]at SB O2;clear hb hbk hwl hwc hx8 b8 hO8 O0 O1 O6 O3 hl2 hBq;go_wp2_with fail;refine aN ⟨⟨V7,BV7.out⟩,rfl⟩ ?_;rw[eY];simp only[aB,aC];refine dR _ _ _ rfl rfl [(0,al wc.toArray)] _ rfl SB ?_;clear SB;go_wp2_with fail;refine aN ⟨⟨V8,BV8.out⟩,rfl⟩ ?_;rw[eY];simp only[aB,aC];obtain⟨l0,hl0⟩:=w9nm (fP 0 2);obtain⟨l1,hl1⟩:=w9nm (fP 2 g.C++fY g.H (aX bs) (fX (aX bs).length fun _=>true));obtain⟨l2,hl2⟩:∃l:cH, [(0,aw (gG 1 g 0 1).bytes)]=l:=⟨_,rfl⟩;have hl2n:l2.length=1:=by rw[←hl2];rfl
 rw[hl0,hl1,hl2]at HST;rw[hl0]at O0';rw[hl1]at O1';rw[hl2]at O2;clear hl0 hl1 hl2 HZ0 HZ1 HSWR;have eW:∀l:cH,(bU l).length=l.length:=fun l=>by simp[bU]
 rw[eW]at O0' O1' O2;obtain⟨a0,c0,rfl, -⟩:=ke O0'.out;obtain⟨a1,c1,rfl, -⟩:=ke O1'.out;rw[hl2n]at O2;obtain⟨V9,hV9⟩:=w9nm (V8.alloc (an #[af a0 l0.length c0,af a1 l1.length c1,af (some ⟨Bq,0,none⟩) 1 1] 199));have SB:(dh 209 3 #[(0,af a0 l0.length c0),(1,af a1 l1.length c1),(2,af (some ⟨Bq,0,none⟩) 1 1)]).run aj V8=.ok (af (some ⟨V8.heap.size,0,none⟩) 3 3) V9:=by rw[←hV9];exact Pp V8 _ _ _ _ _ _ _ _ _
 have b9:ag V8.heap.size V8 V9:=by rw[←hV9];exact aH V8 _
 have BV9:=w9bt BV8 b9;obtain⟨L,hL⟩:=w9nm V8.heap.size;have hLr:aq V9 L 199 [af a0 l0.length c0,af a1 l1.length c1,af (some ⟨Bq,0,none⟩) 1 1]:=by rw[←hV9,←hL];exact aq.new V8 _ _
 have HLr:=ae hLr;have HLW:Hid (w.heap.size<=L):=by show _<=_;rw[←hL];exact bm K5.out.size BV8.out.size
 have HLST:Hid (∀k l, [l0,l1,l2][k]? =some l->∃a c,V9.cell? ⟨L,k,none⟩=some (af a l.length c)/\V9.ownsRow w.heap.size 207 65 (af a l.length c) l.length (bU l).flatten):=fun k l hk=>by
  match k,hk with
  | 0,hk=>cases hk;exact⟨a0,c0,HLr.out.cell 0 _ rfl,oq (dQ O0'.out b9) K5.out.size⟩
  | 1,hk=>cases hk;exact⟨a1,c1,HLr.out.cell 1 _ rfl,oq (dQ O1'.out b9) K5.out.size⟩
  | 2,hk=>cases hk;exact⟨_,1,by rw[hl2n];exact HLr.out.cell 2 _ rfl,by rw[hl2n];exact oq (dQ O2.out b9) K5.out.size⟩
  | k+3,hk=>simp at hk
 rw[hL]at SB;clear hV9 b9 hL hLr O0' O1' O2 hl2n eW;refine dR _ _ _ rfl rfl [(0,af a0 l0.length c0),(1,af a1 l1.length c1),(2,af (some ⟨Bq,0,none⟩) 1 1)] _ rfl SB ?_;clear SB;go_wp2_with fail;refine aN ⟨⟨V9,BV9.out⟩,rfl⟩ ?_;rw[qU];simp only[aB,aC]
 go_big_quiet_step (fail)
 refine aV ?_;rw[lR];simp only[bR,bQ];have KW:w9h w V9:=K5.out.trans (BV9.out.mono K5.out.size);have HFL:Hid (∀k,f k->k<w.heap.size):=fun k hk=>(aU.isRes rb p0 p1 S).lt HH.out k hk;have H0:Hid (aU rb p0 p1 (T 0) V9 f):=by show aU _ _ _ _ _ _;rw[HT0.out];exact HH.out.beside KW.out
 go_wp2_with fail;go_loopw [45] (fun i wr=>∃(k:Nat) (fk:Nat->Prop),k<=3/\i=ab ac (k:Int)/\Hid (aU rb p0 p1 (T k) wr fk)/\Hid (Turn f fk V9 wr)) (fun i _=>3 - (aS i).toNat)
 case atStart=>exact⟨0,f,bc _,rfl,H0,Turn.refl _ _⟩
 case round=>
  obtain⟨k,fk,hk,rfl,HQ,HTU⟩:=hrel;by_cases hlt:k<3
  ·have g3:decide ((k:Int)<3)=true:=by simp;omega
   obtain⟨l,hlk⟩:∃l, [l0,l1,l2][k]? =some l:=⟨_,aZ (by simpa using hlt)⟩;obtain⟨a,c,hc,hO⟩:=HLST.out k l hlk;have hst:=HST.out k l hlk;have hLn:¬f L:=fun h=>by have h1:=HFL.out L h;have h2:=HLW.out;omega
   have hcw:wr.cell? ⟨L,k,none⟩=some (af a l.length c):=(gj (a:=⟨L,k,none⟩) (HTU.out.out L HLr.out.lt hLn)).trans hc;have hOw:wr.ownsRow w.heap.size 207 65 (af a l.length c) l.length (bU l).flatten:=Ps hO fun b e=>HTU.out.out b (qV hO b e).2 (fun h=>by have h1:=HFL.out b h;have h2:=(qV hO b e).1;omega);have hOf:∀b,(Value.slice a l.length c).ownBlock=some b->¬fk b:=fun b e h=>by
    have h2:=qV hO b e;rcases HTU.out.new b h with h1 | h1
    ·have:=HFL.out b h1;omega
    ·omega
   have HS:=ae (xd HQ.out (by have:=hst.fu;omega) ⟨hst.d.1,by have:=hst.d.2;omega⟩ hst.few (by omega) hst.lt hst.nodup hst.blk hst.len (v:=af a l.length c) (N:=w.heap.size) (by rw[show(bU l).length=l.length by simp[bU]];exact hOw) hOf);rw[hst.st]at HS;clear hlk hc hO hst hLn hOw hOf;go_wp2_with fail;go_at_call 134;refine HS.out.mono ?_;rintro e y1 ⟨rfl,f1,hq,ht⟩;have Q1:=ae hq;have T1:=ae (HTU.out.trans ht);clear hq ht HS hcw;go_wp2_with fail;go_roundw
   case rel=>exact⟨k+1,f1,hlt,by go_num,Q1,T1⟩
   case measure=>simp[aS];omega
  ·have g3:decide ((k:Int)<3)=false:=by simp;omega
   obtain rfl:k=3:=by omega
   clear hk hlt;go_wp2_with fail;have HTW:Hid (Turn f fk w wr):=(Turn.of_below KW.out).trans HTU.out;have hkp:∀b,w.heap.size<=b->b<V9.heap.size->wr.heap[b]? =V9.heap[b]? :=fun b hb1 hb2=>HTU.out.out b hb2 (fun h=>by have:=HFL.out b h;omega);have hsz9:x4.heap.size<=V9.heap.size:=BV9.out.size;have hg1:aq wr B1 23 g.cs:=(hkp B1 (by rw[HB1.out];exact aG _) (bq R5.out.lt hsz9)).trans (R5.out.below BV9.out);have hg9:aq wr B9 198 (cB 1 g 0 1):=(hkp B9 HB9.out (bq R9.out.lt hsz9)).trans (R9.out.below BV9.out);have hghl:gh<x4.heap.size:=PG.out.lt;have hgh9:wr.heap[gh]? =x4.heap[gh]? :=(hkp gh HGH.out (by omega)).trans (BV9.out.block gh hghl);have hsl:Sl ay wr (af (some ⟨Bv,ov,none⟩) n cv) bs:=HVS.out.same HTW.out.size (fun b e=>by cases e;exact HTW.out.out Bv HVF.out.2 HVF.out.1);have eb:∀z:aM wr,z.1.cell? ⟨B1,4,none⟩=some (ab ac gr):=fun z=>by rw[←HGR.out];exact(hg1.below z.2).cell 4 _ rfl
   have es:∀z:aM wr,(aE 198 ⟨B9,0,none⟩).run aj z.1=.ok (al sc) z.1:=fun z=>by rw[←HSC.out];exact(hg9.below z.2).sup
   have ep:∀z:aM wr,(aE 196 ⟨B9,6,none⟩).run aj z.1=.ok (al #[ab ac 0,ab aO 1]) z.1:=fun z=>Eb fun j v hj=>by
    match j,hj with
    | 0,hj=>simp at hj;rw[←hj];exact(hg9.below z.2).cell 6 _ rfl
    | 1,hj=>simp at hj;rw[←hj];exact(hg9.below z.2).cell 7 _ rfl
    | j+2,hj=>simp at hj
   have ec6:∀z:aM wr,z.1.cell? ⟨B9,6,none⟩=some (ab ac 0):=fun z=>(hg9.below z.2).cell 6 _ rfl;have ec7:∀z:aM wr,z.1.cell? ⟨B9,7,none⟩=some (ab aO 1):=fun z=>(hg9.below z.2).cell 7 _ rfl;have HGHF:=ae hgh9;have HGHL:=ae hghl;have HSZ9:=ae hsz9;have HSL:=ae hsl;clear hkp hsz9 hg1 hg9 hghl hgh9 hsl HLST HST;go_wp2_with fail;refine mX (fun x=>∃y:aM wr,x=y.1) 11 (.takes [0,1,3,4,5,6,7,8] (.one 2 (.take 9 (.one 10 .leaf)))) hmx (by kernel_rfl) ⟨⟨wr.drew,(aI _ wr).drew⟩,rfl⟩ ?_;repeat(rw[jM];simp only[aB,aC];go_big_quiet_step (fail);refine aV ?_)
   rw[jL,eY];simp only[aB,aC];clear eb es ep ec6 ec7;obtain⟨V,hV⟩:=w9nm wr.drew;have BV:Hid (ag wr.heap.size wr V):=by show ag _ _ _;rw[←hV];exact(aI _ wr).drew
   try rw[hV]
   clear hV;have hbn0:=HB0.out;have HCL2:=ae (xC V (HSL.out.below BV.out) (by intro e;have h1:=HBN.out;rw[e]at h1;simp at h1;omega) (by have:=HBN.out;omega));clear hbn0;go_wp2_with fail;go_at_call 135;refine HCL2.out.mono ?_;rintro e V' ⟨v',rfl,hO,hb⟩;obtain⟨Bc,cc,rfl,hBcN,hcc,hBcl,hrg⟩:=px hO (by rw[HBN.out];exact HB0.out.1);have hcur:cc<=aY/\∃cur,V'.heap[Bc]? =some (an cur 5 (0,0)):=by
    rcases hO.2 with⟨h',_⟩ | ⟨g',c',cur,e,h1,h2,h3,h4,_⟩
    ·cases h'
    ·cases e;exact⟨h4,cur,h2⟩
   have BV':w9h wr V':=BV.out.trans (hb.mono BV.out.size);have HBB:Hid (wr.heap.size<=Bc/\bs.length<=cc/\Bc<V'.heap.size/\V'.rangeAt Bc 0 (aw bs)/\cc<=aY/\∃cur,V'.heap[Bc]? =some (an cur 5 (0,0))):=⟨bm BV.out.size hBcN,hcc,hBcl,hrg,hcur.1,hcur.2⟩;rw[HBN.out];clear hO hb hBcN hcc hBcl hrg hcur HCL2;go_wp2_with fail;refine aN ⟨⟨V',BV'.out⟩,rfl⟩ ?_;rw[qU];simp only[aB,aC];refine tw _ _ rfl rfl [(0,am (some ⟨rb,0,none⟩)),(1,af (some ⟨Bc,0,none⟩) n cc),(2,af (some ⟨gh,0,none⟩) P ch),(3,al sc),(4,ab ac 0),(5,al #[ab ac 0,ab aO 1]),(6,ab ac gr)] (al (kq rb (af (some ⟨Bc,0,none⟩) n cc) (af (some ⟨gh,0,none⟩) P ch) 1 g 0 1 0 0 1 gr).toArray) rfl (fun z _=>by rw[←HSC.out];exact Eg z rb _ _ _ _ _ _ _ _ _ _ _ _ _ _) ?_;refine aV ?_;rw[eY];simp only[aB,aC];obtain⟨mc,hmc⟩:=w9nm ((kq rb (af (some ⟨Bc,0,none⟩) n cc) (af (some ⟨gh,0,none⟩) P ch) 1 g 0 1 0 0 1 gr).toArray);rw[hmc];obtain⟨F,hF⟩:=w9nm (V'.alloc (an mc 213));obtain⟨m,hm'⟩:∃b,V'.heap.size=b:=⟨_,rfl⟩;have BF:Hid (ag V'.heap.size V' F):=by show ag _ _ _;rw[←hF];exact aH V' _
   have BZF:w9h wr F:=BV'.out.trans (BF.out.mono BV'.out.size);have RF:Hid (aq F m 213 (kq rb (af (some ⟨Bc,0,none⟩) n cc) (af (some ⟨gh,0,none⟩) P ch) 1 g 0 1 0 0 1 gr)):=by show aq _ _ _ _;rw[←hF,←hm',←hmc];exact aq.new V' _ _
   have HMM:Hid (V'.heap.size=m):=hm';go_wp2_with fail;clear hF hm' hmc;refine aN ⟨⟨F,BZF.out⟩,rfl⟩ ?_;rw[lR];simp only[bR,bQ];go_wp2_with fail;refine bo (results_tmp2 rfl _ _ _) rfl ?_;have h1:=HTW.out.size;have h2:=BV'.out.size;have h5:=HMM.out;have hBB:=HBB.out;have hghl:=HGHL.out;have h9:=HSZ9.out;have hgw:w.heap.size<=gh:=HGH.out;have h10:=HTU.out.size;have hgF:F.heap[gh]? =x4.heap[gh]? :=(BZF.out.block gh (by omega)).trans HGHF.out;have hbF:F.heap[Bc]? =V'.heap[Bc]? :=BF.out.block Bc (by omega);have hlt:=(aU.isRes rb p0 p1 (T 3)).lt HQ.out;have hgn:¬fk gh:=fun h=>by
    rcases HTU.out.new gh h with h3 | h3
    ·have:=HFL.out gh h3;omega
    ·omega
   refine⟨m,rfl,fun k=>fk k\/(k=m\/k=Bc\/k=gh),⟨fk,_,HQ.out.beside BZF.out,⟨Bc,cc,gh,ch,0,1, ?_,rfl⟩,fun k hk hm=> ?_,rfl⟩,(HTW.out.trans (Turn.of_below BZF.out)).less fun k hk=> ?_⟩
   ·refine⟨?_,by omega,by omega,by omega,by show 0<bs.length;rw[HBN.out];exact HB0.out.1,by show 0< (aX bs).length;rw[HCL.out];omega,⟨hBB.2.1,hBB.2.2.2.2.1⟩, ?_,ij hBB.2.2.2.1 hbF,⟨cur,_,hgF.trans HCU.out⟩,ij PG.out.at_ hgF⟩
    ·show aq F m _ (kq rb (af (some ⟨Bc,0,none⟩) bs.length cc) (af (some ⟨gh,0,none⟩) (aX bs).length ch) 1 g 0 1 ((0:Nat):Int) ((0:Nat):Int) 1 (g.r - ((0:Nat):Int)));rw[HBN.out,HCL.out,HGR.out,show gr - ((0:Nat):Int)=gr by omega];exact RF.out
    ·obtain⟨cur',h⟩:=hBB.2.2.2.2.2;exact⟨cur',_,hbF.trans h⟩
   ·have h3:=hlt k hk;rcases hm with rfl | rfl | rfl
    ·omega
    ·omega
    ·exact hgn hk
   ·rcases hk with h | rfl | rfl | rfl
    ·exact aA h
    ·right;omega
    ·right;omega
    ·right;exact hgw
end
end
section
attribute [-simp] isAgg51 zeroValue51 isAgg205 zeroValue205 isAgg304 zeroValue304 isAgg226 zeroValue226 isAgg207 zeroValue207 isAgg198 zeroValue198 isAgg23 zeroValue23
attribute [-go_sem] aE aL cS
attribute [local go_sem] bC bD dz eK eL eM iD ew gH iC hU ia gI gJ
section
theorem Pu {rb p0 p1:Nat} {S:RS} {w:ah} {f:Nat->Prop} (h:aU rb p0 p1 S w f) (hr:S.Rdy) {g:Geo} (hgi:g.In) {v:ak} {bs:List Int} (hv:Sl ay w v bs) (hno:¬(g.good/\g.oF<=S.n0/\g.oW<=S.n1/\bs.length=g.bts.toNat)):
  ap aj 57 #[am (some ⟨rb,0,none⟩),al g.v,v] w fun e w'=>e=ao (aQ #[am none,ab ac 1])/\ag w.heap.size w w':=by
 obtain⟨av,c',rfl,_⟩:=hv;obtain⟨W1,hW1⟩:=w9nm (w.alloc (an g.v 23));have r1:aq W1 w.heap.size 23 g.cs:=by rw[←hW1];exact aq.new w _ _
 have b1:ag w.heap.size w W1:=by rw[←hW1];exact aH w _
 have HFI:=ae ((h.beside b1).fits g hgi);obtain⟨B1,hB1⟩:=w9nm w.heap.size;rw[hB1]at r1;have R1:=ae r1;have K1:=ae b1;have L1:=cG r1;have HGI:=ae hgi;by_cases hf:g.fitsR S.n0 S.n1
 ·rw[decide_eq_true hf]at HFI;have hN:=Geo.nats hf.1;have hB:Hid (g.oB=g.bts):=(Geo.goodNums hf.1).2.2.2.1;have hbl:bs.length≠g.bts.toNat:=fun e=>hno ⟨hf.1,hf.2.1,hf.2.2,e⟩;have g1:((bs.length:Int) != g.bts)=true:=by
   have:=hN.b;simp only[bne_iff_ne,ne_eq];omega
  clear h hr hgi hno hf hN hbl r1 b1;go_enter func57,ntmps57;go_wp2_with fail;clear hW1 hB1 L1;go_at_call 126;refine HFI.out.mono ?_;rintro e x1 ⟨rfl,hb⟩;have K2:=w9bt K1 hb;have R2:=ae (R1.out.below hb);have L1:=cG R2.out;clear hb R1 HFI;go_wp2_with fail;clear L1;go_at_call 127;refine(qu g HGI.out x1).mono ?_;rw[hB.out];rintro e x2 ⟨rfl,hb⟩;have K3:=w9bt K2 hb;clear hb R2;go_wp2_with fail;refine bo (results_tmp2 rfl _ _ _) rfl ?_;exact⟨rfl,K3.out⟩
 ·rw[decide_eq_false hf]at HFI;clear h hr hgi hno hf r1 b1;go_enter func57,ntmps57;go_wp2_with fail;clear hW1 hB1 L1;go_at_call 126;refine HFI.out.mono ?_;rintro e x1 ⟨rfl,hb⟩;have K2:=w9bt K1 hb;clear hb R1 HFI;go_wp2_with fail;refine bo (results_tmp2 rfl _ _ _) rfl ?_;exact⟨rfl,K2.out⟩
end
theorem Pv {m rb:Nat} {M:MS} {w:ah} {f:Nat->Prop} (h:eR m rb M w f):0<M.b.length:=by
 obtain⟨_,_,_,_,_,_,h,_⟩:=h;exact h.b0
theorem qW:MetaOk DW where
 format:=by
  intro rb p0 p1 S w f h hr hu g hgi hg h0 h1 v bs hv hb hl ha;refine Pt h hr hu hgi hg h0 h1 hv hb hl (ha ?_);intro e;have hN:=Geo.nats hg;have h1:=hN.bp;have h2:=hN.p1;rw[e]at hl;simp at hl;omega
 format_no:=by
  intro rb p0 p1 S w f h hr g hgi v bs hv hno;exact Pu h hr hgi hv hno
 open_:=by
  intro rb p0 p1 S w f h hr hu M ho;exact Pj h hr hu ho
 open_no:=by
  intro rb p0 p1 S w f h hr hu hn ho;exact Pk h hr hu hn ho
 open_nil:=Pc
 bytes:=by
  intro m rb M w f h hl _;exact DY h hl
 bytes_nil:=OP
 room:=by
  intro m rb M w f h _ _;exact ON h
 room_nil:=OO
 geom:=by
  intro m rb M w f h;exact uf h
 geom_nil:=OQ
 commit:=by
  intro rb p0 p1 m S M w f h hr _ hok v bs hv hb hl ha;refine OZ h hr hok hv hb hl (ha ?_);intro e;obtain⟨f1,f2,_,h2,_⟩:=h;have:=Pv h2;rw[e]at hl;simp at hl;omega
 commit_no:=by
  intro m rb M w f h v bs hv hl;exact Pb h hv hl
 commit_nil:=by
  intro w v bs hv;exact Pa w hv
end
section
structure WSlot where
 b:Int
 d:Bool
 k:Bool
def wE:WSlot:=⟨-1,false,false⟩
structure WS where
 h:Nat
 l:List WSlot
def WS.slot (x:WS) (w:Nat):WSlot:=x.l[w]?.getD wE
def WS.put (x:WS) (w:Nat) (v:WSlot):WS:=⟨x.h,x.l.set w v⟩
def jr (l:List WSlot) (b:Int):Option Nat:=l.findIdx? fun s=>s.b==b
theorem qX {x:WS} {w:Nat} (v:WSlot) (h:w<x.l.length):(x.put w v).slot w=v:=by
 unfold WS.slot WS.put;rw[List.getElem?_set_self h];rfl
theorem pB {x:WS} {w u:Nat} (v:WSlot) (h:w≠u):(x.put w v).slot u=x.slot u:=by
 unfold WS.slot WS.put;rw[List.getElem?_set_ne h]
theorem El (x:WS) (w:Nat) (v:WSlot):(x.put w v).l.length=x.l.length:=by unfold WS.put;simp
theorem Em {x:WS} {w:Nat} (h:w<x.l.length):x.slot w ∈ x.l:=by
 unfold WS.slot;rw[aZ h];exact List.getElem_mem h
def WS.Bare (x:WS):Prop:=∀s ∈ x.l,s.b<0->s=wE
structure WM where
 wy:Nat
 ss:List WS
def Pw:WS:=⟨0, []⟩
def WM.set (m:WM) (s:Nat):WS:=m.ss[s]?.getD Pw
def WM.upd (m:WM) (s:Nat) (x:WS):WM:=⟨m.wy,m.ss.set s x⟩
def WM.of (m:WM) (b:Int):Nat:=(b%(m.ss.length:Int)).toNat
def WM.slot (m:WM) (i:Nat):WSlot:=(m.set (i / m.wy)).slot (i%m.wy)
def WM.size (m:WM):Nat:=m.ss.length*m.wy
def fq (m:WM) (b:Int):Option Nat:=if b<0 then none else(jr (m.set (m.of b)).l b).map fun w=>m.of b*m.wy+w
def gx (m:WM) (i:Nat) (v:WSlot):WM:=m.upd (i / m.wy) ((m.set (i / m.wy)).put (i%m.wy) v)
def lD (m:WM) (i:Int):Prop:=0<=i/\i< (m.size:Int)
instance (m:WM) (i:Int):Decidable (lD m i):=inferInstanceAs (Decidable (_/\_))
def ib (m:WM) (i b:Int) (d:Bool):WM:=if lD m i/\0<=b/\b%(m.ss.length:Int)=i / (m.wy:Int)/\(fq m b=none\/fq m b=some i.toNat)then gx m i.toNat ⟨b,d,true⟩else m
def mf (m:WM) (i:Int):WM:=if lD m i then gx m i.toNat wE else m
def et (m:WM):List Int:=(cI m.size).map fun i=>if(m.slot i).d then(m.slot i).b else -1
def gz (st wy:Nat):WM:=⟨wy,bg st ⟨0,bg wy wE⟩⟩
structure WsOk (st wy s:Nat) (x:WS):Prop where
 len:x.l.length=wy
 hand:x.h<wy
 bare:x.Bare
 own:∀w,w<wy->¬(x.slot w).b<0->(x.slot w).b%(st:Int)=(s:Int)
 one:∀w u,w<wy->u<wy->¬(x.slot w).b<0->(x.slot w).b=(x.slot u).b->w=u
structure WmOk (m:WM):Prop where
 st1:1<=m.ss.length
 st8:m.ss.length<=8
 wy1:1<=m.wy
 wy4:m.wy<=4
 sets:∀s,s<m.ss.length->WsOk m.ss.length m.wy s (m.set s)
theorem qY {m:WM} {s:Nat} (x:WS) (h:s<m.ss.length):(m.upd s x).set s=x:=by
 unfold WM.set WM.upd;rw[List.getElem?_set_self h];rfl
theorem ui {m:WM} {s t:Nat} (x:WS) (h:s≠t):(m.upd s x).set t=m.set t:=by
 unfold WM.set WM.upd;rw[List.getElem?_set_ne h]
theorem ot (m:WM) (s:Nat) (x:WS):(m.upd s x).ss.length=m.ss.length:=by unfold WM.upd;simp
theorem ou {m:WM} (h:1<=m.ss.length) (b:Int):m.of b<m.ss.length:=by
 unfold WM.of;have h1:=Int.emod_nonneg b (show((m.ss.length:Nat):Int)≠0 by omega);have h2:=Int.emod_lt_of_pos b (show(0:Int)< ((m.ss.length:Nat):Int) by omega);omega
theorem uj {m:WM} (h:1<=m.ss.length) (b:Int):b%(m.ss.length:Int)=(m.of b:Int):=by
 unfold WM.of;have h1:=Int.emod_nonneg b (show((m.ss.length:Nat):Int)≠0 by omega);omega
theorem En {wy s w:Nat} (h:w<wy):(s*wy+w) / wy=s:=by
 rw[Nat.mul_comm,Nat.mul_add_div (by omega),Nat.div_eq_of_lt h,Nat.add_zero]
theorem Px {wy s w:Nat} (h:w<wy):(s*wy+w)%wy=w:=by
 rw[Nat.mul_comm,Nat.mul_add_mod,Nat.mod_eq_of_lt h]
theorem Eo {wy s w st:Nat} (hs:s<st) (h:w<wy):s*wy+w<st*wy:=by
 have:(s+1)*wy<=st*wy:=Nat.mul_le_mul_right _ hs;rw[Nat.add_mul]at this;omega
theorem ng {m:WM} {i:Nat} (h:i<m.size):i / m.wy<m.ss.length:=by
 unfold WM.size at h;exact Nat.div_lt_of_lt_mul (by rw[Nat.mul_comm];exact h)
theorem pC {m:WM} {s w:Nat} (h:w<m.wy):m.slot (s*m.wy+w)=(m.set s).slot w:=by
 unfold WM.slot;rw[En h,Px h]
theorem WmOk.upd {m:WM} (h:WmOk m) {s:Nat} {x:WS} (hs:s<m.ss.length) (hx:WsOk m.ss.length m.wy s x):WmOk (m.upd s x):=by
 refine⟨by rw[ot];exact h.st1,by rw[ot];exact h.st8,h.wy1,h.wy4,fun t ht=> ?_⟩;rw[ot]at ht ⊢;by_cases e:s=t
 ·subst e;rw[qY x hs];exact hx
 ·rw[ui x e];exact h.sets t ht
theorem Ep {x:WS}:x.Bare↔∀w,w<x.l.length->(x.slot w).b<0->x.slot w=wE:=by
 constructor
 ·intro h w hw hb;exact h _ (Em hw) hb
 ·intro h s hs hb;obtain⟨w,hw,rfl⟩:=List.getElem_of_mem hs;have e:x.slot w=x.l[w]:=by unfold WS.slot;rw[aZ hw];rfl
  rw[←e]at hb ⊢;exact h w hw hb
theorem WsOk.put {st wy s:Nat} {x:WS} (h:WsOk st wy s x) {w:Nat} (hw:w<wy) {v:WSlot} (hv:v.b<0->v=wE) (ho:¬v.b<0->v.b%(st:Int)=(s:Int)) (hu:¬v.b<0->∀u,u<wy->u≠w->(x.slot u).b≠v.b):WsOk st wy s (x.put w v):=by
 have hwl:w<x.l.length:=by rw[h.len];exact hw
 refine⟨by rw[El,h.len],h.hand, ?_,fun u hu2 hn=> ?_,fun u t hu2 ht hn e=> ?_⟩
 ·rw[Ep];intro u hu2 hb;rw[El]at hu2;by_cases e:w=u
  ·subst e;rw[qX v hwl]at hb ⊢;exact hv hb
  ·rw[pB v e]at hb ⊢;exact Ep.1 h.bare u hu2 hb
 ·by_cases e:w=u
  ·subst e;rw[qX v hwl]at hn ⊢;exact ho hn
  ·rw[pB v e]at hn ⊢;exact h.own u hu2 hn
 ·by_cases e1:w=u
  ·subst e1;by_cases e2:w=t
   ·exact e2
   ·rw[qX v hwl]at hn e;rw[pB v e2]at e;exact absurd e.symm (hu hn t ht (fun e3=>e2 e3.symm))
  ·rw[pB v e1]at hn e;by_cases e2:w=t
   ·subst e2;rw[qX v hwl]at e;exact absurd e (hu (by rw[←e];exact hn) u hu2 (fun e3=>e1 e3.symm))
   ·rw[pB v e2]at e;exact h.one u t hu2 ht hn e
theorem xI {st wy:Nat} (h1:1<=st) (h8:st<=8) (h2:1<=wy) (h4:wy<=4):WmOk (gz st wy):=by
 refine⟨by simpa [gz]using h1,by simpa [gz]using h8,h2,h4,fun s hs=> ?_⟩;have hs':s<st:=by simpa [gz]using hs
 have e:(gz st wy).set s=⟨0,bg wy wE⟩:=by unfold WM.set gz;simp[hs']
 have hsl:∀w,(⟨0,bg wy wE⟩:WS).slot w=wE:=fun w=>by
  unfold WS.slot;by_cases hw:w<wy
  ·simp[hw]
  ·simp[hw]
 rw[e];refine⟨by simp[gz],by show 0<wy;omega,fun s hs _=>(List.mem_replicate.1 hs).2,fun w _ hn=> ?_,fun w u _ _ hn _=> ?_⟩
 ·rw[hsl]at hn;exact absurd (show wE.b<0 by decide) hn
 ·rw[hsl]at hn;exact absurd (show wE.b<0 by decide) hn
theorem Py {l:List WSlot} {b:Int} {w:Nat} (h:jr l b=some w):∃s,l[w]? =some s/\s.b=b:=by
 unfold jr at h;rw[List.findIdx?_eq_some_iff_getElem]at h;obtain⟨h1,h2, -⟩:=h;exact⟨l[w],aZ h1,by simpa using h2⟩
theorem Pz {l:List WSlot} {b:Int} (h:jr l b=none):∀s ∈ l,s.b≠b:=by
 unfold jr at h;rw[List.findIdx?_eq_none_iff]at h;intro s hs
 simpa using h s hs
theorem PA {m:WM} (h:WmOk m) {b:Int} {i:Nat} (hf:fq m b=some i):0<=b/\i<m.size/\(m.slot i).b=b/\i / m.wy=m.of b:=by
 unfold fq at hf;split at hf
 ·cases hf
 ·rename_i hb;obtain⟨w,hw,rfl⟩:=Option.map_eq_some_iff.1 hf;obtain⟨s,hs,hsb⟩:=Py hw;have hl:=(bZ.1 hs).1;rw[(h.sets _ (ou h.st1 b)).len]at hl;refine⟨by omega,Eo (ou h.st1 b) hl, ?_,En hl⟩;rw[pC hl];unfold WS.slot;rw[hs];exact hsb
theorem PB {m:WM} (h:WmOk m) {b:Int} (hb:0<=b) (hf:fq m b=none):∀w,w<m.wy->((m.set (m.of b)).slot w).b≠b:=by
 unfold fq at hf;rw[if_neg (by omega)]at hf;have hn:=Pz (Option.map_eq_none_iff.1 hf);intro w hw;exact hn _ (Em (by rw[(h.sets _ (ou h.st1 b)).len];exact hw))
theorem WmOk.write {m:WM} (h:WmOk m) {i:Nat} (hi:i<m.size) {v:WSlot} (hv:v.b<0->v=wE) (ho:¬v.b<0->v.b%(m.ss.length:Int)=((i / m.wy:Nat):Int)) (hu:¬v.b<0->∀u,u<m.wy->u≠i%m.wy->((m.set (i / m.wy)).slot u).b≠v.b):WmOk (gx m i v):=
 h.upd (ng hi) ((h.sets _ (ng hi)).put (iI _ h.wy1) hv ho hu)
theorem xJ {m:WM} {i:Int} (h:lD m i):i.toNat<m.size:=by unfold lD at h;omega
theorem WmOk.put {m:WM} (h:WmOk m) (i b:Int) (d:Bool):WmOk (ib m i b d):=by
 unfold ib;split
 ·rename_i hc;obtain⟨h1,h2,h3,h4⟩:=hc;have hi:=xJ h1;have hof:i.toNat / m.wy=m.of b:=by
   have e1:=uj h.st1 b;rw[e1]at h3;unfold lD at h1;have e2:i / (m.wy:Int)=((i.toNat / m.wy:Nat):Int):=by
    rw[Int.natCast_ediv,Int.toNat_of_nonneg h1.1]
   rw[e2]at h3;omega
  refine h.write hi (fun hb=>absurd hb (by show¬b<0;omega)) (fun _=> ?_) (fun _ u hu hne e=> ?_)
  ·show b%(m.ss.length:Int)=_;rw[uj h.st1 b,hof]
  ·rw[hof]at e;have e3:((m.set (m.of b)).slot u).b=b:=e;rcases h4 with h4 | h4
   ·exact PB h h2 h4 u hu e3
   ·obtain⟨-, -,f3,f4⟩:=PA h h4;unfold WM.slot at f3;rw[hof]at f3;exact hne ((h.sets _ (ou h.st1 b)).one u (i.toNat%m.wy) hu (iI _ h.wy1) (by rw[e3];omega) (by rw[e3,f3]))
 ·exact h
def kJ (m:WM):List WSlot:=(cI m.size).map m.slot
def lE (m:WM):List Nat:=m.ss.map (·.h)
theorem pD (m:WM):(kJ m).length=m.size:=by unfold kJ;simp
theorem pF {m:WM} {i:Nat} (h:i<m.size):(kJ m)[i]? =some (m.slot i):=by
 unfold kJ;rw[dY,mj h]
 rfl
theorem xK (m:WM) (s:Nat) (x:WS):(m.upd s x).size=m.size:=by unfold WM.size;rw[ot];rfl
structure WmLen (m:WM):Prop where
 wy1:1<=m.wy
 sets:∀s,s<m.ss.length->(m.set s).l.length=m.wy
theorem WmOk.lens {m:WM} (h:WmOk m):WmLen m:=⟨h.wy1,fun s hs=>(h.sets s hs).len⟩
theorem WmLen.upd {m:WM} (h:WmLen m) {s:Nat} {x:WS} (hs:s<m.ss.length) (hx:x.l.length=m.wy):WmLen (m.upd s x):=by
 refine⟨h.wy1,fun t ht=> ?_⟩;rw[ot]at ht;by_cases e:s=t
 ·subst e;rw[qY _ hs];exact hx
 ·rw[ui _ e];exact h.sets t ht
theorem WmLen.write {m:WM} (h:WmLen m) {i:Nat} (hi:i<m.size) (v:WSlot):WmLen (gx m i v):=
 h.upd (ng hi) (by show((m.set (i / m.wy)).l.set _ v).length=_;rw[List.length_set];exact h.sets _ (ng hi))
theorem Er {m:WM} (h:WmLen m) {i:Nat} (hi:i<m.size) (v:WSlot):kJ (gx m i v)=(kJ m).set i v:=by
 apply jD;intro j;rw[List.getElem?_set];by_cases hj:j<m.size
 ·rw[pF (m:=gx m i v) (by unfold gx;rw[xK];exact hj)];have hdi:=ng hi;have hmi:i%m.wy<m.wy:=iI _ h.wy1;have hlen:=h.sets _ hdi;by_cases e:i=j
  ·subst e;rw[if_pos rfl,if_pos (by rw[pD];exact hi)]
   congr 1
   show((m.upd (i / m.wy) _).set (i / m.wy)).slot (i%m.wy)=v;rw[qY _ hdi,qX v (by rw[hlen];exact hmi)]
  ·rw[if_neg e,pF hj]
   congr 1
   show((m.upd (i / m.wy) _).set (j / m.wy)).slot (j%m.wy)=(m.set (j / m.wy)).slot (j%m.wy);by_cases e2:i / m.wy=j / m.wy
   ·rw[←e2,qY _ hdi,pB v (fun e3=>e ?_)];have h1:=Nat.div_add_mod i m.wy;have h2:=Nat.div_add_mod j m.wy;rw[e2,e3]at h1;omega
   ·rw[ui _ e2]
 ·have h1:(kJ (gx m i v))[j]? =none:=ej (by rw[pD];unfold gx;rw[xK];omega);have h2:(kJ m)[j]? =none:=ej (by rw[pD];omega);rw[h1,h2,if_neg (by omega)]
theorem PC (m:WM) (s:Nat) (x:WS):lE (m.upd s x)=(lE m).set s x.h:=by
 unfold lE WM.upd;rw[List.map_set]
theorem PD {m:WM} {s:Nat} (h:s<m.ss.length):(lE m)[s]? =some (m.set s).h:=by
 unfold lE WM.set;rw[dY,aZ h]
 rfl
end
section
def PE (s:WSlot):List ak:= [ab ac s.b,.bool s.d,.bool s.k]
def wcs (l:List WSlot):List ak:=l.flatMap PE
theorem uk (s:WSlot) (l:List WSlot):wcs (s::l)=ab ac s.b:: .bool s.d:: .bool s.k::wcs l:=rfl
theorem xL (l:List WSlot):(wcs l).length=l.length*3:=by
 induction l with
 | nil=>rfl
 | cons s l ih=>rw[uk];simp only[bz,ih];omega
theorem Es {l:List WSlot} {j:Nat} {s:WSlot} (h:l[j]? =some s):(wcs l)[j*3]? =some (ab ac s.b)/\(wcs l)[j*3+1]? =some (.bool s.d)/\(wcs l)[j*3+2]? =some (.bool s.k):=by
 induction l generalizing j with
 | nil=>simp at h
 | cons q l ih=>
  rw[uk];cases j with
  | zero=>simp at h;subst h;exact⟨rfl,rfl,rfl⟩
  | succ j=>
   have:=ih (j:=j) (by simpa using h);rw[show(j+1)*3=j*3+1+1+1 by omega]
   simpa using this
theorem PF {l:List WSlot} {k:Nat} (p:WSlot) (h:k<l.length):(((wcs l).set (k*3) (ab ac p.b)).set (k*3+1) (.bool p.d)).set (k*3+2) (.bool p.k)=wcs (l.set k p):=by
 induction l generalizing k with
 | nil=>simp at h
 | cons q l ih=>
  cases k with
  | zero=>rfl
  | succ k=>
   rw[uk,show(k+1)*3=k*3+1+1+1 by omega];simp only[List.set_cons_succ];rw[ih (by simpa using h),uk]
def hcs (l:List Nat):List ak:=l.map fun h=>ab ac ((h:Nat):Int)
def mN (hd:Nat->Nat->Nat->Array ak) (tP tS:aR) (P SB HB:Nat) (a:Array ak) (m:WM):ef:=dr (lT P (hd m.ss.length m.wy m.size) tP) (dr (lT SB a tS) (lT HB (hcs (lE m)).toArray 3))
theorem mN.isRes (hd:Nat->Nat->Nat->Array ak) (tP tS:aR) (P SB HB:Nat) (a:Array ak) (m:WM):IsRes (mN hd tP tS P SB HB a m):=(lT.isRes _ _ _).sep ((lT.isRes _ _ _).sep (lT.isRes _ _ _))
def mg (hd:Nat->Nat->Nat->Array ak) (tP tS:aR) (P SB HB cap:Nat) (m:WM):ef:=fun w f=>∃a:Array ak,a.size=cap*3/\m.size<=cap/\cap<=aY/\a.toList.take (m.size*3)=wcs (kJ m)/\mN hd tP tS P SB HB a m w f
section
variable {hd:Nat->Nat->Nat->Array ak} {tP tS:aR} {P SB HB cap:Nat} {m:WM} {w:ah} {f:Nat->Prop}
theorem mg.isRes (hd:Nat->Nat->Nat->Array ak) (tP tS:aR) (P SB HB cap:Nat) (m:WM):IsRes (mg hd tP tS P SB HB cap m) where
 out:=by rintro w w' f ⟨a,h1,h2,h3,h4,h5⟩ hk;exact⟨a,h1,h2,h3,h4,(mN.isRes _ _ _ _ _ _ _ _).out h5 hk⟩
 lt:=by rintro w f ⟨a,h1,h2,h3,h4,h5⟩;exact(mN.isRes _ _ _ _ _ _ _ _).lt h5
 cells:=by rintro w f ⟨a,h1,h2,h3,h4,h5⟩;exact(mN.isRes _ _ _ _ _ _ _ _).cells h5
theorem mg.headAt (h:mg hd tP tS P SB HB cap m w f) (j:Nat):w.cell? ⟨P,j,none⟩=(hd m.ss.length m.wy m.size)[j]? :=by
 obtain⟨a, -, -, -, -,h⟩:=h;exact dr.cell h j
theorem mg.slot (h:mg hd tP tS P SB HB cap m w f) {i:Nat} (hi:i<m.size):
  w.cell? ⟨SB,i*3,none⟩=some (ab ac (m.slot i).b)/\w.cell? ⟨SB,i*3+1,none⟩=some (.bool (m.slot i).d)/\w.cell? ⟨SB,i*3+2,none⟩=some (.bool (m.slot i).k):=by
 obtain⟨a,h1,h2,h3,h4,f1,f2, -,g, -, -⟩:=h;obtain⟨g1,g2,g3⟩:=Es (pF hi);rw[←h4,kx]at g1 g2 g3;rw[if_pos (by omega),Array.getElem?_toList]at g1 g2 g3;exact⟨(dr.cell g _).trans g1,(dr.cell g _).trans g2,(dr.cell g _).trans g3⟩
theorem mg.frozenS (h:mg hd tP tS P SB HB cap m w f) (j:Nat):w.frozen? ⟨SB,j,none⟩=false:=by
 obtain⟨a,h1,h2,h3,h4,f1,f2, -,g, -, -⟩:=h;exact dr.frozen g j
end
def xM (SB HB cap:Nat) (st wy n:Nat):Array ak:=#[ab ac (wy:Int),af (some ⟨SB,0,none⟩) n cap,af (some ⟨HB,0,none⟩) st st]
abbrev eZ (P SB HB cap:Nat) (m:WM):ef:=mg (xM SB HB cap) 171 162 P SB HB cap m
theorem eZ.isRes (P SB HB cap:Nat) (m:WM):IsRes (eZ P SB HB cap m):=mg.isRes _ _ _ _ _ _ _ _
theorem eZ.head {P SB HB cap:Nat} {m:WM} {w:ah} {f:Nat->Prop} (h:eZ P SB HB cap m w f):
  w.cell? ⟨P,0,none⟩=some (ab ac (m.wy:Int))/\w.cell? ⟨P,1,none⟩=some (af (some ⟨SB,0,none⟩) m.size cap)/\w.cell? ⟨P,2,none⟩=some (af (some ⟨HB,0,none⟩) m.ss.length m.ss.length):=
 ⟨h.headAt 0,h.headAt 1,h.headAt 2⟩
end
section
structure CB where
 rb:Nat
 p0:Nat
 p1:Nat
 mb:Nat
 P:Nat
 SB:Nat
 HB:Nat
 cap:Nat
 C:Nat
def CB.hd (b:CB) (q:PS):List ak:= [am (some ⟨b.rb,0,none⟩),am (some ⟨b.mb,0,none⟩),am (some ⟨b.P,0,none⟩),aK q.d,aK q.sn,ab ac q.nx,ab ac q.kd,ab ac q.id,aK q.pr]
def CB.v (b:CB):ak:=am (some ⟨b.C,0,none⟩)
def Et (b:CB) (s:ST):ef:=fun w f=>∃q,dr (lT b.C (b.hd q).toArray 156) (gU q s) w f
theorem Et.isRes (b:CB) (s:ST):IsRes (Et b s) where
 out:=by rintro w w' f ⟨q,h⟩ hk;exact⟨q,((lT.isRes _ _ _).sep (gU.isRes q s)).out h hk⟩
 lt:=by rintro w f ⟨q,h⟩;exact((lT.isRes _ _ _).sep (gU.isRes q s)).lt h
 cells:=by rintro w f ⟨q,h⟩;exact((lT.isRes _ _ _).sep (gU.isRes q s)).cells h
def ip (b:CB) (M:MS) (m:WM) (s:ST):ef:=dr (eR b.mb b.rb M) (dr (eZ b.P b.SB b.HB b.cap m) (Et b s))
def ft (b:CB) (S:RS) (M:MS) (m:WM) (s:ST):ef:=dr (aU b.rb b.p0 b.p1 S) (ip b M m s)
theorem ip.isRes (b:CB) (M:MS) (m:WM) (s:ST):IsRes (ip b M m s):=(eR.isRes _ _ _).sep ((eZ.isRes _ _ _ _ _).sep (Et.isRes _ _))
theorem ft.isRes (b:CB) (S:RS) (M:MS) (m:WM) (s:ST):IsRes (ft b S M m s):=(aU.isRes _ _ _ _).sep (ip.isRes _ _ _ _)
section
variable {b:CB} {S:RS} {M:MS} {m:WM} {s:ST} {w w':ah} {f:Nat->Prop}
theorem ip.mem (h:ip b M m s w f):∃g,eR b.mb b.rb M w g:=by
 obtain⟨f1,f2,h1,h2,h3,rfl⟩:=h;exact⟨f1,h1⟩
theorem ip.map (h:ip b M m s w f):∃g,eZ b.P b.SB b.HB b.cap m w g:=by
 obtain⟨f1,f2,h1,⟨f3,f4,h2,h4,h5,rfl⟩,h3,rfl⟩:=h;exact⟨f3,h2⟩
theorem ip.hd (h:ip b M m s w f):∃q,aq w b.C 156 (b.hd q)/\∃g,gU q s w g:=by
 obtain⟨f1,f2,h1,⟨f3,f4,h2,⟨q,f5,f6,⟨h6,_⟩,h7,h8,rfl⟩,h5,rfl⟩,h3,rfl⟩:=h;exact⟨q,h6,f6,h7⟩
theorem ft.rig (h:ft b S M m s w f):∃g,aU b.rb b.p0 b.p1 S w g:=by
 obtain⟨f1,f2,h1,h2,h3,rfl⟩:=h;exact⟨f1,h1⟩
theorem ft.par (h:ft b S M m s w f):∃g,ip b M m s w g:=by
 obtain⟨f1,f2,h1,h2,h3,rfl⟩:=h;exact⟨f2,h2⟩
theorem ip.below (h:ip b M m s w f) (hb:ag w.heap.size w w'):ip b M m s w' f:=(ip.isRes _ _ _ _).below h hb
theorem ft.below (h:ft b S M m s w f) (hb:ag w.heap.size w w'):ft b S M m s w' f:=(ft.isRes _ _ _ _ _).below h hb
end
end
section
attribute [-simp] isAgg284 zeroValue284
attribute [-go_sem] aE aL
attribute [local go_sem] xv xw DE
section
theorem Eu (f c i:Int) (hf:0<=f/\f<=4000) (hc:0<=c/\c<=1000) (w:ah):ap aj 252 #[al #[ab ac f,ab ac c],ab ac i] w fun e w'=>e=ao (ab ac (if 0<=i/\i<c then f+i else 0))/\ag w.heap.size w w':=by
 obtain⟨W,hW⟩:=w9nm (w.alloc (an #[ab ac f,ab ac c] 284));have r:aq W w.heap.size 284 (jB f c):=by rw[←hW];exact aq.new w _ _
 have HB:Hid (ag w.heap.size w W):=by show ag _ _ _;rw[←hW];exact aH w _
 obtain⟨B,hB⟩:=w9nm w.heap.size;rw[hB]at r;have c0:W.cell? ⟨B,0,none⟩=some (ab ac f):=r.cell 0 _ rfl;have c1:W.cell? ⟨B,1,none⟩=some (ab ac c):=r.cell 1 _ rfl;clear r;obtain⟨f1,f2⟩:=hf;obtain⟨q1,q2⟩:=hc;by_cases h1:0<=i
 ·have g1:decide (i<0)=false:=by simpa using h1
  by_cases h2:i<c
  ·have g2:decide (c<=i)=false:=by simpa using h2
   have g2':decide (i≥c)=false:=g2;rw[if_pos ⟨h1,h2⟩];go_enter func252,ntmps252;go_wp2_with fail;go_ret;first | exact⟨rfl,HB.out⟩ | exact⟨rfl,by rw[←hB];exact HB.out⟩
  ·have g2:decide (c<=i)=true:=by simpa using h2
   have g2':decide (i≥c)=true:=g2;rw[if_neg (fun h=>h2 h.2)];go_enter func252,ntmps252;go_wp2_with fail;go_ret;first | exact⟨rfl,HB.out⟩ | exact⟨rfl,by rw[←hB];exact HB.out⟩
 ·have g1:decide (i<0)=true:=by simpa using h1
  rw[if_neg (fun h=>h1 h.1)];go_enter func252,ntmps252;go_wp2_with fail;go_ret;first | exact⟨rfl,HB.out⟩ | exact⟨rfl,by rw[←hB];exact HB.out⟩
theorem PH (g:Geo) (hi:g.In) (i:Int) (w:ah):ap aj 181 #[al g.v,ab ac i] w fun e w'=>e=ao (ab ac (g.oS i))/\ag w.heap.size w w':=by
 obtain⟨W,hW⟩:=w9nm (w.alloc (an g.v 23));have r:aq W w.heap.size 23 g.cs:=by rw[←hW];exact aq.new w _ _
 have HB:Hid (ag w.heap.size w W):=by show ag _ _ _;rw[←hW];exact aH w _
 obtain⟨B,hB⟩:=w9nm w.heap.size;rw[hB]at r;have HSZ:=ae hB;have L0:=cG r;have HP:=ae (tW g hi W);have HO:=ae g.fcs_ok;have HV:=ae (g.fcs_slot i);clear r hi;go_enter func181,ntmps181;go_wp2_with fail;refine HP.out.mono ?_;rintro e x ⟨Bs,a,b,rfl,hL,hb⟩;have HBX:=w9bt HB hb;have HL:=ae hL;clear hb hL L0;go_wp2_with fail;refine(tU _ HO.out _ _ 3 _ _ HL.out).mono ?_;rintro e y ⟨rfl,hb⟩;have HBY:=w9bt HBX hb;clear hb;go_wp2_with fail;have hbd:=DG HO.out 3 (by decide);refine(Eu _ _ i hbd.1 hbd.2 _).mono ?_;rintro e z ⟨rfl,hb⟩;have HBZ:=w9bt HBY hb;rw[HV.out];clear hb hbd;go_wp2_with fail;go_ret;first | exact⟨rfl,HBZ.out⟩ | exact⟨rfl,by rw[←hB];exact HBZ.out⟩
theorem PI (g:Geo) (hi:g.In) (i:Int) (w:ah):ap aj 182 #[al g.v,ab ac i] w fun e w'=>e=ao (ab ac (g.oA i))/\ag w.heap.size w w':=by
 obtain⟨W,hW⟩:=w9nm (w.alloc (an g.v 23));have r:aq W w.heap.size 23 g.cs:=by rw[←hW];exact aq.new w _ _
 have HB:Hid (ag w.heap.size w W):=by show ag _ _ _;rw[←hW];exact aH w _
 obtain⟨B,hB⟩:=w9nm w.heap.size;rw[hB]at r;have HSZ:=ae hB;have L0:=cG r;have HP:=ae (DD g hi W);have HO:=ae g.wcs_ok;have HV:=ae (g.wcs_area i);clear r hi;go_enter func182,ntmps182;go_wp2_with fail;refine HP.out.mono ?_;rintro e x ⟨Bs,a,b,rfl,hL,hb⟩;have HBX:=w9bt HB hb;have HL:=ae hL;clear hb hL L0;go_wp2_with fail;refine(tU _ HO.out _ _ 1 _ _ HL.out).mono ?_;rintro e y ⟨rfl,hb⟩;have HBY:=w9bt HBX hb;clear hb;go_wp2_with fail;have hbd:=DG HO.out 1 (by decide);refine(Eu _ _ i hbd.1 hbd.2 _).mono ?_;rintro e z ⟨rfl,hb⟩;have HBZ:=w9bt HBY hb;rw[HV.out];clear hb hbd;go_wp2_with fail;go_ret;first | exact⟨rfl,HBZ.out⟩ | exact⟨rfl,by rw[←hB];exact HBZ.out⟩
end
end
section
attribute [-simp] isAgg51 zeroValue51 isAgg23 zeroValue23 isAgg47 zeroValue47 isAgg156 zeroValue156
attribute [-go_sem] aE aL cS
theorem kr (t:aR) (h:t≠ 23 /\t≠ 51 /\t≠ 47 /\t≠ 156) (a:aF):aE t a=(do if←isAgg t then pure (al (←loadCells a (←sizeOf t)))else load a):=rfl
theorem kt (t:aR) (h:t≠ 23 /\t≠ 51 /\t≠ 47 /\t≠ 156) (a:aF) (v:ak):aL t a v=(do
  if v.cells.size≠(←sizeOf t)then stuck "storeVar: the value has not the size of the variable"
  storeCells a v.cells.toList):=rfl
attribute [local go_sem] kr kt hU ia bC bD en
def ul (s:Int):Int:=if s=0 then -1 else s
def Geo.sS (g:Geo) (i:Int):Int:=ul (g.oS i)
def Geo.sA (g:Geo) (i:Int):Int:=ul (g.oA i)
def Geo.sW (g:Geo) (i:Int):Int:=if 0<=i/\i<g.b then i else -1
section
theorem Ev (s:Int) (w:ah):ap aj 180 #[ab ac s] w fun e w'=>e=ao (ab ac (ul s))/\w'=w:=by
 unfold ul;by_cases h:s=0
 ·subst h;go_enter func180,ntmps180;go_wp2_with fail;go_ret;exact⟨rfl,rfl⟩
 ·have g1:(s==0)=false:=by simpa using h
  rw[if_neg h];go_enter func180,ntmps180;go_wp2_with fail;go_ret;exact⟨rfl,rfl⟩
theorem xN (g:Geo) (b:Int) (w:ah):ap aj 91 #[al g.v,ab ac b] w fun e w'=>e=ao (.bool (decide (0<=b/\b<g.b)))/\ag w.heap.size w w':=by
 obtain⟨W,hW⟩:=w9nm (w.alloc (an g.v 23));have r:aq W w.heap.size 23 g.cs:=by rw[←hW];exact aq.new w _ _
 have HB:Hid (ag w.heap.size w W):=by show ag _ _ _;rw[←hW];exact aH w _
 have c0:=r.cell 0 _ rfl;obtain⟨B,hB⟩:=w9nm w.heap.size;rw[hB]at c0;have HSZ:=ae hB;clear r;obtain⟨z,hz⟩:=w9nm (decide (0<=b/\b<g.b));rw[hz];by_cases h:0<=b
 ·have g1:decide (0<=b)=true:=by simpa using h
  have g2:decide (b<g.b)=z:=by rw[←hz];simp[h]
  clear hz;go_enter func91,ntmps91;go_wp2_with fail;go_ret;first | exact⟨rfl,HB.out⟩ | exact⟨rfl,by rw[←hB];exact HB.out⟩ | exact⟨by rw[←g2],HB.out⟩ | exact⟨by rw[g2],by rw[←hB];exact HB.out⟩
 ·have g1:decide (0<=b)=false:=by simpa using h
  have hzz:z=false:=by rw[←hz];simp[h]
  rw[hzz];clear hz hzz;go_enter func91,ntmps91;go_wp2_with fail;go_ret;first | exact⟨rfl,HB.out⟩ | exact⟨rfl,by rw[←hB];exact HB.out⟩
theorem Ew (g:Geo) (hi:g.In) (i:Int) (w:ah):ap aj 89 #[al g.v,ab ac i] w fun e w'=>e=ao (ab ac (g.sS i))/\ag w.heap.size w w':=by
 obtain⟨W,hW⟩:=w9nm (w.alloc (an g.v 23));have r:aq W w.heap.size 23 g.cs:=by rw[←hW];exact aq.new w _ _
 have HB:Hid (ag w.heap.size w W):=by show ag _ _ _;rw[←hW];exact aH w _
 have L0:=cG r;obtain⟨B,hB⟩:=w9nm w.heap.size;rw[hB]at L0;have HS:=ae (PH g hi i W);clear r hi;go_enter func89,ntmps89;go_wp2_with fail;refine HS.out.mono ?_;rintro e x ⟨rfl,hb⟩;have HBX:=w9bt HB hb;clear hb L0;go_wp2_with fail;refine(Ev _ x).mono ?_;rintro e y ⟨rfl,rfl⟩;go_wp2_with fail;go_ret;first | exact⟨rfl,HBX.out⟩ | exact⟨rfl,by rw[←hB];exact HBX.out⟩
theorem PJ (g:Geo) (hi:g.In) (i:Int) (w:ah):ap aj 90 #[al g.v,ab ac i] w fun e w'=>e=ao (ab ac (g.sA i))/\ag w.heap.size w w':=by
 obtain⟨W,hW⟩:=w9nm (w.alloc (an g.v 23));have r:aq W w.heap.size 23 g.cs:=by rw[←hW];exact aq.new w _ _
 have HB:Hid (ag w.heap.size w W):=by show ag _ _ _;rw[←hW];exact aH w _
 have L0:=cG r;obtain⟨B,hB⟩:=w9nm w.heap.size;rw[hB]at L0;have HS:=ae (PI g hi i W);clear r hi;go_enter func90,ntmps90;go_wp2_with fail;refine HS.out.mono ?_;rintro e x ⟨rfl,hb⟩;have HBX:=w9bt HB hb;clear hb L0;go_wp2_with fail;refine(Ev _ x).mono ?_;rintro e y ⟨rfl,rfl⟩;go_wp2_with fail;go_ret;first | exact⟨rfl,HBX.out⟩ | exact⟨rfl,by rw[←hB];exact HBX.out⟩
theorem Ex (g:Geo) (i:Int) (w:ah):ap aj 88 #[al g.v,ab ac i] w fun e w'=>e=ao (ab ac (g.sW i))/\ag w.heap.size w w':=by
 obtain⟨W,hW⟩:=w9nm (w.alloc (an g.v 23));have r:aq W w.heap.size 23 g.cs:=by rw[←hW];exact aq.new w _ _
 have HB:Hid (ag w.heap.size w W):=by show ag _ _ _;rw[←hW];exact aH w _
 have L0:=cG r;obtain⟨B,hB⟩:=w9nm w.heap.size;rw[hB]at L0;have HS:=ae (xN g i W);have HV:Hid (g.sW i=if decide (0<=i/\i<g.b)=true then i else -1):=by show _=_;unfold Geo.sW;simp only[decide_eq_true_eq]
 obtain⟨z,hz⟩:=w9nm (decide (0<=i/\i<g.b));rw[hz]at HS HV;clear r hz;go_enter func88,ntmps88;go_wp2_with fail;refine HS.out.mono ?_;rintro e x ⟨rfl,hb⟩;have HBX:=w9bt HB hb;clear hb L0;cases z
 ·go_wp2_with fail;go_ret;exact⟨by rw[HV.out];rfl,by first | exact HBX.out | (rw[←hB];exact HBX.out)⟩
 ·go_wp2_with fail;go_ret;exact⟨by rw[HV.out];rfl,by first | exact HBX.out | (rw[←hB];exact HBX.out)⟩
theorem PK {b:CB} {M:MS} {m:WM} {s:ST} {w:ah} {f:Nat->Prop} (h:ip b M m s w f):ap aj 87 #[b.v] w fun e w'=>e=ao (am (some ⟨b.rb,0,none⟩))/\w'=w:=by
 obtain⟨q,hr, -⟩:=h.hd;have c0:=hr.cell 0 _ rfl;clear hr h;unfold CB.v;go_enter func87,ntmps87;go_wp2_with fail;go_ret;exact⟨rfl,rfl⟩
theorem PL (w:ah):ap aj 87 #[am none] w fun e w'=>e=ao (am none)/\w'=w:=by
 go_enter func87,ntmps87;go_wp2_with fail;go_ret;exact⟨rfl,rfl⟩
theorem xO {b:CB} {M:MS} {m:WM} {s:ST} {w:ah} {f:Nat->Prop} (h:ip b M m s w f):ap aj 21 #[b.v] w fun e w'=>e=ao (am (some ⟨b.P,0,none⟩))/\w'=w:=by
 obtain⟨q,hr, -⟩:=h.hd;have c0:=hr.cell 2 _ rfl;clear hr h;unfold CB.v;go_enter func21,ntmps21;go_wp2_with fail;go_ret;exact⟨rfl,rfl⟩
theorem PM (w:ah):ap aj 21 #[am none] w fun e w'=>e=ao (am none)/\w'=w:=by
 go_enter func21,ntmps21;go_wp2_with fail;go_ret;exact⟨rfl,rfl⟩
theorem um {b:CB} {M:MS} {m:WM} {s:ST} {w:ah} {f:Nat->Prop} (h:ip b M m s w f):ap aj 38 #[b.v] w fun e w'=>e=ao (al M.g.v)/\ag w.heap.size w w':=by
 obtain⟨W,hW⟩:=w9nm (w.alloc (an (Geo.mk 0 0 0 0 0).v 23));have HB:Hid (ag w.heap.size w W):=by show ag _ _ _;rw[←hW];exact aH w _
 have r1:aq W w.heap.size 23 (Geo.mk 0 0 0 0 0).cs:=by rw[←hW];exact aq.new w _ _
 have h:=h.below HB.out;obtain⟨q,hr, -⟩:=h.hd;have c0:=hr.cell 1 _ rfl;obtain⟨g,hg⟩:=h.mem;have HM:=ae (uf hg);obtain⟨B,hB⟩:=w9nm w.heap.size;rw[hB]at r1;have HR:=ae r1;have HSZ:=ae hB;clear hr h hg r1;unfold CB.v;go_enter func38,ntmps38;go_wp2_with fail;refine HM.out.mono ?_;rintro e x ⟨rfl,hb⟩;obtain⟨y,ST,ry,gy⟩:=ue (g:=M.g) (HR.out.below hb) rfl;have LD:=cG ry;have HY:w9h w y:=(HB.out.trans (hb.mono HB.out.size)).grown gy (by have:=HB.out.size;have:=hb.size;omega) (fun k e=>by cases e;rw[HSZ.out];exact aG _);clear hb ry gy c0;go_wp2_with fail;exact bo (ev rfl rfl LD) rfl ⟨rfl,by first | exact HY.out | (rw[←hB];exact HY.out)⟩
theorem PN (w:ah):ap aj 38 #[am none] w fun e w'=>e=ao (al (Geo.mk 0 0 0 0 0).v)/\ag w.heap.size w w':=by
 obtain⟨W,hW⟩:=w9nm (w.alloc (an (Geo.mk 0 0 0 0 0).v 23));have HB:Hid (ag w.heap.size w W):=by show ag _ _ _;rw[←hW];exact aH w _
 have r1:aq W w.heap.size 23 (Geo.mk 0 0 0 0 0).cs:=by rw[←hW];exact aq.new w _ _
 obtain⟨y,ST,ry,gy⟩:=ue (g:=⟨0,0,0,0,0⟩) r1 rfl;have LD:=cG ry;have HY:w9h w y:=HB.out.grown gy HB.out.size (fun k e=>by cases e;exact aG _);obtain⟨B,hB⟩:=w9nm w.heap.size;rw[hB]at ST LD;clear r1 ry gy;go_enter func38,ntmps38;go_wp2_with fail;exact bo (ev rfl rfl LD) rfl ⟨rfl,by first | exact HY.out | (rw[←hB];exact HY.out)⟩
end
end
section
attribute [-simp] isAgg23 zeroValue23 isAgg47 zeroValue47
attribute [-go_sem] aE aL
theorem PO (t:aR) (h:t≠ 23 /\t≠ 47) (a:aF):aE t a=(do if←isAgg t then pure (al (←loadCells a (←sizeOf t)))else load a):=rfl
theorem PP (t:aR) (h:t≠ 23 /\t≠ 47) (a:aF) (v:ak):aL t a v=(do
  if v.cells.size≠(←sizeOf t)then stuck "storeVar: the value has not the size of the variable"
  storeCells a v.cells.toList):=rfl
attribute [local go_sem] PO PP Oper.semAt_some
theorem PQ (F:Fence) (n:Nat) (hf:F.fn 80) (hro:F.round=none) (g:Geo) (w:ah):
  CallsIn F n aj 80 #[al g.v] w fun e w'=>e=ao (.func (.func 168) #[] #[am (some ⟨w.heap.size,0,none⟩)])/\w'=w.alloc (an g.v 23):=by
 refine callsIn_of_wp func80 rfl hf ?_ hro;simp only[ntmps80,cJ,bz,cx,Nat.reduceAdd,Nat.reduceSub,cO,cP,cQ,cR,cy,cC]
 gi_wp2
 go_ret;exact⟨rfl,rfl⟩
theorem PR (F:Fence) (n:Nat) (hf:F.fn 179) (hro:F.round=none) (q:PS) (w:ah):
  CallsIn F n aj 179 #[bI q] w fun e w'=>e=ao (.func (.func 251) #[] #[am (some ⟨w.heap.size,0,none⟩)])/\w'=w.alloc (an (aW q).toArray 47):=by
 obtain⟨⟨qd,qdn,qdc⟩,⟨qs,qsn,qsc⟩,nx,kd,id,⟨qp,qpn,qpc⟩⟩:=q;simp only[bI,aW,aK];refine callsIn_of_wp func179 rfl hf ?_ hro;simp only[ntmps179,cJ,bz,cx,Nat.reduceAdd,Nat.reduceSub,cO,cP,cQ,cR,cy,cC]
 gi_wp2
 go_ret;exact⟨rfl,rfl⟩
theorem PT (n:Nat) (hn:1<=n) (B m:Nat) (hm:m<=1000) (w:ah):
  oO Fence.wide n aj 168 #[am (some ⟨B,0,none⟩)] (fun k=>#[ab ac (k:Int)]) (fun W=>W.cell? ⟨B,0,none⟩=some (ab ac (m:Int))) m w:=by
 intro lp J Jx W hW hJR _ _ hY h0;have c0:=hJR 0 W h0;have HY:=ae hY;clear hY hJR hW;refine callsIn_of_wp func168 rfl trivial ?_ rfl;simp only[ntmps168,cJ,bz,cx,Nat.reduceAdd,Nat.reduceSub,cO,cP,cQ,cR,cy,cC]
 gi_wp2
 clear c0
 gi_loopw [6] (fun x wr=>∃k:Nat,k<=m/\x=ab ac (k:Int)/\J k wr) (fun x _=>m - (aS x).toNat)
 case atStart=>exact⟨0,bc _,rfl,h0⟩
 case round=>
  obtain⟨k,hk,rfl,hJs⟩:=hrel;by_cases hkm:k<m
  ·have g1:(k:Int)< (m:Int):=by omega
   have hW1:Hid (wrap64 ((k:Int)+1)=(k:Int)+1):=kR _ (by omega);obtain⟨fn,tmps,assign,body,hy,hRR⟩:=HY.out k wr hkm hJs;have HKM:=ae hkm;clear hkm hJs h0
   gi_wp2
   refine hRR.mono ?_;rintro e W3 (⟨rfl,hJ3⟩ | ⟨rfl,hJx3⟩)
   ·have HJ3:=ae hJ3;clear hJ3
    gi_wp2
    go_roundw
    case rel=>exact⟨k+1,HKM.out,by first | (rw[hW1.out];simp) | simp,HJ3.out⟩
    case measure=>(try rw[hW1.out]);have:=HKM.out;simp[aS];omega
   ·have HJ3:=ae hJx3;clear hJx3
    gi_wp2
    refine bo (results_none rfl _ _ _) rfl ?_;exact⟨⟨_,rfl⟩,aD ⟨k+1,HKM.out,HJ3.out⟩⟩
  ·have g1:¬(k:Int)< (m:Int):=by omega
   obtain rfl:k=m:=by omega
   have HJ:=ae hJs;clear hJs h0
   gi_wp2
   go_end0
   exact⟨⟨_,rfl⟩,aA HJ.out⟩
def dX (d:List Int):List (Int×Nat):=d.zipIdx.filter fun p=>decide (0<=p.1)
theorem Ey {d:List Int} {k:Nat} {v:Int} (h:d[k]? =some v):dX (d.take (k+1))=if 0<=v then dX (d.take k)++ [(v,k)]else dX (d.take k):=by
 unfold dX;have hk:k<d.length:=(bZ.1 h).1;rw[jZ,h];simp only[Option.toList_some,List.zipIdx_append,lG,dj,lJ (jt hk),dP,List.zipIdx_singleton];split
 ·rename_i h0;simp[h0]
 ·rename_i h0;simp[h0]
theorem PU (d:List Int) (k:Nat):dX (d.take k)<+:dX d:=by
 unfold dX;have e:d.zipIdx=(d.take k).zipIdx++(d.drop k).zipIdx (0+(d.take k).length):=by rw[←List.zipIdx_append,lK]
 rw[e,lG];exact List.prefix_append _ _
def qZ (d:List Int) (k:Nat):Array ak:=#[ab ac (((dX d)[k]?.getD (0,0)).2:Int),ab ac ((dX d)[k]?.getD (0,0)).1]
theorem PV {d:List Int} {k:Nat} {v:Int} (h:d[k]? =some v) (h0:0<=v):(dX (d.take k)).length< (dX d).length/\qZ d (dX (d.take k)).length=#[ab ac (k:Int),ab ac v]:=by
 have h1:=Ey h;rw[if_pos h0]at h1;have h2:=PU d (k+1);rw[h1]at h2;obtain⟨t,ht⟩:=h2;have e:(dX d)[(dX (d.take k)).length]? =some (v,k):=by rw[←ht];simp
 refine⟨(bZ.1 e).1, ?_⟩;unfold qZ;rw[e]
 rfl
structure DiB (B:Nat) (v:ak) (d:List Int) (W:ah):Prop where
 c:W.cell? ⟨B,0,none⟩=some v
 s:Sl ac W v d
theorem PW (n:Nat) (hn:1<=n) (B:Nat) (v:ak) (d:List Int) (hd:d.length<=1000) (w:ah):
  oO Fence.wide n aj 251 #[am (some ⟨B,0,none⟩)] (qZ d) (DiB B v d) (dX d).length w:=by
 intro lp J Jx W hW hJR _ _ hY h0;obtain⟨c0,hs0⟩:=hJR 0 W h0;have HJR:=ae hJR;have HY:=ae hY;obtain⟨a,cap,rfl, -⟩:=hs0;obtain⟨m,hm⟩:=w9nm d.length;have HM:=ae hm;rw[hm]at c0 hd;clear hY hJR hW hm;refine callsIn_of_wp func251 rfl trivial ?_ rfl;simp only[ntmps251,cJ,bz,cx,Nat.reduceAdd,Nat.reduceSub,cO,cP,cQ,cR,cy,cC]
 gi_wp2
 clear c0
 gi_loopw [8] (fun x wr=>∃k:Nat,k<=m/\x=ab ac (k:Int)/\Hid (J (dX (d.take k)).length wr)) (fun x _=>m - (aS x).toNat)
 case atStart=>exact⟨0,bc _,rfl,by simpa [dX,Hid]using h0⟩
 case round=>
  obtain⟨k,hk,rfl,hJs⟩:=hrel;by_cases hkm:k<m
  ·have g1:(k:Int)< (m:Int):=by omega
   have hW1:Hid (wrap64 ((k:Int)+1)=(k:Int)+1):=kR _ (by omega);obtain⟨y,hy⟩:∃y,d[k]? =some y:=⟨_,aZ (by rw[HM.out];exact hkm)⟩;obtain⟨_,hs⟩:=HJR.out _ wr hJs.out;obtain⟨bb,off,rfl,hbl,hcell⟩:∃bb off,a=some ⟨bb,off,none⟩/\bb<wr.heap.size/\wr.cell? ⟨bb,off+k,none⟩=some (ab ac y):=by
    obtain⟨a',cap',e,h1,h2,h3,h4⟩:=hs;cases e;rcases h3 with h3 | ⟨b,off,e,h5,h6⟩
    ·rw[h3]at hy;cases hy
    ·refine⟨b,off,e,h5, ?_⟩;have:=h6 k (by rw[HM.out];exact hkm);rw[hy]at this
     simpa using this
   have hst:=Ey hy;have HKM:=ae hkm;by_cases hy0:0<=y
   ·rw[if_pos hy0]at hst;obtain⟨n1,n2⟩:=PV hy hy0;have g2:decide (0<=y)=true:=by simpa using hy0
    have hyy:=HY.out _ wr n1 hJs.out;rw[n2]at hyy;obtain⟨fn,tmps,assign,body,hye,hRR⟩:=hyy;have HLn:Hid ((dX (d.take (k+1))).length=(dX (d.take k)).length+1):=by show _=_;rw[hst];simp
    have HLe:Hid ((dX (d.take k)).length+1<=(dX d).length):=n1;clear hkm hJs h0 hs hy hst n1 n2 hy0
    gi_wp2
    refine hRR.mono ?_;rintro e W3 (⟨rfl,hJ3⟩ | ⟨rfl,hJx3⟩)
    ·have HJ3:Hid (J (dX (d.take (k+1))).length W3):=by show J _ _;rw[HLn.out];exact hJ3
     clear hJ3
     gi_wp2
     go_roundw
     case rel=>exact⟨k+1,HKM.out,by first | (rw[hW1.out];simp) | simp,HJ3⟩
     case measure=>(try rw[hW1.out]);have:=HKM.out;simp[aS];omega
    ·have HJ3:=ae hJx3;clear hJx3
     gi_wp2
     refine bo (results_none rfl _ _ _) rfl ?_;exact⟨⟨_,rfl⟩,aD ⟨_,HLe.out,HJ3.out⟩⟩
   ·rw[if_neg hy0]at hst;have g2:decide (0<=y)=false:=by simpa using hy0
    have HJ3:Hid (J (dX (d.take (k+1))).length wr):=by show J _ _;rw[hst];exact hJs.out
    clear hkm hJs h0 hs hy hst hy0
    gi_wp2
    refine⟨fun _ h=>(by cases h), ?_⟩
    gi_wp2
    go_roundw
    case rel=>exact⟨k+1,HKM.out,by first | (rw[hW1.out];simp) | simp,HJ3⟩
    case measure=>(try rw[hW1.out]);have:=HKM.out;simp[aS];omega
  ·have g1:¬(k:Int)< (m:Int):=by omega
   obtain rfl:k=m:=by omega
   have HJ:Hid (J (dX d).length wr):=by
    show J _ _;have:=hJs.out
    rwa [de (by rw[HM.out];exact aG _)]at this
   clear hJs h0
   gi_wp2
   go_end0
   exact⟨⟨_,rfl⟩,aA HJ.out⟩
end
section
theorem dr.setR {P Q Q':ef} (hP:IsRes P) {w:ah} {f:Nat->Prop} (h:dr P Q w f) (B j:Nat) (v:ak) (hq:∀f2,Q w f2->Q' (w.setCell ⟨B,j,none⟩ v) f2/\f2 B):dr P Q' (w.setCell ⟨B,j,none⟩ v) f/\f B:=by
 obtain⟨f1,f2,h1,h2,h3,rfl⟩:=h;obtain⟨q1,q2⟩:=hq f2 h2;exact⟨⟨f1,f2,hP.out h1 (fun k hk=>eG _ _ _ k (fun e=>h3 k hk (e▸q2))),q1,h3,rfl⟩,aD q2⟩
def uo (m n:WM):Prop:=n.ss.length=m.ss.length/\n.wy=m.wy/\lE n=lE m
theorem uo.size {m n:WM} (h:uo m n):n.size=m.size:=by obtain⟨h1,h2,h3⟩:=h;unfold WM.size;rw[h1,h2]
theorem mN.same {hd:Nat->Nat->Nat->Array ak} {tP tS:aR} {P SB HB:Nat} {a:Array ak} {m n:WM} {w:ah} {f:Nat->Prop} (h:mN hd tP tS P SB HB a m w f) (hs:uo m n):mN hd tP tS P SB HB a n w f:=by
 have hz:=hs.size;obtain⟨h1,h2,h3⟩:=hs;unfold mN at h ⊢;rw[h1,h2,h3,hz];exact h
theorem mN.slotSet {hd:Nat->Nat->Nat->Array ak} {tP tS:aR} {P SB HB:Nat} {a:Array ak} {m:WM} {w:ah} {f:Nat->Prop} (h:mN hd tP tS P SB HB a m w f) (j:Nat) (v:ak):mN hd tP tS P SB HB (a.setIfInBounds j v) m (w.setCell ⟨SB,j,none⟩ v) f/\f SB:=
 dr.setR (lT.isRes _ _ _) h SB j v fun f2 h2=>by
  have h3:=(dr.set (lT.isRes _ _ _) h2 j v).1;obtain⟨f1,f3,⟨-,rfl⟩, -, -,rfl⟩:=h2;exact⟨h3,aA rfl⟩
theorem PX {m:WM} {i:Nat} (hd:i / m.wy<m.ss.length) (v:WSlot):uo m (gx m i v):=by
 refine⟨by unfold gx WM.upd;simp,rfl, ?_⟩;unfold gx;rw[PC];apply jD;intro j;rw[List.getElem?_set];by_cases e:i / m.wy=j
 ·subst e;rw[if_pos rfl,if_pos (by unfold lE;simpa using hd),PD hd]
  rfl
 ·rw[if_neg e]
theorem PY (l:List ak) (n j:Nat) (v:ak):(l.set j v).take n=(l.take n).set j v:=by
 apply jD;intro k;simp only[kx,List.getElem?_set,dj];by_cases h:k<n
 ·rw[if_pos h,if_pos h];by_cases e:j=k
  ·subst e;rw[if_pos rfl,if_pos rfl];by_cases h2:j<l.length
   ·rw[if_pos h2,if_pos (by omega)]
   ·rw[if_neg h2,if_neg (by omega)]
  ·rw[if_neg e,if_neg e]
 ·rw[if_neg h];by_cases e:j=k
  ·subst e;rw[if_pos rfl,if_neg (by omega)]
  ·rw[if_neg e,if_neg h]
theorem mg.slots {hd:Nat->Nat->Nat->Array ak} {tP tS:aR} {P SB HB cap:Nat} {m n:WM} (hs:uo m n) (us:List (Nat×ak)) {w:ah} {f:Nat->Prop} (h:mg hd tP tS P SB HB cap m w f)
  (hw:us.foldl (fun l u=>l.set u.1 u.2) (wcs (kJ m))=wcs (kJ n)):
  mg hd tP tS P SB HB cap n (us.foldl (fun x u=>x.setCell ⟨SB,u.1,none⟩ u.2) w) f/\Turn f f w (us.foldl (fun x u=>x.setCell ⟨SB,u.1,none⟩ u.2) w):=by
 obtain⟨a,h1,h2,h3,h4,h5⟩:=h;have key:∀(us:List (Nat×ak)) (w:ah) (a:Array ak),a.size=cap*3->mN hd tP tS P SB HB a m w f->∃a':Array ak,a'.size=cap*3/\a'.toList.take (m.size*3)=us.foldl (fun l u=>l.set u.1 u.2) (a.toList.take (m.size*3))/\mN hd tP tS P SB HB a' m (us.foldl (fun x u=>x.setCell ⟨SB,u.1,none⟩ u.2) w) f/\Turn f f w (us.foldl (fun x u=>x.setCell ⟨SB,u.1,none⟩ u.2) w):=by
  intro us
  induction us with
  | nil=>intro w a h1 h5;exact⟨a,h1,rfl,h5,Turn.refl _ _⟩
  | cons u us ih=>
   intro w a h1 h5;obtain⟨g1,g2⟩:=h5.slotSet u.1 u.2;obtain⟨a',k1,k2,k3,k4⟩:=ih _ (a.setIfInBounds u.1 u.2) (by rw[Array.size_setIfInBounds];exact h1) g1;refine⟨a',k1, ?_,k3,(lU w SB u.1 u.2 g2).trans k4⟩;rw[k2,Array.toList_setIfInBounds,PY]
   rfl
 obtain⟨a',k1,k2,k3,k4⟩:=key us w a h1 h5;have hz:=hs.size;exact⟨⟨a',k1,by rw[hz];exact h2,h3,by rw[hz,k2,h4];exact hw,k3.same hs⟩,k4⟩
end
section
variable {hd:Nat->Nat->Nat->Array ak} {tP tS:aR} {P SB HB cap:Nat} {m:WM} {w:ah} {f:Nat->Prop}
theorem mg.write (h:mg hd tP tS P SB HB cap m w f) (ho:WmLen m) {i:Nat} (hi:i<m.size) (v:WSlot):
  mg hd tP tS P SB HB cap (gx m i v) (((w.setCell ⟨SB,i*3,none⟩ (ab ac v.b)).setCell ⟨SB,i*3+1,none⟩ (.bool v.d)).setCell ⟨SB,i*3+2,none⟩ (.bool v.k)) f/\
   Turn f f w (((w.setCell ⟨SB,i*3,none⟩ (ab ac v.b)).setCell ⟨SB,i*3+1,none⟩ (.bool v.d)).setCell ⟨SB,i*3+2,none⟩ (.bool v.k)):=
 h.slots (PX (ng hi) v) [(i*3,ab ac v.b),(i*3+1,.bool v.d),(i*3+2,.bool v.k)] (by
  rw[Er ho hi v];exact PF v (by rw[pD];exact hi))
end
section
variable {P SB HB cap:Nat} {m:WM} {w:ah} {f:Nat->Prop}
def js:Option Nat->ak
 | some i=>aQ #[ab ac (i:Int),.bool true]
 | none=>aQ #[ab ac 0,.bool false]
theorem eZ.setYes (h:eZ P SB HB cap m w f) (ho:WmOk m) {b:Int} (h0:0<=b) (hb:b<=9223372036854775807):
  ap aj 97 #[am (some ⟨P,0,none⟩),ab ac b] w fun e w'=>e=ao (aQ #[ab ac (m.of b:Int),.bool true])/\w'=w:=by
 have g0:decide (b<0)=false:=by simpa using h0
 obtain⟨-, -,c0⟩:=h.head;have h1:=ho.st1;have h2:=ho.st8;have hrem:=uj ho.st1 b;have hlt:=ou ho.st1 b;obtain⟨st,hst⟩:=w9nm m.ss.length;obtain⟨s,hs⟩:=w9nm (m.of b);rw[hst]at h1 h2 hrem c0 hlt;rw[hs]at hrem hlt ⊢;have g1:((st:Int)==0)=false:=by simp;omega
 clear h ho hst hs;go_enter func97,ntmps97;go_wp2_with fail;go_ret2;exact⟨by rw[←hrem];rfl,rfl⟩
theorem eZ.setNo (b:Int) (p:ak) (hp:p=am none\/∃x,p=am (some x)/\b<0):
  ap aj 97 #[p,ab ac b] w fun e w'=>e=ao (aQ #[ab ac 0,.bool false])/\w'=w:=by
 rcases hp with rfl | ⟨x,rfl,h0⟩
 ·go_enter func97,ntmps97;go_wp2_with fail;go_ret2;exact⟨rfl,rfl⟩
 ·have g0:decide (b<0)=true:=by simpa using h0
  go_enter func97,ntmps97;go_wp2_with fail;go_ret2;exact⟨rfl,rfl⟩
theorem eZ.contentYes (h:eZ P SB HB cap m w f) (hs:m.size<=32) {n:Nat} (hn:n<m.size):
  ap aj 95 #[am (some ⟨P,0,none⟩),ab ac (n:Int)] w fun e w'=>e=ao (am (some ⟨SB,n*3,none⟩))/\w'=w:=by
 obtain⟨-,c0, -⟩:=h.head;obtain⟨z,hz⟩:=w9nm m.size;rw[hz]at hs hn c0;clear h hz;have g0:decide ((n:Int)<0)=false:=by simp
 have g1:decide ((n:Int)≥(z:Int))=false:=by simp;omega
 go_enter func95,ntmps95;go_wp2_with fail;go_ret;exact⟨rfl,rfl⟩
theorem eZ.contentNo (h:eZ P SB HB cap m w f) {i:Int} (hi:¬lD m i):
  ap aj 95 #[am (some ⟨P,0,none⟩),ab ac i] w fun e w'=>e=ao (am none)/\w'=w:=by
 obtain⟨-,c0, -⟩:=h.head;unfold lD at hi;by_cases h0:i<0
 ·have g0:decide (i<0)=true:=by simpa using h0
  clear h hi;go_enter func95,ntmps95;go_wp2_with fail;go_ret;exact⟨rfl,rfl⟩
 ·have g0:decide (i<0)=false:=by simpa using h0
  have g1:decide (i≥(m.size:Int))=true:=by simp;omega
  clear h hi;go_enter func95,ntmps95;go_wp2_with fail;go_ret;exact⟨rfl,rfl⟩
theorem PZ {x:WS} {b:Int} {k:Nat} (hk:k<x.l.length) (h1:(x.slot k).b=b) (h2:∀j,j<k->(x.slot j).b≠b):jr x.l b=some k:=by
 unfold jr;rw[List.findIdx?_eq_some_iff_getElem];have g:∀j (hj:j<x.l.length),x.slot j=x.l[j]:=fun j hj=>by unfold WS.slot;rw[aZ hj];rfl
 refine⟨hk,by rw[←g k hk];simpa using h1,fun j hj=> ?_⟩;rw[←g j (by omega)]
 simpa using h2 j hj
theorem Qa {x:WS} {b:Int} (h2:∀j,j<x.l.length->(x.slot j).b≠b):jr x.l b=none:=by
 unfold jr;rw[List.findIdx?_eq_none_iff];intro y hy;obtain⟨j,hj,e⟩:=List.getElem_of_mem hy;have:=h2 j hj;unfold WS.slot at this;rw[aZ hj,e]at this
 simpa using this
theorem eZ.first (h:eZ P SB HB cap m w f) (ho:WmOk m) {s:Nat} (hs:s<m.ss.length) (b:Int):
  ap aj 98 #[am (some ⟨P,0,none⟩),ab ac (s:Int),ab ac b] w fun e w'=>e=ao (js ((jr (m.set s).l b).map fun k=>s*m.wy+k))/\w'=w:=by
 have h1:=ho.st1;have h2:=ho.st8;have h3:=ho.wy1;have h4:=ho.wy4;have hl:=(ho.sets s hs).len;obtain⟨c0,c1, -⟩:=h.head;have hsz:m.size=m.ss.length*m.wy:=rfl;have hsl:s*m.wy+m.wy<=m.size:=by
  rw[hsz]
  calc s*m.wy+m.wy=(s+1)*m.wy:=by rw[Nat.add_mul,Nat.one_mul]
   _<=m.ss.length*m.wy:=Nat.mul_le_mul_right _ hs
 have hnn8:m.size<=32:=by rw[hsz];exact kP h2 h4
 have KS:Hid (∀i,i<m.size->w.cell? ⟨SB,i*3,none⟩=some (ab ac (m.slot i).b)):=fun i hi=>(h.slot hi).1;have KF:Hid (∀k,k<m.wy->(m.slot (s*m.wy+k)).b=b->(∀j,j<k->(m.slot (s*m.wy+j)).b≠b)->jr (m.set s).l b=some k):=fun k hk e1 e2=>
  PZ (by rw[hl];exact hk) (by rw[←pC hk];exact e1) (fun j hj=>by rw[←pC (by omega)];exact e2 j hj)
 have KN:Hid ((∀j,j<m.wy->(m.slot (s*m.wy+j)).b≠b)->jr (m.set s).l b=none):=fun e2=>
  Qa (fun j hj=>by rw[hl]at hj;rw[←pC hj];exact e2 j hj)
 obtain⟨wy,hwy⟩:=w9nm m.wy;obtain⟨nn,hnn⟩:=w9nm m.size;rw[hwy]at h3 h4 c0 KF KN hsl;rw[hnn]at c1 KS hnn8 hsl;have HWY:=ae hwy;clear h ho hl hsz hwy hnn h1 h2 hs;go_enter func98,ntmps98;go_wp2_with fail;go_loopw [8,9,14] (fun _ _ iv wr=>∃k:Nat,k<=wy/\iv=ab ac (k:Int)/\wr=w/\Hid (∀j,j<k->(m.slot (s*wy+j)).b≠b)) (fun _ _ iv _=>wy - (aS iv).toNat)
 case atStart=>exact⟨0,bc _,rfl,rfl,fun j hj=>absurd hj (Nat.not_lt_zero _)⟩
 case round=>
  obtain⟨k,hk,rfl,rfl,HP⟩:=hrel;by_cases hlt2:k<wy
  ·have g1:(k:Int)< (wy:Int):=by omega
   have HLT:=ae hlt2;have hki:s*wy+k<nn:=by omega
   have c3:=KS.out (s*wy+k) hki;by_cases hc:(m.slot (s*wy+k)).b=b
   ·have q1:((m.slot (s*wy+k)).b==b)=true:=by simpa using hc
    have E:Hid ((jr (m.set s).l b).map (fun k=>s*m.wy+k)=some (s*wy+k)):=by
     rw[KF.out k HLT.out hc HP.out,HWY.out];rfl
    clear hc;go_wp2_with fail;go_ret2;rw[E.out];exact⟨by show _=Ending.returned (aQ #[ab ac ((s*wy+k:Nat):Int),.bool true]);simp,rfl⟩
   ·have q1:((m.slot (s*wy+k)).b==b)=false:=by simpa using hc
    have HC:=ae hc;clear hc;go_wp2_with fail;exact⟨⟨k+1,HLT.out,by simp,(by trivial),fun j hj=>by
     by_cases e:j=k
     ·subst e;exact HC.out
     ·exact HP.out j (by omega)⟩,by have:=HLT.out;simp[aS];omega⟩
  ·obtain rfl:k=wy:=by omega
   have E:Hid ((jr (m.set s).l b).map (fun j=>s*m.wy+j)=none):=by rw[KN.out HP.out];rfl
   go_wp2_with fail;go_ret2;rw[E.out];exact⟨rfl,rfl⟩
end
section
variable {P SB HB cap:Nat} {m:WM} {w:ah} {f:Nat->Prop}
theorem WmOk.size32 (ho:WmOk m):m.size<=32:=by
 calc m.ss.length*m.wy<=8*4:=kP ho.st8 ho.wy4
  _=32:=rfl
theorem eZ.drop (h:eZ P SB HB cap m w f) (ho:WmLen m) (hz:m.size<=32) (i:Int):
  ap aj 100 #[am (some ⟨P,0,none⟩),ab ac i] w fun e w'=>e=ao (aQ #[])/\eZ P SB HB cap (mf m i) w' f/\Turn f f w w':=by
 by_cases hi:lD m i
 ·have hm:mf m i=gx m i.toNat wE:=by unfold mf;rw[if_pos hi]
  have hn:=xJ hi;have K:=ae (h.write ho hn wE);rw[←hm]at K;have H:=ae (h.contentYes hz hn);obtain⟨c1,c2,c3⟩:=h.slot hn;have cf:=h.frozenS (i.toNat*3);have cf1:=h.frozenS (i.toNat*3+1);have cf2:=h.frozenS (i.toNat*3+2);obtain⟨n,rfl⟩:∃n:Nat,i=(n:Int):=⟨i.toNat,(Int.toNat_of_nonneg hi.1).symm⟩;rw[iG]at H K c1 c2 c3 cf cf1 cf2 hn;clear h hi hm hz ho hn;go_enter func100,ntmps100;go_wp2_with fail;refine H.out.mono ?_;rintro e w' ⟨rfl,rfl⟩;go_wp2_with fail
  go_end0
  exact⟨rfl,K.out⟩
 ·have H:=ae (h.contentNo hi);have hm:mf m i=m:=by unfold mf;rw[if_neg hi]
  rw[hm];have K:=ae h;clear h;go_enter func100,ntmps100;go_wp2_with fail;refine H.out.mono ?_;rintro e w' ⟨rfl,rfl⟩;go_wp2_with fail
  go_end0
  exact⟨rfl,K.out,Turn.refl _ _⟩
theorem eZ.find (h:eZ P SB HB cap m w f) (ho:WmOk m) (b:Int) (hb:b<=9223372036854775807):
  ap aj 124 #[am (some ⟨P,0,none⟩),ab ac b] w fun e w'=>e=ao (js (fq m b))/\w'=w:=by
 by_cases h0:b<0
 ·have E:Hid (js (fq m b)=js none):=by unfold fq;rw[if_pos h0];rfl
  have H:=ae (eZ.setNo (w:=w) b (am (some ⟨P,0,none⟩)) (aD ⟨_,rfl,h0⟩));clear h h0;go_enter func124,ntmps124;go_wp2_with fail;refine H.out.mono ?_;rintro e w' ⟨rfl,rfl⟩;go_wp2_with fail;go_ret2;exact⟨by rw[E.out];rfl,rfl⟩
 ·have E:Hid (js ((jr (m.set (m.of b)).l b).map fun k=>m.of b*m.wy+k)=js (fq m b)):=by unfold fq;rw[if_neg h0];rfl
  have H:=ae (h.setYes ho (by omega) hb);have H2:=ae (h.first ho (ou ho.st1 b) b);rw[E.out]at H2;obtain⟨o,ho2⟩:=w9nm (fq m b);rw[ho2]at H2 ⊢;clear h h0 ho E ho2;cases o with
  | none=>
   go_enter func124,ntmps124;go_wp2_with fail;refine H.out.mono ?_;rintro e w' ⟨rfl,rfl⟩;go_wp2_with fail;refine H2.out.mono ?_;rintro e w' ⟨rfl,rfl⟩;unfold js;go_wp2_with fail;go_ret2;exact⟨rfl,rfl⟩
  | some k=>
   go_enter func124,ntmps124;go_wp2_with fail;refine H.out.mono ?_;rintro e w' ⟨rfl,rfl⟩;go_wp2_with fail;refine H2.out.mono ?_;rintro e w' ⟨rfl,rfl⟩;unfold js;go_wp2_with fail;go_ret2;exact⟨rfl,rfl⟩
end
section
variable {P SB HB cap:Nat} {m:WM} {w:ah} {f:Nat->Prop}
theorem eZ.put (h:eZ P SB HB cap m w f) (ho:WmOk m) (i b:Int) (d:Bool) (hb:b<=9223372036854775807):
  ap aj 28 #[am (some ⟨P,0,none⟩),ab ac i,ab ac b,.bool d] w fun e w'=>e=ao (aQ #[])/\eZ P SB HB cap (ib m i b d) w' f/\Turn f f w w':=by
 by_cases hi:lD m i
 ·have hn:=xJ hi;have HC:=ae (h.contentYes ho.size32 hn);by_cases h0:b<0
  ·have hm:ib m i b d=m:=by unfold ib;rw[if_neg (fun h=>by omega)]
   rw[hm];have K:=ae h;have HS:=ae (eZ.setNo (w:=w) b (am (some ⟨P,0,none⟩)) (aD ⟨_,rfl,h0⟩));obtain⟨n,rfl⟩:∃n:Nat,i=(n:Int):=⟨i.toNat,(Int.toNat_of_nonneg hi.1).symm⟩;rw[iG]at HC;clear h ho hm hi h0 hn;go_enter func28,ntmps28;go_wp2_with fail;refine HC.out.mono ?_;rintro e w' ⟨rfl,rfl⟩;go_wp2_with fail;refine HS.out.mono ?_;rintro e w' ⟨rfl,rfl⟩;go_wp2_with fail;refine bo (results_none rfl _ _ _) rfl ?_;exact⟨rfl,K.out,Turn.refl _ _⟩
  ·have HS:=ae (h.setYes ho (by omega) hb);have h3:=ho.wy1;have h4:=ho.wy4;have hrem:=uj ho.st1 b;have hlt:=ou ho.st1 b;have c0:=h.head.1;obtain⟨n,rfl⟩:∃n:Nat,i=(n:Int):=⟨i.toNat,(Int.toNat_of_nonneg hi.1).symm⟩;rw[iG]at HC hn;have hn8:n<32:=bq hn ho.size32;have hqe:(n:Int) / (m.wy:Int)=((n / m.wy:Nat):Int):=by simp
   have K:=ae h;by_cases hq:m.of b=n / m.wy
   ·have HF:=ae (h.first ho hlt b);have hE:Hid (js ((jr (m.set (m.of b)).l b).map fun k=>m.of b*m.wy+k)=js (fq m b)):=by unfold fq;rw[if_neg h0];rfl
    rw[hE.out]at HF;have hput:(fq m b=none\/fq m b=some n)->ib m (n:Int) b d=gx m n ⟨b,d,true⟩:=fun e=>by
     unfold ib;rw[if_pos ⟨hi,by omega,by rw[hrem,hqe,hq],by simpa using e⟩];simp
    have hstay:¬(fq m b=none\/fq m b=some n)->ib m (n:Int) b d=m:=fun e=>by
     unfold ib;rw[if_neg (fun h=>e (by simpa using h.2.2.2))]
    obtain⟨g1,g2,g3⟩:=h.slot hn;have f1:=h.frozenS (n*3);have f2:=h.frozenS (n*3+1);have f3:=h.frozenS (n*3+2);have KW:=ae (h.write ho.lens hn ⟨b,d,true⟩);have HPut:=ae hput;have HStay:=ae hstay;obtain⟨s,hs⟩:=w9nm (m.of b);obtain⟨wy,hwy⟩:=w9nm m.wy;have hdiv:(n:Int) / (wy:Int)=(s:Int):=by rw[←hwy,hqe,←hs,hq]
    have hsn:s<=n:=by rw[←hs,hq];exact Nat.div_le_self _ _
    rw[hs]at HS HF;rw[hwy]at h3 h4 c0;obtain⟨o,hO⟩:=w9nm (fq m b);rw[hO]at HF HPut HStay;clear h ho hi h0 hn hrem hlt hqe hq hE hput hstay hs hwy hb hO;cases o with
    | none=>
     rw[HPut.out (aA rfl)];go_enter func28,ntmps28;go_wp2_with fail;refine HC.out.mono ?_;rintro e w' ⟨rfl,rfl⟩;go_wp2_with fail;refine HS.out.mono ?_;rintro e w' ⟨rfl,rfl⟩;go_wp2_with fail;refine HF.out.mono ?_;rintro e w' ⟨rfl,rfl⟩;unfold js;go_wp2_with fail
     go_end0
     exact⟨rfl,KW.out⟩
    | some j=>
     by_cases hj:j=n
     ·subst hj;rw[HPut.out (aD rfl)];go_enter func28,ntmps28;go_wp2_with fail;refine HC.out.mono ?_;rintro e w' ⟨rfl,rfl⟩;go_wp2_with fail;refine HS.out.mono ?_;rintro e w' ⟨rfl,rfl⟩;go_wp2_with fail;refine HF.out.mono ?_;rintro e w' ⟨rfl,rfl⟩;unfold js;go_wp2_with fail
      go_end0
      exact⟨rfl,KW.out⟩
     ·rw[HStay.out (fun e=>by rcases e with e | e<;>cases e;exact hj rfl)];have q1:((j:Int)==(n:Int))=false:=by simp;omega
      have q2:((j:Int) !=(n:Int))=true:=by simp;omega
      clear hj;go_enter func28,ntmps28;go_wp2_with fail;refine HC.out.mono ?_;rintro e w' ⟨rfl,rfl⟩;go_wp2_with fail;refine HS.out.mono ?_;rintro e w' ⟨rfl,rfl⟩;go_wp2_with fail;refine HF.out.mono ?_;rintro e w' ⟨rfl,rfl⟩;unfold js;go_wp2_with fail;refine bo (results_none rfl _ _ _) rfl ?_;exact⟨rfl,K.out,Turn.refl _ _⟩
   ·have hm:ib m (n:Int) b d=m:=by unfold ib;rw[if_neg (fun h=>by rw[hrem,hqe]at h;omega)]
    rw[hm];obtain⟨s,hs⟩:=w9nm (m.of b);obtain⟨wy,hwy⟩:=w9nm m.wy;obtain⟨q,hqd⟩:=w9nm (n / m.wy);have hdiv:(n:Int) / (wy:Int)=(q:Int):=by rw[←hwy,hqe,hqd]
    have hqn:q<=n:=by rw[←hqd];exact Nat.div_le_self _ _
    rw[hs,hqd]at hq;rw[hs]at HS;rw[hwy]at h3 h4 c0;have q1:(((s:Nat):Int)==(q:Int))=false:=by simp;omega
    have q2:(((s:Nat):Int) !=(q:Int))=true:=by simp;omega
    clear h ho hi h0 hn hrem hlt hqe hq hs hwy hb hqd hm;go_enter func28,ntmps28;go_wp2_with fail;refine HC.out.mono ?_;rintro e w' ⟨rfl,rfl⟩;go_wp2_with fail;refine HS.out.mono ?_;rintro e w' ⟨rfl,rfl⟩;go_wp2_with fail;refine bo (results_none rfl _ _ _) rfl ?_;exact⟨rfl,K.out,Turn.refl _ _⟩
 ·have HC:=ae (h.contentNo hi);have hm:ib m i b d=m:=by unfold ib;rw[if_neg (fun h=>hi h.1)]
  rw[hm];have K:=ae h;by_cases h0:b<0
  ·have HS:=ae (eZ.setNo (w:=w) b (am (some ⟨P,0,none⟩)) (aD ⟨_,rfl,h0⟩));clear h ho hm hi h0;go_enter func28,ntmps28;go_wp2_with fail;refine HC.out.mono ?_;rintro e w' ⟨rfl,rfl⟩;go_wp2_with fail;refine HS.out.mono ?_;rintro e w' ⟨rfl,rfl⟩;go_wp2_with fail;refine bo (results_none rfl _ _ _) rfl ?_;exact⟨rfl,K.out,Turn.refl _ _⟩
  ·have HS:=ae (h.setYes ho (by omega) hb);obtain⟨s,hs⟩:=w9nm (m.of b);rw[hs]at HS;clear h ho hm hi h0 hs;go_enter func28,ntmps28;go_wp2_with fail;refine HC.out.mono ?_;rintro e w' ⟨rfl,rfl⟩;go_wp2_with fail;refine HS.out.mono ?_;rintro e w' ⟨rfl,rfl⟩;go_wp2_with fail;refine bo (results_none rfl _ _ _) rfl ?_;exact⟨rfl,K.out,Turn.refl _ _⟩
end
section
variable {P SB HB cap:Nat} {m:WM} {w:ah} {f:Nat->Prop}
theorem Qb {m n:WM} (h1:WmLen m) (h2:WmLen n) (e1:m.wy=n.wy) (e2:m.ss.length=n.ss.length) (e3:∀s,s<m.ss.length->(m.set s).h=(n.set s).h) (e4:∀i,i<m.size->m.slot i=n.slot i):m=n:=by
 obtain⟨wy,ss⟩:=m;obtain⟨wy',ss'⟩:=n;obtain rfl:wy=wy':=e1
 congr 1
 apply jD;intro s;by_cases hs:s<ss.length
 ·have hs':s<ss'.length:=by have:ss.length=ss'.length:=e2;omega
  rw[aZ hs,aZ hs'];have q1:WM.set ⟨wy,ss⟩ s=ss[s]:=by unfold WM.set;rw[aZ hs];rfl
  have q2:WM.set ⟨wy,ss'⟩ s=ss'[s]:=by unfold WM.set;rw[aZ hs'];rfl
  have l1:=h1.sets s hs;have l2:=h2.sets s hs';have h3:=e3 s hs;rw[q1]at l1 h3;rw[q2]at l2 h3;have l1':ss[s].l.length=wy:=l1;have l2':ss'[s].l.length=wy:=l2
  congr 1
  cases hx:ss[s]with
  | mk a l=>
   cases hy:ss'[s]with
   | mk a' l'=>
    rw[hx]at q1 h3 l1';rw[hy]at q2 h3 l2';simp only at h3 l1' l2';subst h3
    congr 1
    apply jD;intro v;by_cases hv:v<wy
    ·have h4:=e4 (s*wy+v) (Eo (wy:=wy) hs hv);have g1:=pC (m:=⟨wy,ss⟩) (s:=s) (w:=v) hv;have g2:=pC (m:=⟨wy,ss'⟩) (s:=s) (w:=v) hv;have h5:WM.slot ⟨wy,ss⟩ (s*wy+v)=WM.slot ⟨wy,ss'⟩ (s*wy+v):=h4;rw[g1,g2,q1,q2]at h5;unfold WS.slot at h5;simp only at h5;rw[aZ (by omega),aZ (by omega)]at h5 ⊢;exact congrArg some h5
    ·rw[ej (by omega),ej (by omega)]
 ·rw[ej (by omega),ej (by have:ss.length=ss'.length:=e2;omega)]
def wZ:WSlot:=⟨0,false,false⟩
def ie (v:WSlot) (st wy:Nat):WM:=⟨wy,bg st ⟨0,bg wy v⟩⟩
theorem pG (v:WSlot) (st wy:Nat):(ie v st wy).ss.length=st:=by unfold ie;simp
theorem uq {v:WSlot} {st wy s:Nat} (h:s<st):(ie v st wy).set s=⟨0,bg wy v⟩:=by unfold WM.set ie;simp[h]
theorem Ez {v:WSlot} {st wy:Nat} (h:1<=wy):WmLen (ie v st wy):=⟨h,fun s hs=>by rw[pG]at hs;rw[uq hs];simp[ie]⟩
theorem pH (v:WSlot) (st wy:Nat):(ie v st wy).size=st*wy:=by unfold WM.size;rw[pG];rfl
theorem EA {v:WSlot} {st wy i:Nat} (h:i<st*wy) (hw:1<=wy):(ie v st wy).slot i=v:=by
 have hi:i< (ie v st wy).size:=by rw[pH];exact h
 have h1:=ng hi;rw[pG]at h1;have h1:i / wy<st:=h1;show((ie v st wy).set (i / wy)).slot (i%wy)=v;rw[uq h1];unfold WS.slot;simp[iI _ hw]
theorem Qc {v:WSlot} {st wy:Nat} (hw:1<=wy):kJ (ie v st wy)=bg (st*wy) v:=by
 apply jD;intro i;by_cases hi:i<st*wy
 ·rw[pF (by rw[pH];exact hi),EA hi hw,kO,if_pos hi]
 ·rw[ej (by rw[pD,pH];omega),ej (by simp;omega)]
theorem Qd (v:WSlot) (st wy:Nat):lE (ie v st wy)=bg st 0:=by unfold lE ie;simp
structure PartN (st wy k:Nat) (m:WM):Prop where
 len:WmLen m
 ewy:m.wy=wy
 est:m.ss.length=st
 hand:∀s,s<st->(m.set s).h=0
 slot:∀i,i<k->m.slot i=wE
theorem Qe {m:WM} (h:WmLen m) {i:Nat} (hi:i<m.size) (v:WSlot) {j:Nat} (hj:j<m.size):(gx m i v).slot j=if i=j then v else m.slot j:=by
 have h1:=pF (m:=gx m i v) (i:=j) (by unfold gx;rw[xK];exact hj);rw[Er h hi,List.getElem?_set]at h1;by_cases e:i=j
 ·rw[if_pos e,if_pos (by rw[pD];exact hi)]at h1;rw[if_pos e];exact(Option.some.inj h1).symm
 ·rw[if_neg e,pF hj]at h1;rw[if_neg e];exact(Option.some.inj h1).symm
theorem PartN.step {st wy k:Nat} {m:WM} (h:PartN st wy k m) (hk:k<st*wy):PartN st wy (k+1) (mf m (k:Int)):=by
 have hz:m.size=st*wy:=by unfold WM.size;rw[h.est,h.ewy]
 have hi:lD m (k:Int):=⟨by omega,by rw[hz];omega⟩;have hkz:k<m.size:=by rw[hz];exact hk
 have e:mf m (k:Int)=gx m k wE:=by unfold mf;rw[if_pos hi,iG]
 rw[e];refine⟨h.len.write hkz _,h.ewy,by unfold gx;rw[ot];exact h.est,fun s hs=> ?_,fun i hi=> ?_⟩
 ·unfold gx;by_cases e2:k / m.wy=s
  ·rw[←e2,qY _ (ng hkz)];have:=h.hand (k / m.wy) (by rw[e2];exact hs);exact this
  ·rw[ui _ e2];exact h.hand s hs
 ·rw[Qe h.len hkz _ (by rw[hz];omega)];by_cases e2:k=i
  ·rw[if_pos e2]
  ·rw[if_neg e2];exact h.slot i (by omega)
theorem PartN.first {st wy:Nat} (hw:1<=wy) (v:WSlot):PartN st wy 0 (ie v st wy):=
 ⟨Ez hw,rfl,pG _ _ _,fun s hs=>by rw[uq hs],fun i hi=>absurd hi (Nat.not_lt_zero _)⟩
theorem PartN.all {st wy:Nat} {m:WM} (h:PartN st wy (st*wy) m) (hw:1<=wy):m=gz st wy:=by
 have hz:m.size=st*wy:=by unfold WM.size;rw[h.est,h.ewy]
 refine Qb (n:=ie wE st wy) h.len (Ez hw) h.ewy (by rw[pG];exact h.est) (fun s hs=> ?_) (fun i hi=> ?_)
 ·rw[h.est]at hs;rw[h.hand s hs,uq hs]
 ·rw[hz]at hi;rw[h.slot i hi,EA hi hw]
theorem Qf (v:WSlot) (n:Nat) (zc:Array ak) (hz:zc=#[ab ac v.b,.bool v.d,.bool v.k]):(madeCells zc (n*3)).toList=wcs (bg n v):=by
 subst hz;apply jD;intro j;by_cases hj:j<n*3
 ·have hd:j / 3<n:=by omega
  have hm:=Ba #[ab ac v.b,.bool v.d,.bool v.k] 3 rfl (by decide) n (j / 3) (j%3) hd (iI _ (by decide));have he:j / 3*3+j%3=j:=by omega
  rw[he]at hm;rw[Array.getElem?_toList,hm];obtain⟨g1,g2,g3⟩:=Es (l:=bg n v) (j:=j / 3) (s:=v) (by rw[kO,if_pos hd]);have h3:j%3=0\/j%3=1\/j%3=2:=by omega
  rcases h3 with e | e | e
  ·rw[e]at he ⊢;rw[←he,Nat.add_zero,g1];rfl
  ·rw[e]at he ⊢;rw[←he,g2];rfl
  ·rw[e]at he ⊢;rw[←he,g3];rfl
 ·rw[ej (by rw[Array.length_toList];unfold madeCells;simp;omega),ej (by rw[xL,iq];omega)]
theorem Qg:(aj.info? 162).map (fun i=>(i.zero,i.size,i.bytes))=some (some (al #[ab ac 0,.bool false,.bool false]),3,16):=by kernel_rfl
theorem Qh:(aj.info? 3).map (fun i=>(i.zero,i.size,i.bytes))=some (some (ab ac 0),1,8):=by kernel_rfl
set_option maxRecDepth 100000 in
theorem EB (x:ah) (n:Nat) (hn:n<=1000):∃x',(Instr.makeSlice 169 (ab ac (n:Int)) (ab ac (n:Int))).run aj x=.ok (af (some ⟨x.heap.size,0,none⟩) n n) x'/\aq x' x.heap.size 162 (wcs (bg n wZ))/\x.grownBy x' none:=by
 obtain⟨i0,hi,hz0,hz1,hz2⟩:=fy Qg;obtain⟨x',r,ho,hg⟩:=run_make_full (P:=aj) x x.heap.size 169 162 i0 (al #[ab ac 0,.bool false,.bool false]) 3 Tryz.underlying169 hi hz0 hz1 ac ac n (by rw[hz2];omega) (by unfold aY;omega) (aG _);have e0:(madeCells (Value.agg #[Value.int IntKind.i64 0,Value.bool false,Value.bool false]).cells (n*3)).toList=wcs (bg n wZ):=Qf wZ n _ rfl;rw[e0]at ho;exact⟨x',r,vZ ho,hg⟩
set_option maxRecDepth 100000 in
theorem xP (x:ah) (n:Nat) (hn:n<=1000):∃x',(Instr.makeSlice 41 (ab ac (n:Int)) (ab ac (n:Int))).run aj x=.ok (af (some ⟨x.heap.size,0,none⟩) n n) x'/\aq x' x.heap.size 3 (bg n (ab ac 0))/\x.grownBy x' none:=by
 obtain⟨i0,hi,hz0,hz1,hz2⟩:=fy Qh;obtain⟨x',r,ho,hg⟩:=run_make_full (P:=aj) x x.heap.size 41 3 i0 (ab ac 0) 1 Tryz.underlying41 hi hz0 hz1 ac ac n (by rw[hz2];omega) (by unfold aY;omega) (aG _);rw[show(Value.int IntKind.i64 0).cells=#[ab ac 0]from rfl,toList_madeCells_one,Nat.mul_one]at ho;exact⟨x',r,vZ ho,hg⟩
theorem EE {w:ah} {P SB HB:Nat} {hd:Nat->Nat->Nat->Array ak} {tP tS:aR} (v:WSlot) {st wy:Nat} (hw:1<=wy) (hn:st*wy<=1000)
  (r1:aq w P tP (hd st wy (st*wy)).toList) (r2:aq w SB tS (wcs (bg (st*wy) v))) (r3:aq w HB 3 (bg st (ab ac 0)))
  (n1:P≠SB) (n2:P≠HB) (n3:SB≠HB):mg hd tP tS P SB HB (st*wy) (ie v st wy) w (fun k=>k=P\/k=SB\/k=HB):=by
 refine⟨(wcs (bg (st*wy) v)).toArray,by simp[xL],by rw[pH];exact aG _,by unfold aY;omega, ?_, ?_⟩
 ·rw[Qc hw,pH,de (by simp[xL])]
 ·refine⟨fun k=>k=P,fun k=>k=SB\/k=HB,⟨?_,rfl⟩,⟨fun k=>k=SB,fun k=>k=HB,⟨r2,rfl⟩,⟨?_,rfl⟩,fun k e1 e2=>n3 (e1.symm.trans e2),rfl⟩,fun k e1 e2=> ?_,rfl⟩
  ·rw[pG,pH];exact r1
  ·rw[Qd];unfold hcs;rw[List.map_replicate];exact r3
  ·rcases e2 with e2 | e2
   ·exact n1 (e1.symm.trans e2)
   ·exact n2 (e1.symm.trans e2)
theorem Qi {P:Program} {l:List Oper} {Q:Exit->Act->ah->Prop} {S:ah->Prop} {n i j:Nat} {p q:Plan} {a:Act} {w:ah}:em P l Q S n (.two i j p q) a w=(wpList P l.toArray (it S Q (em P l Q S n p)) [dL l i] a w/\wpList P l.toArray (it S Q (em P l Q S n q)) [dL l j] a w):=rfl
theorem Qj (st wy:Nat) (h1:1<=st) (h2:st<=8) (h3:1<=wy) (h4:wy<=4):
  ap aj 178 #[ab ac (st:Int),ab ac (wy:Int)] w fun e w'=>∃P SB HB,e=ao (aQ #[am (some ⟨P,0,none⟩),ab ac 0])/\(∃f,eZ P SB HB (st*wy) (gz st wy) w' f/\∀k,f k->w.heap.size<=k)/\ag w.heap.size w w':=by
 have hmx:=w9x
 have g1:decide ((st:Int)<1)=false:=by simp;omega
 have g2:decide (8< (st:Int))=false:=by simp;omega
 have g3:decide ((wy:Int)<1)=false:=by simp;omega
 have g4:decide (4< (wy:Int))=false:=by simp;omega
 obtain⟨n,hn⟩:=w9nm (st*wy);have hni:(st:Int)*(wy:Int)=(n:Int):=by rw[←hn];simp
 have hn32:n<=32:=by rw[←hn];exact kP h2 h4
 have HN:=ae hn;obtain⟨B,hB⟩:=w9nm w.heap.size;have HB0:Hid (w.heap.size=B):=hB;have HBR:Hid (ag B w w.drew):=by show ag B w w.drew;rw[←hB];exact(aI _ w).drew
 have HSD:Hid (w.drew.heap.size=B):=hB;clear hB hn;have H1:=ae h1;have H2:=ae h2;have H3:=ae h3;clear h1 h2 h3;go_enter func178,ntmps178;go_wp2_with fail;refine du (fun _=>True) 7 (.takes [0,1,2,3,5] (.two 4 6 (.one 6 .leaf) (.one 4 .leaf))) hmx (by kernel_rfl) (by intro c x v a w h;cases x<;>exact h) trivial ?_;repeat(rw[bu];simp only[aB,aC];go_big_quiet_step (fail);refine aV ?_)
 rw[bt,Qi];simp only[aB,aC,hni];have KD:Hid (∀(P SB HB:Nat) (m':WM) (k:Nat) (f:Nat->Prop) (wr:ah),PartN st wy k m'->k<n->eZ P SB HB n m' wr f->ap aj 100 #[am (some ⟨P,0,none⟩),ab ac (k:Int)] wr fun e w'=>e=ao (aQ #[])/\PartN st wy (k+1) (mf m' (k:Int))/\eZ P SB HB n (mf m' (k:Int)) w' f/\Turn f f wr w'):=fun P SB HB m' k f wr hp hk hd=>by
  have hz:m'.size=n:=by unfold WM.size;rw[hp.est,hp.ewy];exact HN.out
  exact(hd.drop hp.len (by rw[hz];exact hn32) (k:Int)).mono fun e w' h=>⟨h.1,hp.step (by rw[HN.out];exact hk),h.2⟩
 refine⟨?_, ?_⟩
 ·skip
  obtain⟨x1,m1,r1,gg1⟩:=EB w.drew n (by omega);obtain⟨x,m2,r2,gg2⟩:=xP x1 st (by have:=H2.out;omega);rw[HSD.out]at m1 r1;obtain⟨SB,hSB⟩:∃SB,SB=B:=⟨_,rfl⟩;obtain⟨HB,hHB⟩:=w9nm x1.heap.size;rw[hHB]at m2 r2;rw[←hSB]at m1 r1;have M1:=ae m1;have M2:=ae m2;have l1:=r1.lt;have R1:Hid (aq x SB 162 (wcs (bg n wZ))):=r1.grown gg2 (by simp);have R2:=ae r2;have BX:Hid (ag B w x):=(HBR.out.grown gg1 (by rw[HSD.out];exact aG _) (fun j e=>by cases e)).grown gg2 (by have:=gg1.size;rw[HSD.out]at this;exact this) (fun j e=>by cases e);have NE:Hid (SB≠HB):=by show SB≠HB;omega
  have LS:Hid (B<=SB):=by show B<=SB;omega
  have LH:Hid (B<=HB):=by show B<=HB;omega
  clear m1 m2 r1 r2 gg1 gg2 l1 hSB hHB;go_wp2_with ((with_reducible refine pV ?_);refine oL _ _ _ rfl rfl _ _ _ rfl rfl M1.out ?_);refine aN trivial ?_;rw[aT];simp only[aB,aC];go_wp2_with ((with_reducible refine pV ?_);refine oL _ _ _ rfl rfl _ _ _ rfl rfl M2.out ?_);refine aN trivial ?_;rw[cW];simp only[bR,bQ];obtain⟨P,hP⟩:=w9nm x.heap.size;obtain⟨W,hW⟩:=w9nm (x.alloc (an #[ab ac (wy:Int),af (some ⟨SB,0,none⟩) n n,af (some ⟨HB,0,none⟩) st st] 171));have RP:aq W P 171 [ab ac (wy:Int),af (some ⟨SB,0,none⟩) n n,af (some ⟨HB,0,none⟩) st st]:=by rw[←hW,←hP];exact aq.new _ _ _
  have hXW:ag x.heap.size x W:=by rw[←hW];exact aH _ _
  have BW:Hid (ag B w W):=BX.out.trans (hXW.mono (by have:=BX.out.size;have:=HB0.out;omega));have LP:Hid (B<=P):=by show B<=P;rw[←hP];have:=BX.out.size;have:=HB0.out;omega
  have c1:=RP.cell 1 _ rfl;have MD:Hid (eZ P SB HB n (ie wZ st wy) W (fun k=>k=P\/k=SB\/k=HB)):=by
   have:=EE (w:=W) (P:=P) (SB:=SB) (HB:=HB) (hd:=xM SB HB n) (tP:= 171) (tS:= 162) wZ (st:=st) (wy:=wy) H3.out (by rw[HN.out];omega) (by rw[HN.out];exact RP) (by rw[HN.out];exact R1.out.below hXW) (R2.out.below hXW)
    (fun e=>by have:=R1.out.lt;omega) (fun e=>by have:=R2.out.lt;omega) NE.out
   rw[HN.out]at this;exact this
  have HP:=ae hP;have HF:Hid (∀k,(fun k=>k=P\/k=SB\/k=HB) k->B<=k):=fun k hk=>by
   rcases hk with rfl | rfl | rfl
   ·exact LP.out
   ·exact LS.out
   ·exact LH.out
  obtain⟨f,hf⟩:∃f:Nat->Prop,(fun k=>k=P\/k=SB\/k=HB)=f:=⟨_,rfl⟩;rw[hf]at MD HF;clear RP hXW hf;go_wp2_with fail;clear c1 hP;go_loopw [7,36] (fun _ iv wr=>∃(k:Nat) (m':WM),k<=n/\iv=ab ac (k:Int)/\Hid (PartN st wy k m')/\Hid (eZ P SB HB n m' wr f)/\Hid (Turn f f W wr)) (fun _ iv _=>n - (aS iv).toNat)
  case atStart=>exact⟨0,ie wZ st wy,bc _,rfl,PartN.first H3.out wZ,MD,Turn.refl _ _⟩
  case round=>
   obtain⟨k,m',hk,rfl,HQ,HM,HT⟩:=hrel;by_cases hlt:k<n
   ·have q1:(k:Int)< (n:Int):=by omega
    have HLT:=ae hlt;go_wp2_with fail;refine(KD.out P SB HB m' k f _ HQ.out HLT.out HM.out).mono ?_;rintro e y ⟨rfl,a1,a2,a3⟩;have A1:=ae a1;have A2:=ae a2;have A3:=ae (HT.out.trans a3);clear a1 a2 a3;go_wp2_with fail;exact⟨⟨k+1,_,HLT.out,by simp,A1,A2,A3⟩,by have:=HLT.out;simp[aS];omega⟩
   ·obtain rfl:k=n:=by omega
    have E:Hid (m'=gz st wy):=by
     have:=HQ.out;rw[←HN.out]at this;exact this.all H3.out
    rw[E.out]at HM;go_wp2_with fail;go_ret2;refine⟨P,SB,HB,rfl,⟨f, ?_, ?_⟩, ?_⟩
    ·rw[HN.out];exact HM.out
    ·rw[HB0.out];exact HF.out
    ·rw[HB0.out];exact BW.out.trans (HT.out.below (by have:=BW.out.size;have:=HB0.out;omega) HF.out)
 ·skip
  obtain⟨x1,m1,r1,gg1⟩:=xP w.drew st (by have:=H2.out;omega);obtain⟨x,m2,r2,gg2⟩:=EB x1 n (by omega);rw[HSD.out]at m1 r1;obtain⟨HB,hHB⟩:∃HB,HB=B:=⟨_,rfl⟩;obtain⟨SB,hSB⟩:=w9nm x1.heap.size;rw[hSB]at m2 r2;rw[←hHB]at m1 r1;have M1:=ae m1;have M2:=ae m2;have l1:=r1.lt;have R2:Hid (aq x HB 3 (bg st (ab ac 0))):=r1.grown gg2 (by simp);have R1:=ae r2;have BX:Hid (ag B w x):=(HBR.out.grown gg1 (by rw[HSD.out];exact aG _) (fun j e=>by cases e)).grown gg2 (by have:=gg1.size;rw[HSD.out]at this;exact this) (fun j e=>by cases e);have NE:Hid (SB≠HB):=by show SB≠HB;omega
  have LS:Hid (B<=SB):=by show B<=SB;omega
  have LH:Hid (B<=HB):=by show B<=HB;omega
  clear m1 m2 r1 r2 gg1 gg2 l1 hSB hHB;go_wp2_with ((with_reducible refine pV ?_);refine oL _ _ _ rfl rfl _ _ _ rfl rfl M1.out ?_);refine aN trivial ?_;rw[aT];simp only[aB,aC];go_wp2_with ((with_reducible refine pV ?_);refine oL _ _ _ rfl rfl _ _ _ rfl rfl M2.out ?_);refine aN trivial ?_;rw[cW];simp only[bR,bQ];obtain⟨P,hP⟩:=w9nm x.heap.size;obtain⟨W,hW⟩:=w9nm (x.alloc (an #[ab ac (wy:Int),af (some ⟨SB,0,none⟩) n n,af (some ⟨HB,0,none⟩) st st] 171));have RP:aq W P 171 [ab ac (wy:Int),af (some ⟨SB,0,none⟩) n n,af (some ⟨HB,0,none⟩) st st]:=by rw[←hW,←hP];exact aq.new _ _ _
  have hXW:ag x.heap.size x W:=by rw[←hW];exact aH _ _
  have BW:Hid (ag B w W):=BX.out.trans (hXW.mono (by have:=BX.out.size;have:=HB0.out;omega));have LP:Hid (B<=P):=by show B<=P;rw[←hP];have:=BX.out.size;have:=HB0.out;omega
  have c1:=RP.cell 1 _ rfl;have MD:Hid (eZ P SB HB n (ie wZ st wy) W (fun k=>k=P\/k=SB\/k=HB)):=by
   have:=EE (w:=W) (P:=P) (SB:=SB) (HB:=HB) (hd:=xM SB HB n) (tP:= 171) (tS:= 162) wZ (st:=st) (wy:=wy) H3.out (by rw[HN.out];omega) (by rw[HN.out];exact RP) (by rw[HN.out];exact R1.out.below hXW) (R2.out.below hXW)
    (fun e=>by have:=R1.out.lt;omega) (fun e=>by have:=R2.out.lt;omega) NE.out
   rw[HN.out]at this;exact this
  have HP:=ae hP;have HF:Hid (∀k,(fun k=>k=P\/k=SB\/k=HB) k->B<=k):=fun k hk=>by
   rcases hk with rfl | rfl | rfl
   ·exact LP.out
   ·exact LS.out
   ·exact LH.out
  obtain⟨f,hf⟩:∃f:Nat->Prop,(fun k=>k=P\/k=SB\/k=HB)=f:=⟨_,rfl⟩;rw[hf]at MD HF;clear RP hXW hf;go_wp2_with fail;clear c1 hP;go_loopw [7,36] (fun _ iv wr=>∃(k:Nat) (m':WM),k<=n/\iv=ab ac (k:Int)/\Hid (PartN st wy k m')/\Hid (eZ P SB HB n m' wr f)/\Hid (Turn f f W wr)) (fun _ iv _=>n - (aS iv).toNat)
  case atStart=>exact⟨0,ie wZ st wy,bc _,rfl,PartN.first H3.out wZ,MD,Turn.refl _ _⟩
  case round=>
   obtain⟨k,m',hk,rfl,HQ,HM,HT⟩:=hrel;by_cases hlt:k<n
   ·have q1:(k:Int)< (n:Int):=by omega
    have HLT:=ae hlt;go_wp2_with fail;refine(KD.out P SB HB m' k f _ HQ.out HLT.out HM.out).mono ?_;rintro e y ⟨rfl,a1,a2,a3⟩;have A1:=ae a1;have A2:=ae a2;have A3:=ae (HT.out.trans a3);clear a1 a2 a3;go_wp2_with fail;exact⟨⟨k+1,_,HLT.out,by simp,A1,A2,A3⟩,by have:=HLT.out;simp[aS];omega⟩
   ·obtain rfl:k=n:=by omega
    have E:Hid (m'=gz st wy):=by
     have:=HQ.out;rw[←HN.out]at this;exact this.all H3.out
    rw[E.out]at HM;go_wp2_with fail;go_ret2;refine⟨P,SB,HB,rfl,⟨f, ?_, ?_⟩, ?_⟩
    ·rw[HN.out];exact HM.out
    ·rw[HB0.out];exact HF.out
    ·rw[HB0.out];exact BW.out.trans (HT.out.below (by have:=BW.out.size;have:=HB0.out;omega) HF.out)
end
section
attribute [-simp] isAgg51 zeroValue51 isAgg23 zeroValue23 isAgg47 zeroValue47 isAgg156 zeroValue156
attribute [-go_sem] aE aL cS
attribute [local go_sem] kr kt hU ia bC bD en Oper.semAt_some
def ku (g:Geo) (d:List Int) (k:Nat):WM:=((dX d).take k).foldl (fun m p=>ib m (p.2:Int) p.1 true) (gz g.s.toNat g.y.toNat)
def kK (g:Geo) (d:List Int):WM:=ku g d (dX d).length
theorem EH (g:Geo) (d:List Int):ku g d 0=gz g.s.toNat g.y.toNat:=rfl
theorem EJ {g:Geo} {d:List Int} {k:Nat} {p:Int×Nat} (h:(dX d)[k]? =some p):ku g d (k+1)=ib (ku g d k) (p.2:Int) p.1 true:=by
 unfold ku;rw[jZ,h];simp
theorem Qk (A:WM) (i n:Int) (d:Bool):(ib A i n d).ss.length=A.ss.length/\(ib A i n d).wy=A.wy:=by
 unfold ib;split
 ·unfold gx;exact⟨ot _ _ _,rfl⟩
 ·exact⟨rfl,rfl⟩
theorem xQ {g:Geo} (hg:g.good) (d:List Int):∀k,WmOk (ku g d k)/\(ku g d k).ss.length=g.s.toNat/\(ku g d k).wy=g.y.toNat
 | 0=>by
  obtain⟨h1,h2,h3,h4,h5,h6,h7,h8⟩:=hg.1;rw[EH];exact⟨xI (by omega) (by omega) (by omega) (by omega),by simp[gz],rfl⟩
 | k+1=>by
  obtain⟨a,b,c⟩:=xQ hg d k;cases h:(dX d)[k]? with
  | none=>
   have:ku g d (k+1)=ku g d k:=by
    unfold ku;rw[jZ,h];simp
   rw[this];exact⟨a,b,c⟩
  | some p=>
   rw[EJ h];have e:=Qk (ku g d k) (p.2:Int) p.1 true;exact⟨a.put _ _ _,e.1.trans b,e.2.trans c⟩
theorem Ql {d:List Int} {k:Nat} {p:Int×Nat} (h:(dX d)[k]? =some p):p.1 ∈ d:=by
 have:=dp h;unfold dX at this;have h1:=(lH.1 this).1;obtain⟨x,i⟩:=p;have:=List.mem_zipIdx h1;exact(List.mem_iff_getElem?.2 ⟨i,by have:=List.mk_mem_zipIdx_iff_getElem?.1 h1;exact this⟩)
theorem Qm (a b c:Option aF) (x y z:Option aF) (n i m j k l:Nat) (nx kd id:Int) (w:ah):(df 156 #[(0,am a),(1,am b),(2,am c),(3,al #[af x n i,af y m j,ab ac nx,ab ac kd,ab ac id,af z k l])]).run aj w=.ok (al #[am a,am b,am c,af x n i,af y m j,ab ac nx,ab ac kd,ab ac id,af z k l]) w:=by kernel_rfl
theorem Qn (w:ah):(zeroValue 156).run aj w=.ok (al #[am none,am none,am none,af none 0 0,af none 0 0,ab ac 0,ab ac 0,ab ac 0,af none 0 0]) w:=by kernel_rfl
attribute [local go_sem] Qm Qn
theorem EK {w:ah} {f:Nat->Prop} {rb mb:Nat} (p0 p1:Nat) {M:MS} {q:PS} {s:ST} (hg:M.g.good) (h:dr (eR mb rb M) (gU q s) w f) (hdl:s.d.length<=1000) (hbd:∀x ∈ s.d,x<=9223372036854775807):
  ap aj 84 #[am (some ⟨rb,0,none⟩),am (some ⟨mb,0,none⟩),bI q] w fun e w'=>∃b:CB,(b.rb=rb/\b.p0=p0/\b.p1=p1)/\e=ao b.v/\(∃f',ip b M (kK M.g s.d) s w' f'/\∀k,f' k->f k\/w.heap.size<=k)/\ag w.heap.size w w':=by
 have hMS:=((eR.isRes mb rb M).sep (gU.isRes q s));have HF:Hid (∀k,f k->k<w.heap.size):=hMS.lt h;have HH:=ae h;have HGD:=ae hg;have HBD:=ae hbd;obtain⟨h1,h2,h3,h4,h5,h6,h7,h8⟩:=hg.1;obtain⟨st,hst⟩:=mO (show 0<=M.g.s by omega);obtain⟨wy,hwy⟩:=mO (show 0<=M.g.y by omega);have HST:=ae hst;have HWY:=ae hwy;have HNEW:=ae (fun x=>Qj (w:=x) st wy (by omega) (by omega) (by omega) (by omega));obtain⟨B,hB⟩:=w9nm w.heap.size;obtain⟨W0,hW0⟩:=w9nm (w.alloc (an (aW q).toArray 47));have r0:aq W0 B 47 (aW q):=by rw[←hW0,←hB];exact aq.new w _ _
 have b0:ag w.heap.size w W0:=by rw[←hW0];exact aH w _
 have z0:W0.heap.size=B+1:=by rw[←hW0,bO,hB]
 have hM0:∃g,eR mb rb M W0 g:=by
  obtain⟨f1,f2,a,_⟩:=hMS.below h b0;exact⟨f1,a⟩
 obtain⟨fm,hM0⟩:=hM0;have HGE:=ae (uf hM0);have hso:=((hMS.below h b0));have hsl:∀x,ag W0.heap.size W0 x->Sl ac x (aK q.d) s.d:=fun x hx=>by
  obtain⟨f1,f2,_,b,_⟩:=hso;exact b.o.sl.below hx
 have HSL:=ae hsl;have HR0:=ae r0;have HB0:=ae b0;have HZ0:=ae z0;have HSZ:=ae hB;clear h hg hbd hst hwy h1 h2 h3 h4 h5 h6 h7 h8 r0 b0 z0 hM0 hso hsl hMS;obtain⟨⟨qd,qdn,qdc⟩,⟨qs,qsn,qsc⟩,nx,kd,id,⟨qp,qpn,qpc⟩⟩:=q;simp only[bI,aW,aK]at *;refine(callsIn_wide (n:=3)).1 ?_;refine gA func84 rfl trivial ?_ rfl;simp only[ntmps84,cJ,bz,cx,Nat.reduceAdd,Nat.reduceSub,cO,cP,cQ,cR,cy,cC]
 gi_wp2_with fail
 refine⟨trivial, ?_⟩;refine(callsIn_wide.2 HGE.out).mono ?_;rintro e x1 ⟨rfl,hb⟩;obtain⟨y1,ST1,ry1,by1⟩:=xF x1 M.g;have K1:w9h W0 y1:=hb.trans (by1.mono hb.size);obtain⟨D,hD⟩:=w9nm x1.heap.size;rw[hD]at ST1 ry1;have c1:y1.cell? ⟨D,1,none⟩=some (ab ac (st:Int)):=by rw[←HST.out];exact ry1.cell 1 _ rfl
 have c2:y1.cell? ⟨D,2,none⟩=some (ab ac (wy:Int)):=by rw[←HWY.out];exact ry1.cell 2 _ rfl
 clear hb ry1 by1
 gi_wp2_with fail
 refine⟨trivial, ?_⟩;refine(callsIn_wide.2 (HNEW.out y1)).mono ?_;rintro e x2 ⟨P,SB,HB',rfl,⟨fw,hw,hfw⟩,hb2⟩;obtain⟨G,hG⟩:=w9nm x2.heap.size;obtain⟨y2,hy2⟩:=w9nm ((x2.alloc (an #[am none] 59)).setCell ⟨G,0,none⟩ (am (some ⟨P,0,none⟩)));have rG:aq y2 G 59 [am (some ⟨P,0,none⟩)]:=by
  rw[←hy2,←hG];exact(aq.new x2 59 [am none]).set 0 _
 have b2:ag x2.heap.size x2 y2:=by
  rw[←hy2];exact(aH x2 _).setCell (p:=⟨G,0,none⟩) (by show _<=G;omega) _
 have z2:y2.heap.size=G+1:=by rw[←hy2,lS,bO,hG]
 have K2:w9h W0 y2:=(K1.out.trans (hb2.mono K1.out.size)).trans (b2.mono (by have:=K1.out.size;have:=hb2.size;omega));have r2:=HR0.out.below K2.out;have L2:=fg (q:=⟨(qd,qdn,qdc),(qs,qsn,qsc),nx,kd,id,(qp,qpn,qpc)⟩) r2;simp only[bI,aW,aK]at L2;obtain⟨W3,hW3⟩:=w9nm (y2.alloc (an #[af qd qdn qdc,af qs qsn qsc,ab ac nx,ab ac kd,ab ac id,af qp qpn qpc] 47));have b3:ag y2.heap.size y2 W3:=by rw[←hW3];exact aH _ _
 have r3:aq W3 (G+1) 47 (aW ⟨(qd,qdn,qdc),(qs,qsn,qsc),nx,kd,id,(qp,qpn,qpc)⟩):=by rw[←hW3,←z2];exact aq.new _ _ _
 have z3:W3.heap.size=G+2:=by rw[←hW3,bO,z2]
 have K3:=w9bt K2 b3;have HWY3:Hid (eZ P SB HB' (st*wy) (gz st wy) W3 fw):=(eZ.isRes _ _ _ _ _).below ((eZ.isRes _ _ _ _ _).below hw b2) b3;have HFW:Hid (∀k,fw k->W0.heap.size<=k/\k<G):=fun k hk=>⟨bm K1.out.size (hfw k hk),by rw[←hG];exact(eZ.isRes _ _ _ _ _).lt hw k hk⟩;have HRG:Hid (aq W3 G 59 [am (some ⟨P,0,none⟩)]):=rG.below b3;have HR3:=ae r3;have HZ3:=ae z3;have HZ2:=ae z2;clear hw hfw hb2 rG b2 z2 r2 b3 r3 z3 c1 c2 ST1
 gi_wp2_with fail
 refine⟨trivial, ?_⟩;refine(PR _ _ trivial rfl ⟨(qd,qdn,qdc),(qs,qsn,qsc),nx,kd,id,(qp,qpn,qpc)⟩ _).mono ?_;rintro e w3 ⟨rfl,hw3⟩;have hw3':w3=W3:=hw3.trans hW3;rw[hw3',HZ2.out];clear hw3 hw3' hW3 hy2 L2 hG hD;have HSLT:Hid (s.d≠ []->∀b off len cap,Value.slice qd qdn qdc=af (some ⟨b,off,none⟩) len cap->b<W0.heap.size):=fun hn b off len cap e=>Sl.lt_of (HSL.out W0 (aI _ _)) hn e;have HSIZE:Hid (B<W0.heap.size/\W0.heap.size<=W3.heap.size):=⟨by rw[HZ0.out];omega,K3.out.size⟩
 gi_wp2
 refine oQ (n:=3) rfl (by omega) (gf:= 251) (lb:=#[am (some ⟨G+1,0,none⟩)]) rfl trivial (enters_of func251 (by kernel_rfl) rfl)
  (PW 2 (by omega) (G+1) (af qd qdn qdc) s.d hdl W3) (aI _ _) (fun _=>rfl)
  (fun k W=>eZ P SB HB' (st*wy) (ku M.g s.d k) W fw/\(∀j,j<W3.heap.size->¬fw j->W.heap[j]? =W3.heap[j]?)/\W3.heap.size<=W.heap.size/\ag W0.heap.size W0 W)
  (fun _ _ _=>False)
  ?hR ?hI ?hIx ⟨?h0,fun _ _ _=>rfl,aG _,K3.out⟩
  (fun k a' W=>∃p,(dX s.d)[k]? =some p/\a'={tmps:=#[am (some ⟨rb,0,none⟩),am (some ⟨mb,0,none⟩),al #[af qd qdn qdc,af qs qsn qsc,ab ac nx,ab ac kd,ab ac id,af qp qpn qpc],az,az,am (some ⟨B,0,none⟩),am none,am (some ⟨D,0,none⟩),am (some ⟨G,0,none⟩),ab ac 0,ab ac (p.2:Int),ab ac p.1,am (some ⟨mb,0,none⟩),al M.g.v,aQ #[am (some ⟨P,0,none⟩),ab ac 0],am (some ⟨D,1,none⟩),ab ac (st:Int),am (some ⟨D,2,none⟩),ab ac (wy:Int),aQ #[am (some ⟨P,0,none⟩),ab ac 0],am (some ⟨P,0,none⟩),ab ac 0,al #[af qd qdn qdc,af qs qsn qsc,ab ac nx,ab ac kd,ab ac id,af qp qpn qpc],.func (.func 251) #[] #[am (some ⟨G+1,0,none⟩)],ab ac (p.2:Int),ab ac p.1,az,az,az,az,az,az,az,az,az,az],defers:= []})
  ?hAx ?assign ?body ?done ?stop
 case h0=>
  rw[EH,HST.out,HWY.out];exact HWY3.out
 case hR=>
  rintro k W ⟨a1,a2,a3,a4⟩;have hn:¬fw (G+1):=fun h=>by have:=(HFW.out _ h).2;omega
  have r:aq W (G+1) 47 _:=(a2 (G+1) (by rw[HZ3.out];omega) hn).trans HR3.out;refine⟨r.cell 0 _ rfl,(HSL.out W3 K3.out).stay a3 fun hne b off len cap e hlt=>a2 b hlt fun h=> ?_⟩;have:=HSLT.out hne b off len cap e;have:=(HFW.out b h).1;omega
 case hI=>
  rintro k X Y row ⟨a1,a2,a3,a4⟩ hg hr;refine⟨(eZ.isRes _ _ _ _ _).grown a1 hg fun r e=>(hr r e).2,fun j h1 h2=>(hg.block j (by omega) fun e=> ?_).trans (a2 j h1 h2),bm a3 hg.size,oT a4 (by have:=a3;have:=HSIZE.out.2;omega) hg fun r e=>⟨?_,(hr r e).2⟩⟩
  ·have:=(hr j e.symm).1;omega
  ·have:=(hr r e).1;have:=HSIZE.out.2;omega
 case hIx=>exact fun _ _ _ _ _ h _ _=>h.elim
 case hAx=>
  rintro k a' _ Y Z row ⟨p,h1,h2⟩ hg hr;exact⟨p,h1,h2⟩
 case assign=>
  rintro l k W K hkm hI hK;obtain⟨p,hp⟩:∃p,(dX s.d)[k]? =some p:=⟨_,aZ hkm⟩;have hK:=hK _ W (KeepsFrom.refl _ _) hI ⟨p,hp,rfl⟩;have he:qZ s.d k=#[ab ac (p.2:Int),ab ac p.1]:=by
   unfold qZ;rw[hp]
   rfl
  rw[he];clear hI he hp hkm
  gi_wp2
  exact hK
 case body=>
  rintro l k a' W _ _ hkm ⟨a1,a2,a3,a4⟩ ⟨p,hp,rfl⟩;have hG3:¬fw G:=fun h=>by have:=(HFW.out _ h).2;omega
  have rg:aq W G 59 [am (some ⟨P,0,none⟩)]:=(a2 G (by rw[HZ3.out];omega) hG3).trans HRG.out;have cg:=rg.cell 0 _ rfl;have hok:=(xQ HGD.out s.d k).1;have hbd:=HBD.out p.1 (Ql hp);have HPT:=ae (eZ.put a1 hok (p.2:Int) p.1 true hbd);rw[←EJ hp]at HPT;have HA:=ae (And.intro a2 (And.intro a3 a4));clear a1 a2 a3 a4 hG3 rg hok hbd hp hkm
  gi_wp2_with fail
  refine⟨trivial, ?_⟩;refine(CallsIn.inRound l (callsIn_wide.2 HPT.out)).mono ?_;rintro e W' ⟨rfl,q1,q2⟩;have HQ:=ae (And.intro q1 q2);clear q1 q2
  gi_wp2
  obtain⟨q1,q2⟩:=HQ.out;obtain⟨a2,a3,a4⟩:=HA.out;refine⟨q2.others.from _,q1,fun j h1 h2=>(q2.out j (by omega) h2).trans (a2 j h1 h2),bm a3 q2.size,a4.trans (q2.below (by have:=HSIZE.out.2;omega) fun k hk=>(HFW.out k hk).1)⟩
 case done=>
  rintro D2 W hD2 ⟨a1,a2,a3,a4⟩ hK;have hB3:¬fw B:=fun h=>by have:=(HFW.out _ h).1;have:=HSIZE.out.1;omega
  have hG3:¬fw G:=fun h=>by have:=(HFW.out _ h).2;omega
  have rg:aq W G 59 [am (some ⟨P,0,none⟩)]:=(a2 G (by rw[HZ3.out];omega) hG3).trans HRG.out;have cg:=rg.cell 0 _ rfl;have LB:=fg (q:=⟨(qd,qdn,qdc),(qs,qsn,qsc),nx,kd,id,(qp,qpn,qpc)⟩) (HR0.out.below a4);simp only[bI,aW,aK]at LB;have hDlt:D2<W.heap.size:=(bL.1 hK).1;obtain⟨W5,hW5⟩:=w9nm (W.alloc (an #[am (some ⟨rb,0,none⟩),am (some ⟨mb,0,none⟩),am (some ⟨P,0,none⟩),af qd qdn qdc,af qs qsn qsc,ab ac nx,ab ac kd,ab ac id,af qp qpn qpc] 156));have b5:ag W.heap.size W W5:=by rw[←hW5];exact aH W _
  have r5:W5.heap[W.heap.size]? =some (an #[am (some ⟨rb,0,none⟩),am (some ⟨mb,0,none⟩),am (some ⟨P,0,none⟩),af qd qdn qdc,af qs qsn qsc,ab ac nx,ab ac kd,ab ac id,af qp qpn qpc] 156 (0,0)):=by rw[←hW5];exact cD W _
  have hK5:W5.heap[D2]? =some (.deferred (some [])):=(b5.block D2 hDlt).trans hK;have HK5:=ae hK5;have hg2:=grownBy_putObj' W5 D2 (.deferred none);obtain⟨WF,hWF⟩:=w9nm (W5.putObj D2 (.deferred none));rw[hWF]at hg2;have hnc:∀r,some D2=some r->∃o:Obj,W5.heap[r]? =some o/\o.isCells=false:=fun r e=>by cases e;exact⟨_,hK5,rfl⟩
  have hsame:∀k,k<w.heap.size->WF.heap[k]? =w.heap[k]? :=fun k hk=>by
   have h0:k<W0.heap.size:=bq hk HB0.out.size;have hl:k<W.heap.size:=bq h0 a4.size;rw[hg2.block k (bq hl b5.size) (fun e=>by cases e;have:=HSIZE.out.2;omega),b5.block k hl,a4.block k h0,HB0.out.block k hk]
  have hWyF:eZ P SB HB' (st*wy) (kK M.g s.d) WF fw:=(eZ.isRes _ _ _ _ _).grown ((eZ.isRes _ _ _ _ _).below a1 b5) hg2 hnc;have hC:WF.heap[W.heap.size]? =W5.heap[W.heap.size]? :=hg2.block _ (bL.1 r5).1 (fun e=>by cases e;omega);have hBF:w9b w WF:=((HB0.out.trans (a4.mono HB0.out.size)).trans (b5.mono (by have:=HB0.out.size;have:=a4.size;omega))).grown hg2 (by have:=HB0.out.size;have:=a4.size;have:=b5.size;omega) (fun k e=>by cases e;have:=HB0.out.size;have:=HSIZE.out.2;omega);have FIN:Hid (∃b:CB,(b.rb=rb/\b.p0=p0/\b.p1=p1)/\Ending.returned (am (some ⟨W.heap.size,0,none⟩))=ao b.v/\(∃f',ip b M (kK M.g s.d) s WF f'/\∀k,f' k->f k\/w.heap.size<=k)/\ag w.heap.size w WF):=by
   obtain⟨f1,f2,hM,hS,h12,hf⟩:=HH.out;have l1:=(eR.isRes _ _ _).lt hM;have l2:=(gU.isRes _ _).lt hS;have hw0:=HB0.out.size;have hsz:=HSIZE.out.2;have hz3:=HZ3.out;refine⟨⟨rb,p0,p1,mb,P,SB,HB',st*wy,W.heap.size⟩,⟨rfl,rfl,rfl⟩,rfl,⟨_,⟨f1,_,(eR.isRes _ _ _).out hM fun k hk=>hsame k (l1 k hk),⟨fw,_,hWyF,⟨⟨(qd,qdn,qdc),(qs,qsn,qsc),nx,kd,id,(qp,qpn,qpc)⟩,_,f2,⟨hC.trans r5,rfl⟩,(gU.isRes _ _).out hS fun k hk=>hsame k (l2 k hk), ?_,rfl⟩, ?_,rfl⟩, ?_,rfl⟩, ?_⟩,hBF⟩
   ·rintro k hk1 hk;have hk1:k=W.heap.size:=hk1;have:=l2 _ hk;have:=a4.size;omega
   ·rintro k hk (hk1 | hk2)
    ·have hk1:k=W.heap.size:=hk1;have:=(HFW.out _ hk).2;omega
    ·have:=(HFW.out _ hk).1;have:=l2 _ hk2;omega
   ·rintro k hk (hk2 | hk1 | hk2)
    ·have:=(HFW.out _ hk2).1;have:=l1 _ hk;omega
    ·have hk1:k=W.heap.size:=hk1;have:=l1 _ hk;have:=a4.size;omega
    ·exact h12 k hk hk2
   ·rintro k (hk | hk | hk1 | hk)
    ·left;rw[hf];exact aA hk
    ·right
     have:=(HFW.out _ hk).1;omega
    ·right
     have hk1:k=W.heap.size:=hk1;have:=a4.size;omega
    ·left;rw[hf];exact aD hk
  clear a1 a2 a3 a4 hB3 hG3 rg b5 r5 hK5 hg2 hnc hsame hWyF hC hBF hK hDlt
  gi_wp2
  refine⟨by simp,aA ⟨_,_,rfl,eU HK5.out, ?_⟩⟩;rw[hWF];refine⟨_,results_tmp rfl _ _ _, ?_⟩;exact FIN.out
 case stop=>
  rintro D2 c k W hD2 _ h _;exact h.elim
end
section
attribute [-simp] isAgg51 zeroValue51 isAgg23 zeroValue23 isAgg47 zeroValue47 isAgg156 zeroValue156
attribute [-go_sem] aE aL cS
attribute [local go_sem] kr kt hU ia bC bD en
structure Hds (cv rp:ak) (g:Geo) (w:ah):Prop where
 isp:∃r,rp=am r
 inn:g.In
 disks:∀x,ag w.heap.size w x->ap aj 87 #[cv] x fun e y=>e=ao rp/\y=x
 geom:∀x,ag w.heap.size w x->ap aj 38 #[cv] x fun e y=>e=ao (al g.v)/\ag x.heap.size x y
theorem Qo:(Geo.mk 0 0 0 0 0).In:=by unfold Geo.In;simp<;>omega
theorem Hds.nil (w:ah):Hds (am none) (am none) ⟨0,0,0,0,0⟩ w:=⟨⟨_,rfl⟩,Qo,fun x _=>PL x,fun x _=>PN x⟩
theorem Hds.of {b:CB} {M:MS} {m:WM} {s:ST} {w:ah} {f:Nat->Prop} (h:ip b M m s w f) (hg:M.g.In):Hds b.v (am (some ⟨b.rb,0,none⟩)) M.g w:=⟨⟨_,rfl⟩,hg,fun x hx=>PK (h.below hx),fun x hx=>um (h.below hx)⟩
section
variable {cv rp:ak} {g:Geo} {w:ah}
theorem EL (h:Hds cv rp g w) (dev:Int) {K:ah->Ending->ah->Prop} (hF:∀x,ag w.heap.size w x->ap aj 81 #[rp,ab ac dev] x fun e y=>∃c:Int,e=ao (ab ac c)/\K x e y):
  ap aj 34 #[cv,ab ac dev] w fun e w'=>∃x,ag w.heap.size w x/\K x e w':=by
 obtain⟨⟨r,rfl⟩,_,h1,h2⟩:=h;have H1:=ae (h1 w (aI _ _));have HF:=ae (hF w (aI _ _));clear h1 h2 hF;go_enter func34,ntmps34;go_wp2_with fail;refine H1.out.mono ?_;rintro e x ⟨rfl,rfl⟩;go_wp2_with fail;refine HF.out.mono ?_;rintro e x' ⟨c,rfl,hk⟩;have HK:=ae hk;clear hk;go_wp2_with fail;go_ret;exact⟨_,aI _ _,HK.out⟩
theorem EN (h:Hds cv rp g w) (i:Int) {v:List ak} {c:Int} (hR:∀x,ag w.heap.size w x->ap aj 72 #[rp,ab ac 0,ab ac (g.sS i)] x fun e y=>e=ao (aQ #[al v.toArray,ab ac c])/\ag x.heap.size x y) (hv:cz v):
  ap aj 50 #[cv,ab ac i] w fun e w'=>e=ao (aQ #[al v.toArray,ab ac c])/\ag w.heap.size w w':=by
 obtain⟨⟨r,rfl⟩,hi,h1,h2⟩:=h;obtain⟨W,hW⟩:=w9nm (w.alloc (an cF 51));have hB:ag w.heap.size w W:=by rw[←hW];exact aH w _
 have K:W.heap[w.heap.size]? =some (an cF 51 (0,0))/\w.heap.size<W.heap.size:=by rw[←hW];exact⟨cD w _,by simp⟩
 have SZ:Hid (∀x,ag W.heap.size W x->∃x',(aL 51 ⟨w.heap.size,0,none⟩ (al v.toArray)).run aj x=.ok () x'/\(aE 51 ⟨w.heap.size,0,none⟩).run aj x'=.ok (al v.toArray) x'/\ag w.heap.size w x'):=fun x hx=>
  nW ((hx.block _ K.2).trans K.1) gk (hB.trans (hx.mono hB.size)) hv
 have H1:=ae (h1 W hB);have H2:=ae (h2 W hB);have HR:=ae hR;have HB:=ae hB;have HI:=ae hi;clear h1 h2 hR hB K hi hv;go_enter func50,ntmps50;go_wp2_with (with_reducible (rw[hW];clear hW));refine H1.out.mono ?_;rintro e x ⟨rfl,hx⟩;obtain rfl:=hx.symm;clear hx;go_wp2_with fail;refine H2.out.mono ?_;rintro e x1 ⟨rfl,hb⟩;have K1:=ae hb;clear hb;go_wp2_with fail;refine(Ew g HI.out i x1).mono ?_;rintro e x2 ⟨rfl,hb⟩;have K2:=w9bt K1 hb;clear hb;go_wp2_with fail;refine(HR.out x2 (HB.out.trans (K2.out.mono HB.out.size))).mono ?_;rintro e x3 ⟨rfl,hb⟩;obtain⟨x4,ST,LD,hb4⟩:=SZ.out x3 (K2.out.trans (hb.mono K2.out.size));have H4:=ae hb4;clear hb hb4;go_wp2_with fail;exact bo (eH rfl rfl LD) rfl ⟨rfl,H4.out⟩
theorem Qp (h:Hds cv rp g w) (i:Int) {v:List ak} {c:Int} (hR:∀x,ag w.heap.size w x->ap aj 72 #[rp,ab ac 1,ab ac (g.sW i)] x fun e y=>e=ao (aQ #[al v.toArray,ab ac c])/\ag x.heap.size x y) (hv:cz v):
  ap aj 108 #[cv,ab ac i] w fun e w'=>e=ao (aQ #[al v.toArray,ab ac c])/\ag w.heap.size w w':=by
 obtain⟨⟨r,rfl⟩,hi,h1,h2⟩:=h;obtain⟨W,hW⟩:=w9nm (w.alloc (an cF 51));have hB:ag w.heap.size w W:=by rw[←hW];exact aH w _
 have K:W.heap[w.heap.size]? =some (an cF 51 (0,0))/\w.heap.size<W.heap.size:=by rw[←hW];exact⟨cD w _,by simp⟩
 have SZ:Hid (∀x,ag W.heap.size W x->∃x',(aL 51 ⟨w.heap.size,0,none⟩ (al v.toArray)).run aj x=.ok () x'/\(aE 51 ⟨w.heap.size,0,none⟩).run aj x'=.ok (al v.toArray) x'/\ag w.heap.size w x'):=fun x hx=>
  nW ((hx.block _ K.2).trans K.1) gk (hB.trans (hx.mono hB.size)) hv
 have H1:=ae (h1 W hB);have H2:=ae (h2 W hB);have HR:=ae hR;have HB:=ae hB;have HI:=ae hi;clear h1 h2 hR hB K hi hv;go_enter func108,ntmps108;go_wp2_with (with_reducible (rw[hW];clear hW));refine H1.out.mono ?_;rintro e x ⟨rfl,hx⟩;obtain rfl:=hx.symm;clear hx;go_wp2_with fail;refine H2.out.mono ?_;rintro e x1 ⟨rfl,hb⟩;have K1:=ae hb;clear hb;go_wp2_with fail;refine(Ex g i x1).mono ?_;rintro e x2 ⟨rfl,hb⟩;have K2:=w9bt K1 hb;clear hb;go_wp2_with fail;refine(HR.out x2 (HB.out.trans (K2.out.mono HB.out.size))).mono ?_;rintro e x3 ⟨rfl,hb⟩;obtain⟨x4,ST,LD,hb4⟩:=SZ.out x3 (K2.out.trans (hb.mono K2.out.size));have H4:=ae hb4;clear hb hb4;go_wp2_with fail;exact bo (eH rfl rfl LD) rfl ⟨rfl,H4.out⟩
theorem Qq (h:Hds cv rp g w) (i:Int) {v:List ak} {c:Int} (hR:∀x,ag w.heap.size w x->ap aj 72 #[rp,ab ac 1,ab ac (g.sA i)] x fun e y=>e=ao (aQ #[al v.toArray,ab ac c])/\ag x.heap.size x y) (hv:cz v):
  ap aj 51 #[cv,ab ac i] w fun e w'=>e=ao (aQ #[al v.toArray,ab ac c])/\ag w.heap.size w w':=by
 obtain⟨⟨r,rfl⟩,hi,h1,h2⟩:=h;obtain⟨W,hW⟩:=w9nm (w.alloc (an cF 51));have hB:ag w.heap.size w W:=by rw[←hW];exact aH w _
 have K:W.heap[w.heap.size]? =some (an cF 51 (0,0))/\w.heap.size<W.heap.size:=by rw[←hW];exact⟨cD w _,by simp⟩
 have SZ:Hid (∀x,ag W.heap.size W x->∃x',(aL 51 ⟨w.heap.size,0,none⟩ (al v.toArray)).run aj x=.ok () x'/\(aE 51 ⟨w.heap.size,0,none⟩).run aj x'=.ok (al v.toArray) x'/\ag w.heap.size w x'):=fun x hx=>
  nW ((hx.block _ K.2).trans K.1) gk (hB.trans (hx.mono hB.size)) hv
 have H1:=ae (h1 W hB);have H2:=ae (h2 W hB);have HR:=ae hR;have HB:=ae hB;have HI:=ae hi;clear h1 h2 hR hB K hi hv;go_enter func51,ntmps51;go_wp2_with (with_reducible (rw[hW];clear hW));refine H1.out.mono ?_;rintro e x ⟨rfl,hx⟩;obtain rfl:=hx.symm;clear hx;go_wp2_with fail;refine H2.out.mono ?_;rintro e x1 ⟨rfl,hb⟩;have K1:=ae hb;clear hb;go_wp2_with fail;refine(PJ g HI.out i x1).mono ?_;rintro e x2 ⟨rfl,hb⟩;have K2:=w9bt K1 hb;clear hb;go_wp2_with fail;refine(HR.out x2 (HB.out.trans (K2.out.mono HB.out.size))).mono ?_;rintro e x3 ⟨rfl,hb⟩;obtain⟨x4,ST,LD,hb4⟩:=SZ.out x3 (K2.out.trans (hb.mono K2.out.size));have H4:=ae hb4;clear hb hb4;go_wp2_with fail;exact bo (eH rfl rfl LD) rfl ⟨rfl,H4.out⟩
theorem Qr (h:Hds cv rp g w) (i:Int) {v:List ak} (hv:cz v) {K:ah->Ending->ah->Prop} (hR:∀x,ag w.heap.size w x->ap aj 63 #[rp,ab ac 0,ab ac (g.sS i),al v.toArray] x fun e y=>∃c:Int,e=ao (ab ac c)/\K x e y):
  ap aj 17 #[cv,ab ac i,al v.toArray] w fun e w'=>∃x,ag w.heap.size w x/\K x e w':=by
 have hmx:=w9x
 obtain⟨⟨r,rfl⟩,hi,h1,h2⟩:=h;obtain⟨W,hW⟩:=w9nm (w.alloc (an v.toArray 51));have hB:ag w.heap.size w W:=by rw[←hW];exact aH w _
 have r0:aq W w.heap.size 51 v:=by rw[←hW];exact aq.new w _ _
 have LV:∀z:aM W,(aE 51 ⟨w.heap.size,0,none⟩).run aj z.1=.ok (al v.toArray) z.1:=fun z=>gl (r0.below z.2).range hv.length;have H1:Hid (∀z:aM W,_):=fun z:aM W=>h1 z.1 (hB.trans (z.2.mono hB.size));have H2:Hid (∀z:aM W,_):=fun z:aM W=>h2 z.1 (hB.trans (z.2.mono hB.size));have HR:=ae hR;have HB:=ae hB;have HI:=ae hi;clear h1 h2 hR hB r0 hi hv;go_enter func17,ntmps17;go_wp2_with fail;try rw[hW]
 clear hW;refine du (fun x=>∃y:aM W,x=y.1) 7 (.takes [0,2,4,6] (.one 1 (.one 3 (.one 5 .leaf)))) hmx (by kernel_rfl) (by intro c x v a w h;cases x<;>exact h) ⟨⟨W.drew,(aI _ W).drew⟩,rfl⟩ ?_;repeat(rw[bu];simp only[aB,aC];go_big_quiet_step (fail);refine aV ?_)
 clear LV;rw[bt,aT];simp only[aB,aC];go_wp2_with fail;refine(H1.out ⟨W.drew,(aI _ W).drew⟩).mono ?_;rintro e x ⟨rfl,rfl⟩;go_wp2_with fail;refine aN ⟨⟨W.drew,(aI _ W).drew⟩,rfl⟩ ?_;rw[aT];simp only[aB,aC];go_wp2_with fail;refine(H2.out ⟨W.drew,(aI _ W).drew⟩).mono ?_;rintro e x1 ⟨rfl,hb⟩;have K1:w9h W x1:=(aI _ W).drew.trans hb;clear hb;go_wp2_with fail;refine aN ⟨⟨x1,K1.out⟩,rfl⟩ ?_;rw[aT];simp only[aB,aC];go_wp2_with fail;refine(Ew g HI.out i x1).mono ?_;rintro e x2 ⟨rfl,hb⟩;have K2:=w9bt K1 hb;clear hb;go_wp2_with fail;refine aN ⟨⟨x2,K2.out⟩,rfl⟩ ?_;rw[cW];simp only[bR,bQ];go_wp2_with fail;have hx2:w9h w x2:=HB.out.trans (K2.out.mono HB.out.size);refine(HR.out x2 hx2.out).mono ?_;rintro e x3 ⟨c,rfl,hk⟩;have HK:=ae hk;clear hk;go_wp2_with fail;go_ret;exact⟨_,hx2.out,HK.out⟩
theorem Qs (h:Hds cv rp g w) (i:Int) {v:List ak} (hv:cz v) {K:ah->Ending->ah->Prop} (hR:∀x,ag w.heap.size w x->ap aj 63 #[rp,ab ac 1,ab ac (g.sW i),al v.toArray] x fun e y=>∃c:Int,e=ao (ab ac c)/\K x e y):
  ap aj 16 #[cv,ab ac i,al v.toArray] w fun e w'=>∃x,ag w.heap.size w x/\K x e w':=by
 have hmx:=w9x
 obtain⟨⟨r,rfl⟩,hi,h1,h2⟩:=h;obtain⟨W,hW⟩:=w9nm (w.alloc (an v.toArray 51));have hB:ag w.heap.size w W:=by rw[←hW];exact aH w _
 have r0:aq W w.heap.size 51 v:=by rw[←hW];exact aq.new w _ _
 have LV:∀z:aM W,(aE 51 ⟨w.heap.size,0,none⟩).run aj z.1=.ok (al v.toArray) z.1:=fun z=>gl (r0.below z.2).range hv.length;have H1:Hid (∀z:aM W,_):=fun z:aM W=>h1 z.1 (hB.trans (z.2.mono hB.size));have H2:Hid (∀z:aM W,_):=fun z:aM W=>h2 z.1 (hB.trans (z.2.mono hB.size));have HR:=ae hR;have HB:=ae hB;have HI:=ae hi;clear h1 h2 hR hB r0 hi hv;go_enter func16,ntmps16;go_wp2_with fail;try rw[hW]
 clear hW;refine du (fun x=>∃y:aM W,x=y.1) 7 (.takes [0,2,4,6] (.one 1 (.one 3 (.one 5 .leaf)))) hmx (by kernel_rfl) (by intro c x v a w h;cases x<;>exact h) ⟨⟨W.drew,(aI _ W).drew⟩,rfl⟩ ?_;repeat(rw[bu];simp only[aB,aC];go_big_quiet_step (fail);refine aV ?_)
 clear LV;rw[bt,aT];simp only[aB,aC];go_wp2_with fail;refine(H1.out ⟨W.drew,(aI _ W).drew⟩).mono ?_;rintro e x ⟨rfl,rfl⟩;go_wp2_with fail;refine aN ⟨⟨W.drew,(aI _ W).drew⟩,rfl⟩ ?_;rw[aT];simp only[aB,aC];go_wp2_with fail;refine(H2.out ⟨W.drew,(aI _ W).drew⟩).mono ?_;rintro e x1 ⟨rfl,hb⟩;have K1:w9h W x1:=(aI _ W).drew.trans hb;clear hb;go_wp2_with fail;refine aN ⟨⟨x1,K1.out⟩,rfl⟩ ?_;rw[aT];simp only[aB,aC];go_wp2_with fail;refine(Ex g i x1).mono ?_;rintro e x2 ⟨rfl,hb⟩;have K2:=w9bt K1 hb;clear hb;go_wp2_with fail;refine aN ⟨⟨x2,K2.out⟩,rfl⟩ ?_;rw[cW];simp only[bR,bQ];go_wp2_with fail;have hx2:w9h w x2:=HB.out.trans (K2.out.mono HB.out.size);refine(HR.out x2 hx2.out).mono ?_;rintro e x3 ⟨c,rfl,hk⟩;have HK:=ae hk;clear hk;go_wp2_with fail;go_ret;exact⟨_,hx2.out,HK.out⟩
end
end
end Go.Proofs.YtbeeenembgplmaaGreat
