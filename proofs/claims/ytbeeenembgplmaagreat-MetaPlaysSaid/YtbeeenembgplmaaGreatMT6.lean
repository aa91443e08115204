/- Made shorter by a tool: what the statements rest on. -/
import Derived.Test.YtbeeenembgplmaaGreatMT5
import Derived.Deep.Cut
import Derived.Deep.CutRange
set_option maxRecDepth 100000
set_option maxHeartbeats 20000000
set_option linter.unusedVariables false
set_option linter.unusedSimpArgs false
open List renaming drop_succ_cons -> be, drop_zero -> bf, getElem?_eq_getElem -> bJ, replicate -> bK, length_cons -> cK, length_append -> cX, mem_map -> dc, range -> dm, getElem?_eq_some_iff -> dp, getElem?_map -> du, length_drop -> dx, mem_of_getElem? -> dI, mem_singleton -> dO, length_nil -> dP, mem_cons -> ec, take_of_length_le -> ey, getElem?_append_left -> eU, mem_cons_self -> eV, length_take -> fd, mem_range -> fo, map_append -> fp, getElem?_append_right -> fF, mem_cons_of_mem -> fG, length_map -> fZ, mem_of_mem_take -> gX, getElem?_drop -> kf
open Nat renaming le_refl -> aJ, lt_of_lt_of_le -> aU, le_trans -> aZ, zero_le -> bq, zero_add -> dC
open Int renaming toNat_natCast -> gO
open Array renaming getElem?_eq_some_iff -> cj, replicate -> kg
open Bool renaming and_eq_true -> fN
open Go.Lib renaming hid -> ae
open Go renaming World -> ak, Value -> am, Calls -> az, loadVar -> aE, storeVar -> aL, Addr -> aN, wpQuiet_nil -> aO, maxLen -> aS, TypeId -> aV, bodyPost_ret -> bl, heap_alloc_new -> bR, run_equalIn_agg -> cZ
open Go.Boxed renaming new -> dY
open Go.Instr renaming buildSlice -> cO, build -> cY
open Go.IntWalk renaming wrap64_in -> gj
open Go.RowKit renaming Below -> ah, intOf -> aW
open Go.RowKit.Below renaming refl -> aF
open Go.Value renaming ownBlock -> fq
open Go.World renaming cell?_of_block -> cL, size_alloc -> dy, ownsRow_nil -> ft, heap_setCells_other -> li
open Go.Ending renaming returned -> ar
open Go.IntKind renaming i64 -> af, u8 -> aq, u32 -> aD
open Go.Obj renaming cells -> ap
open Go.Value renaming int -> ab, slice -> ag, agg -> al, pointer -> ao, tuple -> aQ
open Or renaming inl -> aA, inr -> aC
open Go.Proofs.Tryz
open Go.Proofs.Tryz renaming prog -> aj
namespace Go.Proofs.YtbeeenembgplmaaGreat
open Go.RowKit Go.Shelf Go.Lib
section
attribute [-simp] isAgg51 zeroValue51 isAgg205 zeroValue205 isAgg304 zeroValue304 isAgg226 zeroValue226 isAgg207 zeroValue207 isAgg198 zeroValue198 isAgg23 zeroValue23 isAgg244 zeroValue244 isAgg213 zeroValue213
attribute [-go_sem] aE aL cZ
section
theorem yP (w:ak):(zeroValue 244).run aj w=.ok (al #[ag none 0 0,ab af 0,ab aD 0]) w:=by kernel_rfl
theorem yQ (w:ak) (rb:Nat) (a a':Option aN) (n c n' c':Nat) (gen:Int) (g:Geo) (x q wh at0 sq room:Int):
  (cY 213 #[(0,ao (some ⟨rb,0,none⟩)),(1,ag a n c),(2,ag a' n' c'),(3,al (cJ gen g x q).toArray),(4,ab af wh),(5,al #[ab af at0,ab aD sq]),(6,ab af room)]).run aj w=
   .ok (al (jo rb (ag a n c) (ag a' n' c') gen g x q wh at0 sq room).toArray) w:=by kernel_rfl
end
attribute [local go_sem] bC bD cV eM eN eO ig ek gA ie lS lT tC yP sT gB gC
theorem yR {a b:Option Sup} {j:Nat} {x:Sup} (h:newer a b=some (j,x)):(j=0/\a=some x)\/(j=1/\b=some x):=by
 unfold newer at h;cases b with
 | none=>
  cases a with
  | none=>cases h
  | some y=>left;cases h;exact⟨rfl,rfl⟩
 | some y=>
  cases a with
  | none=>right;cases h;exact⟨rfl,rfl⟩
  | some z=>
   dsimp only at h
   split at h
   ·right;cases h;exact⟨rfl,rfl⟩
   ·left;cases h;exact⟨rfl,rfl⟩
theorem qk {S:RS} (hby:S.Byt) {j:Nat} {x:Sup} (h:newer (S.supAt 0) (S.supAt 1)=some (j,x)):j<=1/\x.g.fitsR S.n0 S.n1/\(x.a:Int)<x.g.r/\SupIn x.gen x.g x.a x.q:=by
 have key:∀i,S.supAt i=some x->x.g.fitsR S.n0 S.n1/\(x.a:Int)<x.g.r/\SupIn x.gen x.g x.a x.q:=fun i hi=>by
  unfold RS.supAt at hi;split at hi
  ·rename_i hl;rcases yj S.n0 S.n1 (hby i hl).1 (hby i hl).2.1 with⟨y,h1,_,_,h4,h5⟩ | ⟨h1,_⟩
   ·rw[h1]at hi;cases hi;exact⟨h4.1,h4.2,h5⟩
   ·rw[h1]at hi;cases hi
  ·cases hi
 rcases yR h with⟨rfl,h1⟩ | ⟨rfl,h1⟩
 ·exact⟨by omega,key 0 h1⟩
 ·exact⟨aJ _,key 1 h1⟩
theorem FV {now:List (List Int)} {x:Img} (h:∀y ∈ now,y.length=48) (hx:x.body.length=48):∀y ∈ cD now x,y.length=48:=by
 intro y hy;unfold cD at hy;split at hy
 ·rcases List.mem_or_eq_of_mem_set hy with h1 | h1
  ·exact h y h1
  ·rw[h1];exact hx
 ·exact h y hy
theorem yS:∀(l:List Img) (now:List (List Int)),(∀y ∈ now,y.length=48)->(∀x ∈ l,x.body.length=48)->∀y ∈ l.foldl cD now,y.length=48
 | [],_,h,_=>h
 | x::l,now,h,hl=>yS l (cD now x) (FV h (hl x (eV ..))) (fun z hz=>hl z (fG _ hz))
theorem tF:∀(l:List (List Int)),(∀y ∈ l,y.length=48)->l.flatten.length=48*l.length
 | [],_=>rfl
 | x::l,h=>by
  rw[List.flatten_cons,cX,tF l (fun y hy=>h y (fG _ hy)),h x (eV ..),cK];omega
theorem yT {home:List (List Int)} {ts:List (List Img)} (h:∀y ∈ home,y.length=48) (hi:∀x ∈ ts.flatten,0<=x.index/\x.body.length=48):(dV home ts).flatten.length=48*home.length:=by
 rw[tF _ (by rw[pB];exact yS _ _ h (fun x hx=>(hi x hx).2)),pj]
theorem mJ {P:Program} {Q:Exit->Act->ak->Prop} {S:ak->Prop} {l:List Oper} {n i:Nat} {p:Plan} {a:Act} {w:ak}:gM P l Q S n (.take i p) a w=wpQuiet P l.toArray S (fun a'=>gM P l Q S n p a' w) [cQ l i] a:=rfl
section
theorem yU {rb p0 p1:Nat} {S:RS} {w:ak} {f:Nat->Prop} (h:aX rb p0 p1 S w f) (hr:S.Rdy) (hup:S.down=false) (hn2:2<=S.n0):
  az aj 65 #[ao (some ⟨rb,0,none⟩)] w fun e w'=>((∃M m fm,S.opn=some M/\e=ar (aQ #[ao (some ⟨m,0,none⟩),ab af 0])/\fX m rb M w' fm/\∀k,fm k->w.heap.size<=k)\/(S.opn=none/\e=ar (aQ #[ao none,ab af 11])))/\ah w.heap.size w w':=by
 have hby:=hr.bb.byt;have HNW:=ae (Fg h hby hup hn2);have hop:∀nv,newer (S.supAt 0) (S.supAt 1)=nv->S.opn=match nv with
  | none=>none
  | some (k,x)=>if∀i,i<x.g.P->eP (S.rd (x.g.H+i)) i then some {g:=x.g,b:=((dV (S.homes x.g.H x.g.P) (cC S.rd 2 x.g.C x.a x.q).1).flatten).take x.g.bts.toNat,home:=S.homes x.g.H x.g.P,gen:=x.gen,sup:=k,at0:=(cC S.rd 2 x.g.C x.a x.q).2.1,seq:=(cC S.rd 2 x.g.C x.a x.q).2.2,used:=cE (cC S.rd 2 x.g.C x.a x.q).1}else none:=fun nv e=>by
  subst e
  rfl
 have hNT:∀j x,newer (S.supAt 0) (S.supAt 1)=some (j,x)->j<=1/\x.g.fitsR S.n0 S.n1/\(x.a:Int)<x.g.r/\SupIn x.gen x.g x.a x.q:=fun j x e=>qk hby e;obtain⟨nv,hnv⟩:=w9nm (newer (S.supAt 0) (S.supAt 1));have HOP:=ae (hop nv hnv);rw[hnv]at HNW;have HNT:Hid (∀j x,nv=some (j,x)->j<=1/\x.g.fitsR S.n0 S.n1/\(x.a:Int)<x.g.r/\SupIn x.gen x.g x.a x.q):=fun j x e=>hNT j x (hnv.trans e);have HH:=ae h;have HRY:=ae hr;have HBY:=ae hby;have HUP:=ae hup;have hmx:=w9x
 clear h hr hup hn2 hby hop hNT hnv;go_enter func65,ntmps65;go_wp2_with fail;go_at_call 156;refine HNW.out.mono ?_;rintro e x1 ⟨rfl,hb⟩;cases nv with
 | none=>
  obtain⟨x2,ST2,r2,hb2⟩:=nK x1 (C:=fD) rfl (yl none);have HB2:w9h w x2:=hb.trans (hb2.mono hb.size);clear hb r2 hb2;rw[show tp none=#[al fD.toArray,ab af 0,ab af 11]from rfl];obtain⟨zc,hzc⟩:=w9nm fD.toArray;rw[hzc];rw[hzc]at ST2;go_wp2_with fail;refine bl (results_tmp2 rfl _ _ _) rfl ?_;exact⟨aC ⟨HOP.out,rfl⟩,HB2.out⟩
 | some p=>
  obtain⟨j,x⟩:=p;have HOP:Hid (S.opn=if∀i,i<x.g.P->eP (S.rd (x.g.H+i)) i then some {g:=x.g,b:=((dV (S.homes x.g.H x.g.P) (cC S.rd 2 x.g.C x.a x.q).1).flatten).take x.g.bts.toNat,home:=S.homes x.g.H x.g.P,gen:=x.gen,sup:=j,at0:=(cC S.rd 2 x.g.C x.a x.q).2.1,seq:=(cC S.rd 2 x.g.C x.a x.q).2.2,used:=cE (cC S.rd 2 x.g.C x.a x.q).1}else none):=HOP.out;obtain⟨hj,hfit,hax,hin⟩:=HNT.out j x rfl;obtain⟨hgood,hf0,hf1⟩:=hfit;obtain⟨nH,nP,nR,nB,nC⟩:=Geo.goodNums hgood;have hN:=Geo.nats hgood;have hgi:=Geo.goodIn hgood;have hHP:x.g.H+x.g.P<=S.n0:=by have:=hN.f;have:=hN.s1;unfold Geo.H;omega
  have hCn:2+x.g.C<=S.n0:=by have:=hHP;unfold Geo.H at this;omega
  have hW:=tE (rd:=S.rd) (frm:=2) (count:=x.g.C) (at0:=x.a) (seq:=x.q) (by have:=hN.c1;omega) hN.c2 (fun k h1 h2=>⟨(HBY.out k (by omega)).1,(HBY.out k (by omega)).2.1⟩);have HRP:Hid (∀Y,w9b w Y->az aj 158 #[ao (some ⟨rb,0,none⟩),ab af ((2:Nat):Int),ab af (x.g.C:Int),ab af (x.a:Int),ab aD x.q] Y fun e w'=>
   (∃v,e=ar (aQ #[al (eQ v (cC S.rd 2 x.g.C x.a x.q).2.1 (cC S.rd 2 x.g.C x.a x.q).2.2).toArray,ab af 0])/\eY 223 226 w' Y.heap.size v (cC S.rd 2 x.g.C x.a x.q).1)/\ah Y.heap.size Y w'):=fun Y hY=>
   xF.replay (HH.out.beside hY) HBY.out HUP.out (by have:=hN.c1;omega) hN.c2 hCn (by omega) HRY.out.n0 ⟨hin.seq.1,by have:=hin.seq.2;omega⟩
  have HRH:Hid (∀Y,w9b w Y->az aj 157 #[ao (some ⟨rb,0,none⟩),al x.g.v] Y fun e w'=>
   (((∀i,i<x.g.P->eP (S.rd (x.g.H+i)) i)/\∃v,e=ar (aQ #[v,ab af 0])/\w'.ownsRow Y.heap.size 205 48 v x.g.P ((S.homes x.g.H x.g.P).map an).flatten)\/((¬∀i,i<x.g.P->eP (S.rd (x.g.H+i)) i)/\e=ar (aQ #[ag none 0 0,ab af 11])))/\ah Y.heap.size Y w'):=fun Y hY=>
   Fs (HH.out.beside hY) HBY.out HUP.out hgi nH nP hHP HRY.out.n0
  have HM0:Hid (∀y ∈ S.homes x.g.H x.g.P,y.length=48):=fun y hy=>by
   unfold RS.homes at hy;obtain⟨i,hi,rfl⟩:=dc.1 hy;have hi':=fo.1 hi;have hb:=HBY.out (x.g.H+i) (by omega);exact(jg hb.1 hb.2.1).len
  have hml:(S.homes x.g.H x.g.P).length=x.g.P:=by unfold RS.homes;simp
  have HML:=ae hml;obtain⟨RP,hRP⟩:=w9nm (cC S.rd 2 x.g.C x.a x.q);rw[hRP]at HRP HOP hW;obtain⟨hm,hhm⟩:=w9nm (S.homes x.g.H x.g.P);rw[hhm]at HRH HOP HM0 HML;obtain⟨ts,ta,tq⟩:=RP;obtain⟨w1,w2,w3,w4⟩:=hW;have HW1:=ae w1;have HW2:=ae w2;have HW4:=ae w4;have hfl:=yT HM0.out w1;rw[HML.out]at hfl;have HFL:=ae hfl;have HIN:=ae hin;have HGI:=ae hgi;have HNR:=ae nR;have HNB:=ae nB;have HNT2:=ae hN;have HGD:=ae hgood;obtain⟨gr,hgr⟩:=w9nm x.g.r;have HGR:=ae hgr;rw[←nC,hgr]at HRP;clear hax hin hgood hf0 hf1 nH nP nR nB nC hN hgi hHP hCn hml hRP hhm w1 w2 hfl HNT HNW hgr;obtain⟨sc,hsc⟩:=w9nm ((cJ x.gen x.g x.a x.q).toArray);have HSC:=ae hsc;obtain⟨x2,ST2,r2,hb2⟩:=nK x1 (C:=cJ x.gen x.g x.a x.q) rfl (iZ _ _ _ _);rw[hsc]at ST2;obtain⟨B4,hB4⟩:=w9nm x1.heap.size;rw[hB4]at ST2 r2;have K2:w9h w x2:=hb.trans (hb2.mono hb.size);have hB4w:w.heap.size<=B4:=by rw[←hB4];exact hb.size
  have LG:(aE 23 ⟨B4,1,none⟩).run aj x2=.ok (al x.g.v) x2:=r2.geoAt (g:=x.g) (pre:= [ab aD x.gen]) (post:= [ab af x.a,ab aD x.q]) rfl;have R2:=ae r2;rw[show tp (some (j,x))=#[al sc,ab af (j:Int),ab af 0]from by rw[←hsc];rfl];clear hb hb2 r2 hsc;go_wp2_with fail;clear ST2 hB4 LG;go_at_call 157;refine(HRH.out x2 K2.out).mono ?_;rintro e x3 ⟨hcase,hb⟩;have K3:=w9bt K2 hb;have R3:=ae (R2.out.below hb);clear HRH;rcases hcase with⟨hok,v,rfl,hO⟩ | ⟨hno,rfl⟩
  ·have hop:S.opn=some {g:=x.g,b:=((dV hm ts).flatten).take x.g.bts.toNat,home:=hm,gen:=x.gen,sup:=j,at0:=ta,seq:=tq,used:=cE ts}:=by rw[HOP.out];exact if_pos hok
   obtain⟨gh,ch,cur,rfl,hpg,hghN,hcur⟩:=PgsR.of_owns hO HML.out (by have:=HNT2.out.p1;omega) HM0.out (by have:=HNT2.out.p2;omega);obtain⟨P,hP⟩:=w9nm x.g.P;rw[hP]at hpg;rw[hP];have HP:=ae hP;have HOPN:=ae hop;have HPG:=ae hpg;have HCU:=ae hcur;have HGH:Hid (w.heap.size<=gh):=aZ K2.out.size hghN;clear hok hO hop hpg hghN hcur hb HOP hP;have dg:∀z:aI x3,(aE 23 ⟨B4,1,none⟩).run aj z.1=.ok (al x.g.v) z.1:=fun z=>(R3.out.below z.2).geoAt (g:=x.g) (pre:= [ab aD x.gen]) (post:= [ab af x.a,ab aD x.q]) rfl;have d5:∀z:aI x3,z.1.cell? ⟨B4,5,none⟩=some (ab af gr):=fun z=>by rw[←HGR.out];exact(R3.out.below z.2).cell 5 _ rfl
   have d6:∀z:aI x3,z.1.cell? ⟨B4,6,none⟩=some (ab af (x.a:Int)):=fun z=>(R3.out.below z.2).cell 6 _ rfl;have d7:∀z:aI x3,z.1.cell? ⟨B4,7,none⟩=some (ab aD x.q):=fun z=>(R3.out.below z.2).cell 7 _ rfl;go_upto_region 9 with(fail)
   go_cut [6,8]from 30 to 47 (fun s6 s8 wx=>∃(Bt:Nat) (ra:Option aN) (cc TN:Nat),s6=ab af 0/\s8=ao (some ⟨Bt,0,none⟩)/\w9h x3 wx/\Hid (aB wx Bt 244 (eQ (ag ra ts.length cc) ta tq))/\Hid (eY 223 226 wx TN (ag ra ts.length cc) ts))
   case first=>
    refine ex (fun x=>∃y:aI x3,x=y.1) 19 (.takes [0,1,2,4,5,6,7,8,9,10,11,12] (.two 3 17 (.two 13 17 (.takes [14,15,16] (.one 17 (.one 18 .leaf))) (.one 13 (.takes [14,15,16] (.one 18 .leaf)))) (.one 3 (.one 13 (.takes [14,15,16] (.one 18 .leaf)))))) hmx (by kernel_rfl) ⟨⟨x3.drew,(aF _ x3).drew⟩,rfl⟩ ?_;repeat(rw[cP];simp only[au,ay];go_big_quiet_step (fail);refine aO ?_)
    rw[cT,qj];simp only[au,ay];clear dg d5 d6 d7;obtain⟨Y,hY⟩:=w9nm x3.drew;have BY:Hid (ah x3.heap.size x3 Y):=by show ah _ _ _;rw[←hY];exact(aF _ x3).drew
    try rw[hY]
    clear hY;refine⟨?_, ?_⟩
    ·go_wp2_with fail;go_at_call 130;refine(py x.g HGI.out Y).mono ?_;rw[HNR.out];rintro e Y' ⟨rfl,hb⟩;have BY':w9h x3 Y':=BY.out.trans (hb.mono BY.out.size);clear hb BY;obtain⟨Y,rfl⟩:∃y,y=Y':=⟨_,rfl⟩;have BY:=BY';clear BY';go_wp2_with fail;refine aG ⟨⟨Y,BY.out⟩,rfl⟩ ?_;rw[qj];simp only[au,ay];refine⟨?_, ?_⟩
     ·go_wp2_with fail;go_at_call 158;refine(HRP.out Y (K3.out.trans (BY.out.mono K3.out.size))).mono ?_;rintro e Y' ⟨⟨vt,rfl,ht⟩,hb⟩;obtain⟨ra,cc,rfl, -⟩:=ht.at
      have BY':w9h x3 Y':=BY.out.trans (hb.mono BY.out.size);have HT:=ae ht;obtain⟨lc,hlc⟩:=w9nm ((eQ (ag ra ts.length cc) ta tq).toArray);have HLC:=ae hlc;rw[hlc];clear hb BY ht hlc;obtain⟨Y,rfl⟩:∃y,y=Y':=⟨_,rfl⟩;have BY:=BY';clear BY';go_wp2_with fail;refine aG ⟨⟨Y,BY.out⟩,rfl⟩ ?_;repeat(rw[cP];simp only[au,ay];go_big_quiet_step (fail);refine aO ?_)
      rw[cT,bU];simp only[au,ay];obtain⟨Y',hY'⟩:∃y,Y.alloc (ap #[ag none 0 0,ab af 0,ab aD 0] 244)=y:=⟨_,rfl⟩;obtain⟨Bt,hBt⟩:=w9nm Y.heap.size;have RL:Hid (aB Y' Bt 244 [ag none 0 0,ab af 0,ab aD 0]):=by show aB _ _ _ _;rw[←hY',←hBt];exact aB.new Y _ _
      have hb:ah Y.heap.size Y Y':=by rw[←hY'];exact aR Y _
      have BY':w9h x3 Y':=BY.out.trans (hb.mono BY.out.size);have HBT:Hid (x3.heap.size<=Bt):=by show _<=_;rw[←hBt];exact BY.out.size
      have HT':=ae (HT.out.below hb);clear HT;have HT:=HT';clear HT';clear hb;go_wp2_with fail;clear hY' hBt BY;obtain⟨Y,rfl⟩:∃y,y=Y':=⟨_,rfl⟩;have BY:=BY';clear BY';refine aG ⟨⟨Y,BY.out⟩,rfl⟩ ?_;rw[bU];simp only[au,ay];obtain⟨Z,STL,rZ,hgZ⟩:=lN (v:=ag ra ts.length cc) (a:=ta) (q:=tq) RL.out rfl rfl;rw[HLC.out]at STL;have BZ:w9h x3 Z:=BY.out.grown hgZ BY.out.size (fun j e=>by cases e;exact HBT.out);have TZ:=ae (HT.out.grownC RL.out (by decide) (by decide) hgZ);have RZ:=ae rZ;clear hgZ rZ HT BY RL HRP;go_wp2_with fail;refine aG ⟨⟨Z,BZ.out⟩,rfl⟩ ?_;rw[dW];simp only[be,bf];go_wp2_with fail
      go_meet
      exact⟨Bt,ra,cc,_,rfl,rfl,BZ,RZ,TZ⟩
     ·obtain⟨Y',hY'⟩:∃y,Y.alloc (ap #[ag none 0 0,ab af 0,ab aD 0] 244)=y:=⟨_,rfl⟩;obtain⟨Bt,hBt⟩:=w9nm Y.heap.size;have RL:Hid (aB Y' Bt 244 [ag none 0 0,ab af 0,ab aD 0]):=by show aB _ _ _ _;rw[←hY',←hBt];exact aB.new Y _ _
      have hb:ah Y.heap.size Y Y':=by rw[←hY'];exact aR Y _
      have BY':w9h x3 Y':=BY.out.trans (hb.mono BY.out.size);have HBT:Hid (x3.heap.size<=Bt):=by show _<=_;rw[←hBt];exact BY.out.size
      clear hb;go_wp2_with fail;clear hY' hBt BY;obtain⟨Y,rfl⟩:∃y,y=Y':=⟨_,rfl⟩;have BY:=BY';clear BY';refine aG ⟨⟨Y,BY.out⟩,rfl⟩ ?_;rw[bU];simp only[au,ay];go_wp2_with fail;go_at_call 158;refine(HRP.out Y (K3.out.trans (BY.out.mono K3.out.size))).mono ?_;rintro e Y' ⟨⟨vt,rfl,ht⟩,hb⟩;obtain⟨ra,cc,rfl, -⟩:=ht.at
      have BY':w9h x3 Y':=BY.out.trans (hb.mono BY.out.size);have RL':=ae (RL.out.below hb);clear RL;have RL:=RL';clear RL';have HT:=ae ht;obtain⟨lc,hlc⟩:=w9nm ((eQ (ag ra ts.length cc) ta tq).toArray);have HLC:=ae hlc;rw[hlc];clear hb BY ht hlc;obtain⟨Y,rfl⟩:∃y,y=Y':=⟨_,rfl⟩;have BY:=BY';clear BY';go_wp2_with fail;refine aG ⟨⟨Y,BY.out⟩,rfl⟩ ?_;repeat(rw[cP];simp only[au,ay];go_big_quiet_step (fail);refine aO ?_)
      rw[cT,bU];simp only[au,ay];obtain⟨Z,STL,rZ,hgZ⟩:=lN (v:=ag ra ts.length cc) (a:=ta) (q:=tq) RL.out rfl rfl;rw[HLC.out]at STL;have BZ:w9h x3 Z:=BY.out.grown hgZ BY.out.size (fun j e=>by cases e;exact HBT.out);have TZ:=ae (HT.out.grownC RL.out (by decide) (by decide) hgZ);have RZ:=ae rZ;clear hgZ rZ HT BY RL HRP;go_wp2_with fail;refine aG ⟨⟨Z,BZ.out⟩,rfl⟩ ?_;rw[dW];simp only[be,bf];go_wp2_with fail
      go_meet
      exact⟨Bt,ra,cc,_,rfl,rfl,BZ,RZ,TZ⟩
    ·obtain⟨Y',hY'⟩:∃y,Y.alloc (ap #[ag none 0 0,ab af 0,ab aD 0] 244)=y:=⟨_,rfl⟩;obtain⟨Bt,hBt⟩:=w9nm Y.heap.size;have RL:Hid (aB Y' Bt 244 [ag none 0 0,ab af 0,ab aD 0]):=by show aB _ _ _ _;rw[←hY',←hBt];exact aB.new Y _ _
     have hb:ah Y.heap.size Y Y':=by rw[←hY'];exact aR Y _
     have BY':w9h x3 Y':=BY.out.trans (hb.mono BY.out.size);have HBT:Hid (x3.heap.size<=Bt):=by show _<=_;rw[←hBt];exact BY.out.size
     clear hb;go_wp2_with fail;clear hY' hBt BY;obtain⟨Y,rfl⟩:∃y,y=Y':=⟨_,rfl⟩;have BY:=BY';clear BY';refine aG ⟨⟨Y,BY.out⟩,rfl⟩ ?_;rw[bU];simp only[au,ay];go_wp2_with fail;go_at_call 130;refine(py x.g HGI.out Y).mono ?_;rw[HNR.out];rintro e Y' ⟨rfl,hb⟩;have BY':w9h x3 Y':=BY.out.trans (hb.mono BY.out.size);have RL':=ae (RL.out.below hb);clear RL;have RL:=RL';clear RL';clear hb BY;obtain⟨Y,rfl⟩:∃y,y=Y':=⟨_,rfl⟩;have BY:=BY';clear BY';go_wp2_with fail;refine aG ⟨⟨Y,BY.out⟩,rfl⟩ ?_;rw[bU];simp only[au,ay];go_wp2_with fail;go_at_call 158;refine(HRP.out Y (K3.out.trans (BY.out.mono K3.out.size))).mono ?_;rintro e Y' ⟨⟨vt,rfl,ht⟩,hb⟩;obtain⟨ra,cc,rfl, -⟩:=ht.at
     have BY':w9h x3 Y':=BY.out.trans (hb.mono BY.out.size);have RL':=ae (RL.out.below hb);clear RL;have RL:=RL';clear RL';have HT:=ae ht;obtain⟨lc,hlc⟩:=w9nm ((eQ (ag ra ts.length cc) ta tq).toArray);have HLC:=ae hlc;rw[hlc];clear hb BY ht hlc;obtain⟨Y,rfl⟩:∃y,y=Y':=⟨_,rfl⟩;have BY:=BY';clear BY';go_wp2_with fail;refine aG ⟨⟨Y,BY.out⟩,rfl⟩ ?_;repeat(rw[cP];simp only[au,ay];go_big_quiet_step (fail);refine aO ?_)
     rw[cT,bU];simp only[au,ay];obtain⟨Z,STL,rZ,hgZ⟩:=lN (v:=ag ra ts.length cc) (a:=ta) (q:=tq) RL.out rfl rfl;rw[HLC.out]at STL;have BZ:w9h x3 Z:=BY.out.grown hgZ BY.out.size (fun j e=>by cases e;exact HBT.out);have TZ:=ae (HT.out.grownC RL.out (by decide) (by decide) hgZ);have RZ:=ae rZ;clear hgZ rZ HT BY RL HRP;go_wp2_with fail;refine aG ⟨⟨Z,BZ.out⟩,rfl⟩ ?_;rw[dW];simp only[be,bf];go_wp2_with fail
     go_meet
     exact⟨Bt,ra,cc,_,rfl,rfl,BZ,RZ,TZ⟩
   case rest=>
    obtain⟨Bt,ra,cc,TN,rfl,rfl,BZ,RZ,TZ⟩:=hcut;clear dg d5 d6 d7 HRP;have R4:=ae (R3.out.below BZ.out);have e0:∀z:aI wc,z.1.cell? ⟨Bt,0,none⟩=some (ag ra ts.length cc):=fun z=>(RZ.out.below z.2).cell 0 _ rfl;have e1:∀z:aI wc,z.1.cell? ⟨Bt,1,none⟩=some (ab af (ta:Int)):=fun z=>(RZ.out.below z.2).cell 1 _ rfl;have e2:∀z:aI wc,z.1.cell? ⟨Bt,2,none⟩=some (ab aD tq):=fun z=>(RZ.out.below z.2).cell 2 _ rfl;have eg:∀z:aI wc,(aE 23 ⟨B4,1,none⟩).run aj z.1=.ok (al x.g.v) z.1:=fun z=>(R4.out.below z.2).geoAt (g:=x.g) (pre:= [ab aD x.gen]) (post:= [ab af x.a,ab aD x.q]) rfl;have e5:∀z:aI wc,z.1.cell? ⟨B4,5,none⟩=some (ab af gr):=fun z=>by rw[←HGR.out];exact(R4.out.below z.2).cell 5 _ rfl
    have es:∀z:aI wc,(aE 198 ⟨B4,0,none⟩).run aj z.1=.ok (al sc) z.1:=fun z=>by rw[←HSC.out];exact(R4.out.below z.2).sup
    have HZ3:w9h w wc:=K3.out.trans (BZ.out.mono K3.out.size);go_wp2_with fail;refine ex (fun x=>∃y:aI wc,x=y.1) 26 (.takes [0,1,2,3,5,6,9,10,11,12,13,14,15,16,17,18,19,20,21] (.one 4 (.one 7 (.take 8 (.one 22 (.take 23 (.take 24 (.one 25 .leaf)))))))) hmx (by kernel_rfl) ⟨⟨wc.drew,(aF _ wc).drew⟩,rfl⟩ ?_;repeat(rw[cP];simp only[au,ay];go_big_quiet_step (fail);refine aO ?_)
    rw[cT,bU];simp only[au,ay];clear e0 e1 e2 eg e5 es;obtain⟨V,hV⟩:=w9nm wc.drew;have BV:Hid (ah wc.heap.size wc V):=by show ah _ _ _;rw[←hV];exact(aF _ wc).drew
    try rw[hV]
    clear hV;have HRPL:=ae (Fq V (HPG.out.below (BZ.out.trans (BV.out.mono BZ.out.size))) (by intro e;have h1:=HML.out;have h2:=HNT2.out.p1;rw[e]at h1;simp at h1;omega) (TZ.out.below BV.out) HW1.out HW2.out (by omega));obtain⟨FL,hFL⟩:=w9nm ((dV hm ts).flatten);have HFLE:=ae hFL;have HFL:=ae HFL.out;rw[hFL]at HRPL HFL;obtain⟨fl,hfl⟩:=w9nm FL.length;have HFLN:=ae hfl;rw[hfl]at HRPL HFL;clear hFL hfl;go_wp2_with fail;go_at_call 159;refine HRPL.out.mono ?_;rintro e V1 ⟨v',rfl,hO,hb⟩;have h0fl:0<fl:=by have h1:=HFL.out;have h2:=HNT2.out.p1;omega
    obtain⟨Bb,cb,rfl,hBbN,hcb,hBbl,hrg⟩:=jm hO h0fl;have hcur:cb<=aS/\∃cur,V1.heap[Bb]? =some (ap cur 5 (0,0)):=by
     rcases hO.2 with⟨h',_⟩ | ⟨g',c',cur,e,h1,h2,h3,h4,_⟩
     ·cases h'
     ·cases e;exact⟨h4,cur,h2⟩
    have BV1:=w9bt BV hb;have HBB:Hid (V.heap.size<=Bb/\fl<=cb/\Bb<V1.heap.size/\V1.rangeAt Bb 0 (an FL)/\cb<=aS/\∃cur,V1.heap[Bb]? =some (ap cur 5 (0,0))):=⟨hBbN,hcb,hBbl,hrg,hcur.1,hcur.2⟩;clear hO hb h0fl hBbN hBbl hrg hcur HRPL;go_wp2_with fail;refine aG ⟨⟨V1,BV1.out⟩,rfl⟩ ?_;rw[bU];simp only[au,ay];go_wp2_with fail;go_at_call 127;refine(pu x.g HGI.out V1).mono ?_;obtain⟨bn,hbn⟩:=w9nm x.g.bts.toNat;have hbb:x.g.bts=(bn:Int):=by rw[←hbn];exact HNT2.out.b.symm
    rw[HNB.out,hbb];rintro e V2 ⟨rfl,hb⟩;have BV2:=w9bt BV1 hb;have HV12:w9h V1 V2:=hb;have hbf:0<bn/\bn<=fl/\bn<=714:=by
     have h1:=HFL.out;have h2:=HNT2.out.bp;have h3:=HNT2.out.p1;have h4:=HNT2.out.b2;rw[hbn]at h2 h4;exact⟨by omega,by omega,h4⟩
    have HBN:=ae hbn;have HBF:=ae hbf;have hs1:(bn:Int)<=(cb:Int):=by have:=hbf.2.1;omega
    clear hb hbn hbb hbf;go_wp2_with fail;refine aG ⟨⟨V2,BV2.out⟩,rfl⟩ ?_;rw[mJ];simp only[au,ay]
    go_big_quiet_step (fail)
    refine aO ?_;clear hs1;have hus:cE ts<=100000:=HW4.out;have hg0:0<=gr/\gr<=256:=by have h1:=HNT2.out.c;have h2:=HNT2.out.c2;have h3:=HGR.out;exact⟨by omega,by omega⟩
    obtain⟨hg1,hg2⟩:=hg0;rw[bU];simp only[au,ay];go_wp2_with fail;go_at_call 160;refine(EA _ ts V2 (TZ.out.below BV2.out) (by omega)).mono ?_;rintro e V' ⟨rfl,hv'⟩;obtain rfl:=hv'.symm;clear hv';obtain⟨us,husn⟩:=w9nm (cE ts);have HUS:=ae husn;rw[husn]at hus;rw[husn];clear husn;go_wp2_with fail;refine aG ⟨⟨V2,BV2.out⟩,rfl⟩ ?_;rw[mJ];simp only[au,ay]
    go_big_quiet_step (fail)
    refine aO ?_;rw[mJ];simp only[au,ay];refine ky _ _ rfl rfl [(0,ao (some ⟨rb,0,none⟩)),(1,ag (some ⟨Bb,0,none⟩) bn cb),(2,ag (some ⟨gh,0,none⟩) P ch),(3,al sc),(4,ab af (j:Int)),(5,al #[ab af (ta:Int),ab aD tq]),(6,ab af (gr - (us:Int)))] (al (jo rb (ag (some ⟨Bb,0,none⟩) bn cb) (ag (some ⟨gh,0,none⟩) P ch) x.gen x.g x.a x.q j ta tq (gr - (us:Int))).toArray) rfl (fun z _=>by rw[←HSC.out];exact yQ z rb _ _ _ _ _ _ _ _ _ _ _ _ _ _) ?_;refine aO ?_;rw[bU];simp only[au,ay];obtain⟨mc,hmc⟩:=w9nm ((jo rb (ag (some ⟨Bb,0,none⟩) bn cb) (ag (some ⟨gh,0,none⟩) P ch) x.gen x.g x.a x.q j ta tq (gr - (us:Int))).toArray);rw[hmc];obtain⟨F,hF⟩:=w9nm (V2.alloc (ap mc 213));obtain⟨m,hm'⟩:∃b,V2.heap.size=b:=⟨_,rfl⟩;have BF:Hid (ah V2.heap.size V2 F):=by show ah _ _ _;rw[←hF];exact aR V2 _
    have BZF:w9h wc F:=BV2.out.trans (BF.out.mono BV2.out.size);have RF:Hid (aB F m 213 (jo rb (ag (some ⟨Bb,0,none⟩) bn cb) (ag (some ⟨gh,0,none⟩) P ch) x.gen x.g x.a x.q j ta tq (gr - (us:Int)))):=by show aB _ _ _ _;rw[←hF,←hm',←hmc];exact aB.new V2 _ _
    have HMM:Hid (V2.heap.size=m):=hm';go_wp2_with fail;clear hF hm' hmc;refine aG ⟨⟨F,BZF.out⟩,rfl⟩ ?_;rw[dW];simp only[be,bf];go_wp2_with fail;refine bl (results_tmp2 rfl _ _ _) rfl ?_;have hbl:(List.take x.g.bts.toNat (dV hm ts).flatten).length=bn:=by rw[HFLE.out,HBN.out,fd,HFLN.out];have:=HBF.out.2.1;omega
    have hml:hm.length=P:=HML.out.trans HP.out;have h1:w.heap.size<=wc.heap.size:=HZ3.out.size;have h2:wc.heap.size<=V.heap.size:=BV.out.size;have h3:V1.heap.size<=V2.heap.size:=HV12.out.size;have h4:V.heap.size<=V1.heap.size:=by have:=HBB.out.1;have:=HBB.out.2.2.1;omega
    have h5:=HMM.out;have hghl:gh<x3.heap.size:=HPG.out.lt;have h6:x3.heap.size<=wc.heap.size:=BZ.out.size;have hBB:=HBB.out;have hgF:F.heap[gh]? =x3.heap[gh]? :=(BF.out.block gh (by omega)).trans ((BV2.out.block gh (by omega)).trans (BZ.out.block gh hghl));have hbF:F.heap[Bb]? =V1.heap[Bb]? :=(BF.out.block Bb (by omega)).trans (HV12.out.block Bb (by omega));refine⟨aA ⟨_,m,fun k=>k=m\/k=Bb\/k=gh,HOPN.out,rfl,⟨Bb,cb,gh,ch,x.a,x.q, ?_,rfl⟩,fun k hk=> ?_⟩,HZ3.out.trans (BZF.out.mono h1)⟩
    ·refine⟨?_,by omega,by omega,by omega,by show 0< (List.take x.g.bts.toNat (dV hm ts).flatten).length;rw[hbl];exact HBF.out.1,by show 0<hm.length;rw[hml];have h7:=HNT2.out.p1;have h8:=HP.out;omega,by show(List.take x.g.bts.toNat (dV hm ts).flatten).length<=cb/\cb<=aS;rw[hbl];exact⟨by have:=HBF.out.2.1;omega,hBB.2.2.2.2.1⟩, ?_, ?_,⟨cur,_,hgF.trans HCU.out⟩,da HPG.out.at_ hgF⟩
     ·show aB F m _ (jo rb (ag (some ⟨Bb,0,none⟩) (List.take x.g.bts.toNat (dV hm ts).flatten).length cb) (ag (some ⟨gh,0,none⟩) hm.length ch) x.gen x.g x.a x.q j ta tq (x.g.r - ((cE ts:Nat):Int)));rw[hbl,hml,HGR.out,HUS.out];exact RF.out
     ·obtain⟨cur',h⟩:=hBB.2.2.2.2.2;exact⟨cur',_,hbF.trans h⟩
     ·show F.rangeAt Bb 0 (an (List.take x.g.bts.toNat (dV hm ts).flatten));rw[HFLE.out];refine da (fun i v hi=>hBB.2.2.2.1 i v ?_) hbF;unfold an at hi ⊢;rw[List.map_take,List.getElem?_take]at hi;split at hi
      ·exact hi
      ·cases hi
    ·have h9:w.heap.size<=gh:=HGH.out;rcases hk with rfl | rfl | rfl
     ·omega
     ·omega
     ·exact h9
  ·have hop:S.opn=none:=by rw[HOP.out];exact if_neg hno
   clear hb;go_wp2_with fail;refine bl (results_tmp2 rfl _ _ _) rfl ?_;exact⟨aC ⟨hop,rfl⟩,K3.out⟩
end
theorem FW {S:RS} (hby:S.Byt) {M:MS} (h:S.opn=some M):2<=S.n0:=by
 cases hn:newer (S.supAt 0) (S.supAt 1)with
 | none=>unfold RS.opn at h;rw[hn]at h;cases h
 | some p=>
  obtain⟨j,x⟩:=p;obtain⟨_,hf,_⟩:=qk hby hn;have hN:=Geo.nats hf.1;have h1:=hN.f;have h2:=hf.2.1;have h3:=hN.s1;omega
theorem FX {rb p0 p1:Nat} {S:RS} {w:ak} {f:Nat->Prop} (h:aX rb p0 p1 S w f) (hr:S.Rdy) (hu:S.Up) {M:MS} (ho:S.opn=some M):
  az aj 65 #[ao (some ⟨rb,0,none⟩)] w fun e w'=>∃m,e=ar (aQ #[ao (some ⟨m,0,none⟩),ab af 0])/\∃f',cS (aX rb p0 p1 S) (fX m rb M) w' f'/\Turn f f' w w':=by
 refine(yU h hr hu.down (FW hr.bb.byt ho)).mono ?_;rintro e w' ⟨⟨M',m,fm,h1,rfl,h2,h3⟩ | ⟨h1,_⟩,hb⟩
 ·rw[ho]at h1;cases h1;have hlt:=(aX.isRes rb p0 p1 S).lt h;exact⟨m,rfl,fun k=>f k\/fm k,⟨f,fm,h.beside hb,h2,fun k hk hm=>by have:=hlt k hk;have:=h3 k hm;omega,rfl⟩,(Turn.of_below hb).less fun k hk=>hk.elim aA fun hm=>aC (h3 k hm)⟩
 ·rw[ho]at h1;cases h1
theorem FY {rb p0 p1:Nat} {S:RS} {w:ak} {f:Nat->Prop} (h:aX rb p0 p1 S w f) (hr:S.Rdy) (hu:S.Up) (hn:2<=S.n0) (ho:S.opn=none):
  az aj 65 #[ao (some ⟨rb,0,none⟩)] w fun e w'=>e=ar (aQ #[ao none,ab af 11])/\ah w.heap.size w w':=by
 refine(yU h hr hu.down hn).mono ?_;rintro e w' ⟨⟨M',m,fm,h1,_⟩ | ⟨_,rfl⟩,hb⟩
 ·rw[ho]at h1;cases h1
 ·exact⟨rfl,hb⟩
end
section
theorem tG (g:Geo) (b:List Int) (h:cB b=g.P):co g b= [fC 0 2,fC 2 g.C++fL g.H (aM b) (fK (aM b).length fun _=>true), [(0,an (dt 1 g 0 1).bytes)]]:=by
 unfold co;rw[D2 g b h]
 rfl
structure StepOk (S T:RS) (l:cA):Prop where
 st:S.st l=(T,0)
 fu:S.fuse<=1000000
 d:0<=S.done/\S.done<=940000
 few:S.Few 250
 lt:∀x ∈ l,x.1<S.n0
 nodup:(l.map (·.1)).Nodup
 blk:∀x ∈ l,bx x.2
 len:l.length<=1000
theorem FZ {S:RS} (hr:S.Rdy) (hu:S.Up) {g:Geo} {b:List Int} (hg:g.good) (h0:g.oF<=S.n0) (hl:b.length=g.bts.toNat) (hb:aP b):
  ∀k l,(co g b)[k]? =some l->StepOk (S.bat ((co g b).take k)).1 (S.bat ((co g b).take (k+1))).1 l:=by
 have hok:=mu hg h0 hb (S:=S);have hN:=Geo.nats hg;have hpc:cB b=g.P:=by unfold cB;rw[hl,hN.bp]
 have hL3:(co g b).length=3:=by rw[tG g b hpc];rfl
 have hlen:∀l ∈ co g b,l.length<=1000:=by
  intro l h;rw[tG g b hpc]at h;have:=hN.c2;have:=hN.p2;simp only[ec,List.not_mem_nil,or_false]at h;rcases h with rfl | rfl | rfl
  ·rw[sR];omega
  ·rw[cX,sR];have h2:(fL g.H (aM b) (fK (aM b).length fun _=>true)).length<=(aM b).length:=by unfold fL;rw[fZ];exact DX _ _
   rw[it,hpc]at h2;rw[it,hpc];omega
  ·simp
 have hE:∀k,(S.bat ((co g b).take k)).2=0:=fun k=>(RS.bat_up _ S hu fun l hl x hx=>(hok l (gX hl)).lt x hx).1;have hst:∀k l,(co g b)[k]? =some l->(S.bat ((co g b).take k)).1.st l=((S.bat ((co g b).take (k+1))).1,0):=fun k l hk=>by
  have e:(co g b).take (k+1)=(co g b).take k++ [l]:=by rw[List.take_add_one,hk];rfl
  have h1:=RS.bat_append ((co g b).take k) [l] S;rw[if_pos (hE k),←e,RS.bat_one]at h1;rw[←h1];exact Prod.ext rfl (hE (k+1))
 have key:∀k,k<=3->(S.bat ((co g b).take k)).1.n0=S.n0/\(S.bat ((co g b).take k)).1.Few (100+k)/\(0<=(S.bat ((co g b).take k)).1.done/\(S.bat ((co g b).take k)).1.done<=500000+(1001*k:Nat))/\(S.bat ((co g b).take k)).1.fuse<=1000000:=by
  intro k
  induction k with
  | zero=>intro _;exact⟨rfl,hr.few,⟨hr.d0,hr.d1⟩,hr.fu⟩
  | succ k ih=>
   intro hk;obtain⟨i1,i2,i3,i4⟩:=ih (by omega);have hget:(co g b)[k]? =some ((co g b)[k]'(by omega)):=bJ _;have hm:=dI hget;obtain⟨j1,j2,j3,j4,_⟩:=RS.Rdy.st (l:=(co g b)[k]'(by omega)) (m:=100+k) (d:=1001*k) i2 i3 i4 (by omega) (by rw[i1];exact(hok _ hm).lt) (hok _ hm).nodup;rw[hst k _ hget]at j1 j2 j3 j4;have:=hlen _ hm;refine⟨j1.trans i1,j2,⟨j3.1, ?_⟩,j4⟩;have h:(S.bat ((co g b).take (k+1))).1.done<=_:=j3.2;omega
 intro k l hk;have hkl:k<3:=by rw[←hL3];exact(dp.1 hk).1
 obtain⟨i1,i2,i3,i4⟩:=key k (by omega);have hm:=dI hk;refine⟨hst k l hk,i4,⟨i3.1,by have:=i3.2;omega⟩,i2.mono (by omega),by rw[i1];exact(hok l hm).lt,(hok l hm).nodup,fun x hx=> ?_,hlen l hm⟩;obtain⟨bs,e,_,h64⟩:=(hok l hm).bb x hx;rw[e];exact dr h64
theorem F0 {S:RS} (hu:S.Up) {g:Geo} {b:List Int} (hg:g.good) (h0:g.oF<=S.n0) (hb:aP b):(S.bat ((co g b).take 0)).1=S/\(S.bat ((co g b).take 3)).1=(S.bat (co g b)).1:=by
 refine⟨rfl, ?_⟩;rw[ey (by unfold co;simp)]
section
theorem F1 (w:ak) (a b c:Option aN) (la lb lc ca cb cc:Nat):(cO 209 3 #[(0,ag a la ca),(1,ag b lb cb),(2,ag c lc cc)]).run aj w=.ok (ag (some ⟨w.heap.size,0,none⟩) 3 3) (w.alloc (ap #[ag a la ca,ag b lb cb,ag c lc cc] 199)):=by kernel_rfl
end
theorem F2 {l:cA} (h:∀x ∈ l,bx x.2):∀x ∈ cG l,∀y ∈ x,y.oneCell'=true:=by
 intro x hx;obtain⟨y,hy,rfl⟩:=dc.1 hx;exact nA (h y hy)
theorem F3 (a b:cA):cG (a++b)=cG a++cG b:=fp
theorem yV {w w':ak} {N e size n:Nat} {v:am} {xs:List am} (h:w.ownsRow N e size v n xs) (h2:∀g,v.ownBlock=some g->w'.heap[g]? =w.heap[g]?):w'.ownsRow N e size v n xs:=by
 refine⟨h.1, ?_⟩;rcases h.2 with h' | ⟨g,cap,cur,rfl,a1,a2,a3⟩
 ·exact aA h'
 ·exact aC ⟨g,cap,cur,rfl,a1,(h2 g rfl).trans a2,a3⟩
theorem lW {w:ak} {N M e size n:Nat} {v:am} {xs:List am} (h:w.ownsRow N e size v n xs) (hM:M<=N):w.ownsRow M e size v n xs:=by
 refine⟨h.1, ?_⟩;rcases h.2 with h' | ⟨g,cap,cur,rfl,a1,a2,a3⟩
 ·exact aA h'
 ·exact aC ⟨g,cap,cur,rfl,aZ hM a1,a2,a3⟩
theorem jb {w:ak} {N e size n:Nat} {v:am} {xs:List am} (h:w.ownsRow N e size v n xs):∀g,v.ownBlock=some g->N<=g/\g<w.heap.size:=by
 intro g hg;rcases h.2 with⟨rfl,_⟩ | ⟨g',cap,cur,rfl,a1,a2,a3⟩
 ·cases hg
 ·cases hg;exact⟨a1,(cj.1 a2).1⟩
end
section
attribute [-simp] isAgg51 zeroValue51 isAgg205 zeroValue205 isAgg304 zeroValue304 isAgg226 zeroValue226 isAgg207 zeroValue207 isAgg198 zeroValue198 isAgg23 zeroValue23 isAgg244 zeroValue244 isAgg213 zeroValue213
attribute [-go_sem] aE aL cZ
attribute [local go_sem] bC bD cV eM eN eO ig ek gA ie lS lT tC yP sT gB gC
section
theorem F4 {rb p0 p1:Nat} {S:RS} {w:ak} {f:Nat->Prop} (h:aX rb p0 p1 S w f) (hr:S.Rdy) (hu:S.Up) {g:Geo} (hgi:g.In) (hg:g.good) (h0:g.oF<=S.n0) (h1:g.oW<=S.n1) {v:am} {bs:List Int} (hv:Sl aq w v bs) (hbs:aP bs) (hl:bs.length=g.bts.toNat) (ha:jw v f):
  az aj 57 #[ao (some ⟨rb,0,none⟩),al g.v,v] w fun e w'=>∃m,e=ar (aQ #[ao (some ⟨m,0,none⟩),ab af 0])/\∃f',cS (aX rb p0 p1 (S.bat (co g bs)).1) (fX m rb (MS.new g bs)) w' f'/\Turn f f' w w':=by
 have hN:=Geo.nats hg;obtain⟨nH,nP,nR,nB,nC⟩:=Geo.goodNums hg;have hpc:cB bs=g.P:=by unfold cB;rw[hl,hN.bp]
 have hP2:2<=g.P:=hN.p1;have hP15:g.P<=15:=hN.p2;have hb0:0<bs.length:=by have:=hN.bp;rw[hl];omega
 have hb7:bs.length<=714:=by rw[hl];exact hN.b2
 have HST:=ae (FZ hr hu hg h0 hl hbs);obtain⟨e0,e3⟩:=F0 hu hg h0 hbs;rw[←e3];obtain⟨T,hT⟩:∃T:Nat->RS,(fun k=>(S.bat ((co g bs).take k)).1)=T:=⟨_,rfl⟩;have hTk:∀k,(S.bat ((co g bs).take k)).1=T k:=fun k=>by rw[←hT]
 rw[hTk]at e0;rw[hTk];have HST:Hid (∀k l,(co g bs)[k]? =some l->StepOk (T k) (T (k+1)) l):=fun k l hk=>by have:=HST.out k l hk;rwa [hTk,hTk]at this
 rw[tG g bs hpc]at HST;have HT0:=ae e0;have HFI:Hid (∀Y,w9b w Y->az aj 126 #[ao (some ⟨rb,0,none⟩),al g.v] Y fun e w'=>e=ar (.bool true)/\ah Y.heap.size Y w'):=fun Y hY=>by
  have:=(h.beside hY).fits g hgi
  rwa [decide_eq_true (show g.fitsR S.n0 S.n1 from⟨hg,h0,h1⟩)]at this
 have HCT:Hid (∀x,w9b w x->az aj 128 #[v] x fun e w'=>∃gh c cur,e=ar (ag (some ⟨gh,0,none⟩) g.P c)/\PgsR w' (ag (some ⟨gh,0,none⟩) g.P c) gh (aM bs)/\x.heap.size<=gh/\w'.heap[gh]? =some (ap cur 205 (0,0))/\ah x.heap.size x w'):=fun x hx=>by
  have:=qe x (hv.below hx) hbs (by omega) (by rw[hpc];omega)
  rwa [hpc]at this
 have HCL:Hid ((aM bs).length=g.P):=by show _=_;rw[it,hpc]
 have HCK:=ae (lL hbs);have hne:bs≠ []:=by intro e;rw[e]at hb0;simp at hb0
 obtain⟨Bv,ov,cv,rfl,hvl⟩:∃Bv ov cv,v=ag (some ⟨Bv,ov,none⟩) bs.length cv/\Bv<w.heap.size:=by
  obtain⟨a',c',e,_,_,hla,_⟩:=hv;rcases hla with h0 | ⟨b',o',e',h3,_⟩
  ·exact absurd h0 hne
  ·exact⟨b',o',c',by rw[e,e'],h3⟩
 have HVF:Hid (¬f Bv/\Bv<w.heap.size):=⟨ha Bv ov bs.length cv rfl,hvl⟩;have hB:g.oB=(bs.length:Int):=by rw[nB,hl];exact hN.b.symm
 have HB:=ae hB;have HVS:=ae hv;have HH:=ae h;have HGI:=ae hgi;have HGD:=ae hg;have HNN:=ae hN;have HNH:=ae nH;have HNR:=ae nR;have HLB:=ae hl;have HB0:Hid (0<bs.length/\bs.length<=714):=⟨hb0,hb7⟩;have HSIN:Hid (SupIn 1 g 0 1):=Geo.supIn hg ⟨by omega,by omega⟩ ⟨by omega,by have:=hN.c;have:=hN.c1;omega⟩ ⟨by omega,by omega⟩;have HZ0:Hid (∀Y:ak,az aj 129 #[ab af 0,ab af 2] Y fun e w'=>∃v,e=ar v/\w'.ownsRow Y.heap.size 207 65 v (cG (fC 0 2)).length (cG (fC 0 2)).flatten/\ah Y.heap.size Y w'):=fun Y=>xM (F:=0) (n:=2) (by omega) (by omega) Y;obtain⟨gr,hgr⟩:=w9nm g.r;have HGR:=ae hgr;have HZ1:Hid (∀Y:ak,az aj 129 #[ab af ((2:Nat):Int),ab af gr] Y fun e w'=>∃v,e=ar v/\w'.ownsRow Y.heap.size 207 65 v (cG (fC 2 g.C)).length (cG (fC 2 g.C)).flatten/\ah Y.heap.size Y w'):=fun Y=>by
  have:=xM (F:=2) (n:=g.C) (by omega) (by have:=hN.c2;omega) Y
  rwa [←nC,hgr]at this
 have HSWR:Hid (∀x,az aj 133 #[ab af 0,al (cJ 1 g 0 1).toArray] x fun e w'=>e=ar (al (dS (0,an (ev 1 g 0 1).bytes)).toArray)/\ah x.heap.size x w'):=fun x=>ye 0 HSIN.out x;have hmx:=w9x
 obtain⟨P,hP⟩:=w9nm g.P;rw[hP]at HCT HCL hP2 hP15;obtain⟨n,hn⟩:=w9nm bs.length;rw[hn]at HCT HB HVS HLB HB0;have HBN:=ae hn;rw[hn];clear h hr hu hgi hg h0 h1 hv hbs hl ha hN nH nP nR nB nC hpc hb0 hb7 e0 e3 hT hTk hne hvl hB hP hn hgr;obtain⟨W1,hW1⟩:=w9nm (w.alloc (ap g.v 23));have r1:aB W1 w.heap.size 23 g.cs:=by rw[←hW1];exact aB.new w _ _
 have b1:ah w.heap.size w W1:=by rw[←hW1];exact aR w _
 obtain⟨B1,hB1⟩:=w9nm w.heap.size;have HB1:=ae hB1;rw[hB1]at r1;have R1:=ae r1;have K1:=ae b1;have L1:=cF r1;clear r1 b1;go_enter func57,ntmps57;go_wp2_with fail;clear hW1 hB1 L1;go_at_call 126;refine(HFI.out W1 K1.out).mono ?_;rintro e x1 ⟨rfl,hb⟩;have K2:=w9bt K1 hb;have R2:=ae (R1.out.below hb);have L1:=cF R2.out;clear hb R1 HFI;go_wp2_with fail;clear L1;go_at_call 127;refine(pu g HGI.out x1).mono ?_;rw[HB.out];rintro e x2 ⟨rfl,hb⟩;have K3:=w9bt K2 hb;have R3:=ae (R2.out.below hb);clear hb R2;go_wp2_with fail;go_at_call 128;refine(HCT.out x2 K3.out).mono ?_;rintro e x3 ⟨gh,ch,cur,rfl,hpg,hgh,hcur,hb⟩;have K4:=w9bt K3 hb;have R4:=ae (R3.out.below hb);have HGH:Hid (w.heap.size<=gh):=aZ K3.out.size hgh;have L1:=cF R4.out;obtain⟨x4,ST,r4,hb4⟩:=nK x3 (C:=cJ 1 g 0 1) rfl (iZ _ _ _ _);obtain⟨B9,hB9⟩:=w9nm x3.heap.size;obtain⟨sc,hsc⟩:=w9nm ((cJ 1 g 0 1).toArray);have HSC:=ae hsc;have BS:Hid ((cY 198 #[(0,ab aD 1),(1,al g.v),(2,al #[ab af 0,ab aD 1])]).run aj x3=.ok (al sc) x3):=by show _=_;rw[←hsc];exact xQ 1 g 0 1 x3
 rw[hB9,hsc]at ST;rw[hB9]at r4;rw[hsc]at HSWR;have K5:=w9bt K4 hb4;have R5:=ae (R4.out.below hb4);have R9:=ae r4;have PG:=ae (hpg.below hb4);have HCU:Hid (x4.heap[gh]? =some (ap cur 205 (0,0))):=(hb4.block _ hpg.lt).trans hcur;have HB9:Hid (w.heap.size<=B9):=by show _<=_;rw[←hB9];exact K4.out.size
 clear hb hpg hgh hcur hb4 r4 R3 R4 HCT hsc;go_wp2_with (first | ((with_reducible refine gU 198 ?_);refine fJ _ _ rfl rfl [(0,ab aD 1),(1,al g.v),(2,al #[ab af 0,ab aD 1])] _ rfl BS.out ?_));clear ST L1 hB9 BS;have eg:∀z:aI x4,(aE 23 ⟨B1,0,none⟩).run aj z.1=.ok (al g.v) z.1:=fun z=>cF (R5.out.below z.2);have e4:∀z:aI x4,z.1.cell? ⟨B1,4,none⟩=some (ab af gr):=fun z=>by rw[←HGR.out];exact(R5.out.below z.2).cell 4 _ rfl
 have es:∀z:aI x4,(aE 198 ⟨B9,0,none⟩).run aj z.1=.ok (al sc) z.1:=fun z=>by rw[←HSC.out];exact(R9.out.below z.2).sup
 refine ex (fun x=>∃y:aI x4,x=y.1) 17 (.takes [1,3,4,6,7,11,16] (.one 0 (.one 2 (.one 5 (.one 8 (.one 9 (.one 10 (.one 12 (.one 13 (.one 14 (.take 15 .leaf))))))))))) hmx (by kernel_rfl) ⟨⟨x4.drew,(aF _ x4).drew⟩,rfl⟩ ?_;repeat(rw[cP];simp only[au,ay];go_big_quiet_step (fail);refine aO ?_)
 rw[cT,bU];simp only[au];clear eg e4 es;obtain⟨V0,hV0⟩:=w9nm x4.drew;have BV0:Hid (ah x4.heap.size x4 V0):=by show ah _ _ _;rw[←hV0];exact(aF _ x4).drew
 try rw[hV0]
 clear hV0;go_wp2_with fail;go_at_call 129;refine(HZ0.out V0).mono ?_;rintro e V1 ⟨v0,rfl,hO0,hb⟩;have BV1:=w9bt BV0 hb;have O0:=ae (lW hO0 BV0.out.size);clear hO0 hb;go_wp2_with fail;refine aG ⟨⟨V1,BV1.out⟩,rfl⟩ ?_;rw[bU];simp only[au,ay];go_wp2_with fail;go_at_call 130;refine(py g HGI.out V1).mono ?_;rw[HNR.out];rintro e V2 ⟨rfl,hb⟩;have BV2:=w9bt BV1 hb;have O0':=ae (eK O0.out hb);clear hb O0;go_wp2_with fail;refine aG ⟨⟨V2,BV2.out⟩,rfl⟩ ?_;rw[bU];simp only[au,ay];go_wp2_with fail;go_at_call 129;refine(HZ1.out V2).mono ?_;rintro e V3 ⟨v1,rfl,hO1,hb⟩;have BV3:=w9bt BV2 hb;have O0:=ae (eK O0'.out hb);have HV23:Hid (V2.heap.size<=V3.heap.size):=hb.size;have HN0:Hid (∀b,v0.ownBlock=some b->b<V2.heap.size):=fun b e=>(jb O0'.out b e).2;have O1:=ae hO1;clear hb O0' hO1;go_wp2_with fail;refine aG ⟨⟨V3,BV3.out⟩,rfl⟩ ?_;rw[bU];simp only[au,ay];go_wp2_with fail;go_at_call 132;refine(EY _ _ _ V3).mono ?_;rintro e V4 ⟨rfl,hV4⟩;have hb:ah V3.heap.size V3 V4:=by rw[hV4];exact aR V3 _
 have HV24:Hid (V2.heap.size<=V4.heap.size):=aZ HV23.out hb.size;have BV4:=w9bt BV3 hb;obtain⟨Bs,hBs⟩:=w9nm V3.heap.size;have hPB:PgsB V4 Bs gh (aM bs):=by
  refine⟨⟨ag (some ⟨gh,0,none⟩) P ch, ?_,PG.out.below BV4.out⟩, ?_⟩
  ·rw[hV4,←hBs];exact dY V3 _ _
  ·rw[hV4,←hBs,dy];omega
 have HHW:=ae (yp (H:=g.H) HGI.out HNH.out (by have:=HNN.out.c2;unfold Geo.H;omega) HCL.out (by omega) HCK.out (fun _=>true) 215 #[ao (some ⟨Bs,0,none⟩)]
  (enters_of func215 (by kernel_rfl) rfl) (fun k=>k=Bs\/k=gh) V4 (by rintro k (rfl | rfl);exact hPB.lt;exact(PG.out.below BV4.out).lt) (E6 2 (by omega) Bs gh P (aM bs) HCL.out V4 hPB))
 rw[←HCL.out]at HHW;have O0':=ae (eK O0.out hb);have O1':=ae (eK O1.out hb);rw[hBs];clear hb O0 O1 hV4 hBs hPB;go_wp2_with fail;refine aG ⟨⟨V4,BV4.out⟩,rfl⟩ ?_;rw[bU];simp only[au,ay];go_wp2_with fail;go_at_call 131;refine HHW.out.mono ?_;rintro e V5 ⟨v2,rfl,hO2,hb⟩;have HV25:Hid (V2.heap.size<=V5.heap.size):=aZ HV24.out hb.size;have BV5:=w9bt BV4 hb;have O0:=ae (eK O0'.out hb);have O1:=ae (eK O1'.out hb);have O2:=ae hO2;clear hb O0' O1' HHW hO2;go_wp2_with fail;refine aG ⟨⟨V5,BV5.out⟩,rfl⟩ ?_;rw[bU];simp only[au,ay];have hN1:=jb O1.out;obtain⟨v3,V6,ra,o3,g6, -⟩:=D7 V2.heap.size V5 v1 v2 _ _ O1.out (lW O2.out (bq _)) (F2 fun x hx=>(HST.out 1 _ rfl).blk x (List.mem_append_right _ hx)) (by
  have h1:=(HST.out 1 _ rfl).len;rw[cX]at h1;have e1:(cG (fC 2 g.C)).length=(fC 2 g.C).length:=by simp[cG]
  have e2:(cG (fL g.H (aM bs) (fK (aM bs).length fun _=>true))).length=(fL g.H (aM bs) (fK (aM bs).length fun _=>true)).length:=by simp[cG]
  rw[e1,e2];omega) HV25.out
 have RA6:=ae ra;have hne:v0.ownBlock=none\/v0.ownBlock≠v1.ownBlock:=by
  cases e:v0.ownBlock with
  | none=>exact aA rfl
  | some b=>exact aC fun e2=>by have h1:=HN0.out b e;have h2:=(hN1 b e2.symm).1;omega
 have O6:=ae (O0.out.kept g6 hne);have BV6:w9h x4 V6:=BV5.out.grown g6 BV5.out.size (fun j e=>aZ BV2.out.size (hN1 j e).1);have O3:Hid (V6.ownsRow x4.heap.size 207 65 v3 (cG (fC 2 g.C++fL g.H (aM bs) (fK (aM bs).length fun _=>true))).length (cG (fC 2 g.C++fL g.H (aM bs) (fK (aM bs).length fun _=>true))).flatten):=by
  rw[F3];exact lW o3 BV2.out.size
 clear hN1 ra o3 g6 hne O0 O1 O2 HN0;go_wp2_with ((at_builtin;refine wpList_append_run (.tmp 34) (.tmp 38) 199 rfl rfl _ _ _ rfl rfl RA6.out ?_));refine aG ⟨⟨V6,BV6.out⟩,rfl⟩ ?_;clear RA6;rw[bU];simp only[au,ay];go_wp2_with fail;go_at_call 133;refine(HSWR.out V6).mono ?_;rintro e V7 ⟨rfl,hb⟩;have BV7:=w9bt BV6 hb;have O0:=ae (eK O6.out hb);have O1:=ae (eK O3.out hb);have hbk:bx (an (ev 1 g 0 1).bytes):=dr (Sct.bytes_length (tk HSIN.out.gen _ _ _));have hwl:=kT (x:=(0,an (ev 1 g 0 1).bytes)) hbk.length;have hl2: [dS (0,an (ev 1 g 0 1).bytes)]=cG [(0,an (dt 1 g 0 1).bytes)]:=by rw[show dt 1 g 0 1=ev 1 g 0 1 from(pM 1 g 0 1).symm];rfl
 obtain⟨wc,hwc⟩:=w9nm (dS (0,an (ev 1 g 0 1).bytes));rw[hwc]at hwl hl2;rw[hwc];obtain⟨V8,hx8⟩:=w9nm (V7.alloc (ap wc.toArray 207));have SB:(cO 199 1 #[(0,al wc.toArray)]).run aj V7=.ok (ag (some ⟨V7.heap.size,0,none⟩) 1 1) V8:=by rw[←hx8];exact pE V7 _ hwl
 have b8:ah V7.heap.size V7 V8:=by rw[←hx8];exact aR V7 _
 have BV8:=w9bt BV7 b8;have hO8:V8.ownsRow V7.heap.size 207 65 (ag (some ⟨V7.heap.size,0,none⟩) 1 1) (cG [(0,an (dt 1 g 0 1).bytes)]).length (cG [(0,an (dt 1 g 0 1).bytes)]).flatten:=by
  rw[←hl2];refine⟨by simp[hwl],aC ⟨V7.heap.size,1,wc.toArray,rfl,aJ _,by rw[←hx8];exact bR V7 _,by simp,by unfold aS;omega,by simp[hwl], ?_⟩⟩;simp;exact ey (by omega)
 have O2:=ae (lW hO8 BV7.out.size);have O0':=ae (eK O0.out b8);have O1':=ae (eK O1.out b8);obtain⟨Bq,hBq⟩:=w9nm V7.heap.size;rw[hBq]at SB O2;clear hb hbk hwl hwc hx8 b8 hO8 O0 O1 O6 O3 hl2 hBq;go_wp2_with fail;refine aG ⟨⟨V7,BV7.out⟩,rfl⟩ ?_;rw[bU];simp only[au,ay];refine dq _ _ _ rfl rfl [(0,al wc.toArray)] _ rfl SB ?_;clear SB;go_wp2_with fail;refine aG ⟨⟨V8,BV8.out⟩,rfl⟩ ?_;rw[bU];simp only[au,ay];obtain⟨l0,hl0⟩:=w9nm (fC 0 2);obtain⟨l1,hl1⟩:=w9nm (fC 2 g.C++fL g.H (aM bs) (fK (aM bs).length fun _=>true));obtain⟨l2,hl2⟩:∃l:cA, [(0,an (dt 1 g 0 1).bytes)]=l:=⟨_,rfl⟩;have hl2n:l2.length=1:=by rw[←hl2];rfl
 rw[hl0,hl1,hl2]at HST;rw[hl0]at O0';rw[hl1]at O1';rw[hl2]at O2;clear hl0 hl1 hl2 HZ0 HZ1 HSWR;have eW:∀l:cA,(cG l).length=l.length:=fun l=>by simp[cG]
 rw[eW]at O0' O1' O2;obtain⟨a0,c0,rfl, -⟩:=fR O0'.out;obtain⟨a1,c1,rfl, -⟩:=fR O1'.out;rw[hl2n]at O2;obtain⟨V9,hV9⟩:=w9nm (V8.alloc (ap #[ag a0 l0.length c0,ag a1 l1.length c1,ag (some ⟨Bq,0,none⟩) 1 1] 199));have SB:(cO 209 3 #[(0,ag a0 l0.length c0),(1,ag a1 l1.length c1),(2,ag (some ⟨Bq,0,none⟩) 1 1)]).run aj V8=.ok (ag (some ⟨V8.heap.size,0,none⟩) 3 3) V9:=by rw[←hV9];exact F1 V8 _ _ _ _ _ _ _ _ _
 have b9:ah V8.heap.size V8 V9:=by rw[←hV9];exact aR V8 _
 have BV9:=w9bt BV8 b9;obtain⟨L,hL⟩:=w9nm V8.heap.size;have hLr:aB V9 L 199 [ag a0 l0.length c0,ag a1 l1.length c1,ag (some ⟨Bq,0,none⟩) 1 1]:=by rw[←hV9,←hL];exact aB.new V8 _ _
 have HLr:=ae hLr;have HLW:Hid (w.heap.size<=L):=by show _<=_;rw[←hL];exact aZ K5.out.size BV8.out.size
 have HLST:Hid (∀k l, [l0,l1,l2][k]? =some l->∃a c,V9.cell? ⟨L,k,none⟩=some (ag a l.length c)/\V9.ownsRow w.heap.size 207 65 (ag a l.length c) l.length (cG l).flatten):=fun k l hk=>by
  match k,hk with
  | 0,hk=>cases hk;exact⟨a0,c0,HLr.out.cell 0 _ rfl,lW (eK O0'.out b9) K5.out.size⟩
  | 1,hk=>cases hk;exact⟨a1,c1,HLr.out.cell 1 _ rfl,lW (eK O1'.out b9) K5.out.size⟩
  | 2,hk=>cases hk;exact⟨_,1,by rw[hl2n];exact HLr.out.cell 2 _ rfl,by rw[hl2n];exact lW (eK O2.out b9) K5.out.size⟩
  | k+3,hk=>simp at hk
 rw[hL]at SB;clear hV9 b9 hL hLr O0' O1' O2 hl2n eW;refine dq _ _ _ rfl rfl [(0,ag a0 l0.length c0),(1,ag a1 l1.length c1),(2,ag (some ⟨Bq,0,none⟩) 1 1)] _ rfl SB ?_;clear SB;go_wp2_with fail;refine aG ⟨⟨V9,BV9.out⟩,rfl⟩ ?_;rw[mJ];simp only[au,ay]
 go_big_quiet_step (fail)
 refine aO ?_;rw[dW];simp only[be,bf];have KW:w9h w V9:=K5.out.trans (BV9.out.mono K5.out.size);have HFL:Hid (∀k,f k->k<w.heap.size):=fun k hk=>(aX.isRes rb p0 p1 S).lt HH.out k hk;have H0:Hid (aX rb p0 p1 (T 0) V9 f):=by show aX _ _ _ _ _ _;rw[HT0.out];exact HH.out.beside KW.out
 go_wp2_with fail;go_loopw [45] (fun i wr=>∃(k:Nat) (fk:Nat->Prop),k<=3/\i=ab af (k:Int)/\Hid (aX rb p0 p1 (T k) wr fk)/\Hid (Turn f fk V9 wr)) (fun i _=>3 - (aW i).toNat)
 case atStart=>exact⟨0,f,bq _,rfl,H0,Turn.refl _ _⟩
 case round=>
  obtain⟨k,fk,hk,rfl,HQ,HTU⟩:=hrel;by_cases hlt:k<3
  ·have g3:decide ((k:Int)<3)=true:=by simp;omega
   obtain⟨l,hlk⟩:∃l, [l0,l1,l2][k]? =some l:=⟨_,bJ (by simpa using hlt)⟩;obtain⟨a,c,hc,hO⟩:=HLST.out k l hlk;have hst:=HST.out k l hlk;have hLn:¬f L:=fun h=>by have h1:=HFL.out L h;have h2:=HLW.out;omega
   have hcw:wr.cell? ⟨L,k,none⟩=some (ag a l.length c):=(cL (a:=⟨L,k,none⟩) (HTU.out.out L HLr.out.lt hLn)).trans hc;have hOw:wr.ownsRow w.heap.size 207 65 (ag a l.length c) l.length (cG l).flatten:=yV hO fun b e=>HTU.out.out b (jb hO b e).2 (fun h=>by have h1:=HFL.out b h;have h2:=(jb hO b e).1;omega);have hOf:∀b,(Value.slice a l.length c).ownBlock=some b->¬fk b:=fun b e h=>by
    have h2:=jb hO b e;rcases HTU.out.new b h with h1 | h1
    ·have:=HFL.out b h1;omega
    ·omega
   have HS:=ae (sU HQ.out (by have:=hst.fu;omega) ⟨hst.d.1,by have:=hst.d.2;omega⟩ hst.few (by omega) hst.lt hst.nodup hst.blk hst.len (v:=ag a l.length c) (N:=w.heap.size) (by rw[show(cG l).length=l.length by simp[cG]];exact hOw) hOf);rw[hst.st]at HS;clear hlk hc hO hst hLn hOw hOf;go_wp2_with fail;go_at_call 134;refine HS.out.mono ?_;rintro e y1 ⟨rfl,f1,hq,ht⟩;have Q1:=ae hq;have T1:=ae (HTU.out.trans ht);clear hq ht HS hcw;go_wp2_with fail;go_roundw
   case rel=>exact⟨k+1,f1,hlt,by go_num,Q1,T1⟩
   case measure=>simp[aW];omega
  ·have g3:decide ((k:Int)<3)=false:=by simp;omega
   obtain rfl:k=3:=by omega
   clear hk hlt;go_wp2_with fail;have HTW:Hid (Turn f fk w wr):=(Turn.of_below KW.out).trans HTU.out;have hkp:∀b,w.heap.size<=b->b<V9.heap.size->wr.heap[b]? =V9.heap[b]? :=fun b hb1 hb2=>HTU.out.out b hb2 (fun h=>by have:=HFL.out b h;omega);have hsz9:x4.heap.size<=V9.heap.size:=BV9.out.size;have hg1:aB wr B1 23 g.cs:=(hkp B1 (by rw[HB1.out];exact aJ _) (aU R5.out.lt hsz9)).trans (R5.out.below BV9.out);have hg9:aB wr B9 198 (cJ 1 g 0 1):=(hkp B9 HB9.out (aU R9.out.lt hsz9)).trans (R9.out.below BV9.out);have hghl:gh<x4.heap.size:=PG.out.lt;have hgh9:wr.heap[gh]? =x4.heap[gh]? :=(hkp gh HGH.out (by omega)).trans (BV9.out.block gh hghl);have hsl:Sl aq wr (ag (some ⟨Bv,ov,none⟩) n cv) bs:=HVS.out.same HTW.out.size (fun b e=>by cases e;exact HTW.out.out Bv HVF.out.2 HVF.out.1);have eb:∀z:aI wr,z.1.cell? ⟨B1,4,none⟩=some (ab af gr):=fun z=>by rw[←HGR.out];exact(hg1.below z.2).cell 4 _ rfl
   have es:∀z:aI wr,(aE 198 ⟨B9,0,none⟩).run aj z.1=.ok (al sc) z.1:=fun z=>by rw[←HSC.out];exact(hg9.below z.2).sup
   have ep:∀z:aI wr,(aE 196 ⟨B9,6,none⟩).run aj z.1=.ok (al #[ab af 0,ab aD 1]) z.1:=fun z=>yC fun j v hj=>by
    match j,hj with
    | 0,hj=>simp at hj;rw[←hj];exact(hg9.below z.2).cell 6 _ rfl
    | 1,hj=>simp at hj;rw[←hj];exact(hg9.below z.2).cell 7 _ rfl
    | j+2,hj=>simp at hj
   have ec6:∀z:aI wr,z.1.cell? ⟨B9,6,none⟩=some (ab af 0):=fun z=>(hg9.below z.2).cell 6 _ rfl;have ec7:∀z:aI wr,z.1.cell? ⟨B9,7,none⟩=some (ab aD 1):=fun z=>(hg9.below z.2).cell 7 _ rfl;have HGHF:=ae hgh9;have HGHL:=ae hghl;have HSZ9:=ae hsz9;have HSL:=ae hsl;clear hkp hsz9 hg1 hg9 hghl hgh9 hsl HLST HST;go_wp2_with fail;refine ex (fun x=>∃y:aI wr,x=y.1) 11 (.takes [0,1,3,4,5,6,7,8] (.one 2 (.take 9 (.one 10 .leaf)))) hmx (by kernel_rfl) ⟨⟨wr.drew,(aF _ wr).drew⟩,rfl⟩ ?_;repeat(rw[cP];simp only[au,ay];go_big_quiet_step (fail);refine aO ?_)
   rw[cT,bU];simp only[au,ay];clear eb es ep ec6 ec7;obtain⟨V,hV⟩:=w9nm wr.drew;have BV:Hid (ah wr.heap.size wr V):=by show ah _ _ _;rw[←hV];exact(aF _ wr).drew
   try rw[hV]
   clear hV;have hbn0:=HB0.out;have HCL2:=ae (tr V (HSL.out.below BV.out) (by intro e;have h1:=HBN.out;rw[e]at h1;simp at h1;omega) (by have:=HBN.out;omega));clear hbn0;go_wp2_with fail;go_at_call 135;refine HCL2.out.mono ?_;rintro e V' ⟨v',rfl,hO,hb⟩;obtain⟨Bc,cc,rfl,hBcN,hcc,hBcl,hrg⟩:=jm hO (by rw[HBN.out];exact HB0.out.1);have hcur:cc<=aS/\∃cur,V'.heap[Bc]? =some (ap cur 5 (0,0)):=by
    rcases hO.2 with⟨h',_⟩ | ⟨g',c',cur,e,h1,h2,h3,h4,_⟩
    ·cases h'
    ·cases e;exact⟨h4,cur,h2⟩
   have BV':w9h wr V':=BV.out.trans (hb.mono BV.out.size);have HBB:Hid (wr.heap.size<=Bc/\bs.length<=cc/\Bc<V'.heap.size/\V'.rangeAt Bc 0 (an bs)/\cc<=aS/\∃cur,V'.heap[Bc]? =some (ap cur 5 (0,0))):=⟨aZ BV.out.size hBcN,hcc,hBcl,hrg,hcur.1,hcur.2⟩;rw[HBN.out];clear hO hb hBcN hcc hBcl hrg hcur HCL2;go_wp2_with fail;refine aG ⟨⟨V',BV'.out⟩,rfl⟩ ?_;rw[mJ];simp only[au,ay];refine ky _ _ rfl rfl [(0,ao (some ⟨rb,0,none⟩)),(1,ag (some ⟨Bc,0,none⟩) n cc),(2,ag (some ⟨gh,0,none⟩) P ch),(3,al sc),(4,ab af 0),(5,al #[ab af 0,ab aD 1]),(6,ab af gr)] (al (jo rb (ag (some ⟨Bc,0,none⟩) n cc) (ag (some ⟨gh,0,none⟩) P ch) 1 g 0 1 0 0 1 gr).toArray) rfl (fun z _=>by rw[←HSC.out];exact yQ z rb _ _ _ _ _ _ _ _ _ _ _ _ _ _) ?_;refine aO ?_;rw[bU];simp only[au,ay];obtain⟨mc,hmc⟩:=w9nm ((jo rb (ag (some ⟨Bc,0,none⟩) n cc) (ag (some ⟨gh,0,none⟩) P ch) 1 g 0 1 0 0 1 gr).toArray);rw[hmc];obtain⟨F,hF⟩:=w9nm (V'.alloc (ap mc 213));obtain⟨m,hm'⟩:∃b,V'.heap.size=b:=⟨_,rfl⟩;have BF:Hid (ah V'.heap.size V' F):=by show ah _ _ _;rw[←hF];exact aR V' _
   have BZF:w9h wr F:=BV'.out.trans (BF.out.mono BV'.out.size);have RF:Hid (aB F m 213 (jo rb (ag (some ⟨Bc,0,none⟩) n cc) (ag (some ⟨gh,0,none⟩) P ch) 1 g 0 1 0 0 1 gr)):=by show aB _ _ _ _;rw[←hF,←hm',←hmc];exact aB.new V' _ _
   have HMM:Hid (V'.heap.size=m):=hm';go_wp2_with fail;clear hF hm' hmc;refine aG ⟨⟨F,BZF.out⟩,rfl⟩ ?_;rw[dW];simp only[be,bf];go_wp2_with fail;refine bl (results_tmp2 rfl _ _ _) rfl ?_;have h1:=HTW.out.size;have h2:=BV'.out.size;have h5:=HMM.out;have hBB:=HBB.out;have hghl:=HGHL.out;have h9:=HSZ9.out;have hgw:w.heap.size<=gh:=HGH.out;have h10:=HTU.out.size;have hgF:F.heap[gh]? =x4.heap[gh]? :=(BZF.out.block gh (by omega)).trans HGHF.out;have hbF:F.heap[Bc]? =V'.heap[Bc]? :=BF.out.block Bc (by omega);have hlt:=(aX.isRes rb p0 p1 (T 3)).lt HQ.out;have hgn:¬fk gh:=fun h=>by
    rcases HTU.out.new gh h with h3 | h3
    ·have:=HFL.out gh h3;omega
    ·omega
   refine⟨m,rfl,fun k=>fk k\/(k=m\/k=Bc\/k=gh),⟨fk,_,HQ.out.beside BZF.out,⟨Bc,cc,gh,ch,0,1, ?_,rfl⟩,fun k hk hm=> ?_,rfl⟩,(HTW.out.trans (Turn.of_below BZF.out)).less fun k hk=> ?_⟩
   ·refine⟨?_,by omega,by omega,by omega,by show 0<bs.length;rw[HBN.out];exact HB0.out.1,by show 0< (aM bs).length;rw[HCL.out];omega,⟨hBB.2.1,hBB.2.2.2.2.1⟩, ?_,da hBB.2.2.2.1 hbF,⟨cur,_,hgF.trans HCU.out⟩,da PG.out.at_ hgF⟩
    ·show aB F m _ (jo rb (ag (some ⟨Bc,0,none⟩) bs.length cc) (ag (some ⟨gh,0,none⟩) (aM bs).length ch) 1 g 0 1 ((0:Nat):Int) ((0:Nat):Int) 1 (g.r - ((0:Nat):Int)));rw[HBN.out,HCL.out,HGR.out,show gr - ((0:Nat):Int)=gr by omega];exact RF.out
    ·obtain⟨cur',h⟩:=hBB.2.2.2.2.2;exact⟨cur',_,hbF.trans h⟩
   ·have h3:=hlt k hk;rcases hm with rfl | rfl | rfl
    ·omega
    ·omega
    ·exact hgn hk
   ·rcases hk with h | rfl | rfl | rfl
    ·exact aA h
    ·right;omega
    ·right;omega
    ·right;exact hgw
end
end
section
attribute [-simp] isAgg51 zeroValue51 isAgg205 zeroValue205 isAgg304 zeroValue304 isAgg226 zeroValue226 isAgg207 zeroValue207 isAgg198 zeroValue198 isAgg23 zeroValue23
attribute [-go_sem] aE aL cZ
attribute [local go_sem] bC bD cV eM eN eO ig ek gA ie lS lT gB gC
section
theorem F5 {rb p0 p1:Nat} {S:RS} {w:ak} {f:Nat->Prop} (h:aX rb p0 p1 S w f) (hr:S.Rdy) {g:Geo} (hgi:g.In) {v:am} {bs:List Int} (hv:Sl aq w v bs) (hno:¬(g.good/\g.oF<=S.n0/\g.oW<=S.n1/\bs.length=g.bts.toNat)):
  az aj 57 #[ao (some ⟨rb,0,none⟩),al g.v,v] w fun e w'=>e=ar (aQ #[ao none,ab af 1])/\ah w.heap.size w w':=by
 obtain⟨av,c',rfl,_⟩:=hv;obtain⟨W1,hW1⟩:=w9nm (w.alloc (ap g.v 23));have r1:aB W1 w.heap.size 23 g.cs:=by rw[←hW1];exact aB.new w _ _
 have b1:ah w.heap.size w W1:=by rw[←hW1];exact aR w _
 have HFI:=ae ((h.beside b1).fits g hgi);obtain⟨B1,hB1⟩:=w9nm w.heap.size;rw[hB1]at r1;have R1:=ae r1;have K1:=ae b1;have L1:=cF r1;have HGI:=ae hgi;by_cases hf:g.fitsR S.n0 S.n1
 ·rw[decide_eq_true hf]at HFI;have hN:=Geo.nats hf.1;have hB:Hid (g.oB=g.bts):=(Geo.goodNums hf.1).2.2.2.1;have hbl:bs.length≠g.bts.toNat:=fun e=>hno ⟨hf.1,hf.2.1,hf.2.2,e⟩;have g1:((bs.length:Int) != g.bts)=true:=by
   have:=hN.b;simp only[bne_iff_ne,ne_eq];omega
  clear h hr hgi hno hf hN hbl r1 b1;go_enter func57,ntmps57;go_wp2_with fail;clear hW1 hB1 L1;go_at_call 126;refine HFI.out.mono ?_;rintro e x1 ⟨rfl,hb⟩;have K2:=w9bt K1 hb;have R2:=ae (R1.out.below hb);have L1:=cF R2.out;clear hb R1 HFI;go_wp2_with fail;clear L1;go_at_call 127;refine(pu g HGI.out x1).mono ?_;rw[hB.out];rintro e x2 ⟨rfl,hb⟩;have K3:=w9bt K2 hb;clear hb R2;go_wp2_with fail;refine bl (results_tmp2 rfl _ _ _) rfl ?_;exact⟨rfl,K3.out⟩
 ·rw[decide_eq_false hf]at HFI;clear h hr hgi hno hf r1 b1;go_enter func57,ntmps57;go_wp2_with fail;clear hW1 hB1 L1;go_at_call 126;refine HFI.out.mono ?_;rintro e x1 ⟨rfl,hb⟩;have K2:=w9bt K1 hb;clear hb R1 HFI;go_wp2_with fail;refine bl (results_tmp2 rfl _ _ _) rfl ?_;exact⟨rfl,K2.out⟩
end
theorem F6 {m rb:Nat} {M:MS} {w:ak} {f:Nat->Prop} (h:fX m rb M w f):0<M.b.length:=by
 obtain⟨_,_,_,_,_,_,h,_⟩:=h;exact h.b0
theorem kB:MetaOk Ft where
 format:=by
  intro rb p0 p1 S w f h hr hu g hgi hg h0 h1 v bs hv hb hl ha;refine F4 h hr hu hgi hg h0 h1 hv hb hl (ha ?_);intro e;have hN:=Geo.nats hg;have h1:=hN.bp;have h2:=hN.p1;rw[e]at hl;simp at hl;omega
 format_no:=by
  intro rb p0 p1 S w f h hr g hgi v bs hv hno;exact F5 h hr hgi hv hno
 open_:=by
  intro rb p0 p1 S w f h hr hu M ho;exact FX h hr hu ho
 open_no:=by
  intro rb p0 p1 S w f h hr hu hn ho;exact FY h hr hu hn ho
 open_nil:=FT
 bytes:=by
  intro m rb M w f h hl _;exact Fw h hl
 bytes_nil:=Fx
 room:=by
  intro m rb M w f h _ _;exact Fu h
 room_nil:=Fv
 geom:=by
  intro m rb M w f h;exact Fy h
 geom_nil:=Fz
 commit:=by
  intro rb p0 p1 m S M w f h hr _ hok v bs hv hb hl ha;refine FQ h hr hok hv hb hl (ha ?_);intro e;obtain⟨f1,f2,_,h2,_⟩:=h;have:=F6 h2;rw[e]at hl;simp at hl;omega
 commit_no:=by
  intro m rb M w f h v bs hv hl;exact FS h hv hl
 commit_nil:=by
  intro w v bs hv;exact FR w hv
end
section
attribute [-simp] isAgg51 zeroValue51 isAgg205 zeroValue205 isAgg23 zeroValue23 isAgg29 zeroValue29 isAgg112 zeroValue112 isAgg254 zeroValue254
attribute [-go_sem] aE aL cZ
attribute [local go_sem] bC bD cV iR jZ iQ mF mG
attribute [local go_sem] nL
section
theorem F7 {w:ak} {g:Geo} (hgi:g.In) {v:am} {bs:List Int} (hv:Sl aq w v bs):
  az aj 57 #[ao none,al g.v,v] w fun e w'=>e=ar (aQ #[ao none,ab af 1])/\ah w.heap.size w w':=by
 obtain⟨av,c',rfl,_⟩:=hv;obtain⟨W1,hW1⟩:=w9nm (w.alloc (ap g.v 23));have r1:aB W1 w.heap.size 23 g.cs:=by rw[←hW1];exact aB.new w _ _
 have b1:ah w.heap.size w W1:=by rw[←hW1];exact aR w _
 have hf:¬g.fitsR 0 0:=fun h=>by have:=Geo.least h.1;have:=h.2.1;omega
 have HFI:=ae (tl (v:=ao none) (n0:=0) (n1:=0) g hgi W1 (fun x _=>pH 0 x) (fun x _=>pH 1 x));rw[decide_eq_false hf]at HFI;obtain⟨B1,hB1⟩:=w9nm w.heap.size;rw[hB1]at r1;have K1:=ae b1;have L1:=cF r1;clear hgi hf r1 b1;go_enter func57,ntmps57;go_wp2_with fail;clear hW1 hB1 L1;go_at_call 126;refine HFI.out.mono ?_;rintro e x1 ⟨rfl,hb⟩;have K2:=w9bt K1 hb;clear hb HFI;go_wp2_with fail;refine bl (results_tmp2 rfl _ _ _) rfl ?_;exact⟨rfl,K2.out⟩
theorem F8 {w:ak} {g:Geo} {v:am} {bs:List Int} (hv:Sl aq w v bs):
  az aj 58 #[ao none,al g.v,v] w fun e w'=>e=ar (aQ #[ao none,ab af 1])/\ah w.heap.size w w':=by
 obtain⟨av,c',rfl,_⟩:=hv;obtain⟨W1,hW1⟩:=w9nm (w.alloc (ap g.v 23));have r1:aB W1 w.heap.size 23 g.cs:=by rw[←hW1];exact aB.new w _ _
 have b1:ah w.heap.size w W1:=by rw[←hW1];exact aR w _
 have K1:=ae b1;clear r1 b1;go_enter func58,ntmps58;go_wp2_with fail;refine bl (results_tmp2 rfl _ _ _) rfl ?_;exact⟨rfl,K1.out⟩
theorem yW (a b c d e f h i:Int) (w:ak):(Instr.field 29 (al #[ab af a,ab af b,ab af c,ab af d,ab af e,ab af f,ab af h,ab af i]) 0).run aj w=.ok (ab af a) w:=by kernel_rfl
attribute [local go_sem] yW
theorem F9 {rq q0 q1:Nat} {S:RS} {w:ak} {f:Nat->Prop} (h:bG rq q0 q1 S w f) {g:Geo} {v:am} {bs:List Int} (hv:Sl aq w v bs) (hno:¬(g.good/\g.oF<=S.n0/\g.oW<=S.n1/\bs.length=g.bts.toNat)):
  az aj 58 #[ao (some ⟨rq,0,none⟩),al g.v,v] w fun e w'=>e=ar (aQ #[ao none,ab af 1])/\ah w.heap.size w w':=by
 obtain⟨av,c',rfl,_⟩:=hv;obtain⟨W1,hW1⟩:=w9nm (w.alloc (ap g.v 23));have r1:aB W1 w.heap.size 23 g.cs:=by rw[←hW1];exact aB.new w _ _
 have b1:ah w.heap.size w W1:=by rw[←hW1];exact aR w _
 obtain⟨B1,hB1⟩:=w9nm w.heap.size;rw[hB1]at r1;have K1:=ae b1;have R1:=ae r1;have L1:=cF r1;have HG:=ae (nw g W1);have HRM:Hid (∀y,w9b w y->az aj 136 #[ao (some ⟨rq,0,none⟩),al g.v] y fun e w'=>e=ar (.bool (decide (g.oF<=S.n0/\g.oW<=S.n1)))/\ah y.heap.size y w'):=fun y hy=>tg ((bG.isRes rq q0 q1 S).below h hy) g;clear h r1 b1;by_cases hg:g.good
 ·rw[decide_eq_true hg]at HG;by_cases hm:g.oF<=S.n0/\g.oW<=S.n1
  ·rw[decide_eq_true hm]at HRM;have hN:=Geo.nats hg;have hbl:bs.length≠g.bts.toNat:=fun e=>hno ⟨hg,hm.1,hm.2,e⟩;have g1:((bs.length:Int) != g.bts)=true:=by
    have:=hN.b;simp only[bne_iff_ne,ne_eq];omega
   have HOF:Hid (∀y,az aj 11 #[al g.v] y fun e w'=>e=ar (al #[ab af g.bts,ab af g.pgs,ab af g.slots,ab af 2,ab af (2+g.r),ab af (2+g.r+g.pgs),ab af (2+g.r+g.pgs+g.slots),ab af (g.b+g.a)])/\ah y.heap.size y w'):=fun y=>by
    have:=mw g y;have e:g.szl=db g.bts g.pgs g.slots 2 (2+g.r) (2+g.r+g.pgs) (2+g.r+g.pgs+g.slots) (g.b+g.a):=if_pos hg;rw[e]at this;exact this
   clear hno hg hm hN hbl;go_enter func58,ntmps58;go_wp2_with fail;go_at_call 39;refine HG.out.mono ?_;rintro e x1 ⟨rfl,hb⟩;have K2:=w9bt K1 hb;have R2:=ae (R1.out.below hb);have L2:=cF R2.out;clear hb L1 hW1 hB1;go_wp2_with fail;go_at_call 136;refine(HRM.out x1 K2.out).mono ?_;rintro e x2 ⟨rfl,hb⟩;have K3:=w9bt K2 hb;have R3:=ae (R2.out.below hb);have L3:=cF R3.out;clear hb L2;go_wp2_with fail;go_at_call 11;refine(HOF.out x2).mono ?_;rintro e x3 ⟨rfl,hb⟩;have K4:=w9bt K3 hb;clear hb L3;go_wp2_with fail;refine bl (results_tmp2 rfl _ _ _) rfl ?_;exact⟨rfl,K4.out⟩
  ·rw[decide_eq_false hm]at HRM;clear hno hg hm;go_enter func58,ntmps58;go_wp2_with fail;go_at_call 39;refine HG.out.mono ?_;rintro e x1 ⟨rfl,hb⟩;have K2:=w9bt K1 hb;have R2:=ae (R1.out.below hb);have L2:=cF R2.out;clear hb L1 hW1 hB1;go_wp2_with fail;go_at_call 136;refine(HRM.out x1 K2.out).mono ?_;rintro e x2 ⟨rfl,hb⟩;have K3:=w9bt K2 hb;clear hb L2;go_wp2_with fail;refine bl (results_tmp2 rfl _ _ _) rfl ?_;exact⟨rfl,K3.out⟩
 ·rw[decide_eq_false hg]at HG;clear hno hg;go_enter func58,ntmps58;go_wp2_with fail;go_at_call 39;refine HG.out.mono ?_;rintro e x1 ⟨rfl,hb⟩;have K2:=w9bt K1 hb;clear hb L1 hW1 hB1;go_wp2_with fail;refine bl (results_tmp2 rfl _ _ _) rfl ?_;exact⟨rfl,K2.out⟩
end
end
section
structure OnWay (S:RS) (l:cA) (m k:Nat) (T:RS):Prop where
 up:T.Up
 fit:T.Fit
 few:T.Few (m+1)
 n0:T.n0=S.n0
 n1:T.n1=S.n1
 eq:T=(S.wrs (l.take k)).1
structure MayBat (S:RS) (l:cA) (m:Nat):Prop where
 up:S.Up
 lt:∀x ∈ l,x.1<S.n0
 nodup:(l.map (·.1)).Nodup
 few:S.Few m
 m254:m<=254
 d0:0<=S.done
 d1:S.done+l.length+1<=1000000
section
variable {S T:RS} {l:cA} {m k:Nat}
theorem MayBat.at (h:MayBat S l m) (k:Nat):OnWay S l m k (S.wrs (l.take k)).1:=by
 have hin:∀x ∈ l.take k,x.1<S.n0:=fun x hx=>h.lt x (gX hx);obtain⟨e,hu⟩:=RS.Up.wrs (l.take k) h.up hin;have hd:=RS.Up.wrs_done (l.take k) h.up;have hs:=(RS.wrs_spec (l.take k) S hin).1;have hlen:(l.take k).length<=l.length:=by rw[fd];omega
 have:=h.d0;have:=h.d1;exact⟨hu,RS.fit (by rw[hu.fuse];decide) (by omega) (by omega),RS.wrs_few h.few h.m254 hin (List.Nodup.sublist (List.Sublist.map _ (List.take_sublist k l)) h.nodup),hs.n0,hs.n1,rfl⟩
theorem MayBat.step (h:MayBat S l m) (hT:OnWay S l m k T) {i:Nat} {b:List am} (hk:l[k]? =some (i,b)):OnWay S l m (k+1) (T.write 0 (i:Int) b):=by
 have hin:∀x ∈ l.take k,x.1<S.n0:=fun x hx=>h.lt x (gX hx);obtain⟨e,hu⟩:=RS.Up.wrs (l.take k) h.up hin;have he:l.take (k+1)=l.take k++ [(i,b)]:=by rw[List.take_add_one,hk];rfl
 have:T.write 0 (i:Int) b=(S.wrs (l.take (k+1))).1:=by rw[he,RS.wrs_snoc _ _ _ _ e,hT.eq]
 rw[this];exact h.at (k+1)
theorem MayBat.start (h:MayBat S l m):OnWay S l m 0 S:=h.at 0
theorem MayBat.done (h:MayBat S l m) (hT:OnWay S l m l.length T):(T.flush 0).Up/\(T.flush 0).Few (m+1)/\(T.flush 0).n0=S.n0/\(T.flush 0).n1=S.n1/\S.done<=(T.flush 0).done/\(T.flush 0).done<=S.done+l.length+1/\∀ls,S.bat (l::ls)=(T.flush 0).bat ls:=by
 have e:T=(S.wrs l).1:=by rw[hT.eq,List.take_length]
 obtain⟨e1,hu⟩:=RS.Up.wrs l h.up h.lt;have hd:=RS.Up.wrs_done l h.up;obtain⟨s2,hf⟩:=RS.flush0 T;have hE:T.flushE 0=0:=by
  rcases hf with⟨_,h3,_⟩ | ⟨h3,_,_⟩
  ·exact h3
  ·rw[hT.up.ok]at h3;cases h3
 obtain⟨u1,u2⟩:=hT.up.flush 0;have hdn:(T.flush 0).done=T.done+1:=by
  rcases u2 with⟨_,e⟩ | ⟨e,_⟩
  ·exact e
  ·rw[hE]at e;cases e
 refine⟨u1,RS.few_flush hT.few 0,by rw[s2.n0,hT.n0],by rw[s2.n1,hT.n1],by rw[hdn,e];omega,by rw[hdn,e];omega,fun ls=> ?_⟩;rw[RS.bat_cons,if_neg (by rw[e1];simp),←e,if_neg (by omega)]
end
end
section
attribute [-simp] isAgg51 zeroValue51 isAgg205 zeroValue205 isAgg23 zeroValue23 isAgg29 zeroValue29 isAgg112 zeroValue112 isAgg254 zeroValue254
attribute [-go_sem] aE aL cZ
attribute [local go_sem] bC bD cV iR jZ iQ mF mG
attribute [local go_sem] nL
section
theorem yX (rq:Nat) (w:ak):(cY 217 #[(0,ao (some ⟨rq,0,none⟩))]).run aj w=.ok (al (j7 rq)) w:=by kernel_rfl
theorem yY {rq q0 q1:Nat} {S:RS} {w V X:ak} {f:Nat->Prop} (h:bG rq q0 q1 S w f) (hb:w9b w V) (hX:V.alloc (ap (j7 rq) 217)=X):
  ∃f',gx V.heap.size rq q0 q1 S X f'/\Turn f f' w X/\ah w.heap.size w X/\∀k,w.heap.size<=k->k<V.heap.size->¬f' k:=by
 have bX:ah V.heap.size V X:=by rw[←hX];exact aR V _
 have bT:=hb.trans (bX.mono hb.size);have h':=(bG.isRes rq q0 q1 S).below h bT;have hlt:=(bG.isRes rq q0 q1 S).lt h;have hr:X.heap[V.heap.size]? =some (ap (j7 rq) 217 (0,0)):=by rw[←hX];exact bR V _
 refine⟨_,⟨fun k=>k=V.heap.size,f,⟨hr,rfl⟩,h',fun k hk hf=> ?_,rfl⟩,(Turn.of_below bT).less fun k hk=> ?_,bT,fun k h1 h2 hk=> ?_⟩
 ·have:=hlt k hf;have:=hb.size;omega
 ·rcases hk with rfl | hk
  ·exact aC hb.size
  ·exact aA hk
 ·rcases hk with rfl | hk
  ·omega
  ·have:=hlt k hk;omega
structure By8 (B1 B8:Nat) (g:Geo) (C8:List am) (v:am) (bs:List Int) (w:ak) (f:Nat->Prop):Prop where
 r1:aB w B1 23 g.cs
 r8:aB w B8 29 C8
 n1:¬f B1
 n8:¬f B8
 sl:Sl aq w v bs
 ne:bs≠ []
 aw:jw v f
theorem By8.turn {B1 B8:Nat} {g:Geo} {C8:List am} {v:am} {bs:List Int} {w w':ak} {f f':Nat->Prop} (h:By8 B1 B8 g C8 v bs w f) (t:Turn f f' w w'):By8 B1 B8 g C8 v bs w' f':=by
 obtain⟨h1,h8,hn1,hn8,hs,hne,haw⟩:=h;obtain⟨a,cap,rfl,l1,l2,h3,l4⟩:=id hs;rcases h3 with h3 | ⟨b,off,rfl,h5,_⟩
 ·exact absurd h3 hne
 ·refine⟨(t.out B1 h1.lt hn1).trans h1,(t.out B8 h8.lt hn8).trans h8,fun hk=> ?_,fun hk=> ?_,hs.same t.size (fun b' e=> ?_),hne,fun b' off' len' cap' e hk=> ?_⟩
  ·rcases t.new _ hk with h | h
   ·exact hn1 h
   ·have:=h1.lt;omega
  ·rcases t.new _ hk with h | h
   ·exact hn8 h
   ·have:=h8.lt;omega
  ·cases e;exact t.out b h5 (haw b off _ _ rfl)
  ·cases e;rcases t.new _ hk with h | h
   ·exact haw b off _ _ rfl h
   ·omega
theorem tH {v:am} {bs:List Int} (w:ak) (hv:Sl aq w v bs) (hb:aP bs) (hl:bs.length<=10000) (h0:0<cB bs):
  az aj 139 #[v] w fun e w'=>∃g c cur,e=ar (ag (some ⟨g,0,none⟩) (cB bs) c)/\PgsR w' (ag (some ⟨g,0,none⟩) (cB bs) c) g (aM bs)/\w.heap.size<=g/\w'.heap[g]? =some (ap cur 205 (0,0))/\ah w.heap.size w w':=by
 refine(Cm v bs w hv (by omega)).mono ?_;rintro e w' ⟨v',rfl,hO,hB⟩;rw[xc]at hO;obtain⟨g,c,cur,rfl,h1,h2,h3⟩:=PgsR.of_owns hO (it bs) h0 (fun y hy=>(lL hb y hy).1) (by unfold cB;omega);exact⟨g,c,cur,rfl,h1,h2,h3,hB⟩
theorem yZ {k:Nat} (hk:k<=65535) {body:List Int} (h1:body.length=48) (h2:aP body) (x:ak):
  az aj 140 #[ab aq 72,ab aD 0,ab af (k:Int),al (an body).toArray] x fun e w'=>e=ar (al (an (de k body).bytes).toArray)/\ah x.heap.size x w':=
 wY (de k body) (jX h1 h2) (pi hk body) x
theorem za {gen:Int} {g:Geo} {a:Nat} {q:Int} (hi:cH gen) (x:ak):
  az aj 140 #[ab aq 83,ab aD gen,ab af 0,al (an (dh g a q++bK 30 0)).toArray] x fun e w'=>e=ar (al (an (dt gen g a q).bytes).toArray)/\ah x.heap.size x w':=by
 have:=wY (dt gen g a q) (kw hi g a q) (rR gen g a q) x;rw[←pM]at this ⊢;exact this
theorem PgsR.loadAt {W x:ak} {v:am} {g:Nat} {now:List (List Int)} (h:PgsR W v g now) {k:Nat} (hk:k<now.length) (e:x.heap[g]? =W.heap[g]?):(aE 205 ⟨g,k*48,none⟩).run aj x=.ok (al (an (aY now k)).toArray) x:=by
 obtain⟨h1,h2⟩:=h.page hk;exact iH (da h1 e) (by rw[bi];exact h2)
theorem By8.below {B1 B8:Nat} {g:Geo} {C8:List am} {v:am} {bs:List Int} {w w':ak} {f:Nat->Prop} (h:By8 B1 B8 g C8 v bs w f) (t:w9b w w'):By8 B1 B8 g C8 v bs w' f:=h.turn (Turn.of_below t)
theorem gx.below {wb rq q0 q1:Nat} {S:RS} {w w':ak} {f:Nat->Prop} (h:gx wb rq q0 q1 S w f) (t:w9b w w'):gx wb rq q0 q1 S w' f:=(gx.isRes _ _ _ _ _).below h t
structure By9 (gh ch N:Nat) (now:List (List Int)) (w:ak) (f:Nat->Prop):Prop where
 pg:PgsR w (ag (some ⟨gh,0,none⟩) now.length ch) gh now
 cur:∃cur,w.heap[gh]? =some (ap cur 205 (0,0))
 nf:¬f gh
 ge:N<=gh
theorem By9.turn {gh ch N:Nat} {now:List (List Int)} {w w':ak} {f f':Nat->Prop} (h:By9 gh ch N now w f) (t:Turn f f' w w'):By9 gh ch N now w' f':=by
 have e:=t.out gh h.pg.lt h.nf;refine⟨h.pg.keep t.size e,by obtain⟨c,hc⟩:=h.cur;exact⟨c,e.trans hc⟩,fun hk=> ?_,h.ge⟩;rcases t.new _ hk with h1 | h1
 ·exact h.nf h1
 ·have:=h.pg.lt;omega
theorem gx.rig {wb rq q0 q1:Nat} {S:RS} {w:ak} {f:Nat->Prop} (h:gx wb rq q0 q1 S w f):∃f',bG rq q0 q1 S w f'/\(∀k,f' k->f k/\k≠wb):=by
 obtain⟨f1,f2,⟨h1,rfl⟩,h2,h3,rfl⟩:=h;exact⟨f2,h2,fun k hk=>⟨aC hk,fun e=>h3 wb rfl (e▸hk)⟩⟩
theorem Ga (rq:Nat) (g:Geo) (a a':Option aN) (n c n' c':Nat) (w:ak):(cY 112 #[(0,ao (some ⟨rq,0,none⟩)),(1,al g.v),(2,ag a n c),(3,ag a' n' c'),(4,ab aD 1),(6,ab af 0),(7,ab aD 1)]).run aj w=.ok (al (mC (ao (some ⟨rq,0,none⟩)) g (ag a n c) (ag a' n' c') 1 0 0 1 0).toArray) w:=by kernel_rfl
theorem Gb {rq q0 q1:Nat} {S:RS} {w:ak} {f:Nat->Prop} (h:bG rq q0 q1 S w f) (hu:S.Up) (hf:S.Few 100) (hd:0<=S.done/\S.done<=900000) {g:Geo} (hg:g.good) (h0:g.oF<=S.n0) (h1:g.oW<=S.n1)
  {v:am} {bs:List Int} (hv:Sl aq w v bs) (hb:aP bs) (hl:bs.length=g.bts.toNat) (ha:bs≠ []->jw v f):
  az aj 58 #[ao (some ⟨rq,0,none⟩),al g.v,v] w fun e w'=>∃m,e=ar (aQ #[ao (some ⟨m,0,none⟩),ab af 0])/\∃f',cS (bG rq q0 q1 (S.bat (co g bs)).1) (ka m rq (MS.new g bs)) w' f'/\Turn f f' w w':=by
 have HV0:=ae hv;have hN:=Geo.nats hg;have hrm:=Geo.room hg h0;obtain⟨av,c',rfl,_⟩:=hv;obtain⟨W1,hW1⟩:=w9nm (w.alloc (ap g.v 23));have r1:aB W1 w.heap.size 23 g.cs:=by rw[←hW1];exact aB.new w _ _
 have b1:ah w.heap.size w W1:=by rw[←hW1];exact aR w _
 obtain⟨B1,hB1⟩:=w9nm w.heap.size;have HEB:=ae hB1;rw[hB1]at r1;have K1:=ae b1;have R1:=ae r1;have L1:=cF r1;have HG:=ae (nw g W1);rw[decide_eq_true hg]at HG;have HRM:Hid (∀y,w9b w y->az aj 136 #[ao (some ⟨rq,0,none⟩),al g.v] y fun e w'=>e=ar (.bool (decide (g.oF<=S.n0/\g.oW<=S.n1)))/\ah y.heap.size y w'):=fun y hy=>tg ((bG.isRes rq q0 q1 S).below h hy) g;rw[decide_eq_true (show g.oF<=S.n0/\g.oW<=S.n1 from⟨h0,h1⟩)]at HRM;have g1:((bs.length:Int) != g.bts)=false:=by
  have:=hN.b;simp only[bne_eq_false_iff_eq];omega
 have HC:Hid (g.r=(g.C:Int)):=hN.c.symm;obtain⟨sz,hsz⟩:=w9nm ((db g.bts g.pgs g.slots 2 (2+g.r) (2+g.r+g.pgs) (2+g.r+g.pgs+g.slots) (g.b+g.a)).toArray);have FL:∀x,(Instr.field 29 (al sz) 0).run aj x=.ok (ab af g.bts) x:=fun x=>by rw[←hsz];exact yW _ _ _ _ _ _ _ _ x
 have HOF:Hid (∀y,az aj 11 #[al g.v] y fun e w'=>e=ar (al sz)/\ah y.heap.size y w'):=fun y=>by
  have:=mw g y;have e:g.szl=db g.bts g.pgs g.slots 2 (2+g.r) (2+g.r+g.pgs) (2+g.r+g.pgs+g.slots) (g.b+g.a):=if_pos hg;rw[e,hsz]at this;exact this
 have HSZ:=ae hsz;have HH:=ae h;have HU:=ae hu;have HF:=ae hf;have HD:=ae hd;have HGD:=ae hg;have HN:=ae hN;have HROOM:=ae hrm;have HB:=ae hb;have HL:=ae hl;have HA:=ae ha;have HOK8:=ae (mu (S:=S) hg h0 hb);have HNE:Hid (bs≠ []):=fun e=>by have:=hN.bp;have:=hN.p1;rw[e]at hl;simp at hl;omega
 have hmx:=w9x
 clear r1 b1 h hu hf hd h0 h1 hg hN hrm hb hl ha hsz;go_enter func58,ntmps58;go_wp2_with fail;go_at_call 39;refine HG.out.mono ?_;rintro e x1 ⟨rfl,hb⟩;have K2:=w9bt K1 hb;have R2:=ae (R1.out.below hb);have L2:=cF R2.out;clear hb L1 hW1 hB1;go_wp2_with fail;go_at_call 136;refine(HRM.out x1 K2.out).mono ?_;rintro e x2 ⟨rfl,hb⟩;have K3:=w9bt K2 hb;have R3:=ae (R2.out.below hb);have L3:=cF R3.out;clear hb L2;go_wp2_with fail;go_at_call 11;refine(HOF.out x2).mono ?_;rintro e x3 ⟨rfl,hb⟩;have K4:=w9bt K3 hb;have R4:=ae (R3.out.below hb);have L4:=cF R4.out;clear hb L3;go_wp2_with fail;go_at_call 11;refine(HOF.out x3).mono ?_;rintro e x4 ⟨rfl,hb⟩;obtain⟨x5,ST5,r5,c5⟩:=nt x4 g.bts g.pgs g.slots 2 (2+g.r) (2+g.r+g.pgs) (2+g.r+g.pgs+g.slots) (g.b+g.a);rw[HSZ.out]at ST5;have K5:w9h w x5:=K4.out.trans ((hb.trans (c5.mono hb.size)).mono K4.out.size);obtain⟨B8,hB8⟩:=w9nm x4.heap.size;rw[hB8]at ST5 r5;have R8:=ae r5;have R5:=ae (R4.out.below (hb.trans (c5.mono hb.size)));obtain⟨x6,hx6⟩:=w9nm (x5.alloc (ap (j7 rq) 217));obtain⟨f6,q6,t6,k6,o6⟩:=yY HH.out K5.out hx6;have l8:=r5.lt;have hB1:w.heap.size=B1:=HEB.out;have c6:ah x5.heap.size x5 x6:=by rw[←hx6];exact aR x5 _
 obtain⟨wb,hwb⟩:=w9nm x5.heap.size;rw[hwb]at q6;have R86:=ae (R8.out.below c6);have R16:=ae (R5.out.below c6);have Q6:=ae q6;have T6:=ae t6;have Y6:Hid (By8 B1 B8 g (db g.bts g.pgs g.slots 2 (2+g.r) (2+g.r+g.pgs) (2+g.r+g.pgs+g.slots) (g.b+g.a)) (ag av bs.length c') bs x6 f6):=
  ⟨R16.out,R86.out,o6 B1 (by rw[hB1];exact aJ _) (by have:=R5.out.lt;omega),o6 B8 (by have:=K4.out.size;rw[←hB8];have:=hb.size;omega) (by omega),HV0.out.below k6,HNE.out,fun b off len cap e hk=>by
   rcases t6.new _ hk with h | h
   ·exact HA.out HNE.out b off len cap e h
   ·exact absurd (HV0.out.lt_of HNE.out e) (by omega)⟩
 have K6:=ae k6;clear hb c5 r5 L4 q6 t6 k6 c6 o6 l8 hB1;obtain⟨wc,hwc⟩:=w9nm (j7 rq);have BW:=yX rq x5;rw[hwc]at BW hx6;go_wp2_with ((with_reducible refine gU 217 ?_);refine fJ _ _ rfl rfl [(0,ao (some ⟨rq,0,none⟩))] _ rfl BW ?_);clear hB8 hwb hx6;have hn2:2<=S.n0:=by have:=HROOM.out;omega
 have M1:Hid (MayBat S [(0,a9 0),(1,a9 0)] 100):=⟨HU.out,fun x hx=>by simp only[ec,List.not_mem_nil,or_false]at hx;rcases hx with rfl | rfl<;>simp only<;>omega,by simp,HF.out,by omega,HD.out.1,by have:=HD.out.2;simp only[cK,dP];omega⟩;have O0:=M1.out.start;have O1:=M1.out.step O0 (i:=0) (b:=a9 0) rfl;have HO1:=ae O1;have HO2:=ae (M1.out.step O1 (i:=1) (b:=a9 0) rfl);go_at_call 137;refine(lK Q6.out O0.up O0.fit (O0.few.mono (by omega)) (i:=0) (b:=a9 0) (by omega) (fv 0)).mono ?_;rintro e x7 ⟨rfl,f7,q7,t7⟩;have Q7:=ae q7;have T7:=ae (T6.out.trans t7);have Y7:=ae (Y6.out.turn t7);clear q7 t7 O0 O1 Q6 T6 Y6 R16 R86 K6;go_wp2_with fail;go_at_call 137;refine(lK Q7.out HO1.out.up HO1.out.fit (HO1.out.few.mono (by omega)) (i:=1) (b:=a9 0) (by rw[HO1.out.n0];omega) (fv 0)).mono ?_;rintro e x8 ⟨rfl,f8,q8,t8⟩;have Q8:=ae q8;have T8:=ae (T7.out.trans t8);have Y8:=ae (Y7.out.turn t8);clear q8 t8 HO1 Q7 T7 Y7;go_wp2_with fail;go_at_call 138;refine(nz Q8.out HO2.out.up HO2.out.fit).mono ?_;rintro e x9 ⟨rfl,f9,q9,t9⟩;obtain⟨S1,hS1⟩:=w9nm ((((S.write 0 ((0:Nat):Int) (a9 0)).write 0 ((1:Nat):Int) (a9 0)).flush 0));have HD1:=ae (M1.out.done HO2.out);rw[hS1]at HD1 q9;have Q9:=ae q9;have T9:=ae (T8.out.trans t9);have Y9:=ae (Y8.out.turn t9);clear q9 t9 HO2 Q8 T8 Y8 hS1 M1;obtain⟨C8,hC8⟩:=w9nm (db g.bts g.pgs g.slots 2 (2+g.r) (2+g.r+g.pgs) (2+g.r+g.pgs+g.slots) (g.b+g.a));rw[hC8]at Y9;have HC8:=ae hC8;obtain⟨l2,hl2⟩:=w9nm (((dm g.C).map fun i=>(2+i,a9 0))++((dm g.P).map fun i=>(g.H+i,an (de i (bM bs i)).bytes)));have HLN:Hid (l2.length=g.C+g.P):=by show _=_;rw[←hl2];simp
 have HG1:Hid (∀k,k<g.C->l2[k]? =some (2+k,a9 0)):=fun k hk=>by
  rw[←hl2,eU (by simpa using hk),du,List.getElem?_range hk]
  rfl
 have HG2:Hid (∀k,k<g.P->l2[g.C+k]? =some (g.H+k,an (de k (bM bs k)).bytes)):=fun k hk=>by
  rw[←hl2,fF (by simp),fZ,List.length_range,Nat.add_sub_cancel_left,du,List.getElem?_range hk]
  rfl
 have M2:Hid (MayBat S1 l2 101):=by
  obtain⟨u1,u2,u3,u4,u5,u6,_⟩:=HD1.out;have hbo:=HOK8.out l2 (by rw[←hl2];simp[co]);have:=HLN.out;have:=HN.out.c2;have:=HN.out.p2;have:=HD.out;simp only[cK,dP]at u6;exact⟨u1,fun x hx=>by rw[u3];exact hbo.lt x hx,hbo.nodup,u2,by omega,by omega,by omega⟩
 have HEL:=ae hl2;obtain⟨Cn,hCn⟩:=w9nm g.C;have HCN:=ae hCn;clear hC8 hl2 hn2 hCn;go_wp2_with fail;go_loopw [10] (fun i wr=>∃(k:Nat) (T:RS) (fk:Nat->Prop),k<=Cn/\i=ab af (k:Int)/\Hid (OnWay S1 l2 101 k T)/\Hid (gx wb rq q0 q1 T wr fk)/\Hid (Turn f fk w wr)/\Hid (By8 B1 B8 g C8 (ag av bs.length c') bs wr fk)) (fun i _=>Cn - (aW i).toNat)
 case atStart=>exact⟨0,S1,f9,bq _,rfl,M2.out.start,Q9,T9,Y9⟩
 case round=>
  obtain⟨k,T,fk,hk,rfl,HO,HQ,HT,HY⟩:=hrel;have c4:wr.cell? ⟨B1,4,none⟩=some (ab af (Cn:Int)):=by rw[←HCN.out,←HC.out];exact HY.out.r1.cell 4 _ rfl
  by_cases hlt:k<Cn
  ·have g3:decide ((k:Int)< (Cn:Int))=true:=by simpa using hlt
   have s3:wr.cell? ⟨B8,3,none⟩=some (ab af 2):=by have:=HY.out.r8;rw[←HC8.out]at this;exact this.cell 3 _ rfl
   have hkb:k<256:=by have:=HN.out.c2;have:=HCN.out;omega
   have hw:wrap64 (2+(k:Int))=((2+k:Nat):Int):=by rw[gj _ (by omega)];omega
   have hn0:2+k<T.n0:=by rw[HO.out.n0,HD1.out.2.2.1];have:=HROOM.out;have:=HCN.out;omega
   have HP:=ae (lK HQ.out HO.out.up HO.out.fit (HO.out.few.mono (by omega)) (i:=2+k) (b:=a9 0) hn0 (fv 0));have HST:=ae (M2.out.step HO.out (HG1.out k (by rw[HCN.out];exact hlt)));have hii:((2+k:Nat):Int)=2+(k:Int):=by omega
   rw[hii]at HP hw HST;clear hn0 hii;go_wp2_with fail;go_at_call 137;refine HP.out.mono ?_;rintro e x ⟨rfl,f',q',t'⟩;have HQ':=ae q';have HT':=ae t';clear q' t' HP hw s3 c4;go_wp2_with fail;go_roundw
   case rel=>exact⟨k+1,_,f',hlt,by go_num,HST.out,HQ'.out,HT.out.trans HT'.out,HY.out.turn HT'.out⟩
   case measure=>simp[aW];omega
  ·obtain rfl:k=Cn:=by omega
   have g3:decide ((k:Int)< (k:Int))=false:=by simp
   go_wp2_with fail;go_at_call 139;have hpc:cB bs=g.P:=by unfold cB;rw[HL.out,HN.out.bp]
   have hP2:2<=g.P:=HN.out.p1;have hP15:g.P<=15:=HN.out.p2;have hb7:bs.length<=714:=by rw[HL.out];exact HN.out.b2
   refine(tH wr HY.out.sl HB.out (by omega) (by omega)).mono ?_;rintro e x1 ⟨gh,ch,cur,rfl,hpg,hgh,hcur,hb⟩;have HCL:Hid ((aM bs).length=g.P):=(it bs).trans hpc;have Q1:=ae (HQ.out.below hb);have T1:Hid (Turn f fk w x1):=HT.out.trans (Turn.of_below hb);have Y1:=ae (HY.out.below hb);have Z1:Hid (By9 gh ch w.heap.size (aM bs) x1 fk):=⟨by rw[it];exact hpg,⟨cur,hcur⟩,fun hk=>by have:=(gx.isRes wb rq q0 q1 T).lt HQ.out gh hk;omega,aZ HT.out.size hgh⟩;rw[hpc];obtain⟨Pn,hPn⟩:=w9nm g.P;have HPN:=ae hPn;have HPB:Hid (2<=Pn/\Pn<=15):=by show _/\_;omega
   rw[hPn]at HCL;rw[hPn];have HB7:=ae hb7;clear hpg hgh hcur hb hpc hP2 hP15 hb7 hPn HQ HT HY HG1;have O1:=HO;go_wp2_with fail;go_loopw [12] (fun i wr=>∃(k2:Nat) (T2:RS) (fk2:Nat->Prop),k2<=Pn/\i=ab af (k2:Int)/\Hid (OnWay S1 l2 101 (k+k2) T2)/\Hid (gx wb rq q0 q1 T2 wr fk2)/\Hid (Turn f fk2 w wr)/\Hid (By8 B1 B8 g C8 (ag av bs.length c') bs wr fk2)/\Hid (By9 gh ch w.heap.size (aM bs) wr fk2)) (fun i _=>Pn - (aW i).toNat)
   case atStart=>exact⟨0,T,fk,bq _,rfl,O1,Q1,T1,Y1,Z1⟩
   case round=>
    obtain⟨k2,T2,fk2,hk2,rfl,HO2,HQ2,HT2,HY2,HZ2⟩:=hrel;clear HO O1 Q1 T1 Y1 Z1;by_cases hlt2:k2<Pn
    ·have g4:decide ((k2:Int)< (Pn:Int))=true:=by simpa using hlt2
     have hpb:=HPB.out;have hcn:=HCN.out;have hc2:=HN.out.c2;have hlc:(aM bs).length=Pn:=HCL.out;have hpn:=HPN.out;have hpa:aY (aM bs) k2=bM bs k2:=by
      unfold aY;rw[lF bs (by rw[←it bs,hlc];exact hlt2)]
      rfl
     obtain⟨n2,hn2⟩:=w9nm (g.H+k2);have hw:wrap64 (2+g.r+(k2:Int))=(n2:Int):=by
      have:=HC.out;rw[gj _ (by omega),←hn2];unfold Geo.H;omega
     have hn0:n2<T2.n0:=by rw[HO2.out.n0,HD1.out.2.2.1];have:=HROOM.out;rw[←hn2];unfold Geo.H;omega
     have HN0:=ae hn0;have HST:=ae (M2.out.step HO2.out (i:=n2) (b:=an (de k2 (bM bs k2)).bytes) (by rw[←hn2,←hcn];exact HG2.out k2 (by omega)));have e4:∀z:dB B8 gh wr,z.1.cell? ⟨B8,4,none⟩=some (ab af (2+g.r)):=fun z=>by
      rw[cL (w:=wr) z.2.1];have:=HY2.out.r8;rw[←HC8.out]at this;exact this.cell 4 _ rfl
     have ep:∀z:dB B8 gh wr,(aE 205 ⟨gh,k2*48,none⟩).run aj z.1=.ok (al (an (bM bs k2)).toArray) z.1:=fun z=>by
      rw[←hpa];exact HZ2.out.pg.loadAt (by rw[hlc];exact hlt2) z.2.2
     clear hpb hcn hc2 hlc hpn hpa hn2 hn0;go_wp2_with fail;refine ex (fun x=>∃y:dB B8 gh wr,x=y.1) 12 (.takes [0,1,2,3,4,5,6,7,8,9] (.one 10 (.one 11 .leaf))) hmx (by kernel_rfl) ⟨⟨wr.drew,rfl,rfl⟩,rfl⟩ ?_;repeat(rw[cP];simp only[au,ay];go_big_quiet_step (fail);try(with_reducible refine aO ?_))
     rw[cT,bU];simp only[au,ay];clear e4 ep;obtain⟨V0,hV0⟩:=w9nm wr.drew;have BV0:Hid (ah wr.heap.size wr V0):=by show ah _ _ _;rw[←hV0];exact(aF _ wr).drew
     try rw[hV0]
     clear hV0;go_wp2_with fail;go_at_call 140;refine(yZ (by have:=HPB.out;omega) (gH bs k2) (ir HB.out k2) V0).mono ?_;rintro e V1 ⟨rfl,hb⟩;have BV1:=w9bt BV0 hb;have hbk:bx (an (de k2 (bM bs k2)).bytes):=dr (Sct.bytes_length (jX (gH bs k2) (ir HB.out k2)));have HBK:=ae hbk;obtain⟨bk,hbk'⟩:∃b,an (de k2 (bM bs k2)).bytes=b:=⟨_,rfl⟩;rw[hbk']at HST HBK;try rw[hbk']
     clear hb hbk hbk';go_wp2_with fail;refine aG ⟨⟨V1,BV1.out.block _ HY2.out.r8.lt,BV1.out.block _ HZ2.out.pg.lt⟩,rfl⟩ ?_;rw[bU];simp only[au,ay];go_wp2_with fail;go_at_call 137;refine(lK (HQ2.out.below BV1.out) HO2.out.up HO2.out.fit (HO2.out.few.mono (by omega)) HN0.out HBK.out).mono ?_;rintro e V2 ⟨rfl,f',q',t'⟩;have HQ':=ae q';have HT':Hid (Turn fk2 f' wr V2):=(Turn.of_below BV1.out).trans t';have h8:=HT'.out.out _ HY2.out.r8.lt HY2.out.n8;have h9:=HT'.out.out _ HZ2.out.pg.lt HZ2.out.nf;clear q' t';go_wp2_with fail;refine aG ⟨⟨V2,h8,h9⟩,rfl⟩ ?_;rw[dW];simp only[be,bf];clear h8 h9;have hpb9:k2<20:=by have:=HPB.out;omega
     go_wp2_with fail;go_roundw
     case rel=>exact⟨k2+1,_,f',hlt2,by go_num,HST.out,HQ'.out,HT2.out.trans HT'.out,HY2.out.turn HT'.out,HZ2.out.turn HT'.out⟩
     case measure=>simp[aW];omega
    ·obtain rfl:k2=Pn:=by omega
     have g4:decide ((k2:Int)< (k2:Int))=false:=by simp
     have hll:l2.length=k+k2:=by rw[HLN.out,HCN.out,HPN.out]
     have HO3:=HO2.out;rw[←hll]at HO3;have HD2:=ae (M2.out.done HO3);have HF:=ae (nz HQ2.out HO3.up HO3.fit);obtain⟨S2,hS2⟩:=w9nm (T2.flush 0);rw[hS2]at HD2 HF;clear hll HO3 hS2 hlt2 hk2;go_wp2_with fail;go_at_call 138;refine HF.out.mono ?_;rintro e y1 ⟨rfl,f1,q1',t1⟩;have Q1:=ae q1';have T1:=ae (HT2.out.trans t1);have Y1:=ae (HY2.out.turn t1);have Z1:=ae (HZ2.out.turn t1);clear q1' t1 HQ2 HT2 HY2 HZ2 HF HO2 M2;have L1:=cF Y1.out.r1;have M3:Hid (MayBat S2 [(0,an (dt 1 g 0 1).bytes)] 102):=by
      obtain⟨u1,u2,u3,u4,u5,u6,_⟩:=HD2.out;obtain⟨v1,v2,v3,v4,v5,v6,_⟩:=HD1.out;have:=HLN.out;have:=HN.out.c2;have:=HN.out.p2;have:=HD.out;have:=HROOM.out;simp only[cK,dP]at v6;exact⟨u1,fun x hx=>by rw[dO.1 hx,u3,v3];show 0<_;omega,by simp,u2,by omega,by omega,by simp only[cK,dP];omega⟩
     have hsi:SupIn 1 g 0 1:=Geo.supIn HGD.out ⟨by omega,by omega⟩ ⟨by omega,by have:=HN.out.c;have:=HN.out.c1;omega⟩ ⟨by omega,by omega⟩;have HBO:=fun x=>ae (tj hsi x);have HMS:Hid (∀x:ak,az aj 140 #[ab aq 83,ab aD 1,ab af 0,al (an (dh g 0 1++bK 30 0)).toArray] x fun e w'=>e=ar (al (an (dt 1 g 0 1).bytes).toArray)/\ah x.heap.size x w'):=fun x=>za (gen:=1) (g:=g) (a:=0) (q:=1) ⟨by omega,by omega⟩ x;have HSB:Hid (bx (an (dt 1 g 0 1).bytes)):=dr (Sct.bytes_length (kw ⟨by omega,by omega⟩ _ _ _));have O30:=M3.out.start;have O31:=ae (M3.out.step O30 (i:=0) (b:=an (dt 1 g 0 1).bytes) rfl);have HPU:Hid (∀x,w9b y1 x->az aj 137 #[ao (some ⟨wb,0,none⟩),ab af ((0:Nat):Int),al (an (dt 1 g 0 1).bytes).toArray] x fun e w'=>e=ar (aQ #[])/\∃f',gx wb rq q0 q1 (S2.write 0 ((0:Nat):Int) (an (dt 1 g 0 1).bytes)) w' f'/\Turn f1 f' x w'):=fun x hx=>lK (Q1.out.below hx) O30.up O30.fit (O30.few.mono (by omega)) (i:=0) (M3.out.lt _ (dO.2 rfl)) HSB.out;obtain⟨bb,hbb⟩:=w9nm ((an (dh g 0 1++bK 30 0)));rw[hbb]at HMS HBO;obtain⟨sb,hsb⟩:=w9nm (an (dt 1 g 0 1).bytes);have HSBE:=ae hsb;rw[hsb]at HMS HSB HPU O31 M3;clear hsi O30 hbb hsb;go_wp2_with fail;go_at_call 141;refine(HBO y1).out.mono ?_;rintro e y2 ⟨rfl,hb⟩;have K2:w9h y1 y2:=hb;clear hb L1;go_wp2_with fail;go_at_call 140;refine(HMS.out y2).mono ?_;rintro e y3 ⟨rfl,hb⟩;have K3:=w9bt K2 hb;clear hb K2;go_wp2_with fail;go_at_call 137;refine(HPU.out y3 K3.out).mono ?_;rintro e y4 ⟨rfl,f4,q4,t4⟩;have t4':Turn f1 f4 y1 y4:=(Turn.of_below K3.out).trans t4;have Q4:=ae q4;have T4:=ae (T1.out.trans t4');have Y4:=ae (Y1.out.turn t4');have Z4:=ae (Z1.out.turn t4');clear q4 t4 t4' K3 Q1 T1 Y1 Z1 HPU HMS HBO;have HD3:=ae (M3.out.done O31.out);have HF:=ae (nz Q4.out O31.out.up O31.out.fit);obtain⟨S3,hS3⟩:=w9nm ((S2.write 0 ((0:Nat):Int) sb).flush 0);rw[hS3]at HD3 HF;clear hS3;go_wp2_with fail;go_at_call 138;refine HF.out.mono ?_;rintro e y5 ⟨rfl,f5,q5,t5⟩;have Q5:=ae q5;have T5:=ae (T4.out.trans t5);have Y5:=ae (Y4.out.turn t5);have Z5:=ae (Z4.out.turn t5);have we1:y5.cell? ⟨wb,1,none⟩=some (ab af 0):=q5.cell 1;clear q5 t5 Q4 T4 Y4 Z4 HF O31 M3;go_wp2_with fail;have HTW:=ae T5.out;have HSL:=ae Y5.out.sl;have eg:∀z:aI y5,(aE 23 ⟨B1,0,none⟩).run aj z.1=.ok (al g.v) z.1:=fun z=>cF (Y5.out.r1.below z.2);refine ex (fun x=>∃y:aI y5,x=y.1) 8 (.takes [0,1,3,5] (.one 2 (.one 4 (.take 6 (.one 7 .leaf))))) hmx (by kernel_rfl) ⟨⟨y5.drew,(aF _ y5).drew⟩,rfl⟩ ?_;repeat(rw[cP];simp only[au,ay];go_big_quiet_step (fail);try(with_reducible refine aO ?_))
     rw[cT,bU];simp only[au,ay];clear eg;obtain⟨V,hV⟩:=w9nm y5.drew;have BV:Hid (ah y5.heap.size y5 V):=by show ah _ _ _;rw[←hV];exact(aF _ y5).drew
     try rw[hV]
     clear hV;have hb700:bs.length<=1000:=by have:=HB7.out;omega
     obtain⟨v',V2,hr2,ho2,hB2⟩:=mP V (ag av bs.length c') bs (HSL.out.below BV.out) (by omega);have b0:ah V.heap.size V (V.alloc (ap #[] 5)):=aR V _;have BV0:Hid (ah y5.heap.size y5 (V.alloc (ap #[] 5))):=BV.out.trans (b0.mono BV.out.size);go_wp2_with fail;refine aG ⟨⟨_,BV0.out⟩,rfl⟩ ?_;rw[bU];simp only[au,ay];clear b0 BV0;have BV2:w9h y5 V2:=BV.out.trans (hB2.out.mono BV.out.size);have hbl0:0<bs.length:=by rcases bs with _ | ⟨c,r⟩;exact absurd rfl HNE.out;simp
     obtain⟨Bc,cc,rfl,hBcN,hcc,hBcl,hrg⟩:=jm ho2.out hbl0;have hcur:cc<=aS/\∃cur,V2.heap[Bc]? =some (ap cur 5 (0,0)):=by
      rcases ho2.out.2 with⟨h',_⟩ | ⟨g',c'',cur,e,h1,h2,h3,h4,_⟩
      ·cases h'
      ·cases e;exact⟨h4,cur,h2⟩
     have HBB:Hid (y5.heap.size<=Bc/\bs.length<=cc/\Bc<V2.heap.size/\V2.rangeAt Bc 0 (an bs)/\cc<=aS/\∃cur,V2.heap[Bc]? =some (ap cur 5 (0,0))/\0<bs.length):=⟨aZ BV.out.size hBcN,hcc,hBcl,hrg,hcur.1,by obtain⟨c,hc⟩:=hcur.2;exact⟨c,hc,hbl0⟩⟩;clear ho2 hB2 hBcN hcc hBcl hrg hcur hbl0;go_wp2_with (at_builtin;refine wpList_append_run (.tmp 100) (.tmp 101) 76 rfl rfl _ _ _ rfl rfl hr2.out ?_);refine aG ⟨⟨V2,BV2.out⟩,rfl⟩ ?_;clear hr2;rw[mJ];simp only[au,ay];refine ky _ _ rfl rfl [(0,ao (some ⟨rq,0,none⟩)),(1,al g.v),(2,ag (some ⟨Bc,0,none⟩) bs.length cc),(3,ag (some ⟨gh,0,none⟩) k2 ch),(4,ab aD 1),(6,ab af 0),(7,ab aD 1)] _ rfl (fun z _=>Ga rq g _ _ _ _ _ _ z) ?_;refine aO ?_;rw[bU];simp only[au,ay];obtain⟨mc,hmc⟩:=w9nm ((mC (ao (some ⟨rq,0,none⟩)) g (ag (some ⟨Bc,0,none⟩) bs.length cc) (ag (some ⟨gh,0,none⟩) k2 ch) 1 0 0 1 0).toArray);rw[hmc];obtain⟨F,hF⟩:=w9nm (V2.alloc (ap mc 112));obtain⟨m,hm'⟩:∃b,V2.heap.size=b:=⟨_,rfl⟩;have BF:Hid (ah V2.heap.size V2 F):=by show ah _ _ _;rw[←hF];exact aR V2 _
     have BZF:w9h y5 F:=BV2.out.trans (BF.out.mono BV2.out.size);have RF:Hid (aB F m 112 (mC (ao (some ⟨rq,0,none⟩)) g (ag (some ⟨Bc,0,none⟩) bs.length cc) (ag (some ⟨gh,0,none⟩) k2 ch) 1 0 0 1 0)):=by show aB _ _ _ _;rw[←hF,←hm',←hmc];exact aB.new V2 _ _
     have HMM:Hid (V2.heap.size=m):=hm';go_wp2_with fail;clear hF hm' hmc;refine aG ⟨⟨F,BZF.out⟩,rfl⟩ ?_;rw[dW];simp only[be,bf];go_wp2_with fail;refine bl (results_tmp2 rfl _ _ _) rfl ?_;have hbat:(S.bat (co g bs)).1=S3:=by
      obtain⟨_,_,_,_,_,_,b1⟩:=HD1.out;obtain⟨_,_,_,_,_,_,b2⟩:=HD2.out;obtain⟨_,_,_,_,_,_,b3⟩:=HD3.out;have e2:co g bs= [(0,a9 0),(1,a9 0)]::l2:: [[(0,an (dt 1 g 0 1).bytes)]]:=by rw[←HEL.out];rfl
      rw[e2,b1,b2,HSBE.out,b3]
      rfl
     rw[hbat];obtain⟨f6,hq6,hn6⟩:=Q5.out.rig;have h1:=HTW.out.size;have h2:=BV2.out.size;have h5:=HMM.out;have hBB:=HBB.out;have hgl:=Z5.out.pg.lt;have hgw:=Z5.out.ge;have hgF:F.heap[gh]? =y5.heap[gh]? :=BZF.out.block gh hgl;have hbF:F.heap[Bc]? =V2.heap[Bc]? :=BF.out.block Bc hBB.2.2.1;have hlt:=(bG.isRes rq q0 q1 S3).lt hq6;obtain⟨cur5,hc5⟩:=Z5.out.cur;obtain⟨hb1,hb2,hb3,hb4,hb5,curb,hb6,hb7⟩:=hBB;refine⟨m,rfl,fun k=>f6 k\/(k=m\/k=Bc\/k=gh),⟨f6,_,(bG.isRes _ _ _ _).below hq6 BZF.out,⟨Bc,cc,gh,ch, ?_,rfl⟩,fun k hk hm=> ?_,rfl⟩,(HTW.out.trans (Turn.of_below BZF.out)).less fun k hk=> ?_⟩
     ·refine⟨?_,by omega,by omega,by omega,hb7,by show 0< (aM bs).length;rw[HCL.out];have:=HPB.out;omega,⟨hb2,hb5⟩,⟨curb,_,hbF.trans hb6⟩,da hb4 hbF,⟨cur5,_,hgF.trans hc5⟩,da Z5.out.pg.at_ hgF⟩;show aB F m _ (mC (ao (some ⟨rq,0,none⟩)) g (ag (some ⟨Bc,0,none⟩) bs.length cc) (ag (some ⟨gh,0,none⟩) (aM bs).length ch) 1 ((0:Nat):Int) ((0:Nat):Int) 1 ((0:Nat):Int));rw[HCL.out];exact RF.out
     ·have h3:=hlt k hk;rcases hm with rfl | rfl | rfl
      ·omega
      ·omega
      ·exact Z5.out.nf (hn6 _ hk).1
     ·rcases hk with h | rfl | rfl | rfl
      ·exact aA (hn6 _ h).1
      ·right;omega
      ·right;omega
      ·right;exact hgw
end
end
section
structure Pair (N:Nat) (x:ak) (h l:am) (hs ls:List (List am)):Prop where
 fs:x.ownsRow N 205 48 h hs.length hs.flatten
 sn:x.ownsRow N 205 48 l ls.length ls.flatten
 d:∀b,h.ownBlock=some b->l.ownBlock=some b->False
 n:N<=x.heap.size
theorem Pair.symm {N:Nat} {x:ak} {h l:am} {hs ls:List (List am)} (p:Pair N x h l hs ls):Pair N x l h ls hs:=⟨p.sn,p.fs,fun b h1 h2=>p.d b h2 h1,p.n⟩
theorem Pair.below {N:Nat} {x y:ak} {h l:am} {hs ls:List (List am)} (p:Pair N x h l hs ls) (hb:w9b x y):Pair N y h l hs ls:=
 ⟨eK p.fs hb,eK p.sn hb,p.d,aZ p.n hb.size⟩
theorem Pair.nil {N:Nat} {x:ak} (hn:N<=x.heap.size):Pair N x (ag none 0 0) (ag none 0 0) [] []:=⟨ft _ _ _ _,ft _ _ _ _,fun b h=>by simp[fq]at h,hn⟩
theorem Pair.app {N:Nat} {x:ak} {h l:am} {hs ls:List (List am)} (p:Pair N x h l hs ls) {b:List am} {B:Nat} (hb:b.length=48) (h1:∀u ∈ b,u.oneCell'=true) (hB:x.rangeAt B 0 b) (hl:hs.length<=1000000):
  ∃v y,(Builtin.append_ #[109, 109] 109 #[h,ag (some ⟨B,0,none⟩) 1 1]).run aj x=.ok v y/\Pair N y v l (hs++ [b]) ls/\x.grownBy y h.ownBlock/\x.heap.size<=y.heap.size:=by
 obtain⟨v,y,r,o,g,hv⟩:=oI N x h hs b B p.fs hb h1 hB hl p.n;have hy:x.heap.size<=y.heap.size:=g.size;have hll:=jb p.sn;refine⟨v,y,r,⟨o,yV p.sn fun k e=>g.block k (hll k e).2 (fun e'=>p.d k e'.symm e),fun k e1 e2=> ?_,aZ p.n hy⟩,g,hy⟩;rcases hv with hv | hv
 ·exact p.d k (hv▸e1) e2
 ·rw[hv]at e1;have:=(hll k e2).2;cases e1;omega
theorem Pair.row {N B:Nat} {x y:ak} {h l:am} {hs ls:List (List am)} {t:aV} {C:List am} (p:Pair N x h l hs ls) (g:x.grownBy y h.ownBlock) (hR:aB x B t C) (hne: 205 ≠t):aB y B t C:=
 (g.block B hR.lt (dK p.fs hR hne).symm).trans hR
theorem Pair.belowN {N M:Nat} {x y:ak} {h l:am} {hs ls:List (List am)} (p:Pair N x h l hs ls) (g:x.grownBy y h.ownBlock) {w:ak} (hb:ah M w x) (hM:M<=N):ah M w y:=
 hb.grown g (aZ hM p.n) (fun j e=>aZ hM (jb p.fs j e).1)
theorem Pair.slice {N:Nat} {x:ak} {h l:am} {hs ls:List (List am)} (p:Pair N x h l hs ls):∃a c,h=ag a hs.length c:=by
 obtain⟨a,c,e,_⟩:=fR p.fs;exact⟨a,c,e⟩
theorem Gc (t:aV) (h:t≠ 51 /\t≠ 205 /\t≠ 23 /\t≠ 29 /\t≠ 112 /\t≠ 254 /\t≠ 232 /\t≠ 259) (a:aN):aE t a=(do if←isAgg t then pure (al (←loadCells a (←sizeOf t)))else load a):=rfl
theorem Gd (t:aV) (h:t≠ 51 /\t≠ 205 /\t≠ 23 /\t≠ 29 /\t≠ 112 /\t≠ 254 /\t≠ 232 /\t≠ 259) (a:aN) (v:am):aL t a v=(do
  if v.cells.size≠(←sizeOf t)then stuck "storeVar: the value has not the size of the variable"
  storeCells a v.cells.toList):=rfl
theorem Ge {bs:List Int} {k:Nat}:eP bs k↔(fI bs=0/\(cN bs).mark=72/\(cN bs).seq=0/\(cN bs).index=(k:Int)):=by
 unfold eP fI cN;by_cases h:dF bs=true
 ·rw[if_pos h,if_pos h];exact⟨fun⟨_,a,b,c⟩=>⟨rfl,a,b,c⟩,fun⟨_,a,b,c⟩=>⟨h,a,b,c⟩⟩
 ·rw[if_neg h,if_neg h];exact⟨fun⟨a,_⟩=>absurd a h,fun⟨a,_⟩=>by cases a⟩
theorem Gf {bs:List Int} {k:Nat} (h:eP bs k):cN bs=Sct.of bs:=if_pos h.1
theorem aB.bodS {x:ak} {B:Nat} {p:Sct} {t:aV} (h:aB x B t p.cells) (hp:p.body.length=48):(aE 205 ⟨B,3,none⟩).run aj x=.ok (al (an p.body).toArray) x:=
 iH (jO (a:= [ab aq p.mark,ab aD p.seq,ab af p.index]) (b:=an p.body) h) (by rw[bi];exact hp)
theorem ql (rp bv hv hv':am) (g:Geo) (gen sup a q used:Int):(mC rp g bv hv gen sup a q used).set 7 hv'=mC rp g bv hv' gen sup a q used:=rfl
theorem Gg (x:ak) (v:am) (a:Nat) (q e:Int) (hv:v.oneCell'=true):∃y,(aL 259 ⟨x.heap.size,0,none⟩ (al (fM v a q e).toArray)).run aj (x.alloc (ap #[ag none 0 0,ab af 0,ab aD 0,ab af 0] 259))=.ok () y/\aB y x.heap.size 259 (fM v a q e)/\ah x.heap.size x y:=
 ⟨_,xm (a':=v) (b':=ab af (a:Int)) (c':=ab aD q) (d':=ab af e) ⟨hv,rfl,rfl,rfl⟩,aB.new x _ _,aR x _⟩
theorem Gh (x:ak) (im:Img) (h:im.body.length=48):∃y,(aL 232 ⟨x.heap.size,0,none⟩ (al im.cells.toArray)).run aj (x.alloc (ap eh.toArray 232))=.ok () y/\aB y x.heap.size 232 im.cells/\ah x.heap.size x y:=
 ⟨_,Cs (by rfl) (Img.cells_length h) (by
  intro v hv;rcases ec.1 hv with rfl | hv
  ·rfl
  ·exact iO _ v hv),aB.new x _ _,aR x _⟩
theorem eY.rowN {x:ak} {N:Nat} {v:am} {ts:List (List Img)} {eS eI:aV} (h:eY eS eI x N v ts):∃a c,v=ag a ts.length c/\∀(i:Nat) (t:List Img),ts[i]? =some t->∃g b d,a=some ⟨g,0,none⟩/\N<=g/\g<x.heap.size/\x.cell? ⟨g,i,none⟩=some (ag b t.length d)/\(0<t.length->∃gb,b=some ⟨gb,0,none⟩/\N<=gb/\gb<x.heap.size/\x.rangeAt gb 0 (bI t).flatten):=by
 obtain⟨vs,h1,h2,h3⟩:=h;obtain⟨a,c,rfl,_⟩:=fR h2;refine⟨a,c,by rw[h1],fun i t ht=> ?_⟩;have hi:i<ts.length:=(dp.1 ht).1;obtain⟨g,c',e,hN,_,h5,h6⟩:=jm h2 (by omega);obtain⟨u,hu⟩:∃u,vs[i]? =some u:=⟨_,bJ (by omega)⟩;have h7:=h3 i u t hu ht;obtain⟨b,d,rfl,_⟩:=fR h7;have h8:=h6 i _ hu;rw[dC]at h8;cases e;refine⟨g,b,d,rfl,hN,h5,h8,fun h0=> ?_⟩;obtain⟨gb,c2,e2,hN2,_,h9,h10⟩:=jm h7 h0;cases e2;exact⟨gb,rfl,hN2,h9,h10⟩
theorem PgsW.grownO {x y:ak} {g n:Nat} {now:List (List Int)} {row:Option Nat} (h:PgsW x g n now) (hne:row≠some g) (hg:x.grownBy y row) (hl:g<x.heap.size):PgsW y g n now:=by
 have e:=hg.block g hl (fun e=>hne e.symm);exact⟨da h.at_ e,fun j hj=>by
  have h1:=h.there j hj;unfold World.frozen? at h1 ⊢;rw[cL (a:=⟨g,0+j,none⟩) e];rw[show(Addr.mk g (0+j) none).block=g from rfl]at h1 ⊢;rw[e];exact h1,h.len,h.cnt⟩
theorem Gi (W:ak) (b o:Nat) (vs:List am):W.grownBy (W.setCells b o vs) (some b):=
 ⟨(fi (N:=0) (bq _) vs o W).os,(fi (N:=0) (bq _) vs o W).tape,(fi (N:=0) (bq _) vs o W).output,by rw[qP];exact aJ _,fun k hk hn=>li _ _ _ _ hk (fun e=>hn (by rw[e]))⟩
theorem Gj (hm:List (List Int)) {ts:List (List Img)} {k:Nat} {t:List Img} (h:ts[k]? =some t):((ts.take (k+1)).flatten).foldl cD hm=t.foldl cD (((ts.take k).flatten).foldl cD hm):=by
 rw[List.take_add_one,h];simp[List.foldl_append]
end
section
attribute [-simp] isAgg51 zeroValue51 isAgg205 zeroValue205 isAgg23 zeroValue23 isAgg29 zeroValue29 isAgg112 zeroValue112 isAgg254 zeroValue254
attribute [-go_sem] aE aL cZ
attribute [local go_sem] bC bD cV iR jZ iQ
attribute [-simp] isAgg232 zeroValue232
attribute [local go_sem] nL kv Gc Gd
def nQ (rq i hb:Nat):Option Sup->List am
 | none=>eR
 | some x=>mC (ao (some ⟨rq,0,none⟩)) x.g (ag none 0 0) (ag (some ⟨hb,0,none⟩) 1 1) x.gen i x.a x.q 0
theorem zb {rq i:Nat} {o:Option Sup} {C:List am} (h:nN rq i o C):∃hb,C=nQ rq i hb o:=by
 cases o with
 | none=>exact⟨0,h⟩
 | some x=>exact h
theorem zd (rq i hb:Nat) (o:Option Sup):(nQ rq i hb o).length=13:=by cases o<;>rfl
theorem ze (rq i hb:Nat) (o:Option Sup):∀v ∈ nQ rq i hb o,v.oneCell'=true:=by
 cases o with
 | none=>exact kW
 | some x=>exact qf rfl rfl rfl _ _ _ _ _ _
def mK:Option Sup->Option Sup->Bool
 | _,none=>false
 | none,some _=>true
 | some a,some b=>decide (a.gen<b.gen)
theorem zf {o0 o1:Option Sup}:newer o0 o1=if mK o0 o1=true then o1.map (fun x=>(1,x))else o0.map (fun x=>(0,x)):=by
 cases o1 with
 | none=>rfl
 | some b=>
  cases o0 with
  | none=>rfl
  | some a=>
   unfold newer mK;simp only[Option.map_some,decide_eq_true_eq]
section
theorem zg {rq q0 q1:Nat} {S:RS} {w:ak} {f:Nat->Prop} (h:bG rq q0 q1 S w f) (hr:S.Rdy) (hup:S.down=false) (hn2:2<=S.n0):
  az aj 66 #[ao (some ⟨rq,0,none⟩)] w fun e w'=>((∃M m fm,S.opn=some M/\e=ar (aQ #[ao (some ⟨m,0,none⟩),ab af 0])/\ka m rq M w' fm/\∀k,fm k->w.heap.size<=k)\/(S.opn=none/\e=ar (aQ #[ao none,ab af 11])))/\ah w.heap.size w w':=by
 have hby:=hr.bb.byt;have hop:∀nv,newer (S.supAt 0) (S.supAt 1)=nv->S.opn=match nv with
  | none=>none
  | some (k,x)=>if∀i,i<x.g.P->eP (S.rd (x.g.H+i)) i then some {g:=x.g,b:=((dV (S.homes x.g.H x.g.P) (cC S.rd 2 x.g.C x.a x.q).1).flatten).take x.g.bts.toNat,home:=S.homes x.g.H x.g.P,gen:=x.gen,sup:=k,at0:=(cC S.rd 2 x.g.C x.a x.q).2.1,seq:=(cC S.rd 2 x.g.C x.a x.q).2.2,used:=cE (cC S.rd 2 x.g.C x.a x.q).1}else none:=fun nv e=>by
  unfold RS.opn;rw[e]
  rfl
 have hNT:∀j x,newer (S.supAt 0) (S.supAt 1)=some (j,x)->j<=1/\x.g.fitsR S.n0 S.n1/\(x.a:Int)<x.g.r/\SupIn x.gen x.g x.a x.q:=fun j x e=>qk hby e;have HS0:=ae (yE h hby hup (i:=0) (by omega) (by omega));have HS1:Hid (∀y,w9b w y->az aj 161 #[ao (some ⟨rq,0,none⟩),ab af ((1:Nat):Int)] y fun e w'=>(∃C,e=ar (aQ #[al C.toArray,ab af 0])/\nN rq 1 (S.supAt 1) C)/\ah y.heap.size y w'):=fun y hy=>yE ((bG.isRes rq q0 q1 S).below h hy) hby hup (i:=1) (by omega) (by omega);obtain⟨o0,ho0⟩:=w9nm (S.supAt 0);obtain⟨o1,ho1⟩:=w9nm (S.supAt 1);rw[ho0,ho1]at hop hNT;rw[ho0]at HS0;rw[ho1]at HS1;have HOP:=ae hop;have HNT:=ae hNT;have HH:=ae h;have HRY:=ae hr;have HBY:=ae hby;have HUP:=ae hup;have hmx:=w9x
 clear h hr hup hn2 hby hop hNT ho0 ho1;go_enter func66,ntmps66;go_wp2_with fail;go_at_call 161;refine HS0.out.mono ?_;rintro e x1 ⟨⟨Ca,rfl,hva⟩,hb1⟩;obtain⟨ha,rfl⟩:=zb hva;obtain⟨AC,hAC⟩:=w9nm (nQ rq 0 ha o0);have hAL:AC.length=13/\∀v ∈ AC,v.oneCell'=true:=by rw[←hAC];exact⟨zd _ _ _ _,ze _ _ _ _⟩
 obtain⟨y1,ST1,r1,c1⟩:=qh x1 hAL.1 hAL.2;have K1:w9h w y1:=hb1.trans (c1.mono hb1.size);obtain⟨B4,hB4⟩:=w9nm x1.heap.size;rw[hB4]at ST1 r1;have HB4:Hid (w.heap.size<=B4):=by rw[←hB4];exact hb1.size
 have R4:=ae r1;rw[hAC];clear hva hb1 c1 r1;go_wp2_with fail;clear hB4 ST1;go_at_call 161;refine(HS1.out y1 K1.out).mono ?_;rintro e x2 ⟨⟨Cb,rfl,hvb⟩,hb2⟩;obtain⟨hbb,rfl⟩:=zb hvb;obtain⟨BC,hBC⟩:=w9nm (nQ rq 1 hbb o1);have hBL:BC.length=13/\∀v ∈ BC,v.oneCell'=true:=by rw[←hBC];exact⟨zd _ _ _ _,ze _ _ _ _⟩
 obtain⟨y2,ST2,r2,c2⟩:=qh x2 hBL.1 hBL.2;have K12:w9h y1 y2:=hb2.trans (c2.mono hb2.size);have K2:w9h w y2:=K1.out.trans (K12.out.mono K1.out.size);obtain⟨B6,hB6⟩:=w9nm x2.heap.size;rw[hB6]at ST2 r2;have HB6:Hid (w.heap.size<=B6):=by rw[←hB6];exact aZ K1.out.size hb2.size
 have R4':=ae (R4.out.below K12.out);have R6:=ae r2;have LA:=qg R4'.out hAL.1;obtain⟨y3,ST3,r3,c3⟩:=qh y2 hAL.1 hAL.2;have K3:=w9bt K2 c3;obtain⟨B7,hB7⟩:=w9nm y2.heap.size;rw[hB7]at ST3 r3;have HB7:Hid (w.heap.size<=B7):=by rw[←hB7];exact K2.out.size
 have R43:=ae (R4'.out.below c3);have R63:=ae (R6.out.below c3);have R7:=ae r3;rw[hBC];have HAC:=ae hAC;have HBC:=ae hBC;have HAL:=ae hAL;have HBL:=ae hBL;have LB3:=qg R63.out HBL.out.1;clear hvb hb2 c2 c3 r2 r3 hAC hBC hAL hBL;go_upto_region 10 with fail
 clear hB6 ST2 LA ST3 hB7;go_cut [55]from 20 (fun s55 wx=>s55=.bool (mK o0 o1)/\wx=y3)
 case first=>
  cases o1 with
  | none=>
   cases o0 with
   | none=>
    have a7:y3.cell? ⟨B4,7,none⟩=some (ag none 0 0):=by have:=R43.out;rw[←HAC.out]at this;exact this.cell 7 _ rfl
    have a8:y3.cell? ⟨B4,8,none⟩=some (ab aD 0):=by have:=R43.out;rw[←HAC.out]at this;exact this.cell 8 _ rfl
    have b7:y3.cell? ⟨B6,7,none⟩=some (ag none 0 0):=by have:=R63.out;rw[←HBC.out]at this;exact this.cell 7 _ rfl
    have b8:y3.cell? ⟨B6,8,none⟩=some (ab aD 0):=by have:=R63.out;rw[←HBC.out]at this;exact this.cell 8 _ rfl
    go_wp2_with fail
    go_meet
    case rel=>exact⟨rfl,rfl⟩
   | some xa=>
    have a7:y3.cell? ⟨B4,7,none⟩=some (ag (some ⟨ha,0,none⟩) 1 1):=by have:=R43.out;rw[←HAC.out]at this;exact this.cell 7 _ rfl
    have a8:y3.cell? ⟨B4,8,none⟩=some (ab aD xa.gen):=by have:=R43.out;rw[←HAC.out]at this;exact this.cell 8 _ rfl
    have b7:y3.cell? ⟨B6,7,none⟩=some (ag none 0 0):=by have:=R63.out;rw[←HBC.out]at this;exact this.cell 7 _ rfl
    have b8:y3.cell? ⟨B6,8,none⟩=some (ab aD 0):=by have:=R63.out;rw[←HBC.out]at this;exact this.cell 8 _ rfl
    go_wp2_with fail
    go_meet
    case rel=>exact⟨rfl,rfl⟩
  | some xb=>
   cases o0 with
   | none=>
    have a7:y3.cell? ⟨B4,7,none⟩=some (ag none 0 0):=by have:=R43.out;rw[←HAC.out]at this;exact this.cell 7 _ rfl
    have a8:y3.cell? ⟨B4,8,none⟩=some (ab aD 0):=by have:=R43.out;rw[←HAC.out]at this;exact this.cell 8 _ rfl
    have b7:y3.cell? ⟨B6,7,none⟩=some (ag (some ⟨hbb,0,none⟩) 1 1):=by have:=R63.out;rw[←HBC.out]at this;exact this.cell 7 _ rfl
    have b8:y3.cell? ⟨B6,8,none⟩=some (ab aD xb.gen):=by have:=R63.out;rw[←HBC.out]at this;exact this.cell 8 _ rfl
    go_wp2_with fail
    go_meet
    case rel=>exact⟨rfl,rfl⟩
   | some xa=>
    have a7:y3.cell? ⟨B4,7,none⟩=some (ag (some ⟨ha,0,none⟩) 1 1):=by have:=R43.out;rw[←HAC.out]at this;exact this.cell 7 _ rfl
    have a8:y3.cell? ⟨B4,8,none⟩=some (ab aD xa.gen):=by have:=R43.out;rw[←HAC.out]at this;exact this.cell 8 _ rfl
    have b7:y3.cell? ⟨B6,7,none⟩=some (ag (some ⟨hbb,0,none⟩) 1 1):=by have:=R63.out;rw[←HBC.out]at this;exact this.cell 7 _ rfl
    have b8:y3.cell? ⟨B6,8,none⟩=some (ab aD xb.gen):=by have:=R63.out;rw[←HBC.out]at this;exact this.cell 8 _ rfl
    by_cases hg:xa.gen<xb.gen
    ·have gg:decide (xa.gen<xb.gen)=true:=decide_eq_true hg;go_wp2_with fail
     go_meet
     case rel=>exact⟨congrArg Value.bool (Eq.symm (show mK (some xa) (some xb)=true from gg)),rfl⟩
    ·have gg:decide (xa.gen<xb.gen)=false:=decide_eq_false hg;go_wp2_with fail
     go_meet
     case rel=>exact⟨congrArg Value.bool (Eq.symm (show mK (some xa) (some xb)=false from gg)),rfl⟩
 case rest=>
  obtain⟨rfl,rfl⟩:=hcut;go_upto_if 55 with fail
  go_cut []from 20 (fun wx=>ah w.heap.size w wx/\((newer o0 o1=none/\wx.cell? ⟨B7,7,none⟩=some (ag none 0 0))\/∃(j hh:Nat) (x:Sup),newer o0 o1=some (j,x)/\aB wx B7 112 (mC (ao (some ⟨rq,0,none⟩)) x.g (ag none 0 0) (ag (some ⟨hh,0,none⟩) 1 1) x.gen j x.a x.q 0)))
  case first=>
   cases hu:mK o0 o1 with
   | true=>
    have hn:=zf (o0:=o0) (o1:=o1);rw[hu,if_pos rfl]at hn;obtain⟨xb,rfl⟩:∃x,o1=some x:=by
     cases o1 with
     | none=>cases o0<;>cases hu
     | some x=>exact⟨x,rfl⟩
    obtain⟨y4,ST4,r4,g4⟩:=yD (C:=BC) R7.out HAL.out.1 HBL.out.1 HBL.out.2;have K4:w9h w y4:=K3.out.grown g4 K3.out.size (fun k e=>by cases e;exact HB7.out);rw[←HBC.out]at r4;have HR4:=ae r4;have HN4:=ae hn;clear r4 g4 hn hu;go_wp2_with fail
    go_meet
    case rel=>exact⟨K4.out,aC ⟨1,hbb,xb,HN4.out,HR4.out⟩⟩
   | false=>
    have hn:=zf (o0:=o0) (o1:=o1);rw[hu,if_neg (by decide)]at hn;have r7:=R7.out;rw[←HAC.out]at r7;have HN4:=ae hn;have HR7:=ae r7;clear hn hu r7;go_wp2_with fail
    go_meet
    case rel=>
     refine⟨K3.out, ?_⟩;cases o0 with
     | none=>exact aA ⟨HN4.out,HR7.out.cell 7 _ rfl⟩
     | some xa=>exact aC ⟨0,ha,xa,HN4.out,HR7.out⟩
  case rest=>
   obtain⟨hK,hc⟩:=hcut;have K8:=ae hK;clear hK LB3;rcases hc with⟨hnn,c7⟩ | ⟨jj,hh,x,hne,r8⟩
   ·have HNO:Hid (S.opn=none):=HOP.out none hnn;clear hnn;go_wp2_with fail;refine bl (results_tmp2 rfl _ _ _) rfl ?_;exact⟨aC ⟨HNO.out,rfl⟩,K8.out⟩
   ·have HNE:=ae hne;have R8:=ae r8;have m7:wc.cell? ⟨B7,7,none⟩=some (ag (some ⟨hh,0,none⟩) 1 1):=r8.cell 7 _ rfl;clear hne r8;have HX:=ae (HNT.out _ _ HNE.out);have HE:Hid (S.opn=if∀i,i<x.g.P->eP (S.rd (x.g.H+i)) i then some {g:=x.g,b:=((dV (S.homes x.g.H x.g.P) (cC S.rd 2 x.g.C x.a x.q).1).flatten).take x.g.bts.toNat,home:=S.homes x.g.H x.g.P,gen:=x.gen,sup:=jj,at0:=(cC S.rd 2 x.g.C x.a x.q).2.1,seq:=(cC S.rd 2 x.g.C x.a x.q).2.2,used:=cE (cC S.rd 2 x.g.C x.a x.q).1}else none):=HOP.out _ HNE.out;have hg:x.g.good:=HX.out.2.1.1;have HN:=ae (Geo.nats hg);have HRO:=ae (Geo.room hg HX.out.2.1.2.1);have HGD:=ae hg;obtain⟨C8,hC8⟩:=w9nm (db x.g.bts x.g.pgs x.g.slots 2 (2+x.g.r) (2+x.g.r+x.g.pgs) (2+x.g.r+x.g.pgs+x.g.slots) (x.g.b+x.g.a));have HC8:=ae hC8;have HOF:Hid (∀y,az aj 11 #[al x.g.v] y fun e w'=>e=ar (al C8.toArray)/\ah y.heap.size y w'):=fun y=>by
     have:=mw x.g y;have e:x.g.szl=db x.g.bts x.g.pgs x.g.slots 2 (2+x.g.r) (2+x.g.r+x.g.pgs) (2+x.g.r+x.g.pgs+x.g.slots) (x.g.b+x.g.a):=if_pos hg;rw[e,hC8]at this;exact this
    have LG:=nM R8.out;have HY:w9h w wc:=K8.out;clear hg hC8 HOP HNT HNE;go_wp2_with fail;go_at_call 11;refine(HOF.out wc).mono ?_;rintro e z1 ⟨rfl,hb⟩;obtain⟨z2,ST8,r8,c8⟩:=nt z1 x.g.bts x.g.pgs x.g.slots 2 (2+x.g.r) (2+x.g.r+x.g.pgs) (2+x.g.r+x.g.pgs+x.g.slots) (x.g.b+x.g.a);rw[HC8.out]at ST8 r8;obtain⟨B8,hB8⟩:=w9nm z1.heap.size;rw[hB8]at ST8 r8;have hbz:w9b wc z2:=hb.trans (c8.mono hb.size);have R72:=ae (R8.out.below hbz);have R82:=ae r8;have K2z:=w9bt HY hbz;have HB8:Hid (w.heap.size<=B8):=by show _<=_;rw[←hB8];exact aZ HY.out.size hb.size
    obtain⟨sc8,hsc8⟩:=w9nm C8.toArray;rw[hsc8]at ST8;try rw[hsc8]
    have f7:z2.frozen? ⟨B7,7,none⟩=false:=R72.out.frozen 7;have c7:z2.cell? ⟨B7,7,none⟩=some (ag (some ⟨hh,0,none⟩) 1 1):=R72.out.cell 7 _ rfl;have R73:Hid (aB (z2.setCell ⟨B7,7,none⟩ (ag none 0 0)) B7 112 (mC (ao (some ⟨rq,0,none⟩)) x.g (ag none 0 0) (ag none 0 0) x.gen jj x.a x.q 0)):=by
     have:=R72.out.set 7 (ag none 0 0);rw[ql]at this;exact this
    have gg3:=iE z2 B7 7 (ag none 0 0);have h78:B7≠B8:=by have:=R8.out.lt;rw[←hB8];have:=hb.size;omega
    have R83:Hid (aB (z2.setCell ⟨B7,7,none⟩ (ag none 0 0)) B8 29 C8):=R82.out.grown gg3 (fun e=>h78 (Option.some.inj e));have K3z:Hid (ah w.heap.size w (z2.setCell ⟨B7,7,none⟩ (ag none 0 0))):=K2z.out.grown gg3 K2z.out.size (fun j e=>by cases e;exact HB7.out);clear hb r8 c8 hbz gg3 h78 LG m7;obtain⟨P,hP⟩:=w9nm x.g.P;obtain⟨H,hH⟩:=w9nm x.g.H;have HP:=ae hP;have HH2:=ae hH;have HPB:Hid (2<=P/\P<=15):=by have h1:=HN.out.p1;have h2:=HN.out.p2;show _/\_;omega
    have HHP:Hid (H+P<=S.n0/\(H:Int)=2+x.g.r/\(P:Int)=x.g.pgs):=by have h1:=HRO.out;have h2:=HN.out.c;have h3:=HN.out.p;show _/\_/\_;rw[←hH,←hP];unfold Geo.H;omega
    rw[hP,hH]at HE;have HRD:Hid (∀(y:ak) (i:Nat),w9b w y->i<S.n0->az aj 162 #[ao (some ⟨rq,0,none⟩),ab af 0,ab af (i:Int)] y fun e w'=>e=ar (aQ #[al (an (S.rd i)).toArray,ab af 0])/\ah y.heap.size y w'):=fun y i hy hi=>(HH.out.beside hy).rd0 HBY.out HUP.out hi;have HN4:Hid (S.n0<=4096):=HRY.out.n0;clear hP hH hsc8;go_wp2_with fail;clear ST8 f7 c7 hB8;go_loopw [9,10] (fun l i wr=>∃(k:Nat) (hv:am),k<=P/\i=ab af (k:Int)/\Hid (∀j,j<k->eP (S.rd (H+j)) j)/\Hid (aB wr B7 112 (mC (ao (some ⟨rq,0,none⟩)) x.g (ag none 0 0) hv x.gen jj x.a x.q 0))/\Hid (Pair w.heap.size wr hv l ((S.homes H k).map an) ((S.homes H k).map an))/\Hid (aB wr B8 29 C8)/\w9h w wr) (fun _ i _=>P - (aW i).toNat)
    case atStart=>exact⟨0,ag none 0 0,bq _,rfl,fun j hj=>absurd hj (by omega),R73,Pair.nil K3z.out.size,R83,K3z⟩
    case round=>
     obtain⟨k,hv,hk,rfl,HA,HM,HPR,HS8,HB⟩:=hrel;clear R8 K8 HY R72 R82 K2z R73 R83 K3z;have s1:wr.cell? ⟨B8,1,none⟩=some (ab af (P:Int)):=by have:=HS8.out;rw[←HC8.out]at this;rw[HHP.out.2.2];exact this.cell 1 _ rfl
     by_cases hlt:k<P
     ·have g3:decide ((k:Int)< (P:Int))=true:=by simpa using hlt
      have s4:wr.cell? ⟨B8,4,none⟩=some (ab af (2+x.g.r)):=by have:=HS8.out;rw[←HC8.out]at this;exact this.cell 4 _ rfl
      obtain⟨n2,hn2⟩:=w9nm (H+k);have hw:wrap64 (2+x.g.r+(k:Int))=(n2:Int):=by
       have h1:=HHP.out;have h2:=HN4.out;rw[gj _ (by omega),←hn2];omega
      have hiN:n2<S.n0:=by have:=HHP.out;omega
      have HR0:Hid (∀y,w9b w y->az aj 162 #[ao (some ⟨rq,0,none⟩),ab af 0,ab af (n2:Int)] y fun e w'=>e=ar (aQ #[al (an (S.rd n2)).toArray,ab af 0])/\ah y.heap.size y w'):=fun y hy=>HRD.out y n2 hy hiN;have hbb:aP (S.rd n2)/\(S.rd n2).length=64:=⟨(HBY.out n2 hiN).1,(HBY.out n2 hiN).2.1⟩;have HSN:=ae (yv S H k);rw[hn2]at HSN;have HDE:Hid (∀y,az aj 163 #[al (an (S.rd n2)).toArray] y fun e w'=>e=ar (aQ #[al (cN (S.rd n2)).cells.toArray,ab af (fI (S.rd n2))])/\ah y.heap.size y w'):=fun y=>rD _ hbb.1 hbb.2 y;have HPO:=ae (nn hbb.1 hbb.2);have HTE:=ae (Ge (bs:=S.rd n2) (k:=k));have HDO:=ae (fun h:eP (S.rd n2) k=>Gf h);have HBL:Hid ((S.rd n2).length=64):=hbb.2;obtain⟨bs,hbs⟩:=w9nm (S.rd n2);rw[hbs]at HR0 HSN HDE HPO HTE HDO HBL;have HBS:=ae hbs;obtain⟨p,hp⟩:=w9nm (cN bs);rw[hp]at HDE HPO HTE HDO;obtain⟨er,her⟩:=w9nm (fI bs);rw[her]at HDE HTE;have HN2:=ae hn2;clear hbb hiN hbs hp her hn2;go_wp2_with fail;go_at_call 162;refine(HR0.out wr HB.out).mono ?_;rintro e x3 ⟨rfl,hb⟩;obtain⟨x4,ST4,r4,hb4⟩:=ib x3 (dr HBL.out);have L4:=r4.blk (by rw[bi];exact HBL.out);have K4:w9h wr x4:=hb.trans (hb4.mono hb.size);clear hb hb4 r4 HR0 s1 s4 hw;go_wp2_with fail;clear ST4;go_at_call 163;refine(HDE.out x4).mono ?_;rintro e x5 ⟨rfl,hb⟩;obtain⟨x6,ST6,r6,hb6⟩:=nl x5 p HPO.out.len;obtain⟨Bp,hBp⟩:=w9nm x5.heap.size;rw[hBp]at ST6 r6;have K6:w9h wr x6:=K4.out.trans ((hb.trans (hb6.mono hb.size)).mono K4.out.size);have RP:=ae r6;have p0:x6.cell? ⟨Bp,0,none⟩=some (ab aq p.mark):=r6.cell 0 _ rfl;have p1:x6.cell? ⟨Bp,1,none⟩=some (ab aD p.seq):=r6.cell 1 _ rfl;have p2:x6.cell? ⟨Bp,2,none⟩=some (ab af p.index):=r6.cell 2 _ rfl;obtain⟨mk,hmk⟩:=w9nm p.mark;obtain⟨sq,hsq⟩:=w9nm p.seq;obtain⟨ix,hix⟩:=w9nm p.index;rw[hmk]at p0 HTE;rw[hsq]at p1 HTE;rw[hix]at p2 HTE;obtain⟨pc,hpc⟩:=w9nm p.cells.toArray;rw[hpc]at ST6;rw[hpc];clear hb hb6 r6 L4 hpc hmk hsq hix HDE;have HPR6:=ae (HPR.out.below K6.out);have HM6:=ae (HM.out.below K6.out);have HS86:=ae (HS8.out.below K6.out);have HB6:w9h w x6:=HB.out.trans (K6.out.mono HB.out.size);clear HM HS8 HPR;by_cases t0:er=0
      ·have u0:((er:Int) != 0)=false:=by simpa using t0
       by_cases t1:mk=72
       ·have u1:(mk != 72)=false:=by simpa using t1
        by_cases t2:sq=0
        ·have u2:(sq != 0)=false:=by simpa using t2
         by_cases t3:ix=(k:Int)
         ·have u3:(ix !=(k:Int))=false:=by simpa using t3
          have hPk:eP bs k:=HTE.out.2 ⟨t0,t1,t2,t3⟩;have HA':Hid (∀j,j<k+1->eP (S.rd (H+j)) j):=fun j hj=>by
           rcases Nat.lt_succ_iff_lt_or_eq.1 hj with h | rfl
           ·exact HA.out j h
           ·rw[HN2.out,HBS.out];exact hPk
          have hpo:p=Sct.of bs:=HDO.out hPk;have HEN:Hid ((S.homes H k).map an++ [an p.body]=(S.homes H (k+1)).map an):=by
           show _=_;rw[HSN.out,fp,hpo]
           rfl
          have HPB2:Hid ((an p.body).length=48):=by show _=_;rw[bi];exact HPO.out.len
          have HP1:Hid (∀u ∈ an p.body,u.oneCell'=true):=iO _;have LPz:∀z:dB B7 Bp x6,(aE 205 ⟨Bp,3,none⟩).run aj z.1=.ok (al (an p.body).toArray) z.1:=fun z=>aB.bodS (t:= 254) (z.2.2.trans RP.out) HPO.out.len;obtain⟨ha,hc,rfl⟩:=HPR6.out.slice;obtain⟨la,lc,rfl⟩:=HPR6.out.symm.slice;obtain⟨pb,hpb⟩:=w9nm (an p.body);rw[hpb]at LPz HEN HPB2 HP1;obtain⟨hs,hhs⟩:=w9nm ((S.homes H k).map an);have HHL:Hid (hs.length=k):=by show _=_;rw[←hhs,fZ,qd]
          rw[hhs]at HPR6 HM6 HEN;rw[hhs];rw[HHL.out]at HM6;rw[HHL.out];have e7:∀z:dB B7 Bp x6,z.1.cell? ⟨B7,7,none⟩=some (ag ha k hc):=fun z=>(cL (a:=⟨B7,7,none⟩) z.2.1).trans (HM6.out.cell 7 _ rfl);have HPR6':Hid (Pair w.heap.size x6 (ag ha k hc) (ag la k lc) hs hs):=by have:=HPR6.out;rwa [HHL.out]at this
          have hk15:k<15:=by have:=HPB.out;omega
          clear hPk hpo hpb hhs HPR6 HTE HDO HSN HPO;go_wp2_with fail;clear ST6 hBp;refine ex (fun x=>∃y:dB B7 Bp x6,x=y.1) 11 (.takes [0,1,2,3,6,7,8] (.two 4 9 (.two 5 9 (.one 9 (.one 10 .leaf)) (.one 5 (.one 10 .leaf))) (.one 4 (.one 5 (.one 10 .leaf))))) hmx (by kernel_rfl) ⟨⟨x6.drew,rfl,rfl⟩,rfl⟩ ?_;repeat(rw[cP];simp only[au,ay];go_big_quiet_step (fail);try(with_reducible refine aO ?_))
          rw[cT,qj];simp only[au,ay];clear e7 LPz;obtain⟨V,hV⟩:=w9nm x6.drew;have BV:Hid (ah x6.heap.size x6 V):=by show ah _ _ _;rw[←hV];exact(aF _ x6).drew
          try rw[hV]
          clear hV;have PV0:=ae (HPR6'.out.below BV.out);have MV0:=ae (HM6.out.below BV.out);have SV0:=ae (HS86.out.below BV.out);have QV0:=ae (RP.out.below BV.out);have KV0:w9h w V:=HB6.out.trans (BV.out.mono HB6.out.size);have IV0:Hid (V.heap[B7]? =x6.heap[B7]? /\V.heap[Bp]? =x6.heap[Bp]?):=⟨BV.out.block _ HM6.out.lt,BV.out.block _ RP.out.lt⟩;clear HPR6' BV;refine⟨?_, ?_⟩
          ·obtain⟨W1,hx1⟩:=w9nm (V.alloc (ap pb.toArray 205));have SB:(cO 109 1 #[(0,al pb.toArray)]).run aj V=.ok (ag (some ⟨V.heap.size,0,none⟩) 1 1) W1:=by rw[←hx1];exact kM V _ HPB2.out
           have hb1:ah V.heap.size V W1:=by rw[←hx1];exact aR V _
           obtain⟨Ba,hBa⟩:=w9nm V.heap.size;have HBa:Hid (aB W1 Ba 205 pb):=by show aB _ _ _ _;rw[←hx1,←hBa];exact aB.new V _ _
           have GBa:Hid (∀b,(Value.slice ha k hc).ownBlock=some b->b<Ba):=fun b e=>by rw[←hBa];exact(jb PV0.out.fs b e).2
           rw[hBa]at SB;have PV1:=ae (PV0.out.below hb1);have MV1:=ae (MV0.out.below hb1);have SV1:=ae (SV0.out.below hb1);have QV1:=ae (QV0.out.below hb1);have KV1:=w9bt KV0 hb1;have IV1:Hid (W1.heap[B7]? =x6.heap[B7]? /\W1.heap[Bp]? =x6.heap[Bp]?):=⟨(hb1.block _ MV0.out.lt).trans IV0.out.1,(hb1.block _ QV0.out.lt).trans IV0.out.2⟩;clear hx1 hb1 hBa PV0 MV0 SV0 QV0 KV0 IV0;refine dq _ _ _ rfl rfl [(0,al pb.toArray)] _ rfl SB ?_;clear SB;go_wp2_with fail;refine aG ⟨⟨W1,IV1.out⟩,rfl⟩ ?_;rw[qj];simp only[au,ay];refine⟨?_, ?_⟩
           ·obtain⟨v2,W2,ra,p2,gr,hsz⟩:=(PV1.out).app HPB2.out HP1.out HBa.out.range (by rw[HHL.out];omega);have RA:=ae ra;have MV2:=ae ((PV1.out).row gr MV1.out (by decide));have SV2:=ae ((PV1.out).row gr SV1.out (by decide));have QV2:=ae ((PV1.out).row gr QV1.out (by decide));have KV2:w9h w W2:=(PV1.out).belowN gr KV1.out (aJ _);have IV2:Hid (W2.heap[B7]? =x6.heap[B7]? /\W2.heap[Bp]? =x6.heap[Bp]?):=⟨(gr.block _ MV1.out.lt (dK (PV1.out).fs MV1.out (by decide)).symm).trans IV1.out.1,(gr.block _ QV1.out.lt (dK (PV1.out).fs QV1.out (by decide)).symm).trans IV1.out.2⟩;rw[HEN.out]at p2;have PV2:=ae p2;clear HBa;clear ra p2 gr hsz PV1 MV1 SV1 QV1 KV1 IV1;go_wp2_with ((at_builtin;refine wpList_append_run (.tmp 107) (.tmp 110) 109 rfl rfl _ _ _ rfl rfl RA.out ?_));refine aG ⟨⟨W2,IV2.out⟩,rfl⟩ ?_;clear RA;rw[bU];simp only[au,ay];obtain⟨W3,hx3⟩:=w9nm (W2.alloc (ap pb.toArray 205));have SB:(cO 109 1 #[(0,al pb.toArray)]).run aj W2=.ok (ag (some ⟨W2.heap.size,0,none⟩) 1 1) W3:=by rw[←hx3];exact kM W2 _ HPB2.out
            have hb3:ah W2.heap.size W2 W3:=by rw[←hx3];exact aR W2 _
            obtain⟨Bb,hBb⟩:=w9nm W2.heap.size;have HBb:Hid (aB W3 Bb 205 pb):=by show aB _ _ _ _;rw[←hx3,←hBb];exact aB.new W2 _ _
            have GBb:Hid (True):=trivial;rw[hBb]at SB;have PV3:=ae (PV2.out.below hb3);have MV3:=ae (MV2.out.below hb3);have SV3:=ae (SV2.out.below hb3);have QV3:=ae (QV2.out.below hb3);have KV3:=w9bt KV2 hb3;have IV3:Hid (W3.heap[B7]? =x6.heap[B7]? /\W3.heap[Bp]? =x6.heap[Bp]?):=⟨(hb3.block _ MV2.out.lt).trans IV2.out.1,(hb3.block _ QV2.out.lt).trans IV2.out.2⟩;clear hx3 hb3 hBb PV2 MV2 SV2 QV2 KV2 IV2;refine dq _ _ _ rfl rfl [(0,al pb.toArray)] _ rfl SB ?_;clear SB;go_wp2_with fail;refine aG ⟨⟨W3,IV3.out⟩,rfl⟩ ?_;rw[bU];simp only[au,ay];obtain⟨v4,W4,ra,p2,gr,hsz⟩:=(PV3.out.symm).app HPB2.out HP1.out HBb.out.range (by rw[HHL.out];omega);have RA:=ae ra;have MV4:=ae ((PV3.out.symm).row gr MV3.out (by decide));have SV4:=ae ((PV3.out.symm).row gr SV3.out (by decide));have QV4:=ae ((PV3.out.symm).row gr QV3.out (by decide));have KV4:w9h w W4:=(PV3.out.symm).belowN gr KV3.out (aJ _);have IV4:Hid (W4.heap[B7]? =x6.heap[B7]? /\W4.heap[Bp]? =x6.heap[Bp]?):=⟨(gr.block _ MV3.out.lt (dK (PV3.out.symm).fs MV3.out (by decide)).symm).trans IV3.out.1,(gr.block _ QV3.out.lt (dK (PV3.out.symm).fs QV3.out (by decide)).symm).trans IV3.out.2⟩;rw[HEN.out]at p2;have PV4:=ae p2.symm;clear HBb;clear ra p2 gr hsz PV3 MV3 SV3 QV3 KV3 IV3;go_wp2_with ((at_builtin;refine wpList_append_run (.tmp 112) (.tmp 115) 109 rfl rfl _ _ _ rfl rfl RA.out ?_));refine aG ⟨⟨W4,IV4.out⟩,rfl⟩ ?_;clear RA;rw[dW];simp only[be,bf];obtain⟨h2,hc2,hhv⟩:∃a c,v2=ag a (k+1) c:=by
             obtain⟨a,c,e⟩:=PV4.out.slice;rw[←HEN.out,cX,HHL.out]at e;exact⟨a,c,e⟩
            subst hhv;have f7:W4.frozen? ⟨B7,7,none⟩=false:=MV4.out.frozen 7;have c7:W4.cell? ⟨B7,7,none⟩=some (ag ha k hc):=MV4.out.cell 7 _ rfl;have gg3:=iE W4 B7 7 (ag h2 (k+1) hc2);have PZ:Hid (Pair w.heap.size (W4.setCell ⟨B7,7,none⟩ (ag h2 (k+1) hc2)) (ag h2 (k+1) hc2) v4 ((S.homes H (k+1)).map an) ((S.homes H (k+1)).map an)):=⟨PV4.out.fs.kept gg3 (aC (dK PV4.out.fs MV4.out (by decide))),PV4.out.sn.kept gg3 (aC (dK PV4.out.sn MV4.out (by decide))),PV4.out.d,aZ PV4.out.n gg3.size⟩;have SZ:Hid (aB (W4.setCell ⟨B7,7,none⟩ (ag h2 (k+1) hc2)) B8 29 C8):=SV4.out.grown gg3 (fun e=>by
             have h1:=MV4.out;have h3:=SV4.out;obtain rfl:=Option.some.inj e;have h4:=h1.symm.trans h3;injection h4 with h4;injection h4 with _ h4;exact absurd h4 (by decide))
            have KZ:Hid (ah w.heap.size w (W4.setCell ⟨B7,7,none⟩ (ag h2 (k+1) hc2))):=KV4.out.grown gg3 KV4.out.size (fun j e=>by cases e;exact HB7.out);have MZ:Hid (aB (W4.setCell ⟨B7,7,none⟩ (ag h2 (k+1) hc2)) B7 112 (mC (ao (some ⟨rq,0,none⟩)) x.g (ag none 0 0) (ag h2 (k+1) hc2) x.gen jj x.a x.q 0)):=by
             have:=MV4.out.set 7 (ag h2 (k+1) hc2);rw[ql]at this;exact this
            clear gg3;go_wp2_with fail;go_roundw
            case rel=>exact⟨k+1,_,hlt,by go_num,HA',MZ,PZ,SZ,KZ⟩
            case measure=>simp[aW];omega
           ·obtain⟨W2,hx2⟩:=w9nm (W1.alloc (ap pb.toArray 205));have SB:(cO 109 1 #[(0,al pb.toArray)]).run aj W1=.ok (ag (some ⟨W1.heap.size,0,none⟩) 1 1) W2:=by rw[←hx2];exact kM W1 _ HPB2.out
            have hb2:ah W1.heap.size W1 W2:=by rw[←hx2];exact aR W1 _
            obtain⟨Bb,hBb⟩:=w9nm W1.heap.size;have HBb:Hid (aB W2 Bb 205 pb):=by show aB _ _ _ _;rw[←hx2,←hBb];exact aB.new W1 _ _
            have GBb:Hid (∀b,(Value.slice ha k hc).ownBlock=some b->b<Bb):=fun b e=>by rw[←hBb];exact(jb PV1.out.fs b e).2
            rw[hBb]at SB;have PV2:=ae (PV1.out.below hb2);have MV2:=ae (MV1.out.below hb2);have SV2:=ae (SV1.out.below hb2);have QV2:=ae (QV1.out.below hb2);have KV2:=w9bt KV1 hb2;have IV2:Hid (W2.heap[B7]? =x6.heap[B7]? /\W2.heap[Bp]? =x6.heap[Bp]?):=⟨(hb2.block _ MV1.out.lt).trans IV1.out.1,(hb2.block _ QV1.out.lt).trans IV1.out.2⟩;have HBa':=ae (HBa.out.below hb2);clear HBa;have HBa:=HBa';clear HBa';clear hx2 hb2 hBb PV1 MV1 SV1 QV1 KV1 IV1;refine dq _ _ _ rfl rfl [(0,al pb.toArray)] _ rfl SB ?_;clear SB;go_wp2_with fail;refine aG ⟨⟨W2,IV2.out⟩,rfl⟩ ?_;rw[bU];simp only[au,ay];obtain⟨v3,W3,ra,p2,gr,hsz⟩:=(PV2.out).app HPB2.out HP1.out HBa.out.range (by rw[HHL.out];omega);have RA:=ae ra;have MV3:=ae ((PV2.out).row gr MV2.out (by decide));have SV3:=ae ((PV2.out).row gr SV2.out (by decide));have QV3:=ae ((PV2.out).row gr QV2.out (by decide));have KV3:w9h w W3:=(PV2.out).belowN gr KV2.out (aJ _);have IV3:Hid (W3.heap[B7]? =x6.heap[B7]? /\W3.heap[Bp]? =x6.heap[Bp]?):=⟨(gr.block _ MV2.out.lt (dK (PV2.out).fs MV2.out (by decide)).symm).trans IV2.out.1,(gr.block _ QV2.out.lt (dK (PV2.out).fs QV2.out (by decide)).symm).trans IV2.out.2⟩;rw[HEN.out]at p2;have PV3:=ae p2;clear HBa;have HBb':Hid (aB W3 Bb 205 pb):=(gr.block _ HBb.out.lt (fun e=>by have:=GBb.out _ e.symm;omega)).trans HBb.out;clear HBb;have HBb:=HBb';clear HBb';clear ra p2 gr hsz PV2 MV2 SV2 QV2 KV2 IV2;go_wp2_with ((at_builtin;refine wpList_append_run (.tmp 107) (.tmp 110) 109 rfl rfl _ _ _ rfl rfl RA.out ?_));refine aG ⟨⟨W3,IV3.out⟩,rfl⟩ ?_;clear RA;rw[bU];simp only[au,ay];obtain⟨v4,W4,ra,p2,gr,hsz⟩:=(PV3.out.symm).app HPB2.out HP1.out HBb.out.range (by rw[HHL.out];omega);have RA:=ae ra;have MV4:=ae ((PV3.out.symm).row gr MV3.out (by decide));have SV4:=ae ((PV3.out.symm).row gr SV3.out (by decide));have QV4:=ae ((PV3.out.symm).row gr QV3.out (by decide));have KV4:w9h w W4:=(PV3.out.symm).belowN gr KV3.out (aJ _);have IV4:Hid (W4.heap[B7]? =x6.heap[B7]? /\W4.heap[Bp]? =x6.heap[Bp]?):=⟨(gr.block _ MV3.out.lt (dK (PV3.out.symm).fs MV3.out (by decide)).symm).trans IV3.out.1,(gr.block _ QV3.out.lt (dK (PV3.out.symm).fs QV3.out (by decide)).symm).trans IV3.out.2⟩;rw[HEN.out]at p2;have PV4:=ae p2.symm;clear HBb;clear ra p2 gr hsz PV3 MV3 SV3 QV3 KV3 IV3;go_wp2_with ((at_builtin;refine wpList_append_run (.tmp 112) (.tmp 115) 109 rfl rfl _ _ _ rfl rfl RA.out ?_));refine aG ⟨⟨W4,IV4.out⟩,rfl⟩ ?_;clear RA;rw[dW];simp only[be,bf];obtain⟨h2,hc2,hhv⟩:∃a c,v3=ag a (k+1) c:=by
             obtain⟨a,c,e⟩:=PV4.out.slice;rw[←HEN.out,cX,HHL.out]at e;exact⟨a,c,e⟩
            subst hhv;have f7:W4.frozen? ⟨B7,7,none⟩=false:=MV4.out.frozen 7;have c7:W4.cell? ⟨B7,7,none⟩=some (ag ha k hc):=MV4.out.cell 7 _ rfl;have gg3:=iE W4 B7 7 (ag h2 (k+1) hc2);have PZ:Hid (Pair w.heap.size (W4.setCell ⟨B7,7,none⟩ (ag h2 (k+1) hc2)) (ag h2 (k+1) hc2) v4 ((S.homes H (k+1)).map an) ((S.homes H (k+1)).map an)):=⟨PV4.out.fs.kept gg3 (aC (dK PV4.out.fs MV4.out (by decide))),PV4.out.sn.kept gg3 (aC (dK PV4.out.sn MV4.out (by decide))),PV4.out.d,aZ PV4.out.n gg3.size⟩;have SZ:Hid (aB (W4.setCell ⟨B7,7,none⟩ (ag h2 (k+1) hc2)) B8 29 C8):=SV4.out.grown gg3 (fun e=>by
             have h1:=MV4.out;have h3:=SV4.out;obtain rfl:=Option.some.inj e;have h4:=h1.symm.trans h3;injection h4 with h4;injection h4 with _ h4;exact absurd h4 (by decide))
            have KZ:Hid (ah w.heap.size w (W4.setCell ⟨B7,7,none⟩ (ag h2 (k+1) hc2))):=KV4.out.grown gg3 KV4.out.size (fun j e=>by cases e;exact HB7.out);have MZ:Hid (aB (W4.setCell ⟨B7,7,none⟩ (ag h2 (k+1) hc2)) B7 112 (mC (ao (some ⟨rq,0,none⟩)) x.g (ag none 0 0) (ag h2 (k+1) hc2) x.gen jj x.a x.q 0)):=by
             have:=MV4.out.set 7 (ag h2 (k+1) hc2);rw[ql]at this;exact this
            clear gg3;go_wp2_with fail;go_roundw
            case rel=>exact⟨k+1,_,hlt,by go_num,HA',MZ,PZ,SZ,KZ⟩
            case measure=>simp[aW];omega
          ·obtain⟨W1,hx1⟩:=w9nm (V.alloc (ap pb.toArray 205));have SB:(cO 109 1 #[(0,al pb.toArray)]).run aj V=.ok (ag (some ⟨V.heap.size,0,none⟩) 1 1) W1:=by rw[←hx1];exact kM V _ HPB2.out
           have hb1:ah V.heap.size V W1:=by rw[←hx1];exact aR V _
           obtain⟨Bb,hBb⟩:=w9nm V.heap.size;have HBb:Hid (aB W1 Bb 205 pb):=by show aB _ _ _ _;rw[←hx1,←hBb];exact aB.new V _ _
           have GBb:Hid (∀b,(Value.slice ha k hc).ownBlock=some b->b<Bb):=fun b e=>by rw[←hBb];exact(jb PV0.out.fs b e).2
           rw[hBb]at SB;have PV1:=ae (PV0.out.below hb1);have MV1:=ae (MV0.out.below hb1);have SV1:=ae (SV0.out.below hb1);have QV1:=ae (QV0.out.below hb1);have KV1:=w9bt KV0 hb1;have IV1:Hid (W1.heap[B7]? =x6.heap[B7]? /\W1.heap[Bp]? =x6.heap[Bp]?):=⟨(hb1.block _ MV0.out.lt).trans IV0.out.1,(hb1.block _ QV0.out.lt).trans IV0.out.2⟩;clear hx1 hb1 hBb PV0 MV0 SV0 QV0 KV0 IV0;refine dq _ _ _ rfl rfl [(0,al pb.toArray)] _ rfl SB ?_;clear SB;go_wp2_with fail;refine aG ⟨⟨W1,IV1.out⟩,rfl⟩ ?_;rw[bU];simp only[au,ay];obtain⟨W2,hx2⟩:=w9nm (W1.alloc (ap pb.toArray 205));have SB:(cO 109 1 #[(0,al pb.toArray)]).run aj W1=.ok (ag (some ⟨W1.heap.size,0,none⟩) 1 1) W2:=by rw[←hx2];exact kM W1 _ HPB2.out
           have hb2:ah W1.heap.size W1 W2:=by rw[←hx2];exact aR W1 _
           obtain⟨Ba,hBa⟩:=w9nm W1.heap.size;have HBa:Hid (aB W2 Ba 205 pb):=by show aB _ _ _ _;rw[←hx2,←hBa];exact aB.new W1 _ _
           have GBa:Hid (∀b,(Value.slice ha k hc).ownBlock=some b->b<Ba):=fun b e=>by rw[←hBa];exact(jb PV1.out.fs b e).2
           rw[hBa]at SB;have PV2:=ae (PV1.out.below hb2);have MV2:=ae (MV1.out.below hb2);have SV2:=ae (SV1.out.below hb2);have QV2:=ae (QV1.out.below hb2);have KV2:=w9bt KV1 hb2;have IV2:Hid (W2.heap[B7]? =x6.heap[B7]? /\W2.heap[Bp]? =x6.heap[Bp]?):=⟨(hb2.block _ MV1.out.lt).trans IV1.out.1,(hb2.block _ QV1.out.lt).trans IV1.out.2⟩;have HBb':=ae (HBb.out.below hb2);clear HBb;have HBb:=HBb';clear HBb';clear hx2 hb2 hBa PV1 MV1 SV1 QV1 KV1 IV1;refine dq _ _ _ rfl rfl [(0,al pb.toArray)] _ rfl SB ?_;clear SB;go_wp2_with fail;refine aG ⟨⟨W2,IV2.out⟩,rfl⟩ ?_;rw[bU];simp only[au,ay];obtain⟨v3,W3,ra,p2,gr,hsz⟩:=(PV2.out).app HPB2.out HP1.out HBa.out.range (by rw[HHL.out];omega);have RA:=ae ra;have MV3:=ae ((PV2.out).row gr MV2.out (by decide));have SV3:=ae ((PV2.out).row gr SV2.out (by decide));have QV3:=ae ((PV2.out).row gr QV2.out (by decide));have KV3:w9h w W3:=(PV2.out).belowN gr KV2.out (aJ _);have IV3:Hid (W3.heap[B7]? =x6.heap[B7]? /\W3.heap[Bp]? =x6.heap[Bp]?):=⟨(gr.block _ MV2.out.lt (dK (PV2.out).fs MV2.out (by decide)).symm).trans IV2.out.1,(gr.block _ QV2.out.lt (dK (PV2.out).fs QV2.out (by decide)).symm).trans IV2.out.2⟩;rw[HEN.out]at p2;have PV3:=ae p2;clear HBa;have HBb':Hid (aB W3 Bb 205 pb):=(gr.block _ HBb.out.lt (fun e=>by have:=GBb.out _ e.symm;omega)).trans HBb.out;clear HBb;have HBb:=HBb';clear HBb';clear ra p2 gr hsz PV2 MV2 SV2 QV2 KV2 IV2;go_wp2_with ((at_builtin;refine wpList_append_run (.tmp 107) (.tmp 110) 109 rfl rfl _ _ _ rfl rfl RA.out ?_));refine aG ⟨⟨W3,IV3.out⟩,rfl⟩ ?_;clear RA;rw[bU];simp only[au,ay];obtain⟨v4,W4,ra,p2,gr,hsz⟩:=(PV3.out.symm).app HPB2.out HP1.out HBb.out.range (by rw[HHL.out];omega);have RA:=ae ra;have MV4:=ae ((PV3.out.symm).row gr MV3.out (by decide));have SV4:=ae ((PV3.out.symm).row gr SV3.out (by decide));have QV4:=ae ((PV3.out.symm).row gr QV3.out (by decide));have KV4:w9h w W4:=(PV3.out.symm).belowN gr KV3.out (aJ _);have IV4:Hid (W4.heap[B7]? =x6.heap[B7]? /\W4.heap[Bp]? =x6.heap[Bp]?):=⟨(gr.block _ MV3.out.lt (dK (PV3.out.symm).fs MV3.out (by decide)).symm).trans IV3.out.1,(gr.block _ QV3.out.lt (dK (PV3.out.symm).fs QV3.out (by decide)).symm).trans IV3.out.2⟩;rw[HEN.out]at p2;have PV4:=ae p2.symm;clear HBb;clear ra p2 gr hsz PV3 MV3 SV3 QV3 KV3 IV3;go_wp2_with ((at_builtin;refine wpList_append_run (.tmp 112) (.tmp 115) 109 rfl rfl _ _ _ rfl rfl RA.out ?_));refine aG ⟨⟨W4,IV4.out⟩,rfl⟩ ?_;clear RA;rw[dW];simp only[be,bf];obtain⟨h2,hc2,hhv⟩:∃a c,v3=ag a (k+1) c:=by
            obtain⟨a,c,e⟩:=PV4.out.slice;rw[←HEN.out,cX,HHL.out]at e;exact⟨a,c,e⟩
           subst hhv;have f7:W4.frozen? ⟨B7,7,none⟩=false:=MV4.out.frozen 7;have c7:W4.cell? ⟨B7,7,none⟩=some (ag ha k hc):=MV4.out.cell 7 _ rfl;have gg3:=iE W4 B7 7 (ag h2 (k+1) hc2);have PZ:Hid (Pair w.heap.size (W4.setCell ⟨B7,7,none⟩ (ag h2 (k+1) hc2)) (ag h2 (k+1) hc2) v4 ((S.homes H (k+1)).map an) ((S.homes H (k+1)).map an)):=⟨PV4.out.fs.kept gg3 (aC (dK PV4.out.fs MV4.out (by decide))),PV4.out.sn.kept gg3 (aC (dK PV4.out.sn MV4.out (by decide))),PV4.out.d,aZ PV4.out.n gg3.size⟩;have SZ:Hid (aB (W4.setCell ⟨B7,7,none⟩ (ag h2 (k+1) hc2)) B8 29 C8):=SV4.out.grown gg3 (fun e=>by
            have h1:=MV4.out;have h3:=SV4.out;obtain rfl:=Option.some.inj e;have h4:=h1.symm.trans h3;injection h4 with h4;injection h4 with _ h4;exact absurd h4 (by decide))
           have KZ:Hid (ah w.heap.size w (W4.setCell ⟨B7,7,none⟩ (ag h2 (k+1) hc2))):=KV4.out.grown gg3 KV4.out.size (fun j e=>by cases e;exact HB7.out);have MZ:Hid (aB (W4.setCell ⟨B7,7,none⟩ (ag h2 (k+1) hc2)) B7 112 (mC (ao (some ⟨rq,0,none⟩)) x.g (ag none 0 0) (ag h2 (k+1) hc2) x.gen jj x.a x.q 0)):=by
            have:=MV4.out.set 7 (ag h2 (k+1) hc2);rw[ql]at this;exact this
           clear gg3;go_wp2_with fail;go_roundw
           case rel=>exact⟨k+1,_,hlt,by go_num,HA',MZ,PZ,SZ,KZ⟩
           case measure=>simp[aW];omega
         ·have u3:(ix !=(k:Int))=true:=by simpa using t3
          have HNO:Hid (S.opn=none):=by
           show _=_;rw[HE.out];refine if_neg fun h=> ?_;have h1:=h k hlt;rw[HN2.out,HBS.out]at h1;have h2:=HTE.out.1 h1;omega
          go_wp2_with fail;refine bl (results_tmp2 rfl _ _ _) rfl ?_;exact⟨aC ⟨HNO.out,rfl⟩,HB6.out⟩
        ·have u2:(sq != 0)=true:=by simpa using t2
         have HNO:Hid (S.opn=none):=by
          show _=_;rw[HE.out];refine if_neg fun h=> ?_;have h1:=h k hlt;rw[HN2.out,HBS.out]at h1;have h2:=HTE.out.1 h1;omega
         go_wp2_with fail;refine bl (results_tmp2 rfl _ _ _) rfl ?_;exact⟨aC ⟨HNO.out,rfl⟩,HB6.out⟩
       ·have u1:(mk != 72)=true:=by simpa using t1
        have HNO:Hid (S.opn=none):=by
         show _=_;rw[HE.out];refine if_neg fun h=> ?_;have h1:=h k hlt;rw[HN2.out,HBS.out]at h1;have h2:=HTE.out.1 h1;omega
        go_wp2_with fail;refine bl (results_tmp2 rfl _ _ _) rfl ?_;exact⟨aC ⟨HNO.out,rfl⟩,HB6.out⟩
      ·have u0:((er:Int) != 0)=true:=by simpa using t0
       have HNO:Hid (S.opn=none):=by
        show _=_;rw[HE.out];refine if_neg fun h=> ?_;have h1:=h k hlt;rw[HN2.out,HBS.out]at h1;have h2:=HTE.out.1 h1;omega
       go_wp2_with fail;refine bl (results_tmp2 rfl _ _ _) rfl ?_;exact⟨aC ⟨HNO.out,rfl⟩,HB6.out⟩
     ·obtain rfl:k=P:=by omega
      have g3:decide ((k:Int)< (k:Int))=false:=by simp
      clear hlt hk;have hop:S.opn=some {g:=x.g,b:=((dV (S.homes H k) (cC S.rd 2 x.g.C x.a x.q).1).flatten).take x.g.bts.toNat,home:=S.homes H k,gen:=x.gen,sup:=jj,at0:=(cC S.rd 2 x.g.C x.a x.q).2.1,seq:=(cC S.rd 2 x.g.C x.a x.q).2.2,used:=cE (cC S.rd 2 x.g.C x.a x.q).1}:=by rw[HE.out];exact if_pos HA.out
      have hCn:2+x.g.C<=S.n0:=by have:=HRO.out;omega
      have hW:=tE (rd:=S.rd) (frm:=2) (count:=x.g.C) (at0:=x.a) (seq:=x.q) (by have:=HN.out.c1;omega) HN.out.c2 (fun k h1 h2=>⟨(HBY.out k (by omega)).1,(HBY.out k (by omega)).2.1⟩);have HRP:Hid (∀Y,w9b w Y->az aj 164 #[ao (some ⟨rq,0,none⟩),ab af 2,ab af x.g.r,ab af (x.a:Int),ab aD x.q] Y fun e w'=>
        (∃v,e=ar (al (fM v (cC S.rd 2 x.g.C x.a x.q).2.1 (cC S.rd 2 x.g.C x.a x.q).2.2 0).toArray)/\eY 231 232 w' Y.heap.size v (cC S.rd 2 x.g.C x.a x.q).1)/\ah Y.heap.size Y w'):=fun Y hY=>by
       have:=Ec (HH.out.beside hY) HBY.out HUP.out (F:=2) (C:=x.g.C) (A:=x.a) (by have:=HN.out.c1;omega) HN.out.c2 hCn (by have h1:=HX.out.2.2.1;have h2:=HN.out.c;omega) HN4.out (seq:=x.q) ⟨HX.out.2.2.2.seq.1,by have:=HX.out.2.2.2.seq.2;omega⟩;rw[HN.out.c]at this;exact this
      have hm0:∀y ∈ S.homes H k,y.length=48:=fun y hy=>by
       unfold RS.homes at hy;obtain⟨i,hi,rfl⟩:=dc.1 hy;have hi':=fo.1 hi;have hb:=HBY.out (H+i) (by have:=HHP.out;omega);exact(jg hb.1 hb.2.1).len
      have hml:(S.homes H k).length=k:=qd S H k;obtain⟨RP,hRP⟩:=w9nm (cC S.rd 2 x.g.C x.a x.q);rw[hRP]at HRP hop hW;obtain⟨hm,hhm⟩:=w9nm (S.homes H k);rw[hhm]at hop hm0 hml HPR;obtain⟨ts,ta,tq⟩:=RP;obtain⟨w1,w2,w3,w4⟩:=hW
      dsimp only at w1 w2 w3 w4 HRP hop
      have HW1:=ae w1;have HW2:=ae w2;have HW3:=ae w3;have HW4:=ae w4;have HHOP:=ae hop;have HM0:=ae hm0;have HML:=ae hml;obtain⟨gh,ch,rfl,hghN,hchc,hghl,hghr,hghcur⟩:∃g c,hv=ag (some ⟨g,0,none⟩) k c/\w.heap.size<=g/\k<=c/\g<wr.heap.size/\wr.rangeAt g 0 (hm.map an).flatten/\∃cur,wr.heap[g]? =some (ap cur 205 (0,0)):=by
       have h0:=HPR.out.fs;rw[fZ,HML.out]at h0;obtain⟨g,c,e,h1,h2,h3,h4⟩:=jm h0 (by have:=HPB.out;omega);refine⟨g,c,e,h1,h2,h3,h4, ?_⟩;rcases h0.2 with⟨e1,h5⟩ | ⟨g',c',cur,e1,_,h5,_⟩
       ·have:=HPB.out;omega
       ·rw[e1]at e;cases e;exact⟨cur,h5⟩
      obtain⟨gn,cn,hu9,hgnN,hgnl,hgnw⟩:∃g c,u9=ag (some ⟨g,0,none⟩) k c/\w.heap.size<=g/\g<wr.heap.size/\PgsW wr g k hm:=by
       have h0:=HPR.out.sn;rw[fZ,HML.out]at h0;rcases h0.2 with⟨rfl,h5⟩ | ⟨g,cap,cur,e,hg1,hg2,hg3,hg4,hg5,hg6⟩
       ·have:=HPB.out;omega
       ·exact⟨g,cap,e,hg1,(cj.1 hg2).1,fun j u hj=>by have:=h0.cells (g:=g) (by rw[e];rfl) j u hj;rwa [Addr.add_mid]at this,fy hg2 0 (k*48) (by have:k*48<=cap*48:=Nat.mul_le_mul_right _ hg3;omega),HM0.out,HML.out⟩
      subst hu9;have hghn:gh≠gn:=fun e=>HPR.out.d gh rfl (by rw[e];rfl);have h7n:B7≠gn/\B8≠gn/\B7≠gh/\B8≠B7:=by
       have a1:=dK HPR.out.sn HM.out (by decide);have a2:=dK HPR.out.sn HS8.out (by decide);have a3:=dK HPR.out.fs HM.out (by decide);refine⟨fun e=>a1 (by rw[e];rfl),fun e=>a2 (by rw[e];rfl),fun e=>a3 (by rw[e];rfl),fun e=> ?_⟩;have h1:=HM.out;have h2:=HS8.out;rw[e]at h2;have h4:=h1.symm.trans h2;injection h4 with h4;injection h4 with _ h4;exact absurd h4 (by decide)
      have HGH:Hid (w.heap.size<=gh/\k<=ch/\gh<wr.heap.size/\wr.rangeAt gh 0 (hm.map an).flatten/\∃cur,wr.heap[gh]? =some (ap cur 205 (0,0))):=⟨hghN,hchc,hghl,hghr,hghcur⟩;have HGN:Hid (w.heap.size<=gn/\gn<wr.heap.size/\PgsW wr gn k hm):=⟨hgnN,hgnl,hgnw⟩;have HNE2:Hid (gh≠gn/\B7≠gn/\B8≠gn/\B7≠gh/\B8≠B7):=⟨hghn,h7n⟩;have R7L:Hid (B7<wr.heap.size):=HM.out.lt;have s3:wr.cell? ⟨B8,3,none⟩=some (ab af 2):=by have:=HS8.out;rw[←HC8.out]at this;exact this.cell 3 _ rfl
      have s5:wr.cell? ⟨B7,5,none⟩=some (ab af x.g.r):=HM.out.cell 5 _ rfl;have s10:wr.cell? ⟨B7,10,none⟩=some (ab af (x.a:Int)):=HM.out.cell 10 _ rfl;have s11:wr.cell? ⟨B7,11,none⟩=some (ab aD x.q):=HM.out.cell 11 _ rfl;have hk15:k<16:=by have:=HPB.out;omega
      clear hop hm0 hml hCn w1 w2 w3 w4 hRP hhm hghN hchc hghl hghr hghcur hgnN hgnl hgnw hghn h7n HPR HE HA HRD;go_wp2_with fail;go_at_call 164;refine(HRP.out wr HB.out).mono ?_;rintro e y1 ⟨⟨vt,rfl,ht⟩,hb⟩;obtain⟨ra,cc,hvt,hrow⟩:=ht.rowN;subst hvt;obtain⟨y2,STL,rL,bL⟩:=Gg y1 (ag ra ts.length cc) ta tq 0 rfl;obtain⟨Bl,hBl⟩:=w9nm y1.heap.size;rw[hBl]at STL rL;have BX:w9h wr y2:=hb.trans (bL.mono hb.size);have HBL:Hid (wr.heap.size<=Bl):=by show _<=_;rw[←hBl];exact hb.size
      have HROW:Hid (∀(i:Nat) (t:List Img),ts[i]? =some t->∃g b d,ra=some ⟨g,0,none⟩/\wr.heap.size<=g/\g<y2.heap.size/\y2.cell? ⟨g,i,none⟩=some (ag b t.length d)/\(0<t.length->∃gb,b=some ⟨gb,0,none⟩/\wr.heap.size<=gb/\gb<y2.heap.size/\y2.rangeAt gb 0 (bI t).flatten)):=fun i t hit=>by
       obtain⟨g,b,d,e,h1,h2,h3,h4⟩:=hrow i t hit;refine⟨g,b,d,e,h1,aU h2 bL.size,(bL.cell (p:=⟨g,i,none⟩) h2).trans h3,fun h0=> ?_⟩;obtain⟨gb,e2,h5,h6,h7⟩:=h4 h0;exact⟨gb,e2,h5,aU h6 bL.size,da h7 (bL.block gb h6)⟩
      have RL:=ae rL;have RM:=ae (HM.out.below BX.out);have RS8:=ae (HS8.out.below BX.out);have WN:Hid (PgsW y2 gn k ((([]:List (List Img)).flatten).foldl cD hm)):=HGN.out.2.2.below BX.out HGN.out.2.1;have HBX:w9h w y2:=HB.out.trans (BX.out.mono HB.out.size);have l3:y2.cell? ⟨Bl,3,none⟩=some (ab af 0):=rL.cell 3 _ rfl;obtain⟨lg,hlg⟩:=w9nm ((fM (ag ra ts.length cc) ta tq 0).toArray);rw[hlg]at STL;rw[hlg];obtain⟨n,hn⟩:=w9nm ts.length;have HTN:=ae hn;rw[hn]at RL;have hn256:n<=256:=by rw[←hn];exact HW3.out
      clear hrow ht hb bL rL s1 s3 s5 s10 s11 hlg hn HRP HM HS8;go_wp2_with fail;clear STL hBl l3;have hx7:∀j,j<y2.heap.size->j≠B7->j≠gn->y2.heap[j]? =y2.heap[j]? :=fun _ _ _ _=>rfl;go_loopw [16] (fun i wr=>∃k2:Nat,k2<=n/\i=ab af (k2:Int)/\Hid (aB wr B7 112 (mC (ao (some ⟨rq,0,none⟩)) x.g (ag none 0 0) (ag (some ⟨gh,0,none⟩) k ch) x.gen jj x.a x.q ((cE (ts.take k2):Nat):Int)))/\Hid (PgsW wr gn k (((ts.take k2).flatten).foldl cD hm))/\w9h w wr/\Hid (y2.heap.size<=wr.heap.size/\∀j,j<y2.heap.size->j≠B7->j≠gn->wr.heap[j]? =y2.heap[j]?)) (fun i _=>n - (aW i).toNat)
      case atStart=>exact⟨0,bq _,rfl,RM,WN,HBX,⟨aJ _,fun _ _ _ _=>rfl⟩⟩
      case round=>
       obtain⟨k2,hk2,rfl,HM,HPW,HB2,HXX⟩:=hrel;clear RM WN hx7;have HBln:Hid (Bl<y2.heap.size/\Bl≠B7/\Bl≠gn):=by have h1:=RL.out.lt;have h2:=HBL.out;have h3:=HGN.out.2.1;have h4:=R7L.out;exact⟨h1,by omega,by omega⟩
       have hRLw:=(HXX.out.2 Bl HBln.out.1 HBln.out.2.1 HBln.out.2.2).trans RL.out;have RLw:Hid (aB wr Bl 259 (fM (ag ra n cc) ta tq 0)):=hRLw;clear hRLw;have b0:wr.cell? ⟨Bl,0,none⟩=some (ag ra n cc):=RLw.out.cell 0 _ rfl;by_cases hlt:k2<n
       ·have g3:decide ((k2:Int)< (n:Int))=true:=by simpa using hlt
        obtain⟨t,ht⟩:∃t,ts[k2]? =some t:=⟨_,bJ (by rw[HTN.out];exact hlt)⟩;obtain⟨g,b,d,rfl,hgN,hgl,hgc,hgb⟩:=HROW.out k2 t ht;have hg7:g≠B7/\g≠gn:=by have h3:=HGN.out.2.1;have h4:=R7L.out;exact⟨by omega,by omega⟩
        have hgcw:wr.cell? ⟨g,k2,none⟩=some (ag b t.length d):=(cL (a:=⟨g,k2,none⟩) (HXX.out.2 g hgl hg7.1 hg7.2)).trans hgc;have HGW:Hid (∀y:ak,y.heap[g]? =wr.heap[g]? ->y.cell? ⟨g,k2,none⟩=some (ag b t.length d)):=fun y hy=>(cL (a:=⟨g,k2,none⟩) hy).trans hgcw;have hgw:g<wr.heap.size:=aU hgl HXX.out.1;have HG2:Hid (g<y2.heap.size/\g≠B7/\g≠gn):=⟨hgl,hg7⟩;have HGB:=ae hgb;obtain⟨m,hm2⟩:=w9nm t.length;have HTM:=ae hm2;rw[hm2]at HGW HGB;have hum:cE (ts.take (k2+1))=cE (ts.take k2)+(m+1):=by rw[←hm2];exact xJ ht
        have hul:cE (ts.take (k2+1))<=100000:=aZ (xK ts _) HW4.out;obtain⟨u1,hu1⟩:=w9nm (cE (ts.take k2));obtain⟨u2,hu2⟩:=w9nm (cE (ts.take (k2+1)));rw[hu1]at HM;rw[hu1,hu2]at hum;rw[hu2]at hul;have hw1:wrap64 ((m:Int)+1)=(m:Int)+1:=gj _ (by omega);have hw2:wrap64 ((u1:Int)+((m:Int)+1))=(u2:Int):=by rw[gj _ (by omega)];omega
        have HUM:=ae hu2;have HT:=ae ht;have HWW:=ae hw2;have HUI:Hid ((u1:Int)+((m:Int)+1)=(u2:Int)):=by show _=_;omega
        have e8:∀z:aI wr,z.1.cell? ⟨B7,12,none⟩=some (ab af (u1:Int)):=fun z=>(HM.out.below z.2).cell 12 _ rfl;have e0:∀z:aI wr,z.1.cell? ⟨Bl,0,none⟩=some (ag (some ⟨g,0,none⟩) n cc):=fun z=>(RLw.out.below z.2).cell 0 _ rfl;have eg:∀z:aI wr,z.1.cell? ⟨g,k2,none⟩=some (ag b m d):=fun z=>HGW.out z.1 (z.2.block g hgw);have HMF:=ae (Gj hm ht);clear hgN hgl hgc hgb hg7 hgcw hm2 hu1 hu2 ht;go_wp2_with fail;refine ex (fun x=>∃y:aI wr,x=y.1) 10 (.takes [0,1,2,3,4,5,6,7,8,9] .leaf) hmx (by kernel_rfl) ⟨⟨wr.drew,(aF _ wr).drew⟩,rfl⟩ ?_;repeat(rw[cP];simp only[au,ay];go_big_quiet_step (fail);try(with_reducible refine aO ?_))
        rw[cT,dW];simp only[be,bf];clear e8 e0 eg hw1 hw2;obtain⟨V,hV⟩:=w9nm wr.drew;have BV:Hid (ah wr.heap.size wr V):=by show ah _ _ _;rw[←hV];exact(aF _ wr).drew
        try rw[hV]
        clear hV;have MV:=ae (HM.out.below BV.out);have c12:V.cell? ⟨B7,12,none⟩=some (ab af (u1:Int)):=MV.out.cell 12 _ rfl;have f12:V.frozen? ⟨B7,12,none⟩=false:=MV.out.frozen 12;have gg:=iE V B7 12 (ab af (u2:Int));have MZ:Hid (aB (V.setCell ⟨B7,12,none⟩ (ab af (u2:Int))) B7 112 (mC (ao (some ⟨rq,0,none⟩)) x.g (ag none 0 0) (ag (some ⟨gh,0,none⟩) k ch) x.gen jj x.a x.q (u2:Int))):=MV.out.set 12 _;have PZ:Hid (PgsW (V.setCell ⟨B7,12,none⟩ (ab af (u2:Int))) gn k (((t.take 0).foldl cD (((ts.take k2).flatten).foldl cD hm)))):=(HPW.out.below BV.out (aU HGN.out.2.1 (aZ BX.out.size HXX.out.1))).grownO (fun e=>HNE2.out.2.1 (Option.some.inj e)) gg (aU HGN.out.2.1 (aZ BX.out.size (aZ HXX.out.1 BV.out.size)));have KZ:Hid (ah w.heap.size w (V.setCell ⟨B7,12,none⟩ (ab af (u2:Int)))):=(HB2.out.trans (BV.out.mono HB2.out.size)).grown gg (aZ HB2.out.size BV.out.size) (fun j e=>by cases e;exact HB7.out);have XZ:Hid (y2.heap.size<=(V.setCell ⟨B7,12,none⟩ (ab af (u2:Int))).heap.size/\∀j,j<y2.heap.size->j≠B7->j≠gn->(V.setCell ⟨B7,12,none⟩ (ab af (u2:Int))).heap[j]? =y2.heap[j]?):=⟨aZ HXX.out.1 (aZ BV.out.size gg.size),fun j h1 h2 h3=>((gg.block j (aU h1 (aZ HXX.out.1 BV.out.size)) (fun e=>h2 (Option.some.inj e))).trans (BV.out.block j (aU h1 HXX.out.1))).trans (HXX.out.2 j h1 h2 h3)⟩;have HGY:Hid (∀y:ak,y.heap[g]? =y2.heap[g]? ->y.cell? ⟨g,k2,none⟩=some (ag b m d)):=fun y hy=>HGW.out y (hy.trans (HXX.out.2 g HG2.out.1 HG2.out.2.1 HG2.out.2.2).symm);have hm1:m<=100000:=by omega
        clear HM HPW HB2 HXX RLw b0 gg hum hul HGW hgw;go_wp2_with fail;clear c12 f12;go_loopw [17] (fun i wr=>∃j:Nat,j<=m/\i=ab af (j:Int)/\Hid (aB wr B7 112 (mC (ao (some ⟨rq,0,none⟩)) x.g (ag none 0 0) (ag (some ⟨gh,0,none⟩) k ch) x.gen jj x.a x.q (u2:Int)))/\Hid (PgsW wr gn k ((t.take j).foldl cD (((ts.take k2).flatten).foldl cD hm)))/\w9h w wr/\Hid (y2.heap.size<=wr.heap.size/\∀j,j<y2.heap.size->j≠B7->j≠gn->wr.heap[j]? =y2.heap[j]?)) (fun i _=>m - (aW i).toNat)
        case atStart=>(first | rw[HWW.out] | rw[HUI.out]);exact⟨0,bq _,rfl,MZ,PZ,KZ,XZ⟩
        case round=>
         obtain⟨j,hj,rfl,HM,HPW,HB2,HXX⟩:=hrel;clear MZ PZ KZ XZ;have hRLw:=(HXX.out.2 Bl HBln.out.1 HBln.out.2.1 HBln.out.2.2).trans RL.out;have RLw:Hid (aB wr Bl 259 (fM (ag (some ⟨g,0,none⟩) n cc) ta tq 0)):=hRLw;clear hRLw;have b0:wr.cell? ⟨Bl,0,none⟩=some (ag (some ⟨g,0,none⟩) n cc):=RLw.out.cell 0 _ rfl;have bg:=HGY.out wr (HXX.out.2 g HG2.out.1 HG2.out.2.1 HG2.out.2.2);by_cases hlj:j<m
         ·have g4:decide ((j:Int)< (m:Int))=true:=by simpa using hlj
          obtain⟨im,him⟩:∃x,t[j]? =some x:=⟨_,bJ (by rw[HTM.out];exact hlj)⟩;obtain⟨gb,rfl,hgbN,hgbl,hgbr⟩:=HGB.out (by omega);have hgb7:gb≠B7/\gb≠gn:=by have h3:=HGN.out.2.1;have h4:=R7L.out;exact⟨by omega,by omega⟩
          have hmem:im ∈ ts.flatten:=List.mem_flatten.2 ⟨t,dI HT.out,dI him⟩;obtain⟨hx0,hxb⟩:=HW1.out im hmem;have hgr:=da hgbr (HXX.out.2 gb hgbl hgb7.1 hgb7.2);have LD:(aE 232 ⟨gb,j*49,none⟩).run aj wr=.ok (al im.cells.toArray) wr:=by
           have:=mE (s:=49) (L:=bI t) (fun y hy=>by obtain⟨z,hz,rfl⟩:=dc.1 hy;exact Img.cells_length (HW1.out z (List.mem_flatten.2 ⟨t,dI HT.out,hz⟩)).2) hgr (k:=j) (x:=im.cells) (by unfold bI;rw[du,him];rfl);rw[dC]at this;exact Cr this (Img.cells_length hxb)
          obtain⟨y,ST,hr,hb⟩:=Gh wr im hxb;have c0:y.cell? ⟨wr.heap.size,0,none⟩=some (ab af im.index):=hr.cell 0 _ rfl;have LB:(aE 205 ⟨wr.heap.size,1,none⟩).run aj y=.ok (al (an im.body).toArray) y:=iH (jO (a:= [ab af im.index]) (b:=an im.body) hr) (by rw[bi];exact hxb);obtain⟨B,hB⟩:=w9nm wr.heap.size;have hgnw:gn<wr.heap.size:=aU HGN.out.2.1 (aZ BX.out.size HXX.out.1);have hPy:=HPW.out.below hb hgnw;have MY:=ae (HM.out.below hb);have HBY2:=w9bt HB2 hb;have HXY:Hid (y2.heap.size<=y.heap.size/\∀j,j<y2.heap.size->j≠B7->j≠gn->y.heap[j]? =y2.heap[j]?):=⟨aZ HXX.out.1 hb.size,fun j h1 h2 h3=>(hb.block j (aU h1 HXX.out.1)).trans (HXX.out.2 j h1 h2 h3)⟩;have HSN:=ae (yu (((ts.take k2).flatten).foldl cD hm) t him);rw[hB]at ST c0 LB;obtain⟨ic,hic⟩:=w9nm im.cells.toArray;rw[hic]at LD ST;obtain⟨ix,hix⟩:=w9nm im.index;rw[hix]at hx0 c0;have hcnt:=hPy.cnt;by_cases hxp:ix<k
          ·have g5:decide (ix< (k:Int))=true:=by simpa using hxp
           obtain⟨jx,rfl⟩:=Int.eq_ofNat_of_zero_le hx0;have hjP:jx<k:=by omega
           obtain⟨hput,hth⟩:=hPy.put hjP hxb;have STP:=yq hth (c:=an im.body) (by rw[bi];exact hxb) (iO _);have gz:=Gi y gn (jx*48) (an im.body);obtain⟨z,hz⟩:=w9nm (y.setCells gn (jx*48) (an im.body));rw[hz]at STP hput gz;have HPZ:Hid (PgsW z gn k ((t.take (j+1)).foldl cD (((ts.take k2).flatten).foldl cD hm))):=by
            show PgsW _ _ _ _;rw[HSN.out];have el:cD ((t.take j).foldl cD (((ts.take k2).flatten).foldl cD hm)) im=((t.take j).foldl cD (((ts.take k2).flatten).foldl cD hm)).set jx im.body:=by
             rw[cD.eq_1,hix,if_pos (by rw[hcnt];omega),gO]
            rw[el];exact hput
           have hyw:gn<y.heap.size:=aU hgnw hb.size;have MZ2:Hid (aB z B7 112 (mC (ao (some ⟨rq,0,none⟩)) x.g (ag none 0 0) (ag (some ⟨gh,0,none⟩) k ch) x.gen jj x.a x.q (u2:Int))):=MY.out.grown gz (fun e=>HNE2.out.2.1 (Option.some.inj e).symm);have HBZ:w9h w z:=HBY2.out.grown gz HBY2.out.size (fun i e=>by cases e;exact HGN.out.1);have HXZ:Hid (y2.heap.size<=z.heap.size/\∀j,j<y2.heap.size->j≠B7->j≠gn->z.heap[j]? =y2.heap[j]?):=⟨aZ HXY.out.1 gz.size,fun j h1 h2 h3=>(gz.block j (aU h1 HXY.out.1) (fun e=>h3 (Option.some.inj e))).trans (HXY.out.2 j h1 h2 h3)⟩;obtain⟨pb,hpb⟩:=w9nm ((an im.body).toArray);rw[hpb]at LB STP;clear hgbN hgbl hgbr hgb7 hmem hgr hr hb hPy hput hth hxb hic hpb hz hcnt hix gz hyw hgnw him;go_wp2_with fail;go_roundw
           case rel=>exact⟨j+1,hlj,by go_num,MZ2,HPZ,HBZ,HXZ⟩
           case measure=>simp[aW];omega
          ·have g5:decide (ix< (k:Int))=false:=by simpa using hxp
           have HPZ:Hid (PgsW y gn k ((t.take (j+1)).foldl cD (((ts.take k2).flatten).foldl cD hm))):=by
            show PgsW _ _ _ _;rw[HSN.out];have el:cD ((t.take j).foldl cD (((ts.take k2).flatten).foldl cD hm)) im=(t.take j).foldl cD (((ts.take k2).flatten).foldl cD hm):=by
             rw[cD.eq_1,hix,if_neg (by rw[hcnt];omega)]
            rw[el];exact hPy
           clear hgbN hgbl hgbr hgb7 hmem hgr hr hb hPy hxb hic hcnt hix hgnw him;go_wp2_with fail;go_roundw
           case rel=>exact⟨j+1,hlj,by go_num,MY,HPZ,HBY2,HXY⟩
           case measure=>simp[aW];omega
         ·obtain rfl:j=m:=by omega
          have g4:decide ((j:Int)< (j:Int))=false:=by simp
          have etm:t.take j=t:=ey (by rw[HTM.out];exact aJ _);rw[etm,←HMF.out]at HPW;have hn300:k2<300:=by omega
          rw[←HUM.out]at HM;clear etm;go_wp2_with fail;go_roundw
          case rel=>exact⟨k2+1,hlt,by go_num,HM,HPW,HB2,HXX⟩
          case measure=>simp[aW];omega
       ·obtain rfl:k2=n:=by omega
        have g3:decide ((k2:Int)< (k2:Int))=false:=by simp
        have etk:ts.take k2=ts:=ey (by rw[HTN.out];exact aJ _);rw[etk]at HM HPW;obtain⟨now,hnow⟩:=w9nm ((ts.flatten).foldl cD hm);have HNOW:Hid (dV hm ts=now):=(pB hm ts).trans hnow;rw[hnow]at HPW;have bl1:∀z:dB Bl Bl wr,z.1.cell? ⟨Bl,1,none⟩=some (ab af (ta:Int)):=fun z=>(cL (a:=⟨Bl,1,none⟩) z.2.1).trans (RLw.out.cell 1 _ rfl);have bl2:∀z:dB Bl Bl wr,z.1.cell? ⟨Bl,2,none⟩=some (ab aD tq):=fun z=>(cL (a:=⟨Bl,2,none⟩) z.2.1).trans (RLw.out.cell 2 _ rfl);clear etk hnow hlt hk2;go_wp2_with fail;refine ex (fun x=>∃y:dB Bl Bl wr,x=y.1) 6 (.takes [0,1,2,3,4] (.one 5 .leaf)) hmx (by kernel_rfl) ⟨⟨wr.drew,rfl,rfl⟩,rfl⟩ ?_;repeat(rw[cP];simp only[au,ay];go_big_quiet_step (fail);try(with_reducible refine aO ?_))
        rw[cT,bU];simp only[au,ay];clear bl1 bl2 b0;obtain⟨V,hV⟩:=w9nm wr.drew;have BV:Hid (ah wr.heap.size wr V):=by show ah _ _ _;rw[←hV];exact(aF _ wr).drew
        try rw[hV]
        clear hV;have MV:=ae (HM.out.below BV.out);have c10:V.cell? ⟨B7,10,none⟩=some (ab af (x.a:Int)):=MV.out.cell 10 _ rfl;have f10:V.frozen? ⟨B7,10,none⟩=false:=MV.out.frozen 10;have g10:=iE V B7 10 (ab af (ta:Int));have M1:Hid (aB (V.setCell ⟨B7,10,none⟩ (ab af (ta:Int))) B7 112 (mC (ao (some ⟨rq,0,none⟩)) x.g (ag none 0 0) (ag (some ⟨gh,0,none⟩) k ch) x.gen jj (ta:Int) x.q ((cE ts:Nat):Int))):=MV.out.set 10 _;obtain⟨V1,hV1⟩:=w9nm (V.setCell ⟨B7,10,none⟩ (ab af (ta:Int)));rw[hV1]at M1 g10;have hBlV:V1.heap[Bl]? =wr.heap[Bl]? :=(g10.block Bl (aU RLw.out.lt BV.out.size) (fun e=>HBln.out.2.1 (Option.some.inj e))).trans (BV.out.block Bl RLw.out.lt);go_wp2_with fail;try rw[hV1]
        refine aG ⟨⟨V1,hBlV,hBlV⟩,rfl⟩ ?_;rw[dW];simp only[be,bf];clear c10 f10 hV1;have c11:V1.cell? ⟨B7,11,none⟩=some (ab aD x.q):=M1.out.cell 11 _ rfl;have f11:V1.frozen? ⟨B7,11,none⟩=false:=M1.out.frozen 11;have g11:=iE V1 B7 11 (ab aD tq);have M2:Hid (aB (V1.setCell ⟨B7,11,none⟩ (ab aD tq)) B7 112 (mC (ao (some ⟨rq,0,none⟩)) x.g (ag none 0 0) (ag (some ⟨gh,0,none⟩) k ch) x.gen jj (ta:Int) tq ((cE ts:Nat):Int))):=M1.out.set 11 _;have gnw:gn<wr.heap.size:=aU HGN.out.2.1 (aZ BX.out.size HXX.out.1);obtain⟨V2,hV2⟩:=w9nm (V1.setCell ⟨B7,11,none⟩ (ab aD tq));have HV2:=ae hV2;rw[hV2]at M2 g11;have hfr:wr.heap.size<=V2.heap.size/\∀j,j<wr.heap.size->j≠B7->V2.heap[j]? =wr.heap[j]? :=⟨aZ BV.out.size (aZ g10.size g11.size),fun j h1 h2=>(g11.block j (aU h1 (aZ BV.out.size g10.size)) (fun e=>h2 (Option.some.inj e))).trans ((g10.block j (aU h1 BV.out.size) (fun e=>h2 (Option.some.inj e))).trans (BV.out.block j h1))⟩;have HFR:Hid (wr.heap.size<=V2.heap.size/\∀j,j<wr.heap.size->j≠B7->V2.heap[j]? =wr.heap[j]?):=hfr;have K2V:w9h w V2:=(((HB2.out.trans (BV.out.mono HB2.out.size)).grown g10 (aZ HB2.out.size BV.out.size) (fun j e=>by cases e;exact HB7.out))).grown g11 (aZ HB2.out.size (aZ BV.out.size g10.size)) (fun j e=>by cases e;exact HB7.out);have PV2:Hid (PgsW V2 gn k now):=by
         have e:=hfr.2 gn gnw (fun e=>HNE2.out.2.1 e.symm);exact⟨da HPW.out.at_ e,fun j hj=>by
          have h1:=HPW.out.there j hj;unfold World.frozen? at h1 ⊢;rw[cL (a:=⟨gn,0+j,none⟩) e];rw[show(Addr.mk gn (0+j) none).block=gn from rfl]at h1 ⊢;rw[e];exact h1,HPW.out.len,HPW.out.cnt⟩
        have hold:∀j,j<y2.heap.size->j≠B7->j≠gn->V2.heap[j]? =y2.heap[j]? :=fun j h1 h2 h3=>(hfr.2 j (aU h1 HXX.out.1) h2).trans (HXX.out.2 j h1 h2 h3);have S8V:Hid (aB V2 B8 29 C8):=(hold B8 RS8.out.lt HNE2.out.2.2.2.2 HNE2.out.2.2.1).trans RS8.out;have GHV:Hid (gh<V2.heap.size/\V2.rangeAt gh 0 (hm.map an).flatten/\∃cur,V2.heap[gh]? =some (ap cur 205 (0,0))):=by
         obtain⟨h1,h2,h3,h4,cur,h5⟩:=HGH.out;have hl:gh<y2.heap.size:=aU h3 BX.out.size;have e:=(hold gh hl (fun e=>HNE2.out.2.2.2.1 e.symm) HNE2.out.1).trans (BX.out.block gh h3);exact⟨aU hl (aZ HXX.out.1 hfr.1),da h4 e,cur,e.trans h5⟩
        have GNV:Hid (gn<V2.heap.size):=aU gnw hfr.1;have R7V:Hid (B7<V2.heap.size):=M2.out.lt;have HNL:Hid (now.length=k):=HPW.out.cnt;have HNL2:Hid (∀x ∈ now,x.length=48):=HPW.out.len;clear hfr hold g10 g11 gnw M1 MV BV HPW HM HB2 HXX RLw hBlV HFR;go_wp2_with fail;try rw[hV2]
        clear c11 f11 hV2;go_loopw [19] (fun i wr=>∃(k3:Nat) (bv:am),k3<=k/\i=ab af (k3:Int)/\Hid (aB wr B7 112 (mC (ao (some ⟨rq,0,none⟩)) x.g bv (ag (some ⟨gh,0,none⟩) k ch) x.gen jj (ta:Int) tq ((cE ts:Nat):Int)))/\Hid (wr.ownsRow V2.heap.size 5 1 bv (now.take k3).flatten.length (an (now.take k3).flatten))/\w9h w wr/\Hid (V2.heap.size<=wr.heap.size/\∀j,j<V2.heap.size->j≠B7->wr.heap[j]? =V2.heap[j]?)) (fun i _=>k - (aW i).toNat)
        case atStart=>(try rw[HV2.out]);exact⟨0,ag none 0 0,bq _,rfl,M2,ft _ _ _ _,K2V,⟨aJ _,fun _ _ _=>rfl⟩⟩
        case round=>
         obtain⟨k3,bv,hk3,rfl,HM,HO,HB3,HXX⟩:=hrel;clear M2 K2V;by_cases hlt:k3<k
         ·have g3:decide ((k3:Int)< (k:Int))=true:=by simpa using hlt
          obtain⟨ba,bc,hbv, -⟩:=fR HO.out;subst hbv;have hfl:=yt HNL2.out (k:=k3) (by rw[HNL.out];omega);have hbl3:(now.take k3).flatten.length<=1000:=by rw[hfl];omega
          obtain⟨bn3,hbn3⟩:=w9nm ((now.take k3).flatten.length);have HBN3:=ae hbn3;rw[hbn3]at HM HO;have e6:∀z:dB B7 gn wr,z.1.cell? ⟨B7,6,none⟩=some (ag ba bn3 bc):=fun z=>(cL (a:=⟨B7,6,none⟩) z.2.1).trans (HM.out.cell 6 _ rfl);have HBL3:Hid (bn3<=1000):=by show _<=_;rw[←hbn3];exact hbl3
          clear hfl hbl3 hbn3;go_wp2_with fail;refine ex (fun x=>∃y:dB B7 gn wr,x=y.1) 7 (.takes [0,1,2,3,4,5] (.one 6 .leaf)) hmx (by kernel_rfl) ⟨⟨wr.drew,rfl,rfl⟩,rfl⟩ ?_;repeat(rw[cP];simp only[au,ay];go_big_quiet_step (fail);try(with_reducible refine aO ?_))
          rw[cT,bU];simp only[au,ay];clear e6;obtain⟨V,hV⟩:=w9nm wr.drew;have BV:Hid (ah wr.heap.size wr V):=by show ah _ _ _;rw[←hV];exact(aF _ wr).drew
          try rw[hV]
          clear hV;have MV:=ae (HM.out.below BV.out);have hOV:=eK HO.out BV.out;have hgnV:V.heap[gn]? =V2.heap[gn]? :=(BV.out.block gn (aU GNV.out HXX.out.1)).trans (HXX.out.2 gn GNV.out (fun e=>HNE2.out.2.1 e.symm));have hVs:V2.heap.size<=V.heap.size:=aZ HXX.out.1 BV.out.size;obtain⟨hpg,hp48⟩:=PV2.out.page hlt;have hsl:Sl aq V (ag (some ⟨gn,k3*48,none⟩) 48 48) (aY now k3):=by
           have:=mi (da hpg hgnV) (aU GNV.out hVs) (by rw[hp48];simp[aS])
           rwa [hp48]at this
          rw[←HBN3.out]at hOV;obtain⟨v5,x5,r5,o5,gr⟩:=mO V2.heap.size V _ (now.take k3).flatten hOV (ag (some ⟨gn,k3*48,none⟩) 48 48) (aY now k3) hsl (by rw[HBN3.out,hp48];have:=HBL3.out;omega) hVs;have e5:(now.take k3).flatten++aY now k3=(now.take (k3+1)).flatten:=(yr now (by rw[HNL.out];exact hlt)).symm;rw[e5]at o5;have hne7:=dK hOV MV.out (by decide);have hnen:∀j,j<V2.heap.size->some j≠(Value.slice ba (now.take k3).flatten.length bc).ownBlock:=fun j h1 e=>by have:=(jb hOV j e.symm).1;omega
          rw[HBN3.out]at r5 hne7 hnen gr;have M5:=ae (MV.out.grown gr hne7);have R5:=ae r5;have O5:Hid (x5.ownsRow V2.heap.size 5 1 v5 (now.take (k3+1)).flatten.length (an (now.take (k3+1)).flatten)):=o5;have K5:w9h w x5:=(HB3.out.trans (BV.out.mono HB3.out.size)).grown gr (aZ HB3.out.size BV.out.size) (fun j e=>by rw[←HBN3.out]at e;have:=(jb hOV j e).1;have h2:=R7V.out;have h3:=HB7.out;omega);have X5:Hid (V2.heap.size<=x5.heap.size/\∀j,j<V2.heap.size->j≠B7->x5.heap[j]? =V2.heap[j]?):=⟨aZ hVs gr.size,fun j h1 h2=>((gr.block j (aU h1 hVs) (hnen j h1)).trans (BV.out.block j (aU h1 HXX.out.1))).trans (HXX.out.2 j h1 h2)⟩;have i7:x5.heap[B7]? =wr.heap[B7]? :=(gr.block B7 MV.out.lt hne7.symm).trans (BV.out.block B7 HM.out.lt);have i9:x5.heap[gn]? =wr.heap[gn]? :=(X5.out.2 gn GNV.out (fun e=>HNE2.out.2.1 e.symm)).trans (HXX.out.2 gn GNV.out (fun e=>HNE2.out.2.1 e.symm)).symm;clear hOV hgnV hVs hpg hp48 hsl r5 o5 e5 hne7 hnen gr MV HM HO HXX BV;go_wp2_with (at_builtin;refine wpList_append_run (.tmp 194) (.tmp 198) 76 rfl rfl _ _ _ rfl rfl R5.out ?_);refine aG ⟨⟨x5,i7,i9⟩,rfl⟩ ?_;rw[dW];simp only[be,bf];clear R5 i7 i9;obtain⟨va,vc,hv5, -⟩:=fR O5.out;subst hv5;have c6:x5.cell? ⟨B7,6,none⟩=some (ag ba bn3 bc):=M5.out.cell 6 _ rfl;have f6:x5.frozen? ⟨B7,6,none⟩=false:=M5.out.frozen 6;obtain⟨bm,hbm⟩:=w9nm ((now.take (k3+1)).flatten.length);have HBM:=ae hbm;rw[hbm]at O5;rw[hbm];have g6:=iE x5 B7 6 (ag va bm vc);have M6:Hid (aB (x5.setCell ⟨B7,6,none⟩ (ag va bm vc)) B7 112 (mC (ao (some ⟨rq,0,none⟩)) x.g (ag va bm vc) (ag (some ⟨gh,0,none⟩) k ch) x.gen jj (ta:Int) tq ((cE ts:Nat):Int))):=M5.out.set 6 _;have O6:Hid ((x5.setCell ⟨B7,6,none⟩ (ag va bm vc)).ownsRow V2.heap.size 5 1 (ag va bm vc) (now.take (k3+1)).flatten.length (an (now.take (k3+1)).flatten)):=by
           show World.ownsRow _ _ _ _ _ _ _;rw[HBM.out];exact O5.out.kept g6 (aC (dK O5.out M5.out (by decide)))
          have K6:Hid (ah w.heap.size w (x5.setCell ⟨B7,6,none⟩ (ag va bm vc))):=K5.out.grown g6 K5.out.size (fun j e=>by cases e;exact HB7.out);have X6:Hid (V2.heap.size<=(x5.setCell ⟨B7,6,none⟩ (ag va bm vc)).heap.size/\∀j,j<V2.heap.size->j≠B7->(x5.setCell ⟨B7,6,none⟩ (ag va bm vc)).heap[j]? =V2.heap[j]?):=⟨aZ X5.out.1 g6.size,fun j h1 h2=>(g6.block j (aU h1 X5.out.1) (fun e=>h2 (Option.some.inj e))).trans (X5.out.2 j h1 h2)⟩;have hk16:k3<16:=by have:=HPB.out;omega
          clear g6 hbm M5 O5 K5 X5;go_wp2_with fail;go_roundw
          case rel=>exact⟨k3+1,_,hlt,by go_num,M6,O6,K6,X6⟩
          case measure=>simp[aW];omega
         ·obtain rfl:k3=k:=by omega
          have g3:decide ((k3:Int)< (k3:Int))=false:=by simp
          have etn:now.take k3=now:=ey (by rw[HNL.out];exact aJ _);rw[etn]at HO;obtain⟨FL,hFL⟩:=w9nm now.flatten;have hfln:FL.length=48*k3:=by rw[←hFL,tF now HNL2.out,HNL.out]
          rw[hFL]at HO;obtain⟨fl,hfl⟩:=w9nm FL.length;rw[hfl]at HO hfln;have h0fl:0<fl:=by have:=HPB.out;omega
          obtain⟨Bb,cb,hbv,hBbN,hcb,hBbl,hrg⟩:=jm HO.out h0fl;subst hbv;have hcur:cb<=aS/\∃cur,wr.heap[Bb]? =some (ap cur 5 (0,0)):=by
           rcases HO.out.2 with⟨h',_⟩ | ⟨g',c',cur,e,h1,h2,h3,h4,_⟩
           ·cases h'
           ·cases e;exact⟨h4,cur,h2⟩
          obtain⟨bn,hbn⟩:=w9nm x.g.bts.toNat;have hbb:x.g.bts=(bn:Int):=by rw[←hbn];exact HN.out.b.symm
          have hbf:0<bn/\bn<=fl/\bn<=714:=by
           have h2:=HN.out.bp;have h3:=HN.out.p1;have h4:=HN.out.b2;have h5:=HP.out;rw[hbn]at h2 h4;exact⟨by omega,by omega,h4⟩
          have hs1:(bn:Int)<=(cb:Int):=by have:=hbf.2.1;omega
          have s0:wr.cell? ⟨B8,0,none⟩=some (ab af (bn:Int)):=by
           have h1:=(HXX.out.2 B8 S8V.out.lt HNE2.out.2.2.2.2);have h2:aB wr B8 29 C8:=h1.trans S8V.out;rw[←HC8.out]at h2;rw[←hbb];exact h2.cell 0 _ rfl
          have c6:wr.cell? ⟨B7,6,none⟩=some (ag (some ⟨Bb,0,none⟩) fl cb):=by have:=HM.out.cell 6 _ rfl;exact this
          have f6:wr.frozen? ⟨B7,6,none⟩=false:=HM.out.frozen 6;have g6:=ae (iE wr B7 6 (ag (some ⟨Bb,0,none⟩) bn cb));have M6:Hid (aB (wr.setCell ⟨B7,6,none⟩ (ag (some ⟨Bb,0,none⟩) bn cb)) B7 112 (mC (ao (some ⟨rq,0,none⟩)) x.g (ag (some ⟨Bb,0,none⟩) bn cb) (ag (some ⟨gh,0,none⟩) k3 ch) x.gen jj (ta:Int) tq ((cE ts:Nat):Int))):=HM.out.set 6 _;have HBB:Hid (V2.heap.size<=Bb/\fl<=cb/\Bb<wr.heap.size/\wr.rangeAt Bb 0 (an FL)/\cb<=aS/\∃cur,wr.heap[Bb]? =some (ap cur 5 (0,0))):=⟨hBbN,hcb,hBbl,hrg,hcur.1,hcur.2⟩;have HBF:=ae hbf;have HBNE:=ae hbn;have HFLE:=ae hFL;have HFLN:=ae hfl;clear hFL hfln hfl h0fl hBbN hcb hBbl hrg hcur hbn hbb hbf etn hlt;go_wp2_with fail;refine bl (results_tmp2 rfl _ _ _) rfl ?_;have h7b:B7≠Bb:=by have:=R7V.out;have:=HBB.out.1;omega
          have hbh:Bb≠gh:=by have:=GHV.out.1;have:=HBB.out.1;omega
          obtain⟨q1,q2,q3,q4,q5,curb,q6⟩:=HBB.out;obtain⟨r1,r2,curh,r3⟩:=GHV.out;have eB:(wr.setCell ⟨B7,6,none⟩ (ag (some ⟨Bb,0,none⟩) bn cb)).heap[Bb]? =wr.heap[Bb]? :=g6.out.block Bb q3 (fun e=>h7b (Option.some.inj e).symm);have eH:(wr.setCell ⟨B7,6,none⟩ (ag (some ⟨Bb,0,none⟩) bn cb)).heap[gh]? =V2.heap[gh]? :=(g6.out.block gh (aU r1 HXX.out.1) (fun e=>HNE2.out.2.2.2.1 (Option.some.inj e).symm)).trans (HXX.out.2 gh r1 (fun e=>HNE2.out.2.2.2.1 e.symm));have hbl:(FL.take bn).length=bn:=by rw[fd,HFLN.out];have:=HBF.out.2.1;omega
          refine⟨aA ⟨{g:=x.g,b:=((dV hm ts).flatten).take x.g.bts.toNat,home:=hm,gen:=x.gen,sup:=jj,at0:=ta,seq:=tq,used:=cE ts},B7,_,HHOP.out,rfl,⟨Bb,cb,gh,ch, ?_,rfl⟩, ?_⟩,HB3.out.grown g6.out HB3.out.size (fun j e=>by cases e;exact HB7.out)⟩
          ·rw[HNOW.out,HFLE.out,HBNE.out];refine⟨?_,h7b,HNE2.out.2.2.2.1,hbh,by show 0< (FL.take bn).length;rw[hbl];exact HBF.out.1,by show 0<hm.length;rw[HML.out];have:=HPB.out;omega,⟨by show(FL.take bn).length<=cb;rw[hbl];have:=HBF.out.2.1;omega,q5⟩,⟨curb,_,eB.trans q6⟩, ?_,⟨curh,_,eH.trans r3⟩,da r2 eH⟩
           ·show aB _ B7 _ (mC (ao (some ⟨rq,0,none⟩)) x.g (ag (some ⟨Bb,0,none⟩) (FL.take bn).length cb) (ag (some ⟨gh,0,none⟩) hm.length ch) x.gen ((jj:Nat):Int) (ta:Int) tq ((cE ts:Nat):Int));rw[hbl,HML.out];exact M6.out
           ·show World.rangeAt _ Bb 0 (an (FL.take bn));refine da (fun j u hj=>q4 j u ?_) eB;have h9:(an (FL.take bn))=(an FL).take bn:=by unfold an;rw[List.map_take]
            rw[h9,List.getElem?_take]at hj;split at hj
            ·exact hj
            ·cases hj
          ·rintro j (rfl | rfl | rfl)
           ·exact HB7.out
           ·have:=R7V.out;have h3:=HB7.out;omega
           ·exact HGH.out.1
end
end
section
def jc {α:Type} (p:Nat->Bool) (f:Nat->α) (k:Nat):List α:=((dm k).filter p).map f
section
variable {α:Type} {p:Nat->Bool} {f:Nat->α} {k n:Nat}
theorem qm (h:p k=true):jc p f (k+1)=jc p f k++ [f k]:=by
 unfold jc;rw[List.range_succ,List.filter_append,fp];simp[h]
theorem tI (h:p k=false):jc p f (k+1)=jc p f k:=by
 unfold jc;rw[List.range_succ,List.filter_append,fp];simp[h]
theorem Gk (h:k<=n):∃r,jc p f n=jc p f k++r:=by
 induction n with
 | zero=>
  obtain rfl:k=0:=by omega
  exact⟨[],by simp⟩
 | succ n ih=>
  by_cases hk:k=n+1
  ·subst hk;exact⟨[],by simp⟩
  ·obtain⟨r,hr⟩:=ih (by omega);cases hp:p n with
   | true=>exact⟨r++ [f n],by rw[qm hp,hr,List.append_assoc]⟩
   | false=>exact⟨r,by rw[tI hp,hr]⟩
theorem Gl (hk:k<n) (h:p k=true):(jc p f n)[(jc p f k).length]? =some (f k):=by
 obtain⟨r,hr⟩:=Gk (p:=p) (f:=f) (show k+1<=n from hk);rw[hr,qm h,List.append_assoc,fF (aJ _),Nat.sub_self]
 rfl
theorem zh:(jc p f k).length<=k:=by
 unfold jc;rw[fZ];exact aZ (List.length_filter_le _ _) (by simp)
end
def jp (was now:List (List Int)) (k:Nat):List Img:=jc (fun i=>decide (now[i]? ≠was[i]?)) (fun i=>⟨(i:Int),aY now i⟩) k
theorem Gm (was now:List (List Int)):jY was now=jp was now now.length:=rfl
def ke (M:MS) (k:Nat):cA:=jc (fun i=>decide ((aM M.b)[i]? ≠M.home[i]?)) (fun i=>(M.g.H+i,an (de i (bM M.b i)).bytes)) k
theorem zj (M:MS):M.homW=ke M M.g.P:=rfl
theorem differs {a b:List (List Int)} {k:Nat} (ha:k<a.length) (hb:k<b.length):(decide (a[k]? ≠b[k]?))= !fg (an (aY a k)) (an (aY b k)):=by
 have e1:a[k]? =some (aY a k):=by unfold aY;rw[bJ ha];rfl
 have e2:b[k]? =some (aY b k):=by unfold aY;rw[bJ hb];rfl
 rw[e1,e2];by_cases h:aY a k=aY b k
 ·rw[h,ll];simp
 ·rw[nY (fun e=>h (ni e))];simpa using h
structure ByC (m rq Bb cb Bh ch:Nat) (M:MS) (gw cw gn cn N:Nat) (was now:List (List Int)) (v:am) (bs:List Int) (x:ak) (f:Nat->Prop):Prop where
 at_:RmAt m rq Bb cb Bh ch M x
 nm:¬f m/\¬f Bb/\¬f Bh
 w9:By9 gw cw N was x f
 n9:By9 gn cn N now x f
 sl:Sl aq x v bs
 ne:bs≠ []
 aw:jw v f
theorem ByC.turn {m rq Bb cb Bh ch gw cw gn cn N:Nat} {M:MS} {was now:List (List Int)} {v:am} {bs:List Int} {x x':ak} {f f':Nat->Prop} (h:ByC m rq Bb cb Bh ch M gw cw gn cn N was now v bs x f) (t:Turn f f' x x'):ByC m rq Bb cb Bh ch M gw cw gn cn N was now v bs x' f':=by
 obtain⟨h1,⟨n1,n2,n3⟩,h2,h3,hs,hne,haw⟩:=h;have hl:=h1.lt;have hn:∀k,k<x.heap.size->¬f k->¬f' k:=fun k h1 h2 h3=>(t.new k h3).elim h2 (fun h=>by omega);refine⟨h1.keep (t.out _ hl.1 n1) (t.out _ hl.2.1 n2) (t.out _ hl.2.2 n3),⟨hn _ hl.1 n1,hn _ hl.2.1 n2,hn _ hl.2.2 n3⟩,h2.turn t,h3.turn t, ?_,hne, ?_⟩
 ·obtain⟨a,cap,rfl,l1,l2,h3,l4⟩:=id hs;rcases h3 with h3 | ⟨b,off,rfl,h5,_⟩
  ·exact absurd h3 hne
  ·exact hs.same t.size (fun b' e=>by cases e;exact t.out b h5 (haw b off _ _ rfl))
 ·obtain⟨a,cap,rfl,l1,l2,h3,l4⟩:=id hs;rcases h3 with h3 | ⟨b,off,rfl,h5,_⟩
  ·exact absurd h3 hne
  ·intro b' off' len' cap' e hk;cases e;exact hn b h5 (haw b off _ _ rfl) hk
theorem ByC.below {m rq Bb cb Bh ch gw cw gn cn N:Nat} {M:MS} {was now:List (List Int)} {v:am} {bs:List Int} {x x':ak} {f:Nat->Prop} (h:ByC m rq Bb cb Bh ch M gw cw gn cn N was now v bs x f) (t:w9b x x'):ByC m rq Bb cb Bh ch M gw cw gn cn N was now v bs x' f:=h.turn (Turn.of_below t)
structure ByI (gi N:Nat) (t:List Img) (x:ak) (f:Nat->Prop):Prop where
 at_:x.rangeAt gi 0 (bI t).flatten
 lt:gi<x.heap.size
 nf:¬f gi
 ge:N<=gi
theorem ByI.turn {gi N:Nat} {t:List Img} {x x':ak} {f f':Nat->Prop} (h:ByI gi N t x f) (u:Turn f f' x x'):ByI gi N t x' f':=
 ⟨da h.at_ (u.out _ h.lt h.nf),aU h.lt u.size,fun hk=>(u.new _ hk).elim h.nf (fun h2=>by have:=h.lt;omega),h.ge⟩
theorem RS.bat_nil (S:RS):S.bat []=(S,0):=rfl
theorem app_bat {S:RS} {M:MS} {b:List Int} (hu:S.Up) (hin:∀l ∈ M.appW b,∀x ∈ l,x.1<S.n0):S.bat (M.appW b)=S.app 2 M.g.C M.at0 M.seq (M.dif b):=by
 unfold MS.appW at hin ⊢;obtain⟨e1,u1⟩:=RS.Up.wrs _ hu (hin _ eV);have s1:=(RS.wrs_spec _ S (hin _ eV)).1;have f1:=sH u1;obtain⟨u2,_⟩:=u1.flush 0;have h2:∀x ∈((bQ 2 M.g.C M.at0 M.seq (M.dif b)).drop (M.dif b).length),x.1< ((S.wrs ((bQ 2 M.g.C M.at0 M.seq (M.dif b)).take (M.dif b).length)).1.flush 0).n0:=fun x hx=>by
  rw[((RS.flush0 _).1).n0,s1.n0];exact hin _ (fG _ eV) x hx
 obtain⟨e3,u3⟩:=RS.Up.wrs _ u2 h2;have f3:=sH u3;unfold RS.app;rw[RS.bat_cons,if_neg (by rw[e1];simp),if_neg (by omega),RS.bat_cons,if_neg (by rw[e3];simp),if_neg (by omega),RS.bat_nil];rw[if_neg (by rw[e1];simp),if_neg (by omega),if_neg (by rw[e3];simp),if_neg (by omega)]
structure ByR (B:Nat) (t:aV) (C:List am) (x:ak) (f:Nat->Prop):Prop where
 row:aB x B t C
 nf:¬f B
theorem ByR.turn {B:Nat} {t:aV} {C:List am} {x x':ak} {f f':Nat->Prop} (h:ByR B t C x f) (u:Turn f f' x x'):ByR B t C x' f':=
 ⟨(u.out _ h.row.lt h.nf).trans h.row,fun hk=>(u.new _ hk).elim h.nf (fun h2=>by have:=h.row.lt;omega)⟩
theorem Gn {rq q0 q1:Nat} {S:RS} {w X:ak} {f:Nat->Prop} (h:bG rq q0 q1 S w f) (hX:w.alloc (ap (j7 rq) 217)=X):∃f',gx w.heap.size rq q0 q1 S X f'/\Turn f f' w X:=by
 obtain⟨f',h1,h2,_⟩:=yY h (aF _ w) hX;exact⟨f',h1,h2⟩
theorem gx.rig2 {wb rq q0 q1:Nat} {S:RS} {w:ak} {f:Nat->Prop} (h:gx wb rq q0 q1 S w f):∃f',bG rq q0 q1 S w f'/\Turn f f' w w:=by
 obtain⟨f',h1,h2⟩:=h.rig;exact⟨f',h1,(Turn.refl f w).less fun k hk=>aA (h2 k hk).1⟩
theorem MS.Ok.bat1 {S:RS} {M:MS} (h:M.Ok S) (hu:S.Up) (hf:S.Few 100) (hd:0<=S.done/\S.done<=500000):MayBat S M.homW 100:=by
 obtain⟨h1,h2,h3,h4⟩:=h.homB;exact⟨hu,h1,h2,hf,by omega,hd.1,by omega⟩
theorem Gp (rp bv hv hv':am) (g:Geo) (gen sup a q used gen' sup':Int):((((mC rp g bv hv gen sup a q used).set 7 hv').set 8 (ab aD gen')).set 9 (ab af sup')).set 12 (ab af 0)=mC rp g bv hv' gen' sup' a q 0:=rfl
theorem Gq (rp bv bv' hv:am) (g:Geo) (gen sup a q used a' q' used':Int):((((mC rp g bv hv gen sup a q used).set 10 (ab af a')).set 11 (ab aD q')).set 12 (ab af used')).set 6 bv'=mC rp g bv' hv gen sup a' q' used':=rfl
theorem kZ {f:Nat->Prop} {m:Nat} {w x:ak} {fr:Nat->Prop} (h:Turn (fun k=>f k\/k=m) (fun k=>fr k\/k=m) w x) (j:Nat) (v:am):Turn (fun k=>f k\/k=m) (fun k=>fr k\/k=m) w (x.setCell ⟨m,j,none⟩ v):=
 h.trans (jR (f:=fun k=>fr k\/k=m) x m j v (aC rfl))
structure Only (m:Nat) (V W:ak):Prop where
 g:V.grownBy W (some m)
 sz:W.heap.size=V.heap.size
theorem Only.refl (m:Nat) (V:ak):Only m V V:=⟨World.grownBy.refl _ _,rfl⟩
theorem Only.set {m:Nat} {V W:ak} (h:Only m V W) (j:Nat) (v:am):Only m V (W.setCell ⟨m,j,none⟩ v):=by
 have g:=iE W m j v;have hs:(W.setCell ⟨m,j,none⟩ v).heap.size=W.heap.size:=by show(W.heap.modify m _).size=_;simp
 exact⟨⟨g.os.trans h.g.os,g.tape.trans h.g.tape,g.output.trans h.g.output,by rw[hs,h.sz];exact aJ _,fun k hk hn=>(g.block k (by rw[h.sz];exact hk) hn).trans (h.g.block k hk hn)⟩,hs.trans h.sz⟩
theorem Only.at {m k:Nat} {V W:ak} (h:Only m V W) (hk:k≠m):W.heap[k]? =V.heap[k]? :=by
 by_cases hl:k<V.heap.size
 ·exact h.g.block k hl (fun e=>hk (Option.some.inj e))
 ·rw[Array.getElem?_eq_none (by rw[h.sz];omega),Array.getElem?_eq_none (by omega)]
theorem Only.sl {m:Nat} {V W:ak} (h:Only m V W) {v:am} {bs:List Int} (hs:Sl aq V v bs) (hne:bs≠ []) (hn:∀b off len cap,v=ag (some ⟨b,off,none⟩) len cap->b≠m):Sl aq W v bs:=by
 obtain⟨a,cap,rfl,l1,l2,h3,l4⟩:=id hs;rcases h3 with h3 | ⟨b,off,rfl,h5,_⟩
 ·exact absurd h3 hne
 ·exact hs.same (by rw[h.sz];exact aJ _) (fun b' e=>by cases e;exact h.at (hn b off _ _ rfl))
theorem RmAt.ckpt {m rq Bb cb Bh ch gw cw:Nat} {M:MS} {V W:ak} (h:RmAt m rq Bb cb Bh ch M V) (ho:Only m V W) (hrow:aB W m 112 (mC (ao (some ⟨rq,0,none⟩)) M.g (ag (some ⟨Bb,0,none⟩) M.b.length cb) (ag (some ⟨gw,0,none⟩) (aM M.b).length cw) (M.gen+1) ((1 - M.sup:Nat):Int) M.at0 M.seq 0))
  (hp:V.rangeAt gw 0 ((aM M.b).map an).flatten) (hc:∃cur,V.heap[gw]? =some (ap cur 205 (0,0))) (h1:gw≠m) (h2:gw≠Bb) (h3:0< (aM M.b).length):RmAt m rq Bb cb gw cw M.ckpt W:=by
 have e1:=ho.at h1;have e2:=ho.at (fun e=>h.mb e.symm);obtain⟨c,hc⟩:=hc;obtain⟨c2,t2,hc2⟩:=h.cb';exact⟨hrow,h.mb,fun e=>h1 e.symm,fun e=>h2 e.symm,h.b0,h3,h.cbl,⟨c2,t2,e2.trans hc2⟩,da h.bat e2,⟨c,_,e1.trans hc⟩,da hp e1⟩
theorem RmAt.app {m rq Bb cb Bh ch Bc cc:Nat} {M:MS} {bs:List Int} {V W:ak} (h:RmAt m rq Bb cb Bh ch M V) (ho:Only m V W) (hrow:aB W m 112 (mC (ao (some ⟨rq,0,none⟩)) M.g (ag (some ⟨Bc,0,none⟩) bs.length cc) (ag (some ⟨Bh,0,none⟩) M.home.length ch) M.gen M.sup (((M.at0+(M.dif bs).length+1)%M.g.C:Nat):Int) (M.seq+1) ((M.used+(M.dif bs).length+1:Nat):Int)))
  (hb:V.rangeAt Bc 0 (an bs)) (hc:∃cur,V.heap[Bc]? =some (ap cur 5 (0,0))) (h1:Bc≠m) (h2:Bc≠Bh) (h3:0<bs.length) (h4:bs.length<=cc/\cc<=aS):RmAt m rq Bc cc Bh ch (M.app bs) W:=by
 have e1:=ho.at h1;have e2:=ho.at (fun e=>h.mh e.symm);obtain⟨c,hc⟩:=hc;obtain⟨c2,t2,hc2⟩:=h.ch';exact⟨hrow,fun e=>h1 e.symm,h.mh,h2,h3,h.h0,h4,⟨c,_,e1.trans hc⟩,da hb e1,⟨c2,t2,e2.trans hc2⟩,da h.hat e2⟩
theorem Gr {u t:Nat} (hu:u<=256) (ht:t<=15):wrap64 ((u:Int)+(t:Int))=(u:Int)+(t:Int)/\wrap64 ((u:Int)+(t:Int)+1)=(u:Int)+(t:Int)+1/\((u+t+1:Nat):Int)=(u:Int)+(t:Int)+1:=
 ⟨gj _ (by omega),gj _ (by omega),by omega⟩
end
section
inductive Plan3 where
 | leaf
 | take (i:Nat) (next:Plan3)
 | one (i:Nat) (next:Plan3)
 | two (i j:Nat) (next1 next2:Plan3)
 | three (i j k:Nat) (next1 next2 next3:Plan3)
def Plan3.takes:List Nat->Plan3->Plan3
 | [],p=>p
 | i::l,p=>.take i (Plan3.takes l p)
def jd (md:Region.Mode) (l:List Oper) (n:Nat):Plan3->Nat->Array Bool->Bool
 | .leaf,f,listed=>decide (f=0)&&Region.seqB md l.toArray (l.length - n) n listed
 | .take i next,f,listed=>decide (0<f)&&decide (i<n)&&me (cQ l i).op&&(Region.ready md l.toArray listed).contains i&&Region.free md l.toArray listed i&&jd md l n next (f - 1) (listed.setIfInBounds i true)
 | .one i next,f,listed=>decide (0<f)&&decide (i<n)&&decide (Region.ready md l.toArray listed= [i])&&jd md l n next (f - 1) (listed.setIfInBounds i true)
 | .two i j n1 n2,f,listed=>decide (0<f)&&decide (i<n)&&decide (j<n)&&decide (Region.ready md l.toArray listed= [i,j])&&jd md l n n1 (f - 1) (listed.setIfInBounds i true)&&jd md l n n2 (f - 1) (listed.setIfInBounds j true)
 | .three i j k n1 n2 n3,f,listed=>decide (0<f)&&decide (i<n)&&decide (j<n)&&decide (k<n)&&decide (Region.ready md l.toArray listed= [i,j,k])&&jd md l n n1 (f - 1) (listed.setIfInBounds i true)&&jd md l n n2 (f - 1) (listed.setIfInBounds j true)&&jd md l n n3 (f - 1) (listed.setIfInBounds k true)
section
variable {P:Program} {Q:Exit->Act->ak->Prop} {md:Region.Mode} {S:ak->Prop}
def fj (P:Program) (l:List Oper) (Q:Exit->Act->ak->Prop) (S:ak->Prop) (n:Nat):Plan3->Act->ak->Prop
 | .leaf,a,w=>wpList P l.toArray Q (l.drop n) a w
 | .take i next,a,w=>wpQuiet P l.toArray S (fun a'=>fj P l Q S n next a' w) [cQ l i] a
 | .one i next,a,w=>wpList P l.toArray (eZ S ew (fj P l Q S n next)) [cQ l i] a w
 | .two i j n1 n2,a,w=>wpList P l.toArray (eZ S ew (fj P l Q S n n1)) [cQ l i] a w/\wpList P l.toArray (eZ S ew (fj P l Q S n n2)) [cQ l j] a w
 | .three i j k n1 n2 n3,a,w=>wpList P l.toArray (eZ S ew (fj P l Q S n n1)) [cQ l i] a w/\wpList P l.toArray (eZ S ew (fj P l Q S n n2)) [cQ l j] a w/\wpList P l.toArray (eZ S ew (fj P l Q S n n3)) [cQ l k] a w
theorem zk {l:List Oper} {n:Nat} {a:Act} {w:ak}:fj P l Q S n .leaf a w=wpList P l.toArray Q (l.drop n) a w:=rfl
theorem zl {l:List Oper} {n i:Nat} {p:Plan3} {a:Act} {w:ak}:fj P l Q S n (.one i p) a w=wpList P l.toArray (eZ S ew (fj P l Q S n p)) [cQ l i] a w:=rfl
theorem zm {l:List Oper} {n i j:Nat} {p q:Plan3} {a:Act} {w:ak}:fj P l Q S n (.two i j p q) a w=(wpList P l.toArray (eZ S ew (fj P l Q S n p)) [cQ l i] a w/\wpList P l.toArray (eZ S ew (fj P l Q S n q)) [cQ l j] a w):=rfl
theorem Gs {l:List Oper} {n i j k:Nat} {p q r:Plan3} {a:Act} {w:ak}:fj P l Q S n (.three i j k p q r) a w=(wpList P l.toArray (eZ S ew (fj P l Q S n p)) [cQ l i] a w/\wpList P l.toArray (eZ S ew (fj P l Q S n q)) [cQ l j] a w/\wpList P l.toArray (eZ S ew (fj P l Q S n r)) [cQ l k] a w):=rfl
theorem zn {l:List Oper} {n:Nat} {p:Plan3} {a:Act} {w:ak}:fj P l Q S n (.takes [] p) a w=fj P l Q S n p a w:=rfl
theorem zo {l:List Oper} {n i:Nat} {is:List Nat} {p:Plan3} {a:Act} {w:ak}:fj P l Q S n (.takes (i::is) p) a w=wpQuiet P l.toArray S (fun a'=>fj P l Q S n (.takes is p) a' w) [cQ l i] a:=rfl
theorem Gt {l:List Oper} {n:Nat} (hsel:Region.noSelect l.toArray=true) (hT:lV md l.toArray n) (hn:n<=l.length):
  ∀(p:Plan3) (f:Nat) (listed:Array Bool) (a:Act) (w:ak),HeadInv md l.toArray n listed->jd md l n p f listed=true->S w->fj P l Q S n p a w->
   jh P md l.toArray ew S n (fun listed' a' w'=>Region.seqB md l.toArray (l.length - n) n listed'=true/\wpList P l.toArray Q (l.drop n) a' w') f listed a w:=by
 intro p
 induction p with
 | leaf=>
  intro f listed a w inv hB hS h;simp only[jd,fN,decide_eq_true_eq]at hB;obtain⟨rfl,hB⟩:=hB;exact⟨hB,h⟩
 | take i next ih=>
  intro f listed a w inv hB hS h;simp only[jd,fN,decide_eq_true_eq]at hB;obtain⟨⟨⟨⟨⟨hf,hin⟩,hrd⟩,hr⟩,hfr⟩,hB⟩:=hB;obtain⟨f,rfl⟩:∃g,f=g+1:=⟨f - 1,by omega⟩;have ho:l.toArray[i]? =some (cQ l i):=by simpa using mf l i (by omega)
  have hr':i ∈ Region.ready md l.toArray listed:=by simpa using hr
  simp only[fj,wpQuiet]at h;obtain⟨v,hy,hK⟩:=od (i:=i) hrd ⟨w,hS⟩ h;exact yM ho (Region.noSelect_spec hsel) hT hin (fun listed a w hL=>seqB_ready hL.1) f listed a w inv (Region.free_spec ho hfr) hr' hy hS
   (ih f _ _ w (inv.set hr' hin) (by simpa using hB) hS hK)
 | one i next ih=>
  intro f listed a w inv hB hS h;simp only[jd,fN,decide_eq_true_eq]at hB;obtain⟨⟨⟨hf,hin⟩,hr⟩,hB⟩:=hB;obtain⟨f,rfl⟩:∃g,f=g+1:=⟨f - 1,by omega⟩;refine⟨by rw[hr];simp,fun j hj=> ?_⟩;have hj':=hj;rw[hr]at hj;obtain rfl:j=i:=by simpa using hj
  exact⟨hin,wpOp_mono (fun a' w' h'=>⟨h'.1,ih f _ _ w' (inv.set hj' hin) (by simpa using hB) h'.1 h'.2⟩) (js (by omega) h)⟩
 | two i k n1 n2 ih1 ih2=>
  intro f listed a w inv hB hS h;simp only[jd,fN,decide_eq_true_eq]at hB;obtain⟨⟨⟨⟨⟨hf,hin⟩,hkn⟩,hr⟩,hB1⟩,hB2⟩:=hB;obtain⟨f,rfl⟩:∃g,f=g+1:=⟨f - 1,by omega⟩;obtain⟨g1,g2⟩:=h;refine⟨by rw[hr];simp,fun j hj=> ?_⟩;have hj':=hj;rw[hr]at hj;rcases(by simpa using hj:j=i\/j=k)with rfl | rfl
  ·exact⟨hin,wpOp_mono (fun a' w' h'=>⟨h'.1,ih1 f _ _ w' (inv.set hj' hin) (by simpa using hB1) h'.1 h'.2⟩) (js (by omega) g1)⟩
  ·exact⟨hkn,wpOp_mono (fun a' w' h'=>⟨h'.1,ih2 f _ _ w' (inv.set hj' hkn) (by simpa using hB2) h'.1 h'.2⟩) (js (by omega) g2)⟩
 | three i k m n1 n2 n3 ih1 ih2 ih3=>
  intro f listed a w inv hB hS h;simp only[jd,fN,decide_eq_true_eq]at hB;obtain⟨⟨⟨⟨⟨⟨⟨hf,hin⟩,hkn⟩,hmn⟩,hr⟩,hB1⟩,hB2⟩,hB3⟩:=hB;obtain⟨f,rfl⟩:∃g,f=g+1:=⟨f - 1,by omega⟩;obtain⟨g1,g2,g3⟩:=h;refine⟨by rw[hr];simp,fun j hj=> ?_⟩;have hj':=hj;rw[hr]at hj;rcases(by simpa using hj:j=i\/j=k\/j=m)with rfl | rfl | rfl
  ·exact⟨hin,wpOp_mono (fun a' w' h'=>⟨h'.1,ih1 f _ _ w' (inv.set hj' hin) (by simpa using hB1) h'.1 h'.2⟩) (js (by omega) g1)⟩
  ·exact⟨hkn,wpOp_mono (fun a' w' h'=>⟨h'.1,ih2 f _ _ w' (inv.set hj' hkn) (by simpa using hB2) h'.1 h'.2⟩) (js (by omega) g2)⟩
  ·exact⟨hmn,wpOp_mono (fun a' w' h'=>⟨h'.1,ih3 f _ _ w' (inv.set hj' hmn) (by simpa using hB3) h'.1 h'.2⟩) (js (by omega) g3)⟩
def qn (l:List Oper) (n:Nat) (p:Plan3):Bool:=
 Region.noSelect l.toArray&&(decide (n=l.length)||(decide (n<l.length)&&Region.sinkB .any l.toArray n&&Region.chainB .any l.toArray n))&&jd .any l n p n (kg l.length false)
theorem Gu {l:List Oper} {a:Act} {w:ak} (S:ak->Prop) (n:Nat) (p:Plan3) (hB:qn l n p=true) (hS:S w)
  (h:fj P l Q S n p a w):wpAny P .any l.toArray Q l.toArray.size (kg l.toArray.size false) a w:=by
 simp only[qn,fN,Bool.or_eq_true,decide_eq_true_eq]at hB;obtain⟨⟨hsel,hnn⟩,hp⟩:=hB;have hn:n<=l.length:=by omega
 have hT:lV .any l.toArray n:=by
  rcases hnn with rfl | ⟨⟨hn,hs⟩,hc⟩
  ·have:=yL (md:=.any) (ops:=l.toArray)
   simpa using this
  ·exact yK hs hc (by simpa using hn)
 have inv0:HeadInv .any l.toArray n (kg l.toArray.size false):=
  ⟨by simp,fun j oj _ hl=>(by rw[getD_replicate_false]at hl;cases hl),fun t _ ht=>getD_in (by simpa using ht) (getD_replicate_false _ _)⟩
 have H:=Gt (md:=.any) hsel hT hn p n _ a w inv0 (by simpa using hp) hS h;have:=oe (g:=l.length - n) (fun listed a' w' hL=>by
  have:=wpAny_of_seq (md:=.any) (Q':=Q) (l.drop n) n listed a' w' (fun j=>by simp[kf]) (by rw[dx];exact hL.1) hL.2
  rwa [dx]at this) _ _ _ _ (tA (Q:=Q) _ _ _ _ H)
 rw[show n+(l.length - n)=l.toArray.size by simp;omega]at this;exact this
theorem zp {id:Nat} {a:Act} {w:ak} {l:List Oper} (S:ak->Prop) (n:Nat) (p:Plan3) (hm:P.follows .mixedOrders=true) (hB:qn l n p=true) (hS:S w.drew)
  (h:fj P l Q S n p a w.drew):(Code.region id l.toArray true).wp P Q a w:=
 wp_region_any hm (Gu S n p hB hS h)
end
end
section
def Gv:List Oper:= [⟨some 192,Op.move (.tmp 0),103, "ref.go:214",#[],none⟩,⟨some 193,Op.move (.tmp 0),103, "ref.go:214",#[⟨23,.gcOnly .lateStores⟩],none⟩,⟨some 194,Op.move (.tmp 0),103, "ref.go:214",#[⟨26,.gcOnly .lateStores⟩],none⟩,⟨some 195,Op.move (.tmp 0),103, "ref.go:214",#[⟨29,.gcOnly .lateStores⟩],none⟩,⟨some 196,Op.move (.tmp 12),3, "ref.go:214",#[],none⟩,⟨some 197,Op.move (.tmp 0),103, "ref.go:214",#[],none⟩,⟨some 198,Op.nilCheck (.tmp 197),0, "ref.go:214",#[⟨5,.data⟩],none⟩,⟨some 199,Op.fieldAddr 112 (.tmp 198) 7,0, "ref.go:214",#[⟨6,.data⟩],none⟩,⟨some 200,Op.load 110 (.tmp 199),110, "ref.go:214",#[⟨7,.data⟩],none⟩,⟨some 201,Op.binOp BinOp.add 110 (.tmp 200) (Operand.const (Value.int IntKind.u32 1)) 110,110, "ref.go:214",#[⟨8,.data⟩],none⟩,⟨some 202,Op.move (.tmp 0),103, "ref.go:214",#[],none⟩,⟨some 203,Op.nilCheck (.tmp 202),0, "ref.go:214",#[⟨10,.data⟩],none⟩,⟨some 204,Op.fieldAddr 112 (.tmp 203) 8,0, "ref.go:214",#[⟨11,.data⟩],none⟩,⟨some 205,Op.load 3 (.tmp 204),3, "ref.go:214",#[⟨12,.data⟩],none⟩,⟨some 206,Op.move (.tmp 7),231, "ref.go:214",#[],none⟩,⟨some 207,Op.call {callee:=Callee.builtin Builtin.len,args:=#[.tmp 206],argTypes:=#[231]},3, "ref.go:214",#[⟨14,.data⟩],none⟩,⟨some 208,Op.binOp BinOp.add 3 (.tmp 205) (.tmp 207) 3,3, "ref.go:214",#[⟨13,.data⟩,⟨15,.data⟩],none⟩,⟨some 209,Op.binOp BinOp.add 3 (.tmp 208) (Operand.const (Value.int IntKind.i64 1)) 3,3, "ref.go:214",#[⟨16,.data⟩],none⟩,⟨some 210,Op.buildSlice 76 0 #[],76, "ref.go:214",#[],none⟩,⟨some 211,Op.move (.tmp 1),76, "ref.go:214",#[],none⟩,⟨some 212,Op.call {callee:=Callee.builtin Builtin.append,args:=#[.tmp 210,.tmp 211],argTypes:=#[76,76]},76, "ref.go:214",#[⟨18,.data⟩,⟨19,.data⟩],none⟩,⟨some 213,Op.nilCheck (.tmp 192),0, "ref.go:214",#[⟨0,.data⟩,⟨0,.phase⟩,⟨1,.textOnly .lateStores⟩,⟨2,.textOnly .lateStores⟩,⟨3,.textOnly .lateStores⟩,⟨4,.phase⟩,⟨5,.textOnly .lateStores⟩,⟨6,.textOnly .lateStoresUnsure⟩,⟨7,.textOnly .lateStoresUnsure⟩,⟨8,.phase⟩,⟨9,.textOnly .lateStoresUnsure⟩,⟨10,.textOnly .lateStores⟩,⟨11,.textOnly .lateStoresUnsure⟩,⟨12,.textOnly .lateStoresUnsure⟩,⟨13,.phase⟩,⟨14,.textOnly .lateStores⟩,⟨15,.textOnly .lateStoresUnsure⟩,⟨16,.textOnly .lateStoresUnsure⟩,⟨17,.textOnly .lateStoresUnsure⟩,⟨18,.textOnly .lateStoresUnsure⟩,⟨19,.textOnly .lateStores⟩,⟨20,.phase⟩],none⟩,⟨some 214,Op.fieldAddr 112 (.tmp 213) 6,0, "ref.go:214",#[⟨21,.data⟩,⟨0,.phase⟩,⟨1,.textOnly .lateStores⟩,⟨2,.textOnly .lateStores⟩,⟨3,.textOnly .lateStores⟩,⟨4,.phase⟩,⟨5,.textOnly .lateStores⟩,⟨6,.textOnly .lateStoresUnsure⟩,⟨7,.textOnly .lateStoresUnsure⟩,⟨8,.phase⟩,⟨9,.textOnly .lateStoresUnsure⟩,⟨10,.textOnly .lateStores⟩,⟨11,.textOnly .lateStoresUnsure⟩,⟨12,.textOnly .lateStoresUnsure⟩,⟨13,.phase⟩,⟨14,.textOnly .lateStores⟩,⟨15,.textOnly .lateStoresUnsure⟩,⟨16,.textOnly .lateStoresUnsure⟩,⟨17,.textOnly .lateStoresUnsure⟩,⟨18,.textOnly .lateStoresUnsure⟩,⟨19,.textOnly .lateStores⟩,⟨20,.phase⟩],none⟩,⟨none,Op.store 3 (.tmp 214) (.tmp 196),0, "ref.go:214",#[⟨22,.data⟩,⟨4,.data⟩,⟨20,.chain⟩,⟨0,.phase⟩,⟨1,.textOnly .lateStores⟩,⟨2,.textOnly .lateStores⟩,⟨3,.textOnly .lateStores⟩,⟨4,.phase⟩,⟨5,.textOnly .lateStores⟩,⟨6,.textOnly .lateStoresUnsure⟩,⟨7,.textOnly .lateStoresUnsure⟩,⟨8,.phase⟩,⟨9,.textOnly .lateStoresUnsure⟩,⟨10,.textOnly .lateStores⟩,⟨11,.textOnly .lateStoresUnsure⟩,⟨12,.textOnly .lateStoresUnsure⟩,⟨13,.phase⟩,⟨14,.textOnly .lateStores⟩,⟨15,.textOnly .lateStoresUnsure⟩,⟨16,.textOnly .lateStoresUnsure⟩,⟨17,.textOnly .lateStoresUnsure⟩,⟨18,.textOnly .lateStoresUnsure⟩,⟨19,.textOnly .lateStores⟩,⟨20,.phase⟩],none⟩,⟨some 215,Op.nilCheck (.tmp 193),0, "ref.go:214",#[⟨1,.data⟩,⟨0,.phase⟩,⟨1,.phase⟩,⟨2,.textOnly .lateStores⟩,⟨3,.textOnly .lateStores⟩,⟨4,.phase⟩,⟨5,.phase⟩,⟨6,.phase⟩,⟨7,.phase⟩,⟨8,.phase⟩,⟨9,.phase⟩,⟨10,.textOnly .lateStores⟩,⟨11,.textOnly .lateStoresUnsure⟩,⟨12,.textOnly .lateStoresUnsure⟩,⟨13,.phase⟩,⟨14,.textOnly .lateStores⟩,⟨15,.textOnly .lateStoresUnsure⟩,⟨16,.textOnly .lateStoresUnsure⟩,⟨17,.textOnly .lateStoresUnsure⟩,⟨18,.textOnly .lateStoresUnsure⟩,⟨19,.textOnly .lateStores⟩,⟨20,.phase⟩,⟨21,.phase⟩,⟨22,.phase⟩,⟨23,.phase⟩],none⟩,⟨some 216,Op.fieldAddr 112 (.tmp 215) 7,0, "ref.go:214",#[⟨24,.data⟩,⟨0,.phase⟩,⟨1,.phase⟩,⟨2,.textOnly .lateStores⟩,⟨3,.textOnly .lateStores⟩,⟨4,.phase⟩,⟨5,.phase⟩,⟨6,.phase⟩,⟨7,.phase⟩,⟨8,.phase⟩,⟨9,.phase⟩,⟨10,.textOnly .lateStores⟩,⟨11,.textOnly .lateStoresUnsure⟩,⟨12,.textOnly .lateStoresUnsure⟩,⟨13,.phase⟩,⟨14,.textOnly .lateStores⟩,⟨15,.textOnly .lateStoresUnsure⟩,⟨16,.textOnly .lateStoresUnsure⟩,⟨17,.textOnly .lateStoresUnsure⟩,⟨18,.textOnly .lateStoresUnsure⟩,⟨19,.textOnly .lateStores⟩,⟨20,.phase⟩,⟨21,.phase⟩,⟨22,.phase⟩,⟨23,.phase⟩],none⟩,⟨none,Op.store 110 (.tmp 216) (.tmp 201),0, "ref.go:214",#[⟨25,.data⟩,⟨9,.data⟩,⟨23,.chain⟩,⟨0,.phase⟩,⟨1,.phase⟩,⟨2,.textOnly .lateStores⟩,⟨3,.textOnly .lateStores⟩,⟨4,.phase⟩,⟨5,.phase⟩,⟨6,.phase⟩,⟨7,.phase⟩,⟨8,.phase⟩,⟨9,.phase⟩,⟨10,.textOnly .lateStores⟩,⟨11,.textOnly .lateStoresUnsure⟩,⟨12,.textOnly .lateStoresUnsure⟩,⟨13,.phase⟩,⟨14,.textOnly .lateStores⟩,⟨15,.textOnly .lateStoresUnsure⟩,⟨16,.textOnly .lateStoresUnsure⟩,⟨17,.textOnly .lateStoresUnsure⟩,⟨18,.textOnly .lateStoresUnsure⟩,⟨19,.textOnly .lateStores⟩,⟨20,.phase⟩,⟨21,.phase⟩,⟨22,.phase⟩,⟨23,.phase⟩],none⟩,⟨some 217,Op.nilCheck (.tmp 194),0, "ref.go:214",#[⟨2,.data⟩,⟨0,.phase⟩,⟨1,.phase⟩,⟨2,.phase⟩,⟨3,.textOnly .lateStores⟩,⟨4,.phase⟩,⟨5,.phase⟩,⟨6,.phase⟩,⟨7,.phase⟩,⟨8,.phase⟩,⟨9,.phase⟩,⟨10,.phase⟩,⟨11,.phase⟩,⟨12,.phase⟩,⟨13,.phase⟩,⟨14,.phase⟩,⟨15,.phase⟩,⟨16,.phase⟩,⟨17,.phase⟩,⟨18,.textOnly .lateStoresUnsure⟩,⟨19,.textOnly .lateStores⟩,⟨20,.phase⟩,⟨21,.phase⟩,⟨22,.phase⟩,⟨23,.phase⟩,⟨24,.phase⟩,⟨25,.phase⟩,⟨26,.phase⟩],none⟩,⟨some 218,Op.fieldAddr 112 (.tmp 217) 8,0, "ref.go:214",#[⟨27,.data⟩,⟨0,.phase⟩,⟨1,.phase⟩,⟨2,.phase⟩,⟨3,.textOnly .lateStores⟩,⟨4,.phase⟩,⟨5,.phase⟩,⟨6,.phase⟩,⟨7,.phase⟩,⟨8,.phase⟩,⟨9,.phase⟩,⟨10,.phase⟩,⟨11,.phase⟩,⟨12,.phase⟩,⟨13,.phase⟩,⟨14,.phase⟩,⟨15,.phase⟩,⟨16,.phase⟩,⟨17,.phase⟩,⟨18,.textOnly .lateStoresUnsure⟩,⟨19,.textOnly .lateStores⟩,⟨20,.phase⟩,⟨21,.phase⟩,⟨22,.phase⟩,⟨23,.phase⟩,⟨24,.phase⟩,⟨25,.phase⟩,⟨26,.phase⟩],none⟩,⟨none,Op.store 3 (.tmp 218) (.tmp 209),0, "ref.go:214",#[⟨28,.data⟩,⟨17,.data⟩,⟨26,.chain⟩,⟨0,.phase⟩,⟨1,.phase⟩,⟨2,.phase⟩,⟨3,.textOnly .lateStores⟩,⟨4,.phase⟩,⟨5,.phase⟩,⟨6,.phase⟩,⟨7,.phase⟩,⟨8,.phase⟩,⟨9,.phase⟩,⟨10,.phase⟩,⟨11,.phase⟩,⟨12,.phase⟩,⟨13,.phase⟩,⟨14,.phase⟩,⟨15,.phase⟩,⟨16,.phase⟩,⟨17,.phase⟩,⟨18,.textOnly .lateStoresUnsure⟩,⟨19,.textOnly .lateStores⟩,⟨20,.phase⟩,⟨21,.phase⟩,⟨22,.phase⟩,⟨23,.phase⟩,⟨24,.phase⟩,⟨25,.phase⟩,⟨26,.phase⟩],none⟩,⟨some 219,Op.nilCheck (.tmp 195),0, "ref.go:214",#[⟨3,.data⟩,⟨0,.phase⟩,⟨1,.phase⟩,⟨2,.phase⟩,⟨3,.phase⟩,⟨4,.phase⟩,⟨5,.phase⟩,⟨6,.phase⟩,⟨7,.phase⟩,⟨8,.phase⟩,⟨9,.phase⟩,⟨10,.phase⟩,⟨11,.phase⟩,⟨12,.phase⟩,⟨13,.phase⟩,⟨14,.phase⟩,⟨15,.phase⟩,⟨16,.phase⟩,⟨17,.phase⟩,⟨18,.phase⟩,⟨19,.phase⟩,⟨20,.phase⟩,⟨21,.phase⟩,⟨22,.phase⟩,⟨23,.phase⟩,⟨24,.phase⟩,⟨25,.phase⟩,⟨26,.phase⟩,⟨27,.phase⟩,⟨28,.phase⟩,⟨29,.phase⟩],none⟩,⟨some 220,Op.fieldAddr 112 (.tmp 219) 2,0, "ref.go:214",#[⟨30,.data⟩,⟨0,.phase⟩,⟨1,.phase⟩,⟨2,.phase⟩,⟨3,.phase⟩,⟨4,.phase⟩,⟨5,.phase⟩,⟨6,.phase⟩,⟨7,.phase⟩,⟨8,.phase⟩,⟨9,.phase⟩,⟨10,.phase⟩,⟨11,.phase⟩,⟨12,.phase⟩,⟨13,.phase⟩,⟨14,.phase⟩,⟨15,.phase⟩,⟨16,.phase⟩,⟨17,.phase⟩,⟨18,.phase⟩,⟨19,.phase⟩,⟨20,.phase⟩,⟨21,.phase⟩,⟨22,.phase⟩,⟨23,.phase⟩,⟨24,.phase⟩,⟨25,.phase⟩,⟨26,.phase⟩,⟨27,.phase⟩,⟨28,.phase⟩,⟨29,.phase⟩],none⟩,⟨none,Op.store 76 (.tmp 220) (.tmp 212),0, "ref.go:214",#[⟨31,.data⟩,⟨20,.data⟩,⟨29,.chain⟩,⟨0,.phase⟩,⟨1,.phase⟩,⟨2,.phase⟩,⟨3,.phase⟩,⟨4,.phase⟩,⟨5,.phase⟩,⟨6,.phase⟩,⟨7,.phase⟩,⟨8,.phase⟩,⟨9,.phase⟩,⟨10,.phase⟩,⟨11,.phase⟩,⟨12,.phase⟩,⟨13,.phase⟩,⟨14,.phase⟩,⟨15,.phase⟩,⟨16,.phase⟩,⟨17,.phase⟩,⟨18,.phase⟩,⟨19,.phase⟩,⟨20,.phase⟩,⟨21,.phase⟩,⟨22,.phase⟩,⟨23,.phase⟩,⟨24,.phase⟩,⟨25,.phase⟩,⟨26,.phase⟩,⟨27,.phase⟩,⟨28,.phase⟩,⟨29,.phase⟩],none⟩]
theorem Gw:qn Gv 33 (.takes [0,1,2,3,4,5,10,14,19,6,11,15,7,12] (.three 8 13 18 (.takes [9] (.two 13 18 (.takes [16,17] (.one 18 (.one 20 (.takes [21,22] (.one 23 (.takes [24,25] (.one 26 (.takes [27,28] (.one 29 (.takes [30,31] (.one 32 .leaf))))))))))) (.two 13 20 (.takes [16,17] (.one 20 (.takes [21,22] (.one 23 (.takes [24,25] (.one 26 (.takes [27,28] (.one 29 (.takes [30,31] (.one 32 .leaf)))))))))) (.one 13 (.takes [16,21,17,22] (.one 23 (.takes [24,25] (.one 26 (.takes [27,28] (.one 29 (.takes [30,31] (.one 32 .leaf)))))))))))) (.takes [16,17] (.two 8 18 (.takes [9] (.one 18 (.one 20 (.takes [21,22] (.one 23 (.takes [24,25] (.one 26 (.takes [27,28] (.one 29 (.takes [30,31] (.one 32 .leaf))))))))))) (.two 8 20 (.takes [9] (.one 20 (.takes [21,22] (.one 23 (.takes [24,25] (.one 26 (.takes [27,28] (.one 29 (.takes [30,31] (.one 32 .leaf)))))))))) (.one 8 (.takes [9,21,22] (.one 23 (.takes [24,25] (.one 26 (.takes [27,28] (.one 29 (.takes [30,31] (.one 32 .leaf)))))))))))) (.three 8 13 20 (.takes [9] (.two 13 20 (.takes [16,17] (.one 20 (.takes [21,22] (.one 23 (.takes [24,25] (.one 26 (.takes [27,28] (.one 29 (.takes [30,31] (.one 32 .leaf)))))))))) (.one 13 (.takes [16,21,17,22] (.one 23 (.takes [24,25] (.one 26 (.takes [27,28] (.one 29 (.takes [30,31] (.one 32 .leaf))))))))))) (.takes [16,17] (.two 8 20 (.takes [9] (.one 20 (.takes [21,22] (.one 23 (.takes [24,25] (.one 26 (.takes [27,28] (.one 29 (.takes [30,31] (.one 32 .leaf)))))))))) (.one 8 (.takes [9,21,22] (.one 23 (.takes [24,25] (.one 26 (.takes [27,28] (.one 29 (.takes [30,31] (.one 32 .leaf))))))))))) (.two 8 13 (.takes [9] (.one 13 (.takes [16,21,17,22] (.one 23 (.takes [24,25] (.one 26 (.takes [27,28] (.one 29 (.takes [30,31] (.one 32 .leaf)))))))))) (.takes [16,17] (.one 8 (.takes [9,21,22] (.one 23 (.takes [24,25] (.one 26 (.takes [27,28] (.one 29 (.takes [30,31] (.one 32 .leaf))))))))))))))=true:=by decide+kernel
end
end Go.Proofs.YtbeeenembgplmaaGreat
