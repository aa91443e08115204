/- Made shorter by a tool: what the statements rest on. -/
import Derived.Test.YtbeeenembgplmaaGreatMT4
import Derived.Deep.Cut
import Derived.Deep.CutRange
set_option maxRecDepth 100000
set_option maxHeartbeats 20000000
set_option linter.unusedVariables false
set_option linter.unusedSimpArgs false
open List renaming drop_succ_cons -> be, drop_zero -> bf, getElem?_eq_getElem -> bJ, replicate -> bK, length_cons -> cK, length_append -> cX, mem_map -> dc, getElem?_eq_some_iff -> dp, getElem?_map -> du, length_drop -> dx, mem_of_getElem? -> dI, mem_singleton -> dO, length_nil -> dP, nil_append -> dT, size_toArray -> dU, cons_append -> dX, mem_cons -> ec, take_of_length_le -> ey, push_toArray -> eD, append_toArray -> eF, getElem?_append_left -> eU, mem_cons_self -> eV, length_take -> fd, map_append -> fp, getElem?_append_right -> fF, mem_cons_of_mem -> fG, length_map -> fZ, mem_append -> gW, mem_of_mem_take -> gX, map_map -> iA, eq_nil_of_length_eq_zero -> je, getElem?_drop -> kf, take_append_drop -> ki, flatten_append -> kj, getElem?_cons_succ -> kC
open Nat renaming le_refl -> aJ, lt_of_lt_of_le -> aU, le_trans -> aZ, zero_le -> bq, zero_add -> dC, mod_lt -> fO, lt_irrefl -> gQ, le_of_lt -> iT
open Int renaming toNat_natCast -> gO
open Array renaming getElem?_eq_some_iff -> cj, replicate_succ -> ez, replicate_zero -> eA, replicate -> kg
open Bool renaming and_eq_true -> fN
open Go.Lib renaming hid -> ae
open Go renaming World -> ak, Value -> am, Calls -> az, loadVar -> aE, undef -> aK, storeVar -> aL, Addr -> aN, wpQuiet_nil -> aO, maxLen -> aS, TypeId -> aV, bodyPost_ret -> bl, heap_alloc_new -> bR, run_equalIn_agg -> cZ, info_parts -> eJ, all_oneCell_toArray -> gD, run_takeDeferred -> iD, run_loadVar_mid -> iL, run_storeVar_new -> iU, callsIn_of_wp_marks -> jf
open Go.Boxed renaming new -> dY
open Go.Instr renaming buildSlice -> cO, build -> cY
open Go.IntWalk renaming wrap64_in -> gj
open Go.KeepsOthers renaming setCell -> iC
open Go.Op renaming equalIn -> eG
open Go.RowKit renaming Below -> ah, intOf -> aW
open Go.RowKit.Below renaming refl -> aF, heap_setCell -> gc
open Go.Sem renaming run_bind -> gR
open Go.Value renaming ownBlock -> fq
open Go.World renaming cell?_of_block -> cL, size_alloc -> dy, ownsRow_nil -> ft, rangeAt_setCells_same -> gE, rangeAt_setCells_apart -> iM, heap_setCells_other -> li
open Go.Ending renaming returned -> ar
open Go.IntKind renaming i64 -> af, u8 -> aq, u32 -> aD
open Go.Obj renaming cells -> ap
open Go.Value renaming int -> ab, slice -> ag, agg -> al, pointer -> ao, tuple -> aQ
open Or renaming inl -> aA, inr -> aC
open Go.Proofs.Tryz
open Go.Proofs.Tryz renaming prog -> aj
namespace Go.Proofs.YtbeeenembgplmaaGreat
open Go.RowKit Go.Shelf Go.Lib
section
attribute [-simp] isAgg51 zeroValue51 isAgg205 zeroValue205 isAgg304 zeroValue304 isAgg226 zeroValue226 isAgg207 zeroValue207 isAgg198 zeroValue198
attribute [-go_sem] aE aL cZ
attribute [local go_sem] bC bD cV eM eN eO ig ek gA ie gB gC
theorem tk {gen:Int} (hn:cH gen) (g:Geo) (a q:Int):(ev gen g a q).Ok:=
 ⟨by show(0:Int)<=83/\(83:Int)<256;omega,hn,pN gen g a q,(aP.app (by intro j;match j with | 0=>decide | 1=>decide | 2=>decide | 3=>decide | j+4=>simp) ((il _ _).app ((il _ _).app ((il _ _).app ((il _ _).app ((il _ _).app ((il _ _).app (il _ _)))))))).app (mm 30)⟩
theorem E8 (gen:Int) (g:Geo) (a q:Int):(ev gen g a q).fits=true:=decide_eq_true ⟨by show(83:Int)≠0;omega,by show(0:Int)<=0/\(0:Int)<=65535;omega⟩
theorem E9 {w x:ak} {B:Nat} {u:List am} {z:Array am} (hw:x.heap[B]? =some (ap z 207 (0,0))) (hz:z.size=65) (hB:w.heap.size<=B) (hb:w9b w x) (hu:u.length=65) (h1:∀v ∈ u,v.oneCell'=true):
  ∃x',(aL 207 ⟨B,0,none⟩ (al u.toArray)).run aj x=.ok () x'/\(aE 207 ⟨B,0,none⟩).run aj x'=.ok (al u.toArray) x'/\ah w.heap.size w x':=by
 have ht:x.there B 0 65:=fy hw 0 65 (by rw[hz];exact aJ _);have hs:(aL 207 ⟨B,0,none⟩ (al u.toArray)).run aj x=.ok () (x.setCells B 0 u):=by
  have:=run_storeVar_mid (P:=aj) x B 0 207 u.toArray (by simpa [hu]using ht) (by simpa [hu]using sL) (gD h1)
  simpa using this
 exact⟨_,hs,xe (gE x _ 0 u (by rw[hu];exact ht)) hu,hb.trans (fi hB _ _ _)⟩
section
theorem ye (i:Nat) {gen:Int} {g:Geo} {a q:Int} (hI:SupIn gen g a q) (w:ak):
  az aj 133 #[ab af (i:Int),al (cJ gen g a q).toArray] w fun e w'=>e=ar (al (dS (i,an (ev gen g a q).bytes)).toArray)/\ah w.heap.size w w':=by
 obtain⟨W1,hW1⟩:=w9nm (w.alloc (ap (cJ gen g a q).toArray 198));have r1:aB W1 w.heap.size 198 (cJ gen g a q):=by rw[←hW1];exact aB.new w _ _
 have b1:ah w.heap.size w W1:=by rw[←hW1];exact aR w _
 obtain⟨W,hW⟩:=w9nm (W1.alloc (ap gL.toArray 207));have b2:ah W1.heap.size W1 W:=by rw[←hW];exact aR W1 _
 have r2:Hid (aB W W1.heap.size 207 gL):=by show aB _ _ _ _;rw[←hW];exact aB.new W1 _ _
 have L0:=(r1.below b2).sup;have HB:w9h w W:=b1.trans (b2.mono b1.size);have HZ:Hid (w.heap.size<=W1.heap.size):=b1.size;have HS:=ae (xS hI);have HO:=ae (tk hI.gen g a q);have HF:=ae (E8 gen g a q);clear r1 b1 b2 hI;obtain⟨P,hP⟩:=w9nm (ev gen g a q);rw[hP]at HS HO HF ⊢;obtain⟨sc,hsc⟩:=w9nm ((cJ gen g a q).toArray);rw[hsc]at L0 HS hW1;rw[hsc];clear hP hsc;go_enter func133,ntmps133;go_wp2_with fail;go_at_call 216;refine(HS.out W).mono ?_;rintro e x1 ⟨rfl,hb⟩;have K1:=ae hb;clear hb L0;go_wp2_with fail;go_at_call 213;refine(xI P HO.out HF.out x1).mono ?_;rintro e x2 ⟨rfl,hb⟩;have K2:=w9bt K1 hb;have hbk:bx (an P.bytes):=dr (Sct.bytes_length HO.out);have BI:=xf (i:Int) (an P.bytes) hbk.length x2;obtain⟨y7,ST7,LD7,hb7⟩:=E9 (w:=w) (x:=x2) (B:=W1.heap.size) (u:=dS (i,an P.bytes)) ((K2.out.block _ r2.out.lt).trans r2.out) pC HZ.out (HB.out.trans (K2.out.mono HB.out.size)) (kT (x:=(i,an P.bytes)) hbk.length) (nA (x:=(i,an P.bytes)) hbk);have HL7:=ae LD7;have HB7:=ae hb7;have BI:Hid ((cY 207 #[(0,ab af (i:Int)),(1,al (an P.bytes).toArray)]).run aj x2=.ok (al (dS (i,an P.bytes)).toArray) x2):=BI;clear hb hbk LD7 hb7;go_wp2_with (first | ((with_reducible refine gU 207 ?_);refine fJ _ _ rfl rfl [(0,ab af (i:Int)),(1,al (an P.bytes).toArray)] _ rfl BI.out ?_));exact bl (ff rfl rfl HL7.out) rfl ⟨rfl,HB7.out⟩
def Geo.fitsR (g:Geo) (n0 n1:Nat):Prop:=g.good/\g.oF<=n0/\g.oW<=n1
noncomputable instance (g:Geo) (n0 n1:Nat):Decidable (g.fitsR n0 n1):=by unfold Geo.fitsR;infer_instance
theorem tl {v:am} {n0 n1:Nat} (g:Geo) (hg:g.In) (w:ak)
  (H0:∀x,w9b w x->az aj 167 #[v,ab af 0] x fun e w'=>e=ar (ab af (n0:Int))/\ah x.heap.size x w')
  (H1:∀x,w9b w x->az aj 167 #[v,ab af 1] x fun e w'=>e=ar (ab af (n1:Int))/\ah x.heap.size x w'):
  az aj 126 #[v,al g.v] w fun e w'=>e=ar (.bool (decide (g.fitsR n0 n1)))/\ah w.heap.size w w':=by
 obtain⟨W,hW⟩:=w9nm (w.alloc (ap g.v 23));have r1:aB W w.heap.size 23 g.cs:=by rw[←hW];exact aB.new w _ _
 have b1:ah w.heap.size w W:=by rw[←hW];exact aR w _
 have HBW:=ae b1;have HR:=ae r1;have L0:=cF r1;have HG:=ae hg;have HH0:=ae H0;have HH1:=ae H1;have HD:Hid (g.fitsR n0 n1↔(g.good/\g.oF<=n0/\g.oW<=n1)):=Iff.rfl;obtain⟨B,hB⟩:=w9nm w.heap.size;have HBB:=ae hB;rw[hB]at L0 HR;clear r1 b1 hg H0 H1;by_cases h1:g.good
 ·have hd1:decide g.good=true:=decide_eq_true h1;by_cases h2:g.oF<=n0
  ·have hd2:decide (g.oF<=(n0:Int))=true:=decide_eq_true h2;have HV:Hid (decide (g.fitsR n0 n1)=decide (g.oW<=(n1:Int))):=by
    refine decide_eq_decide.2 ?_;rw[HD.out];exact⟨fun h=>h.2.2,fun h=>⟨h1,h2,h⟩⟩
   rw[HV.out];clear h1 h2;go_enter func126,ntmps126;go_wp2_with fail;go_at_call 166;refine(mz g HG.out W).mono ?_;rintro e x1 ⟨rfl,hb⟩;rw[hd1];have L1:=cF (HR.out.below hb);have K1:=w9bt HBW hb;have R1:=ae (HR.out.below hb);clear hb L0;go_wp2_with fail;go_at_call 40;refine(wX g HG.out x1).mono ?_;rintro e x2 ⟨rfl,hb⟩;have K2:=w9bt K1 hb;have R2:=ae (R1.out.below hb);clear hb L1 R1;go_wp2_with fail;go_at_call 167;refine(HH0.out x2 K2.out).mono ?_;rintro e x3 ⟨rfl,hb⟩;have K3:=w9bt K2 hb;have R3:=ae (R2.out.below hb);have L3:=cF R3.out;clear hb R2;go_wp2_with fail;go_at_call 41;refine(DH g HG.out x3).mono ?_;rintro e x4 ⟨rfl,hb⟩;have K4:=w9bt K3 hb;clear hb L3;go_wp2_with fail;go_at_call 167;refine(HH1.out x4 K4.out).mono ?_;rintro e x5 ⟨rfl,hb⟩;have K5:=w9bt K4 hb;clear hb;go_wp2_with fail;go_ret;exact⟨rfl,K5.out⟩
  ·have hd2:decide (g.oF<=(n0:Int))=false:=decide_eq_false h2;have HV:Hid (decide (g.fitsR n0 n1)=false):=decide_eq_false fun h=>h2 (HD.out.1 h).2.1;rw[HV.out];clear h1 h2;go_enter func126,ntmps126;go_wp2_with fail;go_at_call 166;refine(mz g HG.out W).mono ?_;rintro e x1 ⟨rfl,hb⟩;rw[hd1];have L1:=cF (HR.out.below hb);have K1:=w9bt HBW hb;clear hb L0;go_wp2_with fail;go_at_call 40;refine(wX g HG.out x1).mono ?_;rintro e x2 ⟨rfl,hb⟩;have K2:=w9bt K1 hb;clear hb L1;go_wp2_with fail;go_at_call 167;refine(HH0.out x2 K2.out).mono ?_;rintro e x3 ⟨rfl,hb⟩;have K3:=w9bt K2 hb;clear hb;go_wp2_with fail;go_ret;exact⟨rfl,K3.out⟩
 ·have hd1:decide g.good=false:=decide_eq_false h1;have HV:Hid (decide (g.fitsR n0 n1)=false):=decide_eq_false fun h=>h1 (HD.out.1 h).1;rw[HV.out];clear h1;go_enter func126,ntmps126;go_wp2_with fail;go_at_call 166;refine(mz g HG.out W).mono ?_;rintro e x1 ⟨rfl,hb⟩;rw[hd1];have K1:=w9bt HBW hb;clear hb L0;go_wp2_with fail;go_ret;exact⟨rfl,K1.out⟩
end
theorem yf (bs:List Int) (h:aP bs) {k:Nat} (hl:bs.length=k) (hk:k<=4):0<=cy bs/\cy bs<2^(8*k):=by
 have e:dz (bs.length:Int)=k:=by rw[hl];unfold dz;rw[if_pos (by omega)];omega
 unfold cy;rw[e];exact kE bs h k
theorem p9 (x:List Int) (hx:aP x) (hl:x.length=48) (o k:Nat) (ho:o+k<=48) (hk:k<=4):0<=cy ((x.drop o).take k)/\cy ((x.drop o).take k)<2^(8*k):=
 yf _ ((hx.drop o).take k) (by rw[fd,dx];omega) hk
theorem yh (x:List Int) (o:Nat) (ho:o<x.length):cy ((x.drop o).take 1)=x[o]?.getD 0:=by
 rw[tT (by rw[dx];omega),vA,kf]
 rfl
theorem lQ {N:Nat} (C rb:Nat) (bs:List Int) (k:Nat) (w:ak) (hC:w.cell? ⟨C,0,none⟩=some (ao (some ⟨rb,0,none⟩))) (hr:gu w N rb bs) (hB:aP bs) (hk:k<=bs.length) (hk4:k<=4):
  az aj 293 #[ab af (k:Int),ao (some ⟨C,0,none⟩)] w fun e w'=>e=ar (ab af (cy (bs.take k)))/\gu w' N rb (bs.drop k)/\w.grownBy w' (some rb):=by
 have H:=ae (oS rb bs k w hr hB hk);obtain⟨q1,q2⟩:=yf (bs.take k) (hB.take k) (k:=k) (by rw[fd];omega) hk4;have q3:cy (bs.take k)<4294967296:=Int.lt_of_lt_of_le q2 (by
  have:(2:Int)^(8*k)<=2^32:=by
   match k,hk4 with
   | 0,_=>decide
   | 1,_=>decide
   | 2,_=>decide
   | 3,_=>decide
   | 4,_=>decide
  simpa using this)
 obtain⟨n,hn⟩:=w9nm (cy (bs.take k));rw[hn]at H q1 q3 ⊢;clear hr hB hk q2 hn;go_enter func293,ntmps293;go_wp2_with fail;go_at_call 287;refine H.out.mono ?_;rintro e w' ⟨rfl,hR,hg⟩;have R1:=ae hR;have G1:=ae hg;clear hR hg;go_wp2_with fail;go_ret;exact⟨rfl,R1.out,G1.out⟩
theorem Fa {w x:ak} {B:Nat} {u:List am} {z:Array am} (hw:x.heap[B]? =some (ap z 198 (0,0))) (hz:z.size=8) (hB:w.heap.size<=B) (hb:w9b w x) (hu:u.length=8) (h1:∀v ∈ u,v.oneCell'=true):
  ∃x',(aL 198 ⟨B,0,none⟩ (al u.toArray)).run aj x=.ok () x'/\(aE 198 ⟨B,0,none⟩).run aj x'=.ok (al u.toArray) x'/\ah w.heap.size w x':=by
 have ht:x.there B 0 8:=fy hw 0 8 (by rw[hz];exact aJ _);exact⟨_,xN ht hu h1,kz (gE x _ 0 u (by rw[hu];exact ht)) hu,hb.trans (fi hB _ _ _)⟩
theorem Fb (x:ak) (gen:Int):∃y,(aL 198 ⟨x.heap.size,0,none⟩ (al (cJ gen ⟨0,0,0,0,0⟩ 0 0).toArray)).run aj (x.alloc (ap fD.toArray 198))=.ok () y/\aB y x.heap.size 198 (cJ gen ⟨0,0,0,0,0⟩ 0 0)/\ah x.heap.size x y:=
 ⟨_,xO rfl rfl (iZ _ _ _ _),aB.new x _ _,aR x _⟩
theorem lR (w:ak) (B j:Nat) (v:am):w.grownBy (w.setCell ⟨B,j,none⟩ v) (some B):=
 ⟨rfl,rfl,rfl,by rw[lw];exact aJ _,fun k _ hk=>gc _ _ _ k (fun e=>hk (by rw[e]))⟩
theorem Fc (p:Sct) (hp:p.Ok) (w:ak):
  az aj 267 #[al p.cells.toArray] w fun e w'=>e=ar (al (cJ p.seq (fV p.body) (fA p.body) (fW p.body)).toArray)/\ah w.heap.size w w':=by
 obtain⟨W1,hW1⟩:=w9nm (w.alloc (ap p.cells.toArray 304));have r1:aB W1 w.heap.size 304 p.cells:=by rw[←hW1];exact aB.new w _ _
 have b1:ah w.heap.size w W1:=by rw[←hW1];exact aR w _
 obtain⟨W,hW⟩:=w9nm (W1.alloc (ap fD.toArray 198));have b2:ah W1.heap.size W1 W:=by rw[←hW];exact aR W1 _
 have r2:Hid (aB W W1.heap.size 198 fD):=by show aB _ _ _ _;rw[←hW];exact aB.new W1 _ _
 have HB:w9h w W:=b1.trans (b2.mono b1.size);have HZ:Hid (w.heap.size<=W1.heap.size):=b1.size;have rP:=r1.below b2;have RP:=ae rP;have HS:Hid (Sl aq W (ag (some ⟨w.heap.size,3,none⟩) 48 48) p.body):=by
  have:=mi (bs:=p.body) (jO (a:= [ab aq p.mark,ab aD p.seq,ab af p.index]) (b:=an p.body) rP) rP.lt (by rw[hp.len];simp[aS]);rw[hp.len]at this;exact this
 obtain⟨x,hx⟩:=w9nm p.body;rw[hx]at HS ⊢;have hxb:aP x:=by rw[←hx];exact hp.bytes
 have hxl:x.length=48:=by rw[←hx];exact hp.len
 have HXB:=ae hxb;have HXL:=ae hxl;obtain⟨gb,hgb⟩:=w9nm (cy ((x.drop 4).take 2));have Egb:=ae hgb;obtain⟨gs,hgs⟩:=w9nm (cy ((x.drop 6).take 1));have Egs:=ae hgs;obtain⟨gy,hgy⟩:=w9nm (cy ((x.drop 7).take 1));have Egy:=ae hgy;obtain⟨ga,hga⟩:=w9nm (cy ((x.drop 8).take 2));have Ega:=ae hga;obtain⟨gr,hgr⟩:=w9nm (cy ((x.drop 10).take 2));have Egr:=ae hgr;obtain⟨na,hna⟩:=w9nm (cy ((x.drop 12).take 2));have Ena:=ae hna;obtain⟨nq,hnq⟩:=w9nm (cy ((x.drop 14).take 4));have Enq:=ae hnq;have q0:0<=nq:=by rw[←hnq];exact(p9 x hxb hxl 14 4 (by omega) (by omega)).1
 have q1:nq<4294967296:=by rw[←hnq];have:=(p9 x hxb hxl 14 4 (by omega) (by omega)).2;simpa using this
 have EV:Hid (fV x=⟨gb,gs,gy,ga,gr⟩/\fA x=na/\fW x=nq):=by
  refine⟨?_,hna,hnq⟩;rw[←hgb,←hgs,←hgy,←hga,←hgr,yh x 6 (by omega),yh x 7 (by omega)]
  rfl
 rw[EV.out.1,EV.out.2.1,EV.out.2.2];obtain⟨gen,hgen⟩:=w9nm p.seq;have c1:W.cell? ⟨w.heap.size,1,none⟩=some (ab aD gen):=by rw[←hgen];exact rP.cell 1 _ rfl
 have C1:=ae c1;have HPB:Hid (w.heap.size<W.heap.size):=rP.lt;rw[hgen];clear r1 b1 b2 rP hp hx hxb hxl hgen c1 hgb hgs hgy hga hgr hna hnq;obtain⟨B0,hB0⟩:=w9nm w.heap.size;rw[hB0]at HS C1 HPB;go_enter func267,ntmps267;go_wp2_with fail;go_at_call 253;refine(vy _ x W HS.out (by rw[HXL.out];omega)).mono ?_;rintro e x1 ⟨rb,rfl,hrb,hR,hb⟩;obtain⟨N,hN⟩:=w9nm x1.heap.size;obtain⟨x2,hx2⟩:=w9nm (x1.alloc (ap #[ao (some ⟨rb,0,none⟩)] 337));have b2:ah x1.heap.size x1 x2:=by rw[←hx2];exact aR x1 _
 have hC:aB x2 x1.heap.size 337 [ao (some ⟨rb,0,none⟩)]:=by rw[←hx2];exact aB.new x1 _ _
 rw[hN]at hR hC;have K2:w9h W x2:=hb.trans (b2.mono hb.size);have HW:Hid (W.heap.size<=rb):=iT hrb;have R2:=ae (hR.below (fS b2 none));have cc:x2.cell? ⟨N,0,none⟩=some (ao (some ⟨rb,0,none⟩)):=hC.cell 0 _ rfl;have HC2:=ae hC;have HrbN:Hid (rb<N/\N<x2.heap.size):=by
  obtain⟨b,off,cap,h0,h1,h2,h3,h4,h5⟩:=hR;exact⟨h5.1,hC.lt⟩
 have hrx:rb<x1.heap.size:=by rw[hN];exact HrbN.out.1
 clear hR hb hrb b2;go_wp2_with fail;go_at_call 288;refine(vz rb x 4 x2 R2.out (by rw[HXL.out];omega) (by rw[HXL.out];omega)).mono ?_;rintro e x3 ⟨g,rfl, -,hrow,hR,hg⟩;have K3:w9h W x3:=K2.out.grown hg K2.out.size (fun k e=>by cases e;exact HW.out);have hC3:=HC2.out.grown hg (fun e=>by cases e;exact gQ _ HrbN.out.1);have c1:x3.cell? ⟨B0,1,none⟩=some (ab aD gen):=(K3.out.cell (p:=⟨B0,1,none⟩) HPB.out).trans C1.out;obtain⟨y0,ST0,hD,hb⟩:=Fb x3 gen;have ST:(aL 198 ⟨x3.heap.size,0,none⟩ (al (fD.set 0 (ab aD gen)).toArray)).run aj (x3.alloc (ap fD.toArray 198))=.ok () y0:=ST0;obtain⟨D,hDD⟩:=w9nm x3.heap.size;have HND:Hid (N<D):=by show _<_;rw[←hDD];exact hC3.lt
 rw[hDD]at ST hD;have HWD:Hid (W.heap.size<=D):=by show _<=_;rw[←hDD];exact K3.out.size
 have KY0:=w9bt K3 hb;have CY0:=ae (hC3.below hb);have RY0:Hid (gu y0 N rb (x.drop 4)):=hR.below (fS hb none);have DY0:=ae hD;have cc:y0.cell? ⟨N,0,none⟩=some (ao (some ⟨rb,0,none⟩)):=CY0.out.cell 0 _ rfl;clear hrow hR hg hC3 hb hD ST0;go_wp2_with fail;clear ST c1;go_at_call 293;refine(lQ N rb (x.drop 4) 2 y0 cc RY0.out (HXB.out.drop 4) (by rw[dx,HXL.out];omega) (by omega)).mono ?_;rintro e z1 ⟨rfl,hR,hg⟩;rw[Egb.out];rw[List.drop_drop]at hR;have hD:=DY0.out.grown hg (fun e=>by cases e;exact absurd HND.out (by have:=HrbN.out.1;omega));have hC:=CY0.out.grown hg (fun e=>by cases e;exact gQ _ HrbN.out.1);have KZ:=KY0.out.grown hg KY0.out.size (fun k e=>by cases e;exact HW.out);obtain⟨y1,hy⟩:=w9nm (z1.setCell ⟨D,1,none⟩ (ab af gb));have hgs:z1.grownBy y1 (some D):=by rw[←hy];exact lR z1 D 1 _
 have DY1:=ae (show aB y1 D _ _ from by rw[←hy];exact hD.set 1 (ab af gb));have CY1:=ae (hC.grown hgs (fun e=>by cases e;exact gQ _ HND.out));have RY1:Hid (gu y1 N rb (x.drop 6)):=hR.kept hgs (fun r e=>by cases e;exact iT HND.out);have KY1:w9h W y1:=KZ.grown hgs KZ.size (fun k e=>by cases e;exact HWD.out);have d0:z1.cell? ⟨D,1,none⟩=some (ab af 0):=hD.cell 1 _ rfl;have d0':=hD.frozen 1;have cc:y1.cell? ⟨N,0,none⟩=some (ao (some ⟨rb,0,none⟩)):=CY1.out.cell 0 _ rfl;clear hR hg hD hC KZ hgs;go_wp2_with fail;clear d0 d0' hy;go_at_call 293;refine(lQ N rb (x.drop 6) 1 y1 cc RY1.out (HXB.out.drop 6) (by rw[dx,HXL.out];omega) (by omega)).mono ?_;rintro e z2 ⟨rfl,hR,hg⟩;rw[Egs.out];rw[List.drop_drop]at hR;have hD:=DY1.out.grown hg (fun e=>by cases e;exact absurd HND.out (by have:=HrbN.out.1;omega));have hC:=CY1.out.grown hg (fun e=>by cases e;exact gQ _ HrbN.out.1);have KZ:=KY1.out.grown hg KY1.out.size (fun k e=>by cases e;exact HW.out);obtain⟨y2,hy⟩:=w9nm (z2.setCell ⟨D,2,none⟩ (ab af gs));have hgs:z2.grownBy y2 (some D):=by rw[←hy];exact lR z2 D 2 _
 have DY2:=ae (show aB y2 D _ _ from by rw[←hy];exact hD.set 2 (ab af gs));have CY2:=ae (hC.grown hgs (fun e=>by cases e;exact gQ _ HND.out));have RY2:Hid (gu y2 N rb (x.drop 7)):=hR.kept hgs (fun r e=>by cases e;exact iT HND.out);have KY2:w9h W y2:=KZ.grown hgs KZ.size (fun k e=>by cases e;exact HWD.out);have d0:z2.cell? ⟨D,2,none⟩=some (ab af 0):=hD.cell 2 _ rfl;have d0':=hD.frozen 2;have cc:y2.cell? ⟨N,0,none⟩=some (ao (some ⟨rb,0,none⟩)):=CY2.out.cell 0 _ rfl;clear hR hg hD hC KZ hgs;go_wp2_with fail;clear d0 d0' hy;go_at_call 293;refine(lQ N rb (x.drop 7) 1 y2 cc RY2.out (HXB.out.drop 7) (by rw[dx,HXL.out];omega) (by omega)).mono ?_;rintro e z3 ⟨rfl,hR,hg⟩;rw[Egy.out];rw[List.drop_drop]at hR;have hD:=DY2.out.grown hg (fun e=>by cases e;exact absurd HND.out (by have:=HrbN.out.1;omega));have hC:=CY2.out.grown hg (fun e=>by cases e;exact gQ _ HrbN.out.1);have KZ:=KY2.out.grown hg KY2.out.size (fun k e=>by cases e;exact HW.out);obtain⟨y3,hy⟩:=w9nm (z3.setCell ⟨D,3,none⟩ (ab af gy));have hgs:z3.grownBy y3 (some D):=by rw[←hy];exact lR z3 D 3 _
 have DY3:=ae (show aB y3 D _ _ from by rw[←hy];exact hD.set 3 (ab af gy));have CY3:=ae (hC.grown hgs (fun e=>by cases e;exact gQ _ HND.out));have RY3:Hid (gu y3 N rb (x.drop 8)):=hR.kept hgs (fun r e=>by cases e;exact iT HND.out);have KY3:w9h W y3:=KZ.grown hgs KZ.size (fun k e=>by cases e;exact HWD.out);have d0:z3.cell? ⟨D,3,none⟩=some (ab af 0):=hD.cell 3 _ rfl;have d0':=hD.frozen 3;have cc:y3.cell? ⟨N,0,none⟩=some (ao (some ⟨rb,0,none⟩)):=CY3.out.cell 0 _ rfl;clear hR hg hD hC KZ hgs;go_wp2_with fail;clear d0 d0' hy;go_at_call 293;refine(lQ N rb (x.drop 8) 2 y3 cc RY3.out (HXB.out.drop 8) (by rw[dx,HXL.out];omega) (by omega)).mono ?_;rintro e z4 ⟨rfl,hR,hg⟩;rw[Ega.out];rw[List.drop_drop]at hR;have hD:=DY3.out.grown hg (fun e=>by cases e;exact absurd HND.out (by have:=HrbN.out.1;omega));have hC:=CY3.out.grown hg (fun e=>by cases e;exact gQ _ HrbN.out.1);have KZ:=KY3.out.grown hg KY3.out.size (fun k e=>by cases e;exact HW.out);obtain⟨y4,hy⟩:=w9nm (z4.setCell ⟨D,4,none⟩ (ab af ga));have hgs:z4.grownBy y4 (some D):=by rw[←hy];exact lR z4 D 4 _
 have DY4:=ae (show aB y4 D _ _ from by rw[←hy];exact hD.set 4 (ab af ga));have CY4:=ae (hC.grown hgs (fun e=>by cases e;exact gQ _ HND.out));have RY4:Hid (gu y4 N rb (x.drop 10)):=hR.kept hgs (fun r e=>by cases e;exact iT HND.out);have KY4:w9h W y4:=KZ.grown hgs KZ.size (fun k e=>by cases e;exact HWD.out);have d0:z4.cell? ⟨D,4,none⟩=some (ab af 0):=hD.cell 4 _ rfl;have d0':=hD.frozen 4;have cc:y4.cell? ⟨N,0,none⟩=some (ao (some ⟨rb,0,none⟩)):=CY4.out.cell 0 _ rfl;clear hR hg hD hC KZ hgs;go_wp2_with fail;clear d0 d0' hy;go_at_call 293;refine(lQ N rb (x.drop 10) 2 y4 cc RY4.out (HXB.out.drop 10) (by rw[dx,HXL.out];omega) (by omega)).mono ?_;rintro e z5 ⟨rfl,hR,hg⟩;rw[Egr.out];rw[List.drop_drop]at hR;have hD:=DY4.out.grown hg (fun e=>by cases e;exact absurd HND.out (by have:=HrbN.out.1;omega));have hC:=CY4.out.grown hg (fun e=>by cases e;exact gQ _ HrbN.out.1);have KZ:=KY4.out.grown hg KY4.out.size (fun k e=>by cases e;exact HW.out);obtain⟨y5,hy⟩:=w9nm (z5.setCell ⟨D,5,none⟩ (ab af gr));have hgs:z5.grownBy y5 (some D):=by rw[←hy];exact lR z5 D 5 _
 have DY5:=ae (show aB y5 D _ _ from by rw[←hy];exact hD.set 5 (ab af gr));have CY5:=ae (hC.grown hgs (fun e=>by cases e;exact gQ _ HND.out));have RY5:Hid (gu y5 N rb (x.drop 12)):=hR.kept hgs (fun r e=>by cases e;exact iT HND.out);have KY5:w9h W y5:=KZ.grown hgs KZ.size (fun k e=>by cases e;exact HWD.out);have d0:z5.cell? ⟨D,5,none⟩=some (ab af 0):=hD.cell 5 _ rfl;have d0':=hD.frozen 5;have cc:y5.cell? ⟨N,0,none⟩=some (ao (some ⟨rb,0,none⟩)):=CY5.out.cell 0 _ rfl;clear hR hg hD hC KZ hgs;go_wp2_with fail;clear d0 d0' hy;go_at_call 293;refine(lQ N rb (x.drop 12) 2 y5 cc RY5.out (HXB.out.drop 12) (by rw[dx,HXL.out];omega) (by omega)).mono ?_;rintro e z6 ⟨rfl,hR,hg⟩;rw[Ena.out];rw[List.drop_drop]at hR;have hD:=DY5.out.grown hg (fun e=>by cases e;exact absurd HND.out (by have:=HrbN.out.1;omega));have hC:=CY5.out.grown hg (fun e=>by cases e;exact gQ _ HrbN.out.1);have KZ:=KY5.out.grown hg KY5.out.size (fun k e=>by cases e;exact HW.out);obtain⟨y6,hy⟩:=w9nm (z6.setCell ⟨D,6,none⟩ (ab af na));have hgs:z6.grownBy y6 (some D):=by rw[←hy];exact lR z6 D 6 _
 have DY6:=ae (show aB y6 D _ _ from by rw[←hy];exact hD.set 6 (ab af na));have CY6:=ae (hC.grown hgs (fun e=>by cases e;exact gQ _ HND.out));have RY6:Hid (gu y6 N rb (x.drop 14)):=hR.kept hgs (fun r e=>by cases e;exact iT HND.out);have KY6:w9h W y6:=KZ.grown hgs KZ.size (fun k e=>by cases e;exact HWD.out);have d0:z6.cell? ⟨D,6,none⟩=some (ab af 0):=hD.cell 6 _ rfl;have d0':=hD.frozen 6;have cc:y6.cell? ⟨N,0,none⟩=some (ao (some ⟨rb,0,none⟩)):=CY6.out.cell 0 _ rfl;clear hR hg hD hC KZ hgs;go_wp2_with fail;clear d0 d0' hy;go_at_call 293;refine(lQ N rb (x.drop 14) 4 y6 cc RY6.out (HXB.out.drop 14) (by rw[dx,HXL.out];omega) (by omega)).mono ?_;rintro e z7 ⟨rfl,hR,hg⟩;rw[Enq.out];rw[List.drop_drop]at hR;have hD:=DY6.out.grown hg (fun e=>by cases e;exact absurd HND.out (by have:=HrbN.out.1;omega));have hC:=CY6.out.grown hg (fun e=>by cases e;exact gQ _ HrbN.out.1);have KZ:=KY6.out.grown hg KY6.out.size (fun k e=>by cases e;exact HW.out);obtain⟨y7,hy⟩:=w9nm (z7.setCell ⟨D,7,none⟩ (ab aD nq));have hgs:z7.grownBy y7 (some D):=by rw[←hy];exact lR z7 D 7 _
 have DY7:=ae (show aB y7 D _ _ from by rw[←hy];exact hD.set 7 (ab aD nq));have CY7:=ae (hC.grown hgs (fun e=>by cases e;exact gQ _ HND.out));have RY7:Hid (gu y7 N rb (x.drop 18)):=hR.kept hgs (fun r e=>by cases e;exact iT HND.out);have KY7:w9h W y7:=KZ.grown hgs KZ.size (fun k e=>by cases e;exact HWD.out);have d0:z7.cell? ⟨D,7,none⟩=some (ab aD 0):=hD.cell 7 _ rfl;have d0':=hD.frozen 7;have cc:y7.cell? ⟨N,0,none⟩=some (ao (some ⟨rb,0,none⟩)):=CY7.out.cell 0 _ rfl;have DF:aB y7 D 198 (cJ gen ⟨gb,gs,gy,ga,gr⟩ na nq):=DY7.out;have LD:=DF.sup;obtain⟨y8,ST8,LD8,hb8⟩:=Fa (w:=w) (x:=y7) (B:=W1.heap.size) (u:=cJ gen ⟨gb,gs,gy,ga,gr⟩ na nq) ((KY7.out.block _ r2.out.lt).trans r2.out) rfl HZ.out (HB.out.trans (KY7.out.mono HB.out.size)) rfl (iZ _ _ _ _);have HL8:=ae LD8;have HB8:=ae hb8;clear LD8 hb8 DF;clear hR hg hD hC KZ hgs;go_wp2_with fail;exact bl (ff rfl rfl HL8.out) rfl ⟨rfl,HB8.out⟩
theorem yi {gen:Int} (hs:cH gen) {x:List Int} (hx:aP x) (hl:x.length=48):SupIn gen (fV x) (fA x) (fW x):=by
 have b2:∀o,o+2<=48->0<=cy ((x.drop o).take 2)/\cy ((x.drop o).take 2)<65536:=fun o ho=>by simpa using p9 x hx hl o 2 ho (by omega)
 have e6:=hx 6;have e7:=hx 7;have q:0<=cy ((x.drop 14).take 4)/\cy ((x.drop 14).take 4)<4294967296:=by simpa using p9 x hx hl 14 4 (by omega) (by omega)
 exact⟨hs,b2 4 (by omega),e6,e7,b2 8 (by omega),b2 10 (by omega),b2 12 (by omega),q⟩
def ja (bs:List Int):List am:=if dF bs=true then cJ (Sct.of bs).seq (fV (Sct.of bs).body) (fA (Sct.of bs).body) (fW (Sct.of bs).body)else fD
noncomputable def jn (bs:List Int):Bool:=if dF bs=true then iV (ev (Sct.of bs).seq (fV (Sct.of bs).body) (fA (Sct.of bs).body) (fW (Sct.of bs).body)) (Sct.of bs)else false
theorem mH {x:ak} {B:Nat} {old C:List am} (h:aB x B 198 old) (ho:old.length=8) (hC:C.length=8) (h1:∀v ∈ C,v.oneCell'=true):
  ∃y,(aL 198 ⟨B,0,none⟩ (al C.toArray)).run aj x=.ok () y/\aB y B 198 C/\x.grownBy y (some B):=by
 refine⟨_,run_storeVar_row x B _ _ old.toArray C.toArray h (by simpa [hC]using pL) (by simp[ho,hC]) (gD h1),setRow_heap x B _ _ _ _ h, ?_⟩;exact⟨rfl,rfl,rfl,by rw[setRow_size];exact aJ _,fun k _ hk=>setRow_other x B k _ (fun e=>hk (by rw[e]))⟩
theorem Fd (bs:List Int) (hb:aP bs) (hl:bs.length=64) (w:ak):
  az aj 230 #[al (an bs).toArray] w fun e w'=>e=ar (aQ #[al (ja bs).toArray,.bool (jn bs)])/\ah w.heap.size w w':=by
 obtain⟨W1,hW1⟩:=w9nm (w.alloc (ap (an bs).toArray 51));have r1:aB W1 w.heap.size 51 (an bs):=by rw[←hW1];exact aB.new w _ _
 have b1:ah w.heap.size w W1:=by rw[←hW1];exact aR w _
 obtain⟨W,hW⟩:=w9nm (W1.alloc (ap fD.toArray 198));have b2:ah W1.heap.size W1 W:=by rw[←hW];exact aR W1 _
 have r2:aB W W1.heap.size 198 fD:=by rw[←hW];exact aB.new W1 _ _
 have HB:w9h w W:=b1.trans (b2.mono b1.size);have HZ:Hid (w.heap.size<=W1.heap.size):=b1.size;have L0:=(r1.below b2).blk (by rw[bi];exact hl);have HDE:=ae (rE bs hb hl W);have HPO:=ae (nn hb hl);obtain⟨B1,hB1⟩:=w9nm W1.heap.size;rw[hB1]at r2 HZ;have R2:=ae r2;clear r1 b1 b2 r2 hb hl;by_cases hd:dF bs=true
 ·have e1:fI bs=0:=by unfold fI;rw[if_pos hd]
  have e2:cN bs=Sct.of bs:=by unfold cN;rw[if_pos hd]
  rw[e1,e2]at HDE;rw[e2]at HPO;have e3:ja bs=cJ (Sct.of bs).seq (fV (Sct.of bs).body) (fA (Sct.of bs).body) (fW (Sct.of bs).body):=by unfold ja;rw[if_pos hd]
  have e4:jn bs=iV (ev (Sct.of bs).seq (fV (Sct.of bs).body) (fA (Sct.of bs).body) (fW (Sct.of bs).body)) (Sct.of bs):=by unfold jn;rw[if_pos hd]
  rw[e3,e4];obtain⟨p,hp⟩:=w9nm (Sct.of bs);rw[hp]at HDE HPO ⊢;clear e1 e2 e3 e4 hd hp;have HIN:=ae (yi HPO.out.seq HPO.out.bytes HPO.out.len);have HFD:=ae (Fc p HPO.out);obtain⟨C,hC⟩:=w9nm (cJ p.seq (fV p.body) (fA p.body) (fW p.body));obtain⟨q,hq⟩:=w9nm (ev p.seq (fV p.body) (fA p.body) (fW p.body));have HSE:Hid (∀x,az aj 216 #[al C.toArray] x fun e w'=>e=ar (al q.cells.toArray)/\ah x.heap.size x w'):=fun x=>by
   have:=xS HIN.out x;rw[hC,hq]at this;exact this
  have hCl:C.length=8:=by rw[←hC];rfl
  have hC1:∀v ∈ C,v.oneCell'=true:=by rw[←hC];exact iZ _ _ _ _
  have hql:q.body.length=48:=by rw[←hq];exact pN _ _ _ _
  rw[hC]at HFD;rw[hC,hq];have HCL:=ae hCl;have HC1:=ae hC1;have EQ:Hid (∀z:ak,(eG 10000 304 (al q.cells.toArray) (al p.cells.toArray)).run aj z=.ok (iV q p) z):=fun z=>ru hql HPO.out.len z;obtain⟨ok,hok⟩:=w9nm (iV q p);rw[hok]at EQ ⊢;have hmx:=w9x
  clear hC hq hCl hC1 hql HIN hok;go_enter func230,ntmps230;go_wp2_with fail;go_at_call 232;refine HDE.out.mono ?_;rintro e x1 ⟨rfl,hb⟩;obtain⟨x2,ST2,r2,hb2⟩:=nk x1 p HPO.out.len;have K2:w9h W x2:=hb.trans (hb2.mono hb.size);have L2:=r2.pg HPO.out.len;obtain⟨Bp,hBp⟩:=w9nm x1.heap.size;rw[hBp]at ST2 r2 L2;have RP2:=ae r2;clear hb hb2 r2 L0;go_wp2_with fail;clear ST2 hBp;go_at_call 267;refine(HFD.out x2).mono ?_;rintro e x3 ⟨rfl,hb⟩;have K3:=K2.out.trans (hb.mono K2.out.size);have r3:=RP2.out.below hb;obtain⟨x4,ST4,r4,g4⟩:=mH (C:=C) ((R2.out.below K3)) rfl HCL.out HC1.out;have hpb:Bp≠B1:=fun e=>by
   have h1:aB x3 Bp _ _:=r3;have h2:=R2.out.below K3;rw[e]at h1;have:=h1.symm.trans h2;simp at this
  have RP4:=ae (r3.grown g4 (fun e=>hpb (by cases e;rfl)));have RS4:=ae r4;have K4:w9h w x4:=(HB.out.trans (K3.mono HB.out.size)).grown g4 (HB.out.trans (K3.mono HB.out.size)).size (fun k e=>by cases e;exact HZ.out);clear hb K3 r3 r4 g4 hpb L2;go_wp2_with fail;clear ST4;have LSz:∀z:aI x4,(aE 198 ⟨B1,0,none⟩).run aj z.1=.ok (al C.toArray) z.1:=fun z=>kz (RS4.out.below z.2).range HCL.out;have LPz:∀z:aI x4,(aE 304 ⟨Bp,0,none⟩).run aj z.1=.ok (al p.cells.toArray) z.1:=fun z=>(RP4.out.below z.2).pg HPO.out.len;refine cM (fun x=>∃y:aI x4,x=y.1) 6 (.takes [0,1,3] (.one 2 (.take 4 (.one 5 .leaf)))) hmx (by kernel_rfl) (by intro c x v a w h;cases x<;>exact h) ⟨⟨x4.drew,(aF _ x4).drew⟩,rfl⟩ ?_;repeat(rw[bj];simp only[au,ay];go_big_quiet_step (fail);refine aO ?_)
  rw[bo,aT];simp only[au,ay];clear LSz LPz;go_wp2_with fail;go_at_call 216;refine(HSE.out _).mono ?_;rintro e x5 ⟨rfl,hb⟩;have K5:w9h x4 x5:=((aF _ x4).drew).trans hb;clear hb;go_wp2_with fail;refine aG ⟨⟨x5,K5.out⟩,rfl⟩ ?_;rw[og];simp only[au,ay];have EQ5:=EQ.out
  go_big_quiet_step (fail)
  refine aO ?_;clear EQ5;rw[aT];simp only[au,ay];obtain⟨x6,ST6,r6,g6⟩:=mH (C:=C) (RS4.out.below K5.out) HCL.out HCL.out HC1.out;have K6:Hid (ah x4.heap.size x4 x6):=by
   refine⟨g6.os.trans K5.out.os,g6.tape.trans K5.out.tape,g6.output.trans K5.out.output,aZ K5.out.size g6.size,fun k hk=> ?_⟩;by_cases hkb:k=B1
   ·subst hkb;exact(show x6.heap[k]? =_ from r6).trans (show x4.heap[k]? =_ from RS4.out).symm
   ·exact(g6.block k (aU hk K5.out.size) (fun e=>hkb (by cases e;rfl))).trans (K5.out.block k hk)
  have LD:=ae (kz (r6.range) HCL.out);have HB6:w9h w x6:=K4.out.trans (K6.out.mono K4.out.size);clear r6 g6;go_wp2_with fail;refine aG ⟨⟨x6,K6.out⟩,rfl⟩ ?_;rw[cu];simp only[be,bf];clear ST6;go_wp2_with fail;exact bl (dl rfl rfl LD.out) rfl ⟨rfl,HB6.out⟩
 ·have e1:fI bs=11:=by unfold fI;rw[if_neg hd]
  rw[e1]at HDE;have e3:ja bs=fD:=by unfold ja;rw[if_neg hd]
  have e4:jn bs=false:=by unfold jn;rw[if_neg hd]
  rw[e3,e4];obtain⟨p,hp⟩:=w9nm (cN bs);rw[hp]at HDE HPO;clear e1 e3 e4 hd hp;go_enter func230,ntmps230;go_wp2_with fail;go_at_call 232;refine HDE.out.mono ?_;rintro e x1 ⟨rfl,hb⟩;obtain⟨x2,ST2,r2,hb2⟩:=nk x1 p HPO.out.len;have K2:w9b W x2:=hb.trans (hb2.mono hb.size);obtain⟨Bp,hBp⟩:=w9nm x1.heap.size;rw[hBp]at ST2;obtain⟨x4,ST4,r4,g4⟩:=mH (C:=fD) ((R2.out.below K2)) rfl rfl (iZ _ _ _ _);have LD:=ae (kz (r4.range) rfl);have K4:w9h w x4:=(HB.out.trans (K2.mono HB.out.size)).grown g4 (HB.out.trans (K2.mono HB.out.size)).size (fun k e=>by cases e;exact HZ.out);clear hb hb2 r2 L0 K2 r4 g4;go_wp2_with fail;exact bl (dl rfl rfl LD.out) rfl ⟨rfl,K4.out⟩
theorem SupIn.inG {gen:Int} {g:Geo} {a q:Int} (h:SupIn gen g a q):g.In:=by
 obtain⟨h1,h2,h3,h4,h5,h6,h7,h8,h9,h10, -⟩:=h.of;intro n hn;simp only[ec,List.not_mem_nil,or_false]at hn;rcases hn with rfl | rfl | rfl | rfl | rfl<;>omega
theorem Fe {gen:Int} {g:Geo} {a:Nat} {q:Int} {p:Sct}:dt gen g a q=p↔p.mark=83/\p.seq=gen/\p.index=0/\p.body=fU g a q:=by
 obtain⟨m,s,i,b⟩:=p;unfold dt;simp only[Sct.mk.injEq];constructor
 ·rintro⟨rfl,rfl,rfl,rfl⟩;exact⟨rfl,rfl,rfl,rfl⟩
 ·rintro⟨rfl,rfl,rfl,rfl⟩;exact⟨rfl,rfl,rfl,rfl⟩
theorem yj (n0 n1:Nat) {bs:List Int} (hb:aP bs) (hl:bs.length=64):
  (∃x,eo n0 n1 bs=some x/\jn bs=true/\ja bs=cJ x.gen x.g x.a x.q/\(x.g.fitsR n0 n1/\(x.a:Int)<x.g.r)/\SupIn x.gen x.g x.a x.q)\/
  (eo n0 n1 bs=none/\(jn bs=false\/∃gen g a q,jn bs=true/\ja bs=cJ gen g a q/\SupIn gen g a q/\¬(g.fitsR n0 n1/\a<g.r))):=by
 have hp:=jg hb hl;by_cases hd:dF bs=true
 ·have hin:=yi hp.seq hp.bytes hp.len;have hA:((fA (Sct.of bs).body).toNat:Int)=fA (Sct.of bs).body:=Int.toNat_of_nonneg hin.at0.1;have hv:ja bs=cJ (Sct.of bs).seq (fV (Sct.of bs).body) (fA (Sct.of bs).body) (fW (Sct.of bs).body):=by unfold ja;rw[if_pos hd]
  have ht:jn bs=iV (ev (Sct.of bs).seq (fV (Sct.of bs).body) (fA (Sct.of bs).body) (fW (Sct.of bs).body)) (Sct.of bs):=by unfold jn;rw[if_pos hd]
  have hiff:jn bs=true↔(Sct.of bs).mark=83/\(Sct.of bs).seq=(Sct.of bs).seq/\(Sct.of bs).index=0/\(Sct.of bs).body=fU (fV (Sct.of bs).body) (fA (Sct.of bs).body).toNat (fW (Sct.of bs).body):=by
   rw[ht,oM,←hA,pM,Fe,gO]
  by_cases hP:jW n0 n1 bs
  ·left
   refine⟨_,by unfold eo;exact if_pos hP, ?_, ?_, ?_, ?_⟩
   ·obtain⟨_,h2,h3,_,_,_,_,h8⟩:=hP;exact hiff.2 ⟨h2,rfl,h3,h8⟩
   ·show _=cJ _ _ ((fA (Sct.of bs).body).toNat:Int) _;rw[hA];exact hv
   ·obtain⟨_,_,_,h4,h5,h6,h7,_⟩:=hP;exact⟨⟨h4,h5,h6⟩,by show((fA (Sct.of bs).body).toNat:Int)<_;rw[hA];exact h7⟩
   ·show SupIn _ _ ((fA (Sct.of bs).body).toNat:Int) _;rw[hA];exact hin
  ·right
   refine⟨by unfold eo;exact if_neg hP, ?_⟩;by_cases hT:jn bs=true
   ·right
    refine⟨_,_,_,_,hT,hv,hin,fun h=>hP ?_⟩;obtain⟨h2,_,h3,h8⟩:=hiff.1 hT;exact⟨hd,h2,h3,h.1.1,h.1.2.1,h.1.2.2,h.2,h8⟩
   ·left;simpa using hT
 ·right
  refine⟨by unfold eo;exact if_neg (fun h=>hd h.1),aA (by unfold jn;exact if_neg hd)⟩
section
theorem yk {v:am} {n0 n1:Nat} {gen:Int} {g:Geo} {a q:Int} (hI:SupIn gen g a q) (w:ak)
  (H0:∀x,w9b w x->az aj 167 #[v,ab af 0] x fun e w'=>e=ar (ab af (n0:Int))/\ah x.heap.size x w')
  (H1:∀x,w9b w x->az aj 167 #[v,ab af 1] x fun e w'=>e=ar (ab af (n1:Int))/\ah x.heap.size x w'):
  az aj 231 #[al (cJ gen g a q).toArray,v] w fun e w'=>e=ar (.bool (decide (g.fitsR n0 n1)&&decide (a<g.r)))/\ah w.heap.size w w':=by
 obtain⟨W,hW⟩:=w9nm (w.alloc (ap (cJ gen g a q).toArray 198));have r1:aB W w.heap.size 198 (cJ gen g a q):=by rw[←hW];exact aB.new w _ _
 have b1:ah w.heap.size w W:=by rw[←hW];exact aR w _
 have HBW:=ae b1;have HR:=ae r1;have L0:=r1.supG;have HF:=ae (tl g hI.inG W (fun x hx=>H0 x (b1.trans (hx.mono b1.size))) (fun x hx=>H1 x (b1.trans (hx.mono b1.size))));obtain⟨B,hB⟩:=w9nm w.heap.size;rw[hB]at L0 HR;obtain⟨sc,hsc⟩:=w9nm ((cJ gen g a q).toArray);rw[hsc]at hW;rw[hsc];obtain⟨z,hz⟩:=w9nm (decide (g.fitsR n0 n1));rw[hz]at HF ⊢;clear r1 b1 H0 H1 hsc hz;go_enter func231,ntmps231;go_wp2_with fail;go_at_call 126;refine HF.out.mono ?_;rintro e x1 ⟨rfl,hb⟩;have K1:=w9bt HBW hb;have r1:=HR.out.below hb;have c6:x1.cell? ⟨B,6,none⟩=some (ab af a):=r1.cell 6 _ rfl;have c5:x1.cell? ⟨B,5,none⟩=some (ab af g.r):=r1.cell 5 _ rfl;clear hb L0 r1;cases z with
 | true=>
  go_wp2_with fail;go_ret;exact⟨by simp,K1.out⟩
 | false=>
  go_wp2_with fail;go_ret;exact⟨by simp,K1.out⟩
end
def j9 (i:Nat) (s:Option Sup) (cur:Option (Nat×Sup)):Option (Nat×Sup):=
 match s with
 | none=>cur
 | some y=>match cur with
  | none=>some (i,y)
  | some (j,x)=>if x.gen<y.gen then some (i,y)else some (j,x)
def iy (s:Nat->Option Sup):Nat->Option (Nat×Sup)
 | 0=>none
 | k+1=>j9 k (s k) (iy s k)
theorem Ff (s:Nat->Option Sup):iy s 2=newer (s 0) (s 1):=by
 show j9 1 (s 1) (j9 0 (s 0) none)=_;unfold newer j9;cases s 0<;>cases s 1<;>rfl
def nJ:Option (Nat×Sup)->List am
 | none=>fD
 | some (_,x)=>cJ x.gen x.g x.a x.q
def mI:Option (Nat×Sup)->Int
 | none=> -1
 | some (j,_)=>j
theorem qc (c:Option (Nat×Sup)):(nJ c).length=8:=by cases c<;>rfl
theorem yl (c:Option (Nat×Sup)):∀v ∈ nJ c,v.oneCell'=true:=by
 cases c with
 | none=>exact iZ _ _ _ _
 | some p=>exact iZ _ _ _ _
theorem tm (s:Nat->Option Sup):∀k,(iy s k=none)\/∃j x,iy s k=some (j,x)/\j<k
 | 0=>aA rfl
 | k+1=>by
  show(j9 k (s k) (iy s k)=none)\/∃j x,j9 k (s k) (iy s k)=some (j,x)/\j<k+1;rcases tm s k with h | ⟨j,x,h,hj⟩
  ·rw[h];cases hs:s k with
   | none=>exact aA rfl
   | some y=>exact aC ⟨k,y,rfl,Nat.lt_succ_self k⟩
  ·rw[h];cases hs:s k with
   | none=>exact aC ⟨j,x,rfl,by omega⟩
   | some y=>
    right
    show∃j' x',(if x.gen<y.gen then some (k,y)else some (j,x))=some (j',x')/\j'<k+1;by_cases hg:x.gen<y.gen
    ·rw[if_pos hg];exact⟨k,y,rfl,Nat.lt_succ_self k⟩
    ·rw[if_neg hg];exact⟨j,x,rfl,by omega⟩
def tp:Option (Nat×Sup)->Array am
 | none=>#[al fD.toArray,ab af 0,ab af 11]
 | some (j,x)=>#[al (cJ x.gen x.g x.a x.q).toArray,ab af (j:Int),ab af 0]
theorem ym {P:Program} {fn:Func} {p u v':Tmp} {ty:aV} {tmps:Array am} {w:ak} {ad:aN} {v:am} (h:fn.results=#[.cell p ty,.tmp u,.tmp v']) (ha:tmps.getD p aK=ao (some ad)) (hl:(aE ty ad).run P w=.ok v w):
  (results fn tmps).run P w=.ok (aQ #[v,tmps.getD u aK,tmps.getD v' aK]) w:=by
 have e:(asAddr (ao (some ad))).run P w=.ok ad w:=by simp[asAddr]
 have ha':tmps[p]?.getD aK=ao (some ad):=by simpa using ha
 simp[results,h,gR,Result.andThen,ha',e,hl]
theorem nK (x:ak) {C:List am} (hl:C.length=8) (h1:∀v ∈ C,v.oneCell'=true):∃y,(aL 198 ⟨x.heap.size,0,none⟩ (al C.toArray)).run aj (x.alloc (ap fD.toArray 198))=.ok () y/\aB y x.heap.size 198 C/\ah x.heap.size x y:=
 ⟨_,xO rfl hl h1,aB.new x _ _,aR x _⟩
theorem yn {bs:List Int}:(ja bs).length=8/\∀v ∈ ja bs,v.oneCell'=true:=by
 unfold ja;split
 ·exact⟨rfl,iZ _ _ _ _⟩
 ·exact⟨rfl,iZ _ _ _ _⟩
theorem aX.rd0 {rb p0 p1:Nat} {S:RS} {w:ak} {f:Nat->Prop} (h:aX rb p0 p1 S w f) (hby:S.Byt) (hup:S.down=false) {i:Nat} (hi:i<S.n0):
  az aj 72 #[ao (some ⟨rb,0,none⟩),ab af 0,ab af (i:Int)] w fun e w'=>e=ar (aQ #[al (an (S.rd i)).toArray,ab af 0])/\ah w.heap.size w w':=by
 have hh:=h.read 0 (i:Int);have e1:S.read 0 (i:Int)=an (S.rd i):=by
  unfold RS.read;rw[if_pos ⟨RS.has0 hi,hup⟩];unfold RS.look;rw[if_pos rfl];exact(hby i hi).2.2
 have e2:S.readE 0 (i:Int)=0:=by
  unfold RS.readE;rw[if_pos (RS.has0 hi),if_neg (by rw[hup];simp)]
 rw[e1,e2]at hh;exact hh
section
theorem Fg {rb p0 p1:Nat} {S:RS} {w:ak} {f:Nat->Prop} (h:aX rb p0 p1 S w f) (hby:S.Byt) (hup:S.down=false) (hn:2<=S.n0):
  az aj 156 #[ao (some ⟨rb,0,none⟩)] w fun e w'=>e=ar (aQ (tp (newer (S.supAt 0) (S.supAt 1))))/\ah w.heap.size w w':=by
 rw[←Ff];obtain⟨s,hs⟩:∃s:Nat->Option Sup,s=S.supAt:=⟨_,rfl⟩;have HSS:Hid (∀i,i<2->s i=eo S.n0 S.n1 (S.rd i)):=fun i hi=>by rw[hs];unfold RS.supAt;rw[if_pos (by omega)]
 rw[←hs];have HRD:Hid (∀(x:ak) (i:Nat),w9b w x->i<2->az aj 72 #[ao (some ⟨rb,0,none⟩),ab af 0,ab af (i:Int)] x fun e w'=>e=ar (aQ #[al (an (S.rd i)).toArray,ab af 0])/\ah x.heap.size x w'):=fun x i hx hin=>(h.beside hx).rd0 hby hup (by omega);have HLN:Hid (∀(x:ak) (dev:Int),w9b w x->az aj 167 #[ao (some ⟨rb,0,none⟩),ab af dev] x fun e w'=>e=ar (ab af (S.len dev:Int))/\ah x.heap.size x w'):=fun x dev hx=>(h.beside hx).len dev;have HBY:Hid (∀i,i<2->aP (S.rd i)/\(S.rd i).length=64):=fun i hi=>⟨(hby i (by omega)).1,(hby i (by omega)).2.1⟩;have hl0:S.len 0=S.n0:=rfl;have hl1:S.len 1=S.n1:=rfl;have HL0:=ae hl0;have HL1:=ae hl1;obtain⟨W1,hW1⟩:=w9nm (w.alloc (ap fD.toArray 198));have r1:aB W1 w.heap.size 198 fD:=by rw[←hW1];exact aB.new w _ _
 have b1:ah w.heap.size w W1:=by rw[←hW1];exact aR w _
 obtain⟨W,hW⟩:=w9nm (W1.alloc (ap fD.toArray 198));have b2:ah W1.heap.size W1 W:=by rw[←hW];exact aR W1 _
 have r2:aB W W1.heap.size 198 fD:=by rw[←hW];exact aB.new W1 _ _
 have HB:w9h w W:=b1.trans (b2.mono b1.size);have HNE:Hid (w.heap.size<W1.heap.size):=r1.lt;have R1:=ae (r1.below b2);obtain⟨B2,hB2⟩:=w9nm w.heap.size;obtain⟨B5,hB5⟩:=w9nm W1.heap.size;rw[hB5]at r2;rw[hB2,hB5]at HNE;rw[hB2]at R1;have HB2:=ae hB2;have R2:=ae r2;clear h hby hup hn hs r1 b1 b2 r2 hl0 hl1;go_enter func156,ntmps156;go_wp2_with fail;go_loopw [6,12] (fun wh i wr=>∃k:Nat,k<=2/\i=ab af (k:Int)/\wh=ab af (mI (iy s k))/\Hid (aB wr B2 198 fD)/\Hid (aB wr B5 198 (nJ (iy s k)))/\w9h w wr) (fun _ i _=>2 - (aW i).toNat)
 case atStart=>exact⟨0,bq _,rfl,rfl,R1,R2,HB⟩
 case round=>
  obtain⟨k,hk,rfl,rfl,H1,H5,HBw⟩:=hrel;by_cases hlt:k<2
  ·have g3:decide ((k:Int)<2)=true:=by simp;omega
   have HR:=ae (HRD.out wr k HBw.out hlt);obtain⟨hbb,hbl⟩:=HBY.out k hlt;have hsk:=HSS.out k hlt;obtain⟨bs,hbs⟩:=w9nm (S.rd k);rw[hbs]at HR hbb hbl hsk;have HBB:=ae hbb;have HBL:=ae hbl;have HSK:=ae hsk;clear hbb hbl hsk hbs;go_wp2_with fail;go_at_call 72;refine HR.out.mono ?_;rintro e x1 ⟨rfl,hb⟩;obtain⟨x2,ST2,hr2,hb2⟩:=ib x1 (dr HBL.out);have L2:=hr2.blk (by rw[bi];exact HBL.out);have K2:w9h wr x2:=hb.trans (hb2.mono hb.size);clear hb hr2 hb2 HR;go_wp2_with fail;clear ST2;go_at_call 230;refine(Fd bs HBB.out HBL.out x2).mono ?_;rintro e x3 ⟨rfl,hb⟩;obtain⟨x4,ST4,r4,hb4⟩:=nK x3 (C:=ja bs) yn.1 yn.2;have K4:w9h wr x4:=K2.out.trans ((hb.trans (hb4.mono hb.size)).mono K2.out.size);obtain⟨B10,hB10⟩:=w9nm x3.heap.size;rw[hB10]at ST4 r4;have R4:=ae r4;have H14:=ae (H1.out.below K4.out);have H54:=ae (H5.out.below K4.out);have B4:w9h w x4:=HBw.out.trans (K4.out.mono HBw.out.size);clear hb hb4 r4 L2;rcases yj S.n0 S.n1 HBB.out HBL.out with⟨y,hy1,hy2,hy3,hy4,hy5⟩ | ⟨hn1,hn2⟩
   ·rw[hy3]at ST4 R4;rw[hy2,hy3];have HY:Hid (s k=some y):=HSK.out.trans hy1;have HCO:Hid (∀x,w9b w x->az aj 231 #[al (cJ y.gen y.g y.a y.q).toArray,ao (some ⟨rb,0,none⟩)] x fun e w'=>e=ar (.bool true)/\ah x.heap.size x w'):=fun x hx=>by
     have:=yk (n0:=S.n0) (n1:=S.n1) (v:=ao (some ⟨rb,0,none⟩)) hy5 x (fun z hz=>by have:=HLN.out z 0 (hx.trans (hz.mono hx.size));rwa [HL0.out]at this) (fun z hz=>by have:=HLN.out z 1 (hx.trans (hz.mono hx.size));rwa [HL1.out]at this);rw[decide_eq_true hy4.1,decide_eq_true hy4.2]at this;exact this
    have L4:=R4.out.sup;have HCX:=ae (HCO.out x4 B4.out);obtain⟨C,hC⟩:=w9nm (cJ y.gen y.g y.a y.q);obtain⟨yg,hyg⟩:=w9nm y.gen;have HC8:Hid (C.length=8/\∀v ∈ C,v.oneCell'=true):=by refine(?_:_/\_);rw[←hC];exact⟨rfl,iZ _ _ _ _⟩
    have HCC:=ae hC;have HC0:Hid (C[0]? =some (ab aD yg)):=by show _=_;rw[←hC,←hyg];rfl
    rw[hC]at ST4 R4 L4 HCX ⊢;have HYG:=ae hyg;clear hy1 hy2 hy3 hy4 hy5 HCO hC hyg;go_wp2_with fail;clear ST4;go_at_call 231;refine HCX.out.mono ?_;rintro e x5 ⟨rfl,hb⟩;have R5:=ae (R4.out.below hb);have H15:=ae (H14.out.below hb);have H55:=ae (H54.out.below hb);have B5':w9h w x5:=B4.out.trans (hb.mono B4.out.size);have c10:x5.cell? ⟨B10,0,none⟩=some (ab aD yg):=R5.out.cell 0 _ HC0.out;have L5:(aE 198 ⟨B10,0,none⟩).run aj x5=.ok (al C.toArray) x5:=kz R5.out.range HC8.out.1;obtain⟨x6,ST6,r6,g6⟩:=mH (C:=C) H55.out (qc _) HC8.out.1 HC8.out.2;have H16:=ae (H15.out.grown g6 (fun e=>by cases e;exact gQ _ HNE.out));have B6:w9h w x6:=B5'.out.grown g6 B5'.out.size (fun j e=>by cases e;have:=HNE.out;have:=HB2.out;omega);have R6:=ae r6;clear hb r6 g6 L4;rcases tm s k with hc | ⟨j,x,hc,hj⟩
    ·rw[hc];have g5:decide (mI none<0)=true:=rfl;have HST:Hid (iy s (k+1)=some (k,y)):=by show j9 k (s k) (iy s k)=_;rw[HY.out,hc];rfl
     have hw:mI none= -1:=rfl;rw[hw];go_wp2_with fail;go_roundw
     case rel=>exact⟨k+1,by omega,by go_num,by rw[HST.out];rfl,H16,by rw[HST.out];show Hid (aB x6 B5 _ (cJ _ _ _ _));rw[HCC.out];exact R6,B6⟩
     case measure=>simp[aW];omega
    ·rw[hc];have hw:mI (some (j,x))=(j:Int):=rfl;rw[hw];have c5:x5.cell? ⟨B5,0,none⟩=some (ab aD x.gen):=by have:=H55.out;rw[hc]at this;exact this.cell 0 _ rfl
     obtain⟨xg,hxg⟩:=w9nm x.gen;rw[hxg]at c5;by_cases hg:xg<yg
     ·have g5:decide (yg>xg)=true:=by simpa using hg
      have g5':decide (xg<yg)=true:=g5;have HST:Hid (iy s (k+1)=some (k,y)):=by show j9 k (s k) (iy s k)=_;rw[HY.out,hc];exact if_pos (by rw[hxg,HYG.out];exact hg)
      clear hg hxg;go_wp2_with fail;go_roundw
      case rel=>exact⟨k+1,by omega,by go_num,by rw[HST.out];rfl,H16,by rw[HST.out];show Hid (aB x6 B5 _ (cJ _ _ _ _));rw[HCC.out];exact R6,B6⟩
      case measure=>simp[aW];omega
     ·have g5:decide (yg>xg)=false:=by simpa using hg
      have g5':decide (xg<yg)=false:=g5;have HST:Hid (iy s (k+1)=some (j,x)):=by show j9 k (s k) (iy s k)=_;rw[HY.out,hc];exact if_neg (by rw[hxg,HYG.out];exact hg)
      rw[hc]at H55;clear hg hxg ST6;go_wp2_with fail;go_roundw
      case rel=>exact⟨k+1,by omega,by go_num,by rw[HST.out];rfl,H15,by rw[HST.out];exact H55,B5'⟩
      case measure=>simp[aW];omega
   ·have HY:Hid (s k=none):=HSK.out.trans hn1;have HST:Hid (iy s (k+1)=iy s k):=by show j9 k (s k) (iy s k)=_;rw[HY.out];rfl
    rcases hn2 with hn2 | ⟨gen,g,a,q,hn2,hv,hin,hnf⟩
    ·rw[hn2];obtain⟨C,hC⟩:=w9nm (ja bs);rw[hC]at ST4 ⊢;clear hn1 hn2;go_wp2_with fail;go_roundw
     case rel=>exact⟨k+1,by omega,by go_num,by rw[HST.out],H14,by rw[HST.out];exact H54,B4⟩
     case measure=>simp[aW];omega
    ·rw[hv]at ST4 R4;rw[hn2,hv];have HCX:Hid (az aj 231 #[al (cJ gen g a q).toArray,ao (some ⟨rb,0,none⟩)] x4 fun e w'=>e=ar (.bool false)/\ah x4.heap.size x4 w'):=by
      have:=yk (n0:=S.n0) (n1:=S.n1) (v:=ao (some ⟨rb,0,none⟩)) hin x4 (fun z hz=>by have:=HLN.out z 0 (B4.out.trans (hz.mono B4.out.size));rwa [HL0.out]at this) (fun z hz=>by have:=HLN.out z 1 (B4.out.trans (hz.mono B4.out.size));rwa [HL1.out]at this);have e:(decide (g.fitsR S.n0 S.n1)&&decide (a<g.r))=false:=by
       by_cases h1:g.fitsR S.n0 S.n1
       ·rw[decide_eq_false (fun h2=>hnf ⟨h1,h2⟩),Bool.and_false]
       ·rw[decide_eq_false h1,Bool.false_and]
      rw[e]at this;exact this
     have L4:=R4.out.sup;obtain⟨C,hC⟩:=w9nm (cJ gen g a q);rw[hC]at ST4 L4 HCX ⊢;clear hn1 hn2 hv hin hnf;go_wp2_with fail;clear ST4;go_at_call 231;refine HCX.out.mono ?_;rintro e x5 ⟨rfl,hb⟩;have H15:=ae (H14.out.below hb);have H55:=ae (H54.out.below hb);have B5':w9h w x5:=B4.out.trans (hb.mono B4.out.size);clear hb L4;go_wp2_with fail;go_roundw
     case rel=>exact⟨k+1,by omega,by go_num,by rw[HST.out],H15,by rw[HST.out];exact H55,B5'⟩
     case measure=>simp[aW];omega
  ·have g3:decide ((k:Int)<2)=false:=by simp;omega
   obtain rfl:k=2:=by omega
   rcases tm s 2 with hc | ⟨j,x,hc,hj⟩
   ·rw[hc];have hw:mI none= -1:=rfl;rw[hw];obtain⟨x6,ST6,r6,g6⟩:=mH (C:=fD) H1.out rfl rfl (iZ _ _ _ _);have B6:w9h w x6:=HBw.out.grown g6 HBw.out.size (fun j e=>by cases e;exact Nat.le_of_eq HB2.out);have LD:=kz r6.range rfl;clear r6 g6;go_wp2_with fail;exact bl (ym rfl rfl LD) rfl ⟨by rw[hc];rfl,B6.out⟩
   ·rw[hc];have hw:mI (some (j,x))=(j:Int):=rfl;rw[hw];rw[hc]at H5;have L5:=kz H5.out.range (qc (some (j,x)));obtain⟨x6,ST6,r6,g6⟩:=mH (C:=nJ (some (j,x))) H1.out rfl (qc _) (yl _);have B6:w9h w x6:=HBw.out.grown g6 HBw.out.size (fun j e=>by cases e;exact Nat.le_of_eq HB2.out);have LD:=kz r6.range (qc (some (j,x)));obtain⟨C,hC⟩:=w9nm (nJ (some (j,x)));have HC:=ae hC;rw[hC]at L5 ST6 LD;clear r6 g6 hC;go_wp2_with fail;refine bl (ym rfl rfl LD) rfl ⟨?_,B6.out⟩;rw[←HC.out,hc]
    rfl
end
end
section
attribute [-simp] isAgg51 zeroValue51 isAgg205 zeroValue205 isAgg304 zeroValue304 isAgg226 zeroValue226 isAgg207 zeroValue207 isAgg198 zeroValue198
attribute [-go_sem] aE aL cZ
attribute [local go_sem] bC bD cV eM eN eO ig ek gA ie gB gC Oper.semAt_some
theorem Fh (H:Nat) (now:List (List Int)) {m:Nat} (pre:List (Fin m)) (x:Fin m):cG (fL H now (pre++ [x]))=cG (fL H now pre)++ [dS (H+x.1,an (de x.1 (aY now x.1)).bytes)]:=by
 unfold cG fL;rw[fp,fp]
 rfl
theorem yo {n₀ e size B:Nat} {v:am} {k:Nat} {xs:List am} {X Y:ak} {row:Option Nat} (h:X.ownsRow n₀ e size v k xs) (hg:X.grownBy Y row) (hr:∀r,row=some r->B<=r/\∃o:Obj,X.heap[r]? =some o/\o.isCells=false):Y.ownsRow n₀ e size v k xs:=
 qK n₀ e size v (fun _:Unit=>k) (fun _=>xs) () X Y row h hg (fun r e=>(hr r e).2)
section
theorem yp {g:Geo} (hg:g.In) {H:Nat} (hH:g.oH=(H:Int)) (hHb:H<=100000) {now:List (List Int)} {m:Nat} (hm:now.length=m) (hm2:m<=1000) (hn:∀x ∈ now,x.length=48/\aP x) (pr:Nat->Bool) (gf:FuncId) (lb:Array am)
  (eg:∀args w,(callFunc gf args).run aj w=.ok (.enter gf args) w) (Sx:Nat->Prop) (w:ak) (hS:∀k,Sx k->k<w.heap.size)
  (hit:SeqStopsK Fence.wide 2 aj gf lb (kA now (m:=m)) (dH Sx) (fun ys=>ys=fK m pr) (fun _=>True) m w):
  az aj 131 #[al g.v,.func (.func gf) #[] lb] w fun e w'=>∃v,e=ar v/\w'.ownsRow w.heap.size 207 65 v (cG (fL H now (fK m pr))).length (cG (fL H now (fK m pr))).flatten/\ah w.heap.size w w':=by
 refine(callsIn_wide (n:=3)).1 ?_;refine jf func131 rfl trivial ?_ rfl;simp only[ntmps131,dU,cK,dP,Nat.reduceAdd,Nat.reduceSub,ez,eA,eD,eF,dT,dX];have HIT:=ae hit;have HG:=ae hg;have HH:=ae hH;have HN:=ae hn;have HM:=ae hm;have HS:=ae hS;obtain⟨B,hB⟩:=w9nm w.heap.size;have HSZ:=ae hB;have HEG:=ae eg;clear hit hg hH hn hm hS eg
 gi_wp2
 obtain⟨W0,hW0⟩:=w9nm ((w.alloc (ap g.v 23)).alloc (ap #[ag none 0 0] 199));have bv:Boxed W0 (B+1) 199 (ag none 0 0):=by
  rw[←hW0,←hB];have:=dY (w.alloc (ap g.v 23)) 199 (ag none 0 0)
  rwa [dy]at this
 have br:aB W0 B 23 g.cs:=by
  rw[←hW0,←hB];exact(aB.new w 23 g.cs).below (aR _ _)
 have hB0:ah B w W0:=by rw[←hW0,←hB];exact((aF _ w).alloc (aJ _) _).alloc (by simp) _
 have hsz0:W0.heap.size=B+2:=by rw[←hW0,←hB];simp
 try rw[hW0]
 clear hW0;have HB:Hid (∀W,ah B w W->w.heap.size<=W.heap.size):=fun W h=>h.size;have HKA:Hid (∀(W W':ak),ah B w W->ah W.heap.size W W'->dH Sx W W'):=fun W W' h h'=>⟨h'.size,fun k hk=>h'.block k (aU (HS.out k hk) h.size)⟩;refine wpIn_rangeFunc_ownH (n:=3) rfl (by omega) (gf:=gf) (lb:=lb) rfl trivial HEG.out
  HIT.out iW (nj (fun k hk=>by have:=HS.out k hk;omega)) (by rw[hB];exact hB0) (fun _=>rfl)
  (fun pre W=>(∃v,Boxed W (B+1) 199 v/\W.ownsRow B 207 65 v (cG (fL H now pre)).length (cG (fL H now pre)).flatten)/\aB W B 23 g.cs/\ah B w W)
  (fun _ _ _=>False)
  ?hI ?hIx ⟨⟨_,bv,ft _ _ _ _⟩,br,hB0⟩
  (fun x a' W=>∃C,B+1<C/\aB W C 205 (an (aY now x.1))/\a'={tmps:=#[al g.v,.func (.func gf) #[] lb,ao (some ⟨B,0,none⟩),aK,ag none 0 0,ao (some ⟨B+1,0,none⟩),ab af (x.1:Int),ao (some ⟨C,0,none⟩),.func (.func gf) #[] lb,ab af (x.1:Int),al (an (aY now x.1)).toArray,aK,aK,aK,aK,aK,aK,aK,aK,aK,aK,aK,aK,aK],defers:= []})
  ?hAx ?assign ?body ?done ?stop
 case hI=>
  rintro s X Y row ⟨⟨v,h1,h2⟩,h3,h4⟩ hg hr;exact⟨⟨v,boxed_own _ _ (fun _:Unit=>_) () X Y row h1 hg (fun r e=>(hr r e).2),yo h2 hg hr⟩,kx h3 hg hr,ownFrom_below (β:=Unit) (by omega) (by omega) () X Y row h4 hg hr⟩
 case hIx=>exact fun _ _ _ _ _ h _ _=>h.elim
 case hAx=>
  rintro x a' _ X Y row ⟨C,h1,h2,h3⟩ hg hr;exact⟨C,h1,kx h2 hg hr,h3⟩
 case assign=>
  rintro l pre x W K ⟨⟨v,h1,h2⟩,h3,h4⟩ hK;have hxn:(aY now x.1).length=48:=by
   have hx:x.1<now.length:=by rw[HM.out];exact x.2
   have e:now[x.1]? =some (aY now x.1):=by unfold aY;rw[bJ hx];rfl
   exact(HN.out _ (dI e)).1
  obtain⟨y,ST,hr,hb⟩:=nG W hxn;have hlt:B+1<W.heap.size:=h1.lt;have hK:=hK _ y ((KeepsOthers.of_grownBy (fS hb none) (fun j o e=>by cases e)).from _) (HKA.out W y h4 hb) ⟨⟨v,(hb.block _ hlt).trans h1,gI h2 hb⟩,h3.below hb,h4.trans (hb.mono (by have:=h4.size;omega))⟩ ⟨W.heap.size,hlt,hr,rfl⟩;clear h1 h2 h3 h4 hr hb hxn
  dsimp only[kA]
  gi_wp2
  exact hK
 case body=>
  rintro l pre x a' W _ _ ⟨⟨v,h1,h2⟩,h3,h4⟩ ⟨C,hC,hx,rfl⟩ hlen;have hxm:=x.2;have hxl:x.1<now.length:=by rw[HM.out];exact x.2
  have hpx:now[x.1]? =some (aY now x.1):=by unfold aY;rw[bJ hxl];rfl
  obtain⟨hp48,hpb⟩:=HN.out _ (dI hpx);obtain⟨ra,nv,cv,hv⟩:=lE h2;subst hv;have c0:∀z:aI W,z.1.cell? ⟨B+1,0,none⟩=some (ag ra nv cv):=fun z=>(z.2.cell (p:=⟨B+1,0,none⟩) h1.lt).trans h1.cell;have c1:∀z:aI W,(aE 23 ⟨B,0,none⟩).run aj z.1=.ok (al g.v) z.1:=fun z=>cF (h3.below z.2);have c2:∀z:aI W,(aE 205 ⟨C,0,none⟩).run aj z.1=.ok (al (an (aY now x.1)).toArray) z.1:=fun z=>(hx.below z.2).body hp48;have HSO:=ae (jX (i:=x.1) hp48 hpb);have HSF:Hid ((de x.1 (aY now x.1)).fits=true):=pi (by omega) _;have HHM:=ae (xH (x.1:Int) hp48);have HCE:Hid ((de x.1 (aY now x.1)).cells=Value.int aq 72:: ab aD 0:: ab af (x.1:Int)::an (aY now x.1)):=rfl;have HWC:=ae (Fh H now pre x);obtain⟨q,hq⟩:=w9nm (de x.1 (aY now x.1));rw[hq]at HSO HSF HCE HWC;obtain⟨k,hk⟩:=w9nm x.1;rw[hk]at hxm HHM HCE HWC c2 ⊢;have HEN:Hid (∀z,az aj 213 #[al (Value.int aq 72:: ab aD 0:: ab af (k:Int)::an (aY now k)).toArray] z fun e w'=>e=ar (al (an q.bytes).toArray)/\ah z.heap.size z w'):=fun z=>by
   have:=xI q HSO.out HSF.out z;rw[HCE.out]at this;exact this
  have hbk:bx (an q.bytes):=dr (Sct.bytes_length HSO.out);have HBK:=ae hbk;have hkm:(k:Int)<=1000:=by omega
  obtain⟨hs,hhs⟩:=w9nm ((Value.int aq 72:: ab aD 0:: ab af (k:Int)::an (aY now k)).toArray);rw[hhs]at HHM HEN;obtain⟨pb,hpb'⟩:∃l,(an (aY now k)).toArray=l:=⟨_,rfl⟩;rw[hpb']at HHM c2;try rw[hpb']
  have H1:=ae h1;have H2:=ae h2;have H3:=ae h3;have H4:=ae h4;have hmx:=w9x
  clear hpx hp48 hpb hq hk hhs hpb' hbk h1 h2 h3 h4 hx hxl
  gi_wp2_with fail
  refine uj (fun x=>∃y:aI W,x=y.1) 11 (.takes [0,1,3,5,6] (.one 2 (.take 4 (.one 7 (.one 8 (.take 9 (.one 10 .leaf))))))) (lZ uL) (by kernel_rfl) hmx (by kernel_rfl) (by intro c x v a w h;cases x<;>exact h) ⟨⟨W.drew,(aF _ W).drew⟩,rfl⟩ ?_;repeat(rw[bj];simp only[au,ay];go_big_quiet_step (fail);refine aO ?_)
  rw[bo,aT];simp only[au,ay];clear c0 c1 c2;go_wp2_with fail;go_at_call 212;refine(wW g HG.out _).mono ?_;rintro e x1 ⟨rfl,hb⟩;rw[HH.out];have K1:w9h W x1:=((aF _ W).drew).trans hb;clear hb;go_wp2_with fail;refine aG ⟨⟨x1,K1.out⟩,rfl⟩ ?_;rw[og];simp only[au,ay]
  go_big_quiet_step (fail)
  refine aO ?_;rw[aT];simp only[au,ay];go_wp2_with fail;go_at_call 214;refine(HHM.out x1).mono ?_;rintro e x2 ⟨rfl,hb⟩;have K2:=w9bt K1 hb;clear hb;go_wp2_with fail;refine aG ⟨⟨x2,K2.out⟩,rfl⟩ ?_;rw[aT];simp only[au,ay];go_wp2_with fail;go_at_call 213;refine(HEN.out x2).mono ?_;rintro e x3 ⟨rfl,hb⟩;have K3:=w9bt K2 hb;clear hb;go_wp2_with fail;refine aG ⟨⟨x3,K3.out⟩,rfl⟩ ?_;rw[og];simp only[au,ay];have BI:Hid (∀z,(cY 207 #[(0,ab af ((H:Int)+(k:Int))),(1,al (an q.bytes).toArray)]).run aj z=.ok (al (dS (H+k,an q.bytes)).toArray) z):=fun z=>by
   have:=xf ((H:Int)+(k:Int)) (an q.bytes) HBK.out.length z;unfold dS;rw[Int.natCast_add];exact this
  refine ky _ _ rfl rfl [(0,ab af ((H:Int)+(k:Int))),(1,al (an q.bytes).toArray)] (al (dS (H+k,an q.bytes)).toArray) rfl (fun z _=>BI.out z) ?_;refine aO ?_;have hwl:=kT (x:=(H+k,an q.bytes)) HBK.out.length;have hw1:=nA (x:=(H+k,an q.bytes)) HBK.out;obtain⟨x4,hx4⟩:=w9nm (x3.alloc (ap (dS (H+k,an q.bytes)).toArray 207));have SB:(cO 199 1 #[(0,al (dS (H+k,an q.bytes)).toArray)]).run aj x3=.ok (ag (some ⟨x3.heap.size,0,none⟩) 1 1) x4:=by rw[←hx4];exact pE x3 _ hwl
  have b4:ah x3.heap.size x3 x4:=by rw[←hx4];exact aR x3 _
  have K4:=w9bt K3 b4;have O4:=gI H2.out K4.out;have B4:ah B w x4:=H4.out.trans (K4.out.mono (by have:=H4.out.size;omega));obtain⟨v5,x5,r5,o5,g5, -⟩:=xh B x4 (ag ra nv cv) (cG (fL H now pre)) (dS (H+k,an q.bytes)) x3.heap.size O4 hwl hw1 (dJ (t:= 207) (by rw[←hx4];exact bR x3 _)) (by simp[cG,fL];omega) (by have:=B4.size;omega);rw[←HWC.out]at o5;obtain⟨ra5,n5,c5,hv5⟩:=lE o5;subst hv5;have R5:=ae r5;have h14:Boxed x4 (B+1) 199 (ag ra nv cv):=H1.out.kept (fS K4.out none) (by simp);have h15:=h14.kept g5 (h14.not_row (by decide) O4);have h34:aB x4 B 23 g.cs:=H3.out.below K4.out;have h35:aB x5 B 23 g.cs:=h34.grown g5 (dK O4 h34 (by decide));have B5:ah B w x5:=B4.grown g5 (by have:=B4.size;omega) (fun j e=>(O4.lt j e).1);obtain⟨y,hy⟩:=w9nm (x5.setCell ⟨B+1,0,none⟩ (ag ra5 n5 c5));have gy:x5.grownBy y (some (B+1)):=by rw[←hy];exact grownBy_setCell' x5 (B+1) _
  have h1y:Boxed y (B+1) 199 (ag ra5 n5 c5):=by rw[←hy];exact h15.set _
  have h2y:=o5.kept gy (aC (fun e=>h15.not_row (by decide) o5 e.symm));have h3y:aB y B 23 g.cs:=h35.grown gy (fun e=>by simp at e);have h4y:ah B w y:=B5.grown gy (by have:=B5.size;omega) (fun j e=>by cases e;omega);have KF:KeepsFrom W0.heap.size W y:=(((KeepsOthers.of_grownBy (fS K4.out none) (fun j o e=>by cases e)).trans (KeepsOthers.of_grownBy g5 (fun j o hj hoj=>rH O4 hj hoj))).trans (by rw[←hy];exact iC _ _ _)).from _;have KS:dH Sx W y:=⟨aZ K4.out.size (aZ g5.size gy.size),fun j hj=>by
   have hjB:j<B:=by rw[←HSZ.out];exact HS.out j hj
   rw[h4y.block j hjB,H4.out.block j hjB]⟩
  have POST:Hid (KeepsFrom W0.heap.size W y/\dH Sx W y/\(∃v,Boxed y (B+1) 199 v/\y.ownsRow B 207 65 v (cG (fL H now (pre++ [x]))).length (cG (fL H now (pre++ [x]))).flatten)/\aB y B 23 g.cs/\ah B w y):=⟨KF,KS,⟨_,h1y,h2y⟩,h3y,h4y⟩;have c5:=h15.cell;have f5:=h15.frozen;obtain⟨bv,hbv⟩:=w9nm ((dS (H+k,an q.bytes)).toArray);rw[hbv]at SB ⊢;clear hwl hw1 hx4 b4 O4 B4 r5 o5 g5 h14 h15 h34 h35 B5 gy h1y h2y h3y h4y KF KS hbv BI;rw[aT];simp only[au,ay];refine dq _ _ _ rfl rfl [(0,al bv)] _ rfl SB ?_;clear SB;go_wp2_with fail;refine aG ⟨⟨x4,K4.out⟩,rfl⟩ ?_;rw[cu];simp only[be,bf];go_wp2_with (at_builtin;refine wpList_append_run (.tmp 11) (.tmp 21) 199 rfl rfl _ _ _ rfl rfl R5.out ?_);exact POST.out
 case done=>
  rintro D xs W hD rfl ⟨⟨v,h1,h2⟩,h3,h4⟩ hK;have d1:=h1.cell;have H2:=ae h2;have H4:=ae h4;have HK:=ae hK;clear h1 h2 h3 h4 hK
  gi_wp2
  refine⟨by simp,aA ⟨_,_,rfl,iD HK.out, ?_⟩⟩;refine⟨_,results_tmp rfl _ _ _,_,rfl, ?_, ?_⟩
  ·rw[HSZ.out];exact ownsRow_putObj H2.out _ HK.out rfl
  ·rw[HSZ.out];exact H4.out.trans (belowK_b (w:=w) (by omega) W D _ _ (by omega) HK.out rfl rfl)
 case stop=>
  rintro D c pre W hD _ h _;exact h.elim
end
end
section
attribute [-simp] isAgg51 zeroValue51 isAgg205 zeroValue205 isAgg304 zeroValue304 isAgg226 zeroValue226 isAgg207 zeroValue207 isAgg198 zeroValue198
attribute [-go_sem] aE aL cZ
attribute [local go_sem] bC bD cV eM eN eO ig ek gA ie gB gC
set_option maxRecDepth 100000 in
theorem Fi (N:Nat) (w:ak) (v:am) (vs us:List (List am)) (g c:Nat) (hown:w.ownsRow N 205 48 v vs.length vs.flatten) (hl:us.flatten.length=us.length*48) (hu:w.rangeAt g 0 us.flatten) (hok:∀x ∈ us,∀y ∈ x,y.oneCell'=true) (hlen:vs.length+us.length<=1000000) (hN:N<=w.heap.size):
  ∃v' w',(Builtin.append_ #[109, 109] 109 #[v,ag (some ⟨g,0,none⟩) us.length c]).run aj w=.ok v' w'/\w'.ownsRow N 205 48 v' (vs++us).length (vs++us).flatten/\w.grownBy w' v.ownBlock:=by
 obtain⟨i0,hi,hz0,hz1,hz2⟩:=eJ oG;obtain⟨v',w',hr,h1,h2,_,h3⟩:=run_append_own_at (P:=aj) w N 109 109 205 i0 (al dR.toArray) 48 48 Tryz.underlying109 hi hz0 hz1 hz2 oE (by omega) v vs.length vs.flatten hown
  ⟨g,0,none⟩ us.length c us.flatten hl (fun j u hj=>by have:=hu j u hj;rwa [Addr.add_mid]) (fun x hx=>by obtain⟨y,hy,hxy⟩:=List.mem_flatten.1 hx;exact hok y hy x hxy) (by unfold aS;omega) (by omega) hN
 exact⟨v',w',hr,by simpa using h1,h2⟩
set_option maxRecDepth 100000 in
theorem Fj (N:Nat) (w:ak) (v:am) (vs us:List (List am)) (u:am) (hown:w.ownsRow N 226 49 v vs.length vs.flatten) (hu:w.ownsRow 0 226 49 u us.length us.flatten) (hok:∀x ∈ us,∀y ∈ x,y.oneCell'=true) (hlen:vs.length+us.length<=1000000) (hN:N<=w.heap.size):
  ∃v' w',(Builtin.append_ #[223, 223] 223 #[v,u]).run aj w=.ok v' w'/\w'.ownsRow N 226 49 v' (vs++us).length (vs++us).flatten/\w.grownBy w' v.ownBlock:=by
 obtain⟨i0,hi,hz0,hz1,hz2⟩:=eJ pd;rcases hu.2 with⟨rfl,h0⟩ | ⟨g,cap,cur,rfl,_⟩
 ·obtain rfl:=je h0;exact⟨v,w,run_append_owned_none (P:=aj) (w:=w) N 223 223 226 i0 49 Tryz.underlying223 hi v vs.length _ hown,by simpa using hown,World.grownBy.refl _ _⟩
 ·obtain⟨v',w',hr,h1,h2,_,h3⟩:=run_append_own_at (P:=aj) w N 223 223 226 i0 (al eh.toArray) 49 56 Tryz.underlying223 hi hz0 hz1 hz2 nr (by omega) v vs.length vs.flatten hown
   ⟨g,0,none⟩ us.length cap us.flatten hu.1 (hu.cells rfl) (fun x hx=>by obtain⟨y,hy,hxy⟩:=List.mem_flatten.1 hx;exact hok y hy x hxy) (by unfold aS;omega) (by omega) hN
  exact⟨v',w',hr,by simpa using h1,h2⟩
section
theorem Fk (p:aN) (n c:Nat) (w:ak):(binOp .eql 76 (ag (some p) n c) (ag none 0 0)).run aj w=.ok (.bool false) w:=by kernel_rfl
theorem Fl (p:aN) (n c:Nat) (w:ak):(binOp .eql 109 (ag (some p) n c) (ag none 0 0)).run aj w=.ok (.bool false) w:=by kernel_rfl
attribute [local go_sem] Fk Fl
theorem tr {v:am} {bs:List Int} (w:ak) (hv:Sl aq w v bs) (hne:bs≠ []) (hl:bs.length<=1000000):
  az aj 135 #[v] w fun e w'=>∃v',e=ar v'/\w'.ownsRow w.heap.size 5 1 v' bs.length (an bs)/\ah w.heap.size w w':=by
 obtain⟨v',w',h1,h2,h3⟩:=mP w v bs hv (by omega);obtain⟨a,c,rfl,hc1,hc2,hla,hn⟩:=hv;obtain⟨b,off,rfl⟩:∃b off,a=some ⟨b,off,none⟩:=by
  rcases hla with h | ⟨b,off,e,_⟩
  ·exact absurd h hne
  ·exact⟨b,off,e⟩
 obtain⟨n,hnn⟩:=w9nm bs.length;rw[hnn]at h1;rw[hnn];clear hla hn hc1 hc2 hl;go_enter func135,ntmps135;go_wp2_with (at_builtin;refine wpList_append_run (.tmp 5) (.tmp 6) 76 rfl rfl _ _ _ rfl rfl h1.out ?_);go_ret;exact⟨_,rfl,by rw[←hnn];exact h2.out,h3.out⟩
theorem Fm {v:am} {g:Nat} {now:List (List Int)} (w:ak) (hv:PgsR w v g now) (hne:now≠ []):
  az aj 236 #[v] w fun e w'=>∃v',e=ar v'/\w'.ownsRow w.heap.size 205 48 v' now.length (now.map an).flatten/\ah w.heap.size w w':=by
 obtain⟨a,c,rfl,ha⟩:=hv.sl;obtain rfl:=ha (by cases now with | nil=>exact absurd rfl hne | cons _ _=>simp);have ho0:(w.alloc (ap #[] 205)).ownsRow w.heap.size 205 48 (ag (some ⟨w.heap.size,0,none⟩) 0 0) ([]:List (List am)).length ([]:List (List am)).flatten:=World.ownsRow_lit w #[] 0 (aJ _) (by unfold aS;omega) rfl;have hb0:=aR w (ap #[] 205);have hv1:=hv.below hb0;obtain⟨v',w',h1,h2,h3⟩:=Fi w.heap.size (w.alloc (ap #[] 205)) _ [] (now.map an) g c ho0
  (by rw[nF (s:=48) (fun x hx=>by obtain⟨y,hy,rfl⟩:=dc.1 hx;rw[bi];exact hv.len y hy)]) hv1.at_ (fun x hx=>by obtain⟨y,_,rfl⟩:=dc.1 hx;exact iO y) (by have:=hv.few;simp;omega) (by simp)
 have hB:w9h w w':=hb0.grown h3 hb0.size (fun k e=>by simp[fq]at e;omega);have H1:=ae h1;have H2:Hid (w'.ownsRow w.heap.size 205 48 v' now.length (now.map an).flatten):=ae (by simpa using h2);obtain⟨n,hnn⟩:=w9nm now.length;rw[fZ,hnn]at H1;rw[hnn]at H2 ⊢;clear ho0 hb0 hv1 h1 h2 h3 hv ha;go_enter func236,ntmps236;go_wp2_with (at_builtin;refine wpList_append_run (.tmp 5) (.tmp 6) 109 rfl rfl _ _ _ rfl rfl H1.out ?_);go_ret;exact⟨_,rfl,H2.out,hB.out⟩
set_option maxRecDepth 100000 in
theorem Fn (n:Nat) (hn:n<=100000) (w:ak):
  az aj 269 #[ag none 0 0,ab af (n:Int)] w fun e w'=>∃v,e=ar v/\w'.ownsRow w.heap.size 226 49 v 0 []/\ah w.heap.size w w':=by
 obtain⟨i0,hi,hz0,hz1,hz2⟩:=eJ pd;have g0:¬((n:Int)<0):=by omega
 have g1:decide ((n:Int)<0)=false:=by simp
 by_cases h:0<n
 ·have g2:decide ((n:Int)>0)=true:=by simp;omega
  have hr:=fun ty=>Lib.run_append_grow_zeros (P:=aj) w 223 3 ty 226 i0 (al eh.toArray) af af Tryz.underlying223 Tryz.underlying3 hi hz0 none 0 0 [] (run_firstCells_none w.drew i0.size 0 0 0) n h (by omega) (by omega) (by omega) (by rw[hz2];omega)
   (by rw[hz2];exact growslice_fits (by omega) (by omega))
  have hc1:=grownCap_ge w (0+n) 0 226;have hc2:=grownCap_le_maxLen w (0+n) 0 226 (by unfold aS;omega);obtain⟨G,hG⟩:=w9nm (grownCap w (0+n) 0 226);rw[hG]at hr hc1 hc2;obtain⟨W,hW⟩:=w9nm (w.drew.alloc (ap (([]:List am).toArray++Builtin.zeroCells (Value.agg eh.toArray).cells n++Builtin.zeroCells (Value.agg eh.toArray).cells (G - (0+n))) 226));rw[hW]at hr;have HO:Hid (W.ownsRow w.heap.size 226 49 (ag (some ⟨w.heap.size,0,none⟩) 0 G) 0 []):=by
   refine⟨by simp,aC ⟨w.heap.size,G,_,rfl,aJ _,by rw[←hW];exact bR w.drew _,bq _,hc2, ?_,by simp⟩⟩;have hzc:(Value.agg eh.toArray).cells.size=49:=nr;simp only[Array.size_append,size_zeroCells,hzc,dU,dP];omega
  have HB:Hid (ah w.heap.size w W):=by rw[←hW];exact((aF _ w).drew).alloc (aJ _) _
  have HR:=ae hr;have g3:G<=9223372036854775807:=by unfold aS at hc2;omega
  clear hr hW hc2 hG hz0 hz1 hz2 hi;go_enter func269,ntmps269;go_wp2_with (at_builtin;refine Lib.wpList_append_run _ rfl _ _ _ _ rfl _ _ rfl rfl _ _ (HR.out _) ?_);go_ret;exact⟨_,rfl,HO.out,HB.out⟩
 ·obtain rfl:n=0:=by omega
  go_enter func269,ntmps269;go_wp2;go_ret;exact⟨_,rfl,ft _ _ _ _,aF _ _⟩
theorem tt (ts:List (List Img)) {k:Nat} {t:List Img} (h:ts[k]? =some t):(ts.take (k+1)).flatten=(ts.take k).flatten++t:=by
 rw[List.take_add_one,h];simp
theorem tu (ts:List (List Img)) (k:Nat):(ts.take k).flatten.length<=ts.flatten.length:=by
 conv=>rhs;rw[←ki k ts]
 rw[kj,cX];omega
theorem Fo (v:am) (ts:List (List Img)) (w:ak) {N:Nat} (h:eY 223 226 w N v ts) (hl:ts.flatten.length<=100000) (hl2:ts.length<=100000):
  az aj 237 #[v] w fun e w'=>∃v,e=ar v/\w'.ownsRow w.heap.size 226 49 v ts.flatten.length (bI ts.flatten).flatten/\ah w.heap.size w w':=by
 obtain⟨a,c,rfl,h3⟩:=h.row;have H3:=ae h3;have HL:=ae hl;obtain⟨n,hn⟩:=w9nm ts.length;have HN:=ae hn;rw[hn]at hl2;rw[hn];clear h h3 hl hn;go_enter func237,ntmps237;go_wp2_with fail;go_loop [3,11] (fun s i=>∃k:Nat,k<=n/\i=ab af (k:Int)/\s=ab af (((ts.take k).flatten.length:Nat):Int)) (fun _ i=>n - (aW i).toNat)
 case atStart=>exact⟨0,bq _,rfl,rfl⟩
 case round=>
  obtain⟨k,hk,rfl,rfl⟩:=hrel;obtain⟨m,hm0⟩:=w9nm ((ts.take k).flatten.length);rw[hm0];by_cases hlt:k<n
  ·have hlt':decide ((k:Int)< (n:Int))=true:=by simp;omega
   obtain⟨t,ht⟩:∃t,ts[k]? =some t:=⟨_,bJ (by rw[HN.out];exact hlt)⟩;obtain⟨g,b,d,rfl,h5,c0,h7⟩:=H3.out k t ht;have hs:(ts.take (k+1)).flatten.length=m+t.length:=by rw[tt ts ht,cX,hm0]
   have hb:=tu ts (k+1);have hb2:=HL.out;obtain⟨q,hq⟩:=w9nm t.length;rw[hq]at hs c0;have g5:(m:Int)+(q:Int)<=100000:=by omega
   have g6:decide ((m:Int)+(q:Int)<0)=false:=by simp;omega
   have HS:=ae hs;clear hs hb hb2 hq hm0 h5 h7 ht;go_wp2_with fail;go_round
   case rel=>exact⟨k+1,by omega,by go_num,by rw[HS.out];simp⟩
   case measure=>simp[aW];omega
  ·have hlt':decide ((k:Int)< (n:Int))=false:=by simp;omega
   obtain rfl:k=n:=by omega
   have hmb:m<=100000:=by rw[←hm0];exact aZ (tu ts k) HL.out
   clear hm0;go_wp2_with fail;go_at_call 269;refine(Fn m hmb w).mono ?_;rintro e w1 ⟨v1,rfl,hO,hB⟩;have HO:Hid (w1.ownsRow w.heap.size 226 49 v1 (bI (ts.take 0).flatten).length (bI (ts.take 0).flatten).flatten):=hO;have HB:=ae hB;clear hO hB;go_wp2_with fail;go_loopw [6,27] (fun v i wr=>∃j:Nat,j<=k/\i=ab af (j:Int)/\Hid (wr.ownsRow w.heap.size 226 49 v (bI (ts.take j).flatten).length (bI (ts.take j).flatten).flatten)/\w9h w wr) (fun _ i _=>k - (aW i).toNat)
   case atStart=>exact⟨0,bq _,rfl,HO,HB⟩
   case round=>
    obtain⟨j,hj,rfl,HO,HB⟩:=hrel;by_cases hlt:j<k
    ·have hlt':decide ((j:Int)< (k:Int))=true:=by simp;omega
     obtain⟨t,ht⟩:∃t,ts[j]? =some t:=⟨_,bJ (by rw[HN.out];exact hlt)⟩;obtain⟨g,b,d,rfl,h5,c0,h7⟩:=H3.out j t ht;have c1:wr.cell? ⟨g,j,none⟩=some (ag b t.length d):=(HB.out.cell (p:=⟨g,j,none⟩) h5).trans c0;have h7':wr.ownsRow 0 226 49 (ag b t.length d) (bI t).length (bI t).flatten:=by rw[jF];exact pG (eK h7 HB.out) (bq _)
     obtain⟨v5,x3,R3,O3,G3⟩:=Fj w.heap.size wr _ (bI (ts.take j).flatten) (bI t) (ag b t.length d) HO.out h7' (fun x hx=>by obtain⟨y,_,rfl⟩:=dc.1 hx;exact Img.cells_one y) (by
      rw[jF,jF];have h1:=tu ts (j+1);have h2:=HL.out;rw[tt ts ht,cX]at h1;omega) HB.out.size
     have e7:bI (ts.take j).flatten++bI t=bI (ts.take (j+1)).flatten:=by unfold bI;rw[tt ts ht,fp]
     rw[e7]at O3;have K3:w9h w x3:=HB.out.grown G3 HB.out.size (fun i e=>(HO.out.lt i e).1);have R3:=ae R3;have O3:=ae O3;obtain⟨q,hq⟩:=w9nm t.length;rw[hq]at c1 R3;clear c0 h5 h7 h7' ht G3 e7 hq;go_wp2_with (at_builtin;refine wpList_append_run (.tmp 31) (.tmp 32) 223 rfl rfl _ _ _ rfl rfl R3.out ?_);go_roundw
     case rel=>exact⟨j+1,by omega,by go_num,O3,K3⟩
     case measure=>simp[aW];omega
    ·have hlt':decide ((j:Int)< (k:Int))=false:=by simp;omega
     obtain rfl:j=k:=by omega
     have e1:ts.take j=ts:=ey (by rw[HN.out];exact aJ _);rw[e1,jF]at HO;clear e1;go_wp2_with fail;go_ret;exact⟨_,rfl,HO.out,HB.out⟩
end
end
section
attribute [-simp] isAgg51 zeroValue51 isAgg205 zeroValue205 isAgg304 zeroValue304 isAgg226 zeroValue226 isAgg207 zeroValue207 isAgg198 zeroValue198
attribute [-go_sem] aE aL cZ
attribute [local go_sem] bC bD cV eM eN eO ig ek gA ie gB gC
theorem Fp {s:Nat} {L:List (List am)} (hl:∀x ∈ L,x.length=s) {j:Nat} (hj:j<L.length) {c:List am} (hc:c.length=s) (i:Nat):(L.set j c).flatten[i]? =if j*s<=i/\i<j*s+s then c[i - j*s]? else L.flatten[i]? :=by
 have e1:L.flatten=(L.take j).flatten++(L[j]++(L.drop (j+1)).flatten):=by
  conv=>lhs;rw[←ki j L,List.drop_eq_getElem_cons hj]
  rw[kj,List.flatten_cons]
 have e2:(L.set j c).flatten=(L.take j).flatten++(c++(L.drop (j+1)).flatten):=by
  rw[List.set_eq_take_append_cons_drop,if_pos hj,kj,List.flatten_cons]
 have hA:(L.take j).flatten.length=j*s:=by
  rw[nF (s:=s) (fun x hx=>hl x (gX hx)),fd,Nat.min_eq_left (iT hj)]
 have hlj:L[j].length=s:=hl _ (List.getElem_mem hj);rw[e1,e2];by_cases h1:i<j*s
 ·rw[eU (by omega),eU (by omega),if_neg (by omega)]
 ·have r1:∀X:List am,((L.take j).flatten++X)[i]? =X[i - j*s]? :=fun X=>by rw[fF (by omega),hA]
  rw[r1,r1];by_cases h2:i<j*s+s
  ·rw[eU (by omega),if_pos ⟨by omega,h2⟩]
  ·rw[fF (by omega),fF (by omega),hc,hlj,if_neg (by omega)]
structure PgsW (W:ak) (g n:Nat) (now:List (List Int)):Prop where
 at_:W.rangeAt g 0 (now.map an).flatten
 there:W.there g 0 (n*48)
 len:∀x ∈ now,x.length=48
 cnt:now.length=n
theorem PgsW.below {W W':ak} {N g n:Nat} {now:List (List Int)} (h:PgsW W g n now) (hb:ah N W W') (hg:g<N):PgsW W' g n now:=
 ⟨da h.at_ (hb.block g hg),fun j hj=>by
  have e:=hb.block g hg;refine⟨?_, ?_⟩
  ·rw[cL (a:=⟨g,0+j,none⟩) e];exact(h.there j hj).1
  ·have:=(h.there j hj).2;unfold World.frozen? at this ⊢;rw[show(Addr.mk g (0+j) none).block=g from rfl]at this ⊢;rw[e];exact this,h.len,h.cnt⟩
theorem PgsW.put {W:ak} {g n:Nat} {now:List (List Int)} (h:PgsW W g n now) {j:Nat} (hj:j<n) {b:List Int} (hb:b.length=48):PgsW (W.setCells g (j*48) (an b)) g n (now.set j b)/\W.there g (j*48) 48:=by
 have ht:W.there g (j*48) 48:=fun i hi=>by
  have:=h.there (j*48+i) (by have:(j+1)*48<=n*48:=Nat.mul_le_mul_right _ hj;omega)
  rwa [dC]at this
 have hjl:j<now.length:=by rw[h.cnt];exact hj
 refine⟨⟨?_,World.there_setCells h.there _ _ _,fun x hx=> ?_,by rw[List.length_set];exact h.cnt⟩,ht⟩
 ·intro i u hi;rw[List.map_set,Fp (s:=48) (fun x hx=>by obtain⟨y,hy,rfl⟩:=dc.1 hx;rw[bi];exact h.len y hy) (by rw[fZ];exact hjl) (by rw[bi];exact hb)]at hi;by_cases hc:j*48<=i/\i<j*48+48
  ·rw[if_pos hc]at hi;have:=gE W g (j*48) (an b) (by rw[bi,hb];exact ht) (i - j*48) u hi
   rwa [show j*48+(i - j*48)=0+i by omega]at this
  ·rw[if_neg hc]at hi;have h0:=h.at_ i u hi;have h1:W.rangeAt g i [u]:=fun k v hv=>by
    match k,hv with
    | 0,hv=>simp at hv;rw[←hv];rw[dC]at h0;exact h0
    | k+1,hv=>simp at hv
   have:=iM h1 g (j*48) (an b) (by rw[bi,hb];simp;omega) 0 u rfl
   rwa [Nat.add_zero,←dC i]at this
 ·rcases List.mem_or_eq_of_mem_set hx with hx | rfl
  ·exact h.len x hx
  ·exact hb
theorem PgsW.page {W:ak} {g n:Nat} {now:List (List Int)} (h:PgsW W g n now) {k:Nat} (hk:k<n):W.rangeAt g (k*48) (an (aY now k))/\(aY now k).length=48:=by
 have hk':k<now.length:=by rw[h.cnt];exact hk
 have hx:now[k]? =some (aY now k):=by unfold aY;rw[bJ hk'];rfl
 refine⟨?_,h.len _ (dI hx)⟩;have:=mE (s:=48) (L:=now.map an) (fun x hx=>by obtain⟨y,hy,rfl⟩:=dc.1 hx;rw[bi];exact h.len y hy) h.at_ (k:=k) (x:=an (aY now k)) (by rw[du,hx];rfl)
 rwa [dC]at this
theorem yq {w:ak} {b o:Nat} {c:List am} (ht:w.there b o 48) (h:c.length=48) (h1:∀v ∈ c,v.oneCell'=true):(aL 205 ⟨b,o,none⟩ (al c.toArray)).run aj w=.ok () (w.setCells b o c):=by
 have:=run_storeVar_mid (P:=aj) w b o 205 c.toArray (by simpa [h]using ht) (by simpa [h]using xG) (gD h1)
 simpa using this
theorem yr (now:List (List Int)) {k:Nat} (hk:k<now.length):(now.take (k+1)).flatten=(now.take k).flatten++aY now k:=by
 rw[List.take_succ_eq_append_getElem hk];unfold aY;rw[bJ hk,kj];simp
theorem yt {now:List (List Int)} (h:∀x ∈ now,x.length=48) {k:Nat} (hk:k<=now.length):(now.take k).flatten.length=k*48:=by
 have hm:∀l:List (List Int),(∀x ∈ l,x.length=48)->l.flatten.length=l.length*48:=fun l=>by
  induction l with
  | nil=>intro _;rfl
  | cons a l ih=>
   intro h;rw[List.flatten_cons,cX,ih (fun x hx=>h x (fG _ hx)),h a eV,cK,Nat.succ_mul];omega
 rw[hm _ (fun x hx=>h x (gX hx)),fd,Nat.min_eq_left hk]
theorem yu (home:List (List Int)) (fl:List Img) {k:Nat} {x:Img} (h:fl[k]? =some x):(fl.take (k+1)).foldl cD home=cD ((fl.take k).foldl cD home) x:=by
 rw[List.take_add_one,h];simp[List.foldl_append]
section
theorem Fq {v vt:am} {gh:Nat} {home:List (List Int)} {ts:List (List Img)} {N:Nat} (w:ak) (hv:PgsR w v gh home) (hne:home≠ []) (ht:eY 223 226 w N vt ts)
  (hi:∀x ∈ ts.flatten,0<=x.index/\x.body.length=48) (hl:ts.flatten.length<=100000) (hl2:ts.length<=100000):
  az aj 159 #[v,vt] w fun e w'=>∃v',e=ar v'/\w'.ownsRow w.heap.size 5 1 v' (dV home ts).flatten.length (an (dV home ts).flatten)/\ah w.heap.size w w':=by
 obtain⟨P,hP⟩:=w9nm home.length;have hP0:0<P:=by rw[←hP];cases home with | nil=>exact absurd rfl hne | cons _ _=>simp
 have hP1:P<=1000:=by rw[←hP];exact hv.few
 have HCP:=ae (Fm w hv hne);rw[hP]at HCP;have HLEN:=ae hv.len;have HPP:=ae hP;have HT:=ae ht;have HI:=ae hi;have HL:=ae hl;have HL2:=ae hl2;rw[pB];obtain⟨fl,hfl⟩:=w9nm ts.flatten;rw[hfl]at HI HL;rw[hfl];have HFL:=ae hfl;obtain⟨a,c,rfl, -⟩:=hv.sl;obtain⟨a2,c2,rfl, -⟩:=ht.row;rw[hP]at HCP ⊢;clear hv hne ht hi hl hl2 hP hfl;go_enter func159,ntmps159;go_wp2_with fail;go_at_call 236;refine HCP.out.mono ?_;rintro e x1 ⟨v1,rfl,hO,hb⟩;have HB1:=ae hb;obtain⟨gp,cp,rfl,hgp⟩:∃gp cp,v1=ag (some ⟨gp,0,none⟩) P cp/\(w.heap.size<=gp/\gp<x1.heap.size/\PgsW x1 gp P home):=by
  rcases hO.2 with⟨rfl,h0⟩ | ⟨g,cap,cur,rfl,hg1,hg2,hg3,hg4,hg5,hg6⟩
  ·omega
  ·exact⟨g,cap,rfl,hg1,(cj.1 hg2).1,fun j u hj=>by have:=hO.cells (g:=g) rfl j u hj;rwa [Addr.add_mid]at this,fy hg2 0 (P*48) (by have:P*48<=cap*48:=Nat.mul_le_mul_right _ hg3;omega),HLEN.out,HPP.out⟩
 have HGP:=ae hgp;have HT1:Hid (eY 223 226 x1 N (ag a2 ts.length c2) ts):=by
  obtain⟨vs,g1,g2,g3⟩:=HT.out;exact⟨vs,g1,eK g2 hb,fun i u t hu ht=>eK (g3 i u t hu ht) hb⟩
 clear hO hb hgp HCP;go_wp2_with fail;go_at_call 237;have hcc:=Fo (ag a2 ts.length c2) ts x1 HT1.out (by rw[HFL.out];exact HL.out) HL2.out;rw[HFL.out]at hcc;refine hcc.mono ?_;clear hcc;rintro e x2 ⟨v2,rfl,hO,hb⟩;obtain⟨ai,ci,rfl,hrow⟩:=fR hO;have HROW:=ae hrow;have HB2:=w9bt HB1 hb;have HGI:Hid (∀g,ai=some ⟨g,0,none⟩->0<fl.length->x1.heap.size<=g):=fun g e h0=>by
  obtain⟨g',c',e',hN,_⟩:=jm hO h0;rw[e]at e';cases e';exact hN
 have HPG:Hid (PgsW x2 gp P ((fl.take 0).foldl cD home)):=HGP.out.2.2.below hb HGP.out.2.1;have HGP2:Hid (w.heap.size<=gp/\gp<x1.heap.size/\x1.heap.size<=x2.heap.size):=⟨HGP.out.1,HGP.out.2.1,hb.size⟩;obtain⟨n,hn⟩:=w9nm fl.length;have HN:=ae hn;have hn1:n<=100000:=by rw[←hn];exact HL.out
 rw[hn]at HROW HGI;rw[hn];clear hO hb hrow hn HT1;go_wp2_with fail;go_loopw [16] (fun i wr=>∃k:Nat,k<=n/\i=ab af (k:Int)/\Hid (PgsW wr gp P ((fl.take k).foldl cD home))/\w9h w wr/\Hid (x2.heap.size<=wr.heap.size/\∀j,j<x2.heap.size->j≠gp->wr.heap[j]? =x2.heap[j]?)) (fun i _=>n - (aW i).toNat)
 case atStart=>exact⟨0,bq _,rfl,HPG,HB2,⟨aJ _,fun _ _ _=>rfl⟩⟩
 case round=>
  obtain⟨k,hk,rfl,HP,HB,HX⟩:=hrel;by_cases hlt:k<n
  ·have g3:decide ((k:Int)< (n:Int))=true:=by simp;omega
   obtain⟨x,hx⟩:∃x,fl[k]? =some x:=⟨_,bJ (by rw[HN.out];exact hlt)⟩;obtain⟨gi,rfl,hgl,hgr⟩:=HROW.out (by omega);have hgi:=HGI.out gi rfl (by omega);obtain⟨hx0,hxb⟩:=HI.out x (dI hx);have hng:gi≠gp:=by have:=HGP2.out.2.1;omega
   have hgr':=da hgr (HX.out.2 gi hgl hng);have LD:(aE 226 ⟨gi,k*49,none⟩).run aj wr=.ok (al x.cells.toArray) wr:=by
    have:=mE (s:=49) (L:=bI fl) (fun y hy=>by obtain⟨z,hz,rfl⟩:=dc.1 hy;exact Img.cells_length (HI.out z hz).2) hgr' (k:=k) (x:=x.cells) (by unfold bI;rw[du,hx];rfl);rw[dC]at this;exact vN this (Img.cells_length hxb)
   obtain⟨y,ST,hr,hb⟩:=xt wr x hxb;have c0:y.cell? ⟨wr.heap.size,0,none⟩=some (ab af x.index):=hr.cell 0 _ rfl;have LB:(aE 205 ⟨wr.heap.size,1,none⟩).run aj y=.ok (al (an x.body).toArray) y:=iH (jO (a:= [ab af x.index]) (b:=an x.body) hr) (by rw[bi];exact hxb);obtain⟨B,hB⟩:=w9nm wr.heap.size;have hgpw:gp<wr.heap.size:=by have h1:=HGP2.out;have h2:=HX.out.1;omega
   have hPy:=HP.out.below hb hgpw;have HBY:=w9bt HB hb;have HXY:Hid (x2.heap.size<=y.heap.size/\∀j,j<x2.heap.size->j≠gp->y.heap[j]? =x2.heap[j]?):=⟨aZ HX.out.1 hb.size,fun j h1 h2=>(hb.block j (aU h1 HX.out.1)).trans (HX.out.2 j h1 h2)⟩;have HSN:=ae (yu home fl hx);rw[hB]at ST c0 LB;obtain⟨ic,hic⟩:=w9nm x.cells.toArray;rw[hic]at LD ST;obtain⟨ix,hix⟩:=w9nm x.index;rw[hix]at hx0 c0;have hcnt:=hPy.cnt;by_cases hxp:ix<P
   ·have g4:decide (ix< (P:Int))=true:=by simpa using hxp
    obtain⟨j,rfl⟩:=Int.eq_ofNat_of_zero_le hx0;have hjP:j<P:=by omega
    obtain⟨hput,hth⟩:=hPy.put hjP hxb;have STP:=yq hth (c:=an x.body) (by rw[bi];exact hxb) (iO _);obtain⟨z,hz⟩:=w9nm (y.setCells gp (j*48) (an x.body));rw[hz]at STP hput;have HPZ:Hid (PgsW z gp P ((fl.take (k+1)).foldl cD home)):=by
     show PgsW _ _ _ _;rw[HSN.out];have el:cD ((fl.take k).foldl cD home) x=((fl.take k).foldl cD home).set j x.body:=by
      rw[cD.eq_1,hix,if_pos (by rw[hcnt];omega),gO]
     rw[el];exact hput
    have HBZ:Hid (ah w.heap.size w z):=by show ah _ _ _;rw[←hz];exact HBY.out.trans ((fi (N:=w.heap.size) HGP2.out.1 _ _ _).mono (aJ _))
    have HXZ:Hid (x2.heap.size<=z.heap.size/\∀j,j<x2.heap.size->j≠gp->z.heap[j]? =x2.heap[j]?):=by
     refine(?_:_/\_);rw[←hz];exact⟨by rw[qP];exact HXY.out.1,fun j' h1 h2=>(li _ _ _ _ (aU h1 HXY.out.1) h2).trans (HXY.out.2 j' h1 h2)⟩
    obtain⟨pb,hpb⟩:=w9nm ((an x.body).toArray);rw[hpb]at LB STP;clear hx hgr hgr' hr hb hPy hput hth hxb hic hgi hgl hng hpb hz hcnt hix;go_wp2_with fail;go_roundw
    case rel=>exact⟨k+1,hlt,by go_num,HPZ,HBZ,HXZ⟩
    case measure=>simp[aW];omega
   ·have g4:decide (ix< (P:Int))=false:=by simpa using hxp
    have HPZ:Hid (PgsW y gp P ((fl.take (k+1)).foldl cD home)):=by
     show PgsW _ _ _ _;rw[HSN.out];have el:cD ((fl.take k).foldl cD home) x=(fl.take k).foldl cD home:=by
      rw[cD.eq_1,hix,if_neg (by rw[hcnt];omega)]
     rw[el];exact hPy
    clear hx hgr hgr' hr hb hPy hxb hic hgi hgl hng hcnt hix;go_wp2_with fail;go_roundw
    case rel=>exact⟨k+1,hlt,by go_num,HPZ,HBY,HXY⟩
    case measure=>simp[aW];omega
  ·have g3:decide ((k:Int)< (n:Int))=false:=by simp;omega
   obtain rfl:k=n:=by omega
   have e1:fl.take k=fl:=ey (by rw[HN.out];exact aJ _);rw[e1]at HP;obtain⟨now,hnow⟩:=w9nm (fl.foldl cD home);rw[hnow]at HP;have HNOW:=ae hnow;have HCN:Hid (now.length=P):=HP.out.cnt;have HNL:Hid (∀x ∈ now,x.length=48):=HP.out.len;have HGW:Hid (w.heap.size<=gp/\gp<wr.heap.size):=⟨HGP2.out.1,by have h1:=HGP2.out;have h2:=HX.out.1;omega⟩;clear e1 hnow;obtain⟨wo,rfl⟩:∃y,y=wr:=⟨_,rfl⟩;go_wp2_with fail;go_loopw [8,34] (fun b i wr=>∃j:Nat,j<=P/\i=ab af (j:Int)/\Hid (wr.ownsRow wo.heap.size 5 1 b (now.take j).flatten.length (an (now.take j).flatten))/\w9h wo wr) (fun _ i _=>P - (aW i).toNat)
   case atStart=>exact⟨0,bq _,rfl,ft _ _ _ _,aF _ _⟩
   case round=>
    obtain⟨j,hj,rfl,HO,HBQ⟩:=hrel;by_cases hlt:j<P
    ·have g3:decide ((j:Int)< (P:Int))=true:=by simp;omega
     have hPq:=HP.out.below HBQ.out HGW.out.2;obtain⟨hpg,hp48⟩:=hPq.page hlt;have LD:=iH hpg (by rw[bi];exact hp48);obtain⟨y,ST,hr,hb⟩:=nG wr hp48;have hsl:Sl aq y (ag (some ⟨wr.heap.size,0,none⟩) 48 48) (aY now j):=by
      have:=mi hr.range hr.lt (by rw[hp48];simp[aS])
      rwa [hp48]at this
     obtain⟨B,hB⟩:=w9nm wr.heap.size;have hOy:=eK HO.out hb;have hBy:w9b wo y:=HBQ.out.trans (hb.mono HBQ.out.size);have hfl:=yt HNL.out (k:=j) (by rw[HCN.out];omega);obtain⟨v5,x5,r5,o5,g5⟩:=mO wo.heap.size y _ (now.take j).flatten hOy (ag (some ⟨wr.heap.size,0,none⟩) 48 48) (aY now j) hsl (by rw[hfl,hp48];omega) hBy.size;have e5:(now.take j).flatten++aY now j=(now.take (j+1)).flatten:=(yr now (by rw[HCN.out];exact hlt)).symm;rw[e5]at o5;have K5:w9h wo x5:=hBy.grown g5 hBy.size (fun i e=>(hOy.lt i e).1);have O5:Hid (x5.ownsRow wo.heap.size 5 1 v5 (now.take (j+1)).flatten.length (an (now.take (j+1)).flatten)):=o5;rw[hB]at ST r5;have R5:=ae r5;obtain⟨pb,hpb⟩:=w9nm ((an (aY now j)).toArray);rw[hpb]at LD ST;clear hPq hpg hp48 hr hb hsl hOy hBy hfl r5 o5 g5 e5 hpb;go_wp2_with (at_builtin;refine wpList_append_run (.tmp 38) (.tmp 39) 76 rfl rfl _ _ _ rfl rfl R5.out ?_);go_roundw
     case rel=>exact⟨j+1,hlt,by go_num,O5,K5⟩
     case measure=>simp[aW];omega
    ·have g3:decide ((j:Int)< (P:Int))=false:=by simp;omega
     obtain rfl:j=P:=by omega
     have e2:now.take j=now:=ey (by rw[HCN.out];exact aJ _);rw[e2]at HO;have HF:Hid (wr.ownsRow w.heap.size 5 1 u8 now.flatten.length (an now.flatten)):=pG HO.out HB.out.size;have HBF:w9h w wr:=HB.out.trans (HBQ.out.mono HB.out.size);clear e2;go_wp2_with fail;go_ret;rw[HNOW.out];exact⟨_,rfl,HF.out,HBF.out⟩
end
theorem Fr {bs:List Int} {i:Nat}:iV (cN bs) (de i (cN bs).body)=true↔eP bs i:=by
 rw[oM];unfold eP cN;by_cases hd:dF bs=true
 ·rw[if_pos hd];constructor
  ·intro h;rw[h];exact⟨hd,rfl,rfl,rfl⟩
  ·rintro⟨_,h1,h2,h3⟩;generalize Sct.of bs=p at *;obtain⟨m,s,x,b⟩:=p;simp only at h1 h2 h3;subst h1 h2 h3
   rfl
 ·rw[if_neg hd];constructor
  ·intro h;have:(kH).mark=72:=by rw[h];rfl
   cases this
  ·rintro⟨h,_⟩;exact absurd h hd
theorem yv (S:RS) (H k:Nat):S.homes H (k+1)=S.homes H k++ [(Sct.of (S.rd (H+k))).body]:=by
 unfold RS.homes;rw[List.range_succ,fp]
 rfl
theorem qd (S:RS) (H k:Nat):(S.homes H k).length=k:=by simp[RS.homes]
section
theorem Fs {rb p0 p1:Nat} {S:RS} {w:ak} {f:Nat->Prop} (h:aX rb p0 p1 S w f) (hby:S.Byt) (hup:S.down=false) {g:Geo} (hg:g.In) {H P:Nat} (hH:g.oH=(H:Int)) (hP:g.oP=(P:Int)) (hHP:H+P<=S.n0) (hn:S.n0<=4096):
  az aj 157 #[ao (some ⟨rb,0,none⟩),al g.v] w fun e w'=>
   (((∀i,i<P->eP (S.rd (H+i)) i)/\∃v,e=ar (aQ #[v,ab af 0])/\w'.ownsRow w.heap.size 205 48 v P ((S.homes H P).map an).flatten)\/((¬∀i,i<P->eP (S.rd (H+i)) i)/\e=ar (aQ #[ag none 0 0,ab af 11])))/\ah w.heap.size w w':=by
 obtain⟨W,hW⟩:=w9nm (w.alloc (ap g.v 23));have r1:aB W w.heap.size 23 g.cs:=by rw[←hW];exact aB.new w _ _
 have b1:ah w.heap.size w W:=by rw[←hW];exact aR w _
 have HBW:=ae b1;have HR:=ae r1;have L0:=cF r1;have HG:=ae hg;have HH:=ae hH;have HPP:=ae hP;have HN:=ae hHP;have hb2:H+P<=4096:=by omega
 have HRD:Hid (∀(x:ak) (i:Nat),w9b w x->i<S.n0->az aj 72 #[ao (some ⟨rb,0,none⟩),ab af 0,ab af (i:Int)] x fun e w'=>e=ar (aQ #[al (an (S.rd i)).toArray,ab af 0])/\ah x.heap.size x w'):=fun x i hx hin=>(h.beside hx).rd0 hby hup hin;have HBY:Hid (∀i,i<S.n0->aP (S.rd i)/\(S.rd i).length=64):=fun i hi=>⟨(hby i hi).1,(hby i hi).2.1⟩;obtain⟨B,hB⟩:=w9nm w.heap.size;have HBB:=ae hB;rw[hB]at L0 HR;have hmx:=w9x
 clear r1 b1 h hby hup hg hH hP hHP hn;go_enter func157,ntmps157;go_wp2_with fail;go_at_call 195;refine(wI g HG.out W).mono ?_;rintro e x1 ⟨rfl,hb⟩;rw[HPP.out];have K1:=w9bt HBW hb;have R1:=ae (HR.out.below hb);clear hb L0;go_wp2_with fail;go_loopw [6,14] (fun l i wr=>∃k:Nat,k<=P/\i=ab af (k:Int)/\Hid (∀j,j<k->eP (S.rd (H+j)) j)/\Hid (wr.ownsRow w.heap.size 205 48 l ((S.homes H k).map an).length ((S.homes H k).map an).flatten)/\Hid (aB wr B 23 g.cs)/\w9h w wr) (fun _ i _=>P - (aW i).toNat)
 case atStart=>exact⟨0,bq _,rfl,fun j hj=>absurd hj (by omega),ft _ _ _ _,R1,K1⟩
 case round=>
  obtain⟨k,hk,rfl,HA,HO,HGR,HBx⟩:=hrel;by_cases hlt:k<P
  ·have g3:decide ((k:Int)< (P:Int))=true:=by simp;omega
   obtain⟨ra,nv,cv,hv⟩:=lE HO.out;subst hv;have hiN:H+k<S.n0:=by have:=HN.out;omega
   have LG:=cF HGR.out;obtain⟨hbb,hbl⟩:=HBY.out (H+k) hiN;have HR0:Hid (∀x,w9b w x->az aj 72 #[ao (some ⟨rb,0,none⟩),ab af 0,ab af ((H:Int)+(k:Int))] x fun e w'=>e=ar (aQ #[al (an (S.rd (H+k))).toArray,ab af 0])/\ah x.heap.size x w'):=fun x hx=>by
    have:=HRD.out x (H+k) hx hiN
    rwa [Int.natCast_add]at this
   have HSN:=ae (yv S H k);have HHS:=ae (Fr (bs:=S.rd (H+k)) (i:=k));have HDE:Hid (∀y,az aj 232 #[al (an (S.rd (H+k))).toArray] y fun e w'=>e=ar (aQ #[al (cN (S.rd (H+k))).cells.toArray,ab af (fI (S.rd (H+k)))])/\ah y.heap.size y w'):=fun y=>rE _ hbb hbl y;have HPO:=ae (nn hbb hbl);have HOF:Hid (dF (S.rd (H+k))=true->cN (S.rd (H+k))=Sct.of (S.rd (H+k))):=fun hd=>if_pos hd;have HPD:Hid (eP (S.rd (H+k)) k->dF (S.rd (H+k))=true):=fun h=>h.1;have HBL:=ae hbl;obtain⟨bs,hbs⟩:=w9nm (S.rd (H+k));rw[hbs]at HR0 HSN HHS HDE HPO HOF HPD HBL;have HBS:=ae hbs;obtain⟨p,hp⟩:=w9nm (cN bs);rw[hp]at HHS HDE HPO HOF;obtain⟨er,her⟩:=w9nm (fI bs);rw[her]at HDE;clear hbb hbl hiN hbs hp her;go_wp2_with fail;go_at_call 212;refine(wW g HG.out wr).mono ?_;rintro e x2 ⟨rfl,hb⟩;rw[HH.out];have K2:=ae hb;clear hb LG;go_wp2_with fail;go_at_call 72;refine(HR0.out x2 (HBx.out.trans (K2.out.mono HBx.out.size))).mono ?_;rintro e x3 ⟨rfl,hb⟩;obtain⟨x4,ST4,r4,hb4⟩:=ib x3 (dr HBL.out);have L4:=r4.blk (by rw[bi];exact HBL.out);have K4:w9h wr x4:=K2.out.trans ((hb.trans (hb4.mono hb.size)).mono K2.out.size);clear hb hb4 r4;go_wp2_with fail;clear ST4;go_at_call 232;refine(HDE.out x4).mono ?_;rintro e x5 ⟨rfl,hb⟩;obtain⟨x6,ST6,r6,hb6⟩:=nk x5 p HPO.out.len;obtain⟨Bp,hBp⟩:=w9nm x5.heap.size;rw[hBp]at ST6 r6;have K6:w9h wr x6:=K4.out.trans ((hb.trans (hb6.mono hb.size)).mono K4.out.size);have LPz:∀z:aI x6,(aE 304 ⟨Bp,0,none⟩).run aj z.1=.ok (al p.cells.toArray) z.1:=fun z=>(r6.below z.2).pg HPO.out.len;have LBz:∀z:aI x6,(aE 205 ⟨Bp,3,none⟩).run aj z.1=.ok (al (an p.body).toArray) z.1:=fun z=>(r6.below z.2).bod HPO.out.len;have LBy:∀y,w9b x6 y->(aE 205 ⟨Bp,3,none⟩).run aj y=.ok (al (an p.body).toArray) y:=fun y hy=>(r6.below hy).bod HPO.out.len;have HLB:=ae LBy;have HHM:=ae (fun z=>xH (k:Int) HPO.out.len z);have hcs:(Value.int aq 72:: ab aD 0:: ab af (k:Int)::an p.body)=(de k p.body).cells:=rfl;rw[hcs]at HHM;have EQ:Hid (∀z:ak,(eG 10000 304 (al p.cells.toArray) (al (de k p.body).cells.toArray)).run aj z=.ok (iV p (de k p.body)) z):=fun z=>ru (p:=p) (q:=de k p.body) HPO.out.len HPO.out.len z;obtain⟨b,hbb⟩:=w9nm (iV p (de k p.body));rw[hbb]at EQ HHS;obtain⟨hc,hhc⟩:=w9nm ((de k p.body).cells.toArray);rw[hhc]at EQ HHM;obtain⟨pc,hpc⟩:=w9nm p.cells.toArray;rw[hpc]at EQ LPz ST6;have HPB:Hid ((an p.body).length=48):=by show _=_;rw[bi];exact HPO.out.len
   clear hb hb6 r6 L4 LBy hcs hbb hhc;rw[hpc];clear hpc;go_wp2_with fail;clear ST6 hBp;refine cM (fun x=>∃y:aI x6,x=y.1) 5 (.takes [0,1,2,3] (.one 4 .leaf)) hmx (by kernel_rfl) (by intro c x v a w h;cases x<;>exact h) ⟨⟨x6.drew,(aF _ x6).drew⟩,rfl⟩ ?_;repeat(rw[bj];simp only[au,ay];go_big_quiet_step (fail);refine aO ?_)
   rw[bo,aT];simp only[au,ay];clear LPz LBz;go_wp2_with fail;go_at_call 214;refine(HHM.out _).mono ?_;rintro e x7 ⟨rfl,hb⟩;have K7:w9h x6 x7:=((aF _ x6).drew).trans hb;have K7':w9h wr x7:=K6.out.trans (K7.out.mono K6.out.size);clear hb;go_wp2_with fail;refine aG ⟨⟨x7,K7.out⟩,rfl⟩ ?_;rw[cu];simp only[be,bf];have EQ7:=EQ.out x7;cases b with
   | true=>
    have hPk:eP bs k:=HHS.out.1 rfl;have HA':Hid (∀j,j<k+1->eP (S.rd (H+j)) j):=fun j hj=>by
     rcases Nat.lt_succ_iff_lt_or_eq.1 hj with h | rfl
     ·exact HA.out j h
     ·rw[HBS.out];exact hPk
    have hpo:p=Sct.of bs:=HOF.out (HPD.out hPk);have LB:=HLB.out x7 K7.out;obtain⟨x8,hx8⟩:=w9nm (x7.alloc (ap (an p.body).toArray 205));have SB:(cO 109 1 #[(0,al (an p.body).toArray)]).run aj x7=.ok (ag (some ⟨x7.heap.size,0,none⟩) 1 1) x8:=by rw[←hx8];exact kM x7 _ HPB.out
    have b8:ah x7.heap.size x7 x8:=by rw[←hx8];exact aR x7 _
    have K8:w9h wr x8:=K7'.out.trans (b8.mono K7'.out.size);have O8:=eK HO.out K8.out;have B8:=HBx.out.trans (K8.out.mono HBx.out.size);obtain⟨v9,x9,r9,o9,g9, -⟩:=oI w.heap.size x8 (ag ra nv cv) ((S.homes H k).map an) (an p.body) x7.heap.size O8 HPB.out (iO _) (dJ (t:= 205) (by rw[←hx8];exact bR x7 _)) (by rw[fZ,qd];omega) B8.size;have e9:(S.homes H k).map an++ [an p.body]=(S.homes H (k+1)).map an:=by rw[HSN.out,fp,hpo];rfl
    rw[e9]at o9;have R9:=ae r9;have O9:=ae o9;have B9:w9h w x9:=B8.grown g9 B8.size (fun j e=>(O8.lt j e).1);have G8:=HGR.out.below K8.out;have G9:Hid (aB x9 B 23 g.cs):=G8.grown g9 (dK O8 G8 (by decide));obtain⟨pb,hpb⟩:=w9nm ((an p.body).toArray);rw[hpb]at LB SB;clear hPk hpo hx8 b8 O8 B8 r9 o9 g9 e9 G8 hpb;go_wp2_with (first | ((with_reducible refine gG ?_);refine dq _ _ _ rfl rfl [(0,al pb)] _ rfl SB ?_) | (at_builtin;refine wpList_append_run (.tmp 40) (.tmp 43) 109 rfl rfl _ _ _ rfl rfl R9.out ?_));go_roundw
    case rel=>exact⟨k+1,hlt,by go_num,HA',O9,G9,B9⟩
    case measure=>simp[aW];omega
   | false=>
    have HNO:Hid (¬∀i,i<P->eP (S.rd (H+i)) i):=fun h=>by
     have:=h k hlt;rw[HBS.out]at this;have:=HHS.out.2 this;cases this
    have B7:w9h w x7:=HBx.out.trans (K7'.out.mono HBx.out.size);go_wp2_with fail;go_ret2;exact⟨aC ⟨HNO.out,rfl⟩,B7.out⟩
  ·have g3:decide ((k:Int)< (P:Int))=false:=by simp;omega
   obtain rfl:k=P:=by omega
   have HO':Hid (wr.ownsRow w.heap.size 205 48 u6 k ((S.homes H k).map an).flatten):=by
    have:=HO.out;rw[fZ,qd]at this;exact this
   go_wp2_with fail;go_ret2;exact⟨aA ⟨HA.out,_,rfl,HO'.out⟩,HBx.out⟩
end
end
section
attribute [-simp] isAgg51 zeroValue51 isAgg205 zeroValue205 isAgg304 zeroValue304 isAgg226 zeroValue226 isAgg207 zeroValue207 isAgg198 zeroValue198
attribute [-go_sem] aE aL cZ
attribute [local go_sem] bC bD cV eM eN eO ig ek gA ie gB gC
def jo (rb:Nat) (bv hv:am) (gen:Int) (g:Geo) (a q wh at0 sq room:Int):List am:= [ao (some ⟨rb,0,none⟩),bv,hv]++cJ gen g a q++ [ab af wh,ab af at0,ab aD sq,ab af room]
structure MemAt (m rb Bb cb Bh ch:Nat) (a q:Int) (M:MS) (w:ak):Prop where
 row:aB w m 213 (jo rb (ag (some ⟨Bb,0,none⟩) M.b.length cb) (ag (some ⟨Bh,0,none⟩) M.home.length ch) M.gen M.g a q M.sup M.at0 M.seq M.room)
 mb:m≠Bb
 mh:m≠Bh
 bh:Bb≠Bh
 b0:0<M.b.length
 h0:0<M.home.length
 cbl:M.b.length<=cb/\cb<=aS
 cb':∃cur t,w.heap[Bb]? =some (ap cur t (0,0))
 bat:w.rangeAt Bb 0 (an M.b)
 ch':∃cur t,w.heap[Bh]? =some (ap cur t (0,0))
 hat:w.rangeAt Bh 0 (M.home.map an).flatten
def fX (m rb:Nat) (M:MS):ea:=fun w f=>∃Bb cb Bh ch a q,MemAt m rb Bb cb Bh ch a q M w/\f=fun k=>k=m\/k=Bb\/k=Bh
theorem MemAt.keep {m rb Bb cb Bh ch:Nat} {a q:Int} {M:MS} {w w':ak} (h:MemAt m rb Bb cb Bh ch a q M w) (hm:w'.heap[m]? =w.heap[m]?) (hb:w'.heap[Bb]? =w.heap[Bb]?) (hh:w'.heap[Bh]? =w.heap[Bh]?):MemAt m rb Bb cb Bh ch a q M w':=
 ⟨hm.trans h.row,h.mb,h.mh,h.bh,h.b0,h.h0,h.cbl,by obtain⟨c,t,e⟩:=h.cb';exact⟨c,t,hb.trans e⟩,da h.bat hb,by obtain⟨c,t,e⟩:=h.ch';exact⟨c,t,hh.trans e⟩,da h.hat hh⟩
theorem fX.isRes (m rb:Nat) (M:MS):IsRes (fX m rb M) where
 out:=by
  rintro w w' f ⟨Bb,cb,Bh,ch,a,q,h,rfl⟩ hk;exact⟨Bb,cb,Bh,ch,a,q,h.keep (hk m (aA rfl)) (hk Bb (aC (aA rfl))) (hk Bh (aC (aC rfl))),rfl⟩
 lt:=by
  rintro w f ⟨Bb,cb,Bh,ch,a,q,h,rfl⟩ k hk;rcases hk with rfl | rfl | rfl
  ·exact h.row.lt
  ·obtain⟨c,t,e⟩:=h.cb';exact(cj.1 e).1
  ·obtain⟨c,t,e⟩:=h.ch';exact(cj.1 e).1
 cells:=by
  rintro w f ⟨Bb,cb,Bh,ch,a,q,h,rfl⟩ k hk ob ho;rcases hk with rfl | rfl | rfl
  ·rw[show w.heap[k]? =_ from h.row]at ho;cases ho;rfl
  ·obtain⟨c,t,e⟩:=h.cb';rw[e]at ho;cases ho;rfl
  ·obtain⟨c,t,e⟩:=h.ch';rw[e]at ho;cases ho;rfl
def Ft:MetaRes:=⟨fX,fX.isRes⟩
section
variable {m rb Bb cb Bh ch:Nat} {a q:Int} {M:MS} {w w':ak}
theorem MemAt.lt (h:MemAt m rb Bb cb Bh ch a q M w):m<w.heap.size/\Bb<w.heap.size/\Bh<w.heap.size:=
 ⟨h.row.lt,by obtain⟨c,t,e⟩:=h.cb';exact(cj.1 e).1,by obtain⟨c,t,e⟩:=h.ch';exact(cj.1 e).1⟩
theorem MemAt.below (h:MemAt m rb Bb cb Bh ch a q M w) (hb:w9b w w'):MemAt m rb Bb cb Bh ch a q M w':=h.keep (hb.block _ h.lt.1) (hb.block _ h.lt.2.1) (hb.block _ h.lt.2.2)
theorem MemAt.sl (h:MemAt m rb Bb cb Bh ch a q M w):Sl aq w (ag (some ⟨Bb,0,none⟩) M.b.length cb) M.b:=
 Sl.at (off:=0) h.cbl.1 h.cbl.2 h.lt.2.1 fun j hj=>by
  rw[h.bat j (ab aq M.b[j]) (by simp[an,hj])];simp[hj]
theorem MemAt.pgs (h:MemAt m rb Bb cb Bh ch a q M w) (hl:∀x ∈ M.home,x.length=48) (hf:M.home.length<=1000):PgsR w (ag (some ⟨Bh,0,none⟩) M.home.length ch) Bh M.home:=⟨⟨_,_,rfl,fun _=>rfl⟩,h.lt.2.2,h.hat,hl,hf⟩
end
section
theorem yw:(aj.info? 23).map (·.size)=some 5:=by kernel_rfl
theorem lS (w:ak):(zeroValue 23).run aj w=.ok (al (Geo.mk 0 0 0 0 0).v) w:=by kernel_rfl
theorem lT (w:ak):(cY 23 #[]).run aj w=.ok (al (Geo.mk 0 0 0 0 0).v) w:=by kernel_rfl
theorem Geo.cs_one (g:Geo):∀v ∈ g.cs,v.oneCell'=true:=by
 intro v hv;simp only[Geo.cs,ec,List.not_mem_nil,or_false]at hv;rcases hv with rfl | rfl | rfl | rfl | rfl<;>rfl
theorem yx {x:ak} {B:Nat} {old:List am} {g:Geo} (h:aB x B 23 old) (ho:old.length=5):
  ∃y,(aL 23 ⟨B,0,none⟩ (al g.v)).run aj x=.ok () y/\aB y B 23 g.cs/\x.grownBy y (some B):=by
 refine⟨_,run_storeVar_row x B _ _ old.toArray g.cs.toArray h (by simpa [Geo.cs]using yw) (by simp[ho,Geo.cs]) (gD g.cs_one),setRow_heap x B _ _ _ _ h, ?_⟩;exact⟨rfl,rfl,rfl,by rw[setRow_size];exact aJ _,fun k _ hk=>setRow_other x B k _ (fun e=>hk (by rw[e]))⟩
theorem yz (x:ak) (g:Geo):∃y,(aL 23 ⟨x.heap.size,0,none⟩ (al g.v)).run aj (x.alloc (ap (Geo.mk 0 0 0 0 0).v 23))=.ok () y/\aB y x.heap.size 23 g.cs/\ah x.heap.size x y:=
 ⟨_,iU x _ _ g.cs.toArray yw rfl (gD g.cs_one),aB.new x _ _,aR x _⟩
theorem aB.geoAt {x:ak} {B:Nat} {t:aV} {C pre post:List am} {g:Geo} (h:aB x B t C) (e:C=pre++(g.cs++post)):(aE 23 ⟨B,pre.length,none⟩).run aj x=.ok (al g.v) x:=
 sS fun j v hj=>h.range (pre.length+j) v (by
  have hjl:j<g.cs.length:=(dp.1 hj).1;rw[e,fF (by omega),Nat.add_sub_cancel_left,eU hjl];exact hj)|> fun h=>by rwa [dC]at h
end
end
section
attribute [-simp] isAgg51 zeroValue51 isAgg205 zeroValue205 isAgg304 zeroValue304 isAgg226 zeroValue226 isAgg207 zeroValue207 isAgg198 zeroValue198 isAgg23 zeroValue23
attribute [-go_sem] aE aL cZ
attribute [local go_sem] bC bD cV eM eN eO ig ek gA ie lS lT gB gC
section
theorem Fu {m rb:Nat} {M:MS} {w:ak} {f:Nat->Prop} (h:fX m rb M w f):az aj 69 #[ao (some ⟨m,0,none⟩)] w fun e w'=>e=ar (ab af M.room)/\ah w.heap.size w w':=by
 obtain⟨Bb,cb,Bh,ch,a,q,h,rfl⟩:=h;have c0:w.cell? ⟨m,14,none⟩=some (ab af M.room):=h.row.cell 14 _ rfl;clear h;go_enter func69,ntmps69;go_wp2_with fail;go_ret;exact⟨rfl,aF _ _⟩
theorem Fv (w:ak):az aj 69 #[ao none] w fun e w'=>e=ar (ab af 0)/\ah w.heap.size w w':=by
 go_enter func69,ntmps69;go_wp2_with fail;go_ret;exact⟨rfl,aF _ _⟩
theorem Fw {m rb:Nat} {M:MS} {w:ak} {f:Nat->Prop} (h:fX m rb M w f) (hl:M.b.length<=100000):az aj 68 #[ao (some ⟨m,0,none⟩)] w fun e w'=>∃v,e=ar v/\Sl aq w' v M.b/\kS v w w'/\ah w.heap.size w w':=by
 obtain⟨Bb,cb,Bh,ch,a,q,h,rfl⟩:=h;have c0:w.cell? ⟨m,1,none⟩=some (ag (some ⟨Bb,0,none⟩) M.b.length cb):=h.row.cell 1 _ rfl;have HC:=ae (tr w h.sl (fun e=>by have:=h.b0;rw[e]at this;simp at this) (by omega));clear h;go_enter func68,ntmps68;go_wp2_with fail;go_at_call 135;refine HC.out.mono ?_;rintro e x ⟨v,rfl,hO,hb⟩;have HO:=ae hO;have HB:=ae hb;clear hO hb;go_wp2_with fail;go_ret;exact⟨v,rfl,Sl.of_owns HO.out,fun b off len cap e=>(HO.out.lt b (by rw[e];rfl)).1,HB.out⟩
theorem Fx (w:ak):az aj 68 #[ao none] w fun e w'=>∃v,e=ar v/\Sl aq w' v []/\ah w.heap.size w w':=by
 go_enter func68,ntmps68;go_wp2_with fail;go_ret;exact⟨_,rfl,Sl.nil _ _,aF _ _⟩
theorem Fy {m rb:Nat} {M:MS} {w:ak} {f:Nat->Prop} (h:fX m rb M w f):az aj 71 #[ao (some ⟨m,0,none⟩)] w fun e w'=>e=ar (al M.g.v)/\ah w.heap.size w w':=by
 obtain⟨Bb,cb,Bh,ch,a,q,h,rfl⟩:=h;obtain⟨W,hW⟩:=w9nm (w.alloc (ap (Geo.mk 0 0 0 0 0).v 23));have b1:ah w.heap.size w W:=by rw[←hW];exact aR w _
 have r1:aB W w.heap.size 23 (Geo.mk 0 0 0 0 0).cs:=by rw[←hW];exact aB.new w _ _
 have L0:=(h.row.below b1).geoAt (g:=M.g) (pre:= [ao (some ⟨rb,0,none⟩),ag (some ⟨Bb,0,none⟩) M.b.length cb,ag (some ⟨Bh,0,none⟩) M.home.length ch,ab aD M.gen]) (post:= [ab af a,ab aD q,ab af M.sup,ab af M.at0,ab aD M.seq,ab af M.room]) rfl;have L0':(aE 23 ⟨m,4,none⟩).run aj W=.ok (al M.g.v) W:=L0;obtain⟨y,ST,ry,gy⟩:=yx (g:=M.g) r1 rfl;have LD:=ae (cF ry);have HB:w9h w y:=b1.grown gy b1.size (fun k e=>by cases e;exact aJ _);obtain⟨B,hB⟩:=w9nm w.heap.size;rw[hB]at ST LD;clear h b1 r1 L0 ry gy;go_enter func71,ntmps71;go_wp2_with fail;exact bl (ff rfl rfl LD.out) rfl ⟨rfl,HB.out⟩
theorem Fz (w:ak):az aj 71 #[ao none] w fun e w'=>e=ar (al (Geo.mk 0 0 0 0 0).v)/\ah w.heap.size w w':=by
 obtain⟨W,hW⟩:=w9nm (w.alloc (ap (Geo.mk 0 0 0 0 0).v 23));have b1:ah w.heap.size w W:=by rw[←hW];exact aR w _
 have r1:aB W w.heap.size 23 (Geo.mk 0 0 0 0 0).cs:=by rw[←hW];exact aB.new w _ _
 obtain⟨y,ST,ry,gy⟩:=yx (g:=Geo.mk 0 0 0 0 0) r1 rfl;have LD:=ae (cF ry);have HB:w9h w y:=b1.grown gy b1.size (fun k e=>by cases e;exact aJ _);obtain⟨B,hB⟩:=w9nm w.heap.size;rw[hB]at ST LD;clear b1 r1 ry gy;go_enter func71,ntmps71;go_wp2_with fail;exact bl (ff rfl rfl LD.out) rfl ⟨rfl,HB.out⟩
theorem aX.fits {rb p0 p1:Nat} {S:RS} {w:ak} {f:Nat->Prop} (h:aX rb p0 p1 S w f) (g:Geo) (hg:g.In):az aj 126 #[ao (some ⟨rb,0,none⟩),al g.v] w fun e w'=>e=ar (.bool (decide (g.fitsR S.n0 S.n1)))/\ah w.heap.size w w':=
 tl g hg w (fun x hx=>(h.beside hx).len 0) (fun x hx=>(h.beside hx).len 1)
end
end
section
theorem Geo.goodIn {g:Geo} (h:g.good):g.In:=by
 obtain⟨⟨h1,h2,h3,h4,h5,h6,h7,h8⟩,h9,h10⟩:=h;have hb:=Geo.bounds ⟨h1,h2,h3,h4,h5,h6,h7,h8⟩;intro n hn;simp only[ec,List.not_mem_nil,or_false]at hn;rcases hn with rfl | rfl | rfl | rfl | rfl<;>omega
theorem Geo.goodNums {g:Geo} (h:g.good):g.oH=(g.H:Int)/\g.oP=(g.P:Int)/\g.oR=((2:Nat):Int)/\g.oB=g.bts/\g.r=(g.C:Int):=by
 have hN:=Geo.nats h;refine⟨?_, ?_, ?_, ?_,hN.c.symm⟩
 ·unfold Geo.oH Geo.H;rw[if_pos h];have:=hN.c;omega
 ·unfold Geo.oP;rw[if_pos h];exact hN.p.symm
 ·unfold Geo.oR;rw[if_pos h];rfl
 ·unfold Geo.oB;rw[if_pos h]
theorem Geo.supIn {g:Geo} (h:g.good) {gen a q:Int} (h1:cH gen) (h2:0<=a/\a<g.r) (h3:cH q):SupIn gen g a q:=by
 obtain⟨⟨g1,g2,g3,g4,g5,g6,g7,g8⟩,h9,h10⟩:=h;have hb:=Geo.bounds ⟨g1,g2,g3,g4,g5,g6,g7,g8⟩;exact⟨h1,by omega,by omega,by omega,by omega,by omega,by omega,h3⟩
section
variable {S:RS} {M:MS} {b:List Int}
theorem MS.Ok.pcs (h:M.Ok S):cB M.b=M.g.P:=by unfold cB;rw[h.len,(Geo.nats h.good).bp]
theorem MS.Ok.pcs' (h:M.Ok S) (hl:b.length=M.b.length):cB b=M.g.P:=by unfold cB;rw[hl,h.len,(Geo.nats h.good).bp]
theorem MS.Ok.room (h:M.Ok S):2+M.g.C+M.g.P<S.n0:=by
 have hN:=Geo.nats h.good;have:=h.n0;have:=hN.f;have:=hN.s1;omega
theorem MS.Ok.homB (h:M.Ok S):(∀x ∈ M.homW,x.1<S.n0)/\(M.homW.map (·.1)).Nodup/\(∀x ∈ M.homW,bx x.2)/\M.homW.length<=15:=by
 have hr:=h.room;refine⟨fun x hx=> ?_, ?_,fun x hx=> ?_, ?_⟩
 ·obtain⟨j,hj,e,_⟩:=kR (i:=x.1) (v:=x.2) hx;rw[e];unfold Geo.H;omega
 ·unfold MS.homW;rw[iA];refine List.pairwise_map.2 ((List.nodup_range.filter _).imp fun{i j} hne e=>hne ?_);have e:M.g.H+i=M.g.H+j:=e;omega
 ·obtain⟨j,hj,_,_,e⟩:=kR (i:=x.1) (v:=x.2) hx;rw[e];exact dr (Sct.bytes_length (jX (gH _ _) (ir h.bytes j)))
 ·unfold MS.homW;rw[fZ];have:=(Geo.nats h.good).p2;exact aZ (List.length_filter_le _ _) (by simpa using this)
theorem MS.Ok.supB (h:M.Ok S):(∀x ∈ M.supW,x.1<S.n0)/\(M.supW.map (·.1)).Nodup/\(∀x ∈ M.supW,bx x.2)/\M.supW.length=1:=by
 have hr:=h.room;have hg:=h.gen;refine⟨fun x hx=> ?_,by simp[MS.supW],fun x hx=> ?_,rfl⟩
 ·rw[dO.1 hx];show 1 - M.sup<_;omega
 ·rw[dO.1 hx];exact dr (Sct.bytes_length (kw ⟨by omega,by omega⟩ _ _ _))
theorem MS.Ok.txn (h:M.Ok S) (hl:b.length=M.b.length) (hb:aP b) (hd:M.dif b≠ []):TxnOk M.g.C (M.dif b):=by
 have hN:=Geo.nats h.good;have hp:cB b=M.g.P:=h.pcs' hl;have hle:(M.dif b).length<=M.g.P:=by
  have:=pm (aM M.b) (aM b)
  rwa [gJ b,hp]at this
 have hx:∀x ∈ M.dif b,∃i:Nat,i<M.g.P/\x=⟨(i:Int),bM b i⟩:=fun x hx=>by
  obtain⟨i,rfl,hi,_⟩:=pk _ _ x hx;rw[gJ,hp]at hi;refine⟨i,hi, ?_⟩;rw[lF b (by rw[hp];exact hi)]
  rfl
 refine⟨?_,by have:=hN.c1;omega,fun x hxm=> ?_,fun x hxm=> ?_⟩
 ·rcases Nat.eq_zero_or_pos (M.dif b).length with h0 | h0
  ·exact absurd (je h0) hd
  ·exact h0
 ·obtain⟨i,hi,rfl⟩:=hx x hxm;exact⟨gH _ _,ir hb i⟩
 ·obtain⟨i,hi,rfl⟩:=hx x hxm;have:=hN.p2;exact⟨Int.natCast_nonneg i,by show(i:Int)<=65535;omega⟩
end
theorem RS.Rdy.st {S:RS} {l:cA} {m d:Nat} (hf:S.Few m) (hd:0<=S.done/\S.done<=500000+d) (hfu:S.fuse<=1000000) (hm:m<=200) (hin:∀x ∈ l,x.1<S.n0) (hnd:(l.map (·.1)).Nodup):
  (S.st l).1.n0=S.n0/\(S.st l).1.Few (m+1)/\(0<=(S.st l).1.done/\(S.st l).1.done<=500000+(d+l.length+1:Nat))/\(S.st l).1.fuse<=1000000/\((S.st l).2=0\/(S.st l).2=14):=by
 obtain⟨h1,h2,h3,h4,h5,h6⟩:=RS.st_spec hin hnd hf (by omega);exact⟨h1,h5,⟨by omega,by omega⟩,by omega,h6⟩
end
section
attribute [-simp] isAgg51 zeroValue51 isAgg205 zeroValue205 isAgg304 zeroValue304 isAgg226 zeroValue226 isAgg207 zeroValue207 isAgg198 zeroValue198 isAgg23 zeroValue23
attribute [-go_sem] aE aL cZ
attribute [local go_sem] bC bD cV eM eN eO ig ek gA ie lS lT gB gC
def yA (C:List am):Nat->List am->List am
 | _, []=>C
 | o,v::r=>yA (C.set o v) (o+1) r
theorem aB.sets {B:Nat} {t:aV}:∀(u:List am) (o:Nat) {C:List am} {x:ak},aB x B t C->aB (x.setCells B o u) B t (yA C o u)
 | [],_,_,_,h=>h
 | v::r,o,C,x,h=>aB.sets r (o+1) (h.set o v)
theorem yB {f:Nat->Prop} {B:Nat} (hB:f B):∀(u:List am) (o:Nat) (w:ak),Turn f f w (w.setCells B o u)
 | [],_,w=>Turn.refl f w
 | v::r,o,w=>(jR w B o v hB).trans (yB hB r (o+1) _)
theorem Turn.frame {f g:Nat->Prop} {w w':ak} (h:Turn f g w w') (F:Nat->Prop):Turn (fun k=>f k\/F k) (fun k=>g k\/F k) w w':=
 ⟨h.still,h.others,fun k hk hn=>h.out k hk (fun hf=>hn (aA hf)),fun k hk=>hk.elim (fun hg=>(h.new k hg).imp aA id) (fun hF=>aA (aC hF))⟩
theorem Turn.less {f g g':Nat->Prop} {w w':ak} (h:Turn f g w w') (hg:∀k,g' k->g k\/w.heap.size<=k):Turn f g' w w':=
 ⟨h.still,h.others,h.out,fun k hk=>(hg k hk).elim (h.new k) aC⟩
theorem PgsR.of_owns {x:ak} {N n:Nat} {v:am} {now:List (List Int)} (h:x.ownsRow N 205 48 v n (now.map an).flatten) (hn:now.length=n) (h0:0<n) (hl:∀y ∈ now,y.length=48) (hf:n<=1000):
  ∃g c cur,v=ag (some ⟨g,0,none⟩) n c/\PgsR x v g now/\N<=g/\x.heap[g]? =some (ap cur 205 (0,0)):=by
 rcases h.2 with⟨rfl,h'⟩ | ⟨g,cap,cur,rfl,h1,h2,h3,h4,h5,h6⟩
 ·omega
 ·refine⟨g,cap,cur,rfl,⟨⟨_,_,by rw[hn],fun _=>rfl⟩,(cj.1 h2).1,fun j u hj=> ?_,hl,by omega⟩,h1,h2⟩;have:=h.cells (g:=g) rfl j u hj
  rwa [Addr.add_mid]at this
theorem qe {v:am} {bs:List Int} (w:ak) (hv:Sl aq w v bs) (hb:aP bs) (hl:bs.length<=10000) (h0:0<cB bs):
  az aj 128 #[v] w fun e w'=>∃g c cur,e=ar (ag (some ⟨g,0,none⟩) (cB bs) c)/\PgsR w' (ag (some ⟨g,0,none⟩) (cB bs) c) g (aM bs)/\w.heap.size<=g/\w'.heap[g]? =some (ap cur 205 (0,0))/\ah w.heap.size w w':=by
 refine(Cp v bs w hv (by omega)).mono ?_;rintro e w' ⟨v',rfl,hO,hB⟩;rw[xc]at hO;obtain⟨g,c,cur,rfl,h1,h2,h3⟩:=PgsR.of_owns hO (it bs) h0 (fun y hy=>(lL hb y hy).1) (by unfold cB;omega);exact⟨g,c,cur,rfl,h1,h2,h3,hB⟩
set_option maxRecDepth 100000 in
theorem yC {w:ak} {b o:Nat} {a q:Int} (hc:w.rangeAt b o [ab af a,ab aD q]):(aE 196 ⟨b,o,none⟩).run aj w=.ok (al #[ab af a,ab aD q]) w:=
 iL w b o _ _ _ hc Tryz.underlying196 rfl (by kernel_rfl)
def dB (B C:Nat) (W:ak):Type:={x:ak // x.heap[B]? =W.heap[B]? /\x.heap[C]? =W.heap[C]? }
instance (B C:Nat) (W:ak):Nonempty (dB B C W):=⟨⟨W,rfl,rfl⟩⟩
section
theorem FA {rb p0 p1 m:Nat} {S:RS} {M:MS} {w:ak} {f:Nat->Prop} (h:cS (aX rb p0 p1 S) (fX m rb M) w f) (hr:S.Rdy) (hok:M.Ok S):
  az aj 145 #[ao (some ⟨m,0,none⟩)] w fun e w'=>e=ar (ab af (S.bat [M.homW,M.supW]).2)/\∃f',(if(S.bat [M.homW,M.supW]).2=0 then cS (aX rb p0 p1 (S.bat [M.homW,M.supW]).1) (fX m rb M.ckpt)else aX rb p0 p1 (S.bat [M.homW,M.supW]).1) w' f'/\Turn f f' w w':=by
 obtain⟨f1,f2,hR,⟨Bb,cb,Bh,ch,a,q,hM,rfl⟩,hD,rfl⟩:=h;have hN:=Geo.nats hok.good;obtain⟨nH,nP,nR,nB,nC⟩:=Geo.goodNums hok.good;have hgi:=Geo.goodIn hok.good;have hpc:=hok.pcs;obtain⟨hm1,hm2,hm3,hm4⟩:=hok.homB;obtain⟨hs1,hs2,hs3,hs4⟩:=hok.supB;obtain⟨k1,k2,k3,k4,k5⟩:=RS.Rdy.st (m:=100) (d:=0) (l:=M.homW) hr.few ⟨hr.d0,by have:=hr.d1;omega⟩ hr.fu (by omega) hm1 hm2;have HOM:Hid (∀(x:ak) (f':Nat->Prop) (v:am) (N:Nat),aX rb p0 p1 S x f'->x.ownsRow N 207 65 v (cG M.homW).length (cG M.homW).flatten->(∀g,v.ownBlock=some g->¬f' g)->
   az aj 134 #[ao (some ⟨rb,0,none⟩),v] x fun e w'=>e=ar (ab af (S.st M.homW).2)/\∃f'',aX rb p0 p1 (S.st M.homW).1 w' f''/\Turn f' f'' x w'):=fun x f' v N hx hv hf=>
  sU hx (by have:=hr.fu;omega) ⟨hr.d0,by have:=hr.d1;omega⟩ hr.few (by omega) hm1 hm2 hm3 (by omega) hv hf
 have HSU:Hid (∀(x:ak) (f':Nat->Prop) (v:am) (N:Nat),aX rb p0 p1 (S.st M.homW).1 x f'->x.ownsRow N 207 65 v (cG M.supW).length (cG M.supW).flatten->(∀g,v.ownBlock=some g->¬f' g)->
   az aj 134 #[ao (some ⟨rb,0,none⟩),v] x fun e w'=>e=ar (ab af ((S.st M.homW).1.st M.supW).2)/\∃f'',aX rb p0 p1 ((S.st M.homW).1.st M.supW).1 w' f''/\Turn f' f'' x w'):=fun x f' v N hx hv hf=>
  sU hx (by omega) ⟨by omega,by omega⟩ k2 (by omega) (by rw[k1];exact hs1) hs2 hs3 (by omega) hv hf
 have hE2:((S.st M.homW).1.st M.supW).2=0\/((S.st M.homW).1.st M.supW).2=14:=(RS.st_spec (S:=(S.st M.homW).1) (l:=M.supW) (by rw[k1];exact hs1) hs2 k2 (by omega)).2.2.2.2.2;have hbat:=S.bat_two M.homW M.supW;obtain⟨S1,hS1⟩:=w9nm (S.st M.homW);rw[hS1]at HOM HSU hE2 hbat k5;obtain⟨S2,hS2⟩:=w9nm (S1.1.st M.supW);rw[hS2]at HSU hE2 hbat;obtain⟨RR,hRR⟩:=w9nm (S.bat [M.homW,M.supW]);rw[hRR]at hbat ⊢;have HBAT:=ae hbat;obtain⟨Po,hPo⟩:∃Po:ea,(if RR.2=0 then cS (aX rb p0 p1 RR.1) (fX m rb M.ckpt)else aX rb p0 p1 RR.1)=Po:=⟨_,rfl⟩;have HPO:=ae hPo;rw[hPo];obtain⟨er,her⟩:=w9nm RR.2;have HER:=ae her;rw[her];have HSL:=ae hM.sl;have HBY:=ae hok.bytes;have hbl:M.b.length<=714:=by have:=hok.len;have:=hN.b2;omega
 have HHL:=ae hok.homl;have HHB:Hid (∀x ∈ M.home,x.length=48):=fun x hx=>(hok.homb x hx).1;have HGI:=ae hgi;have HNH:=ae nH;have HSIN:Hid (SupIn (M.gen+1) M.g M.at0 M.seq):=Geo.supIn hok.good ⟨by have:=hok.gen.1;omega,by have:=hok.gen.2;omega⟩ ⟨Int.natCast_nonneg _,by have:=hok.at0;have:=hN.c;omega⟩ ⟨hok.seq.1,by have:=hok.seq.2;omega⟩;have HPC:=ae hpc;have HHS:=ae (DZ M hpc);have HSW:Hid (M.supW= [(1 - M.sup,an (ev (M.gen+1) M.g M.at0 M.seq).bytes)]):=by show _=_;rw[pM];rfl
 have HCL:Hid ((aM M.b).length=M.g.P):=by show _=_;rw[it,hpc]
 have HCK:=ae (lL hok.bytes);have hg0:=hok.gen.1;have hg1:=hok.gen.2;have hsup:=hok.sup1;have hP2:2<=M.g.P:=hN.p1;have hP15:M.g.P<=15:=hN.p2;have hHb:M.g.H<=300:=by unfold Geo.H;have:=hN.c2;omega
 have HM:=ae hM;have HR:=ae hR;have HD:Hid (∀k,f1 k->k≠m/\k≠Bb/\k≠Bh):=fun k hk=>⟨fun e=>hD k hk (aA e),fun e=>hD k hk (aC (aA e)),fun e=>hD k hk (aC (aC e))⟩;obtain⟨P,hP⟩:=w9nm M.g.P;rw[hP]at hP2 hP15 HPC HCL HHL;have hmx:=w9x
 have c1:w.cell? ⟨m,1,none⟩=some (ag (some ⟨Bb,0,none⟩) M.b.length cb):=hM.row.cell 1 _ rfl;have HCUT:=ae (qe w hM.sl hok.bytes (by omega) (by rw[hpc,hP];omega));rw[HPC.out]at HCUT;obtain⟨n,hn⟩:=w9nm M.b.length;have HN:=ae hn;rw[hn]at c1 HCUT;clear hR hM hD hN nH nP nR nB nC hgi hpc hm1 hm2 hm3 hm4 hs1 hs2 hs3 hs4 k1 k2 k3 k4 hr hok hS1 hS2 hRR hbat hP hn hbl hPo her;go_enter func145,ntmps145;go_wp2_with fail;go_at_call 128;refine HCUT.out.mono ?_;rintro e x1 ⟨Bp,cp,cur,rfl,hpg,hBp,hcur,hb⟩;have hM1:=HM.out.below hb;have L4:(aE 23 ⟨m,4,none⟩).run aj x1=.ok (al M.g.v) x1:=hM1.row.geoAt (g:=M.g) (pre:= [ao (some ⟨rb,0,none⟩),ag (some ⟨Bb,0,none⟩) M.b.length cb,ag (some ⟨Bh,0,none⟩) M.home.length ch,ab aD M.gen]) (post:= [ab af a,ab aD q,ab af M.sup,ab af M.at0,ab aD M.seq,ab af M.room]) rfl;obtain⟨x2,ST2,r2,hb2⟩:=yz x1 M.g;obtain⟨Bg,hBg⟩:=w9nm x1.heap.size;rw[hBg]at ST2 r2;have hM2:=hM1.below hb2;have hR2:aX rb p0 p1 S x2 f1:=HR.out.beside (hb.trans (hb2.mono hb.size));have hpg2:=hpg.below hb2;have K2:w9h w x2:=hb.trans (hb2.mono hb.size);have HPG2:=ae hpg2;have HM2:=ae hM2;have HG2:=ae r2;have HBP:Hid (w.heap.size<=Bp/\Bp<Bg):=⟨hBp,by rw[←hBg];exact hpg.lt⟩;have HCUR:Hid (x2.heap[Bp]? =some (ap cur 205 (0,0))):=(hb2.block _ hpg.lt).trans hcur;have d0:∀z:aI x2,z.1.cell? ⟨m,0,none⟩=some (ao (some ⟨rb,0,none⟩)):=fun z=>(hM2.row.below z.2).cell 0 _ rfl;have d2:∀z:aI x2,z.1.cell? ⟨m,2,none⟩=some (ag (some ⟨Bh,0,none⟩) P ch):=fun z=>by rw[←HHL.out];exact(hM2.row.below z.2).cell 2 _ rfl
 have dg:∀z:aI x2,(aE 23 ⟨Bg,0,none⟩).run aj z.1=.ok (al M.g.v) z.1:=fun z=>cF (r2.below z.2);clear hpg hBp hcur hb hM1 hb2 hM2 hpg2 r2 c1 HCUT;go_wp2_with fail;clear ST2 L4;refine cM (fun x=>∃y:aI x2,x=y.1) 12 (.takes [0,1,2,3,4,5,6,7,8,9] (.one 10 (.one 11 .leaf))) hmx (by kernel_rfl) (by intro c x v a w h;cases x<;>exact h) ⟨⟨x2.drew,(aF _ x2).drew⟩,rfl⟩ ?_;repeat(rw[bj];simp only[au,ay];go_big_quiet_step (fail);refine aO ?_)
 rw[bo,aT];simp only[au,ay];clear d0 d2 dg;go_wp2_with fail;go_at_call 143;obtain⟨X,hX⟩:=w9nm x2.drew;have bX:ah x2.heap.size x2 X:=by rw[←hX];exact(aF _ x2).drew
 try rw[hX]
 refine(yc _ _ _ _ _ _ X).mono ?_;rintro e x3 ⟨rfl,hx3⟩;have hsz:X.heap.size=x2.heap.size:=by rw[←hX];rfl
 have b3:ah X.heap.size X x3:=by rw[hx3];exact(aR X _).trans ((aR _ _).mono (by simp))
 have K3:w9h x2 x3:=bX.trans (b3.mono (by omega));obtain⟨Bw,hBw⟩:=w9nm X.heap.size;have hPW:PgsB x3 Bw Bh M.home:=by
  refine⟨⟨ag (some ⟨Bh,0,none⟩) M.home.length ch, ?_,(HM2.out.pgs HHB.out (by rw[HHL.out];omega)).below K3.out⟩, ?_⟩
  ·rw[hx3,←hBw,HHL.out];exact(dY X _ _).alloc _
  ·rw[hx3,←hBw,dy,dy];omega
 have hPN:PgsB x3 (Bw+1) Bp (aM M.b):=by
  refine⟨⟨ag (some ⟨Bp,0,none⟩) P cp, ?_,HPG2.out.below K3.out⟩, ?_⟩
  ·rw[hx3,←hBw];have:=dY (X.alloc (ap #[ag (some ⟨Bh,0,none⟩) P ch] 109)) 109 (ag (some ⟨Bp,0,none⟩) P cp)
   rwa [dy]at this
  ·rw[hx3,←hBw,dy,dy];omega
 have hlt3:∀k,SD (Bw+1) Bp Bw Bh k->k<x3.heap.size:=by
  rintro k (rfl | rfl | rfl | rfl)
  ·exact hPN.lt
  ·obtain⟨⟨v,_,h⟩,_⟩:=hPN;exact h.lt
  ·exact hPW.lt
  ·obtain⟨⟨v,_,h⟩,_⟩:=hPW;exact h.lt
 have HHW:=ae (yp (H:=M.g.H) HGI.out HNH.out (by omega) HCL.out (by omega) HCK.out (iY M.home (aM M.b)) 220 #[ao (some ⟨Bw+1,0,none⟩),ao (some ⟨Bw,0,none⟩)]
  (enters_of func220 (by kernel_rfl) rfl) (SD (Bw+1) Bp Bw Bh) x3 hlt3 (yd 2 (by omega) (Bw+1) Bp Bw Bh P M.home (aM M.b) HCL.out HHL.out x3 hPN hPW))
 rw[←HCL.out]at HHW;rw[←HHS.out]at HHW;rw[hBw];clear bX hX hx3 hsz b3 hBw hPW hPN hlt3;go_wp2_with fail;refine aG ⟨⟨x3,K3.out⟩,rfl⟩ ?_;rw[aT];simp only[au,ay];go_wp2_with fail;go_at_call 131;refine HHW.out.mono ?_;rintro e x4 ⟨v4,rfl,hO,hb⟩;have K4:=w9bt K3 hb;have HO:=ae hO;have HX3:Hid (x2.heap.size<=x3.heap.size):=K3.out.size;clear hO hb HHW;go_wp2_with fail;refine aG ⟨⟨x4,K4.out⟩,rfl⟩ ?_;rw[cu];simp only[be,bf];have hf4:∀g,v4.ownBlock=some g->¬f1 g:=fun g e hf=>by
  have h1:=(HO.out.lt g e).1;have h2:=(aX.isRes rb p0 p1 S).lt HR.out g hf;have h3:=HX3.out;have h4:=K2.out.size;omega
 have hR4:aX rb p0 p1 S x4 f1:=HR.out.beside (K2.out.trans (K4.out.mono K2.out.size));have HST:=ae (HOM.out x4 f1 v4 x3.heap.size hR4 HO.out hf4);clear hf4 hR4 HOM;go_wp2_with fail;go_at_call 134;refine HST.out.mono ?_;rintro e x5 ⟨rfl,f5,hR5,hT5⟩;have K24:w9b w x4:=K2.out.trans (K4.out.mono K2.out.size);have HW5:Hid (∀k,k<x4.heap.size->¬f1 k->x5.heap[k]? =x4.heap[k]?):=hT5.out;have hm4:=HM2.out.below K4.out;have hm5:MemAt m rb Bb cb Bh ch a q M x5:=hm4.keep (hT5.out m hm4.lt.1 (fun h=>(HD.out m h).1 rfl)) (hT5.out Bb hm4.lt.2.1 (fun h=>(HD.out Bb h).2.1 rfl)) (hT5.out Bh hm4.lt.2.2 (fun h=>(HD.out Bh h).2.2 rfl));have hD5:∀k,f5 k->k≠m/\k≠Bb/\k≠Bh/\k≠Bp/\k≠Bg:=fun k hk=>by
  have hl:=hm4.lt;have hbg:=aU HG2.out.lt K4.out.size;have hbb:=HBP.out;have hbp:Bp<x4.heap.size/\w.heap.size<=Bp:=⟨aU (HG2.out.lt |> fun h=>Nat.lt_trans HBP.out.2 h) K4.out.size,HBP.out.1⟩;rcases hT5.new k hk with h1 | h1
  ·have:=HD.out k h1;have h2:=(aX.isRes rb p0 p1 S).lt HR.out k h1;exact⟨this.1,this.2.1,this.2.2,by omega,by omega⟩
  ·exact⟨by omega,by omega,by omega,by omega,by omega⟩
 have hBpn:¬f1 Bp:=fun h=>by
  have h2:=(aX.isRes rb p0 p1 S).lt HR.out Bp h;have:=HBP.out.1;omega
 have hBgn:¬f1 Bg:=fun h=>by
  have h2:=(aX.isRes rb p0 p1 S).lt HR.out Bg h;have:=HBP.out;omega
 have hcur5:x5.heap[Bp]? =some (ap cur 205 (0,0)):=by
  have hl:Bp<x2.heap.size:=(cj.1 HCUR.out).1;rw[hT5.out Bp (aU hl K4.out.size) hBpn,K4.out.block Bp hl];exact HCUR.out
 have hpg5:PgsR x5 (ag (some ⟨Bp,0,none⟩) P cp) Bp (aM M.b):=(HPG2.out.below K4.out).keep hT5.size (hT5.out Bp (aU HPG2.out.lt K4.out.size) hBpn);have hbg5:aB x5 Bg 23 M.g.cs:=(hT5.out Bg (aU HG2.out.lt K4.out.size) hBgn).trans (HG2.out.below K4.out);have HT5:Hid (Turn (fun k=>f1 k\/k=m\/k=Bb\/k=Bh) (fun k=>f5 k\/k=m\/k=Bb\/k=Bh) w x5):=(Turn.of_below K24).trans (hT5.frame _);have HM5:=ae hm5;have HR5:=ae hR5;have HD5:=ae hD5;have HC5:=ae hcur5;have HP5:=ae hpg5;have HG5:=ae hbg5;clear K24 hm4 hm5 hD5 hBpn hBgn hcur5 hpg5 hbg5 hT5 hR5 HST HO HX3 HW5;by_cases h1:S1.2=0
 ·have HB2:Hid (RR=S2):=by show _=_;rw[HBAT.out,if_pos h1]
  rw[h1];clear k5;have e0:x5.cell? ⟨m,3,none⟩=some (ab aD M.gen):=HM5.out.row.cell 3 _ rfl;have e0z:∀z:aI x5,z.1.cell? ⟨m,3,none⟩=some (ab aD M.gen):=fun z=>(HM5.out.row.below z.2).cell 3 _ rfl;have egz:∀z:aI x5,(aE 23 ⟨Bg,0,none⟩).run aj z.1=.ok (al M.g.v) z.1:=fun z=>cF (HG5.out.below z.2);have e12:∀z:aI x5,z.1.cell? ⟨m,12,none⟩=some (ab af M.at0):=fun z=>(HM5.out.row.below z.2).cell 12 _ rfl;have e13:∀z:aI x5,z.1.cell? ⟨m,13,none⟩=some (ab aD M.seq):=fun z=>(HM5.out.row.below z.2).cell 13 _ rfl;have esp:∀z:aI x5,(aE 196 ⟨m,12,none⟩).run aj z.1=.ok (al #[ab af M.at0,ab aD M.seq]) z.1:=fun z=>yC fun j v hj=>by
   match j,hj with
   | 0,hj=>simp at hj;rw[←hj];exact e12 z
   | 1,hj=>simp at hj;rw[←hj];exact e13 z
   | j+2,hj=>simp at hj
  go_wp2_with fail;refine cM (fun x=>∃y:aI x5,x=y.1) 13 (.takes [0,1,2,3,4,5,6,7,8,9,10] (.take 11 (.one 12 .leaf))) hmx (by kernel_rfl) (by intro c x v a w h;cases x<;>exact h) ⟨⟨x5.drew,(aF _ x5).drew⟩,rfl⟩ ?_;repeat(rw[bj];simp only[au,ay];go_big_quiet_step (fail);refine aO ?_)
  rw[bo];clear e0 e0z egz e12 e13 esp;rw[og];simp only[au,ay];refine ky _ _ rfl rfl [(0,ab aD (M.gen+1)),(1,al M.g.v),(2,al #[ab af M.at0,ab aD M.seq])] (al (cJ (M.gen+1) M.g M.at0 M.seq).toArray) rfl (fun z _=>xQ (M.gen+1) M.g M.at0 M.seq z) ?_;refine aO ?_;obtain⟨X,hX⟩:=w9nm x5.drew;have bX:ah x5.heap.size x5 X:=by rw[←hX];exact(aF _ x5).drew
  try rw[hX]
  obtain⟨x6,ST6,r6,hb6⟩:=nK X (C:=cJ (M.gen+1) M.g M.at0 M.seq) rfl (iZ _ _ _ _);have hsz:X.heap.size=x5.heap.size:=by rw[←hX];rfl
  have K6:w9h x5 x6:=bX.trans (hb6.mono (by omega));have bA:ah x5.heap.size x5 (X.alloc (ap fD.toArray 198)):=bX.trans ((aR X _).mono (by omega));obtain⟨Bs,hBs⟩:=w9nm X.heap.size;rw[hBs]at ST6 r6;have HS6:=ae r6;have HBS:Hid (x5.heap.size<=Bs):=by show _<=_;omega
  obtain⟨sc,hsc⟩:=w9nm ((cJ (M.gen+1) M.g M.at0 M.seq).toArray);have HSC:=ae hsc;rw[hsc]at ST6;rw[hsc];clear hb6 r6 hsz bX hsc;rw[aT];simp only[au,ay];go_wp2_with fail;refine aG ⟨⟨_,bA⟩,rfl⟩ ?_;rw[cu];simp only[be,bf];have hM6:=HM5.out.below K6.out;have c11:x6.cell? ⟨m,11,none⟩=some (ab af M.sup):=hM6.row.cell 11 _ rfl;obtain⟨ol,hol⟩:∃ol:Nat,1 - M.sup=ol:=⟨_,rfl⟩;have hol':(1:Int) - (M.sup:Int)=(ol:Int):=by omega
  have HOL:=ae hol;have d0:∀z:aI x6,z.1.cell? ⟨m,0,none⟩=some (ao (some ⟨rb,0,none⟩)):=fun z=>(hM6.row.below z.2).cell 0 _ rfl;have ds:∀z:aI x6,(aE 198 ⟨Bs,0,none⟩).run aj z.1=.ok (al sc) z.1:=fun z=>by rw[←HSC.out];exact(HS6.out.below z.2).sup
  have HSWR:Hid (∀x,az aj 133 #[ab af (ol:Int),al sc] x fun e w'=>e=ar (al (dS (ol,an (ev (M.gen+1) M.g M.at0 M.seq).bytes)).toArray)/\ah x.heap.size x w'):=fun x=>by
   rw[←HSC.out];exact ye ol HSIN.out x
  clear hM6 hol;go_wp2_with fail;clear ST6 c11;refine cM (fun x=>∃y:aI x6,x=y.1) 8 (.takes [0,1,2,3,4,5] (.one 6 (.one 7 .leaf))) hmx (by kernel_rfl) (by intro c x v a w h;cases x<;>exact h) ⟨⟨x6.drew,(aF _ x6).drew⟩,rfl⟩ ?_;repeat(rw[bj];simp only[au,ay];go_big_quiet_step (fail);refine aO ?_)
  rw[bo,aT];simp only[au,ay];clear d0 ds;go_wp2_with fail;go_at_call 133;refine(HSWR.out _).mono ?_;rintro e x7 ⟨rfl,hb⟩;have K7:w9h x6 x7:=((aF _ x6).drew).trans hb;have hbk:bx (an (ev (M.gen+1) M.g M.at0 M.seq).bytes):=dr (Sct.bytes_length (tk HSIN.out.gen _ _ _));have hwl:=kT (x:=(ol,an (ev (M.gen+1) M.g M.at0 M.seq).bytes)) hbk.length;have HSW2:Hid (cG M.supW= [dS (ol,an (ev (M.gen+1) M.g M.at0 M.seq).bytes)]):=by show _=_;rw[HSW.out,HOL.out];rfl
  obtain⟨wc,hwc⟩:=w9nm (dS (ol,an (ev (M.gen+1) M.g M.at0 M.seq).bytes));rw[hwc]at hwl HSW2;rw[hwc];obtain⟨x8,hx8⟩:=w9nm (x7.alloc (ap wc.toArray 207));have SB:(cO 199 1 #[(0,al wc.toArray)]).run aj x7=.ok (ag (some ⟨x7.heap.size,0,none⟩) 1 1) x8:=by rw[←hx8];exact pE x7 _ hwl
  have b8:ah x7.heap.size x7 x8:=by rw[←hx8];exact aR x7 _
  have K8:=w9bt K7 b8;have hO8:x8.ownsRow x7.heap.size 207 65 (ag (some ⟨x7.heap.size,0,none⟩) 1 1) (cG M.supW).length (cG M.supW).flatten:=by
   rw[HSW2.out];refine⟨by simp[hwl],aC ⟨x7.heap.size,1,wc.toArray,rfl,aJ _,by rw[←hx8];exact bR x7 _,by simp,by unfold aS;omega,by simp[hwl], ?_⟩⟩;simp;exact ey (by omega)
  have K58:w9b x5 x8:=K6.out.trans (K8.out.mono K6.out.size);have hR8:=(aX.isRes rb p0 p1 S1.1).below HR5.out K58;have hf8:∀g,(Value.slice (some ⟨x7.heap.size,0,none⟩) 1 1).ownBlock=some g->¬f5 g:=fun g e hf=>by
   have h1:x7.heap.size=g:=by simpa [fq]using e
   have h2:=(aX.isRes rb p0 p1 S1.1).lt HR5.out g hf;have h3:=K6.out.size;have h4:=K7.out.size;omega
  have HST:=ae (HSU.out x8 f5 _ x7.heap.size hR8 hO8 hf8);obtain⟨Bq,hBq⟩:=w9nm x7.heap.size;rw[hBq]at SB HST;clear hb hbk hwl hwc hx8 b8 hO8 hR8 hf8 HSU HSWR;go_wp2_with fail;refine aG ⟨⟨x7,K7.out⟩,rfl⟩ ?_;rw[aT];simp only[au,ay];refine dq _ _ _ rfl rfl [(0,al wc.toArray)] _ rfl SB ?_;clear SB;go_wp2_with fail;refine aG ⟨⟨x8,K8.out⟩,rfl⟩ ?_;rw[cu];simp only[be,bf];clear hBq;go_wp2_with fail;go_at_call 134;refine HST.out.mono ?_;rintro e x9 ⟨rfl,f9,hR9,hT9⟩;have hm8:=HM5.out.below K58;have hm9:MemAt m rb Bb cb Bh ch a q M x9:=hm8.keep (hT9.out m hm8.lt.1 (fun h=>(HD5.out m h).1 rfl)) (hT9.out Bb hm8.lt.2.1 (fun h=>(HD5.out Bb h).2.1 rfl)) (hT9.out Bh hm8.lt.2.2 (fun h=>(HD5.out Bh h).2.2.1 rfl));have hbp5:Bp<x5.heap.size:=(cj.1 HC5.out).1;have hbp8:Bp<x8.heap.size:=aU hbp5 K58.size;have hD9:∀k,f9 k->k≠m/\k≠Bb/\k≠Bh/\k≠Bp:=fun k hk=>by
   have hl:=hm8.lt;rcases hT9.new k hk with h1 | h1
   ·exact⟨(HD5.out k h1).1,(HD5.out k h1).2.1,(HD5.out k h1).2.2.1,(HD5.out k h1).2.2.2.1⟩
   ·exact⟨by omega,by omega,by omega,by omega⟩
  have hcur9:x9.heap[Bp]? =some (ap cur 205 (0,0)):=by
   rw[hT9.out Bp hbp8 (fun h=>(HD5.out Bp h).2.2.2.1 rfl),K58.block Bp hbp5];exact HC5.out
  have hpg9:PgsR x9 (ag (some ⟨Bp,0,none⟩) P cp) Bp (aM M.b):=(HP5.out.below K58).keep hT9.size (hT9.out Bp hbp8 (fun h=>(HD5.out Bp h).2.2.2.1 rfl));have HT9:Hid (Turn (fun k=>f1 k\/k=m\/k=Bb\/k=Bh) (fun k=>f9 k\/k=m\/k=Bb\/k=Bh) w x9):=HT5.out.trans ((Turn.of_below K58).trans (hT9.frame _));have HW9:Hid (∀k,k<x5.heap.size->¬f5 k->x9.heap[k]? =x5.heap[k]?):=fun k hk hn=>(hT9.out k (aU hk K58.size) hn).trans (K58.block k hk);have hbg9:aB x9 Bg 23 M.g.cs:=(HW9.out Bg HG5.out.lt (fun h=>(HD5.out Bg h).2.2.2.2 rfl)).trans HG5.out;have hbs9:aB x9 Bs 198 (cJ (M.gen+1) M.g M.at0 M.seq):=(hT9.out Bs (aU HS6.out.lt K8.out.size) (fun h=>by
   have h2:=(aX.isRes rb p0 p1 S1.1).lt HR5.out Bs h;have:=HBS.out;omega)).trans (HS6.out.below K8.out)
  have HM9:=ae hm9;have HR9:=ae hR9;have HD9:=ae hD9;have HC9:=ae hcur9;have HP9:=ae hpg9;have HG9:=ae hbg9;have HS9:=ae hbs9;have HWB:Hid (w.heap.size<=Bp):=HBP.out.1;clear hm8 hm9 hbp5 hbp8 hD9 hcur9 hpg9 hbg9 hbs9 hT9 hR9 HST K58 HW9;by_cases h2:S2.2=0
  ·rw[h2];have HRZ:Hid (RR.2=0/\RR.1=S2.1):=by refine(?_:_/\_);rw[HB2.out];exact⟨h2,rfl⟩
   clear hE2 h1 h2;have eg4:∀z:dB Bs Bg x9,z.1.cell? ⟨Bg,4,none⟩=some (ab af M.g.r):=fun z=>(cL (a:=⟨Bg,4,none⟩) z.2.2).trans (HG9.out.cell 4 _ rfl);have esz:∀z:dB Bs Bg x9,(aE 198 ⟨Bs,0,none⟩).run aj z.1=.ok (al sc) z.1:=fun z=>by
    rw[←HSC.out];exact aB.sup (t:= 198) (z.2.1.trans HS9.out)
   obtain⟨X,hX⟩:=w9nm x9.drew;have bX:ah x9.heap.size x9 X:=by rw[←hX];exact(aF _ x9).drew
   have hmBs:m≠Bs/\m≠Bg:=by
    have h1:=HM.out.lt;have h2:=HBP.out;have h3:=HBS.out;have h4:=HG5.out.lt;exact⟨by omega,by omega⟩
   have r0:=HM9.out.row.below bX;have c2:X.cell? ⟨m,2,none⟩=some (ag (some ⟨Bh,0,none⟩) M.home.length ch):=r0.cell 2 _ rfl;have f2:=r0.frozen 2;obtain⟨y1,hy1⟩:=w9nm (X.setCell ⟨m,2,none⟩ (ag (some ⟨Bp,0,none⟩) P cp));have r1:=r0.set 2 (ag (some ⟨Bp,0,none⟩) P cp);rw[hy1]at r1;have tS:y1.there m 3 8:=fy r1 3 8 (by simp[jo,cJ]);have STS:=xN (c:=cJ (M.gen+1) M.g M.at0 M.seq) tS rfl (iZ _ _ _ _);obtain⟨y2,hy2⟩:=w9nm (y1.setCells m 3 (cJ (M.gen+1) M.g M.at0 M.seq));rw[hy2,HSC.out]at STS;have r2:=aB.sets (cJ (M.gen+1) M.g M.at0 M.seq) 3 r1;rw[hy2]at r2;have c11:y2.cell? ⟨m,11,none⟩=some (ab af M.sup):=r2.cell 11 _ rfl;have f11:=r2.frozen 11;obtain⟨y3,hy3⟩:=w9nm (y2.setCell ⟨m,11,none⟩ (ab af ol));have r3:=r2.set 11 (ab af ol);rw[hy3]at r3;have c14:y3.cell? ⟨m,14,none⟩=some (ab af M.room):=r3.cell 14 _ rfl;have f14:=r3.frozen 14;obtain⟨y4,hy4⟩:=w9nm (y3.setCell ⟨m,14,none⟩ (ab af M.g.r));have r4:=r3.set 14 (ab af M.g.r);rw[hy4]at r4;have hrow:aB y4 m 213 (jo rb (ag (some ⟨Bb,0,none⟩) M.b.length cb) (ag (some ⟨Bp,0,none⟩) P cp) (M.gen+1) M.g M.at0 M.seq ol M.at0 M.seq M.g.r):=r4;have hk:∀k,k≠m->k<x9.heap.size->y4.heap[k]? =x9.heap[k]? :=fun k hk hl=>by
    have a1:y1.heap[k]? =X.heap[k]? :=by rw[←hy1];exact gc _ _ _ k hk
    have a2:y2.heap[k]? =y1.heap[k]? :=by rw[←hy2];exact li _ _ _ _ (by rw[←hy1,lw];exact aU hl bX.size) hk
    have a3:y3.heap[k]? =y2.heap[k]? :=by rw[←hy3];exact gc _ _ _ k hk
    have a4:y4.heap[k]? =y3.heap[k]? :=by rw[←hy4];exact gc _ _ _ k hk
    rw[a4,a3,a2,a1];exact bX.block k hl
   have hlt9:=HM9.out.lt;have hpl9:Bp<x9.heap.size:=(cj.1 HC9.out).1;have hne:m≠Bp/\Bb≠Bp:=by
    have h1:=HM.out.lt;have h2:=HWB.out;exact⟨by omega,by omega⟩
   have hM4:MemAt m rb Bb cb Bp cp (M.at0:Int) M.seq M.ckpt y4:=by
    have hbb:=hk Bb (fun e=>HM9.out.mb e.symm) hlt9.2.1;have hpp:=hk Bp (fun e=>hne.1 e.symm) hpl9;refine⟨?_,HM9.out.mb,hne.1,hne.2,HM9.out.b0,by show 0< (aM M.b).length;rw[HCL.out];omega,HM9.out.cbl, ?_,da HM9.out.bat hbb,⟨cur,_,hpp.trans HC9.out⟩,da HP9.out.at_ hpp⟩
    ·show aB y4 m _ (jo rb _ (ag _ (aM M.b).length cp) (M.gen+1) M.g M.at0 M.seq ((1 - M.sup:Nat):Int) M.at0 M.seq (M.g.r - ((0:Nat):Int)));rw[HCL.out,HOL.out,show M.g.r - ((0:Nat):Int)=M.g.r by omega];exact hrow
    ·obtain⟨c,t,e⟩:=HM9.out.cb';exact⟨c,t,hbb.trans e⟩
   have hR4:aX rb p0 p1 S2.1 y4 f9:=(aX.isRes rb p0 p1 S2.1).out HR9.out fun k hk'=>hk k (HD9.out k hk').1 ((aX.isRes rb p0 p1 S2.1).lt HR9.out k hk');have hT4:Turn (fun k=>f9 k\/k=m\/k=Bb\/k=Bh) (fun k=>f9 k\/k=m\/k=Bb\/k=Bh) x9 y4:=by
    refine(Turn.of_below bX).trans ?_;rw[←hy4,←hy3,←hy2,←hy1];exact(((jR _ m 2 _ (aC (aA rfl))).trans (yB (aC (aA rfl)) _ 3 _)).trans (jR _ m 11 _ (aC (aA rfl)))).trans (jR _ m 14 _ (aC (aA rfl)))
   have HTF:Hid (Turn (fun k=>f1 k\/k=m\/k=Bb\/k=Bh) (fun k=>f9 k\/k=m\/k=Bb\/k=Bp) w y4):=(HT9.out.trans hT4).less fun k hk=>by
    rcases hk with h | h | h | h
    ·exact aA (aA h)
    ·exact aA (aC (aA h))
    ·exact aA (aC (aC (aA h)))
    ·right;rw[h];exact HWB.out
   have HSEP:Hid (cS (aX rb p0 p1 S2.1) (fX m rb M.ckpt) y4 (fun k=>f9 k\/k=m\/k=Bb\/k=Bp)):=⟨f9,_,hR4,⟨Bb,cb,Bp,cp,M.at0,M.seq,hM4,rfl⟩,fun k hk h=>by
    have:=HD9.out k hk;rcases h with h | h | h
    ·exact this.1 h
    ·exact this.2.1 h
    ·exact this.2.2.2 h,rfl⟩
   have kX:X.heap[Bs]? =x9.heap[Bs]? /\X.heap[Bg]? =x9.heap[Bg]? :=⟨bX.block Bs HS9.out.lt,bX.block Bg HG9.out.lt⟩;have k1:y1.heap[Bs]? =x9.heap[Bs]? /\y1.heap[Bg]? =x9.heap[Bg]? :=by rw[←hy1];exact⟨(gc _ _ _ _ (fun e=>hmBs.1 e.symm)).trans kX.1,(gc _ _ _ _ (fun e=>hmBs.2 e.symm)).trans kX.2⟩
   have l1:Bs<y1.heap.size/\Bg<y1.heap.size:=by rw[←hy1,lw];exact⟨aU HS9.out.lt bX.size,aU HG9.out.lt bX.size⟩
   have k2:y2.heap[Bs]? =x9.heap[Bs]? /\y2.heap[Bg]? =x9.heap[Bg]? :=by rw[←hy2];exact⟨(li _ _ _ _ l1.1 (fun e=>hmBs.1 e.symm)).trans k1.1,(li _ _ _ _ l1.2 (fun e=>hmBs.2 e.symm)).trans k1.2⟩
   have k3:y3.heap[Bs]? =x9.heap[Bs]? /\y3.heap[Bg]? =x9.heap[Bg]? :=by rw[←hy3];exact⟨(gc _ _ _ _ (fun e=>hmBs.1 e.symm)).trans k2.1,(gc _ _ _ _ (fun e=>hmBs.2 e.symm)).trans k2.2⟩
   clear r0 r1 r2 r3 r4 tS bX hrow hk hlt9 hpl9 hne hM4 hR4 hT4 hmBs l1;go_wp2_with fail;refine cM (fun x=>∃y:dB Bs Bg x9,x=y.1) 20 (.takes [0,1,2,3,4,5,6,7,8,9,10] (.one 11 (.takes [12,13] (.one 14 (.takes [15,16] (.one 17 (.takes [18,19] .leaf))))))) hmx (by kernel_rfl) (by intro c x v a w h;cases x<;>exact h) ⟨⟨x9.drew,rfl,rfl⟩,rfl⟩ ?_;repeat(rw[bj];simp only[au,ay];go_big_quiet_step (fail);refine aO ?_)
   rw[bo,aT];simp only[au,ay];try rw[hX]
   go_wp2_with fail;refine aG ⟨⟨y1,k1⟩,rfl⟩ ?_;repeat(rw[bj];simp only[au,ay];go_big_quiet_step (fail);refine aO ?_)
   rw[bo,aT];simp only[au,ay];clear hX hy1 c2 f2;go_wp2_with fail;refine aG ⟨⟨y2,k2⟩,rfl⟩ ?_;repeat(rw[bj];simp only[au,ay];go_big_quiet_step (fail);refine aO ?_)
   rw[bo,aT];simp only[au,ay];clear STS;go_wp2_with fail;refine aG ⟨⟨y3,k3⟩,rfl⟩ ?_;repeat(rw[bj];simp only[au,ay];go_big_quiet_step (fail);refine aO ?_)
   rw[bo,cu];simp only[be,bf];clear eg4 esz hy3;go_wp2_with fail;go_ret;rw[←HPO.out,if_pos HRZ.out.1,←HER.out,HRZ.out.1,HRZ.out.2];exact⟨rfl,_,HSEP.out,HTF.out⟩
  ·have h14:S2.2=14:=hE2.resolve_left h2;have HRZ:Hid (RR.2=14/\RR.1=S2.1):=by refine(?_:_/\_);rw[HB2.out];exact⟨h14,rfl⟩
   rw[h14];have HTF:Hid (Turn (fun k=>f1 k\/k=m\/k=Bb\/k=Bh) f9 w x9):=HT9.out.less fun k hk=>aA (aA hk);clear hE2 h1 h2 h14;go_wp2_with fail;go_ret;rw[←HPO.out,if_neg (by rw[HRZ.out.1];omega),←HER.out,HRZ.out.1,HRZ.out.2];exact⟨rfl,_,HR9.out,HTF.out⟩
 ·have h14:S1.2=14:=k5.resolve_left h1;have HRZ:Hid (RR.2=14/\RR.1=S1.1):=by refine(?_:_/\_);rw[HBAT.out,if_neg h1];exact⟨h14,rfl⟩
  rw[h14];have HTF:Hid (Turn (fun k=>f1 k\/k=m\/k=Bb\/k=Bh) f5 w x5):=HT5.out.less fun k hk=>aA (aA hk);clear k5 h1 h14;go_wp2_with fail;go_ret;rw[←HPO.out,if_neg (by rw[HRZ.out.1];omega),←HER.out,HRZ.out.1,HRZ.out.2];exact⟨rfl,_,HR5.out,HTF.out⟩
end
end
section
attribute [-simp] isAgg51 zeroValue51 isAgg205 zeroValue205 isAgg23 zeroValue23 isAgg29 zeroValue29 isAgg112 zeroValue112 isAgg254 zeroValue254
attribute [-go_sem] aE aL cZ
attribute [local go_sem] bC bD cV iR jZ iQ mF mG
def mC (rp:am) (g:Geo) (bv hv:am) (gen sup a q used:Int):List am:= [rp,ab af g.b,ab af g.s,ab af g.y,ab af g.a,ab af g.r,bv,hv,ab aD gen,ab af sup,ab af a,ab aD q,ab af used]
def eR:List am:=mC (ao none) ⟨0,0,0,0,0⟩ (ag none 0 0) (ag none 0 0) 0 0 0 0 0
theorem qf {rp bv hv:am} (h1:rp.oneCell'=true) (h2:bv.oneCell'=true) (h3:hv.oneCell'=true) (g:Geo) (gen sup a q used:Int):∀v ∈ mC rp g bv hv gen sup a q used,v.oneCell'=true:=by
 intro v hv;simp only[mC,ec,List.not_mem_nil,or_false]at hv;rcases hv with rfl | rfl | rfl | rfl | rfl | rfl | rfl | rfl | rfl | rfl | rfl | rfl | rfl<;>first | rfl | assumption
section
theorem tx:(aj.info? 112).map (·.size)=some 13:=by kernel_rfl
theorem nL (w:ak):(zeroValue 112).run aj w=.ok (al eR.toArray) w:=by kernel_rfl
theorem lU (w:ak):(cY 112 #[]).run aj w=.ok (al eR.toArray) w:=by kernel_rfl
theorem tz (rq:Nat) (gen i a q:Int) (w:ak):(cY 112 #[(0,ao (some ⟨rq,0,none⟩)),(4,ab aD gen),(5,ab af i),(6,ab af a),(7,ab aD q)]).run aj w=.ok (al (mC (ao (some ⟨rq,0,none⟩)) ⟨0,0,0,0,0⟩ (ag none 0 0) (ag none 0 0) gen i a q 0).toArray) w:=by kernel_rfl
set_option maxRecDepth 100000 in
theorem qg {x:ak} {B:Nat} {t:aV} {C:List am} (h:aB x B t C) (hl:C.length=13):(aE 112 ⟨B,0,none⟩).run aj x=.ok (al C.toArray) x:=
 iL x B 0 _ C _ h.range Tryz.underlying112 rfl (by rw[hl];exact tx)
theorem qh (x:ak) {C:List am} (hl:C.length=13) (h1:∀v ∈ C,v.oneCell'=true):∃y,(aL 112 ⟨x.heap.size,0,none⟩ (al C.toArray)).run aj (x.alloc (ap eR.toArray 112))=.ok () y/\aB y x.heap.size 112 C/\ah x.heap.size x y:=
 ⟨_,iU x _ _ C.toArray (by simpa [hl]using tx) (by simp[hl,eR,mC]) (gD h1),aB.new x _ _,aR x _⟩
theorem yD {x:ak} {B:Nat} {old C:List am} (h:aB x B 112 old) (ho:old.length=13) (hl:C.length=13) (h1:∀v ∈ C,v.oneCell'=true):
  ∃y,(aL 112 ⟨B,0,none⟩ (al C.toArray)).run aj x=.ok () y/\aB y B 112 C/\x.grownBy y (some B):=by
 refine⟨_,run_storeVar_row x B _ _ old.toArray C.toArray h (by simpa [hl]using tx) (by simp[ho,hl]) (gD h1),setRow_heap x B _ _ _ _ h, ?_⟩;exact⟨rfl,rfl,rfl,by rw[setRow_size];exact aJ _,fun k _ hk=>setRow_other x B k _ (fun e=>hk (by rw[e]))⟩
theorem nM {x:ak} {B:Nat} {t:aV} {rp bv hv:am} {g:Geo} {gen sup a q used:Int} (h:aB x B t (mC rp g bv hv gen sup a q used)):(aE 23 ⟨B,1,none⟩).run aj x=.ok (al g.v) x:=
 sS fun j v hj=>h.cell (1+j) v (by
  match j,hj with
  | 0,hj=>exact hj
  | 1,hj=>exact hj
  | 2,hj=>exact hj
  | 3,hj=>exact hj
  | 4,hj=>exact hj
  | j+5,hj=>simp at hj)
theorem FB {x:ak} {B:Nat} {t:aV} {rp bv hv:am} {g0 g:Geo} {gen sup a q used:Int} (h:aB x B t (mC rp g0 bv hv gen sup a q used)):
  ∃y,(aL 23 ⟨B,1,none⟩ (al g.v)).run aj x=.ok () y/\aB y B t (mC rp g bv hv gen sup a q used)/\x.grownBy y (some B):=by
 have ht:x.there B 1 5:=fy h 1 5 (by simp[mC]);have:=run_storeVar_mid (P:=aj) x B 1 23 g.cs.toArray (by simpa [Geo.cs]using ht) (by simpa [Geo.cs]using xP) (gD (by intro v hv;simp only[Geo.cs,ec,List.not_mem_nil,or_false]at hv;rcases hv with rfl | rfl | rfl | rfl | rfl<;>rfl));refine⟨x.setCells B 1 g.cs,this, ?_, ?_⟩
 ·have:=aB.sets g.cs 1 h;exact this
 ·have hb:=kJ (b:=B) (aJ B) g.cs 1 x;exact⟨hb.os,hb.tape,hb.output,hb.size,fun k hlt hk=>li _ _ _ _ hlt (fun e=>hk (by rw[e]))⟩
theorem FC (b s y a r:Int) (w:ak):(cY 23 #[(0,ab af b),(1,ab af s),(2,ab af y),(3,ab af a),(4,ab af r)]).run aj w=.ok (al (Geo.mk b s y a r).v) w:=by kernel_rfl
theorem FD (w:ak):(cO 109 1 #[(0,al dR.toArray)]).run aj w=.ok (ag (some ⟨w.heap.size,0,none⟩) 1 1) (w.alloc (ap dR.toArray 205)):=by kernel_rfl
end
attribute [local go_sem] nL
theorem qi {bs:List Int} (h:aP bs) (hl:bs.length=2):0<=cy bs/\cy bs<65536:=by
 have:=kE bs h 2;unfold cy;rw[hl];exact this
theorem FE {bs:List Int} (h:aP bs) (hl:bs.length=4):0<=cy bs/\cy bs<4294967296:=by
 have:=kE bs h 4;unfold cy;rw[hl];exact this
theorem FF {x:ak} {B:Nat} {t:aV} {p:Sct} (h:aB x B t p.cells) (hp:p.body.length=48) (k n c:Nat) (hkn:k+n<=48) (hnc:n<=c) (hc:c<=48):Sl aq x (ag (some ⟨B,3+k,none⟩) n c) ((p.body.drop k).take n):=by
 have hl:((p.body.drop k).take n).length=n:=by rw[fd,dx];omega
 have:=Sl.at (k:=aq) (w:=x) (b:=B) (off:=3+k) (cap:=c) (bs:=(p.body.drop k).take n) (by rw[hl];exact hnc) (by unfold aS;omega) h.lt fun j hj=>by
  rw[hl]at hj;rw[l9 _ _ _ hj,l6];refine h.cell (3+k+j) _ ?_;show(Value.int aq p.mark:: ab aD p.seq:: ab af p.index::an p.body)[3+k+j]? =_;rw[show 3+k+j=(k+j)+1+1+1 by omega,kC,kC,kC];unfold an;rw[du,bJ (by omega)]
  rfl
 rwa [hl]at this
theorem FG {w W y:ak} (hW:w.alloc (ap eR.toArray 112)=W) (hb:w9b W y) {C:List am} (hl:C.length=13) (h1:∀v ∈ C,v.oneCell'=true):
  ∃z,(aL 112 ⟨w.heap.size,0,none⟩ (al C.toArray)).run aj y=.ok () z/\Hid ((aE 112 ⟨w.heap.size,0,none⟩).run aj z=.ok (al C.toArray) z)/\Hid (ah w.heap.size w z):=by
 have bW:ah w.heap.size w W:=by rw[←hW];exact aR w _
 have rW:aB W w.heap.size 112 eR:=by rw[←hW];exact aB.new w _ _
 obtain⟨z,ST,rz,gz⟩:=yD (rW.below hb) rfl hl h1;exact⟨z,ST,qg rz hl,(bW.trans (hb.mono bW.size)).grown gz (bW.trans (hb.mono bW.size)).size (fun k e=>by cases e;exact aJ _)⟩
theorem kW:∀v ∈ eR,v.oneCell'=true:=qf rfl rfl rfl _ _ _ _ _ _
theorem bG.rd0 {rq q0 q1:Nat} {S:RS} {w:ak} {f:Nat->Prop} (h:bG rq q0 q1 S w f) (hby:S.Byt) (hup:S.down=false) {i:Nat} (hi:i<S.n0):
  az aj 162 #[ao (some ⟨rq,0,none⟩),ab af 0,ab af (i:Int)] w fun e w'=>e=ar (aQ #[al (an (S.rd i)).toArray,ab af 0])/\ah w.heap.size w w':=by
 have hh:=h.read 0 (i:Int);have e1:S.read 0 (i:Int)=an (S.rd i):=by
  unfold RS.read;rw[if_pos ⟨RS.has0 hi,hup⟩];unfold RS.look;rw[if_pos rfl];exact(hby i hi).2.2
 have e2:S.readE 0 (i:Int)=0:=by
  unfold RS.readE;rw[if_pos (RS.has0 hi),if_neg (by rw[hup];simp)]
 rw[e1,e2]at hh;exact hh
def nN (rq i:Nat) (o:Option Sup) (C:List am):Prop:=match o with
 | none=>C=eR
 | some x=>∃hb,C=mC (ao (some ⟨rq,0,none⟩)) x.g (ag none 0 0) (ag (some ⟨hb,0,none⟩) 1 1) x.gen i x.a x.q 0
section
theorem yE {rq q0 q1:Nat} {S:RS} {w:ak} {f:Nat->Prop} (h:bG rq q0 q1 S w f) (hby:S.Byt) (hup:S.down=false) {i:Nat} (hi:i<S.n0) (hi1:i<=1):
  az aj 161 #[ao (some ⟨rq,0,none⟩),ab af (i:Int)] w fun e w'=>(∃C,e=ar (aQ #[al C.toArray,ab af 0])/\nN rq i (S.supAt i) C)/\ah w.heap.size w w':=by
 have hmx:=w9x
 obtain⟨rb1,rb2,_⟩:=hby i hi;obtain⟨bs,hbs⟩:=w9nm (S.rd i);have hat:S.supAt i=eo S.n0 S.n1 bs:=by unfold RS.supAt;rw[if_pos hi,hbs]
 rw[hat];rw[hbs]at rb1 rb2;obtain⟨W,hW⟩:=w9nm (w.alloc (ap eR.toArray 112));have bW:ah w.heap.size w W:=by rw[←hW];exact aR w _
 have HQ:=ae ((bG.isRes rq q0 q1 S).below h bW);have HR:=ae (HQ.out.rd0 hby hup hi);rw[hbs]at HR;have HW:=ae hW;have HN:Hid (∀y,w9b W y->∀C:List am,C.length=13->(∀v ∈ C,v.oneCell'=true)->∃z,(aL 112 ⟨w.heap.size,0,none⟩ (al C.toArray)).run aj y=.ok () z/\Hid ((aE 112 ⟨w.heap.size,0,none⟩).run aj z=.ok (al C.toArray) z)/\w9h w z):=
  fun y hb C hl h1=>FG hW hb hl h1
 have hbk:bx (an bs):=dr rb2;have HD:=fun x=>ae (rD bs rb1 rb2 x);have HBK:=ae hbk;have hok:=jg rb1 rb2;have HOK:=ae hok;have HRB:=ae rb1;have hdl:(cN bs).body.length=48:=by unfold cN;split;exact hok.len;simp[kH]
 have HDL:=ae hdl;clear h hby hup hbs hat bW rb1 hbk hok hdl rb2;go_enter func161,ntmps161;go_wp2_with fail;go_at_call 162;refine HR.out.mono ?_;rintro e x1 ⟨rfl,hb1⟩;obtain⟨y1,ST1,ry1,by1⟩:=ib x1 HBK.out;have LD1:=dd ry1.range HBK.out.length;have B1:w9h W y1:=hb1.trans (by1.mono hb1.size);clear hb1 ry1 by1 HR;go_wp2_with fail;go_at_call 163;refine(HD y1).out.mono ?_;rintro e x2 ⟨rfl,hb2⟩;obtain⟨y2,ST2,ry2,by2⟩:=nl x2 (cN bs) HDL.out;have B2:w9h W y2:=B1.out.trans ((hb2.trans (by2.mono hb2.size)).mono B1.out.size);obtain⟨B8,hB8⟩:=w9nm x2.heap.size;rw[hB8]at ry2 ST2;have m0:y2.cell? ⟨B8,0,none⟩=some (ab aq (cN bs).mark):=ry2.cell 0 _ rfl;have m2:y2.cell? ⟨B8,2,none⟩=some (ab af (cN bs).index):=ry2.cell 2 _ rfl;have R8:=ae ry2;clear hb2 by2 ry2 HD LD1 ST1;obtain⟨dE,hdE⟩:=w9nm (fI bs);rw[hdE];by_cases hd:dF bs=true
 ·have e0:dE=0:=by rw[←hdE];unfold fI;rw[if_pos hd]
  subst e0;have eS:cN bs=Sct.of bs:=by unfold cN;rw[if_pos hd]
  rw[eS]at m0 m2 R8 ST2 ⊢;by_cases hm:(Sct.of bs).mark=83
  ·by_cases hx:(Sct.of bs).index=0
   ·skip
    rw[hm]at m0;rw[hx]at m2;have hxl:=HOK.out.len;have hxb:=HOK.out.bytes;have hsq:cH (Sct.of bs).seq:=HOK.out.seq;obtain⟨xb,hxe⟩:=w9nm ((Sct.of bs).body);obtain⟨gen,hge⟩:=w9nm ((Sct.of bs).seq);rw[hxe]at hxl hxb;rw[hge]at hsq;have m1:y2.cell? ⟨B8,1,none⟩=some (ab aD gen):=by rw[←hge];exact R8.out.cell 1 _ rfl
    have HSL:Hid (∀z,w9b y2 z->∀k n c:Nat,k+n<=48->n<=c->c<=48->Sl aq z (ag (some ⟨B8,3+k,none⟩) n c) ((xb.drop k).take n)):=fun z hz k n c h1 h2 h3=>by rw[←hxe];exact FF (R8.out.below hz) (by rw[hxe];exact hxl) k n c h1 h2 h3
    have LB:∀z:aI y2,(aE 205 ⟨B8,3,none⟩).run aj z.1=.ok (al (an xb).toArray) z.1:=fun z=>by
     have:=jO (a:= [ab aq (Sct.of bs).mark,ab aD (Sct.of bs).seq,ab af (Sct.of bs).index]) (b:=an (Sct.of bs).body) (R8.out.below z.2);rw[hxe]at this;exact iH this (by rw[bi,hxl])
    have c6:∀z:aI y2,z.1.cell? ⟨B8,9,none⟩=some (ab aq (xb[6]?.getD 0)):=fun z=>(R8.out.below z.2).cell 9 _ (by show(Value.int aq _:: ab aD _:: ab af _::an (Sct.of bs).body)[9]? =_;rw[hxe];show(an xb)[6]? =_;unfold an;rw[du,bJ (by omega)];rfl);have c7:∀z:aI y2,z.1.cell? ⟨B8,10,none⟩=some (ab aq (xb[7]?.getD 0)):=fun z=>(R8.out.below z.2).cell 10 _ (by show(Value.int aq _:: ab aD _:: ab af _::an (Sct.of bs).body)[10]? =_;rw[hxe];show(an xb)[7]? =_;unfold an;rw[du,bJ (by omega)];rfl);have c1:∀z:aI y2,z.1.cell? ⟨B8,1,none⟩=some (ab aD gen):=fun z=>(z.cell (p:=⟨B8,1,none⟩) R8.out.lt).trans m1;have hcut:∀k n:Nat,k+n<=48->aP ((xb.drop k).take n)/\((xb.drop k).take n).length=n:=fun k n h=>⟨hxb.cut k n,by rw[fd,dx];omega⟩;have bqa:=qi (hcut 12 2 (by omega)).1 (hcut 12 2 (by omega)).2;obtain⟨qa,hqa⟩:=w9nm (cy ((xb.drop 12).take 2));rw[hqa]at bqa;have Gqa:Hid (∀z,w9b y2 z->az aj 238 #[ag (some ⟨B8,15,none⟩) 2 36] z fun e w'=>e=ar (ab .u64 qa)/\w'=z):=fun z hz=>by have:=lC _ _ z (HSL.out z hz 12 2 36 (by omega) (by omega) (by omega)) (hcut 12 2 (by omega)).1;rwa [hqa]at this
    have bqq:=FE (hcut 14 4 (by omega)).1 (hcut 14 4 (by omega)).2;obtain⟨qq,hqq⟩:=w9nm (cy ((xb.drop 14).take 4));rw[hqq]at bqq;have Gqq:Hid (∀z,w9b y2 z->az aj 238 #[ag (some ⟨B8,17,none⟩) 4 34] z fun e w'=>e=ar (ab .u64 qq)/\w'=z):=fun z hz=>by have:=lC _ _ z (HSL.out z hz 14 4 34 (by omega) (by omega) (by omega)) (hcut 14 4 (by omega)).1;rwa [hqq]at this
    have bgb:=qi (hcut 4 2 (by omega)).1 (hcut 4 2 (by omega)).2;obtain⟨gb,hgb⟩:=w9nm (cy ((xb.drop 4).take 2));rw[hgb]at bgb;have Ggb:Hid (∀z,w9b y2 z->az aj 238 #[ag (some ⟨B8,7,none⟩) 2 44] z fun e w'=>e=ar (ab .u64 gb)/\w'=z):=fun z hz=>by have:=lC _ _ z (HSL.out z hz 4 2 44 (by omega) (by omega) (by omega)) (hcut 4 2 (by omega)).1;rwa [hgb]at this
    have bga:=qi (hcut 8 2 (by omega)).1 (hcut 8 2 (by omega)).2;obtain⟨ga,hga⟩:=w9nm (cy ((xb.drop 8).take 2));rw[hga]at bga;have Gga:Hid (∀z,w9b y2 z->az aj 238 #[ag (some ⟨B8,11,none⟩) 2 40] z fun e w'=>e=ar (ab .u64 ga)/\w'=z):=fun z hz=>by have:=lC _ _ z (HSL.out z hz 8 2 40 (by omega) (by omega) (by omega)) (hcut 8 2 (by omega)).1;rwa [hga]at this
    have bgr:=qi (hcut 10 2 (by omega)).1 (hcut 10 2 (by omega)).2;obtain⟨gr,hgr⟩:=w9nm (cy ((xb.drop 10).take 2));rw[hgr]at bgr;have Ggr:Hid (∀z,w9b y2 z->az aj 238 #[ag (some ⟨B8,13,none⟩) 2 38] z fun e w'=>e=ar (ab .u64 gr)/\w'=z):=fun z hz=>by have:=lC _ _ z (HSL.out z hz 10 2 38 (by omega) (by omega) (by omega)) (hcut 10 2 (by omega)).1;rwa [hgr]at this
    have bgs:=hxb 6;have bgy:=hxb 7;obtain⟨gs,hgs⟩:=w9nm (xb[6]?.getD 0);obtain⟨gy,hgy⟩:=w9nm (xb[7]?.getD 0);rw[hgs]at bgs c6;rw[hgy]at bgy c7;have HG:Hid (fV xb=⟨gb,gs,gy,ga,gr⟩/\fA xb=qa/\fW xb=qq):=by refine(?_:_/\_);unfold fV fA fW;rw[hgb,hgs,hgy,hga,hgr,hqa,hqq];exact⟨rfl,rfl,rfl⟩
    have HSUP:Hid (SupIn gen ⟨gb,gs,gy,ga,gr⟩ qa qq):=⟨hsq,bgb,bgs,bgy,bga,bgr,bqa,bqq⟩;have HXE:=ae hxe;have HGE:=ae hge;have HD0:=ae hd;have HM0:=ae hm;have HX0:=ae hx;have hbq:0<=qq/\qq<4294967296:=bqq;have hbg:0<=gen/\gen<4294967296:=hsq;have HXL:=ae hxl;clear hcut hqa hqq hgb hga hgr hgs hgy hsq hxe hge hd hm hx eS hxl hxb hdE m1;go_wp2_with fail;obtain⟨MC,hMC⟩:=w9nm (mC (ao (some ⟨rq,0,none⟩)) ⟨0,0,0,0,0⟩ (ag none 0 0) (ag none 0 0) gen i qa qq 0);have hML:MC.length=13/\∀v ∈ MC,v.oneCell'=true:=by rw[←hMC];exact⟨rfl,qf rfl rfl rfl _ _ _ _ _ _⟩
    obtain⟨y3,ST3,r3,b3⟩:=qh y2.drew hML.1 hML.2;obtain⟨B9,hB9⟩:=w9nm y2.drew.heap.size;have HB9:Hid (y2.heap.size<=B9):=by rw[←hB9];exact aJ _
    rw[hB9]at ST3 r3;rw[show y2.drew.alloc (ap eR.toArray 112)=(y2.alloc (ap eR.toArray 112)).drew from rfl]at ST3;have HB3:w9h y2 y3:=(aF _ y2).drew.trans b3;have HA3:Hid (ah y2.heap.size y2 (y2.drew.alloc (ap eR.toArray 112))):=(aF _ y2).drew.alloc (aJ _) _;rw[←hMC]at r3;have R9:=ae r3;have HMC:=ae hMC;clear b3 hML hMC r3;refine cM (fun x=>∃z:aI y2,x=z.1) 14 (.takes [0,1,2,3,4,5,8,9] (.two 6 13 (.takes [7] (.two 10 13 (.takes [11,12] (.one 13 .leaf)) (.one 10 (.takes [11,12] .leaf)))) (.one 6 (.takes [7] (.one 10 (.takes [11,12] .leaf)))))) hmx (by kernel_rfl) (by intro c x v a w h;cases x<;>exact h) ⟨⟨y2.drew,(aF _ y2).drew⟩,rfl⟩ ?_;repeat(rw[bj];simp only[au,ay];go_big_quiet_step (fail);try(with_reducible refine aO ?_))
    rw[bo]
    refine' fE (ι:=Unit) .leaf (fun _=>_) (fun _ x=>x=(y2.alloc (ap eR.toArray 112)).drew) _ _
    rotate_left 2
    ·intro H1;rw[ii];simp only[au,ay];refine⟨?_, ?_⟩
     ·skip
      go_wp2_with fail;go_at_call 238;refine(Gqa.out _ (aF y2.heap.size y2).drew).mono ?_;rintro e w9 ⟨rfl,hw9⟩;obtain rfl:=hw9.symm;clear hw9;go_wp2_with fail;refine aG ⟨⟨y2.drew,(aF y2.heap.size y2).drew⟩,rfl⟩ ?_;repeat(rw[bj];simp only[au,ay];go_big_quiet_step (fail);try(with_reducible refine aO ?_))
      rw[bo];rw[ii];simp only[au,ay];refine⟨?_, ?_⟩
      ·skip
       go_wp2_with fail;go_at_call 238;refine(Gqq.out _ (aF y2.heap.size y2).drew).mono ?_;rintro e w9 ⟨rfl,hw9⟩;obtain rfl:=hw9.symm;clear hw9;go_wp2_with fail;refine aG ⟨⟨y2.drew,(aF y2.heap.size y2).drew⟩,rfl⟩ ?_;rw[bj];simp only[au,ay]
       go_big_quiet_step (fail)
       refine aO ?_;rw[bj];simp only[au,ay];refine ky _ _ rfl rfl [(0,ao (some ⟨rq,0,none⟩)),(4,ab aD gen),(5,ab af (i:Int)),(6,ab af qa),(7,ab aD qq)] _ rfl (fun z _=>tz rq gen i qa qq z) ?_;refine aO ?_;rw[HMC.out,bo];rw[aT];simp only[au,ay];go_wp2_with fail;refine aG ⟨⟨_,HA3.out⟩,rfl⟩ ?_;exact H1 () _ rfl
      ·skip
       go_wp2_with fail;refine aG ⟨⟨_,HA3.out⟩,rfl⟩ ?_;rw[aT];simp only[au,ay];go_wp2_with fail;go_at_call 238;refine(Gqq.out _ HA3.out).mono ?_;rintro e w9 ⟨rfl,hw9⟩;obtain rfl:=hw9.symm;clear hw9;go_wp2_with fail;refine aG ⟨⟨_,HA3.out⟩,rfl⟩ ?_;rw[bj];simp only[au,ay]
       go_big_quiet_step (fail)
       refine aO ?_;rw[bj];simp only[au,ay];refine ky _ _ rfl rfl [(0,ao (some ⟨rq,0,none⟩)),(4,ab aD gen),(5,ab af (i:Int)),(6,ab af qa),(7,ab aD qq)] _ rfl (fun z _=>tz rq gen i qa qq z) ?_;refine aO ?_;rw[HMC.out,bo];exact H1 () _ rfl
     ·skip
      go_wp2_with fail;refine aG ⟨⟨_,HA3.out⟩,rfl⟩ ?_;rw[aT];simp only[au,ay];go_wp2_with fail;go_at_call 238;refine(Gqa.out _ HA3.out).mono ?_;rintro e w9 ⟨rfl,hw9⟩;obtain rfl:=hw9.symm;clear hw9;go_wp2_with fail;refine aG ⟨⟨_,HA3.out⟩,rfl⟩ ?_;repeat(rw[bj];simp only[au,ay];go_big_quiet_step (fail);try(with_reducible refine aO ?_))
      rw[bo];rw[aT];simp only[au,ay];go_wp2_with fail;go_at_call 238;refine(Gqq.out _ HA3.out).mono ?_;rintro e w9 ⟨rfl,hw9⟩;obtain rfl:=hw9.symm;clear hw9;go_wp2_with fail;refine aG ⟨⟨_,HA3.out⟩,rfl⟩ ?_;rw[bj];simp only[au,ay]
      go_big_quiet_step (fail)
      refine aO ?_;rw[bj];simp only[au,ay];refine ky _ _ rfl rfl [(0,ao (some ⟨rq,0,none⟩)),(4,ab aD gen),(5,ab af (i:Int)),(6,ab af qa),(7,ab aD qq)] _ rfl (fun z _=>tz rq gen i qa qq z) ?_;refine aO ?_;rw[HMC.out,bo];exact H1 () _ rfl
    intro _ x hx;subst x;rw[cu];simp only[be,bf];go_wp2_with fail;clear HA3 hB9 HMC;have C1:∀z:aI y3,z.1.cell? ⟨B8,9,none⟩=some (ab aq gs):=fun z=>c6 ⟨z.1,HB3.out.trans (z.2.mono HB3.out.size)⟩;have C2:∀z:aI y3,z.1.cell? ⟨B8,10,none⟩=some (ab aq gy):=fun z=>c7 ⟨z.1,HB3.out.trans (z.2.mono HB3.out.size)⟩;clear c1 c6 c7 m0 m2;refine cM (fun x=>∃z:aI y3,x=z.1) 22 (.takes [0,1,4,5,6,7,8,9,10,11,12,13,16,17] (.one 2 (.takes [3] (.one 14 (.takes [15] (.one 18 (.takes [19,20,21] .leaf))))))) hmx (by kernel_rfl) (by intro c x v a w h;cases x<;>exact h) ⟨⟨y3.drew,(aF _ y3).drew⟩,rfl⟩ ?_;repeat(rw[bj];simp only[au,ay];go_big_quiet_step (fail);try(with_reducible refine aO ?_))
    rw[bo,aT];simp only[au,ay];go_wp2_with fail;go_at_call 238;refine(Ggb.out _ HB3.out.drew).mono ?_;rintro e w9 ⟨rfl,hw9⟩;obtain rfl:=hw9.symm;clear hw9;go_wp2_with fail;refine aG ⟨⟨y3.drew,(aF _ y3).drew⟩,rfl⟩ ?_;repeat(rw[bj];simp only[au,ay];go_big_quiet_step (fail);try(with_reducible refine aO ?_))
    rw[bo,aT];simp only[au,ay];go_wp2_with fail;go_at_call 238;refine(Gga.out _ HB3.out.drew).mono ?_;rintro e w9 ⟨rfl,hw9⟩;obtain rfl:=hw9.symm;clear hw9;go_wp2_with fail;refine aG ⟨⟨y3.drew,(aF _ y3).drew⟩,rfl⟩ ?_;repeat(rw[bj];simp only[au,ay];go_big_quiet_step (fail);try(with_reducible refine aO ?_))
    rw[bo,aT];simp only[au,ay];go_wp2_with fail;go_at_call 238;refine(Ggr.out _ HB3.out.drew).mono ?_;rintro e w9 ⟨rfl,hw9⟩;obtain rfl:=hw9.symm;clear hw9;go_wp2_with fail;refine aG ⟨⟨y3.drew,(aF _ y3).drew⟩,rfl⟩ ?_;rw[bj];simp only[au,ay]
    go_big_quiet_step (fail)
    refine aO ?_;rw[bj];simp only[au,ay];refine ky _ _ rfl rfl [(0,ab af gb),(1,ab af gs),(2,ab af gy),(3,ab af ga),(4,ab af gr)] _ rfl (fun z _=>FC gb gs gy ga gr z) ?_;refine aO ?_;rw[bj];simp only[au,ay];simp only[Act.put,List.setIfInBounds_toArray,List.set_cons_succ,List.set_cons_zero]
    go_big_quiet_step (fail)
    try(with_reducible refine aO ?_)
    rw[bo,cu];simp only[be,bf];obtain⟨y4,ST4,r4,g4⟩:=FB (g:=⟨gb,gs,gy,ga,gr⟩) (show aB y3.drew B9 _ _ from R9.out);have HB4:w9h y2 y4:=HB3.out.drew.grown g4 HB3.out.size (fun k e=>by cases e;exact HB9.out);go_wp2_with fail;clear C1 C2 g4 ST3 ST2;obtain⟨geo,hgeo⟩:∃g:Geo,Geo.mk gb gs gy ga gr=g:=⟨_,rfl⟩;have HGE5:Hid (geo.r=gr):=by rw[←hgeo];exact rfl
    rw[hgeo]at HG HSUP r4;try rw[hgeo]at ST4
    try rw[hgeo]
    have HR4:=ae r4
    skip
    have LG:∀z:aI y4,(aE 23 ⟨B9,1,none⟩).run aj z.1=.ok (al geo.v) z.1:=fun z=>nM (HR4.out.below z.2);have k5:∀z:aI y4,z.1.cell? ⟨B9,5,none⟩=some (ab af gr):=fun z=>by rw[←HGE5.out];exact(HR4.out.below z.2).cell 5 _ rfl
    have k10:∀z:aI y4,z.1.cell? ⟨B9,10,none⟩=some (ab af qa):=fun z=>(HR4.out.below z.2).cell 10 _ rfl;have k11:∀z:aI y4,z.1.cell? ⟨B9,11,none⟩=some (ab aD qq):=fun z=>(HR4.out.below z.2).cell 11 _ rfl;have LX:∀z:aI y4,(aE 205 ⟨B8,3,none⟩).run aj z.1=.ok (al (an xb).toArray) z.1:=fun z=>LB ⟨z.1,HB4.out.trans (z.2.mono HB4.out.size)⟩;have HRG:Hid (∀z,w9b y4 z->bG rq q0 q1 S z f):=fun z hz=>(bG.isRes rq q0 q1 S).below HQ.out (B2.out.trans ((HB4.out.trans (hz.mono HB4.out.size)).mono B2.out.size));have hgd:Hid (∀z,az aj 39 #[al geo.v] z fun e w'=>e=ar (.bool (decide geo.good))/\ah z.heap.size z w'):=fun z=>nw geo z;have hrm:Hid (∀z,w9b y4 z->az aj 136 #[ao (some ⟨rq,0,none⟩),al geo.v] z fun e w'=>e=ar (.bool (decide (geo.oF<=S.n0/\geo.oW<=S.n1)))/\ah z.heap.size z w'):=fun z hz=>tg (HRG.out z hz) geo;have hbd:Hid (∀z,az aj 141 #[al geo.v,ab af qa,ab aD qq] z fun e w'=>e=ar (al (an (dh geo qa qq++bK 30 0)).toArray)/\ah z.heap.size z w'):=fun z=>tj HSUP.out z;obtain⟨wb,hwb⟩:=w9nm (dh geo qa qq++bK 30 0);have hwl:wb.length=48:=by rw[←hwb];simp[nI]
    rw[hwb]at hbd;have EQ:∀z:ak,(eG 10000 205 (al (an xb).toArray) (al (an wb).toArray)).run aj z=.ok (fg (an xb) (an wb)) z:=fun z=>nh HXL.out hwl z;have hnat:(qa.toNat:Int)=qa:=Int.toNat_of_nonneg bqa.1;have HSP:Hid (jW S.n0 S.n1 bs↔geo.good/\(geo.oF<=S.n0/\geo.oW<=S.n1)/\qa<gr/\xb=wb):=by
     show _↔_;have e:fU geo qa.toNat qq=wb:=by rw[←hwb];unfold fU dh;rw[hnat];simp
     unfold jW;rw[HXE.out,HG.out.1,HG.out.2.1,HG.out.2.2,e,←HGE5.out];exact⟨fun h=>⟨h.2.2.2.1,⟨h.2.2.2.2.1,h.2.2.2.2.2.1⟩,h.2.2.2.2.2.2.1,h.2.2.2.2.2.2.2⟩,fun h=>⟨HD0.out,HM0.out,HX0.out,h.1,h.2.1.1,h.2.1.2,h.2.2.1,h.2.2.2⟩⟩
    have HSV:Hid (jW S.n0 S.n1 bs->eo S.n0 S.n1 bs=some ⟨gen,geo,qa.toNat,qq⟩):=fun h=>by
     unfold eo;rw[if_pos h,HXE.out,HG.out.1,HG.out.2.1,HG.out.2.2,HGE.out]
    have HSN:Hid (¬jW S.n0 S.n1 bs->eo S.n0 S.n1 bs=none):=fun h=>by unfold eo;rw[if_neg h]
    have HNAT:=ae hnat;have HWL:=ae hwl;clear hwb hwl hnat r4 bgb bgs bgy bga LB HSL HG HGE5 HSUP HXE HGE HD0 HM0 HX0 hgeo;by_cases hg:geo.good
    ·skip
     have HGD:=ae hg;rw[show decide geo.good=true from decide_eq_true hg]at hgd;clear hg;by_cases hr:geo.oF<=S.n0/\geo.oW<=S.n1
     ·skip
      have HRM:=ae hr;rw[show decide (geo.oF<=S.n0/\geo.oW<=S.n1)=true from decide_eq_true hr]at hrm;clear hr;by_cases ha:gr<=qa
      ·skip
       have HG9:=ae ha;have ha9:decide (gr<=qa)=true:=decide_eq_true ha;refine cM (fun x=>∃z:aI y4,x=z.1) 30 (.takes [0,1] (.one 2 (.takes [3,4,5,6,7] (.one 8 (.takes [9,10,11,12,13,14,15,16,17,18,19,20,21,22,23,24,25,26,27] (.one 28 (.takes [29] .leaf))))))) hmx (by kernel_rfl) (by intro c x v a w h;cases x<;>exact h) ⟨⟨y4.drew,(aF _ y4).drew⟩,rfl⟩ ?_;repeat(rw[bj];simp only[au,ay];go_big_quiet_step (fail);try(with_reducible refine aO ?_))
       rw[bo,aT];simp only[au,ay];go_wp2_with fail;go_at_call 39;refine(hgd.out y4.drew).mono ?_;rintro e v1 ⟨rfl,hv1⟩;have bv1:w9b y4 v1:=((aF y4.heap.size y4).drew).trans (hv1.mono ((aF y4.heap.size y4).drew).size);clear hv1;go_wp2_with fail;refine aG ⟨⟨v1,bv1⟩,rfl⟩ ?_;repeat(rw[bj];simp only[au,ay];go_big_quiet_step (fail);try(with_reducible refine aO ?_))
       rw[bo,aT];simp only[au,ay];go_wp2_with fail;go_at_call 136;refine(hrm.out v1 (bv1)).mono ?_;rintro e v2 ⟨rfl,hv2⟩;have bv2:w9b y4 v2:=(bv1).trans (hv2.mono (bv1).size);clear hv2;go_wp2_with fail;refine aG ⟨⟨v2,bv2⟩,rfl⟩ ?_;repeat(rw[bj];simp only[au,ay];go_big_quiet_step (fail);try(with_reducible refine aO ?_))
       rw[bo,aT];simp only[au,ay];go_wp2_with fail;refine aG ⟨⟨v2,bv2⟩,rfl⟩ ?_;repeat(rw[bj];simp only[au,ay];go_big_quiet_step (fail);try(with_reducible refine aO ?_))
       rw[bo,cu];simp only[be,bf];have hno:eo S.n0 S.n1 bs=none:=HSN.out (fun h=>absurd (HSP.out.1 h).2.2.1 (by have:=HG9.out;omega));have BL:w9h W v2:=B2.out.trans ((HB4.out.trans ((bv2).mono HB4.out.size)).mono B2.out.size);obtain⟨z,STZ,LDZ,BZ⟩:=HN.out v2 BL.out eR rfl kW;have HNO:=ae hno;clear hno;go_wp2_with ((with_reducible refine gU 112 ?_);refine fJ _ _ rfl rfl [] _ rfl (lU _) ?_);exact bl (dl rfl rfl LDZ.out) rfl ⟨⟨eR,rfl,by rw[HNO.out];rfl⟩,BZ.out⟩
      ·skip
       have HNA:=ae ha;have ha9:decide (gr<=qa)=false:=decide_eq_false ha;by_cases hb:xb=wb
       ·skip
        rw[show fg (an xb) (an wb)=true from kF.2 (by rw[hb])]at EQ;have HG9:=ae hb;clear hb;refine cM (fun x=>∃z:aI y4,x=z.1) 30 (.takes [0,1] (.one 2 (.takes [3,4,5,6,7] (.one 8 (.takes [9,10,11,12,13,14,15,16,17,18,19,20,21,22,23,24,25,26,27] (.one 28 (.takes [29] .leaf))))))) hmx (by kernel_rfl) (by intro c x v a w h;cases x<;>exact h) ⟨⟨y4.drew,(aF _ y4).drew⟩,rfl⟩ ?_;repeat(rw[bj];simp only[au,ay];go_big_quiet_step (fail);try(with_reducible refine aO ?_))
        rw[bo,aT];simp only[au,ay];go_wp2_with fail;go_at_call 39;refine(hgd.out y4.drew).mono ?_;rintro e v1 ⟨rfl,hv1⟩;have bv1:w9b y4 v1:=((aF y4.heap.size y4).drew).trans (hv1.mono ((aF y4.heap.size y4).drew).size);clear hv1;go_wp2_with fail;refine aG ⟨⟨v1,bv1⟩,rfl⟩ ?_;repeat(rw[bj];simp only[au,ay];go_big_quiet_step (fail);try(with_reducible refine aO ?_))
        rw[bo,aT];simp only[au,ay];go_wp2_with fail;go_at_call 136;refine(hrm.out v1 (bv1)).mono ?_;rintro e v2 ⟨rfl,hv2⟩;have bv2:w9b y4 v2:=(bv1).trans (hv2.mono (bv1).size);clear hv2;go_wp2_with fail;refine aG ⟨⟨v2,bv2⟩,rfl⟩ ?_;repeat(rw[bj];simp only[au,ay];go_big_quiet_step (fail);try(with_reducible refine aO ?_))
        rw[bo,aT];simp only[au,ay];go_wp2_with fail;go_at_call 141;refine(hbd.out v2).mono ?_;rintro e v3 ⟨rfl,hv3⟩;have bv3:w9b y4 v3:=(bv2).trans (hv3.mono (bv2).size);clear hv3;go_wp2_with fail;refine aG ⟨⟨v3,bv3⟩,rfl⟩ ?_;repeat(rw[bj];simp only[au,ay];go_big_quiet_step (fail);try(with_reducible refine aO ?_))
        rw[bo,cu];simp only[be,bf];have HP:=ae (HSV.out (HSP.out.2 ⟨HGD.out,HRM.out,by have:=HNA.out;omega,HG9.out⟩));obtain⟨X,hX⟩:=w9nm (v3.alloc (ap dR.toArray 205));obtain⟨hb,hhb⟩:=w9nm v3.heap.size;have BS:(cO 109 1 #[(0,al dR.toArray)]).run aj v3=.ok (ag (some ⟨hb,0,none⟩) 1 1) X:=by rw[←hX,←hhb];exact FD v3
        have bX:ah y4.heap.size y4 X:=by rw[←hX];exact(bv3).alloc (bv3).size _
        have rX:=HR4.out.below bX;obtain⟨Z,hZ⟩:=w9nm (X.setCell ⟨B9,7,none⟩ (ag (some ⟨hb,0,none⟩) 1 1));have k7:X.cell? ⟨B9,7,none⟩=some (ag none 0 0):=rX.cell 7 _ rfl;have f7:X.frozen? ⟨B9,7,none⟩=false:=rX.frozen 7;have rZ:aB Z B9 112 (mC (ao (some ⟨rq,0,none⟩)) geo (ag none 0 0) (ag (some ⟨hb,0,none⟩) 1 1) gen i qa qq 0):=by rw[←hZ];exact rX.set 7 (ag (some ⟨hb,0,none⟩) 1 1)
        have bZ:ah y2.heap.size y2 Z:=by
         have e1:=HB4.out.trans (bX.mono HB4.out.size);rw[←hZ];exact e1.trans ((kJ (b:=B9) HB9.out [ag (some ⟨hb,0,none⟩) 1 1] 7 X).mono (aJ _))
        obtain⟨MD,hMD⟩:=w9nm (mC (ao (some ⟨rq,0,none⟩)) geo (ag none 0 0) (ag (some ⟨hb,0,none⟩) 1 1) gen i qa qq 0);have LDM:(aE 112 ⟨B9,0,none⟩).run aj Z=.ok (al MD.toArray) Z:=by rw[←hMD];exact qg rZ rfl
        have BL:=w9bt B2 bZ;obtain⟨z,STZ,LDZ,BZ⟩:=HN.out Z BL.out MD (by rw[←hMD];rfl) (by rw[←hMD];exact qf rfl rfl rfl _ _ _ _ _ _);have HFIN:Hid (nN rq i (eo S.n0 S.n1 bs) MD):=by
         show nN _ _ _ _;rw[HP.out,←hMD];exact⟨hb,by rw[HNAT.out]⟩
        clear hX hhb bX rX rZ bZ hMD k5 k10 k11 LG LX;go_wp2_with ((with_reducible refine gG ?_);refine dq _ _ _ rfl rfl [(0,al dR.toArray)] _ rfl BS ?_);exact bl (dl rfl rfl LDZ.out) rfl ⟨⟨MD,rfl,HFIN.out⟩,BZ.out⟩
       ·skip
        rw[show fg (an xb) (an wb)=false from nY fun e=>hb (ni e)]at EQ;have HG9:=ae hb;clear hb;refine cM (fun x=>∃z:aI y4,x=z.1) 30 (.takes [0,1] (.one 2 (.takes [3,4,5,6,7] (.one 8 (.takes [9,10,11,12,13,14,15,16,17,18,19,20,21,22,23,24,25,26,27] (.one 28 (.takes [29] .leaf))))))) hmx (by kernel_rfl) (by intro c x v a w h;cases x<;>exact h) ⟨⟨y4.drew,(aF _ y4).drew⟩,rfl⟩ ?_;repeat(rw[bj];simp only[au,ay];go_big_quiet_step (fail);try(with_reducible refine aO ?_))
        rw[bo,aT];simp only[au,ay];go_wp2_with fail;go_at_call 39;refine(hgd.out y4.drew).mono ?_;rintro e v1 ⟨rfl,hv1⟩;have bv1:w9b y4 v1:=((aF y4.heap.size y4).drew).trans (hv1.mono ((aF y4.heap.size y4).drew).size);clear hv1;go_wp2_with fail;refine aG ⟨⟨v1,bv1⟩,rfl⟩ ?_;repeat(rw[bj];simp only[au,ay];go_big_quiet_step (fail);try(with_reducible refine aO ?_))
        rw[bo,aT];simp only[au,ay];go_wp2_with fail;go_at_call 136;refine(hrm.out v1 (bv1)).mono ?_;rintro e v2 ⟨rfl,hv2⟩;have bv2:w9b y4 v2:=(bv1).trans (hv2.mono (bv1).size);clear hv2;go_wp2_with fail;refine aG ⟨⟨v2,bv2⟩,rfl⟩ ?_;repeat(rw[bj];simp only[au,ay];go_big_quiet_step (fail);try(with_reducible refine aO ?_))
        rw[bo,aT];simp only[au,ay];go_wp2_with fail;go_at_call 141;refine(hbd.out v2).mono ?_;rintro e v3 ⟨rfl,hv3⟩;have bv3:w9b y4 v3:=(bv2).trans (hv3.mono (bv2).size);clear hv3;go_wp2_with fail;refine aG ⟨⟨v3,bv3⟩,rfl⟩ ?_;repeat(rw[bj];simp only[au,ay];go_big_quiet_step (fail);try(with_reducible refine aO ?_))
        rw[bo,cu];simp only[be,bf];have hno:eo S.n0 S.n1 bs=none:=HSN.out (fun h=>HG9.out (HSP.out.1 h).2.2.2);have BL:w9h W v3:=B2.out.trans ((HB4.out.trans ((bv3).mono HB4.out.size)).mono B2.out.size);obtain⟨z,STZ,LDZ,BZ⟩:=HN.out v3 BL.out eR rfl kW;have HNO:=ae hno;clear hno;go_wp2_with ((with_reducible refine gU 112 ?_);refine fJ _ _ rfl rfl [] _ rfl (lU _) ?_);exact bl (dl rfl rfl LDZ.out) rfl ⟨⟨eR,rfl,by rw[HNO.out];rfl⟩,BZ.out⟩
     ·skip
      rw[show decide (geo.oF<=S.n0/\geo.oW<=S.n1)=false from decide_eq_false hr]at hrm;have HG9:=ae hr;clear hr;refine cM (fun x=>∃z:aI y4,x=z.1) 30 (.takes [0,1] (.one 2 (.takes [3,4,5,6,7] (.one 8 (.takes [9,10,11,12,13,14,15,16,17,18,19,20,21,22,23,24,25,26,27] (.one 28 (.takes [29] .leaf))))))) hmx (by kernel_rfl) (by intro c x v a w h;cases x<;>exact h) ⟨⟨y4.drew,(aF _ y4).drew⟩,rfl⟩ ?_;repeat(rw[bj];simp only[au,ay];go_big_quiet_step (fail);try(with_reducible refine aO ?_))
      rw[bo,aT];simp only[au,ay];go_wp2_with fail;go_at_call 39;refine(hgd.out y4.drew).mono ?_;rintro e v1 ⟨rfl,hv1⟩;have bv1:w9b y4 v1:=((aF y4.heap.size y4).drew).trans (hv1.mono ((aF y4.heap.size y4).drew).size);clear hv1;go_wp2_with fail;refine aG ⟨⟨v1,bv1⟩,rfl⟩ ?_;repeat(rw[bj];simp only[au,ay];go_big_quiet_step (fail);try(with_reducible refine aO ?_))
      rw[bo,aT];simp only[au,ay];go_wp2_with fail;go_at_call 136;refine(hrm.out v1 (bv1)).mono ?_;rintro e v2 ⟨rfl,hv2⟩;have bv2:w9b y4 v2:=(bv1).trans (hv2.mono (bv1).size);clear hv2;go_wp2_with fail;refine aG ⟨⟨v2,bv2⟩,rfl⟩ ?_;repeat(rw[bj];simp only[au,ay];go_big_quiet_step (fail);try(with_reducible refine aO ?_))
      rw[bo,aT];simp only[au,ay];go_wp2_with fail;refine aG ⟨⟨v2,bv2⟩,rfl⟩ ?_;repeat(rw[bj];simp only[au,ay];go_big_quiet_step (fail);try(with_reducible refine aO ?_))
      rw[bo,cu];simp only[be,bf];have hno:eo S.n0 S.n1 bs=none:=HSN.out (fun h=>HG9.out (HSP.out.1 h).2.1);have BL:w9h W v2:=B2.out.trans ((HB4.out.trans ((bv2).mono HB4.out.size)).mono B2.out.size);obtain⟨z,STZ,LDZ,BZ⟩:=HN.out v2 BL.out eR rfl kW;have HNO:=ae hno;clear hno;go_wp2_with ((with_reducible refine gU 112 ?_);refine fJ _ _ rfl rfl [] _ rfl (lU _) ?_);exact bl (dl rfl rfl LDZ.out) rfl ⟨⟨eR,rfl,by rw[HNO.out];rfl⟩,BZ.out⟩
    ·skip
     rw[show decide geo.good=false from decide_eq_false hg]at hgd;have HG9:=ae hg;clear hg;refine cM (fun x=>∃z:aI y4,x=z.1) 30 (.takes [0,1] (.one 2 (.takes [3,4,5,6,7] (.one 8 (.takes [9,10,11,12,13,14,15,16,17,18,19,20,21,22,23,24,25,26,27] (.one 28 (.takes [29] .leaf))))))) hmx (by kernel_rfl) (by intro c x v a w h;cases x<;>exact h) ⟨⟨y4.drew,(aF _ y4).drew⟩,rfl⟩ ?_;repeat(rw[bj];simp only[au,ay];go_big_quiet_step (fail);try(with_reducible refine aO ?_))
     rw[bo,aT];simp only[au,ay];go_wp2_with fail;go_at_call 39;refine(hgd.out y4.drew).mono ?_;rintro e v1 ⟨rfl,hv1⟩;have bv1:w9b y4 v1:=((aF y4.heap.size y4).drew).trans (hv1.mono ((aF y4.heap.size y4).drew).size);clear hv1;go_wp2_with fail;refine aG ⟨⟨v1,bv1⟩,rfl⟩ ?_;repeat(rw[bj];simp only[au,ay];go_big_quiet_step (fail);try(with_reducible refine aO ?_))
     rw[bo,aT];simp only[au,ay];go_wp2_with fail;refine aG ⟨⟨v1,bv1⟩,rfl⟩ ?_;repeat(rw[bj];simp only[au,ay];go_big_quiet_step (fail);try(with_reducible refine aO ?_))
     rw[bo,aT];simp only[au,ay];go_wp2_with fail;refine aG ⟨⟨v1,bv1⟩,rfl⟩ ?_;repeat(rw[bj];simp only[au,ay];go_big_quiet_step (fail);try(with_reducible refine aO ?_))
     rw[bo,cu];simp only[be,bf];have hno:eo S.n0 S.n1 bs=none:=HSN.out (fun h=>HG9.out (HSP.out.1 h).1);have BL:w9h W v1:=B2.out.trans ((HB4.out.trans ((bv1).mono HB4.out.size)).mono B2.out.size);obtain⟨z,STZ,LDZ,BZ⟩:=HN.out v1 BL.out eR rfl kW;have HNO:=ae hno;clear hno;go_wp2_with ((with_reducible refine gU 112 ?_);refine fJ _ _ rfl rfl [] _ rfl (lU _) ?_);exact bl (dl rfl rfl LDZ.out) rfl ⟨⟨eR,rfl,by rw[HNO.out];rfl⟩,BZ.out⟩
   ·have hno:eo S.n0 S.n1 bs=none:=by unfold eo;rw[if_neg (fun hp=>hx hp.2.2.1)]
    rw[hm]at m0;obtain⟨ix,hix⟩:=w9nm ((Sct.of bs).index);rw[hix]at m2 hx;have hx':(ix != 0)=true:=by simpa using hx
    obtain⟨z,STZ,LDZ,BZ⟩:=HN.out y2 B2.out eR rfl kW;have HNO:=ae hno;clear hno;go_wp2_with ((with_reducible refine gU 112 ?_);refine fJ _ _ rfl rfl [] _ rfl (lU _) ?_);exact bl (dl rfl rfl LDZ.out) rfl ⟨⟨eR,rfl,by rw[HNO.out];rfl⟩,BZ.out⟩
  ·have hno:eo S.n0 S.n1 bs=none:=by unfold eo;rw[if_neg (fun hp=>hm hp.2.1)]
   obtain⟨mk,hmk⟩:=w9nm ((Sct.of bs).mark);rw[hmk]at m0 hm;have hm':(mk != 83)=true:=by simpa using hm
   obtain⟨z,STZ,LDZ,BZ⟩:=HN.out y2 B2.out eR rfl kW;have HNO:=ae hno;clear hno;go_wp2_with ((with_reducible refine gU 112 ?_);refine fJ _ _ rfl rfl [] _ rfl (lU _) ?_);exact bl (dl rfl rfl LDZ.out) rfl ⟨⟨eR,rfl,by rw[HNO.out];rfl⟩,BZ.out⟩
 ·have e0:dE=11:=by rw[←hdE];unfold fI;rw[if_neg hd]
  subst e0;have hno:eo S.n0 S.n1 bs=none:=by unfold eo;rw[if_neg (fun hp=>hd hp.1)]
  obtain⟨z,STZ,LDZ,BZ⟩:=HN.out y2 B2.out eR rfl kW;have HNO:=ae hno;clear hno;go_wp2_with ((with_reducible refine gU 112 ?_);refine fJ _ _ rfl rfl [] _ rfl (lU _) ?_);exact bl (dl rfl rfl LDZ.out) rfl ⟨⟨eR,rfl,by rw[HNO.out];rfl⟩,BZ.out⟩
end
end
section
attribute [-simp] isAgg51 zeroValue51 isAgg205 zeroValue205 isAgg23 zeroValue23 isAgg29 zeroValue29 isAgg112 zeroValue112 isAgg254 zeroValue254
attribute [-go_sem] aE aL cZ
attribute [local go_sem] bC bD cV iR jZ iQ mF mG
structure RmAt (m rq Bb cb Bh ch:Nat) (M:MS) (w:ak):Prop where
 row:aB w m 112 (mC (ao (some ⟨rq,0,none⟩)) M.g (ag (some ⟨Bb,0,none⟩) M.b.length cb) (ag (some ⟨Bh,0,none⟩) M.home.length ch) M.gen M.sup M.at0 M.seq M.used)
 mb:m≠Bb
 mh:m≠Bh
 bh:Bb≠Bh
 b0:0<M.b.length
 h0:0<M.home.length
 cbl:M.b.length<=cb/\cb<=aS
 cb':∃cur t,w.heap[Bb]? =some (ap cur t (0,0))
 bat:w.rangeAt Bb 0 (an M.b)
 ch':∃cur t,w.heap[Bh]? =some (ap cur t (0,0))
 hat:w.rangeAt Bh 0 (M.home.map an).flatten
def ka (m rq:Nat) (M:MS):ea:=fun w f=>∃Bb cb Bh ch,RmAt m rq Bb cb Bh ch M w/\f=fun k=>k=m\/k=Bb\/k=Bh
theorem RmAt.keep {m rq Bb cb Bh ch:Nat} {M:MS} {w w':ak} (h:RmAt m rq Bb cb Bh ch M w) (hm:w'.heap[m]? =w.heap[m]?) (hb:w'.heap[Bb]? =w.heap[Bb]?) (hh:w'.heap[Bh]? =w.heap[Bh]?):RmAt m rq Bb cb Bh ch M w':=
 ⟨hm.trans h.row,h.mb,h.mh,h.bh,h.b0,h.h0,h.cbl,by obtain⟨c,t,e⟩:=h.cb';exact⟨c,t,hb.trans e⟩,da h.bat hb,by obtain⟨c,t,e⟩:=h.ch';exact⟨c,t,hh.trans e⟩,da h.hat hh⟩
theorem ka.isRes (m rq:Nat) (M:MS):IsRes (ka m rq M) where
 out:=by
  rintro w w' f ⟨Bb,cb,Bh,ch,h,rfl⟩ hk;exact⟨Bb,cb,Bh,ch,h.keep (hk m (aA rfl)) (hk Bb (aC (aA rfl))) (hk Bh (aC (aC rfl))),rfl⟩
 lt:=by
  rintro w f ⟨Bb,cb,Bh,ch,h,rfl⟩ k hk;rcases hk with rfl | rfl | rfl
  ·exact h.row.lt
  ·obtain⟨c,t,e⟩:=h.cb';exact(cj.1 e).1
  ·obtain⟨c,t,e⟩:=h.ch';exact(cj.1 e).1
 cells:=by
  rintro w f ⟨Bb,cb,Bh,ch,h,rfl⟩ k hk ob ho;rcases hk with rfl | rfl | rfl
  ·rw[show w.heap[k]? =_ from h.row]at ho;cases ho;rfl
  ·obtain⟨c,t,e⟩:=h.cb';rw[e]at ho;cases ho;rfl
  ·obtain⟨c,t,e⟩:=h.ch';rw[e]at ho;cases ho;rfl
section
variable {m rq Bb cb Bh ch:Nat} {M:MS} {w w':ak}
theorem RmAt.lt (h:RmAt m rq Bb cb Bh ch M w):m<w.heap.size/\Bb<w.heap.size/\Bh<w.heap.size:=
 ⟨h.row.lt,by obtain⟨c,t,e⟩:=h.cb';exact(cj.1 e).1,by obtain⟨c,t,e⟩:=h.ch';exact(cj.1 e).1⟩
theorem RmAt.below (h:RmAt m rq Bb cb Bh ch M w) (hb:w9b w w'):RmAt m rq Bb cb Bh ch M w':=h.keep (hb.block _ h.lt.1) (hb.block _ h.lt.2.1) (hb.block _ h.lt.2.2)
theorem RmAt.sl (h:RmAt m rq Bb cb Bh ch M w):Sl aq w (ag (some ⟨Bb,0,none⟩) M.b.length cb) M.b:=
 Sl.at (off:=0) h.cbl.1 h.cbl.2 h.lt.2.1 fun j hj=>by
  rw[h.bat j (ab aq M.b[j]) (by simp[an,hj])];simp[hj]
theorem RmAt.pgs (h:RmAt m rq Bb cb Bh ch M w) (hl:∀x ∈ M.home,x.length=48) (hf:M.home.length<=1000):PgsR w (ag (some ⟨Bh,0,none⟩) M.home.length ch) Bh M.home:=⟨⟨_,_,rfl,fun _=>rfl⟩,h.lt.2.2,h.hat,hl,hf⟩
end
section
theorem yG {m rq:Nat} {M:MS} {w:ak} {f:Nat->Prop} (h:ka m rq M w f) (hr:0<=M.g.r/\M.g.r<65536) (hu:M.used<=65536):
  az aj 70 #[ao (some ⟨m,0,none⟩)] w fun e w'=>e=ar (ab af M.room)/\ah w.heap.size w w':=by
 have hmx:=w9x
 obtain⟨Bb,cb,Bh,ch,h,rfl⟩:=h;have HB:=ae h;have k5:∀z:aI w,z.1.cell? ⟨m,5,none⟩=some (ab af M.g.r):=fun z=>(h.below z.2).row.cell 5 _ rfl;have k12:∀z:aI w,z.1.cell? ⟨m,12,none⟩=some (ab af (M.used:Int)):=fun z=>(h.below z.2).row.cell 12 _ rfl;have hroom:M.room=M.g.r - (M.used:Int):=rfl;rw[hroom];have HW:wrap64 (M.g.r - (M.used:Int))=M.g.r - (M.used:Int):=gj _ (by omega);obtain⟨r,hr'⟩:∃r,M.g.r=r:=⟨_,rfl⟩;obtain⟨u,hu'⟩:∃u:Int,(M.used:Int)=u:=⟨_,rfl⟩;rw[hr']at k5 HW;rw[hu']at k12 HW;rw[hr',hu'];have hu0:0<=u/\u<=65536:=by omega
 rw[hr']at hr;clear h hroom hr' hu' hu;go_enter func70,ntmps70;go_wp2_with fail;refine cM (fun x=>∃z:aI w,x=z.1) 10 (.takes [0,1,2,3,4,5,6,7,8,9] .leaf) hmx (by kernel_rfl) (by intro c x v a w h;cases x<;>exact h) ⟨⟨w.drew,(aF _ w).drew⟩,rfl⟩ ?_;repeat(rw[bj];simp only[au,ay];go_big_quiet_step (fail);try(with_reducible refine aO ?_))
 rw[bo,cu];simp only[be,bf];go_wp2_with fail;go_ret;exact⟨rfl,(aF _ w).drew⟩
end
end
section
theorem yH (S:RS) {M:MS} {b:List Int} (h:M.dif b= []):S.cmt M b=(S,0)/\M.next b=M:=by
 unfold RS.cmt MS.bats MS.next;rw[if_pos h,if_pos h];exact⟨rfl,rfl⟩
theorem yI (S:RS) {M:MS} {b:List Int} (h:M.dif b≠ []) (hf:M.full b):(S.cmt M b=if(S.bat [M.homW,M.supW]).2=0 then(S.bat [M.homW,M.supW]).1.bat (M.appW b)else S.bat [M.homW,M.supW])/\M.next b=M.ckpt.app b:=by
 unfold RS.cmt MS.bats MS.next;rw[if_neg h,if_pos hf,if_neg h,if_pos hf];exact⟨RS.bat_append _ _ _,rfl⟩
theorem yJ (S:RS) {M:MS} {b:List Int} (h:M.dif b≠ []) (hf:¬M.full b):S.cmt M b=S.bat (M.appW b)/\M.next b=M.app b:=by
 unfold RS.cmt MS.bats MS.next;rw[if_neg h,if_neg hf,if_neg h,if_neg hf];exact⟨rfl,rfl⟩
def kb (now:List (List Int)) {m:Nat} (xs:List (Fin m)):List Img:=xs.map fun x=>⟨(x.1:Int),aY now x.1⟩
theorem FH (now:List (List Int)) {m:Nat} (pre:List (Fin m)) (x:Fin m):bI (kb now (pre++ [x]))=bI (kb now pre)++ [(⟨(x.1:Int),aY now x.1⟩:Img).cells]:=by
 unfold bI kb;rw[fp,fp]
 rfl
theorem FI {S:RS} {M:MS} {b:List Int} (h:M.Ok S) (hl:b.length=M.b.length):M.dif b=kb (aM b) (fK M.g.P (iY (aM M.b) (aM b))):=by
 unfold MS.dif;rw[DY,it,h.pcs' hl]
 rfl
structure TailOk (S:RS) (M:MS) (t:List Img):Prop where
 fu:S.fuse<=1000000
 d:0<=S.done/\S.done<=900000
 few:S.Few 250
 n0:S.n0<=4096
 c:2+M.g.C<=S.n0
 good:M.g.good
 at0:M.at0<M.g.C
 seq:0<=M.seq/\M.seq<=1000000
 txn:TxnOk M.g.C t
 room: -1000000<=M.room/\M.room<=1000000
theorem MS.Ok.tail {S:RS} {M:MS} {b:List Int} (h:M.Ok S) (hr:S.Rdy) (hl:b.length=M.b.length) (hb:aP b) (hd:M.dif b≠ []):TailOk S M (M.dif b):=by
 have hN:=Geo.nats h.good;have hrm:=h.room;have hu:=h.used;exact⟨hr.fu,⟨hr.d0,by have:=hr.d1;omega⟩,hr.few.mono (by omega),hr.n0,by omega,h.good,h.at0,h.seq,h.txn hl hb hd,by unfold MS.room;have:=hN.c;have:=hN.c2;omega⟩
theorem MS.Ok.tail2 {S:RS} {M:MS} {b:List Int} (h:M.Ok S) (hr:S.Rdy) (hl:b.length=M.b.length) (hb:aP b) (hd:M.dif b≠ []):TailOk (S.bat [M.homW,M.supW]).1 M.ckpt (M.dif b):=by
 have hN:=Geo.nats h.good;have hrm:=h.room;obtain⟨hm1,hm2,hm3,hm4⟩:=h.homB;obtain⟨hs1,hs2,hs3,hs4⟩:=h.supB;obtain⟨k1,k2,k3,k4,k5⟩:=RS.Rdy.st (m:=100) (d:=0) (l:=M.homW) hr.few ⟨hr.d0,by have:=hr.d1;omega⟩ hr.fu (by omega) hm1 hm2;obtain⟨j1,j2,j3,j4,j5⟩:=RS.Rdy.st (S:=(S.st M.homW).1) (m:=101) (d:=0+M.homW.length+1) (l:=M.supW) k2 k3 k4 (by omega) (by rw[k1];exact hs1) hs2;have key:(S.bat [M.homW,M.supW]).1.n0=S.n0/\(S.bat [M.homW,M.supW]).1.Few 250/\(0<=(S.bat [M.homW,M.supW]).1.done/\(S.bat [M.homW,M.supW]).1.done<=900000)/\(S.bat [M.homW,M.supW]).1.fuse<=1000000:=by
  rw[RS.bat_two];split
  ·exact⟨j1.trans k1,j2.mono (by omega),⟨j3.1,by have:=j3.2;omega⟩,j4⟩
  ·exact⟨k1,k2.mono (by omega),⟨k3.1,by have:=k3.2;omega⟩,k4⟩
 obtain⟨e1,e2,e3,e4⟩:=key;have hn:=hr.n0;refine⟨e4,e3,e2,by rw[e1];exact hn, ?_,h.good,h.at0,h.seq,h.txn hl hb hd, ?_⟩
 ·rw[e1];show 2+M.g.C<=_;omega
 ·show -1000000<=M.g.r - ((0:Nat):Int)/\M.g.r - ((0:Nat):Int)<=1000000;have:=hN.c;have:=hN.c2;omega
theorem FJ (S:RS) (M:MS) (b:List Int):S.app 2 M.g.C M.at0 M.seq (M.dif b)=S.bat (M.appW b):=RS.app_bat S 2 M.g.C M.at0 M.seq (M.dif b)
theorem RS.bat_e:∀(ls:List cA) (S:RS),(S.bat ls).2=0\/(S.bat ls).2=14
 | [],_=>aA rfl
 | l::ls,S=>by
  rw[RS.bat_cons];split
  ·exact aC rfl
  ·split
   ·exact aC rfl
   ·exact RS.bat_e ls _
theorem FK (S:RS) (F C A:Nat) (q:Int) (t:List Img):(S.app F C A q t).2=0\/(S.app F C A q t).2=14:=by
 rw[RS.app_bat];exact RS.bat_e _ _
def kY (A B C:Nat) (W:ak):Type:={x:ak // x.heap[A]? =W.heap[A]? /\x.heap[B]? =W.heap[B]? /\x.heap[C]? =W.heap[C]? }
instance (A B C:Nat) (W:ak):Nonempty (kY A B C W):=⟨⟨W,rfl,rfl,rfl⟩⟩
end
section
section
variable {P:Program} {ops:Array Oper} {Q:Exit->Act->ak->Prop} {md:Region.Mode} {S:ak->Prop}
theorem FM {o:Oper} {a:Act} {w:ak} {K:Act->ak->Prop} (h:o.wp P a w K ew):o.wp P a w K Q:=by
 unfold Oper.wp at *;generalize (execOp a.eval o).run P w=r at *;cases r with
 | ok n w'=>
  cases n<;>simp only[Oper.upon]at h ⊢<;>
   first
    | exact h
    | exact Calls.mono h (fun e w'' he=>by cases e<;>first | exact he | exact he.elim | (obtain⟨a',w',h'⟩:=he;exact h'.elim))
 | halt x w'=>cases x<;>simp only[Oper.upon]at h ⊢<;>first | exact h | exact h.elim
theorem FN {i:Nat} {K:Act->ak->Prop} {a:Act} {w:ak} (h:wpOp P ops ew i K a w):wpOp P ops Q i K a w:=by
 unfold wpOp at *;cases ho:ops[i]? with
 | none=>simpa [ho]using h
 | some o=>
  simp only[ho]at h ⊢;by_cases hw:Region.wanted o (yielded ops a.tmps)=true
  ·simp only[hw,if_true]at h ⊢;rcases h with h | ⟨_,_,_,h'⟩
   ·exact aA (FM h)
   ·exact h'.elim
  ·simp only[hw]at h ⊢;exact h
theorem tA {n:Nat} {L:Array Bool->Act->ak->Prop}:∀(f:Nat) (listed:Array Bool) (a:Act) (w:ak),jh P md ops ew S n L f listed a w->jh P md ops Q S n L f listed a w
 | 0,_,_,_,h=>h
 | f+1,_,_,_,h=>⟨h.1,fun i hi=>⟨(h.2 i hi).1,wpOp_mono (fun a' w' h'=>⟨h'.1,tA f _ a' w' h'.2⟩) (FN (h.2 i hi).2)⟩⟩
def lV (md:Region.Mode) (ops:Array Oper) (n:Nat):Prop:=∀(listed:Array Bool) (i:Nat),HeadInv md ops n listed->i<n->listed.getD i true=false->∀j ∈ Region.ready md ops listed,j<n
theorem yK {n:Nat} (hs:Region.sinkB md ops n=true) (hc:Region.chainB md ops n=true) (hn:n<ops.size):lV md ops n:=fun listed i inv hin hun j hj=>by
 rcases Nat.lt_or_ge j n with h | h
 ·exact h
 ·exact absurd hj (tail_waits hs hc hn inv _ i rfl hin hun j h)
theorem yL:lV md ops ops.size:=fun listed i _ _ _ j hj=>by
 obtain⟨_,oj,hoj,_⟩:=mem_ready.1 hj;exact(cj.1 hoj).1
theorem yM {n i:Nat} {oi:Oper} {v:am} {L:Array Bool->Act->ak->Prop} (hi:ops[i]? =some oi) (hsel:∀(j:Nat) (o:Oper) cs b,ops[j]? =some o->o.op≠ .select cs b)
  (hT:lV md ops n) (hin:i<n)
  (hdone:∀listed a w,L listed a w->∀j ∈ Region.ready md ops listed,n<=j):
  ∀(f:Nat) (listed:Array Bool) (a:Act) (w:ak),HeadInv md ops n listed->
   (∀j oj,ops[j]? =some oj->j≠i->listed.getD j true=false->(∀e ∈ oj.after,Region.binds md e=true->e.on≠i)->oi.apart ops oj=true)->
   i ∈ Region.ready md ops listed->YieldsIf P ops S oi v a->S w->
   jh P md ops ew S n L f (listed.setIfInBounds i true) (a.put oi.dst v) w->jh P md ops ew S n L (f+1) listed a w:=by
 intro f
 induction f with
 | zero=>
  intro listed a w inv _ hr hy hS H;have hun:=(mem_ready.1 hr).1;refine⟨fun h=>(by rw[h]at hr;cases hr),fun j hj=> ?_⟩;have hjn:j<n:=hT listed i inv hin hun j hj;refine⟨hjn, ?_⟩;by_cases hji:j=i
  ·subst hji;exact hy.wpOp hi hS ⟨hS,H⟩
  ·have:=hdone _ _ _ H j (ready_mono hj hji);omega
 | succ f ih=>
  intro listed a w inv hfree hr hy hS H;have hun:=(mem_ready.1 hr).1;refine⟨fun h=>(by rw[h]at hr;cases hr),fun j hj=> ?_⟩;have hjn:j<n:=hT listed i inv hin hun j hj;refine⟨hjn, ?_⟩;by_cases hji:j=i
  ·subst hji;exact hy.wpOp hi hS ⟨hS,H⟩
  ·have h1:=(H.2 j (ready_mono hj hji)).2;obtain⟨hjun,oj,hoj,hall⟩:=mem_ready.1 hj;have hnot:∀e ∈ oj.after,Region.binds md e=true->e.on≠i:=fun e he hb heq=>by
    have h1:=hall e he hb;rw[heq,getD_both hun]at h1;cases h1
   have h2:=wpOp_putIf hoj (hfree j oj hoj hji hjun hnot) (fun cs b=>hsel i oi cs b hi) (fun cs b=>hsel j oj cs b hoj) (fun c a w h=>h) hy h1;have hfree':∀k ok,ops[k]? =some ok->k≠i->(listed.setIfInBounds j true).getD k true=false->
     (∀e ∈ ok.after,Region.binds md e=true->e.on≠i)->oi.apart ops ok=true:=fun k ok hk hki hun hno=>by
    refine hfree k ok hk hki ?_ hno;by_cases hjk:j=k
    ·subst hjk;exact hjun
    ·rw[getD_set_ne true hjk]at hun;exact hun
   refine wpOp_mono (fun a' w' h3=>⟨h3.2.1,ih (listed.setIfInBounds j true) a' w' (inv.set hj hjn) hfree' (ready_mono hr (Ne.symm hji)) h3.1 h3.2.1 ?_⟩) h2;rw[Array.setIfInBounds_comm _ _ hji];exact h3.2.2
def gM (P:Program) (l:List Oper) (Q:Exit->Act->ak->Prop) (S:ak->Prop) (n:Nat):Plan->Act->ak->Prop
 | .leaf,a,w=>wpList P l.toArray Q (l.drop n) a w
 | .take i next,a,w=>wpQuiet P l.toArray S (fun a'=>gM P l Q S n next a' w) [cQ l i] a
 | .one i next,a,w=>wpList P l.toArray (eZ S ew (gM P l Q S n next)) [cQ l i] a w
 | .two i j n1 n2,a,w=>wpList P l.toArray (eZ S ew (gM P l Q S n n1)) [cQ l i] a w/\wpList P l.toArray (eZ S ew (gM P l Q S n n2)) [cQ l j] a w
theorem dW {l:List Oper} {n:Nat} {a:Act} {w:ak}:gM P l Q S n .leaf a w=wpList P l.toArray Q (l.drop n) a w:=rfl
theorem bU {l:List Oper} {n i:Nat} {p:Plan} {a:Act} {w:ak}:gM P l Q S n (.one i p) a w=wpList P l.toArray (eZ S ew (gM P l Q S n p)) [cQ l i] a w:=rfl
theorem qj {l:List Oper} {n i j:Nat} {p q:Plan} {a:Act} {w:ak}:gM P l Q S n (.two i j p q) a w=(wpList P l.toArray (eZ S ew (gM P l Q S n p)) [cQ l i] a w/\wpList P l.toArray (eZ S ew (gM P l Q S n q)) [cQ l j] a w):=rfl
theorem cT {l:List Oper} {n:Nat} {p:Plan} {a:Act} {w:ak}:gM P l Q S n (.takes [] p) a w=gM P l Q S n p a w:=rfl
theorem cP {l:List Oper} {n i:Nat} {is:List Nat} {p:Plan} {a:Act} {w:ak}:gM P l Q S n (.takes (i::is) p) a w=wpQuiet P l.toArray S (fun a'=>gM P l Q S n (.takes is p) a' w) [cQ l i] a:=rfl
theorem FO {l:List Oper} {n:Nat} (hsel:Region.noSelect l.toArray=true) (hT:lV md l.toArray n) (hn:n<=l.length):
  ∀(p:Plan) (f:Nat) (listed:Array Bool) (a:Act) (w:ak),HeadInv md l.toArray n listed->gl md l n p f listed=true->S w->gM P l Q S n p a w->
   jh P md l.toArray ew S n (fun listed' a' w'=>Region.seqB md l.toArray (l.length - n) n listed'=true/\wpList P l.toArray Q (l.drop n) a' w') f listed a w:=by
 intro p
 induction p with
 | leaf=>
  intro f listed a w inv hB hS h;simp only[gl,fN,decide_eq_true_eq]at hB;obtain⟨rfl,hB⟩:=hB;exact⟨hB,h⟩
 | take i next ih=>
  intro f listed a w inv hB hS h;simp only[gl,fN,decide_eq_true_eq]at hB;obtain⟨⟨⟨⟨⟨hf,hin⟩,hrd⟩,hr⟩,hfr⟩,hB⟩:=hB;obtain⟨f,rfl⟩:∃g,f=g+1:=⟨f - 1,by omega⟩;have ho:l.toArray[i]? =some (cQ l i):=by simpa using mf l i (by omega)
  have hr':i ∈ Region.ready md l.toArray listed:=by simpa using hr
  simp only[gM,wpQuiet]at h;obtain⟨v,hy,hK⟩:=od (i:=i) hrd ⟨w,hS⟩ h;exact yM ho (Region.noSelect_spec hsel) hT hin (fun listed a w hL=>seqB_ready hL.1) f listed a w inv (Region.free_spec ho hfr) hr' hy hS
   (ih f _ _ w (inv.set hr' hin) (by simpa using hB) hS hK)
 | one i next ih=>
  intro f listed a w inv hB hS h;simp only[gl,fN,decide_eq_true_eq]at hB;obtain⟨⟨⟨hf,hin⟩,hr⟩,hB⟩:=hB;obtain⟨f,rfl⟩:∃g,f=g+1:=⟨f - 1,by omega⟩;refine⟨by rw[hr];simp,fun j hj=> ?_⟩;have hj':=hj;rw[hr]at hj;obtain rfl:j=i:=by simpa using hj
  exact⟨hin,wpOp_mono (fun a' w' h'=>⟨h'.1,ih f _ _ w' (inv.set hj' hin) (by simpa using hB) h'.1 h'.2⟩) (js (by omega) h)⟩
 | two i k n1 n2 ih1 ih2=>
  intro f listed a w inv hB hS h;simp only[gl,fN,decide_eq_true_eq]at hB;obtain⟨⟨⟨⟨⟨hf,hin⟩,hkn⟩,hr⟩,hB1⟩,hB2⟩:=hB;obtain⟨f,rfl⟩:∃g,f=g+1:=⟨f - 1,by omega⟩;obtain⟨g1,g2⟩:=h;refine⟨by rw[hr];simp,fun j hj=> ?_⟩;have hj':=hj;rw[hr]at hj;rcases(by simpa using hj:j=i\/j=k)with rfl | rfl
  ·exact⟨hin,wpOp_mono (fun a' w' h'=>⟨h'.1,ih1 f _ _ w' (inv.set hj' hin) (by simpa using hB1) h'.1 h'.2⟩) (js (by omega) g1)⟩
  ·exact⟨hkn,wpOp_mono (fun a' w' h'=>⟨h'.1,ih2 f _ _ w' (inv.set hj' hkn) (by simpa using hB2) h'.1 h'.2⟩) (js (by omega) g2)⟩
def tB (l:List Oper) (n:Nat) (p:Plan):Bool:=
 Region.noSelect l.toArray&&(decide (n=l.length)||(decide (n<l.length)&&Region.sinkB .any l.toArray n&&Region.chainB .any l.toArray n))&&gl .any l n p n (kg l.length false)
theorem FP {l:List Oper} {a:Act} {w:ak} (S:ak->Prop) (n:Nat) (p:Plan) (hB:tB l n p=true) (hS:S w)
  (h:gM P l Q S n p a w):wpAny P .any l.toArray Q l.toArray.size (kg l.toArray.size false) a w:=by
 simp only[tB,fN,Bool.or_eq_true,decide_eq_true_eq]at hB;obtain⟨⟨hsel,hnn⟩,hp⟩:=hB;have hn:n<=l.length:=by omega
 have hT:lV .any l.toArray n:=by
  rcases hnn with rfl | ⟨⟨hn,hs⟩,hc⟩
  ·have:=yL (md:=.any) (ops:=l.toArray)
   simpa using this
  ·exact yK hs hc (by simpa using hn)
 have inv0:HeadInv .any l.toArray n (kg l.toArray.size false):=
  ⟨by simp,fun j oj _ hl=>(by rw[getD_replicate_false]at hl;cases hl),fun t _ ht=>getD_in (by simpa using ht) (getD_replicate_false _ _)⟩
 have H:=FO (md:=.any) hsel hT hn p n _ a w inv0 (by simpa using hp) hS h;have:=oe (g:=l.length - n) (fun listed a' w' hL=>by
  have:=wpAny_of_seq (md:=.any) (Q':=Q) (l.drop n) n listed a' w' (fun j=>by simp[kf]) (by rw[dx];exact hL.1) hL.2
  rwa [dx]at this) _ _ _ _ (tA (Q:=Q) _ _ _ _ H)
 rw[show n+(l.length - n)=l.toArray.size by simp;omega]at this;exact this
theorem ex {id:Nat} {a:Act} {w:ak} {l:List Oper} (S:ak->Prop) (n:Nat) (p:Plan) (hm:P.follows .mixedOrders=true) (hB:tB l n p=true) (hS:S w.drew)
  (h:gM P l Q S n p a w.drew):(Code.region id l.toArray true).wp P Q a w:=
 wp_region_any hm (FP S n p hB hS h)
end
end
section
attribute [-simp] isAgg51 zeroValue51 isAgg205 zeroValue205 isAgg304 zeroValue304 isAgg226 zeroValue226 isAgg207 zeroValue207 isAgg198 zeroValue198 isAgg23 zeroValue23
attribute [-go_sem] aE aL cZ
theorem tC (w:ak):(zeroValue 196).run aj w=.ok (al #[ab af 0,ab aD 0]) w:=by kernel_rfl
attribute [local go_sem] tC bC bD cV eM eN eO ig ek gA ie lS lT gB gC sT Oper.semAt_some
section
theorem FQ {rb p0 p1 m:Nat} {S:RS} {M:MS} {w:ak} {f:Nat->Prop} (h:cS (aX rb p0 p1 S) (fX m rb M) w f) (hr:S.Rdy) (hok:M.Ok S) {v:am} {bs:List Int} (hv:Sl aq w v bs) (hbs:aP bs) (hl:bs.length=M.b.length) (ha:jw v f):
  az aj 60 #[ao (some ⟨m,0,none⟩),v] w fun e w'=>e=ar (ab af (S.cmt M bs).2)/\∃f',(if(S.cmt M bs).2=0 then cS (aX rb p0 p1 (S.cmt M bs).1) (fX m rb (M.next bs))else aX rb p0 p1 (S.cmt M bs).1) w' f'/\Turn f f' w w':=by
 obtain⟨Po,hPo⟩:∃Po:ea,(if(S.cmt M bs).2=0 then cS (aX rb p0 p1 (S.cmt M bs).1) (fX m rb (M.next bs))else aX rb p0 p1 (S.cmt M bs).1)=Po:=⟨_,rfl⟩;have HPO:=ae hPo;rw[hPo];obtain⟨er,her⟩:=w9nm ((S.cmt M bs).2);have HER:=ae her;rw[her];have HSEP:=ae h;obtain⟨f1,f2,hR,⟨Bb,cb,Bh,ch,a,q,hM,hf2⟩,hD,hf⟩:=h;subst hf2;have hN:=Geo.nats hok.good;have HFF:=ae hf;have hpc:=hok.pcs;have hpc':=hok.pcs' hl;have hb2:M.b.length<=714:=by have:=hok.len;have:=hN.b2;omega
 have HCK:=ae (lL hbs);have HCP:Hid (∀x,w9b w x->az aj 145 #[ao (some ⟨m,0,none⟩)] x fun e w'=>e=ar (ab af (S.bat [M.homW,M.supW]).2)/\∃f',(if(S.bat [M.homW,M.supW]).2=0 then cS (aX rb p0 p1 (S.bat [M.homW,M.supW]).1) (fX m rb M.ckpt)else aX rb p0 p1 (S.bat [M.homW,M.supW]).1) w' f'/\Turn f f' x w'):=fun x hx=>FA (((aX.isRes rb p0 p1 S).sep (fX.isRes m rb M)).below HSEP.out hx) hr hok;have HHL:Hid ((aM bs).length=M.g.P):=by show _=_;rw[it,hpc']
 have HHW:Hid ((aM M.b).length=M.g.P):=by show _=_;rw[it,hpc]
 have HDI:=ae (FI hok hl);have HT1:Hid (M.dif bs≠ []->TailOk S M (M.dif bs)):=fun hd=>hok.tail hr hl hbs hd;have HT2:Hid (M.dif bs≠ []->TailOk (S.bat [M.homW,M.supW]).1 M.ckpt (M.dif bs)):=fun hd=>hok.tail2 hr hl hbs hd;have HOK:=ae hok;have HRY:=ae hr;have HM:=ae hM;have HR:=ae hR;have HVS:=ae hv;have HBS:=ae hbs;have HLN:=ae hl;have HVA:=ae ha;have HD:Hid (∀k,f1 k->k≠m/\k≠Bb/\k≠Bh):=fun k hk=>⟨fun e=>hD k hk (aA e),fun e=>hD k hk (aC (aA e)),fun e=>hD k hk (aC (aC e))⟩;have hP2:2<=M.g.P:=hN.p1;have hP15:M.g.P<=15:=hN.p2;obtain⟨P,hP⟩:=w9nm M.g.P;rw[hP]at hP2 hP15 HHL HHW HDI hpc hpc';have hmx:=w9x
 have c1:w.cell? ⟨m,1,none⟩=some (ag (some ⟨Bb,0,none⟩) M.b.length cb):=hM.row.cell 1 _ rfl;have HCUT1:Hid (∀x,w9b w x->az aj 128 #[ag (some ⟨Bb,0,none⟩) M.b.length cb] x fun e w'=>∃g c cur,e=ar (ag (some ⟨g,0,none⟩) P c)/\PgsR w' (ag (some ⟨g,0,none⟩) P c) g (aM M.b)/\x.heap.size<=g/\w'.heap[g]? =some (ap cur 205 (0,0))/\ah x.heap.size x w'):=fun x hx=>by
  have:=qe x (hM.below hx).sl hok.bytes (by omega) (by rw[hpc];omega)
  rwa [hpc]at this
 have HCUT2:Hid (∀x,w9b w x->az aj 128 #[v] x fun e w'=>∃g c cur,e=ar (ag (some ⟨g,0,none⟩) P c)/\PgsR w' (ag (some ⟨g,0,none⟩) P c) g (aM bs)/\x.heap.size<=g/\w'.heap[g]? =some (ap cur 205 (0,0))/\ah x.heap.size x w'):=fun x hx=>by
  have:=qe x (hv.below hx) hbs (by omega) (by rw[hpc'];omega)
  rwa [hpc']at this
 have hne:bs≠ []:=by intro e;rw[e]at hl;have:=hM.b0;simp at hl;omega
 obtain⟨Bv,ov,cv,rfl,hvl⟩:∃Bv ov cv,v=ag (some ⟨Bv,ov,none⟩) bs.length cv/\Bv<w.heap.size:=by
  obtain⟨a',c',e,_,_,hla,_⟩:=hv;rcases hla with h0 | ⟨b',o',e',h3,_⟩
  ·exact absurd h0 hne
  ·exact⟨b',o',c',by rw[e,e'],h3⟩
 have HVF:Hid (¬f1 Bv/\Bv≠m/\Bv≠Bb/\Bv≠Bh/\Bv<w.heap.size):=by
  have hn:=ha Bv ov bs.length cv rfl;rw[hf]at hn;exact⟨fun h=>hn (aA h),fun h=>hn (aC (aA h)),fun h=>hn (aC (aC (aA h))),fun h=>hn (aC (aC (aC h))),hvl⟩
 obtain⟨n,hn⟩:=w9nm M.b.length;have HN:=ae hn;rw[hl,hn]at HVS HVA HCUT2;rw[hn]at c1 HCUT1;rw[hl,hn];clear hR hM hD hN hpc hpc' hb2 hr hok hbs hl hne hP hn hv ha hf hPo her hvl;refine(callsIn_wide (n:=3)).1 ?_;refine jf func60 rfl trivial ?_ rfl;simp only[ntmps60,dU,cK,dP,Nat.reduceAdd,Nat.reduceSub,ez,eA,eD,eF,dT,dX];obtain⟨W0,hW0⟩:=w9nm (w.alloc (ap #[ag none 0 0] 223));have b0:ah w.heap.size w W0:=by rw[←hW0];exact aR w _
 have hbx:Boxed W0 w.heap.size 223 (ag none 0 0):=by rw[←hW0];exact dY w _ _
 have c1':W0.cell? ⟨m,1,none⟩=some (ag (some ⟨Bb,0,none⟩) n cb):=(b0.cell (p:=⟨m,1,none⟩) HM.out.lt.1).trans c1;obtain⟨Bi,hBi⟩:=w9nm w.heap.size;have HBI:=ae hBi;rw[hBi]at hbx;have HZ0:Hid (W0.heap.size=Bi+1):=by show _=_;rw[←hW0,dy,hBi]
 have HB0:=ae b0;have HX0:=ae hbx;clear b0 hbx
 gi_wp2_with (first | (refine⟨trivial, ?_⟩;gi_at_call 128;refine(callsIn_wide.2 (HCUT1.out W0 HB0.out)).mono ?_;rintro e x1 ⟨Bp,cp,cur,rfl,hpg,hBp,hcur,hb⟩;have K1:w9h w x1:=HB0.out.trans (hb.mono HB0.out.size);have X1:Hid (Boxed x1 Bi 223 (ag none 0 0)):=HX0.out.kept (fS hb none) (by simp);have P1:=ae hpg;have Z01:Hid (W0.heap.size<=x1.heap.size):=hb.size;have L1:Hid (W0.heap.size<=Bp):=hBp;clear hpg hBp hcur hb HX0 HB0) | (refine⟨trivial, ?_⟩;gi_at_call 128;refine(callsIn_wide.2 (HCUT2.out x1 K1.out)).mono ?_;rintro e x2 ⟨Bq,cq,cur2,rfl,hpg,hBp,hcur,hb⟩;have K2:w9h w x2:=K1.out.trans (hb.mono K1.out.size);have X2:Hid (Boxed x2 Bi 223 (ag none 0 0)):=X1.out.kept (fS hb none) (by simp);have P2:=ae hpg;have P1':=ae (P1.out.below hb);have L2:Hid (x1.heap.size<=Bq/\W0.heap.size<=x1.heap.size):=⟨hBp,Z01.out⟩;clear hpg hBp hcur hb X1 P1 K1) | (refine⟨trivial, ?_⟩;gi_at_call 143;refine(callsIn_wide.2 (yc _ _ _ _ _ _ x2)).mono ?_;rintro e x3 ⟨rfl,hx3⟩;have HX3:=ae hx3;clear hx3))
 have hx3:=HX3.out;obtain⟨Bw,hBw⟩:=w9nm x2.heap.size;have b3:ah x2.heap.size x2 x3:=by rw[hx3];exact(aR x2 _).trans ((aR _ _).mono (by simp))
 have hPW:PgsB x3 Bw Bp (aM M.b):=by
  refine⟨⟨ag (some ⟨Bp,0,none⟩) P cp, ?_,P1'.out.below b3⟩, ?_⟩
  ·rw[hx3,←hBw];exact(dY x2 _ _).alloc _
  ·rw[hx3,←hBw,dy,dy];omega
 have hPN:PgsB x3 (Bw+1) Bq (aM bs):=by
  refine⟨⟨ag (some ⟨Bq,0,none⟩) P cq, ?_,P2.out.below b3⟩, ?_⟩
  ·rw[hx3,←hBw];have:=dY (x2.alloc (ap #[ag (some ⟨Bp,0,none⟩) P cp] 109)) 109 (ag (some ⟨Bq,0,none⟩) P cq)
   rwa [dy]at this
  ·rw[hx3,←hBw,dy,dy];omega
 have hlt3:∀k,SD (Bw+1) Bq Bw Bp k->k<x3.heap.size/\k≠Bi:=by
  have hz:=HZ0.out;have h2:=L2.out;have h1:=L1.out;have h3:=b3.size;have hp1:=P1'.out.lt;have hp2:=P2.out.lt;rintro k (rfl | rfl | rfl | rfl)
  ·exact⟨hPN.lt,by omega⟩
  ·exact⟨by omega,by omega⟩
  ·exact⟨hPW.lt,by omega⟩
  ·exact⟨by omega,by omega⟩
 have HLT:=ae hlt3;have HBX:Hid (Boxed x3 Bi 223 (ag none 0 0)):=X2.out.kept (fS b3 none) (by simp);have K3:=w9bt K2 b3;have HIT:=ae (yd 2 (by omega) (Bw+1) Bq Bw Bp P (aM M.b) (aM bs) HHL.out HHW.out x3 hPN hPW);have HBl:Hid (Bi<x3.heap.size):=HBX.out.lt;have HLB:=ae (fun x hx=>(HCK.out x hx).1);have HKA:Hid (∀(W W':ak),x3.heap.size<=W.heap.size->ah W.heap.size W W'->dH (SD (Bw+1) Bq Bw Bp) W W'):=fun W W' h h'=>⟨h'.size,fun k hk=>h'.block k (aU (HLT.out k hk).1 h)⟩;rw[hBw];clear b3 hPW hPN hlt3 hx3 hBw hW0 c1' P1' P2 X2 HCUT1 HCUT2;refine wpIn_rangeFunc_ownH (n:=3) rfl (by omega) (gf:= 220) (lb:=#[ao (some ⟨Bw+1,0,none⟩),ao (some ⟨Bw,0,none⟩)]) rfl trivial (enters_of func220 (by kernel_rfl) rfl)
  HIT.out iW (nj (fun k hk=>(HLT.out k hk).1)) (aF _ _) (fun _=>rfl)
  (fun pre W=>(∃v,Boxed W Bi 223 v/\W.ownsRow x3.heap.size 226 49 v (bI (kb (aM bs) pre)).length (bI (kb (aM bs) pre)).flatten)/\(x3.heap.size<=W.heap.size/\∀k,k<x3.heap.size->k≠Bi->W.heap[k]? =x3.heap[k]?)/\ah Bi w W)
  (fun _ _ _=>False)
  ?hI ?hIx ⟨⟨_,HBX.out,ft _ _ _ _⟩,⟨aJ _,fun _ _ _=>rfl⟩,by rw[←hBi];exact K3.out⟩
  (fun x a' W=>∃C,x3.heap.size<=C/\aB W C 205 (an (aY (aM bs) x.1))/\a'={tmps:=#[ao (some ⟨m,0,none⟩),ag (some ⟨Bv,ov,none⟩) n cv,aK,aK,ab af 0,ao (some ⟨Bi,0,none⟩),ab af (x.1:Int),ao (some ⟨C,0,none⟩),aK,aK,aK,aK,ao (some ⟨m,0,none⟩),.bool false,.bool false,ag (some ⟨Bv,ov,none⟩) n cv,ab af (n:Int),ao (some ⟨m,0,none⟩),ao (some ⟨m,0,none⟩),ao (some ⟨m,1,none⟩),ag (some ⟨Bb,0,none⟩) n cb,ab af (n:Int),.bool false,.bool false,ao (some ⟨m,0,none⟩),ao (some ⟨m,0,none⟩),ao (some ⟨m,1,none⟩),ag (some ⟨Bb,0,none⟩) n cb,ag (some ⟨Bp,0,none⟩) P cp,ag (some ⟨Bv,ov,none⟩) n cv,ag (some ⟨Bq,0,none⟩) P cq,.func (.func 220) #[] #[ao (some ⟨Bw+1,0,none⟩),ao (some ⟨Bw,0,none⟩)],ab af (x.1:Int),al (an (aY (aM bs) x.1)).toArray,aK,aK,aK,aK,aK,aK,aK,aK,aK,aK,aK,aK,aK,aK,aK,aK,aK,aK,aK,aK,aK,aK,aK,aK,aK,aK,aK,aK,aK,aK,aK,aK,aK,aK,aK,aK,aK,aK,aK,aK,aK,aK,aK,aK,aK,aK,aK,aK,aK,aK,aK,aK,aK,aK,aK,aK,aK,aK,aK,aK,aK,aK,aK,aK,aK,aK,aK,aK,aK,aK,aK,aK,aK,aK,aK,aK,aK],defers:= []})
  ?hAx ?assign ?body ?done ?stop
 case hI=>
  rintro s X Y row ⟨⟨v,h1,h2⟩,⟨h3,h4⟩,h5⟩ hg hr;exact⟨⟨v,boxed_own _ _ (fun _:Unit=>_) () X Y row h1 hg (fun r e=>(hr r e).2),yo h2 hg hr⟩,⟨aZ h3 hg.size,fun k hk hn=>(hg.block k (aU hk h3) (fun e=>by have:=(hr k e.symm).1;omega)).trans (h4 k hk hn)⟩,ownFrom_below (β:=Unit) (B:=x3.heap.size) (Nat.le_of_eq hBi.symm) (by have:=HBl.out;omega) () X Y row h5 hg hr⟩
 case hIx=>exact fun _ _ _ _ _ h _ _=>h.elim
 case assign=>
  rintro l pre x W K ⟨⟨v,h1,h2⟩,⟨h3,h4⟩,h5⟩ hK;have hxn:(aY (aM bs) x.1).length=48:=by
   have hx:x.1< (aM bs).length:=by rw[HHL.out];exact x.2
   have e:(aM bs)[x.1]? =some (aY (aM bs) x.1):=by unfold aY;rw[bJ hx];rfl
   exact HLB.out _ (dI e)
  obtain⟨y,ST,hr,hb⟩:=nG W hxn;obtain⟨C,hC⟩:=w9nm W.heap.size;have hlt:x3.heap.size<=C:=by omega
  have hK:=hK _ y ((KeepsOthers.of_grownBy (fS hb none) (fun j o e=>by cases e)).from _) (HKA.out W y h3 hb) ⟨⟨v,(hb.block _ h1.lt).trans h1,gI h2 hb⟩,⟨aZ h3 hb.size,fun k hk hn=>(hb.block k (aU hk h3)).trans (h4 k hk hn)⟩,h5.trans (hb.mono (by have:=h1.lt;omega))⟩ ⟨C,hlt,by rw[←hC];exact hr,rfl⟩;rw[hC]at ST;clear h1 h2 h3 h4 h5 hr hb hxn hlt
  dsimp only[kA]
  gi_wp2
  exact hK
 case hAx=>
  rintro x a' _ X Y row ⟨C,h1,h2,h3⟩ hg hr;exact⟨C,h1,kx h2 hg hr,h3⟩
 case body=>
  rintro l pre x a' W _ _ ⟨⟨v,h1,h2⟩,⟨h3,h4⟩,h5⟩ ⟨C,hC,hx,rfl⟩ hlen;have hxm:=x.2;have hxl:x.1< (aM bs).length:=by rw[HHL.out];exact x.2
  have hpx:(aM bs)[x.1]? =some (aY (aM bs) x.1):=by unfold aY;rw[bJ hxl];rfl
  have hp48:=HLB.out _ (dI hpx);obtain⟨ra,nv,cv',hv⟩:=lE h2;subst hv;have c0:W.cell? ⟨Bi,0,none⟩=some (ag ra nv cv'):=h1.cell;have c2:(aE 205 ⟨C,0,none⟩).run aj W=.ok (al (an (aY (aM bs) x.1)).toArray) W:=hx.body hp48;have HWC:=ae (FH (aM bs) pre x);have BI:Hid ((cY 226 #[(0,ab af (x.1:Int)),(1,al (an (aY (aM bs) x.1)).toArray)]).run aj W=.ok (al (Img.cells ⟨(x.1:Int),aY (aM bs) x.1⟩).toArray) W):=vO (x.1:Int) (an (aY (aM bs) x.1)) (by rw[bi];exact hp48) W;have hil:(Img.cells ⟨(x.1:Int),aY (aM bs) x.1⟩).length=49:=Img.cells_length hp48;obtain⟨IC,hIC⟩:=w9nm (Img.cells ⟨(x.1:Int),aY (aM bs) x.1⟩);have hi1:∀v ∈ IC,v.oneCell'=true:=by rw[←hIC];exact Img.cells_one _
  rw[hIC]at HWC BI hil;obtain⟨x4,hx4⟩:=w9nm (W.alloc (ap IC.toArray 226));have SB:Hid ((cO 223 1 #[(0,al IC.toArray)]).run aj W=.ok (ag (some ⟨W.heap.size,0,none⟩) 1 1) x4):=by show _=_;rw[←hx4];exact vP W _ hil
  have b4:ah W.heap.size W x4:=by rw[←hx4];exact aR W _
  have O4:=gI h2 b4;have hBiW:Bi<W.heap.size:=h1.lt;obtain⟨v5,x5,r5,o5,g5, -⟩:=vQ x3.heap.size x4 (ag ra nv cv') (bI (kb (aM bs) pre)) IC W.heap.size O4 hil hi1 (dJ (t:= 226) (by rw[←hx4];exact bR W _)) (by simp[bI,kb];omega) (aZ h3 b4.size);rw[←HWC.out]at o5;obtain⟨ra5,n5,c5,hv5⟩:=lE o5;subst hv5;have R5:=ae r5;have h14:Boxed x4 Bi 223 (ag ra nv cv'):=h1.kept (fS b4 none) (by simp);have h15:=h14.kept g5 (h14.not_row (by decide) O4);have B4:ah Bi w x4:=h5.trans (b4.mono (by omega));have hB3:Bi<x3.heap.size:=HBl.out;have B5:ah Bi w x5:=B4.grown g5 (by have:=b4.size;omega) (fun j e=>by have:=(O4.lt j e).1;omega);obtain⟨y,hy⟩:=w9nm (x5.setCell ⟨Bi,0,none⟩ (ag ra5 n5 c5));have gy:x5.grownBy y (some Bi):=by rw[←hy];exact grownBy_setCell' x5 Bi _
  have h1y:Boxed y Bi 223 (ag ra5 n5 c5):=by rw[←hy];exact h15.set _
  have h2y:=o5.kept gy (aC (fun e=>h15.not_row (by decide) o5 e.symm));have h5y:ah Bi w y:=B5.grown gy (by have:=b4.size;have:=g5.size;omega) (fun j e=>by cases e;exact aJ _);have hblk:∀k,k<x3.heap.size->k≠Bi->y.heap[k]? =x3.heap[k]? :=fun k hk hn=>by
   have hkW:k<W.heap.size:=aU hk h3;have a1:y.heap[k]? =x5.heap[k]? :=gy.block k (by have:=b4.size;have:=g5.size;omega) (fun e=>hn (by cases e;rfl));have a2:x5.heap[k]? =x4.heap[k]? :=g5.block k (by have:=b4.size;omega) (fun e=>by
    have:=(O4.lt k e.symm).1;omega)
   rw[a1,a2,b4.block k hkW];exact h4 k hk hn
  have KF:KeepsFrom x3.heap.size W y:=(((KeepsOthers.of_grownBy (fS b4 none) (fun j o e=>by cases e)).trans (KeepsOthers.of_grownBy g5 (fun j o hj hoj=>rH O4 hj hoj))).trans (by rw[←hy];exact iC _ _ _)).from _;have KS:dH (SD (Bw+1) Bq Bw Bp) W y:=⟨aZ b4.size (aZ g5.size gy.size),fun j hj=>by
   have h:=HLT.out j hj;rw[hblk j h.1 h.2,h4 j h.1 h.2]⟩
  have POST:Hid (KeepsFrom x3.heap.size W y/\dH (SD (Bw+1) Bq Bw Bp) W y/\(∃v,Boxed y Bi 223 v/\y.ownsRow x3.heap.size 226 49 v (bI (kb (aM bs) (pre++ [x]))).length (bI (kb (aM bs) (pre++ [x]))).flatten)/\(x3.heap.size<=y.heap.size/\∀k,k<x3.heap.size->k≠Bi->y.heap[k]? =x3.heap[k]?)/\ah Bi w y):=⟨KF,KS,⟨_,h1y,h2y⟩,⟨aZ h3 (aZ b4.size (aZ g5.size gy.size)),hblk⟩,h5y⟩;have c5':=h15.cell;have f5':=h15.frozen;clear hxm hxl hpx hp48 hIC hi1 hil hx4 b4 O4 hBiW r5 o5 g5 h14 h15 B4 B5 gy h1y h2y h5y hblk KF KS h1 h2 h3 h4 h5 hx;gi_step
  gi_step
  refine oV (lZ uL) (by kernel_rfl) ?_;go_wp2_with (first | ((with_reducible refine gU 226 ?_);refine fJ _ _ rfl rfl [(0,ab af (x.1:Int)),(1,al (an (aY (aM bs) x.1)).toArray)] _ rfl BI.out ?_) | ((with_reducible refine gG ?_);refine dq _ _ _ rfl rfl [(0,al IC.toArray)] _ rfl SB.out ?_) | (at_builtin;refine wpList_append_run (.tmp 34) (.tmp 38) 223 rfl rfl _ _ _ rfl rfl R5.out ?_));exact POST.out
 case done=>
  rintro D xs W hD rfl ⟨⟨vi,h1,h2⟩,⟨h3,h4⟩,h5⟩ hK;rw[←HDI.out]at h2;have hBi3:Bi<x3.heap.size:=HBl.out;have HMW:Hid (MemAt m rb Bb cb Bh ch a q M W):=by
   have hl:=HM.out.lt;exact HM.out.keep (h5.block m (by omega)) (h5.block Bb (by omega)) (h5.block Bh (by omega))
  have HBW:Hid (ah w.heap.size w W):=by show ah _ _ _;rw[hBi];exact h5
  have HRW:Hid (aX rb p0 p1 S W f1):=HR.out.beside HBW.out;have HKD:=ae hK;have H1:=ae h1;have H2:=ae h2;have HDD:Hid (w.heap.size<=D):=by show _<=_;omega
  obtain⟨t,ht⟩:=w9nm (M.dif bs);rw[ht]at H2 HT1 HT2;have HT:=ae ht;have htl:(bI t).length=t.length:=jF t;rw[htl]at H2;obtain⟨ri,ci,hvi,hrow⟩:=fR H2.out;subst hvi;have HROW:=ae hrow;have c5:W.cell? ⟨Bi,0,none⟩=some (ag ri t.length ci):=h1.cell;clear h1 h2 h3 h4 h5 hK ht htl hrow HX3 HIT HKA;by_cases hd:t= []
  ·have HC:=ae (yH S (M:=M) (b:=bs) (by rw[HT.out];exact hd));have hl0:t.length=0:=by rw[hd];rfl
   rw[hl0]at c5;clear hd hl0
   gi_wp2_with fail
   refine⟨by simp,aA ⟨_,_,rfl,iD HKD.out, ?_⟩⟩;refine⟨_,results_tmp rfl _ _ _,by rw[←HER.out,HC.out.1];rfl, ?_⟩;have hbp:ah w.heap.size w (W.putObj D (.deferred none)):=HBW.out.trans (belowK_b (w:=w) (aJ _) W D _ _ HDD.out HKD.out rfl rfl);refine⟨f, ?_,Turn.of_below hbp⟩;rw[←HPO.out,HC.out.1,HC.out.2,if_pos rfl];exact((aX.isRes rb p0 p1 S).sep (fX.isRes m rb M)).below HSEP.out hbp
  ·have hlen0:0<t.length:=by cases t with | nil=>exact absurd rfl hd | cons _ _=>simp
   have g8:((t.length:Int)==0)=false:=by simp;exact hd
   have HDN:Hid (M.dif bs≠ []):=by show _≠_;rw[HT.out];exact hd
   have HTA:=ae (HT1.out hd);have HTB:=ae (HT2.out hd);obtain⟨gi,rfl,hgl,hgr⟩:=HROW.out hlen0;have hgN:w.heap.size<=gi:=by
    obtain⟨g',c',e',hN',_⟩:=jm H2.out hlen0;cases e';exact aZ K3.out.size hN'
   have hBiW:Bi<W.heap.size:=H1.out.lt;have hDW:D<W.heap.size:=(cj.1 HKD.out).1;have HGI:Hid (w.heap.size<=gi/\gi<W.heap.size/\w.heap.size<=Bi/\Bi<W.heap.size/\w.heap.size<=D/\D<W.heap.size):=⟨hgN,hgl,Nat.le_of_eq hBi,hBiW,HDD.out,hDW⟩;have HGR:=ae hgr;have HFL:Hid (∀k,f k->k<w.heap.size):=fun k hk=>(((aX.isRes rb p0 p1 S).sep (fX.isRes m rb M)).lt HSEP.out k hk);have htl100:t.length<=300:=by have:=HTA.out.txn.most;have:=(Geo.nats HTA.out.good).c2;omega
   have c5z:∀z:aI W,z.1.cell? ⟨Bi,0,none⟩=some (ag (some ⟨gi,0,none⟩) t.length ci):=fun z=>(z.2.cell (p:=⟨Bi,0,none⟩) hBiW).trans c5;have c14z:∀z:aI W,z.1.cell? ⟨m,14,none⟩=some (ab af M.room):=fun z=>(HMW.out.row.below z.2).cell 14 _ rfl;have HFU:Hid (M.full bs↔M.room< (t.length:Int)+1):=by show _↔_;rw[←HT.out];exact Iff.rfl
   obtain⟨tn,htn⟩:=w9nm t.length;have HTN:=ae htn;rw[htn]at c5 g8 c5z HFU htl100;clear hd hlen0 hgl hgr hgN hBiW hDW HT1 HT2 HBX HLT HLB HBl hBi3 H2 HROW htn;gi_step
   gi_step
   refine wpIn_wide.2 ?_;go_wp2_with fail;refine ex (fun x=>∃y:aI W,x=y.1) 6 (.takes [0,2,3,4,5] (.one 1 .leaf)) hmx (by kernel_rfl) ⟨⟨W.drew,(aF _ W).drew⟩,rfl⟩ ?_;repeat(rw[cP];simp only[au,ay];go_big_quiet_step (fail);refine aO ?_)
   rw[cT,bU];simp only[au,ay];clear c5z c14z;obtain⟨V,hV⟩:=w9nm W.drew;have bV:ah W.heap.size W V:=by rw[←hV];exact(aF _ W).drew
   try rw[hV]
   have hVs:V.heap.size=W.heap.size:=by rw[←hV];rfl
   clear hV;go_wp2_with fail;go_at_call 144;refine(sQ (some ⟨gi,0,none⟩) tn ci (by omega) V).mono ?_;rintro e V' ⟨rfl,hv'⟩;obtain rfl:=hv'.symm;clear hv';go_wp2_with fail;refine aG ⟨⟨V,bV⟩,rfl⟩ ?_;rw[dW];simp only[be,bf];have HV:=ae bV;have HWV:=w9bt HBW bV;go_upto_if 49 with(fail)
   go_cut [8]from 49 to 54 (fun s8 wx=>∃(S1:RS) (M1:MS) (fx f1x:Nat->Prop) (Bbx cbx Bhx chx:Nat) (ax qx:Int),Hid (Turn f fx w wx)/\Hid (∀k,w.heap.size<=k->k<W.heap.size->wx.heap[k]? =W.heap[k]?)/\Hid (∀k,fx k->¬(w.heap.size<=k/\k<W.heap.size))/\Hid (wx.heap[D]? =some (.deferred (some [])))/\Hid (wx.heap[Bv]? =w.heap[Bv]?)/\Hid (S.cmt M bs=S1.bat (M1.appW bs)/\M.next bs=M1.app bs)/\Hid (TailOk S1 M1 t)/\Hid (M1.dif bs=t)/\Hid (M1.b.length=n)/\Hid (aX rb p0 p1 S1 wx f1x)/\Hid (MemAt m rb Bbx cbx Bhx chx ax qx M1 wx)/\Hid (∀k,f1x k->¬(k=m\/k=Bbx\/k=Bhx))/\Hid (fx=fun k=>f1x k\/k=m\/k=Bbx\/k=Bhx))
   case first=>
    by_cases hf:M.room< (tn:Int)+1
    ·have gd:decide ((tn:Int)+1>M.room)=true:=decide_eq_true hf;have gd':decide (M.room< (tn:Int)+1)=true:=gd;have HCF:=ae (yI S HDN.out (HFU.out.2 hf));have HC0:=ae (HCP.out V HWV.out);obtain⟨B2,hB2⟩:=w9nm (S.bat [M.homW,M.supW]);have hB2e:B2.2=0\/B2.2=14:=by rw[←hB2];exact RS.bat_e _ _
     rw[hB2]at HCF HC0 HTB;have hf2:¬(tn:Int)+1<=M.room:=by omega
     clear HCP hB2 bV;go_wp2_with fail;go_at_call 145;refine HC0.out.mono ?_;rintro e X ⟨rfl,fx,hPx,hTx⟩;have hKx:∀k,w.heap.size<=k->k<W.heap.size->X.heap[k]? =W.heap[k]? :=fun k h1 h2=>(hTx.out k (by omega) (fun h=>by have:=HFL.out k h;omega)).trans (HV.out.block k h2);have HKX:=ae hKx;have HTX:Hid (Turn f fx w X):=(Turn.of_below HWV.out).trans hTx;have HVX:Hid (X.heap[Bv]? =w.heap[Bv]?):=(HTX.out.out Bv HVF.out.2.2.2.2 (fun h=>by
      rw[HFF.out]at h;rcases h with h | h | h | h
      ·exact HVF.out.1 h
      ·exact HVF.out.2.1 h
      ·exact HVF.out.2.2.1 h
      ·exact HVF.out.2.2.2.1 h))
     have HNX:Hid (∀k,fx k->¬(w.heap.size<=k/\k<W.heap.size)):=fun k hk h=>by
      rcases hTx.new k hk with h1 | h1
      ·have:=HFL.out k h1;omega
      ·omega
     have HKDX:Hid (X.heap[D]? =some (.deferred (some []))):=(hKx D HGI.out.2.2.2.2.1 HGI.out.2.2.2.2.2).trans HKD.out;clear hKx hTx HC0;by_cases h0:B2.2=0
     ·rw[if_pos h0]at hPx;rw[h0];have HCM:Hid (S.cmt M bs=B2.1.bat (M.ckpt.appW bs)/\M.next bs=M.ckpt.app bs):=by refine(?_:_/\_);rw[HCF.out.1,HCF.out.2,if_pos h0];exact⟨rfl,rfl⟩
      obtain⟨f1x,f2x,hRx,⟨Bbx,cbx,Bhx,chx,ax,qx,hMx,rfl⟩,hDx,hfx⟩:=hPx;have HTLX:=HTB;have HDF:Hid (M.ckpt.dif bs=t):=HT.out;obtain⟨M1,hM1⟩:∃M',M.ckpt=M':=⟨_,rfl⟩;have HMB:Hid (M1.b.length=n):=by show _=_;rw[←hM1];exact HN.out
      rw[hM1]at hMx HCM HTLX HDF;obtain⟨S1,hS1⟩:∃S',B2.1=S':=⟨_,rfl⟩;rw[hS1]at hRx HCM HTLX;clear h0 hB2e HCF hM1 hS1;have HRQ:=ae hRx;have HMQ:=ae hMx;have HDQ:=ae hDx;have HFQ:=ae hfx;clear hRx hMx hDx hfx;go_wp2_with fail
      go_meet
      exact⟨S1,M1,fx,f1x,Bbx,cbx,Bhx,chx,ax,qx,HTX,HKX,HNX,HKDX,HVX,HCM,HTLX,HDF,HMB,HRQ,HMQ,HDQ,HFQ⟩
     ·have h14:B2.2=14:=hB2e.resolve_left h0;rw[if_neg h0]at hPx;rw[h14];have HCM:Hid (S.cmt M bs=B2):=by show _=_;rw[HCF.out.1,if_neg h0]
      have HPX:=ae hPx;have HE14:Hid (B2.2=14):=h14;clear h0 hB2e h14 hPx;go_wp2_with fail;refine⟨by simp,aA ⟨_,_,rfl,iD HKDX.out, ?_⟩⟩;refine⟨_,results_tmp rfl _ _ _,by rw[←HER.out,HCM.out,HE14.out];rfl, ?_⟩;have hg:=grownBy_putObj' X D (.deferred none);have hnx:∀k,fx k->(X.putObj D (.deferred none)).heap[k]? =X.heap[k]? :=fun k hk=>hg.block k ((aX.isRes rb p0 p1 B2.1).lt HPX.out k hk) (fun e=>HNX.out k hk (by cases e;exact⟨HGI.out.2.2.2.2.1,HGI.out.2.2.2.2.2⟩));refine⟨fx, ?_,HTX.out.kept hg (fun r e=>by cases e;exact HGI.out.2.2.2.2.1)⟩;rw[←HPO.out,HCM.out,if_neg (by rw[HE14.out];decide)];exact(aX.isRes rb p0 p1 B2.1).out HPX.out hnx
    ·have HCM:Hid (S.cmt M bs=S.bat (M.appW bs)/\M.next bs=M.app bs):=yJ S HDN.out (fun h=>hf (HFU.out.1 h));have gd:decide ((tn:Int)+1>M.room)=false:=decide_eq_false hf;have gd':decide (M.room< (tn:Int)+1)=false:=gd;obtain⟨X,hVX⟩:=w9nm V;rw[hVX]at bV HV HWV;rw[hVX];obtain⟨fx,hfxf⟩:=w9nm f;have hRx:aX rb p0 p1 S X f1:=HR.out.beside HWV.out;have hMx:=HMW.out.below bV;have HTX:Hid (Turn f fx w X):=by show Turn _ _ _ _;rw[←hfxf];exact Turn.of_below HWV.out
     have HKX:Hid (∀k,w.heap.size<=k->k<W.heap.size->X.heap[k]? =W.heap[k]?):=fun k _ h2=>bV.block k h2;have HNX:Hid (∀k,fx k->¬(w.heap.size<=k/\k<W.heap.size)):=fun k hk h=>by rw[←hfxf]at hk;have:=HFL.out k hk;omega
     have HKDX:Hid (X.heap[D]? =some (.deferred (some []))):=(bV.block D HGI.out.2.2.2.2.2).trans HKD.out;have HVX:Hid (X.heap[Bv]? =w.heap[Bv]?):=HWV.out.block Bv HVF.out.2.2.2.2;have hDx:∀k,f1 k->¬(k=m\/k=Bb\/k=Bh):=fun k hk h=>by
      have:=HD.out k hk;rcases h with h | h | h
      ·exact this.1 h
      ·exact this.2.1 h
      ·exact this.2.2 h
     have hfx:fx=fun k=>f1 k\/k=m\/k=Bb\/k=Bh:=hfxf.symm.trans HFF.out;have HTLX:=HTA;have HDF:Hid (M.dif bs=t):=HT.out;obtain⟨M1,hM1⟩:∃M',M=M':=⟨_,rfl⟩;rw[hM1]at hMx HCM HTLX HDF;obtain⟨S1,hS1⟩:∃S',S=S':=⟨_,rfl⟩;have HCM:Hid (S.cmt M bs=S1.bat (M1.appW bs)/\M.next bs=M1.app bs):=by rw[←hS1,←hM1];rw[←hM1]at HCM;exact HCM
     rw[hS1]at hRx HTLX;have HMB:Hid (M1.b.length=n):=by show _=_;rw[←hM1];exact HN.out
     obtain⟨f1x,hf1x⟩:=w9nm f1;rw[hf1x]at hRx hDx hfx;obtain⟨Bbx,hb1⟩:=w9nm Bb;obtain⟨Bhx,hb2⟩:=w9nm Bh;obtain⟨cbx,hb3⟩:=w9nm cb;obtain⟨chx,hb4⟩:=w9nm ch;obtain⟨ax,hb5⟩:=w9nm a;obtain⟨qx,hb6⟩:=w9nm q;rw[hb1,hb2,hb3,hb4,hb5,hb6]at hMx;rw[hb1,hb2]at hDx hfx;clear hVX hfxf hM1 hS1 hf1x hb1 hb2 hb3 hb4 hb5 hb6 bV HCP;have hf2:(tn:Int)+1<=M.room:=by omega
     have HRQ:=ae hRx;have HMQ:=ae hMx;have HDQ:=ae hDx;have HFQ:=ae hfx;clear hRx hMx hDx hfx;go_wp2_with fail
     go_meet
     exact⟨S1,M1,fx,f1x,Bbx,cbx,Bhx,chx,ax,qx,HTX,HKX,HNX,HKDX,HVX,HCM,HTLX,HDF,HMB,HRQ,HMQ,HDQ,HFQ⟩
   case rest=>
    obtain⟨S1,M1,fx,f1x,Bbx,cbx,Bhx,chx,ax,qx,HTX,HKX,HNX,HKDX,HVX,HCM,HTLX,HDF,HMB,HRQ,HMQ,HDQ,HFQ⟩:=hcut;have hRx:=HRQ.out;have hMx:=HMQ.out;have hDx:=HDQ.out;have hfx:=HFQ.out;clear HRQ HMQ HDQ HFQ HV HWV bV HCP HTA HTB HRW HMW HBW;have hN:=Geo.nats HTLX.out.good;have hgr:M1.g.r=(M1.g.C:Int):=hN.c.symm;have hmlt:=hMx.lt;have hFlt:∀k,f1x k->k<wc.heap.size:=fun k hk=>(aX.isRes rb p0 p1 S1).lt hRx k hk;have hfi:∀k,f1x k->fx k:=fun k hk=>by rw[hfx];exact aA hk
    have hfm:fx m:=by rw[hfx];exact aC (aA rfl)
    have hbi:=HKX.out Bi HGI.out.2.2.1 HGI.out.2.2.2.1;have cX5:wc.cell? ⟨Bi,0,none⟩=some (ag (some ⟨gi,0,none⟩) tn ci):=(cL (a:=⟨Bi,0,none⟩) hbi).trans c5;have hgi:=HKX.out gi HGI.out.1 HGI.out.2.1;have grX:wc.rangeAt gi 0 (bI t).flatten:=da HGR.out hgi;have hgiX:gi<wc.heap.size:=by
     rw[Array.getElem?_eq_getElem HGI.out.2.1]at hgi;exact(cj.1 hgi).1
    have hBiX:Bi<wc.heap.size:=by
     rw[Array.getElem?_eq_getElem HGI.out.2.2.2.1]at hbi;exact(cj.1 hbi).1
    have hDX:D<wc.heap.size:=(cj.1 HKDX.out).1;have hnr:¬f1x gi/\¬f1x Bi/\¬f1x D:=⟨fun h=>HNX.out _ (hfi _ h) ⟨HGI.out.1,HGI.out.2.1⟩,fun h=>HNX.out _ (hfi _ h) ⟨HGI.out.2.2.1,HGI.out.2.2.2.1⟩,fun h=>HNX.out _ (hfi _ h) ⟨HGI.out.2.2.2.2.1,HGI.out.2.2.2.2.2⟩⟩;have hmBi:m≠Bi/\m≠D:=⟨fun e=>HNX.out m hfm (by rw[e];exact⟨HGI.out.2.2.1,HGI.out.2.2.2.1⟩),fun e=>HNX.out m hfm (by rw[e];exact⟨HGI.out.2.2.2.2.1,HGI.out.2.2.2.2.2⟩)⟩;have LG:(aE 23 ⟨m,4,none⟩).run aj wc=.ok (al M1.g.v) wc:=hMx.row.geoAt (g:=M1.g) (pre:= [ao (some ⟨rb,0,none⟩),ag (some ⟨Bbx,0,none⟩) M1.b.length cbx,ag (some ⟨Bhx,0,none⟩) M1.home.length chx,ab aD M1.gen]) (post:= [ab af ax,ab aD qx,ab af M1.sup,ab af M1.at0,ab aD M1.seq,ab af M1.room]) rfl;obtain⟨x1,ST1,r1,hb1'⟩:=yz wc M1.g;obtain⟨Bg,hBg⟩:=w9nm wc.heap.size;rw[hBg]at ST1 r1;have hM1':=hMx.below hb1';have d0:∀z:kY m Bg Bi x1,z.1.cell? ⟨m,0,none⟩=some (ao (some ⟨rb,0,none⟩)):=fun z=>(cL (a:=⟨m,0,none⟩) z.2.1).trans (hM1'.row.cell 0 _ rfl);have d12:∀z:kY m Bg Bi x1,z.1.cell? ⟨m,12,none⟩=some (ab af M1.at0):=fun z=>(cL (a:=⟨m,12,none⟩) z.2.1).trans (hM1'.row.cell 12 _ rfl);have d13:∀z:kY m Bg Bi x1,z.1.cell? ⟨m,13,none⟩=some (ab aD M1.seq):=fun z=>(cL (a:=⟨m,13,none⟩) z.2.1).trans (hM1'.row.cell 13 _ rfl);have dg:∀z:kY m Bg Bi x1,(aE 23 ⟨Bg,0,none⟩).run aj z.1=.ok (al M1.g.v) z.1:=fun z=>cF (z.2.2.1.trans r1);have dg4:∀z:kY m Bg Bi x1,z.1.cell? ⟨Bg,4,none⟩=some (ab af M1.g.r):=fun z=>(cL (a:=⟨Bg,4,none⟩) z.2.2.1).trans (r1.cell 4 _ rfl);have cx15:x1.cell? ⟨Bi,0,none⟩=some (ag (some ⟨gi,0,none⟩) tn ci):=(hb1'.cell (p:=⟨Bi,0,none⟩) hBiX).trans cX5;have di:∀z:kY m Bg Bi x1,z.1.cell? ⟨Bi,0,none⟩=some (ag (some ⟨gi,0,none⟩) tn ci):=fun z=>(cL (a:=⟨Bi,0,none⟩) z.2.2.2).trans cx15;have l1:m<x1.heap.size/\Bg<x1.heap.size/\Bi<x1.heap.size:=⟨hM1'.lt.1,aB.lt r1,aU hBiX hb1'.size⟩;have HL1:=ae l1;have HGIN:=ae (Geo.goodIn HTLX.out.good);have HGG:=ae HTLX.out.good;have HRX:=ae hRx;have HMX:=ae hMx;have HBX1:=ae hb1';have HGRX:=ae grX;have HNR:=ae hnr;have HDXX:=ae hDx;have HCI:=ae cX5;have HLL:=ae (And.intro hgiX (And.intro hBiX (And.intro hDX hmBi)));have HFX:=ae hfx;have HFLX:=ae hFlt;have HMLT:=ae hmlt;have HBG:=ae hBg;have HGRE:=ae hgr;obtain⟨gr,hgrn⟩:=w9nm M1.g.r;have HGRN:=ae hgrn;rw[hgrn]at dg4;clear hN hgr hgrn hmlt hFlt hfi hfm hbi cX5 hgi grX hgiX hBiX hDX hnr hmBi hb1' hM1' cx15 l1 hRx hMx hDx hfx c5 r1;go_wp2_with fail;clear LG ST1 hBg;obtain⟨X2,hX2⟩:=w9nm x1.drew;have bX2:ah x1.heap.size x1 X2:=by rw[←hX2];exact(aF _ x1).drew
    refine ex (fun x=>∃y:kY m Bg Bi x1,x=y.1) 24 (.takes [0,1,2,3,4,6,7,8,9,10,11,12,13,14,15,16,17,18] (.one 5 (.one 19 (.takes [20,21,23,22] .leaf)))) hmx (by kernel_rfl) ⟨⟨x1.drew,rfl,rfl,rfl⟩,rfl⟩ ?_;repeat(rw[cP];simp only[au,ay];go_big_quiet_step (fail);refine aO ?_)
    rw[cT,bU];simp only[au,ay];clear d0 d12 d13 dg dg4 di;try rw[hX2]
    clear hX2;go_wp2_with fail;go_at_call 130;refine(py M1.g HGIN.out X2).mono ?_;rw[Geo.oR,if_pos HGG.out];rintro e X3 ⟨rfl,hb3'⟩;have B13:w9h x1 X3:=bX2.trans (hb3'.mono bX2.size);clear bX2 hb3';go_wp2_with fail;refine aG ⟨⟨X3,B13.out.block m HL1.out.1,B13.out.block Bg HL1.out.2.1,B13.out.block Bi HL1.out.2.2⟩,rfl⟩ ?_;rw[bU];simp only[au,ay];have hBX3:w9b wc X3:=HBX1.out.trans (B13.out.mono HBX1.out.size);have HBX3:=ae hBX3;have HAP:=ae (xF.append (HRX.out.beside hBX3) HTLX.out.fu HTLX.out.d.1 HTLX.out.d.2 HTLX.out.few (F:=2) (C:=M1.g.C) (A:=M1.at0) (by have:=(Geo.nats HGG.out).c1;omega) (Geo.nats HGG.out).c2 HTLX.out.c HTLX.out.at0 HTLX.out.n0 (seq:=M1.seq) ⟨HTLX.out.seq.1,by have:=HTLX.out.seq.2;omega⟩ HTLX.out.txn (g:=gi) (c:=ci) (da HGRX.out (hBX3.block gi HLL.out.1)) (aU HLL.out.1 hBX3.size) HNR.out.1);obtain⟨RA,hRA⟩:=w9nm (S1.app 2 M1.g.C M1.at0 M1.seq t);have HEA:Hid (RA.2=0\/RA.2=14):=by rw[←hRA];exact FK _ _ _ _ _ _
    have HCR:Hid (S.cmt M bs=RA):=by
     have h:=FJ S1 M1 bs;rw[HDF.out,hRA]at h;show _=_;rw[HCM.out.1,h]
    rw[hRA,←HGRE.out,HGRN.out,HTN.out]at HAP;obtain⟨na,hna⟩:∃x:Int,(if RA.2=0 then(((M1.at0+tn+1)%M1.g.C:Nat):Int)else 0)=x:=⟨_,rfl⟩;rw[hna]at HAP;have HNA:=ae hna;clear hBX3 hRA hna;go_wp2_with fail;go_at_call 146;refine HAP.out.mono ?_;rintro e X4 ⟨rfl,f4,hR4,hT4⟩;have hk4:∀k,k<wc.heap.size->¬f1x k->X4.heap[k]? =wc.heap[k]? :=fun k hk hn=>(hT4.out k (aU hk HBX3.out.size) hn).trans (HBX3.out.block k hk);have hf4n:∀k,f4 k->f1x k\/wc.heap.size<=k:=fun k hk=>(hT4.new k hk).imp id (fun h=>aZ HBX3.out.size h);have hm4:X4.heap[m]? =x1.heap[m]? :=(hT4.out m (aU HMLT.out.1 HBX3.out.size) (fun h=>HDXX.out m h (aA rfl))).trans (B13.out.block m HL1.out.1);have hg4:X4.heap[Bg]? =x1.heap[Bg]? :=(hT4.out Bg (aU HL1.out.2.1 B13.out.size) (fun h=>by have:=HFLX.out _ h;have:=HBG.out;omega)).trans (B13.out.block Bg HL1.out.2.1);have hi4:X4.heap[Bi]? =x1.heap[Bi]? :=(hT4.out Bi (aU HL1.out.2.2 B13.out.size) HNR.out.2.1).trans (B13.out.block Bi HL1.out.2.2);have HT4:Hid (Turn fx (fun k=>f4 k\/k=m\/k=Bbx\/k=Bhx) wc X4):=by
     show Turn _ _ _ _;rw[HFX.out];exact(Turn.of_below HBX3.out).trans (hT4.frame _)
    have HK4:=ae hk4;have HR4:=ae hR4;have HF4:=ae hf4n;have HS4:Hid (wc.heap.size<=X4.heap.size):=aZ HBX3.out.size hT4.size;clear hT4 hk4 hR4 hf4n HAP;go_wp2_with fail;refine aG ⟨⟨X4,hm4,hg4,hi4⟩,rfl⟩ ?_;clear hm4 hg4 hi4;repeat(rw[cP];simp only[au,ay];go_big_quiet_step (fail);refine aO ?_)
    rw[cT,dW];simp only[be,bf];by_cases hz:RA.2=0
    ·rw[hz];have HZ:=ae hz;clear hz;have hna:na=(((M1.at0+tn+1)%M1.g.C:Nat):Int):=by rw[←HNA.out,if_pos HZ.out]
     have HNA2:=ae hna;have hM4:MemAt m rb Bbx cbx Bhx chx ax qx M1 X4:=HMX.out.keep (HK4.out m HMLT.out.1 (fun h=>HDXX.out m h (aA rfl))) (HK4.out Bbx HMLT.out.2.1 (fun h=>HDXX.out Bbx h (aC (aA rfl)))) (HK4.out Bhx HMLT.out.2.2 (fun h=>HDXX.out Bhx h (aC (aC rfl))));have q13:X4.cell? ⟨m,13,none⟩=some (ab aD M1.seq):=hM4.row.cell 13 _ rfl;have hq0:=HTLX.out.seq.1;have hq1:=HTLX.out.seq.2;have q12:X4.cell? ⟨m,12,none⟩=some (ab af M1.at0):=hM4.row.cell 12 _ rfl;have z12:=hM4.row.frozen 12;obtain⟨y0,hy0⟩:=w9nm (X4.setCell ⟨m,12,none⟩ (ab af na));have rr0:=hM4.row.set 12 (ab af na);rw[hy0]at rr0;have q13':y0.cell? ⟨m,13,none⟩=some (ab aD M1.seq):=rr0.cell 13 _ rfl;have z13:=rr0.frozen 13;obtain⟨y1,hy1⟩:=w9nm (y0.setCell ⟨m,13,none⟩ (ab aD (M1.seq+1)));have rr1:=rr0.set 13 (ab aD (M1.seq+1));rw[hy1]at rr1;have hky1:∀k,k<X4.heap.size->k≠m->y1.heap[k]? =X4.heap[k]? :=fun k hk hn=>by rw[←hy1,←hy0];exact(gc _ _ _ k hn).trans (gc _ _ _ k hn)
     have hsy1:X4.heap.size<=y1.heap.size:=by rw[←hy1,←hy0,lw,lw];exact aJ _
     have HTS:Hid (Turn (fun k=>f4 k\/k=m\/k=Bbx\/k=Bhx) (fun k=>f4 k\/k=m\/k=Bbx\/k=Bhx) X4 y1):=by
      show Turn _ _ _ _;rw[←hy1,←hy0];exact(jR _ m 12 _ (aC (aA rfl))).trans (jR _ m 13 _ (aC (aA rfl)))
     have HM4:=ae hM4;have HY1:=ae hky1;have HSY1:=ae hsy1;have HRR1:=ae rr1;clear hM4 hky1 hsy1 hna rr0 rr1;go_wp2_with fail;clear q12 z12 q13 q13' z13 hy0 hy1;have hnB:¬f1x Bv:=fun h=>by
      have h1:fx Bv:=by rw[HFX.out];exact aA h
      rcases HTX.out.new Bv h1 with h2 | h2
      ·rw[HFF.out]at h2;rcases h2 with h2 | h2 | h2 | h2
       ·exact HVF.out.1 h2
       ·exact HVF.out.2.1 h2
       ·exact HVF.out.2.2.1 h2
       ·exact HVF.out.2.2.2.1 h2
      ·have:=HVF.out.2.2.2.2;omega
     have hBvX:Bv<wc.heap.size:=aU HVF.out.2.2.2.2 HTX.out.size;have hv1:y1.heap[Bv]? =w.heap[Bv]? :=(HY1.out Bv (aU hBvX HS4.out) HVF.out.2.1).trans ((HK4.out Bv hBvX hnB).trans HVX.out);have hi1:y1.heap[Bi]? =wc.heap[Bi]? :=(HY1.out Bi (aU HLL.out.2.1 HS4.out) (fun e=>HLL.out.2.2.2.1 e.symm)).trans (HK4.out Bi HLL.out.2.1 HNR.out.2.1);have hd1:y1.heap[D]? =some (.deferred (some [])):=(HY1.out D (aU HLL.out.2.2.1 HS4.out) (fun e=>HLL.out.2.2.2.2 e.symm)).trans ((HK4.out D HLL.out.2.2.1 HNR.out.2.2).trans HKDX.out);have hbi1:Bi<y1.heap.size:=aU HLL.out.2.1 (aZ HS4.out HSY1.out);have q14z:∀z:aI y1,z.1.cell? ⟨m,14,none⟩=some (ab af M1.room):=fun z=>(HRR1.out.below z.2).cell 14 _ rfl;have qiz:∀z:aI y1,z.1.cell? ⟨Bi,0,none⟩=some (ag (some ⟨gi,0,none⟩) tn ci):=fun z=>(cL (a:=⟨Bi,0,none⟩) ((z.2.block Bi hbi1).trans hi1)).trans HCI.out;have hrm1:=HTLX.out.room.1;have hrm2:=HTLX.out.room.2;refine ex (fun x=>∃y:aI y1,x=y.1) 9 (.takes [0,1,2,3,4] (.one 5 (.takes [6,7,8] .leaf))) hmx (by kernel_rfl) ⟨⟨y1.drew,(aF _ y1).drew⟩,rfl⟩ ?_;repeat(rw[cP];simp only[au,ay];go_big_quiet_step (fail);refine aO ?_)
     rw[cT,bU];simp only[au,ay];clear q14z qiz;obtain⟨V2,hV2⟩:=w9nm y1.drew;have bV2:ah y1.heap.size y1 V2:=by rw[←hV2];exact(aF _ y1).drew
     try rw[hV2]
     have hV2s:V2.heap.size=y1.heap.size:=by rw[←hV2];rfl
     clear hV2;go_wp2_with fail;go_at_call 144;refine(sQ (some ⟨gi,0,none⟩) tn ci (by omega) V2).mono ?_;rintro e V' ⟨rfl,hv'⟩;obtain rfl:=hv'.symm;clear hv';go_wp2_with fail;refine aG ⟨⟨V2,bV2⟩,rfl⟩ ?_;repeat(rw[cP];simp only[au,ay];go_big_quiet_step (fail);refine aO ?_)
     rw[cT,dW];simp only[be,bf];have rr2:=HRR1.out.below bV2;have c14:V2.cell? ⟨m,14,none⟩=some (ab af M1.room):=rr2.cell 14 _ rfl;have f14:=rr2.frozen 14;obtain⟨y2,hy2⟩:=w9nm (V2.setCell ⟨m,14,none⟩ (ab af (M1.room - ((tn:Int)+1))));have rr3:=rr2.set 14 (ab af (M1.room - ((tn:Int)+1)));rw[hy2]at rr3;have h2k:∀k,k≠m->y2.heap[k]? =V2.heap[k]? :=fun k hk=>by rw[←hy2];exact gc _ _ _ k hk
     have h2s:y2.heap.size=V2.heap.size:=by rw[←hy2,lw]
     have hv2:y2.heap[Bv]? =w.heap[Bv]? :=(h2k Bv HVF.out.2.1).trans ((bV2.block Bv (aU hBvX (aZ HS4.out HSY1.out))).trans hv1);have HSV:Hid (Sl aq y2 (ag (some ⟨Bv,ov,none⟩) n cv) bs):=HVS.out.same (by rw[h2s,hV2s];exact aZ HTX.out.size (aZ HS4.out HSY1.out)) (fun b e=>by cases e;exact hv2);have HD2:Hid (y2.heap[D]? =some (.deferred (some []))):=(h2k D (fun e=>HLL.out.2.2.2.2 e.symm)).trans ((bV2.block D (cj.1 hd1).1).trans hd1);have HY2:Hid (∀k,k<X4.heap.size->k≠m->y2.heap[k]? =X4.heap[k]?):=fun k hk hn=>(h2k k hn).trans ((bV2.block k (aU hk HSY1.out)).trans (HY1.out k hk hn));have HS2:Hid (X4.heap.size<=y2.heap.size):=by show _<=_;rw[h2s,hV2s];exact HSY1.out
     have HT2:Hid (Turn (fun k=>f4 k\/k=m\/k=Bbx\/k=Bhx) (fun k=>f4 k\/k=m\/k=Bbx\/k=Bhx) X4 y2):=by
      show Turn _ _ _ _;rw[←hy2];exact HTS.out.trans ((Turn.of_below bV2).trans (jR _ m 14 _ (aC (aA rfl))))
     have HRR3:=ae rr3;have hbn:bs.length=n:=by have h1:=HLN.out;have h2:=HN.out;omega
     have HBN:=ae hbn;have hn0:0<n:=by have:=HM.out.b0;have:=HN.out;omega
     have hnM:n<=714:=by have:=HOK.out.len;have:=(Geo.nats HOK.out.good).b2;have:=HN.out;omega
     have HCL:=ae (tr y2 HSV.out (by intro e;rw[e]at hbn;simp at hbn;omega) (by omega));clear hnB hBvX hv1 hi1 hd1 hbi1 rr2 rr3 h2k h2s hv2 hbn hV2s bV2;go_wp2_with fail;clear hy2 c14 f14;go_at_call 135;refine HCL.out.mono ?_;rintro e y3 ⟨v',rfl,hO,hB⟩;obtain⟨Bc,cc,rfl,hBcN,hcc,hBcl,hrg⟩:=jm hO (by rw[HBN.out];exact hn0);have hcur:cc<=aS/\∃cur,y3.heap[Bc]? =some (ap cur 5 (0,0)):=by
      rcases hO.2 with⟨h',_⟩ | ⟨g',c',cur,e,h1,h2,h3,h4,_⟩
      ·cases h'
      ·cases e;exact⟨h4,cur,h2⟩
     have rr4:=HRR3.out.below hB;have c1m:y3.cell? ⟨m,1,none⟩=some (ag (some ⟨Bbx,0,none⟩) M1.b.length cbx):=rr4.cell 1 _ rfl;have f1m:=rr4.frozen 1;obtain⟨y4,hy4⟩:=w9nm (y3.setCell ⟨m,1,none⟩ (ag (some ⟨Bc,0,none⟩) bs.length cc));have rr5:=rr4.set 1 (ag (some ⟨Bc,0,none⟩) bs.length cc);rw[hy4]at rr5;have h4k:∀k,k≠m->y4.heap[k]? =y3.heap[k]? :=fun k hk=>by rw[←hy4];exact gc _ _ _ k hk
     have HTY:Hid (Turn (fun k=>f4 k\/k=m\/k=Bbx\/k=Bhx) (fun k=>f4 k\/k=m\/k=Bbx\/k=Bhx) X4 y4):=by
      show Turn _ _ _ _;rw[←hy4];exact HT2.out.trans ((Turn.of_below hB).trans (jR _ m 1 _ (aC (aA rfl))))
     have hDy:D<y2.heap.size:=(cj.1 HD2.out).1;have HD4:Hid (y4.heap[D]? =some (.deferred (some []))):=(h4k D (fun e=>HLL.out.2.2.2.2 e.symm)).trans ((hB.block D hDy).trans HD2.out);have HY4:Hid (∀k,k<X4.heap.size->k≠m->y4.heap[k]? =X4.heap[k]?):=fun k hk hn=>(h4k k hn).trans ((hB.block k (aU hk HS2.out)).trans (HY2.out k hk hn));have HBC:Hid (y2.heap.size<=Bc):=hBcN;have hBcm:Bc≠m:=fun e=>by have h1:=HMLT.out.1;have h2:=HS4.out;have h3:=HS2.out;omega
     have HRC:Hid (bs.length<=cc/\cc<=aS/\(∃cur t,y4.heap[Bc]? =some (ap cur t (0,0)))/\y4.rangeAt Bc 0 (an bs)):=⟨hcc,hcur.1,by obtain⟨cur,h⟩:=hcur.2;exact⟨cur,_,(h4k Bc hBcm).trans h⟩,da hrg (h4k Bc hBcm)⟩;have HR5:=ae rr5;clear hO hBcN hcc hBcl hrg hcur rr4 rr5 h4k hDy hBcm hB;go_wp2_with fail;clear hy4 c1m f1m;refine⟨by simp,aA ⟨_,_,rfl,iD HD4.out, ?_⟩⟩;refine⟨_,results_tmp rfl _ _ _,by rw[←HER.out,HCR.out,HZ.out];rfl, ?_⟩;have hg:=grownBy_putObj' y4 D (.deferred none);obtain⟨yF,hyF⟩:=w9nm (y4.putObj D (.deferred none));rw[hyF]at hg ⊢;have hsz:y4.heap.size<=yF.heap.size:=hg.size;have hkF:∀k,k<y4.heap.size->k≠D->yF.heap[k]? =y4.heap[k]? :=fun k h1 h2=>hg.block k h1 (fun e=>h2 (by cases e;rfl));have hX4:wc.heap.size<=X4.heap.size:=HS4.out;have hY4:X4.heap.size<=y4.heap.size:=HTY.out.size;have hDl:D<wc.heap.size:=HLL.out.2.2.1;have hmD:m≠D:=HLL.out.2.2.2.2;have hml:=HMLT.out;have hDn:¬fx D:=fun h=>HNX.out D h ⟨HGI.out.2.2.2.2.1,HGI.out.2.2.2.2.2⟩;have hDb:D≠Bbx/\D≠Bhx:=by
      rw[HFX.out]at hDn;exact⟨fun e=>hDn (aC (aC (aA e))),fun e=>hDn (aC (aC (aC e)))⟩
     have hf4m:∀k,f4 k->k≠m/\k≠D/\k≠Bc/\k≠Bhx:=fun k hk=>by
      have hl:=(aX.isRes rb p0 p1 RA.1).lt HR4.out k hk;have hc:y2.heap.size<=Bc:=HBC.out;have h2:X4.heap.size<=y2.heap.size:=HS2.out;rcases HF4.out k hk with h | h
      ·have hd:=HDXX.out k h;exact⟨fun e=>hd (aA e),fun e=>hDn (by rw[HFX.out];exact aA (by rw[←e];exact h)),by omega,fun e=>hd (aC (aC e))⟩
      ·exact⟨by omega,by omega,by omega,by omega⟩
     have hBcl:Bc<y4.heap.size:=by
      obtain⟨cur,t,h⟩:=HRC.out.2.2.1;exact(cj.1 h).1
     have hcB:X4.heap.size<=Bc:=aZ HS2.out HBC.out;have hBcF:yF.heap[Bc]? =y4.heap[Bc]? :=hkF Bc hBcl (by omega);have hBhF:yF.heap[Bhx]? =wc.heap[Bhx]? :=(hkF Bhx (by omega) (fun e=>hDb.2 e.symm)).trans ((HY4.out Bhx (by omega) (fun e=>HMX.out.mh e.symm)).trans (HK4.out Bhx hml.2.2 (fun h=>HDXX.out Bhx h (aC (aC rfl)))));have hmF:yF.heap[m]? =y4.heap[m]? :=hkF m (by omega) hmD;have e1:(((M1.app bs).at0:Nat):Int)=na:=by
      show(((M1.at0+(M1.dif bs).length+1)%M1.g.C:Nat):Int)=na;rw[HDF.out,HTN.out,HNA2.out]
     have e2:(M1.app bs).room=M1.room - ((tn:Int)+1):=by
      show M1.g.r - ((M1.used+(M1.dif bs).length+1:Nat):Int)=M1.g.r - (M1.used:Int) - _;rw[HDF.out,HTN.out];omega
     have hMF:MemAt m rb Bc cc Bhx chx ax qx (M1.app bs) yF:=by
      refine⟨?_,by omega,HMX.out.mh,by omega,by show 0<bs.length;rw[HBN.out];exact hn0,HMX.out.h0,⟨HRC.out.1,HRC.out.2.1⟩, ?_,da HRC.out.2.2.2 hBcF, ?_,da HMX.out.hat hBhF⟩
      ·rw[e1,e2];show yF.heap[m]? =_;rw[hmF];exact HR5.out
      ·obtain⟨cur,t,h⟩:=HRC.out.2.2.1;exact⟨cur,t,hBcF.trans h⟩
      ·obtain⟨cur,t,h⟩:=HMX.out.ch';exact⟨cur,t,hBhF.trans h⟩
     have hRF:aX rb p0 p1 RA.1 yF f4:=(aX.isRes rb p0 p1 RA.1).out HR4.out fun k hk=>by
      have hl:=(aX.isRes rb p0 p1 RA.1).lt HR4.out k hk;exact(hkF k (by omega) (hf4m k hk).2.1).trans (HY4.out k hl (hf4m k hk).1)
     have hTF:Turn f (fun k=>f4 k\/k=m\/k=Bc\/k=Bhx) w yF:=by
      refine((HTX.out.trans (HT4.out.trans HTY.out)).kept hg (fun r e=>by cases e;exact HGI.out.2.2.2.2.1)).less fun k hk=> ?_;have h1:=HTX.out.size;rcases hk with h | h | h | h
      ·exact aA (aA h)
      ·exact aA (aC (aA h))
      ·right;omega
      ·exact aA (aC (aC (aC h)))
     refine⟨_, ?_,hTF⟩;rw[←HPO.out,HCR.out,if_pos HZ.out,HCM.out.2];exact⟨f4,_,hRF,⟨Bc,cc,Bhx,chx,ax,qx,hMF,rfl⟩,fun k hk h=>by
      have:=hf4m k hk;rcases h with h | h | h
      ·exact this.1 h
      ·exact this.2.2.1 h
      ·exact this.2.2.2 h,rfl⟩
    ·have h14:RA.2=14:=HEA.out.resolve_left hz;rw[h14];have HE14:=ae h14;clear hz h14;go_wp2_with fail;refine⟨by simp,aA ⟨_,_,rfl,iD ((HK4.out D HLL.out.2.2.1 HNR.out.2.2).trans HKDX.out), ?_⟩⟩;refine⟨_,results_tmp rfl _ _ _,by rw[←HER.out,HCR.out,HE14.out];rfl, ?_⟩;have hg:=grownBy_putObj' X4 D (.deferred none);have hD4:¬f4 D:=fun h=>by
      rcases HF4.out D h with h | h
      ·exact HNR.out.2.2 h
      ·have:=HLL.out.2.2.1;omega
     refine⟨f4, ?_,((HTX.out.trans HT4.out).less (fun k hk=>aA (aA hk))).kept hg (fun r e=>by cases e;exact HGI.out.2.2.2.2.1)⟩;rw[←HPO.out,HCR.out,if_neg (by rw[HE14.out];decide)];exact(aX.isRes rb p0 p1 RA.1).out HR4.out fun k hk=>hg.block k ((aX.isRes rb p0 p1 RA.1).lt HR4.out k hk) (fun e=>by cases e;exact hD4 hk)
 case stop=>
  rintro D c pre W hD _ h _;exact h.elim
end
end
section
attribute [-simp] isAgg51 zeroValue51 isAgg205 zeroValue205 isAgg304 zeroValue304 isAgg226 zeroValue226 isAgg207 zeroValue207 isAgg198 zeroValue198 isAgg23 zeroValue23
attribute [-go_sem] aE aL cZ
attribute [local go_sem] bC bD cV eM eN eO ig ek gA ie lS lT gB gC
section
theorem FR (w:ak) {v:am} {bs:List Int} (hv:Sl aq w v bs):az aj 60 #[ao none,v] w fun e w'=>e=ar (ab af 1)/\ah w.heap.size w w':=by
 refine(callsIn_wide (n:=3)).1 ?_;refine jf func60 rfl trivial ?_ rfl;simp only[ntmps60,dU,cK,dP,Nat.reduceAdd,Nat.reduceSub,ez,eA,eD,eF,dT,dX]
 gi_wp2_with fail
 exact⟨_,results_tmp rfl _ _ _,rfl,aF _ _⟩
theorem FS {m rb:Nat} {M:MS} {w:ak} {f:Nat->Prop} (h:fX m rb M w f) {v:am} {bs:List Int} (hv:Sl aq w v bs) (hl:bs.length≠M.b.length):az aj 60 #[ao (some ⟨m,0,none⟩),v] w fun e w'=>e=ar (ab af 1)/\ah w.heap.size w w':=by
 obtain⟨Bb,cb,Bh,ch,a,q,h,rfl⟩:=h;obtain⟨av,c',rfl,_⟩:=hv;have c1:w.cell? ⟨m,1,none⟩=some (ag (some ⟨Bb,0,none⟩) M.b.length cb):=h.row.cell 1 _ rfl;have g1:((bs.length:Int) !=(M.b.length:Int))=true:=by simp only[bne_iff_ne,ne_eq];omega
 clear h;refine(callsIn_wide (n:=3)).1 ?_;refine jf func60 rfl trivial ?_ rfl;simp only[ntmps60,dU,cK,dP,Nat.reduceAdd,Nat.reduceSub,ez,eA,eD,eF,dT,dX]
 gi_wp2_with fail
 exact⟨_,results_tmp rfl _ _ _,rfl,aF _ _⟩
theorem FT (w:ak):az aj 65 #[ao none] w fun e w'=>e=ar (aQ #[ao none,ab af 1])/\ah w.heap.size w w':=by
 go_enter func65,ntmps65;go_wp2_with fail;refine bl (results_tmp2 rfl _ _ _) rfl ?_;exact⟨rfl,aF _ _⟩
end
end
section
def nO (x:Img):Prop:=0<=x.index/\x.body.length=48/\aP x.body
theorem yN {g:Nat->List Int} {seq:Int} (hg:∀k,aP (g k)/\(g k).length=64):∀(f k:Nat) (acc t:List Img),fc g seq f k acc=some t->(∀x ∈ acc,nO x)->(∀x ∈ t,nO x)/\t.length<=acc.length+f
 | 0,_,_,_,h,_=>by cases h
 | f+1,k,acc,t,h,ha=>by
  unfold fc at h;split at h
  ·cases h
  ·split at h
   ·split at h
    ·cases h
    ·cases h;exact⟨ha,by omega⟩
   ·split at h
    ·cases h
    ·have hp:=jg (hg k).1 (hg k).2;have hi:=qH (hg k).1 (hg k).2;obtain⟨h1,h2⟩:=yN hg f (k+1) _ t h (fun x hx=>by
      rcases gW.1 hx with hx | hx
      ·exact ha x hx
      ·rw[dO.1 hx];exact⟨hi.1,hp.len,hp.bytes⟩)
     refine⟨h1, ?_⟩;rw[cX]at h2;simp only[cK,dP]at h2;omega
theorem FU {rd:Nat->List Int} {frm count at0:Nat} {seq:Int} (hc:0<count) (hg:∀k,frm<=k->k<frm+count->aP (rd k)/\(rd k).length=64) {t:List Img} (h:io rd frm count at0 seq=some t):(∀x ∈ t,nO x)/\t.length<=count:=by
 obtain⟨h1,h2⟩:=yN (fun k=>hg _ (Nat.le_add_right _ _) (Nat.add_lt_add_left (fO _ hc) _)) count 0 [] t h (fun x hx=>by cases hx);exact⟨h1,by simpa using h2⟩
theorem tD {rd:Nat->List Int} {frm count:Nat} (hc:0<count) (hg:∀k,frm<=k->k<frm+count->aP (rd k)/\(rd k).length=64):∀(f at0:Nat) (seq:Int) (acc:List (List Img)),(∀t ∈ acc,(∀x ∈ t,nO x)/\t.length<=count)->
  (∀t ∈(fz rd frm count f at0 seq acc).1,(∀x ∈ t,nO x)/\t.length<=count)/\(fz rd frm count f at0 seq acc).1.length<=acc.length+f
 | 0,at0,seq,acc,h=>⟨h,aJ _⟩
 | f+1,at0,seq,acc,h=>by
  unfold fz;cases ho:io rd frm count at0 seq with
  | none=>exact⟨h,by show acc.length<=_;omega⟩
  | some t=>
   obtain⟨h1,h2⟩:=tD hc hg f ((at0+t.length+1)%count) ((seq+1)%4294967296) (acc++ [t]) (fun u hu=>by
    rcases gW.1 hu with hu | hu
    ·exact h u hu
    ·rw[dO.1 hu];exact FU hc hg ho)
   refine⟨h1, ?_⟩;rw[cX]at h2;simp only[cK,dP]at h2;show(fz rd frm count f ((at0+t.length+1)%count) ((seq+1)%4294967296) (acc++ [t])).1.length<=_;omega
theorem yO {count:Nat}:∀(ts:List (List Img)),(∀t ∈ ts,t.length<=count)->ts.flatten.length<=ts.length*count/\cE ts=ts.flatten.length+ts.length
 | [],_=>⟨by simp,rfl⟩
 | t::ts,h=>by
  obtain⟨h1,h2⟩:=yO ts (fun u hu=>h u (fG _ hu));have h3:=h t (eV ..);refine⟨?_, ?_⟩
  ·rw[List.flatten_cons,cX,cK,Nat.add_mul,Nat.one_mul];omega
  ·rw[List.flatten_cons,cX,cK];have e:cE (t::ts)=t.length+1+cE ts:=by unfold cE;simp
   rw[e,h2];omega
theorem tE {rd:Nat->List Int} {frm count at0:Nat} {seq:Int} (hc:0<count) (hc2:count<=256) (hg:∀k,frm<=k->k<frm+count->aP (rd k)/\(rd k).length=64):
  (∀x ∈(cC rd frm count at0 seq).1.flatten,0<=x.index/\x.body.length=48)/\(cC rd frm count at0 seq).1.flatten.length<=100000/\(cC rd frm count at0 seq).1.length<=256/\cE (cC rd frm count at0 seq).1<=100000:=by
 obtain⟨h1,h2⟩:=tD hc hg count at0 seq [] (fun t h=>by cases h);have h2':(cC rd frm count at0 seq).1.length<=256:=aZ h2 (by simpa using hc2);obtain⟨h3,h4⟩:=yO (cC rd frm count at0 seq).1 (fun t ht=>(h1 t ht).2);have h5:(cC rd frm count at0 seq).1.length*count<=256*256:=Nat.mul_le_mul h2' hc2;refine⟨fun x hx=> ?_,by omega,h2',by omega⟩;obtain⟨t,ht,hxt⟩:=List.mem_flatten.1 hx;have:=(h1 t ht).1 x hxt;exact⟨this.1,this.2.1⟩
end
end Go.Proofs.YtbeeenembgplmaaGreat
