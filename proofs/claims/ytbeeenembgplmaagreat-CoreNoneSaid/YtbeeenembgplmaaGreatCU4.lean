/- Made shorter by a tool: what the statements rest on. -/
import Derived.Test.YtbeeenembgplmaaGreatCU3
import Derived.LoopTactic
import Derived.Deep.Upon
import Derived.WalkMore
set_option maxRecDepth 100000
set_option maxHeartbeats 20000000
set_option linter.unusedVariables false
set_option linter.unusedSimpArgs false
open List renaming getElem?_eq_getElem -> aZ, replicate -> bg, length_cons -> bz, drop_zero -> bQ, drop_succ_cons -> bR, getElem?_eq_some_iff -> bZ, length_nil -> cx, nil_append -> cy, cons_append -> cC, length_append -> cE, range -> cI, size_toArray -> cJ, mem_map -> cM, push_toArray -> cQ, append_toArray -> cR, take_of_length_le -> de, length_take -> dj, length_drop -> dm, mem_of_getElem? -> dp, mem_cons -> dy, mem_cons_self -> dC, mem_range -> dJ, length_map -> dV, getElem?_map -> dY, mem_cons_of_mem -> ea, map_append -> ec, getElem?_eq_none -> ej, mem_singleton -> eF, getElem?_append_right -> fv, getElem?_append_left -> fS, mem_append -> gc, length_replicate -> iq, finRange -> iH, map_map -> iX, ext_getElem? -> jD, mem_of_mem_take -> jE, take_add_one -> jZ, eq_nil_of_length_eq_zero -> ka, getElem?_take -> kx, flatten_cons -> kN, getElem?_replicate -> kO, mem_filter -> lH, getElem?_drop -> lI, take_append_drop -> lK, flatten_append -> lL, getElem?_range -> mj
open Nat renaming le_refl -> aG, zero_le -> bc, le_trans -> bm, lt_of_lt_of_le -> bq, zero_add -> dP, mod_lt -> iI, lt_irrefl -> iJ, le_of_lt -> jt, min_eq_left -> lJ
open Int renaming le_refl -> fT, toNat_natCast -> iG, eq_ofNat_of_zero_le -> mO
open Array renaming getElem?_eq_some_iff -> bL, replicate_succ -> cO, replicate_zero -> cP
open Go.Lib renaming hid -> ae
open Go renaming World -> ah, Value -> ak, Calls -> ap, loadVar -> aE, Addr -> aF, storeVar -> aL, TypeId -> aR, wpQuiet_nil -> aV, maxLen -> aY, bodyPost_ret -> bo, heap_alloc_new -> cD, run_equalIn_agg -> cS, cell_of_row -> dq, run_takeDeferred -> eU, info_parts -> fy, callsIn_of_wp_marks -> gA, run_loadVar_mid -> jF, all_oneCell_toArray -> ky, run_storeVar_new -> kQ
open Go.Boxed renaming new -> dD
open Go.Instr renaming build -> df, buildSlice -> dh, fill -> ir
open Go.IntWalk renaming wrap64_in -> kR
open Go.KeepsOthers renaming setCell -> iK
open Go.Op renaming equalIn -> jG
open Go.Result renaming andThen_ok -> ek
open Go.RowKit renaming Below -> ag, intOf -> aS
open Go.RowKit.Below renaming refl -> aI
open Go.Sem renaming run_bind -> gK
open Go.World renaming size_alloc -> bO, cell?_of_block -> gj, ownsRow_nil -> jc, rangeAt_setCells_same -> kz
open Go.Ending renaming returned -> ao
open Go.IntKind renaming i64 -> ac, u8 -> ay, u32 -> aO
open Go.Obj renaming cells -> an
open Go.Value renaming int -> ab, slice -> af, agg -> al, pointer -> am, tuple -> aQ
open Or renaming inl -> aA, inr -> aD
open Go.Proofs.Tryz
open Go.Proofs.Tryz renaming prog -> aj
namespace Go.Proofs.YtbeeenembgplmaaGreat
open Go.RowKit Go.Shelf Go.Lib
section
attribute [-simp] isAgg51 zeroValue51
attribute [-go_sem] aE aL
attribute [local go_sem] bC bD fe ez
def fW (D:Nat->Sec) (k:Nat):Nat->Sec:=fun j=>if j<k then⟨(D j).look, []⟩else D j
theorem BO (D:Nat->Sec) (n:Nat):dN D (fun j=>(D j).vs.length) (cZ D n)=fW D n:=by
 funext j
 unfold fW;by_cases h:j<n
 ·rw[if_pos h];have h1:=BN D n j h;have h2:=LQ D n j h;cases e:dN D (fun j=>(D j).vs.length) (cZ D n) j with
  | mk c vs=>rw[e]at h1 h2;simp only at h1 h2;rw[h1,h2]
 ·rw[if_neg h,ko (fun hm=>h (wd hm))]
end
section
attribute [-simp] isAgg51 zeroValue51
attribute [-go_sem] aE aL
attribute [local go_sem] bC bD fe ez
def RS.len (S:RS) (dev:Int):Nat:=if dev=0 then S.n0 else if dev=1 then S.n1 else 0
def RS.has (S:RS) (dev i:Int):Bool:=decide (0<=i/\i< (S.len dev:Int))
def RS.look (S:RS) (dev:Int) (i:Nat):List ak:=if dev=0 then(S.D0 i).look else(S.D1 i).look
def RS.put (S:RS) (dev:Int) (i:Nat) (b:List ak):RS:=if dev=0 then{S with D0:=upd S.D0 i ((S.D0 i).add b)}else{S with D1:=upd S.D1 i ((S.D1 i).add b)}
def RS.fl (S:RS) (dev:Int):RS:=if dev=0 then{S with D0:=fW S.D0 S.n0}else{S with D1:=fW S.D1 S.n1}
noncomputable def RS.crash (S:RS) (b0 b1:List Int):RS:={S with D0:=dN S.D0 (jO S.D0 b0) (cZ S.D0 S.n0),D1:=dN S.D1 (jO S.D1 b1) (cZ S.D1 S.n1),fuse:= -1,down:=false}
def RS.read (S:RS) (dev i:Int):List ak:=if S.has dev i=true/\S.down=false then S.look dev i.toNat else bf 0
def RS.readE (S:RS) (dev i:Int):Int:=if S.has dev i=true then(if S.down=true then 14 else 0)else 1
def RS.write (S:RS) (dev i:Int) (b:List ak):RS:=if S.has dev i=true then(if S.ok=true then S.after.put dev i.toNat b else S.after)else S
def RS.writeE (S:RS) (dev i:Int):Int:=if S.has dev i=true then(if S.ok=true then 0 else 14)else 1
def RS.flush (S:RS) (dev:Int):RS:=if dev=0\/dev=1 then(if S.ok=true then S.after.fl dev else S.after)else S
def RS.flushE (S:RS) (dev:Int):Int:=if dev=0\/dev=1 then(if S.ok=true then 0 else 14)else 1
theorem RS.after_same (S:RS):S.after.n0=S.n0/\S.after.n1=S.n1/\S.after.D0=S.D0/\S.after.D1=S.D1:=by unfold RS.after;split<;>exact⟨rfl,rfl,rfl,rfl⟩
theorem RS.after_len (S:RS) (dev:Int):S.after.len dev=S.len dev:=by unfold RS.len;rw[S.after_same.1,S.after_same.2.1]
section
variable {rb p0 p1:Nat} {S:RS} {w:ah} {f:Nat->Prop}
theorem aU.d0 (h:aU rb p0 p1 S w f):∃g,Disk w p0 S.n0 g S.D0/\0<S.n0:=by
 obtain⟨f1,f2,_,⟨f3,f4,h1,h2,_⟩,_⟩:=h;exact⟨f3,h1⟩
theorem aU.d1 (h:aU rb p0 p1 S w f):∃g,Disk w p1 S.n1 g S.D1/\0<S.n1:=by
 obtain⟨f1,f2,_,⟨f3,f4,h1,h2,_⟩,_⟩:=h;exact⟨f4,h2⟩
theorem aU.rb_lt (h:aU rb p0 p1 S w f):rb<w.heap.size:=by
 obtain⟨f1,f2,⟨h1,_⟩,_⟩:=h;exact(bL.1 h1).1
theorem BQ (p0 p1:Nat) (dev:Int):(dev=0/\dk p0 p1 dev=some ⟨p0,0,none⟩)\/(dev=1/\dk p0 p1 dev=some ⟨p1,0,none⟩)\/(dev≠0/\dev≠1/\dk p0 p1 dev=none):=by
 by_cases h0:dev=0
 ·exact aA ⟨h0,by rw[h0];rfl⟩
 ·by_cases h1:dev=1
  ·exact aD (aA ⟨h1,by rw[h1];rfl⟩)
  ·exact aD (aD ⟨h0,h1,by unfold dk;rw[if_neg h0,if_neg h1]⟩)
theorem aU.disk (h:aU rb p0 p1 S w f) (dev:Int):
  ap aj 149 #[am (some ⟨rb,0,none⟩),ab ac dev] w fun e w'=>e=ao (am (dk p0 p1 dev))/\ag w.heap.size w w':=
 LN rb p0 p1 dev w h.rb_lt (h.cell 0) (h.cell 1)
theorem aU.lenOf (h:aU rb p0 p1 S w f) (dev:Int):
  ap aj 226 #[am (dk p0 p1 dev)] w fun e w'=>e=ao (ab ac (S.len dev:Int))/\w'=w:=by
 rcases BQ p0 p1 dev with⟨rfl,e⟩ | ⟨rfl,e⟩ | ⟨e0,e1,e⟩<;>rw[e]
 ·obtain⟨g,h1,_⟩:=h.d0;exact qy p0 S.n0 g S.D0 w h1
 ·obtain⟨g,h1,_⟩:=h.d1;exact qy p1 S.n1 g S.D1 w h1
 ·have:S.len dev=0:=by unfold RS.len;rw[if_neg e0,if_neg e1]
  rw[this];exact vY w
theorem aU.hasOf (h:aU rb p0 p1 S w f) (dev i:Int):
  ap aj 150 #[am (dk p0 p1 dev),ab ac i] w fun e w'=>e=ao (.bool (S.has dev i))/\w'=w:=
 BL _ _ i w (h.lenOf dev)
theorem RS.has_lt {dev i:Int} (h:S.has dev i=true):(dev=0\/dev=1)/\∃k:Nat,i=(k:Int)/\k<S.len dev:=by
 unfold RS.has at h;have h:=of_decide_eq_true h;obtain⟨k,rfl⟩:=mO h.1;refine⟨?_,k,rfl,by omega⟩;by_cases h0:dev=0
 ·exact aA h0
 ·by_cases h1:dev=1
  ·exact aD h1
  ·have:S.len dev=0:=by unfold RS.len;rw[if_neg h0,if_neg h1]
   omega
theorem aU.readOf (h:aU rb p0 p1 S w f) {dev i:Int} (hi:S.has dev i=true):
  ap aj 165 #[am (dk p0 p1 dev),ab ac i] w fun e w'=>e=ao (aQ #[al (S.look dev i.toNat).toArray,ab ac 0])/\ag w.heap.size w w':=by
 obtain⟨hd,k,rfl,hk⟩:=RS.has_lt hi;rcases hd with rfl | rfl
 ·obtain⟨g,h1,_⟩:=h.d0;exact AW p0 S.n0 k g S.D0 w h1 hk
 ·obtain⟨g,h1,_⟩:=h.d1;exact AW p1 S.n1 k g S.D1 w h1 hk
theorem aU.okLook (h:aU rb p0 p1 S w f) {dev i:Int} (hi:S.has dev i=true):cz (S.look dev i.toNat):=by
 obtain⟨hd,k,rfl,hk⟩:=RS.has_lt hi;rcases hd with rfl | rfl
 ·obtain⟨g,h1,_⟩:=h.d0;exact(h1.ok hk).look
 ·obtain⟨g,h1,_⟩:=h.d1;exact(h1.ok hk).look
def RS.Few (S:RS) (m:Nat):Prop:=(∀i,i<S.n0->(S.D0 i).vs.length<=m)/\(∀i,i<S.n1->(S.D1 i).vs.length<=m)
theorem RS.Few.mono {m m':Nat} (h:S.Few m) (hm:m<=m'):S.Few m':=⟨fun i hi=>bm (h.1 i hi) hm,fun i hi=>bm (h.2 i hi) hm⟩
theorem RS.after_few {m:Nat} (h:S.Few m):S.after.Few m:=by
 unfold RS.after;split<;>exact h
theorem aU.putOf (h:aU rb p0 p1 S w f) {dev i:Int} {b:List ak} (hi:S.has dev i=true) (hb:cz b) (hm:S.Few 255):
  ap aj 152 #[am (dk p0 p1 dev),ab ac i,al b.toArray] w fun e w'=>e=ao (ab ac 0)/\∃f',aU rb p0 p1 (S.put dev i.toNat b) w' f'/\Turn f f' w w':=by
 obtain⟨hd,k,rfl,hk⟩:=RS.has_lt hi;rcases hd with rfl | rfl
 ·have hk':k<S.n0:=hk;refine dr.second (R:=fun e _=>e=ao (ab ac 0)) (lT.isRes _ _ _) (S.disks_isRes p0 p1) h (Q':=(S.put 0 k b).disks p0 p1) fun f2 h2=> ?_;refine dr.first (R:=fun e _=>e=ao (ab ac 0)) (wg.isRes _ _ _) (wg.isRes _ _ _) h2 fun f3 h3=> ?_;refine(AX p0 S.n0 k f3 S.D0 b w h3.1 hk' hb (by have:=hm.1 k hk';omega)).mono ?_;rintro e w' ⟨rfl,f',g1,g2⟩;exact⟨rfl,f',⟨g1,h3.2⟩,g2⟩
 ·have hk':k<S.n1:=hk;refine dr.second (R:=fun e _=>e=ao (ab ac 0)) (lT.isRes _ _ _) (S.disks_isRes p0 p1) h (Q':=(S.put 1 k b).disks p0 p1) fun f2 h2=> ?_;refine dr.second (R:=fun e _=>e=ao (ab ac 0)) (wg.isRes _ _ _) (wg.isRes _ _ _) h2 fun f3 h3=> ?_;refine(AX p1 S.n1 k f3 S.D1 b w h3.1 hk' hb (by have:=hm.2 k hk';omega)).mono ?_;rintro e w' ⟨rfl,f',g1,g2⟩;exact⟨rfl,f',⟨g1,h3.2⟩,g2⟩
theorem aU.flOf (h:aU rb p0 p1 S w f) {dev:Int} (hd:dev=0\/dev=1):
  ap aj 169 #[am (dk p0 p1 dev)] w fun e w'=>e=ao (ab ac 0)/\∃f',aU rb p0 p1 (S.fl dev) w' f'/\Turn f f' w w':=by
 rcases hd with rfl | rfl
 ·refine dr.second (R:=fun e _=>e=ao (ab ac 0)) (lT.isRes _ _ _) (S.disks_isRes p0 p1) h (Q':=(S.fl 0).disks p0 p1) fun f2 h2=> ?_;refine dr.first (R:=fun e _=>e=ao (ab ac 0)) (wg.isRes _ _ _) (wg.isRes _ _ _) h2 fun f3 h3=> ?_;refine(Bx p0 S.n0 f3 S.D0 w h3.1 h3.2).mono ?_;rintro e w' ⟨rfl,f',g1,g2⟩;rw[BO]at g1;exact⟨rfl,f',⟨g1,h3.2⟩,g2⟩
 ·refine dr.second (R:=fun e _=>e=ao (ab ac 0)) (lT.isRes _ _ _) (S.disks_isRes p0 p1) h (Q':=(S.fl 1).disks p0 p1) fun f2 h2=> ?_;refine dr.second (R:=fun e _=>e=ao (ab ac 0)) (wg.isRes _ _ _) (wg.isRes _ _ _) h2 fun f3 h3=> ?_;refine(Bx p1 S.n1 f3 S.D1 w h3.1 h3.2).mono ?_;rintro e w' ⟨rfl,f',g1,g2⟩;rw[BO]at g1;exact⟨rfl,f',⟨g1,h3.2⟩,g2⟩
end
end
section
attribute [-simp] isAgg51 zeroValue51
attribute [-go_sem] aE aL
attribute [local go_sem] bC bD fe ez
section
variable {rb p0 p1:Nat} {S:RS} {w:ah} {f:Nat->Prop}
theorem aU.beside {w':ah} (h:aU rb p0 p1 S w f) (hb:ag w.heap.size w w'):aU rb p0 p1 S w' f:=(aU.isRes rb p0 p1 S).below h hb
theorem aU.len (h:aU rb p0 p1 S w f) (dev:Int):
  ap aj 167 #[am (some ⟨rb,0,none⟩),ab ac dev] w fun e w'=>e=ao (ab ac (S.len dev:Int))/\ag w.heap.size w w':=by
 have H1:=ae (h.disk dev);have H:=ae h;clear h;go_enter func167,ntmps167;go_wp2_with fail;refine H1.out.mono ?_;rintro e x1 ⟨rfl,hb⟩;have HB:=ae hb;have H2:=ae ((H.out.beside hb).lenOf dev);clear hb;go_wp2_with fail;refine H2.out.mono ?_;rintro e w' ⟨rfl,rfl⟩;go_wp2_with fail;go_ret;exact⟨rfl,HB.out⟩
theorem aU.flush (h:aU rb p0 p1 S w f) (hS:S.Fit) (dev:Int):
  ap aj 81 #[am (some ⟨rb,0,none⟩),ab ac dev] w fun e w'=>e=ao (ab ac (S.flushE dev))/\∃f',aU rb p0 p1 (S.flush dev) w' f'/\Turn f f' w w':=by
 have H1:=ae (h.disk dev);have H:=ae h;have HS:=ae hS;clear h hS;by_cases hd:dev=0\/dev=1
 ·obtain⟨p,hp⟩:∃p,dk p0 p1 dev=some ⟨p,0,none⟩:=by rcases BQ p0 p1 dev with⟨_,e⟩ | ⟨_,e⟩ | ⟨e0,e1,_⟩;exact⟨_,e⟩;exact⟨_,e⟩;exact absurd hd (by simp[e0,e1])
  have HP:=ae hp;rw[hp]at H1;have HD:=ae hd;by_cases hok:S.ok=true
  ·have hE:Hid (S.flushE dev=0/\S.flush dev=S.after.fl dev):=by refine(?_:_/\_);unfold RS.flushE RS.flush;rw[if_pos hd,if_pos hok,if_pos hd,if_pos hok];exact⟨rfl,rfl⟩
   have HK:=ae hok;clear hp hd hok;go_enter func81,ntmps81;go_wp2_with fail;go_at_call 149;refine H1.out.mono ?_;rintro e x1 ⟨rfl,hb⟩;have HB:=ae hb;have H2:=ae (sV rb p0 p1 S f x1 (H.out.beside hb) HS.out);rw[HK.out]at H2;clear hb;go_wp2_with fail;go_at_call 151;refine H2.out.mono ?_;rintro e x2 ⟨rfl,f2,g1,g2⟩;have H3:=ae (g1.flOf HD.out);rw[HP.out]at H3;have HT:=ae g2;clear g1 g2;go_wp2_with fail;go_at_call 169;refine H3.out.mono ?_;rintro e x3 ⟨rfl,f3,g1,g2⟩;have HR:=ae g1;have HU:=ae g2;clear g1 g2;go_wp2_with fail;go_ret;rw[hE.out.1,hE.out.2];exact⟨rfl,f3,HR.out,(Turn.of_below HB.out).trans (HT.out.trans HU.out)⟩
  ·have hok:S.ok=false:=by simpa using hok
   have hE:Hid (S.flushE dev=14/\S.flush dev=S.after):=by refine(?_:_/\_);unfold RS.flushE RS.flush;rw[if_pos hd,if_neg (by simp[hok]),if_pos hd,if_neg (by simp[hok])];exact⟨rfl,rfl⟩
   have HK:=ae hok;clear hp hd hok;go_enter func81,ntmps81;go_wp2_with fail;go_at_call 149;refine H1.out.mono ?_;rintro e x1 ⟨rfl,hb⟩;have HB:=ae hb;have H2:=ae (sV rb p0 p1 S f x1 (H.out.beside hb) HS.out);rw[HK.out]at H2;clear hb;go_wp2_with fail;go_at_call 151;refine H2.out.mono ?_;rintro e x2 ⟨rfl,f2,g1,g2⟩;have HR:=ae g1;have HT:=ae g2;clear g1 g2;go_wp2_with fail;go_ret;rw[hE.out.1,hE.out.2];exact⟨rfl,f2,HR.out,(Turn.of_below HB.out).trans HT.out⟩
 ·have hp:dk p0 p1 dev=none:=by unfold dk;rw[if_neg (fun h=>hd (aA h)),if_neg (fun h=>hd (aD h))]
  rw[hp]at H1;have hE:Hid (S.flushE dev=1/\S.flush dev=S):=by refine(?_:_/\_);unfold RS.flushE RS.flush;rw[if_neg hd,if_neg hd];exact⟨rfl,rfl⟩
  clear hp hd;go_enter func81,ntmps81;go_wp2_with fail;go_at_call 149;refine H1.out.mono ?_;rintro e x1 ⟨rfl,hb⟩;have HB:=ae hb;clear hb;go_wp2_with fail;go_ret;rw[hE.out.1,hE.out.2];exact⟨rfl,f,H.out.beside HB.out,Turn.of_below HB.out⟩
theorem aU.write (h:aU rb p0 p1 S w f) (hS:S.Fit) (hm:S.Few 255) (dev i:Int) {b:List ak} (hb:cz b):
  ap aj 63 #[am (some ⟨rb,0,none⟩),ab ac dev,ab ac i,al b.toArray] w fun e w'=>e=ao (ab ac (S.writeE dev i))/\∃f',aU rb p0 p1 (S.write dev i b) w' f'/\Turn f f' w w':=by
 obtain⟨W,hW⟩:=w9nm (w.alloc (an b.toArray 51));have hB:ag w.heap.size w W:=by rw[←hW];exact(aI _ w).alloc (aG _) _
 have K:Hid (W.heap[w.heap.size]? =some (an b.toArray 51 (0,0))):=by rw[←hW];exact cD w _
 have hlt:∀k,f k->k<w.heap.size:=(aU.isRes rb p0 p1 S).lt h;have H:=ae (h.beside hB);have H1:=ae (H.out.disk dev);have HB0:=ae hB;have HS:=ae hS;have HM:=ae hm;have HBL:=ae hb;have HLT:=ae hlt;clear h hS hm hb hB hlt;obtain⟨p,hp⟩:=w9nm (dk p0 p1 dev);have HP:=ae hp;rw[hp]at H1;clear hp;have H2:Hid (∀x:ah,ag W.heap.size W x->ap aj 150 #[am p,ab ac i] x fun e w'=>e=ao (.bool (S.has dev i))/\w'=x):=fun x hx=>by
  have:=(H.out.beside hx).hasOf dev i;rw[HP.out]at this;exact this
 by_cases hh:S.has dev i=true
 ·have HH:=ae hh;rw[hh]at H2;by_cases hok:S.ok=true
  ·have hE:Hid (S.writeE dev i=0/\S.write dev i b=S.after.put dev i.toNat b):=by refine(?_:_/\_);unfold RS.writeE RS.write;rw[if_pos hh,if_pos hok,if_pos hh,if_pos hok];exact⟨rfl,rfl⟩
   have HK:=ae hok;clear hh hok;go_enter func63,ntmps63;go_wp2_with (with_reducible (rw[hW];clear hW));go_at_call 149;refine H1.out.mono ?_;rintro e x1 ⟨rfl,hb⟩;have HB:=ae hb;clear hb;go_wp2_with fail;go_at_call 150;refine(H2.out x1 HB.out).mono ?_;rintro e w' ⟨rfl,hx⟩;obtain rfl:=hx.symm;clear hx;have H3:=ae (sV rb p0 p1 S f x1 (H.out.beside HB.out) HS.out);rw[HK.out]at H3;go_wp2_with fail;go_at_call 151;refine H3.out.mono ?_;rintro e x2 ⟨rfl,f2,g1,g2⟩;have L2:(aE 51 ⟨w.heap.size,0,none⟩).run aj x2=.ok (al b.toArray) x2:=by
    have hz:=(bL.1 K.out).1;refine Lw ?_ HBL.out;rw[g2.out _ (bq hz HB.out.size) (fun hf=>by have:=HLT.out _ hf;omega)];exact(HB.out.block _ hz).trans K.out
   have H4:Hid (ap aj 152 #[am p,ab ac i,al b.toArray] x2 fun e w'=>e=ao (ab ac 0)/\∃f',aU rb p0 p1 (S.after.put dev i.toNat b) w' f'/\Turn f2 f' x2 w'):=by
    have:=g1.putOf (dev:=dev) (i:=i) (b:=b) (by unfold RS.has;rw[S.after_len];exact HH.out) HBL.out (RS.after_few HM.out);rw[HP.out]at this;exact this
   have HT:=ae g2;clear g1 g2;go_wp2_with fail;go_at_call 152;refine H4.out.mono ?_;rintro e x3 ⟨rfl,f3,g1,g2⟩;have HR:=ae g1;have HU:=ae g2;clear g1 g2 L2;go_wp2_with fail;go_ret;rw[hE.out.1,hE.out.2];exact⟨rfl,f3,HR.out,(Turn.of_below (HB0.out.trans (HB.out.mono HB0.out.size))).trans (HT.out.trans HU.out)⟩
  ·have hok:S.ok=false:=by simpa using hok
   have hE:Hid (S.writeE dev i=14/\S.write dev i b=S.after):=by refine(?_:_/\_);unfold RS.writeE RS.write;rw[if_pos hh,if_neg (by simp[hok]),if_pos hh,if_neg (by simp[hok])];exact⟨rfl,rfl⟩
   have HK:=ae hok;clear hh hok;go_enter func63,ntmps63;go_wp2_with (with_reducible (rw[hW];clear hW));go_at_call 149;refine H1.out.mono ?_;rintro e x1 ⟨rfl,hb⟩;have HB:=ae hb;clear hb;go_wp2_with fail;go_at_call 150;refine(H2.out x1 HB.out).mono ?_;rintro e w' ⟨rfl,hx⟩;obtain rfl:=hx.symm;clear hx;have H3:=ae (sV rb p0 p1 S f x1 (H.out.beside HB.out) HS.out);rw[HK.out]at H3;go_wp2_with fail;go_at_call 151;refine H3.out.mono ?_;rintro e x2 ⟨rfl,f2,g1,g2⟩;have HR:=ae g1;have HT:=ae g2;clear g1 g2;go_wp2_with fail;go_ret;rw[hE.out.1,hE.out.2];exact⟨rfl,f2,HR.out,(Turn.of_below (HB0.out.trans (HB.out.mono HB0.out.size))).trans HT.out⟩
 ·have hh:S.has dev i=false:=by simpa using hh
  rw[hh]at H2;have hE:Hid (S.writeE dev i=1/\S.write dev i b=S):=by refine(?_:_/\_);unfold RS.writeE RS.write;rw[if_neg (by simp[hh]),if_neg (by simp[hh])];exact⟨rfl,rfl⟩
  clear hh;go_enter func63,ntmps63;go_wp2_with (with_reducible (rw[hW];clear hW));go_at_call 149;refine H1.out.mono ?_;rintro e x1 ⟨rfl,hb⟩;have HB:=ae hb;clear hb;go_wp2_with fail;go_at_call 150;refine(H2.out x1 HB.out).mono ?_;rintro e w' ⟨rfl,hx⟩;obtain rfl:=hx.symm;clear hx;go_wp2_with fail;go_ret;rw[hE.out.1,hE.out.2];exact⟨rfl,f,H.out.beside HB.out,Turn.of_below (HB0.out.trans (HB.out.mono HB0.out.size))⟩
end
end
section
attribute [-simp] isAgg51 zeroValue51
attribute [-go_sem] aE aL
attribute [local go_sem] bC bD fe ez
theorem nW {w x:ah} {u:List ak} {z:Array ak} (hw:x.heap[w.heap.size]? =some (an z 51 (0,0))) (hz:z.size=64) (hb:ag w.heap.size w x) (hu:cz u):
  ∃x',(aL 51 ⟨w.heap.size,0,none⟩ (al u.toArray)).run aj x=.ok () x'/\(aE 51 ⟨w.heap.size,0,none⟩).run aj x'=.ok (al u.toArray) x'/\ag w.heap.size w x':=by
 have ht:x.there w.heap.size 0 64:=fun j hj=>by
  have hcell:=dq x w.heap.size (0+j) z _ _ hw;refine⟨?_, ?_⟩
  ·rw[hcell];simp[hz];omega
  ·simp[World.frozen?,hw]
 have hs:=pN ht hu;refine⟨_,hs,gl (kz x _ 0 u (by rw[hu.length];exact ht)) hu.length, ?_⟩;exact hb.trans (qw (aG _) _ _ _)
section
variable {rb p0 p1:Nat} {S:RS} {w:ah} {f:Nat->Prop}
theorem aU.read (h:aU rb p0 p1 S w f) (dev i:Int):
  ap aj 72 #[am (some ⟨rb,0,none⟩),ab ac dev,ab ac i] w fun e w'=>e=ao (aQ #[al (S.read dev i).toArray,ab ac (S.readE dev i)])/\ag w.heap.size w w':=by
 obtain⟨W,hW⟩:=w9nm (w.alloc (an cF 51));have hB:ag w.heap.size w W:=by rw[←hW];exact(aI _ w).alloc (aG _) _
 have K:Hid (W.heap[w.heap.size]? =some (an cF 51 (0,0))/\w.heap.size<W.heap.size):=by rw[←hW];exact⟨cD w _,by simp⟩
 have H:=ae (h.beside hB);have H1:=ae (H.out.disk dev);have HB0:=ae hB;clear h hB;obtain⟨p,hp⟩:=w9nm (dk p0 p1 dev);have HP:=ae hp;rw[hp]at H1;clear hp;have H2:Hid (∀x:ah,ag W.heap.size W x->ap aj 150 #[am p,ab ac i] x fun e w'=>e=ao (.bool (S.has dev i))/\w'=x):=fun x hx=>by
  have:=(H.out.beside hx).hasOf dev i;rw[HP.out]at this;exact this
 have SZ:Hid (∀x u,ag W.heap.size W x->cz u->∃x',(aL 51 ⟨w.heap.size,0,none⟩ (al u.toArray)).run aj x=.ok () x'/\(aE 51 ⟨w.heap.size,0,none⟩).run aj x'=.ok (al u.toArray) x'/\ag w.heap.size w x'):=fun x u hx hu=>
  nW ((hx.block _ K.out.2).trans K.out.1) gk (HB0.out.trans (hx.mono HB0.out.size)) hu
 by_cases hh:S.has dev i=true
 ·have HH:=ae hh;rw[hh]at H2;cases hdw:S.down with
  | true=>
   have hE:Hid (S.readE dev i=14/\S.read dev i=bf 0):=by refine(?_:_/\_);unfold RS.readE RS.read;rw[if_pos hh,if_pos hdw,if_neg (by simp[hdw])];exact⟨rfl,rfl⟩
   have HD:=ae hdw;clear hh hdw;go_enter func72,ntmps72;go_wp2_with (with_reducible (rw[hW];clear hW));go_at_call 149;refine H1.out.mono ?_;rintro e x1 ⟨rfl,hb⟩;have HB:=ae hb;clear hb;go_wp2_with fail;go_at_call 150;refine(H2.out x1 HB.out).mono ?_;rintro e w' ⟨rfl,hx⟩;obtain rfl:=hx.symm;clear hx;have c3:x1.cell? ⟨rb,3,none⟩=some (.bool true):=by rw[←HD.out];exact(H.out.beside HB.out).cell 3
   obtain⟨x2,st,ld,hb2⟩:=SZ.out x1 (bf 0) HB.out (eV 0);have st':(aL 51 ⟨w.heap.size,0,none⟩ (al cF)).run aj x1=.ok () x2:=st;have HB2:=ae hb2;clear st hb2;go_wp2_with fail;rw[hE.out.1,hE.out.2];exact bo (eH rfl rfl ld) rfl ⟨rfl,HB2.out⟩
  | false=>
   have hE:Hid (S.readE dev i=0/\S.read dev i=S.look dev i.toNat):=by refine(?_:_/\_);unfold RS.readE RS.read;rw[if_pos hh,if_neg (by simp[hdw]),if_pos ⟨hh,hdw⟩];exact⟨rfl,rfl⟩
   have HD:=ae hdw;obtain⟨u,hu⟩:=w9nm (S.look dev i.toNat);have HU:Hid (cz u):=by rw[←hu];exact H.out.okLook HH.out
   have H3:Hid (∀x:ah,ag W.heap.size W x->ap aj 165 #[am p,ab ac i] x fun e w'=>e=ao (aQ #[al u.toArray,ab ac 0])/\ag x.heap.size x w'):=fun x hx=>by
    have:=(H.out.beside hx).readOf HH.out;rw[HP.out,hu]at this;exact this
   rw[hu]at hE;clear hh hdw hu;go_enter func72,ntmps72;go_wp2_with (with_reducible (rw[hW];clear hW));go_at_call 149;refine H1.out.mono ?_;rintro e x1 ⟨rfl,hb⟩;have HB:=ae hb;clear hb;go_wp2_with fail;go_at_call 150;refine(H2.out x1 HB.out).mono ?_;rintro e w' ⟨rfl,hx⟩;obtain rfl:=hx.symm;clear hx;have c3:x1.cell? ⟨rb,3,none⟩=some (.bool false):=by rw[←HD.out];exact(H.out.beside HB.out).cell 3
   go_wp2_with fail;go_at_call 165;refine(H3.out x1 HB.out).mono ?_;rintro e x2 ⟨rfl,hb⟩;obtain⟨x3,st,ld,hb2⟩:=SZ.out x2 u (HB.out.trans (hb.mono HB.out.size)) HU.out;have HB2:=ae hb2;clear hb hb2 c3;go_wp2_with fail;rw[hE.out.1,hE.out.2];exact bo (eH rfl rfl ld) rfl ⟨rfl,HB2.out⟩
 ·have hh:S.has dev i=false:=by simpa using hh
  rw[hh]at H2;have hE:Hid (S.readE dev i=1/\S.read dev i=bf 0):=by refine(?_:_/\_);unfold RS.readE RS.read;rw[if_neg (by simp[hh]),if_neg (by simp[hh])];exact⟨rfl,rfl⟩
  clear hh;go_enter func72,ntmps72;go_wp2_with (with_reducible (rw[hW];clear hW));go_at_call 149;refine H1.out.mono ?_;rintro e x1 ⟨rfl,hb⟩;have HB:=ae hb;clear hb;go_wp2_with fail;go_at_call 150;refine(H2.out x1 HB.out).mono ?_;rintro e w' ⟨rfl,hx⟩;obtain rfl:=hx.symm;clear hx;obtain⟨x2,st,ld,hb2⟩:=SZ.out x1 (bf 0) HB.out (eV 0);have st':(aL 51 ⟨w.heap.size,0,none⟩ (al cF)).run aj x1=.ok () x2:=st;have HB2:=ae hb2;clear st hb2;go_wp2_with fail;rw[hE.out.1,hE.out.2];exact bo (eH rfl rfl ld) rfl ⟨rfl,HB2.out⟩
end
def gu (n0 n1:Nat):RS:=⟨n0,n1,fun _=>jN,fun _=>jN, -1,false,0⟩
theorem LU (n0 n1:Nat) (w:ah) (h01:1<=n0) (h02:n0<=4096) (h11:1<=n1) (h12:n1<=4096):
  ap aj 12 #[ab ac (n0:Int),ab ac (n1:Int)] w fun e w'=>∃rb p0 p1,e=ao (aQ #[am (some ⟨rb,0,none⟩),ab ac 0])/\(∃f,aU rb p0 p1 (gu n0 n1) w' f/\∀k,f k->w.heap.size<=k)/\ag w.heap.size w w':=by
 have H0:=ae (Be n0 w h01 h02);have H1:=ae (fun x=>Be n1 x h11 h12);have HP:Hid (0<n0/\0<n1):=⟨by omega,by omega⟩;clear h01 h02 h11 h12;go_enter func12,ntmps12;go_wp2_with fail;go_at_call 78;refine H0.out.mono ?_;rintro e x1 ⟨p0,rfl,⟨f0,g1,g2⟩,g3⟩;have A1:=ae g1;have A2:=ae g2;have A3:=ae g3;clear g1 g2 g3;go_wp2_with fail;go_at_call 78;refine(H1.out x1).mono ?_;rintro e x2 ⟨p1,rfl,⟨f1,g1,g2⟩,g3⟩;have B1:=ae g1;have B2:=ae g2;have B3:=ae g3;clear g1 g2 g3;go_wp2_with fail;go_ret2;have hA:∀k,f0 k->k<x1.heap.size:=A1.out.lt HP.out.1;have hB:∀k,f1 k->k<x2.heap.size:=B1.out.lt HP.out.2;have hz1:=A3.out.size;have hz2:=B3.out.size;have hal:∀o:Obj,ag x2.heap.size x2 (x2.alloc o):=fun o=>(aI _ x2).alloc (aG _) o;refine⟨_,p0,p1,rfl,⟨_,⟨fun k=>k=x2.heap.size,fun k=>f0 k\/f1 k,⟨cD x2 _,rfl⟩,⟨f0,f1,⟨(A1.out.below HP.out.1 B3.out).below HP.out.1 (hal _),HP.out.1⟩,⟨B1.out.below HP.out.2 (hal _),HP.out.2⟩,fun k a b=> ?_,rfl⟩,fun k a b=> ?_,rfl⟩,fun k hk=> ?_⟩, ?_⟩
 ·have:=hA k a;have:=B2.out k b;omega
 ·subst a;rcases b with b | b
  ·have:=hA _ b;omega
  ·have:=hB _ b;omega
 ·rcases hk with rfl | hk | hk
  ·omega
  ·exact A2.out k hk
  ·have:=B2.out k hk;omega
 ·exact(A3.out.trans (B3.out.mono A3.out.size)).trans ((hal _).mono (by omega))
end
section
attribute [-simp] isAgg51 zeroValue51
attribute [-go_sem] aE aL
attribute [local go_sem] bC bD fe ez
attribute [local go_sem] Oper.semAt_some
theorem Sl.stay {k:IntKind} {w w':ah} {v:ak} {bs:List Int} (h:Sl k w v bs) (hs:w.heap.size<=w'.heap.size) (hb:bs≠ []->∀b off len cap,v=af (some ⟨b,off,none⟩) len cap->b<w.heap.size->w'.heap[b]? =w.heap[b]?):Sl k w' v bs:=by
 obtain⟨a,cap,rfl,h1,h2,h3,h4⟩:=h;refine⟨a,cap,rfl,h1,h2, ?_,h4⟩;rcases h3 with h3 | ⟨b,off,rfl,h5,h6⟩
 ·exact aA h3
 ·by_cases hn:bs= []
  ·exact aA hn
  ·exact aD ⟨b,off,rfl,bq h5 hs,fun j hj=>(gj (a:=⟨b,off+j,none⟩) (hb hn b off _ _ rfl h5)).trans (h6 j hj)⟩
theorem Sl.lt_of {k:IntKind} {w:ah} {v:ak} {bs:List Int} (h:Sl k w v bs) (hn:bs≠ []) {b off len cap:Nat} (e:v=af (some ⟨b,off,none⟩) len cap):b<w.heap.size:=by
 obtain⟨a,cap',rfl,_,_,h3,_⟩:=h;rcases h3 with h3 | ⟨b',off',rfl,h5,_⟩
 ·exact absurd h3 hn
 ·simp only[Value.slice.injEq,Option.some.injEq,Addr.mk.injEq]at e;rw[←e.1.1];exact h5
theorem dr.firstC {P P' Q:ef} {w:ah} {f:Nat->Prop} {g:FuncId} {args:Array ak} {R:Ending->ah->Prop} (hP:IsRes P) (hQ:IsRes Q) (h:dr P Q w f)
  (hc:∀f1,P w f1->(∀k,f1 k->f k)->ap aj g args w fun e w'=>R e w'/\∃f1',P' w' f1'/\Turn f1 f1' w w'):ap aj g args w fun e w'=>R e w'/\∃f',dr P' Q w' f'/\Turn f f' w w':=by
 obtain⟨f1,f2,h1,h2,h3,rfl⟩:=h;exact(hc f1 h1 (fun k hk=>aA hk)).mono fun e w' ⟨hr,h⟩=>⟨hr,Turn.first hP hQ h1 h2 h3 h⟩
theorem dr.secondC {P Q Q':ef} {w:ah} {f:Nat->Prop} {g:FuncId} {args:Array ak} {R:Ending->ah->Prop} (hP:IsRes P) (hQ:IsRes Q) (h:dr P Q w f)
  (hc:∀f2,Q w f2->(∀k,f2 k->f k)->ap aj g args w fun e w'=>R e w'/\∃f2',Q' w' f2'/\Turn f2 f2' w w'):ap aj g args w fun e w'=>R e w'/\∃f',dr P Q' w' f'/\Turn f f' w w':=
 (dr.firstC hQ hP h.swap hc).mono fun e w' ⟨hr,f',h1,h2⟩=>⟨hr,f',h1.swap,h2⟩
noncomputable def RS.cr0 (S:RS) (b:List Int):RS:={S with D0:=dN S.D0 (jO S.D0 b) (cZ S.D0 S.n0)}
noncomputable def RS.cr1 (S:RS) (b:List Int):RS:={S with D1:=dN S.D1 (jO S.D1 b) (cZ S.D1 S.n1)}
section
variable {rb p0 p1:Nat} {S:RS} {w:ah} {f:Nat->Prop} {v:ak} {b:List Int}
theorem aU.crash0 (h:aU rb p0 p1 S w f) (hv:Sl ay w v b) (hB:aP b) (hc:b≠ []->nT f v) (hm:S.Few 1000000):
  ap aj 119 #[am (some ⟨p0,0,none⟩),v] w fun e w'=>e=ao (aQ #[])/\∃f',aU rb p0 p1 (S.cr0 b) w' f'/\Turn f f' w w':=by
 refine dr.secondC (R:=fun e _=>e=ao (aQ #[])) (lT.isRes _ _ _) (S.disks_isRes p0 p1) h (Q':=(S.cr0 b).disks p0 p1) fun f2 h2 hs2=> ?_;refine dr.firstC (R:=fun e _=>e=ao (aQ #[])) (wg.isRes _ _ _) (wg.isRes _ _ _) h2 fun f3 h3 hs3=> ?_;refine(BA p0 S.n0 f3 S.D0 v b w h3.1 h3.2 hv hB (fun hn x off len cap e hf=>hc hn x off len cap e (hs2 _ (hs3 _ hf))) hm.1).mono ?_;rintro e w' ⟨rfl,f',g1,g2⟩;exact⟨rfl,f',⟨g1,h3.2⟩,g2⟩
theorem aU.crash1 (h:aU rb p0 p1 S w f) (hv:Sl ay w v b) (hB:aP b) (hc:b≠ []->nT f v) (hm:S.Few 1000000):
  ap aj 119 #[am (some ⟨p1,0,none⟩),v] w fun e w'=>e=ao (aQ #[])/\∃f',aU rb p0 p1 (S.cr1 b) w' f'/\Turn f f' w w':=by
 refine dr.secondC (R:=fun e _=>e=ao (aQ #[])) (lT.isRes _ _ _) (S.disks_isRes p0 p1) h (Q':=(S.cr1 b).disks p0 p1) fun f2 h2 hs2=> ?_;refine dr.secondC (R:=fun e _=>e=ao (aQ #[])) (wg.isRes _ _ _) (wg.isRes _ _ _) h2 fun f3 h3 hs3=> ?_;refine(BA p1 S.n1 f3 S.D1 v b w h3.1 h3.2 hv hB (fun hn x off len cap e hf=>hc hn x off len cap e (hs2 _ (hs3 _ hf))) hm.2).mono ?_;rintro e w' ⟨rfl,f',g1,g2⟩;exact⟨rfl,f',⟨g1,h3.2⟩,g2⟩
end
noncomputable def RS.cr (S:RS) (b0 b1:List Int):List Nat->RS
 | []=>S
 | [_]=>S.cr0 b0
 | _=>(S.cr0 b0).cr1 b1
theorem RS.cr0_few {S:RS} {m:Nat} (h:S.Few m) (b:List Int):(S.cr0 b).Few m:=⟨fun i hi=>by
 show(dN S.D0 _ _ i).vs.length<=m;rw[qF S.D0 _ S.n0 i hi];exact bc _,h.2⟩
def qG (w:ah) (f:Nat->Prop) (rb p0 p1:Nat) (S:RS) (b0 b1:List Int) (pre:List Nat) (W:ah):Prop:=∃f',aU rb p0 p1 (S.cr b0 b1 pre) W f'/\Turn f f' w W
theorem LW (w:ah) (f:Nat->Prop) (rb p0 p1:Nat) (S:RS) (b0 b1:List Int) (N:Nat) (hN:w.heap.size<=N):OwnFrom N (qG w f rb p0 p1 S b0 b1):=by
 rintro pre W W' row ⟨f',h1,h2⟩ hg hr;exact⟨f',(aU.isRes _ _ _ _).grown h1 hg (fun r e=>(hr r e).2),h2.kept hg (fun r e=>bm hN (hr r e).1)⟩
theorem LX {β:Type} (B:Nat) (t:aR) (a:Array ak) (N:Nat):OwnFrom (β:=β) N (fun _ W=>W.heap[B]? =some (an a t (0,0))):=by
 rintro s W W' row h hg hr;refine(hg.block B (bL.1 h).1 fun e=> ?_).trans h;obtain⟨_,o,ho,hc⟩:=hr B e.symm;rw[h]at ho;cases ho;cases hc
theorem aU.crash {rb p0 p1:Nat} {S:RS} {w:ah} {f:Nat->Prop} {v0 v1:ak} {b0 b1:List Int} (h:aU rb p0 p1 S w f) (hv0:Sl ay w v0 b0) (hv1:Sl ay w v1 b1) (hB0:aP b0) (hB1:aP b1) (hc0:b0≠ []->nT f v0) (hc1:b1≠ []->nT f v1) (hm:S.Few 1000000):
  ap aj 47 #[am (some ⟨rb,0,none⟩),v0,v1] w fun e w'=>e=ao (aQ #[])/\∃f',aU rb p0 p1 (S.crash b0 b1) w' f'/\Turn f f' w w':=by
 obtain⟨a0,cap0,rfl, -, -, -, -⟩:=id hv0;obtain⟨a1,cap1,rfl, -, -, -, -⟩:=id hv1;obtain⟨L0,hL0⟩:=w9nm b0.length;obtain⟨L1,hL1⟩:=w9nm b1.length;rw[hL0]at hv0 hc0 ⊢;rw[hL1]at hv1 hc1 ⊢;have H:=ae h;have HV0:=ae hv0;have HV1:=ae hv1;have HB0:=ae hB0;have HB1:=ae hB1;have HC0:=ae hc0;have HC1:=ae hc1;have HM:=ae hm;clear h hv0 hv1 hB0 hB1 hc0 hc1 hm hL0 hL1;refine(callsIn_wide (n:=3)).1 ?_;refine gA func47 rfl trivial ?_ rfl;simp only[ntmps47,cJ,bz,cx,Nat.reduceAdd,Nat.reduceSub,cO,cP,cQ,cR,cy,cC]
 gi_wp2_with (refine⟨trivial, ?_⟩;gi_at_call 118;refine(wl _ _ trivial rfl _ _).mono ?_;rintro e w' ⟨rfl,rfl⟩)
 obtain⟨W0,hW0⟩:=w9nm ((w.alloc (an #[af a0 L0 cap0,af a1 L1 cap1] 182)).alloc (an #[am (some ⟨rb,0,none⟩)] 31));have br:W0.heap[w.heap.size]? =some (an #[af a0 L0 cap0,af a1 L1 cap1] 182 (0,0)):=by rw[←hW0,Below.heap_alloc _ _ _ (by simp)];exact cD w _
 have bd:Boxed W0 (w.heap.size+1) 31 (am (some ⟨rb,0,none⟩)):=by
  rw[←hW0];have:=dD (w.alloc (an #[af a0 L0 cap0,af a1 L1 cap1] 182)) 31 (am (some ⟨rb,0,none⟩))
  rwa [bO]at this
 have hB0:ag w.heap.size w W0:=by rw[←hW0];exact((aI _ w).alloc (aG _) _).alloc (by simp) _
 have hsz0:W0.heap.size=w.heap.size+2:=by rw[←hW0];simp
 rw[hW0];clear hW0;have P0:qG W0 f rb p0 p1 S b0 b1 [] W0:=⟨f,H.out.beside hB0,Turn.refl _ _⟩;have HF:Hid (∀k,f k->k<w.heap.size):=(aU.isRes rb p0 p1 S).lt H.out;have HSZ:=ae hsz0;have HBZ:=ae hB0
 have stay:∀{v:ak} {b:List Int} {f':Nat->Prop} {W:ah},Sl ay w v b->(b≠ []->nT f v)->Turn f f' W0 W->Sl ay W v b/\(b≠ []->nT f' v):=fun{v b f' W} hs hc ht=>
  ⟨(hs.below hB0).stay ht.size (fun hn x off len cap e hx=>ht.out x hx (hc hn x off len cap e)),fun hn x off len cap e hf=>(ht.new x hf).elim (hc hn x off len cap e) (fun h=>by have:=hs.lt_of hn e;omega)⟩
 have beyond:∀{f' f'':Nat->Prop} {W w':ah} {k:Nat},Turn f f' W0 W->Turn f' f'' W w'->w.heap.size<=k->k<W0.heap.size->w'.heap[k]? =W.heap[k]? :=fun{f' f'' W w' k} ht hu h1 h2=>
  hu.out k (bq h2 ht.size) (fun h=>(ht.new k h).elim (fun h=>by have:=HF.out k h;omega) (fun h=>by omega))
 have STEP:Hid (∀(pre:List Nat) (x:Nat) (W:ah),BJ pre x->qG W0 f rb p0 p1 S b0 b1 pre W->Boxed W (w.heap.size+1) 31 (am (some ⟨rb,0,none⟩))->W.heap[w.heap.size]? =some (an #[af a0 L0 cap0,af a1 L1 cap1] 182 (0,0))->
   ap aj 119 #[am (some ⟨sX p0 p1 x,0,none⟩),if x=0 then af a0 L0 cap0 else af a1 L1 cap1] W fun e w'=>e=ao (aQ #[])/\qG W0 f rb p0 p1 S b0 b1 (pre++ [x]) w'/\KeepsOthers W w'/\Boxed w' (w.heap.size+1) 31 (am (some ⟨rb,0,none⟩))/\w'.heap[w.heap.size]? =some (an #[af a0 L0 cap0,af a1 L1 cap1] 182 (0,0))):=by
  rintro pre x W hok ⟨f',g1,g2⟩ hbd hbr;rcases hok with⟨rfl,rfl⟩ | ⟨rfl,rfl⟩
  ·obtain⟨s1,s2⟩:=stay HV0.out HC0.out g2;refine(aU.crash0 (S:=S) g1 s1 HB0.out s2 HM.out).mono ?_;rintro e w' ⟨rfl,f'',g3,g4⟩;exact⟨rfl,⟨f'',g3,g2.trans g4⟩,g4.others,(beyond g2 g4 (by omega) (by omega)).trans hbd,(beyond g2 g4 (by omega) (by omega)).trans hbr⟩
  ·obtain⟨s1,s2⟩:=stay HV1.out HC1.out g2;refine(aU.crash1 (S:=S.cr0 b0) g1 s1 HB1.out s2 (RS.cr0_few HM.out b0)).mono ?_;rintro e w' ⟨rfl,f'',g3,g4⟩;exact⟨rfl,⟨f'',g3,g2.trans g4⟩,g4.others,(beyond g2 g4 (by omega) (by omega)).trans hbd,(beyond g2 g4 (by omega) (by omega)).trans hbr⟩
 clear stay beyond;refine pQ (n:=3) rfl (by omega) (gf:= 205) (lb:=#[am (some ⟨w.heap.size+1,0,none⟩)]) rfl trivial (enters_of func205 (by kernel_rfl) rfl)
  (fun pre W=>Boxed W (w.heap.size+1) 31 (am (some ⟨rb,0,none⟩))/\W.heap[w.heap.size]? =some (an #[af a0 L0 cap0,af a1 L1 cap1] 182 (0,0))/\qG W0 f rb p0 p1 S b0 b1 pre W)
  (fun _ _ _=>False)
  ((BK (w.heap.size+1) rb p0 p1 W0).mono fun pre W hI=>⟨hI.1,by obtain⟨f',g1,_⟩:=hI.2.2;exact g1.cell 0,by obtain⟨f',g1,_⟩:=hI.2.2;exact g1.cell 1⟩)
  (aI _ _) (fun _=>rfl)
  ((lr _ _ (fun _=>am (some ⟨rb,0,none⟩)) _).and ((LX _ _ _ _).and (LW W0 f rb p0 p1 S b0 b1 _ (aG _))))
  (fun _ _ _ _ _ h _ _=>h.elim) ⟨bd,br,P0⟩ ?a1 ?assign ?body ?done ?stop
 case assign=>
  intro l x W K hK
  dsimp only[qE]
  gi_wp2
  exact hK
 case body=>
  rintro l pre x W ⟨hbd,hbr,hI⟩ hok;have HS:=ae (STEP.out pre x W hok hI hbd hbr);have c0:W.cell? ⟨w.heap.size,0,none⟩=some (af a0 L0 cap0):=by rw[dq _ _ _ _ _ _ hbr];rfl
  have c1:W.cell? ⟨w.heap.size,1,none⟩=some (af a1 L1 cap1):=by rw[dq _ _ _ _ _ _ hbr];rfl
  have c1':W.cell? ⟨w.heap.size,0+1,none⟩=some (af a1 L1 cap1):=c1;clear hI hbd hbr;rcases hok with⟨rfl,rfl⟩ | ⟨rfl,rfl⟩
  ·rw[if_pos rfl]at HS
   gi_wp2_with (refine⟨trivial, ?_⟩;gi_at_call 119;refine(CallsIn.inRound l (callsIn_wide.2 HS.out)).mono ?_;rintro e w' ⟨rfl,e1,e2,e3,e4⟩)
   exact⟨e2.from _,trivial,e3,e4,e1⟩
  ·rw[if_neg (by omega)]at HS
   gi_wp2_with (refine⟨trivial, ?_⟩;gi_at_call 119;refine(CallsIn.inRound l (callsIn_wide.2 HS.out)).mono ?_;rintro e w' ⟨rfl,e1,e2,e3,e4⟩)
   exact⟨e2.from _,trivial,e3,e4,e1⟩
 case done=>
  rintro Dd xs W hDd rfl ⟨hbd,hbr,f',g1,g2⟩ hK;have q2:W.cell? ⟨rb,2,none⟩=some (ab ac S.fuse):=g1.cell 2;have q3:W.cell? ⟨rb,3,none⟩=some (.bool S.down):=g1.cell 3;have r2:=g1.frozen 2;have r3:=g1.frozen 3;have G1:=ae g1;have G2:=ae g2;clear g1 g2 hbd hbr
  gi_wp2
  have hK':=(iK (W.setCell ⟨rb,2,none⟩ (ab ac (-1))) ⟨rb,3,none⟩ (.bool false)).same Dd _ ((iK W ⟨rb,2,none⟩ (ab ac (-1))).same Dd _ hK rfl) rfl;refine⟨by simp,aA ⟨_,_,rfl,eU hK', ?_⟩⟩;obtain⟨g3,g4⟩:=G1.out.set (RS.disks_isRes p0 p1 _) 2 (ab ac (-1));obtain⟨g5,g6⟩:=g3.set (RS.disks_isRes p0 p1 _) 3 (.bool false);have hgr:=grownBy_putObj' ((W.setCell ⟨rb,2,none⟩ (ab ac (-1))).setCell ⟨rb,3,none⟩ (.bool false)) Dd (.deferred none);have hT:=(Turn.of_below (f:=f) HBZ.out).trans ((G2.out.trans g4).trans g6);exact⟨_,results_none rfl _ _ _,rfl,f',(aU.isRes rb p0 p1 (S.crash b0 b1)).grown g5 hgr (fun r e=>by cases e;exact⟨_,hK',rfl⟩),hT.kept hgr (fun r e=>by cases e;have:=HSZ.out;omega)⟩
 case stop=>
  rintro D c pre W _ h _;exact h.elim
end
section
attribute [-simp] isAgg51 zeroValue51
attribute [-go_sem] aE aL
attribute [local go_sem] bC bD fe ez
def kI (v:Int) (k:Nat):List ak:=bg k (ab ay v)++bg (64 - k) (ab ay 0)
theorem LZ (v:Int):(kI v 0).toArray=cF:=by simp[kI,cF,bf]
theorem Ma (v:Int):kI v 64=bf v:=by simp[kI,bf]
theorem Mb (v:Int) (k:Nat) (h:k<64):(kI v k)[k]? =some (ab ay 0):=by
 unfold kI;rw[fv (by simp),iq,Nat.sub_self];rw[kO,if_pos (by omega)]
theorem Mc (v:Int) (k:Nat) (h:k<64):(kI v k).set k (ab ay v)=kI v (k+1):=by
 unfold kI;rw[List.set_append_right _ _ (by simp),show 64 - k=(64 - (k+1))+1 by omega,List.replicate_succ (n:=64 - (k+1))];simp[List.replicate_succ']
theorem BR (v:Int) (w:ah):ap aj 15 #[ab ay v] w fun e w'=>e=ao (al (bf v).toArray)/\ag w.heap.size w w':=by
 obtain⟨W,hW⟩:=w9nm (w.alloc (an cF 51));have hsz:W.heap.size=w.heap.size+1:=by rw[←hW];simp
 have HB:Hid (ag w.heap.size w W):=by rw[←hW];exact(aI _ w).alloc (aG _) _
 have HSZ:=ae hsz;have hblk:W.heap[w.heap.size]? =some (an cF 51 (0,0)):=by rw[←hW];exact cD w _
 have HBK:=ae hblk;clear hsz hblk;go_enter func15,ntmps15;go_wp2_with fail;clear hW;go_loopw [4] (fun i wr=>∃k:Nat,k<=64/\i=ab ac k/\wr=W.alloc (an (kI v k).toArray 51)) (fun i _=>64 - (aS i).toNat)
 case atStart=>exact⟨0,bc _,rfl,by rw[LZ]⟩
 case round=>
  obtain⟨k,hk,rfl,rfl⟩:=hrel;by_cases hlt:k<64
  ·have c1:(W.alloc (an (kI v k).toArray 51)).cell? ⟨W.heap.size,k,none⟩=some (ab ay 0):=by
    rw[dq _ _ _ _ _ _ (cD W _)];simpa using Mb v k hlt
   have f1:(W.alloc (an (kI v k).toArray 51)).frozen? ⟨W.heap.size,k,none⟩=false:=by
    unfold World.frozen?;rw[cD W _];simp
   have g1:(k:Int)<64:=by omega
   have HN:=ae (Mc v k hlt);have HLT:=ae hlt;clear hlt hk;go_wp2;exact⟨⟨k+1,HLT.out,by simp,by rw[HN.out]⟩,by have:=HLT.out;simp[aS];omega⟩
  ·obtain rfl:k=64:=by omega
   rw[Ma];obtain⟨W2,hW2⟩:=w9nm (W.alloc (an (bf v).toArray 51));have L:(aE 51 ⟨W.heap.size,0,none⟩).run aj W2=.ok (al (bf v).toArray) W2:=by rw[←hW2];exact rt (by simp[(eV v).length])
   have hblk:W2.heap[w.heap.size]? =some (an cF 51 (0,0)):=by rw[←hW2,Below.heap_alloc _ _ _ (by have:=HSZ.out;omega)];exact HBK.out
   have ht:W2.there w.heap.size 0 64:=fun j hj=>by
    have hcell:=dq W2 w.heap.size (0+j) cF _ _ hblk;refine⟨?_, ?_⟩
    ·rw[hcell];simp[gk];omega
    ·simp[World.frozen?,hblk]
   obtain⟨W3,hW3⟩:=w9nm (W2.setCells w.heap.size 0 (bf v));have S:(aL 51 ⟨w.heap.size,0,none⟩ (al (bf v).toArray)).run aj W2=.ok () W3:=by rw[←hW3];exact pN ht (eV v)
   have R:(aE 51 ⟨w.heap.size,0,none⟩).run aj W3=.ok (al (bf v).toArray) W3:=by
    rw[←hW3];exact gl (kz W2 _ 0 (bf v) (by rw[(eV v).length];exact ht)) (eV v).length
   have HB3:Hid (ag w.heap.size w W3):=by
    have h2:ag w.heap.size w W2:=by rw[←hW2];exact HB.out.alloc HB.out.size _
    have h3:ag w.heap.size W2 W3:=by
     rw[←hW3];exact qw (aG _) _ _ _
    exact h2.trans h3
   have g1:¬((64:Int)<64):=by omega
   clear hblk ht hW3 hk hlt;go_wp2_with fail;exact bo (ev rfl rfl R) rfl ⟨rfl,HB3.out⟩
end
section
abbrev nX (w0 W:ah) (rb p0 p1:Nat) (S:RS) (own:Nat->Prop):Prop:=gT (aU rb p0 p1 S) w0 W own
theorem RS.fit {S:RS} (h1:S.fuse<=9223372036854775807) (h2:0<=S.done) (h3:S.done<=1000000):S.Fit:=⟨fun h=>kR _ (by omega),kR _ (by omega)⟩
section
variable {w0 W W':ah} {rb p0 p1:Nat} {S:RS} {own:Nat->Prop}
theorem nX.beside (h:nX w0 W rb p0 p1 S own) (hb:ag W.heap.size W W'):nX w0 W' rb p0 p1 S own:=gT.beside (aU.isRes _ _ _ _) h hb
theorem nX.new (n0 n1:Nat) (w0 w:ah) (hb:ag w0.heap.size w0 w) (h01:1<=n0) (h02:n0<=4096) (h11:1<=n1) (h12:n1<=4096) (own:Nat->Prop) (ho:∀k,own k->k<w.heap.size):
  ap aj 12 #[ab ac (n0:Int),ab ac (n1:Int)] w fun e w'=>∃rb p0 p1,e=ao (aQ #[am (some ⟨rb,0,none⟩),ab ac 0])/\nX w0 w' rb p0 p1 (gu n0 n1) own/\ag w.heap.size w w':=by
 refine(LU n0 n1 w h01 h02 h11 h12).mono ?_;rintro e w' ⟨rb,p0,p1,rfl,⟨f,g1,g2⟩,g3⟩;exact⟨rb,p0,p1,rfl,⟨f,g1,fun k hk=>⟨bm hb.size (g2 k hk),fun h=>by have:=ho k h;have:=g2 k hk;omega⟩,fun k hk=>bq (ho k hk) g3.size,hb.trans (g3.mono hb.size)⟩,g3⟩
theorem nX.crash {v0 v1:ak} {b0 b1:List Int} (h:nX w0 W rb p0 p1 S own) (hv0:Sl ay W v0 b0) (hv1:Sl ay W v1 b1) (hB0:aP b0) (hB1:aP b1)
  (hc0:b0≠ []->∀b off len cap,v0=af (some ⟨b,off,none⟩) len cap->b<w0.heap.size\/own b) (hc1:b1≠ []->∀b off len cap,v1=af (some ⟨b,off,none⟩) len cap->b<w0.heap.size\/own b) (hm:S.Few 1000000):
  ap aj 47 #[am (some ⟨rb,0,none⟩),v0,v1] W fun e w'=>e=ao (aQ #[])/\nX w0 w' rb p0 p1 (S.crash b0 b1) own/\∀k,own k->w'.heap[k]? =W.heap[k]? :=
 gT.call (R:=fun e _=>e=ao (aQ #[])) (aU.isRes _ _ _ _) h fun f hf hk=>by
  refine hf.crash hv0 hv1 hB0 hB1 (fun hn b off len cap e hfb=> ?_) (fun hn b off len cap e hfb=> ?_) hm
  ·rcases hc0 hn b off len cap e with h' | h'
   ·have:=(hk b hfb).1;omega
   ·exact(hk b hfb).2 h'
  ·rcases hc1 hn b off len cap e with h' | h'
   ·have:=(hk b hfb).1;omega
   ·exact(hk b hfb).2 h'
end
end
section
structure RS.Up (S:RS):Prop where
 fuse:S.fuse= -1
 down:S.down=false
theorem RS.Up.ok {S:RS} (h:S.Up):S.ok=true:=by unfold RS.ok;rw[h.down,h.fuse];rfl
theorem RS.Up.after {S:RS} (h:S.Up):S.after={S with done:=S.done+1}:=by
 unfold RS.after;rw[if_pos h.ok,if_neg (by rw[h.fuse];omega)]
theorem RS.put_rest (S:RS) (dev:Int) (i:Nat) (b:List ak):(S.put dev i b).fuse=S.fuse/\(S.put dev i b).down=S.down/\(S.put dev i b).done=S.done/\(S.put dev i b).n0=S.n0/\(S.put dev i b).n1=S.n1:=by
 unfold RS.put;split<;>exact⟨rfl,rfl,rfl,rfl,rfl⟩
theorem RS.fl_rest (S:RS) (dev:Int):(S.fl dev).fuse=S.fuse/\(S.fl dev).down=S.down/\(S.fl dev).done=S.done/\(S.fl dev).n0=S.n0/\(S.fl dev).n1=S.n1:=by
 unfold RS.fl;split<;>exact⟨rfl,rfl,rfl,rfl,rfl⟩
theorem RS.Up.write {S:RS} (h:S.Up) (dev i:Int) (b:List ak):(S.write dev i b).Up/\((S.writeE dev i=0/\(S.write dev i b).done=S.done+1)\/(S.writeE dev i=1/\(S.write dev i b).done=S.done)):=by
 unfold RS.write RS.writeE;split
 ·rw[if_pos h.ok,if_pos h.ok,h.after];have:=RS.put_rest {S with done:=S.done+1} dev i.toNat b;exact⟨⟨this.1.trans h.fuse,this.2.1.trans h.down⟩,aA ⟨rfl,this.2.2.1⟩⟩
 ·exact⟨h,aD ⟨rfl,rfl⟩⟩
theorem RS.Up.flush {S:RS} (h:S.Up) (dev:Int):(S.flush dev).Up/\((S.flushE dev=0/\(S.flush dev).done=S.done+1)\/(S.flushE dev=1/\(S.flush dev).done=S.done)):=by
 unfold RS.flush RS.flushE;split
 ·rw[if_pos h.ok,if_pos h.ok,h.after];have:=RS.fl_rest {S with done:=S.done+1} dev;exact⟨⟨this.1.trans h.fuse,this.2.1.trans h.down⟩,aA ⟨rfl,this.2.2.1⟩⟩
 ·exact⟨h,aD ⟨rfl,rfl⟩⟩
theorem RS.crash_up (S:RS) (b0 b1:List Int):(S.crash b0 b1).Up/\(S.crash b0 b1).done=S.done:=⟨⟨rfl,rfl⟩,rfl⟩
theorem BT (n0 n1:Nat):(gu n0 n1).Up:=⟨rfl,rfl⟩
theorem BU {D:Nat->Sec} {n m k:Nat} {b:List ak} (h:∀i,i<n->(D i).vs.length<=m) (hk:k<n) (hm:m<=254):∀i,i<n->(upd D k ((D k).add b) i).vs.length<=m+1:=fun i hi=>by
 by_cases e:i=k
 ·subst e;rw[kg,BM _ _ (by have:=h i hi;omega)];have:=h i hi;omega
 ·rw[ji _ _ e];exact Nat.le_succ_of_le (h i hi)
theorem RS.few_put {S:RS} {m:Nat} (h:S.Few m) (hm:m<=254) {dev i:Int} (hi:S.has dev i=true) (b:List ak):(S.put dev i.toNat b).Few (m+1):=by
 obtain⟨hd,k,rfl,hk⟩:=RS.has_lt hi;rcases hd with rfl | rfl
 ·exact⟨BU h.1 (by exact hk) hm,fun i hi=>Nat.le_succ_of_le (h.2 i hi)⟩
 ·exact⟨fun i hi=>Nat.le_succ_of_le (h.1 i hi),BU h.2 (by exact hk) hm⟩
theorem RS.few_write {S:RS} {m:Nat} (h:S.Few m) (hm:m<=254) (dev i:Int) (b:List ak):(S.write dev i b).Few (m+1):=by
 unfold RS.write;split
 ·next hh=>
  split
  ·exact RS.few_put (RS.after_few h) hm (by unfold RS.has;rw[S.after_len];exact hh) b
  ·exact(RS.after_few h).mono (by omega)
 ·exact h.mono (by omega)
theorem RS.few_fl {S:RS} {m:Nat} (h:S.Few m) (dev:Int):(S.fl dev).Few m:=by
 unfold RS.fl;split
 ·exact⟨fun i hi=>by show(fW S.D0 S.n0 i).vs.length<=m;unfold fW;rw[if_pos (by exact hi)];exact bc _,h.2⟩
 ·exact⟨h.1,fun i hi=>by show(fW S.D1 S.n1 i).vs.length<=m;unfold fW;rw[if_pos (by exact hi)];exact bc _⟩
theorem RS.few_flush {S:RS} {m:Nat} (h:S.Few m) (dev:Int):(S.flush dev).Few m:=by
 unfold RS.flush;split
 ·split
  ·exact RS.few_fl (RS.after_few h) dev
  ·exact RS.after_few h
 ·exact h
theorem RS.few_crash (S:RS) (b0 b1:List Int) (m:Nat):(S.crash b0 b1).Few m:=
 ⟨fun i hi=>by show(dN S.D0 _ _ i).vs.length<=m;rw[qF S.D0 _ S.n0 i hi];exact bc _,fun i hi=>by show(dN S.D1 _ _ i).vs.length<=m;rw[qF S.D1 _ S.n1 i hi];exact bc _⟩
theorem Ca (n0 n1 m:Nat):(gu n0 n1).Few m:=⟨fun i _=>bc _,fun i _=>bc _⟩
def byt (c:List ak):List Int:=c.map aS
theorem lx (bs:List Int):byt (aw bs)=bs:=by
 unfold byt aw;rw[iX,show aS ∘ Value.int ay=id from by funext x;rfl,List.map_id]
def RS.rd (S:RS) (i:Nat):List Int:=byt (S.D0 i).look
def RS.wrs (S:RS):List (Nat×List ak)->RS×Bool
 | []=>(S,true)
 | (i,b)::l=>if S.writeE 0 (i:Int)=0 then(S.write 0 (i:Int) b).wrs l else(S.write 0 (i:Int) b,false)
def ly (D:Nat->Sec):List (Nat×List ak)->Nat->Sec
 | []=>D
 | (i,b)::l=>ly (upd D i ((D i).add b)) l
theorem sZ {i:Nat}:∀(l:List (Nat×List ak)) (D:Nat->Sec),i ∉ l.map (·.1)->ly D l i=D i
 | [],D,_=>rfl
 | (j,b)::l,D,h=>by
  simp only[List.map_cons,dy,not_or]at h;show ly (upd D j _) l i=_;rw[sZ l _ h.2,ji _ _ h.1]
theorem wt {i:Nat} {b:List ak}:∀(l:List (Nat×List ak)) (D:Nat->Sec),(l.map (·.1)).Nodup->(i,b)∈ l->ly D l i=(D i).add b
 | [],D,_,h=>by simp at h
 | (j,c)::l,D,hn,h=>by
  simp only[List.map_cons,List.nodup_cons]at hn;show ly (upd D j _) l i=_;rcases dy.1 h with e | h
  ·cases e;rw[sZ l _ hn.1,kg]
  ·have hne:i≠j:=fun e=>hn.1 (e▸List.mem_map_of_mem h);rw[wt l _ hn.2 h,ji _ _ hne]
structure Same0 (S T:RS):Prop where
 n0:T.n0=S.n0
 n1:T.n1=S.n1
 D1:T.D1=S.D1
theorem Same0.refl (S:RS):Same0 S S:=⟨rfl,rfl,rfl⟩
theorem Same0.trans {A B C:RS} (h:Same0 A B) (k:Same0 B C):Same0 A C:=⟨k.n0.trans h.n0,k.n1.trans h.n1,k.D1.trans h.D1⟩
theorem RS.has0 {S:RS} {i:Nat} (h:i<S.n0):S.has 0 (i:Int)=true:=by
 unfold RS.has RS.len;rw[if_pos rfl];exact decide_eq_true ⟨by omega,by omega⟩
theorem RS.write0 (S:RS) {i:Nat} (h:i<S.n0) (b:List ak):Same0 S (S.write 0 (i:Int) b)/\((S.ok=true/\S.writeE 0 (i:Int)=0/\(S.write 0 (i:Int) b).D0=upd S.D0 i ((S.D0 i).add b))\/(S.ok=false/\S.writeE 0 (i:Int)=14/\(S.write 0 (i:Int) b).D0=S.D0)):=by
 have hh:=RS.has0 h;obtain⟨e0,e1,e2,e3⟩:=S.after_same;unfold RS.write RS.writeE;rw[if_pos hh,if_pos hh];by_cases hok:S.ok=true
 ·rw[if_pos hok,if_pos hok];refine⟨?_,aA ⟨hok,rfl, ?_⟩⟩
  ·unfold RS.put;rw[if_pos rfl];exact⟨e0,e1,e3⟩
  ·unfold RS.put;rw[if_pos rfl];show upd S.after.D0 _ ((S.after.D0 _).add b)=_;rw[e2]
   rfl
 ·rw[if_neg hok,if_neg hok];exact⟨⟨e0,e1,e3⟩,aD ⟨by simpa using hok,rfl,e2⟩⟩
theorem RS.flush0 (S:RS):Same0 S (S.flush 0)/\((S.ok=true/\S.flushE 0=0/\(S.flush 0).D0=fW S.D0 S.n0)\/(S.ok=false/\S.flushE 0=14/\(S.flush 0).D0=S.D0)):=by
 obtain⟨e0,e1,e2,e3⟩:=S.after_same;have a1:S.flush 0=if S.ok=true then S.after.fl 0 else S.after:=by unfold RS.flush;rw[if_pos (Or.inl rfl)]
 have a2:S.flushE 0=if S.ok=true then 0 else 14:=by unfold RS.flushE;rw[if_pos (Or.inl rfl)]
 rw[a1,a2];by_cases hok:S.ok=true
 ·rw[if_pos hok,if_pos hok];refine⟨?_,aA ⟨hok,rfl, ?_⟩⟩
  ·unfold RS.fl;rw[if_pos rfl];exact⟨e0,e1,e3⟩
  ·unfold RS.fl;rw[if_pos rfl];show fW S.after.D0 S.after.n0=_;rw[e2,e0]
 ·rw[if_neg hok,if_neg hok];exact⟨⟨e0,e1,e3⟩,aD ⟨by simpa using hok,rfl,e2⟩⟩
theorem RS.wrs_spec:∀(l:List (Nat×List ak)) (S:RS),(∀x ∈ l,x.1<S.n0)->Same0 S (S.wrs l).1/\∃m,m<=l.length/\(S.wrs l).1.D0=ly S.D0 (l.take m)/\((S.wrs l).2=true->m=l.length)
 | [],S,_=>⟨Same0.refl S,0,aG _,rfl,fun _=>rfl⟩
 | (i,b)::l,S,h=>by
  have hi:i<S.n0:=h (i,b) dC;obtain⟨h1,h2⟩:=S.write0 hi b;unfold RS.wrs;rcases h2 with⟨hok,he,hD⟩ | ⟨hok,he,hD⟩
  ·rw[if_pos he];obtain⟨g1,m,g2,g3,g4⟩:=RS.wrs_spec l (S.write 0 (i:Int) b) (fun x hx=>by rw[h1.n0];exact h x (ea _ hx));refine⟨h1.trans g1,m+1,by simpa using g2, ?_,fun hh=>by rw[g4 hh];rfl⟩;rw[g3,hD]
   rfl
  ·rw[if_neg (by rw[he];omega)];exact⟨h1,0,bc _,hD,fun hh=>by simp at hh⟩
theorem RS.Up.wrs:∀(l:List (Nat×List ak)) {S:RS},S.Up->(∀x ∈ l,x.1<S.n0)->(S.wrs l).2=true/\(S.wrs l).1.Up
 | [],S,hu,_=>⟨rfl,hu⟩
 | (i,b)::l,S,hu,h=>by
  have hi:i<S.n0:=h (i,b) dC;obtain⟨h1,h2⟩:=S.write0 hi b;unfold RS.wrs;rcases h2 with⟨hok,he,hD⟩ | ⟨hok,he,hD⟩
  ·rw[if_pos he];exact RS.Up.wrs l (hu.write 0 (i:Int) b).1 (fun x hx=>by rw[h1.n0];exact h x (ea _ hx))
  ·rw[hu.ok]at hok;cases hok
def cN (frm count at0:Nat) (seq:Int) (t:List Img):List (Nat×List ak):=(bG seq t).zipIdx.map fun x=>(frm+(at0+x.2)%count,aw x.1)
theorem wu (frm count at0:Nat) (seq:Int) (t:List Img):(cN frm count at0 seq t).length=t.length+1:=by simp[cN,iU]
theorem td {frm count at0:Nat} {seq:Int} {t:List Img} {k:Nat} {b:List Int} (h:(bG seq t)[k]? =some b):(cN frm count at0 seq t)[k]? =some (frm+(at0+k)%count,aw b):=by
 unfold cN;rw[dY,List.getElem?_zipIdx,h];simp
theorem wv (frm count at0:Nat) (seq:Int) (t:List Img):(cN frm count at0 seq t).map (·.1)=(cI (t.length+1)).map fun k=>frm+(at0+k)%count:=by
 apply jD;intro k;rw[dY,dY];by_cases hk:k<t.length+1
 ·rw[mj hk];have:k< (bG seq t).length:=by rw[iU];exact hk
  rw[td (aZ this)]
  rfl
 ·rw[ej (by rw[wu];omega),ej (by simp;omega)]
  rfl
theorem ww {a count j k:Nat} (hj:j<count) (hk:k<count) (h:(a+j)%count=(a+k)%count):j=k:=by
 have h1:=Nat.div_add_mod (a+j) count;have h2:=Nat.div_add_mod (a+k) count;rw[h]at h1;rcases Nat.lt_trichotomy ((a+j) / count) ((a+k) / count)with h3 | h3 | h3
 ·have:=Nat.mul_le_mul_left count (show(a+j) / count+1<=(a+k) / count from h3);rw[Nat.mul_succ]at this;omega
 ·rw[h3]at h1;omega
 ·have:=Nat.mul_le_mul_left count (show(a+k) / count+1<=(a+j) / count from h3);rw[Nat.mul_succ]at this;omega
theorem Md {frm count at0:Nat} {seq:Int} {t:List Img} (h:t.length+1<=count):((cN frm count at0 seq t).map (·.1)).Nodup:=by
 rw[wv];unfold List.Nodup;rw[List.pairwise_map];refine List.Pairwise.imp_of_mem (fun{j k} hj hk hne e=> ?_) List.nodup_range;have hj:=dJ.1 hj;have hk:=dJ.1 hk;exact hne (ww (a:=at0) (count:=count) (by omega) (by omega) (by omega))
def RS.app (S:RS) (frm count at0:Nat) (seq:Int) (t:List Img):RS×Int:=
 if(S.wrs ((cN frm count at0 seq t).take t.length)).2=false then((S.wrs ((cN frm count at0 seq t).take t.length)).1,14)
 else if(S.wrs ((cN frm count at0 seq t).take t.length)).1.flushE 0≠0 then((S.wrs ((cN frm count at0 seq t).take t.length)).1.flush 0,14)
 else if(((S.wrs ((cN frm count at0 seq t).take t.length)).1.flush 0).wrs ((cN frm count at0 seq t).drop t.length)).2=false then((((S.wrs ((cN frm count at0 seq t).take t.length)).1.flush 0).wrs ((cN frm count at0 seq t).drop t.length)).1,14)
 else if(((S.wrs ((cN frm count at0 seq t).take t.length)).1.flush 0).wrs ((cN frm count at0 seq t).drop t.length)).1.flushE 0≠0 then((((S.wrs ((cN frm count at0 seq t).take t.length)).1.flush 0).wrs ((cN frm count at0 seq t).drop t.length)).1.flush 0,14)
 else((((S.wrs ((cN frm count at0 seq t).take t.length)).1.flush 0).wrs ((cN frm count at0 seq t).drop t.length)).1.flush 0,0)
end
section
section
variable {S:RS} {frm count at0:Nat} {seq:Int} {t:List Img}
def cA (frm count at0 k:Nat):Nat:=frm+(at0+k)%count
theorem Me (hc:0<count) (hn:frm+count<=S.n0):∀x ∈ cN frm count at0 seq t,x.1<S.n0:=fun x hx=>by
 have:x.1 ∈(cN frm count at0 seq t).map (·.1):=List.mem_map_of_mem hx;rw[wv]at this;obtain⟨k,_,e⟩:=cM.1 this;rw[←e];have:=iI (at0+k) hc;omega
def Sec.may (s:Sec) (c:List ak):Prop:=c=s.c\/c ∈ s.vs
theorem Sec.add_few {s:Sec} (h:s.vs.length<=255) (b:List ak):s.add b=⟨s.c,s.vs++ [b]⟩:=by unfold Sec.add;rw[if_neg (by omega)]
theorem Sec.look_add {s:Sec} (h:s.vs.length<=255) (b:List ak):(s.add b).look=b:=by rw[Sec.add_few h];unfold Sec.look;simp
theorem Cb {s:Sec} (h:s.vs= []):s.look=s.c:=by unfold Sec.look;rw[h];rfl
theorem Mf (hc:0<count) (hn:frm+count<=S.n0) (k:Nat):cA frm count at0 k<S.n0:=by
 unfold cA;have:=iI (at0+k) hc;omega
theorem te {j k:Nat} (hj:j<count) (hk:k<count) (h:cA frm count at0 j=cA frm count at0 k):j=k:=by
 unfold cA at h;exact ww (a:=at0) hj hk (by omega)
theorem Mg {b:List Int} (hb:(bG seq t)[t.length]? =some b):(cN frm count at0 seq t).drop t.length= [(cA frm count at0 t.length,aw b)]:=by
 have hL:=wu frm count at0 seq t;rw[List.drop_eq_getElem_cons (by omega),List.drop_of_length_le (by omega)];have:=td (frm:=frm) (count:=count) (at0:=at0) hb;rw[aZ (by omega)]at this;rw[Option.some.inj this]
 rfl
theorem Cc (seq:Int) (t:List Img):(bG seq t)[t.length]? =some (dI seq t.length).bytes:=by
 unfold bG;rw[fv (by simp)];simp
theorem Mh (T:RS) (b0 b1:List Int) {i:Nat} (hi:i<T.n0):∃c,(T.crash b0 b1).D0 i=⟨c, []⟩/\(T.D0 i).may c:=by
 have h1:=qF T.D0 (jO T.D0 b0) T.n0 i hi;have h2:=LR T.D0 (jO T.D0 b0) T.n0 i hi;refine⟨(dN T.D0 (jO T.D0 b0) (cZ T.D0 T.n0) i).look, ?_,h2⟩;show dN T.D0 (jO T.D0 b0) (cZ T.D0 T.n0) i=_;rw[Cb h1];cases hs:dN T.D0 (jO T.D0 b0) (cZ T.D0 T.n0) i with
 | mk c vs=>
  rw[hs]at h1;subst h1
  rfl
theorem Sec.eta {s:Sec} (h:s.vs= []):s=⟨s.look, []⟩:=by
 rw[Cb h];cases s;simp at h;rw[h]
end
end
section
theorem pt (frm count p0 L k:Nat):cA frm count ((p0+L)%count) k=cA frm count p0 (L+k):=by
 unfold cA;rw[Nat.mod_add_mod,Nat.add_assoc]
theorem Mi {frm count p0 k:Nat} (h:p0<count):cA frm count p0 (count+k)=cA frm count p0 k:=by
 unfold cA;rw[show p0+(count+k)=p0+k+count by omega,Nat.add_mod_right]
structure RingIs (S:RS) (frm count p0:Nat) (q0:Int) (ts:List (List Img)):Prop where
 room:frm+count<=S.n0
 two:2<=count
 most:count<=256
 at0:p0<count
 seq:dx q0
 ok:∀t ∈ ts,TxnOk count t
 fits:(bJ q0 ts).length<=count
 lay:∀k,k< (bJ q0 ts).length->(bJ q0 ts)[k]? =some (S.rd (cA frm count p0 k))
theorem RingIs.laid {S:RS} {frm count p0:Nat} {q0:Int} {ts:List (List Img)} (h:RingIs S frm count p0 q0 ts):qD S.rd frm count p0 q0 ts ((p0+(bJ q0 ts).length)%count) (gF q0 ts.length):=
 BG (by have:=h.most;omega) (by have:=h.two;omega) ts p0 q0 h.seq h.ok h.lay h.at0
theorem Mj (q0:Int) (ts:List (List Img)) (h:∀t ∈ ts,1<=t.length):2*ts.length<=(bJ q0 ts).length:=by
 induction ts generalizing q0 with
 | nil=>simp
 | cons t ts ih=>
  have h1:=h t dC;have h2:=ih ((q0+1)%4294967296) (fun u hu=>h u (ea _ hu));show 2*(ts.length+1)<=(bG q0 t++bJ _ ts).length;rw[cE,iU];omega
theorem RingIs.len {S:RS} {frm count p0:Nat} {q0:Int} {ts:List (List Img)} (h:RingIs S frm count p0 q0 ts):2*ts.length<=count:=bm (Mj q0 ts (fun t ht=>(h.ok t ht).least)) h.fits
theorem RingIs.rep {S:RS} {frm count p0:Nat} {q0:Int} {ts:List (List Img)} (h:RingIs S frm count p0 q0 ts) (hn:lW S.rd frm count ((p0+(bJ q0 ts).length)%count) (gF q0 ts.length)=none):
  eh S.rd frm count p0 q0=(ts,(p0+(bJ q0 ts).length)%count,gF q0 ts.length):=
 Lz h.laid hn (by have:=h.len;omega)
theorem RingIs.more {S S':RS} {frm count p0:Nat} {q0:Int} {ts:List (List Img)} {t:List Img} (h:RingIs S frm count p0 q0 ts) (ht:TxnOk count t) (hfit:(bJ q0 ts).length+t.length+1<=count) (hn:S'.n0=S.n0)
  (hnew:∀k b,(bG (gF q0 ts.length) t)[k]? =some b->S'.rd (cA frm count ((p0+(bJ q0 ts).length)%count) k)=b)
  (hold:∀i,i<S.n0->(∀k,k<=t.length->i≠cA frm count ((p0+(bJ q0 ts).length)%count) k)->S'.rd i=S.rd i):RingIs S' frm count p0 q0 (ts++ [t]):=by
 have hl:bJ q0 (ts++ [t])=bJ q0 ts++bG (gF q0 ts.length) t:=by rw[wk _ _ _ h.seq,BH]
 refine⟨by rw[hn];exact h.room,h.two,h.most,h.at0,h.seq, ?_, ?_, ?_⟩
 ·intro u hu;rcases gc.1 hu with hu | hu
  ·exact h.ok u hu
  ·simp at hu;rw[hu];exact ht
 ·rw[hl,cE,iU];omega
 ·intro k hk;rw[hl]at hk ⊢;by_cases hlt:k< (bJ q0 ts).length
  ·rw[fS hlt,h.lay k hlt,hold _ (Mf (show 0<count by have:=h.two;omega) h.room k) (fun j hj e=> ?_)];rw[pt]at e;have:=te (frm:=frm) (at0:=p0) (count:=count) (j:=k) (k:=(bJ q0 ts).length+j) (by omega) (by omega) e;omega
  ·rw[cE,iU]at hk;rw[fv (by omega)];have hlen:k - (bJ q0 ts).length< (bG (gF q0 ts.length) t).length:=by rw[iU];omega
   rw[aZ hlen];have:=hnew _ _ (aZ hlen);rw[pt,show(bJ q0 ts).length+(k - (bJ q0 ts).length)=k by omega]at this;rw[this]
def fF:List ak:=ab ac 0::gD
theorem qH:fF.toArray.size=49:=by simp[fF,gD,aw]
def cL (l:List Img):List (List ak):=l.map Img.cells
theorem nY (l:List Img):(cL l).length=l.length:=by simp[cL]
theorem nZ (w:ah):(df 205 #[]).run aj w=.ok (al gD.toArray) w:=by kernel_rfl
def tf:Nat->Option (Nat×Nat):=fun i=>(#[(0,1),(1,48)]:Array (Nat×Nat))[i]?
theorem Mk (i:Int) (c:List ak) (hc:c.length=48):ir tf fF.toArray [(0,ab ac i),(1,al c.toArray)]=some (Value.int ac i::c).toArray:=by
 have h3:ir tf fF.toArray [(0,ab ac i),(1,al c.toArray)]=ir tf (fF.set 0 (ab ac i)).toArray [(1,al c.toArray)]:=rfl;have hz:(fF.set 0 (ab ac i)).toArray.size=49:=by simp[fF,gD,aw]
 rw[h3];have p3:tf 1=some (1,48):=rfl;simp only[ir,p3,Value.cells];refine(if_neg ?_).trans ?_
 ·intro h;rcases Bool.or_eq_true_iff.1 h with h | h
  ·exact(of_decide_eq_true h) (by simpa using hc)
  ·have h':1+c.toArray.size>(fF.set 0 (ab ac i)).toArray.size:=of_decide_eq_true h;rw[hz,cJ,hc]at h';omega
 congr 1
 rw[←Array.foldl_toList,Array.toList_zipIdx,vH];apply Array.ext_getElem?;intro j;rw[so c 1 _ j (by rw[hz,hc];omega)]
 match j with
 | 0=>rfl
 | j+1=>
  by_cases hj:j<48
  ·rw[if_pos (by omega)];simp
  ·rw[if_neg (by omega),Array.getElem?_eq_none (by omega)];simp;omega
theorem Ml:(aj.info? 232).map (fun i=>(i.zero,i.size,i.bytes))=some (some (al fF.toArray),49,56):=by kernel_rfl
theorem oc (w:ah):(zeroValue 232).run aj w=.ok (al fF.toArray) w:=by kernel_rfl
set_option maxRecDepth 100000 in
theorem append_imgR (N:Nat) (w:ah) (v:ak) (vs:List (List ak)) (b:List ak) (B:Nat) (hown:w.ownsRow N 232 49 v vs.length vs.flatten) (hb:b.length=49) (h1:∀u ∈ b,u.oneCell'=true) (hB:w.rangeAt B 0 b) (hlen:vs.length<=1000000) (hN:N<=w.heap.size):
  ∃v' w',(Builtin.append_ #[231, 231] 231 #[v,af (some ⟨B,0,none⟩) 1 1]).run aj w=.ok v' w'/\w'.ownsRow N 232 49 v' (vs++ [b]).length (vs++ [b]).flatten/\w.grownBy w' v.ownBlock/\(v'.ownBlock=v.ownBlock\/v'.ownBlock=some w.heap.size):=by
 obtain⟨i0,hi,hz0,hz1,hz2⟩:=fy Ml;obtain⟨v',w',hr,h1,h2,_,h3⟩:=run_append_own_at (P:=aj) w N 231 231 232 i0 (al fF.toArray) 49 56 Tryz.underlying231 hi hz0 hz1 hz2 qH (by omega) v vs.length vs.flatten hown
  ⟨B,0,none⟩ 1 1 b (by rw[hb]) (fun j u hj=>by have:=hB j u hj;rwa [Addr.add_mid]) h1 (by unfold aY;omega) (by omega) hN
 exact⟨v',w',hr,by simpa using h1,h2,h3⟩
theorem Cd:(aj.info? 226).map (·.size)=some 49:=by kernel_rfl
theorem tg:(aj.info? 226).map (fun i=>(i.zero,i.size,i.bytes))=some (some (al fF.toArray),49,56):=by kernel_rfl
theorem ew (w:ah):(zeroValue 226).run aj w=.ok (al fF.toArray) w:=by kernel_rfl
set_option maxRecDepth 100000 in
theorem Ce {w:ah} {b o:Nat} {c:List ak} (hc:w.rangeAt b o c) (h:c.length=49):(aE 226 ⟨b,o,none⟩).run aj w=.ok (al c.toArray) w:=
 jF w b o _ c _ hc Tryz.underlying226 rfl (by rw[h];exact Cd)
theorem Mm {w:ah} {c:Array ak} {c':List ak} (h:c.size=49) (h':c'.length=49) (h1:∀v ∈ c',v.oneCell'=true):(aL 226 ⟨w.heap.size,0,none⟩ (al c'.toArray)).run aj (w.alloc (an c 226))=.ok () (w.alloc (an c'.toArray 226)):=
 kQ w _ c c'.toArray (by simpa [h']using Cd) (by simpa [h']using h) (ky h1)
theorem Cf (i:Int) (c:List ak) (hc:c.length=48) (w:ah):
  (df 226 #[(0,ab ac i),(1,al c.toArray)]).run aj w=.ok (al (Value.int ac i::c).toArray) w:=
 run_build w _ _ _ (Mk i c hc)
theorem Cg (w:ah) (b:List ak) (h:b.length=49):(dh 223 1 #[(0,al b.toArray)]).run aj w=.ok (af (some ⟨w.heap.size,0,none⟩) 1 1) (w.alloc (an b.toArray 226)):=by
 have e:(b.zipIdx.foldl (fun cs (x:ak×Nat)=>cs.setIfInBounds (0+x.2) x.1) ((Array.range 49).map (fF.toArray[·%fF.toArray.size]!)))=b.toArray:=sp b _ (by simp[h]);have e2:b.toArray.zipIdx.foldl (fun cs (x:ak×Nat)=>cs.setIfInBounds (0+x.2) x.1) ((Array.range 49).map (fF.toArray[·%fF.toArray.size]!))=b.toArray:=by
  rw[←Array.foldl_toList,Array.toList_zipIdx];exact e
 obtain⟨i0,hi,hz0,hz1,hz2⟩:=fy tg;refine run_buildSlice (P:=aj) w 223 226 1 _ b.toArray i0 (al fF.toArray) (by kernel_rfl) hi hz0 (by rw[hz1];decide) (by rw[hz1];decide) ?_;rw[hz1];show ir _ _ [(0,Value.agg b.toArray)]=_;simp only[ir];rw[if_neg (by simp[Value.cells,h])]
 congr 1
set_option maxRecDepth 100000 in
theorem Ch (N:Nat) (w:ah) (v:ak) (vs:List (List ak)) (b:List ak) (B:Nat) (hown:w.ownsRow N 226 49 v vs.length vs.flatten) (hb:b.length=49) (h1:∀u ∈ b,u.oneCell'=true) (hB:w.rangeAt B 0 b) (hlen:vs.length<=1000000) (hN:N<=w.heap.size):
  ∃v' w',(Builtin.append_ #[223, 223] 223 #[v,af (some ⟨B,0,none⟩) 1 1]).run aj w=.ok v' w'/\w'.ownsRow N 226 49 v' (vs++ [b]).length (vs++ [b]).flatten/\w.grownBy w' v.ownBlock/\(v'.ownBlock=v.ownBlock\/v'.ownBlock=some w.heap.size):=by
 obtain⟨i0,hi,hz0,hz1,hz2⟩:=fy tg;obtain⟨v',w',hr,h1,h2,_,h3⟩:=run_append_own_at (P:=aj) w N 223 223 226 i0 (al fF.toArray) 49 56 Tryz.underlying223 hi hz0 hz1 hz2 qH (by omega) v vs.length vs.flatten hown
  ⟨B,0,none⟩ 1 1 b (by rw[hb]) (fun j u hj=>by have:=hB j u hj;rwa [Addr.add_mid]) h1 (by unfold aY;omega) (by omega) hN
 exact⟨v',w',hr,by simpa using h1,h2,h3⟩
end
section
attribute [-simp] isAgg51 zeroValue51
attribute [-go_sem] aE aL
attribute [local go_sem] bC bD fe ez
def lz (n:Nat) (frm count at0:Int):Bool:=decide (0<=frm/\2<=count/\count<=256/\frm<=n/\count<=n - frm/\0<=at0/\at0<count)
section
variable {rq q0 q1:Nat} {S:RS} {w:ah} {f:Nat->Prop}
end
end
section
attribute [-simp] isAgg51 zeroValue51 isAgg205 zeroValue205 isAgg254 zeroValue254 isAgg232 zeroValue232
attribute [-go_sem] aE aL cS
attribute [local go_sem] bC bD dz nZ mW oc zJ zK
def RS.Byt (S:RS):Prop:=∀i,i<S.n0->aP (S.rd i)/\(S.rd i).length=64/\(S.D0 i).look=aw (S.rd i)
end
section
def BB (c:List ak):Prop:=∃bs,c=aw bs/\aP bs/\bs.length=64
structure Sec.BB (s:Sec):Prop where
 c:Go.Proofs.YtbeeenembgplmaaGreat.BB s.c
 vs:∀v ∈ s.vs,Go.Proofs.YtbeeenembgplmaaGreat.BB v
theorem BB.fill {n:Int} (h:0<=n/\n<256):BB (bf n):=⟨bg 64 n,by unfold bf aw;rw[List.map_replicate],fun j=>by
 rw[kO];split
 ·exact h
 ·decide,iq⟩
theorem Sec.BB.look {s:Sec} (h:s.BB):Go.Proofs.YtbeeenembgplmaaGreat.BB s.look:=by
 unfold Sec.look;cases e:s.vs.getLast? with
 | none=>exact h.c
 | some v=>exact h.vs v (List.mem_of_getLast? e)
theorem Sec.BB.add {s:Sec} (h:s.BB) {b:List ak} (hb:Go.Proofs.YtbeeenembgplmaaGreat.BB b):(s.add b).BB:=by
 unfold Sec.add;split
 ·exact⟨h.c,fun v hv=>by
   rcases List.mem_or_eq_of_mem_set hv with h1 | h1
   ·exact h.vs v h1
   ·exact h1▸hb⟩
 ·exact⟨h.c,fun v hv=>by
   rcases gc.1 hv with h1 | h1
   ·exact h.vs v h1
   ·rw[eF]at h1;exact h1▸hb⟩
theorem Sec.BB.settle {s:Sec} (h:s.BB) (k:Nat):(s.settle k).BB:=by
 unfold Sec.settle;refine⟨?_,fun v hv=>by cases hv⟩;show Go.Proofs.YtbeeenembgplmaaGreat.BB (if k=0 then s.c else s.vs[k - 1]?.getD s.c);split
 ·exact h.c
 ·cases e:s.vs[k - 1]? with
  | none=>exact h.c
  | some v=>exact h.vs v (dp e)
def RS.BB (S:RS):Prop:=∀i,(S.D0 i).BB
section
variable {S:RS}
theorem wz (n0 n1:Nat):(gu n0 n1).BB:=fun i=>⟨BB.fill (by omega),fun v hv=>by cases hv⟩
theorem RS.after_bb (h:S.BB):S.after.BB:=fun i=>by rw[S.after_same.2.2.1];exact h i
theorem RS.BB.put (h:S.BB) (dev:Int) (i:Nat) {b:List ak} (hb:Go.Proofs.YtbeeenembgplmaaGreat.BB b):(S.put dev i b).BB:=by
 unfold RS.put;split
 ·intro j;show(upd S.D0 i ((S.D0 i).add b) j).BB;unfold upd;split
  ·exact(h i).add hb
  ·exact h j
 ·exact h
theorem RS.BB.fl (h:S.BB) (dev:Int):(S.fl dev).BB:=by
 unfold RS.fl;split
 ·intro j;show(fW S.D0 S.n0 j).BB;unfold fW;split
  ·exact⟨(h j).look,fun v hv=>by cases hv⟩
  ·exact h j
 ·exact h
theorem RS.BB.write (h:S.BB) (dev i:Int) {b:List ak} (hb:Go.Proofs.YtbeeenembgplmaaGreat.BB b):(S.write dev i b).BB:=by
 unfold RS.write;split
 ·split
  ·exact(RS.after_bb h).put dev i.toNat hb
  ·exact RS.after_bb h
 ·exact h
theorem RS.BB.flush (h:S.BB) (dev:Int):(S.flush dev).BB:=by
 unfold RS.flush;split
 ·split
  ·exact(RS.after_bb h).fl dev
  ·exact RS.after_bb h
 ·exact h
theorem RS.BB.wrs:∀(l:List (Nat×List ak)) {S:RS},S.BB->(∀x ∈ l,Go.Proofs.YtbeeenembgplmaaGreat.BB x.2)->(S.wrs l).1.BB
 | [],S,h,_=>h
 | (i,b)::l,S,h,hl=>by
  have h1:=h.write 0 (i:Int) (hl (i,b) dC);unfold RS.wrs;split
  ·exact RS.BB.wrs l h1 fun x hx=>hl x (ea _ hx)
  ·exact h1
theorem Mn {frm count at0:Nat} {seq:Int} {t:List Img} (hs:dx seq) (hok:∀x ∈ t,x.Ok):∀x ∈ cN frm count at0 seq t,BB x.2:=by
 intro x hx;unfold cN at hx;obtain⟨y,hy,rfl⟩:=cM.1 hx;have hm:y.1 ∈ bG seq t:=by
  have:=List.mem_zipIdx hy;simp only[dP]at this;rw[this.2.2];exact List.getElem_mem _
 unfold bG at hm;rcases gc.1 hm with h | h
 ·obtain⟨z,hz,e⟩:=cM.1 h;exact⟨y.1,rfl,e▸Sct.bytes_bytes (nU hs (hok z hz)),e▸Sct.bytes_length (nU hs (hok z hz))⟩
 ·rw[eF]at h;exact⟨y.1,rfl,h▸Sct.bytes_bytes (pq hs),h▸Sct.bytes_length (pq hs)⟩
theorem RS.BB.crash (h:S.BB) (b0 b1:List Int):(S.crash b0 b1).BB:=by
 intro j;show(dN S.D0 (jO S.D0 b0) (cZ S.D0 S.n0) j).BB;unfold dN;split
 ·exact(h j).settle _
 ·exact h j
theorem RS.BB.byt (h:S.BB):S.Byt:=fun i _=>by
 obtain⟨bs,e,h1,h2⟩:=(h i).look;have:S.rd i=bs:=by unfold RS.rd;rw[e,lx]
 rw[this];exact⟨h1,h2,e⟩
end
end
section
abbrev cH:=List (Nat×List ak)
def RS.bat (S:RS):List cH->RS×Int
 | []=>(S,0)
 | l::ls=>if(S.wrs l).2=false then((S.wrs l).1,14)else if(S.wrs l).1.flushE 0≠0 then((S.wrs l).1.flush 0,14)else((S.wrs l).1.flush 0).bat ls
theorem RS.app_bat (S:RS) (frm count at0:Nat) (seq:Int) (t:List Img):S.app frm count at0 seq t=S.bat [(cN frm count at0 seq t).take t.length,(cN frm count at0 seq t).drop t.length]:=by
 unfold RS.app;simp only[RS.bat]
theorem RS.bat_cons (S:RS) (l:cH) (ls:List cH):S.bat (l::ls)=if(S.wrs l).2=false then((S.wrs l).1,14)else if(S.wrs l).1.flushE 0≠0 then((S.wrs l).1.flush 0,14)else((S.wrs l).1.flush 0).bat ls:=rfl
theorem RS.bat_append:∀(ls ks:List cH) (S:RS),S.bat (ls++ks)=if(S.bat ls).2=0 then(S.bat ls).1.bat ks else S.bat ls
 | [],ks,S=>by simp[RS.bat]
 | l::ls,ks,S=>by
  rw[cC,RS.bat_cons,RS.bat_cons];by_cases h1:(S.wrs l).2=false
  ·simp[h1]
  ·rw[if_neg h1,if_neg h1];by_cases h2:(S.wrs l).1.flushE 0≠0
   ·rw[if_pos h2,if_pos h2];simp
   ·rw[if_neg h2,if_neg h2];exact RS.bat_append ls ks _
def RS.Dry (S:RS):Prop:=∀i,i<S.n0->(S.D0 i).vs= []
structure FullW (S T:RS) (W:cH):Prop where
 n0:T.n0=S.n0
 n1:T.n1=S.n1
 dry:T.Dry
 bb:T.BB
 else_:∀i,i<S.n0->i ∉ W.map (·.1)->T.rd i=S.rd i
 at_:∀i b,(i,b)∈ W->T.rd i=byt b
structure PartW (S T:RS) (W:cH):Prop where
 n0:T.n0=S.n0
 n1:T.n1=S.n1
 dry:T.Dry
 bb:T.BB
 or_:∀i,i<S.n0->T.rd i=S.rd i\/∃b,(i,b)∈ W/\T.rd i=byt b
inductive AllW:RS->List cH->RS->Prop
 | nil {S T:RS}:FullW S T []->AllW S [] T
 | step {S U T:RS} {l:cH} {ls:List cH}:FullW S U l->AllW U ls T->AllW S (l::ls) T
inductive GoesW:RS->List cH->RS->Prop
 | nil {S T:RS}:FullW S T []->GoesW S [] T
 | part {S T:RS} {l:cH} {ls:List cH}:PartW S T l->GoesW S (l::ls) T
 | step {S U T:RS} {l:cH} {ls:List cH}:FullW S U l->GoesW U ls T->GoesW S (l::ls) T
theorem FullW.else' {S T:RS} {W:cH} (h:FullW S T W) {i:Nat} (hi:i<S.n0) (hn:∀b,(i,b)∉ W):T.rd i=S.rd i:=h.else_ i hi fun hm=>by
 obtain⟨x,hx,rfl⟩:=cM.1 hm;exact hn x.2 hx
theorem PartW.one {S T:RS} {i:Nat} {b:List ak} (h:PartW S T [(i,b)]) (hi:i<S.n0):FullW S T []\/FullW S T [(i,b)]:=by
 rcases h.or_ i hi with h1 | ⟨c,hc,h1⟩
 ·refine aA ⟨h.n0,h.n1,h.dry,h.bb,fun j hj _=> ?_,fun j c hc=>by cases hc⟩;rcases h.or_ j hj with h2 | ⟨c,hc,h2⟩
  ·exact h2
  ·obtain⟨rfl,rfl⟩:j=i/\c=b:=by simpa using hc
   exact h1
 ·obtain rfl:c=b:=by simpa using hc
  refine aD ⟨h.n0,h.n1,h.dry,h.bb,fun j hj hn=> ?_,fun j d hd=> ?_⟩
  ·rcases h.or_ j hj with h2 | ⟨d,hd,h2⟩
   ·exact h2
   ·obtain⟨rfl,rfl⟩:j=i/\d=c:=by simpa using hd
    simp at hn
  ·obtain⟨rfl,rfl⟩:j=i/\d=c:=by simpa using hd
   exact h1
theorem Sec.add_may {s:Sec} {b c:List ak} (h:(s.add b).may c):s.may c\/c=b:=by
 unfold Sec.add at h;split at h
 ·rcases h with h | h
  ·exact aA (aA h)
  ·rcases List.mem_or_eq_of_mem_set h with h | h
   ·exact aA (aD h)
   ·exact aD h
 ·rcases h with h | h
  ·exact aA (aA h)
  ·rcases gc.1 h with h | h
   ·exact aA (aD h)
   ·exact aD (eF.1 h)
theorem Ci {i:Nat} {c:List ak}:∀(l:cH) (D:Nat->Sec),(ly D l i).may c->(D i).may c\/∃b,(i,b)∈ l/\c=b
 | [],D,h=>aA h
 | (j,b)::l,D,h=>by
  rcases Ci l _ h with h | ⟨d,hd,e⟩
  ·by_cases hj:i=j
   ·subst hj;rw[kg]at h;rcases Sec.add_may h with h | h
    ·exact aA h
    ·exact aD ⟨b,dC,h⟩
   ·rw[ji _ _ hj]at h;exact aA h
  ·exact aD ⟨d,ea _ hd,e⟩
theorem Mo {c d:List ak} (h:Sec.may ⟨d, []⟩ c):c=d:=by
 rcases h with h | h
 ·exact h
 ·simp at h
theorem wA {S:RS} {i:Nat} {c:List ak} (h:S.D0 i=⟨c, []⟩):S.rd i=byt c:=by
 unfold RS.rd;rw[h]
 rfl
theorem Mp {S:RS} {D:Nat->Sec} {l:cH} {m:Nat} (hS:S.Dry) (hD:D=ly S.D0 (l.take m)) {i:Nat} {c:List ak} (hi:i<S.n0) (h:(D i).may c):c=(S.D0 i).look\/∃b,(i,b)∈ l/\c=b:=by
 rw[hD]at h;rcases Ci _ _ h with h | ⟨b,hb,e⟩
 ·rw[Sec.eta (hS i hi)]at h;exact aA (Mo h)
 ·exact aD ⟨b,jE hb,e⟩
theorem RS.crash_bb {S:RS} (h:S.BB) (b0 b1:List Int):(S.crash b0 b1).BB:=h.crash b0 b1
theorem RS.crash_part {S T:RS} {l:cH} {m:Nat} (hS:S.Dry) (hb:T.BB) (hn0:T.n0=S.n0) (hn1:T.n1=S.n1) (hD:T.D0=ly S.D0 (l.take m)) (b0 b1:List Int):PartW S (T.crash b0 b1) l:=by
 have hcr:=fun i (hi:i<S.n0)=>Mh T b0 b1 (i:=i) (by rw[hn0];exact hi);refine⟨hn0,hn1,fun i hi=> ?_,RS.crash_bb hb b0 b1,fun i hi=> ?_⟩
 ·obtain⟨c,e,_⟩:=hcr i (by have:(T.crash b0 b1).n0=S.n0:=hn0;omega);rw[e]
 ·obtain⟨c,e,h⟩:=hcr i hi;rw[wA e];rcases Mp hS hD hi h with h | ⟨b,hb,h⟩
  ·left;rw[h];rfl
  ·exact aD ⟨b,hb,by rw[h]⟩
structure BatOk (S:RS) (l:cH):Prop where
 lt:∀x ∈ l,x.1<S.n0
 nodup:(l.map (·.1)).Nodup
 bb:∀x ∈ l,Go.Proofs.YtbeeenembgplmaaGreat.BB x.2
theorem RS.flush_full {S T:RS} {l:cH} (hl:BatOk S l) (hS:S.Dry) (hb:T.BB) (hn0:T.n0=S.n0) (hn1:T.n1=S.n1) (hD:T.D0=fW (ly S.D0 l) S.n0):FullW S T l:=by
 have hat:∀i,i<S.n0->T.D0 i=⟨(ly S.D0 l i).look, []⟩:=fun i hi=>by rw[hD];unfold fW;rw[if_pos hi]
 refine⟨hn0,hn1,fun i hi=>by rw[hat i (by omega)],hb,fun i hi hn=> ?_,fun i b hib=> ?_⟩
 ·rw[wA (hat i hi),sZ _ _ hn];rfl
 ·have hi:=hl.lt _ hib;rw[wA (hat i hi),wt _ _ hl.nodup hib,Sec.look_add (by rw[hS i hi];exact bc _)]
theorem BatOk.n0 {S T:RS} {l:cH} (h:BatOk S l) (e:T.n0=S.n0):BatOk T l:=⟨fun x hx=>by rw[e];exact h.lt x hx,h.nodup,h.bb⟩
theorem RS.dry_full {S T:RS} (hb:T.BB) (hn0:T.n0=S.n0) (hn1:T.n1=S.n1) (hd:T.Dry) (hD:∀i,i<S.n0->T.rd i=S.rd i):FullW S T []:=⟨hn0,hn1,hd,hb,fun i hi _=>hD i hi,fun i b h=>by cases h⟩
theorem RS.crash_dry {S:RS} (hS:S.Dry) (hb:S.BB) (b0 b1:List Int):FullW S (S.crash b0 b1) []:=by
 have h:=RS.crash_part (S:=S) (T:=S) (l:= []) (m:=0) hS hb rfl rfl rfl b0 b1;exact RS.dry_full h.bb rfl rfl h.dry fun i hi=>by
  rcases h.or_ i hi with h | ⟨b,hb,_⟩
  ·exact h
  ·cases hb
theorem RS.bat_spec:∀(ls:List cH) (S:RS),S.Dry->S.BB->(∀l ∈ ls,BatOk S l)->∃T e,S.bat ls=(T,e)/\T.n0=S.n0/\T.n1=S.n1/\T.BB/\((e=0/\AllW S ls T)\/(e=14/\∀b0 b1,GoesW S ls (T.crash b0 b1)))
 | [],S,hS,hb,_=>⟨S,0,rfl,rfl,rfl,hb,aA ⟨rfl,.nil (RS.dry_full hb rfl rfl hS fun _ _=>rfl)⟩⟩
 | l::ls,S,hS,hb,hl=>by
  have hl0:=hl l dC;obtain⟨s1,m,m1,m2,m3⟩:=RS.wrs_spec l S hl0.lt;have hb1:=RS.BB.wrs l hb hl0.bb;rw[RS.bat_cons];generalize hR:S.wrs l=R at *;obtain⟨U,z⟩:=R
  dsimp only at s1 m2 m3 hb1 ⊢
  cases z with
  | false=>
   rw[if_pos rfl];exact⟨U,14,rfl,s1.n0,s1.n1,hb1,aD ⟨rfl,fun b0 b1=>.part (RS.crash_part hS hb1 s1.n0 s1.n1 m2 b0 b1)⟩⟩
  | true=>
   rw[if_neg (by simp)];have hm:=m3 rfl;rw[hm,List.take_length]at m2;obtain⟨s2,hf⟩:=RS.flush0 U;rcases hf with⟨_,h2,h3⟩ | ⟨_,h2,h3⟩
   ·rw[if_neg (by omega)];have hF:FullW S (U.flush 0) l:=RS.flush_full hl0 hS (hb1.flush 0) (s2.n0.trans s1.n0) (s2.n1.trans s1.n1) (by rw[h3,m2,s1.n0]);obtain⟨T,e,hT,t0,t1,tb,hc⟩:=RS.bat_spec ls (U.flush 0) hF.dry hF.bb (fun k hk=>(hl k (ea _ hk)).n0 hF.n0);refine⟨T,e,hT,t0.trans hF.n0,t1.trans hF.n1,tb, ?_⟩;rcases hc with⟨he,hA⟩ | ⟨he,hG⟩
    ·exact aA ⟨he,.step hF hA⟩
    ·exact aD ⟨he,fun b0 b1=>.step hF (hG b0 b1)⟩
   ·rw[if_pos (by omega)];refine⟨U.flush 0,14,rfl,s2.n0.trans s1.n0,s2.n1.trans s1.n1,hb1.flush 0,aD ⟨rfl,fun b0 b1=>.part (RS.crash_part (m:=l.length) hS (hb1.flush 0) (s2.n0.trans s1.n0) (s2.n1.trans s1.n1) (by rw[h3,m2,List.take_length]) b0 b1)⟩⟩
theorem AllW.last {S T:RS} {ls:List cH} (h:AllW S ls T):T.Dry/\T.BB:=by
 induction h with
 | nil h=>exact⟨h.dry,h.bb⟩
 | step _ _ ih=>exact ih
end
section
def ik (g:Geo) (a:Nat) (q:Int):List Int:= [82,86,84,49]++(aJ g.b 2++(aJ g.s 1++(aJ g.y 1++(aJ g.a 2++(aJ g.r 2++(aJ a 2++(aJ q 4++bg 30 0)))))))
def gG (gen:Int) (g:Geo) (a:Nat) (q:Int):Sct:=⟨83,gen,0,ik g a q⟩
def ex (i:Nat) (body:List Int):Sct:=⟨72,0,i,body⟩
def gV (x:List Int):Geo:=⟨bM ((x.drop 4).take 2),x[6]?.getD 0,x[7]?.getD 0,bM ((x.drop 8).take 2),bM ((x.drop 10).take 2)⟩
def gv (x:List Int):Int:=bM ((x.drop 12).take 2)
def jq (x:List Int):Int:=bM ((x.drop 14).take 4)
structure Sup where
 gen:Int
 g:Geo
 a:Nat
 q:Int
def pu (n0 n1:Nat) (bs:List Int):Prop:=
 fi bs=true/\(Sct.of bs).mark=83/\(Sct.of bs).index=0/\(gV (Sct.of bs).body).good/\(gV (Sct.of bs).body).oF<=n0/\(gV (Sct.of bs).body).oW<=n1/\
  gv (Sct.of bs).body< (gV (Sct.of bs).body).r/\(Sct.of bs).body=ik (gV (Sct.of bs).body) (gv (Sct.of bs).body).toNat (jq (Sct.of bs).body)
instance (n0 n1:Nat) (bs:List Int):Decidable (pu n0 n1 bs):=by unfold pu;infer_instance
def jQ (n0 n1:Nat) (bs:List Int):Option Sup:=if pu n0 n1 bs then some ⟨(Sct.of bs).seq,gV (Sct.of bs).body,(gv (Sct.of bs).body).toNat,jq (Sct.of bs).body⟩else none
theorem Mq (g:Geo) (a:Nat) (q:Int):(ik g a q).length=48:=by simp[ik,cu]
theorem Mr (g:Geo) (a:Nat) (q:Int):aP (ik g a q):=
 aP.app (by intro j;match j with | 0=>decide | 1=>decide | 2=>decide | 3=>decide | j+4=>simp) ((gL _ _).app ((gL _ _).app ((gL _ _).app ((gL _ _).app ((gL _ _).app ((gL _ _).app ((gL _ _).app (sU 30))))))))
section
variable (g:Geo) (a:Nat) (q:Int)
theorem Ms:((ik g a q).drop 4).take 2=aJ g.b 2:=rfl
theorem Mt:((ik g a q).drop 8).take 2=aJ g.a 2:=rfl
theorem Mu:((ik g a q).drop 10).take 2=aJ g.r 2:=rfl
theorem Mv:((ik g a q).drop 12).take 2=aJ a 2:=rfl
theorem Mw:((ik g a q).drop 14).take 4=aJ q 4:=rfl
theorem Mx:(ik g a q)[6]?.getD 0=g.s%256:=by
 show(if(0:Nat)<8 then g.s / 2^(8*0)%256 else 0)=_;simp
theorem My:(ik g a q)[7]?.getD 0=g.y%256:=by
 show(if(0:Nat)<8 then g.y / 2^(8*0)%256 else 0)=_;simp
end
theorem th {n:Int} (h:0<=n/\n<65536):bM (aJ n 2)=n:=by
 rw[pL n h.1 (by omega) 2,if_pos (by decide)];omega
theorem Mz {n:Int} (h:dx n):bM (aJ n 4)=n:=by
 rw[pL n h.1 (by have:=h.2;omega) 4,if_pos (by decide)];have:=h.1;have:=h.2;omega
theorem MA {g:Geo} (hg:g.good) {a:Nat} (ha:(a:Int)<g.r) {q:Int} (hq:dx q):gV (ik g a q)=g/\gv (ik g a q)=a/\jq (ik g a q)=q:=by
 obtain⟨⟨h1,h2,h3,h4,h5,h6,h7,h8⟩,h9,h10⟩:=hg;have hr:0<=g.r:=by
  have:=(Geo.bounds ⟨h1,h2,h3,h4,h5,h6,h7,h8⟩).2.2.2.2.1;omega
 refine⟨?_, ?_, ?_⟩
 ·unfold gV;rw[Ms,Mt,Mu,Mx,My,th (by omega),th (by omega),th (by omega)];have e1:g.s%256=g.s:=by omega
  have e2:g.y%256=g.y:=by omega
  rw[e1,e2]
 ·unfold gv;rw[Mv,th (by omega)]
 ·unfold jq;rw[Mw,Mz hq]
theorem ti {gen:Int} (hn:dx gen) (g:Geo) (a:Nat) (q:Int):(gG gen g a q).Ok:=⟨by show(0:Int)<=83/\(83:Int)<256;omega,hn,Mq g a q,Mr g a q⟩
theorem MB (gen:Int) (g:Geo) (a:Nat) (q:Int):(gG gen g a q).fits=true:=decide_eq_true ⟨by show(83:Int)≠0;omega,by show(0:Int)<=0/\(0:Int)<=65535;omega⟩
theorem qI {i:Nat} {body:List Int} (h1:body.length=48) (h2:aP body):(ex i body).Ok:=⟨by show(0:Int)<=72/\(72:Int)<256;omega,by show(0:Int)<=0/\(0:Int)<4294967296;omega,h1,h2⟩
theorem Cj {i:Nat} (hi:i<=65535) (body:List Int):(ex i body).fits=true:=decide_eq_true ⟨by show(72:Int)≠0;omega,by show(0:Int)<=i/\(i:Int)<=65535;omega⟩
theorem Ck {n0 n1:Nat} {gen:Int} (hn:dx gen) {g:Geo} (hg:g.good) (h0:g.oF<=n0) (h1:g.oW<=n1) {a:Nat} (ha:(a:Int)<g.r) {q:Int} (hq:dx q):
  jQ n0 n1 (gG gen g a q).bytes=some ⟨gen,g,a,q⟩:=by
 obtain⟨d1,d2⟩:=nV (ti hn g a q) (MB gen g a q);obtain⟨e1,e2,e3⟩:=MA hg ha hq;have eb:(gG gen g a q).body=ik g a q:=rfl;have hp:pu n0 n1 (gG gen g a q).bytes:=by
  unfold pu;rw[d2,eb,e1,e2,e3];exact⟨d1,rfl,rfl,hg,h0,h1,ha,rfl⟩
 unfold jQ;rw[if_pos hp,d2,eb,e1,e2,e3]
 rfl
def newer (x y:Option Sup):Option (Nat×Sup):=
 match y with
 | none=>x.map fun x=>(0,x)
 | some y=>match x with
  | none=>some (1,y)
  | some x=>if x.gen<y.gen then some (1,y)else some (0,x)
def il (bs:List Int) (i:Nat):Prop:=fi bs=true/\(Sct.of bs).mark=72/\(Sct.of bs).seq=0/\(Sct.of bs).index=i
instance (bs:List Int) (i:Nat):Decidable (il bs i):=by unfold il;infer_instance
theorem MC {i:Nat} (hi:i<=65535) {body:List Int} (h1:body.length=48) (h2:aP body):il (ex i body).bytes i/\(Sct.of (ex i body).bytes).body=body:=by
 obtain⟨d1,d2⟩:=nV (qI (i:=i) h1 h2) (Cj hi body);unfold il;rw[d2];exact⟨⟨d1,rfl,rfl,rfl⟩,rfl⟩
def eO (now:List (List Int)) (x:Img):List (List Int):=if x.index<now.length then now.set x.index.toNat x.body else now
def mY (now:List (List Int)) (t:List Img):List (List Int):=t.foldl eO now
def fo (now:List (List Int)) (ts:List (List Img)):List (List Int):=ts.foldl mY now
def eP (ts:List (List Img)):Nat:=(ts.map fun t=>t.length+1).sum
def aX (bs:List Int):List (List Int):=(cI (dt bs)).map (cT bs)
def mZ (was now:List (List Int)):List Img:=((cI now.length).filter fun i=>decide (now[i]? ≠was[i]?)).map fun(i:Nat)=>(⟨(i:Int),now[i]?.getD []⟩:Img)
structure MS where
 g:Geo
 b:List Int
 home:List (List Int)
 gen:Int
 sup:Nat
 at0:Nat
 seq:Int
 used:Nat
def Geo.C (g:Geo):Nat:=g.r.toNat
def Geo.P (g:Geo):Nat:=g.pgs.toNat
def Geo.H (g:Geo):Nat:=2+g.C
def RS.supAt (S:RS) (i:Nat):Option Sup:=if i<S.n0 then jQ S.n0 S.n1 (S.rd i)else none
def RS.homes (S:RS) (h n:Nat):List (List Int):=(cI n).map fun i=>(Sct.of (S.rd (h+i))).body
def RS.opn (S:RS):Option MS:=
 match newer (S.supAt 0) (S.supAt 1)with
 | none=>none
 | some (k,x)=>
  if∀i,i<x.g.P->il (S.rd (x.g.H+i)) i then
   some {g:=x.g,b:=((fo (S.homes x.g.H x.g.P) (eh S.rd 2 x.g.C x.a x.q).1).flatten).take x.g.bts.toNat,home:=S.homes x.g.H x.g.P,gen:=x.gen,sup:=k,at0:=(eh S.rd 2 x.g.C x.a x.q).2.1,seq:=(eh S.rd 2 x.g.C x.a x.q).2.2,used:=eP (eh S.rd 2 x.g.C x.a x.q).1}
  else none
def MS.room (M:MS):Int:=M.g.r - M.used
def MS.dif (M:MS) (b:List Int):List Img:=mZ (aX M.b) (aX b)
def MS.homW (M:MS):cH:=((cI M.g.P).filter fun i=>decide ((aX M.b)[i]? ≠M.home[i]?)).map fun i=>(M.g.H+i,aw (ex i (cT M.b i)).bytes)
def MS.supW (M:MS):cH:= [(1 - M.sup,aw (gG (M.gen+1) M.g M.at0 M.seq).bytes)]
def MS.ckpt (M:MS):MS:={M with home:=aX M.b,gen:=M.gen+1,sup:=1 - M.sup,used:=0}
def MS.full (M:MS) (b:List Int):Prop:=M.room< (M.dif b).length+1
instance (M:MS) (b:List Int):Decidable (M.full b):=by unfold MS.full;infer_instance
def MS.appW (M:MS) (b:List Int):List cH:= [(cN 2 M.g.C M.at0 M.seq (M.dif b)).take (M.dif b).length,(cN 2 M.g.C M.at0 M.seq (M.dif b)).drop (M.dif b).length]
def MS.bats (M:MS) (b:List Int):List cH:=if M.dif b= []then []else(if M.full b then [M.homW,M.supW]else [])++M.appW b
def MS.app (M:MS) (b:List Int):MS:={M with b:=b,at0:=(M.at0+(M.dif b).length+1)%M.g.C,seq:=M.seq+1,used:=M.used+(M.dif b).length+1}
def MS.next (M:MS) (b:List Int):MS:=if M.dif b= []then M else if M.full b then M.ckpt.app b else M.app b
def RS.cmt (S:RS) (M:MS) (b:List Int):RS×Int:=S.bat (M.bats b)
def cU (g:Geo) (b:List Int):List cH:= [[(0,bf 0),(1,bf 0)],((cI g.C).map fun i=>(2+i,bf 0))++((cI g.P).map fun i=>(g.H+i,aw (ex i (cT b i)).bytes)), [(0,aw (gG 1 g 0 1).bytes)]]
def MS.new (g:Geo) (b:List Int):MS:={g:=g,b:=b,home:=aX b,gen:=1,sup:=0,at0:=0,seq:=1,used:=0}
end
section
def pw (S:RS) (C p0 L:Nat) (q:Int):Prop:=∀k,L<=k->k<C->fi (S.rd (cA 2 C p0 k))=false\/(Sct.of (S.rd (cA 2 C p0 k))).seq<q\/((Sct.of (S.rd (cA 2 C p0 k))).seq=q/\(Sct.of (S.rd (cA 2 C p0 k))).mark≠67)
theorem Cl {g:Nat->List Int} {seq:Int} {N:Nat} (h:∀k,k<N->fi (g k)=false\/(Sct.of (g k)).seq≠seq\/(Sct.of (g k)).mark≠67):∀f k acc,f+k<=N->iT g seq f k acc=none
 | 0,_,_,_=>rfl
 | f+1,k,acc,hk=>by
  unfold iT;by_cases h0:fi (g k)=false\/(Sct.of (g k)).seq≠seq
  ·rw[if_pos h0]
  ·rw[if_neg h0];have hm:(Sct.of (g k)).mark≠67:=by
    rcases h k (by omega)with h | h | h
    ·exact absurd (aA h) h0
    ·exact absurd (aD h) h0
    ·exact h
   rw[if_neg hm];by_cases h1:(Sct.of (g k)).mark≠73
   ·rw[if_pos h1]
   ·rw[if_neg h1];exact Cl h f (k+1) _ (by omega)
theorem ME {seq:Int} {t:List Img} {count:Nat} (hs:dx seq) (hc:count<=65535) (ht:TxnOk count t) {k:Nat} {b:List Int} (h:(bG seq t)[k]? =some b):(Sct.of b).seq=seq:=by
 have hm:=dp h;unfold bG at hm;rcases gc.1 hm with h | h
 ·obtain⟨x,hx,rfl⟩:=cM.1 h;rw[(nV (nU hs (ht.ok x hx)) (qC (seq:=seq) (ht.fits x hx))).2]
  rfl
 ·rw[eF]at h;rw[h,(nV (pq (n:=t.length) hs) (wi (seq:=seq) (by have:=ht.most;omega))).2]
  rfl
theorem Cm {count:Nat} (hc:count<=65535):∀(ts:List (List Img)) (q0:Int) (k:Nat) (b:List Int),0<=q0->q0+ts.length<4294967296->(∀t ∈ ts,TxnOk count t)->(bJ q0 ts)[k]? =some b->q0<=(Sct.of b).seq/\(Sct.of b).seq<q0+ts.length
 | [],q0,k,b,_,_,_,h=>by simp[bJ]at h
 | t::ts,q0,k,b,h0,h1,hok,h=>by
  rw[bz]at h1;have hs:dx q0:=⟨h0,by omega⟩;unfold bJ at h;by_cases hk:k< (bG q0 t).length
  ·rw[fS hk]at h;rw[ME hs hc (hok t dC) h,bz];omega
  ·rw[fv (by omega)]at h;have e:(q0+1)%4294967296=q0+1:=by omega
   rw[e]at h;have:=Cm hc ts (q0+1) _ b (by omega) (by omega) (fun u hu=>hok u (ea _ hu)) h;rw[bz];omega
theorem wB {q0:Int} {n:Nat} (h0:0<=q0) (h1:q0+n<4294967296):gF q0 n=q0+n:=by
 unfold gF;omega
theorem Cn {S:RS} {C p0:Nat} {q0:Int} {ts:List (List Img)} (h:RingIs S 2 C p0 q0 ts) (hq:q0+ts.length<4294967296) (hj:pw S C p0 (bJ q0 ts).length (q0+ts.length)) {k:Nat} (hk:k<C):
  fi (S.rd (cA 2 C p0 ((bJ q0 ts).length+k)))=false\/(Sct.of (S.rd (cA 2 C p0 ((bJ q0 ts).length+k)))).seq<q0+ts.length\/
   ((Sct.of (S.rd (cA 2 C p0 ((bJ q0 ts).length+k)))).seq=q0+ts.length/\(Sct.of (S.rd (cA 2 C p0 ((bJ q0 ts).length+k)))).mark≠67):=by
 by_cases hl:(bJ q0 ts).length+k<C
 ·exact hj _ (by omega) hl
 ·have hf:=h.fits;obtain⟨j,hj'⟩:∃j,(bJ q0 ts).length+k=C+j:=⟨(bJ q0 ts).length+k - C,by omega⟩;rw[hj',Mi h.at0];have hl:=h.lay j (by omega);exact aD (aA (Cm (count:=C) (by have:=h.most;omega) ts q0 j _ h.seq.1 hq h.ok hl).2)
theorem pw.none {S:RS} {C p0:Nat} {q0:Int} {ts:List (List Img)} (h:RingIs S 2 C p0 q0 ts) (hq:q0+ts.length<4294967296) (hj:pw S C p0 (bJ q0 ts).length (q0+ts.length)):
  lW S.rd 2 C ((p0+(bJ q0 ts).length)%C) (gF q0 ts.length)=none:=by
 rw[wB h.seq.1 hq];unfold lW;refine Cl (N:=C) (fun k hk=> ?_) C 0 [] (aG _);have e:kH S.rd 2 C ((p0+(bJ q0 ts).length)%C) k=S.rd (cA 2 C p0 ((bJ q0 ts).length+k)):=by
  rw[←pt];rfl
 rw[e];rcases Cn h hq hj hk with h | h | h
 ·exact aA h
 ·exact aD (aA (by omega))
 ·exact aD (aD h.2)
theorem Co:∀(ts:List (List Img)) (q:Int),eP ts=(bJ q ts).length
 | [],_=>rfl
 | t::ts,q=>by
  show(t.length+1)+eP ts=(bG q t++bJ _ ts).length;rw[Co ts ((q+1)%4294967296),cE,iU]
structure Inv (S:RS) (M:MS) (n:Nat) (p0:Nat) (q0:Int) (ts:List (List Img)):Prop where
 good:M.g.good
 n0:M.g.oF<=S.n0
 n1:M.g.oW<=S.n1
 dry:S.Dry
 bb:S.BB
 sup1:M.sup<=1
 sb:S.rd M.sup=(gG M.gen M.g p0 q0).bytes
 other:∀x,jQ S.n0 S.n1 (S.rd (1 - M.sup))=some x->x.gen<M.gen
 gen:1<=M.gen/\M.gen<=n+1
 homl:M.home.length=M.g.P
 homb:∀x ∈ M.home,x.length=48/\aP x
 hom:∀i x,M.home[i]? =some x->S.rd (M.g.H+i)=(ex i x).bytes
 ring:RingIs S 2 M.g.C p0 q0 ts
 q:1<=q0/\q0+ts.length<=n+1
 junk:pw S M.g.C p0 (bJ q0 ts).length (q0+ts.length)
 at0:M.at0=(p0+(bJ q0 ts).length)%M.g.C
 seq:M.seq=q0+ts.length
 used:M.used=(bJ q0 ts).length
 len:M.b.length=M.g.bts.toNat
 bytes:aP M.b
 rows:fo M.home ts=aX M.b
structure Geo.Nats (g:Geo):Prop where
 c:(g.C:Int)=g.r
 p:(g.P:Int)=g.pgs
 f:g.oF=2+g.C+g.P+g.slots
 c1:g.P+2<=g.C
 c2:g.C<=256
 p1:2<=g.P
 p2:g.P<=15
 b:(g.bts.toNat:Int)=g.bts
 bp:g.P=(g.bts.toNat+47) / 48
 b2:g.bts.toNat<=714
 s1:1<=g.slots
theorem Geo.nats {g:Geo} (hg:g.good):g.Nats:=by
 obtain⟨b1,b2,b3,b4,b5,b6⟩:=Geo.bounds hg.1;have h9:=hg.2.1;have h10:=hg.2.2;have hf:g.oF=2+g.r+g.pgs+g.slots:=if_pos hg;have hc:(g.C:Int)=g.r:=by unfold Geo.C;omega
 have hp:(g.P:Int)=g.pgs:=by unfold Geo.P;omega
 have hb:(g.bts.toNat:Int)=g.bts:=by omega
 have hcn:g.pgs=((g.bts.toNat+47) / 48:Nat):=by
  have:=zw g.bts.toNat;rw[hb]at this;exact this
 exact⟨hc,hp,by rw[hf,hc,hp],by omega,by omega,by omega,by omega,hb,by omega,by omega,b1⟩
theorem jR (b:List Int):(aX b).length=dt b:=by simp[aX]
theorem qJ (b:List Int) {i:Nat} (h:i<dt b):(aX b)[i]? =some (cT b i):=by simp[aX,h]
theorem mH {b:List Int} (h:aP b) (i:Nat):aP (cT b i):=(h.cut (48*i) 48).app (sU _)
theorem Cp (b:List Int):∀n,(((cI n).map (cT b)).flatten).length=48*n
 | 0=>rfl
 | n+1=>by
  rw[List.range_succ,ec,lL,cE,Cp b n,List.map_cons,List.map_nil];simp[ll];omega
theorem Cq (b:List Int):∀n,48*n<=b.length+47->(((cI n).map (cT b)).flatten).take b.length=b.take (48*n)
 | 0,_=>by simp
 | n+1,h=>by
  have ih:=Cq b n (by omega);rw[List.range_succ,ec,lL];have hl:(((cI n).map (cT b)).flatten).length=48*n:=Cp b n;rw[List.take_append,ih,hl];have e:([cT b n]:List (List Int)).flatten=cT b n:=by simp
  rw[List.map_cons,List.map_nil,e];have e2:(cT b n).take (b.length - 48*n)=(b.drop (48*n)).take 48:=by
   unfold cT;rw[List.take_append];have:(b.drop (48*n)).length=b.length - 48*n:=dm;by_cases hc:b.length - 48*n<=48
   ·have e3:(b.drop (48*n)).take 48=b.drop (48*n):=de (by omega);rw[e3,de (by omega),this,Nat.sub_self,List.take_zero,List.append_nil]
   ·have e4:((b.drop (48*n)).take 48).length=48:=by rw[dj];omega
    rw[de (by omega),e4];simp
  rw[e2,show 48*(n+1)=48*n+48 by omega,List.take_add]
theorem wC (b:List Int):((aX b).flatten).take b.length=b:=by
 unfold aX;rw[Cq b (dt b) (by unfold dt;omega),de (by unfold dt;omega)]
theorem Cr {n:Nat} {q:Int} (hn:n<=100000) (h:1<=q/\q<=n+1):dx q:=⟨by omega,by omega⟩
theorem Inv.opn {S:RS} {M:MS} {n p0:Nat} {q0:Int} {ts:List (List Img)} (h:Inv S M n p0 q0 ts) (hn:n<=100000):S.opn=some M:=by
 have hN:=Geo.nats h.good;have hq0:=h.q;have hp0:(p0:Int)<M.g.r:=by have:=h.ring.at0;have:=hN.c;omega
 have hsup:=Ck (Cr hn h.gen) h.good h.n0 h.n1 hp0 h.ring.seq;have hn0:2<=S.n0:=by have:=h.n0;have:=hN.f;have:=hN.s1;omega
 have hat:S.supAt M.sup=some ⟨M.gen,M.g,p0,q0⟩:=by
  unfold RS.supAt;rw[if_pos (by have:=h.sup1;omega),h.sb];exact hsup
 have hot:∀x,S.supAt (1 - M.sup)=some x->x.gen<M.gen:=fun x hx=>by
  unfold RS.supAt at hx;rw[if_pos (by omega)]at hx;exact h.other x hx
 have hnew:newer (S.supAt 0) (S.supAt 1)=some (M.sup,⟨M.gen,M.g,p0,q0⟩):=by
  rcases(show M.sup=0\/M.sup=1 by have:=h.sup1;omega)with e | e
  ·rw[e]at hat hot ⊢;rw[hat];cases h1:S.supAt 1 with
   | none=>rfl
   | some y=>
    have:=hot y h1;show(if M.gen<y.gen then _ else _)=_;rw[if_neg (by omega)]
  ·rw[e]at hat hot ⊢;rw[hat];cases h1:S.supAt 0 with
   | none=>rfl
   | some y=>
    have:=hot y h1;show(if y.gen<M.gen then _ else _)=_;rw[if_pos this]
 have hhp:∀i,i<M.g.P->∃x,M.home[i]? =some x/\il (S.rd (M.g.H+i)) i/\(Sct.of (S.rd (M.g.H+i))).body=x:=fun i hi=>by
  have hl:i<M.home.length:=by rw[h.homl];exact hi
  refine⟨M.home[i],aZ hl, ?_⟩;have hb:=h.homb _ (List.getElem_mem hl);rw[h.hom i _ (aZ hl)];exact MC (by have:=hN.p2;omega) hb.1 hb.2
 have hhom:S.homes M.g.H M.g.P=M.home:=by
  refine jD fun i=> ?_;unfold RS.homes;by_cases hi:i<M.g.P
  ·obtain⟨x,hx,_,e⟩:=hhp i hi;rw[hx,dY,mj hi];simp[e]
  ·rw[ej (by simp;omega),ej (by rw[h.homl];omega)]
 have hrep:=h.ring.rep (pw.none h.ring (by omega) h.junk);rw[wB h.ring.seq.1 (by omega)]at hrep;unfold RS.opn;rw[hnew]
 dsimp only
 rw[if_pos (fun i hi=>by obtain⟨x,_,hp,_⟩:=hhp i hi;exact hp),hhom,hrep]
 dsimp only
 rw[h.rows,Co ts q0];have hb:((aX M.b).flatten).take M.g.bts.toNat=M.b:=by rw[←h.len];exact wC M.b
 rw[hb,←h.at0,←h.seq,←h.used]
def lA (i:Nat) (o:List Int) (x:Img):List Int:=if x.index=(i:Int)then x.body else o
def gX (i:Nat) (o:List Int) (t:List Img):List Int:=t.foldl (lA i) o
def wD (ts:List (List Img)):Prop:=∀t ∈ ts,∀x ∈ t,0<=x.index
theorem MF (now:List (List Int)) (x:Img):(eO now x).length=now.length:=by
 unfold eO;split
 ·simp
 ·rfl
theorem wF:∀(t:List Img) (now:List (List Int)),(mY now t).length=now.length
 | [],_=>rfl
 | x::t,now=>by
  show(mY (eO now x) t).length=_;rw[wF t,MF]
theorem tj:∀(ts:List (List Img)) (now:List (List Int)),(fo now ts).length=now.length
 | [],_=>rfl
 | t::ts,now=>by
  show(fo (mY now t) ts).length=_;rw[tj ts,wF]
theorem MG {now:List (List Int)} {x:Img} (hx:0<=x.index) {i:Nat} {o:List Int} (h:now[i]? =some o):(eO now x)[i]? =some (lA i o x):=by
 have hi:=(bZ.1 h).1;unfold eO lA;by_cases hl:x.index<now.length
 ·rw[if_pos hl,List.getElem?_set];by_cases he:x.index=(i:Int)
  ·rw[if_pos (by omega),if_pos he,if_pos (by omega)]
  ·rw[if_neg (by omega),if_neg he];exact h
 ·rw[if_neg hl,if_neg (by omega)];exact h
theorem wG:∀(t:List Img) (now:List (List Int)) {i:Nat} {o:List Int},(∀x ∈ t,0<=x.index)->now[i]? =some o->(mY now t)[i]? =some (gX i o t)
 | [],_,_,_,_,h=>h
 | x::t,now,i,o,hx,h=>wG t (eO now x) (fun y hy=>hx y (ea _ hy)) (MG (hx x dC) h)
theorem wH:∀(ts:List (List Img)) (now:List (List Int)) {i:Nat} {o:List Int},wD ts->now[i]? =some o->(fo now ts)[i]? =some (ts.foldl (gX i) o)
 | [],_,_,_,_,h=>h
 | t::ts,now,i,o,hx,h=>wH ts (mY now t) (fun u hu=>hx u (ea _ hu)) (wG t now (hx t dC) h)
theorem Cs (i:Nat):∀(t:List Img) (o:List Int),gX i o t=o\/∀o',gX i o' t=gX i o t
 | [],_=>aA rfl
 | x::t,o=>by
  show gX i (lA i o x) t=o\/∀o',gX i (lA i o' x) t=gX i (lA i o x) t;by_cases h:x.index=(i:Int)
  ·right
   intro o';have e:∀o,lA i o x=x.body:=fun o=>if_pos h;rw[e,e]
  ·have e:∀o,lA i o x=o:=fun o=>if_neg h;simp only[e];exact Cs i t o
theorem Ct (i:Nat):∀(ts:List (List Img)) (o:List Int),ts.foldl (gX i) o=o\/∀o',ts.foldl (gX i) o'=ts.foldl (gX i) o
 | [],_=>aA rfl
 | t::ts,o=>by
  show ts.foldl (gX i) (gX i o t)=o\/∀o',ts.foldl (gX i) (gX i o' t)=ts.foldl (gX i) (gX i o t);rcases Cs i t o with h | h
  ·rw[h];rcases Ct i ts o with h2 | h2
   ·exact aA h2
   ·exact aD fun o'=>h2 _
  ·exact aD fun o'=>by rw[h o']
theorem Cu {ts:List (List Img)} {home hm now:List (List Int)} (hi:wD ts) (h:fo home ts=now) (hl:hm.length=home.length) (hor:∀i:Nat,hm[i]? =home[i]? \/hm[i]? =now[i]?):fo hm ts=now:=by
 refine jD fun i=> ?_;by_cases hlt:i<hm.length
 ·have e1:=aZ hlt;have hlt2:i<home.length:=by omega
  have e2:=aZ hlt2;have g2:=wH ts home hi e2;rw[wH ts hm hi e1,←h,g2];rcases hor i with h1 | h1
  ·rw[e1,e2]at h1;rw[Option.some.inj h1]
  ·rw[←h,g2,e1]at h1;have h1:=Option.some.inj h1;rcases Ct i ts hm[i]with h2 | h2
   ·rw[h2,h1]
   ·rw[h2 home[i]]
 ·rw[ej (by rw[tj];omega),ej (by rw[←h,tj];omega)]
theorem MH (now:List (List Int)) (ts:List (List Img)) (t:List Img):fo now (ts++ [t])=mY (fo now ts) t:=by
 unfold fo;rw[List.foldl_append]
 rfl
theorem Cv (now:List (List Int)) (i:Nat):∀(l:List Nat) (o:List Int),gX i o (l.map fun(j:Nat)=>(⟨(j:Int),now[j]?.getD []⟩:Img))=if i ∈ l then now[i]?.getD []else o
 | [],o=>by simp[gX]
 | j::l,o=>by
  show gX i (lA i o ⟨(j:Int),now[j]?.getD []⟩) (l.map fun(j:Nat)=>(⟨(j:Int),now[j]?.getD []⟩:Img))=_;rw[Cv now i l];by_cases hj:j=i
  ·subst hj;have e:lA j o ⟨(j:Int),now[j]?.getD []⟩=now[j]?.getD []:=if_pos rfl;rw[e,if_pos dC];split<;>rfl
  ·have e:lA i o ⟨(j:Int),now[j]?.getD []⟩=o:=if_neg (by show¬((j:Nat):Int)=(i:Int);omega);rw[e];by_cases hm:i ∈ l
   ·rw[if_pos hm,if_pos (ea _ hm)]
   ·rw[if_neg hm,if_neg (fun h=>by rcases dy.1 h with h | h;exact hj h.symm;exact hm h)]
theorem wI (was now:List (List Int)):∀x ∈ mZ was now,∃i:Nat,x=⟨(i:Int),now[i]?.getD []⟩/\i<now.length/\now[i]? ≠was[i]? :=by
 intro x hx;unfold mZ at hx;obtain⟨i,hi,rfl⟩:=cM.1 hx;obtain⟨h1,h2⟩:=lH.1 hi;exact⟨i,rfl,dJ.1 h1,of_decide_eq_true h2⟩
theorem Cw {was now:List (List Int)} (hl:was.length=now.length):mY was (mZ was now)=now:=by
 refine jD fun i=> ?_;by_cases hlt:i<was.length
 ·have e1:=aZ hlt;have hlt2:i<now.length:=by omega
  have e2:=aZ hlt2;rw[wG _ was (fun x hx=>by obtain⟨i,rfl,_⟩:=wI was now x hx;exact Int.natCast_nonneg i) e1];unfold mZ;rw[Cv,e2];by_cases hm:i ∈(cI now.length).filter fun i=>decide (now[i]? ≠was[i]?)
  ·rw[if_pos hm];rfl
  ·rw[if_neg hm];have:¬now[i]? ≠was[i]? :=fun h=>hm (lH.2 ⟨dJ.2 hlt2,decide_eq_true h⟩);rw[e1,e2]at this;exact(Classical.not_not.1 this).symm
 ·rw[ej (by rw[wF];omega),ej (by omega)]
theorem wJ (was now:List (List Int)):(mZ was now).length<=now.length:=by
 unfold mZ;rw[dV];exact bm (List.length_filter_le _ _) (by simp)
theorem PartW.far {S T:RS} {W:cH} (h:PartW S T W) {i:Nat} (hi:i<S.n0) (hn:∀b,(i,b)∉ W):T.rd i=S.rd i:=by
 rcases h.or_ i hi with h | ⟨b,hb,_⟩
 ·exact h
 ·exact absurd hb (hn b)
theorem mI {C:Nat} (hC:0<C) (a k:Nat):2<=cA 2 C a k/\cA 2 C a k<2+C:=by
 have:=iI (a+k) hC;unfold cA;omega
theorem Inv.idx {S:RS} {M:MS} {n p0:Nat} {q0:Int} {ts:List (List Img)} (h:Inv S M n p0 q0 ts):wD ts:=fun t ht x hx=>((h.ring.ok t ht).fits x hx).1
theorem Inv.C0 {S:RS} {M:MS} {n p0:Nat} {q0:Int} {ts:List (List Img)} (h:Inv S M n p0 q0 ts):0<M.g.C:=by have:=(Geo.nats h.good).c1;omega
theorem Inv.room {S:RS} {M:MS} {n p0:Nat} {q0:Int} {ts:List (List Img)} (h:Inv S M n p0 q0 ts):2+M.g.C+M.g.P<S.n0:=by
 have hN:=Geo.nats h.good;have:=h.n0;have:=hN.f;have:=hN.s1;omega
theorem RingIs.to {S T:RS} {C p0:Nat} {q0:Int} {ts:List (List Img)} (h:RingIs S 2 C p0 q0 ts) (hn:T.n0=S.n0) (hr:∀k,k< (bJ q0 ts).length->T.rd (cA 2 C p0 k)=S.rd (cA 2 C p0 k)):RingIs T 2 C p0 q0 ts:=
 ⟨by rw[hn];exact h.room,h.two,h.most,h.at0,h.seq,h.ok,h.fits,fun k hk=>by rw[hr k hk];exact h.lay k hk⟩
theorem Inv.move {S T:RS} {M:MS} {n p0:Nat} {q0:Int} {ts:List (List Img)} (h:Inv S M n p0 q0 ts) (hn0:T.n0=S.n0) (hn1:T.n1=S.n1) (hd:T.Dry) (hb:T.BB)
  (hsup:∀i,i<2->T.rd i=S.rd i) (hm:List (List Int)) (hl:hm.length=M.g.P) (hmb:∀x ∈ hm,x.length=48/\aP x) (hmh:∀i x,hm[i]? =some x->T.rd (M.g.H+i)=(ex i x).bytes)
  (hring:∀k,k< (bJ q0 ts).length->T.rd (cA 2 M.g.C p0 k)=S.rd (cA 2 M.g.C p0 k)) (hj:pw T M.g.C p0 (bJ q0 ts).length (q0+ts.length)) (hrows:fo hm ts=aX M.b):
  Inv T {M with home:=hm} n p0 q0 ts where
 good:=h.good
 n0:=by rw[hn0];exact h.n0
 n1:=by rw[hn1];exact h.n1
 dry:=hd
 bb:=hb
 sup1:=h.sup1
 sb:=by
  show T.rd M.sup=_;rw[hsup _ (by have:=h.sup1;omega)];exact h.sb
 other:=fun x hx=>by
  rw[hn0,hn1,hsup _ (by show 1 - M.sup<2;omega)]at hx;exact h.other x hx
 gen:=h.gen
 homl:=hl
 homb:=hmb
 hom:=hmh
 ring:=h.ring.to hn0 hring
 q:=h.q
 junk:=hj
 at0:=h.at0
 seq:=h.seq
 used:=h.used
 len:=h.len
 bytes:=h.bytes
 rows:=hrows
theorem pw.to {S T:RS} {C p0 L:Nat} {q:Int} (h:pw S C p0 L q) (hr:∀k,L<=k->k<C->T.rd (cA 2 C p0 k)=S.rd (cA 2 C p0 k)):pw T C p0 L q:=fun k h1 h2=>by
 rw[hr k h1 h2];exact h k h1 h2
theorem Inv.same {S T:RS} {M:MS} {n p0:Nat} {q0:Int} {ts:List (List Img)} (h:Inv S M n p0 q0 ts) (k:FullW S T []):Inv T M n p0 q0 ts:=by
 have hr:=h.room;have hC:=h.C0;have hp:=fun k=>mI hC p0 k;have e:∀i,i<S.n0->T.rd i=S.rd i:=fun i hi=>k.else_ i hi (by simp);refine h.move k.n0 k.n1 k.dry k.bb (fun i hi=>e i (by omega)) M.home h.homl h.homb (fun i x hx=> ?_) (fun k _=>e _ (by have:=hp k;omega)) (h.junk.to fun k _ _=>e _ (by have:=hp k;omega)) h.rows;have hi:i<M.g.P:=by rw[←h.homl];exact(bZ.1 hx).1
 rw[e _ (by unfold Geo.H;omega)];exact h.hom i x hx
theorem Inv.mono {S:RS} {M:MS} {n p0:Nat} {q0:Int} {ts:List (List Img)} (h:Inv S M n p0 q0 ts):Inv S M (n+1) p0 q0 ts:=
 {h with gen:=⟨h.gen.1,by have:=h.gen.2;omega⟩,q:=⟨h.q.1,by have:=h.q.2;omega⟩}
theorem mJ {M:MS} {i:Nat} {v:List ak} (h:(i,v)∈ M.homW):∃j,j<M.g.P/\i=M.g.H+j/\(aX M.b)[j]? ≠M.home[j]? /\v=aw (ex j (cT M.b j)).bytes:=by
 unfold MS.homW at h;obtain⟨j,hj,e⟩:=cM.1 h;obtain⟨h1,h2⟩:=lH.1 hj;cases e;exact⟨j,dJ.1 h1,rfl,of_decide_eq_true h2,rfl⟩
theorem MI {M:MS} {j:Nat} (hj:j<M.g.P) (hne:(aX M.b)[j]? ≠M.home[j]?):(M.g.H+j,aw (ex j (cT M.b j)).bytes)∈ M.homW:=by
 unfold MS.homW;exact cM.2 ⟨j,lH.2 ⟨dJ.2 hj,decide_eq_true hne⟩,rfl⟩
theorem Inv.pcs {S:RS} {M:MS} {n p0:Nat} {q0:Int} {ts:List (List Img)} (h:Inv S M n p0 q0 ts):dt M.b=M.g.P:=by
 unfold dt;rw[h.len,(Geo.nats h.good).bp]
theorem Inv.cut_get {S:RS} {M:MS} {n p0:Nat} {q0:Int} {ts:List (List Img)} (h:Inv S M n p0 q0 ts) {i:Nat} (hi:i<M.g.P):(aX M.b)[i]? =some (cT M.b i):=qJ _ (by rw[h.pcs];exact hi)
theorem Inv.home_part {S T:RS} {M:MS} {n p0:Nat} {q0:Int} {ts:List (List Img)} (h:Inv S M n p0 q0 ts) (k:PartW S T M.homW):∃hm,Inv T {M with home:=hm} n p0 q0 ts:=by
 have hr:=h.room;have hC:=h.C0;have hp:=fun k=>mI hC p0 k;have e:∀i,i<2+M.g.C->T.rd i=S.rd i:=fun i hi=>k.far (by omega) fun b hb=>by
  obtain⟨j,_,e,_⟩:=mJ hb;unfold Geo.H at e;omega
 have hget:∀i,i<M.g.P->∃x,M.home[i]? =some x:=fun i hi=>⟨_,aZ (by rw[h.homl];exact hi)⟩;have hpcb:=mH h.bytes;obtain⟨f,hf⟩:∃f:Nat->List Int,f=fun i=>if T.rd (M.g.H+i)=S.rd (M.g.H+i)then M.home[i]?.getD []else cT M.b i:=⟨_,rfl⟩
 have hfi:∀i x,((cI M.g.P).map f)[i]? =some x->i<M.g.P/\x=f i:=fun i x hx=>by
  have hi:i<M.g.P:=by have:=(bZ.1 hx).1;simpa using this
  rw[dY,mj hi]at hx;exact⟨hi,(Option.some.inj hx).symm⟩
 have hfa:∀i,i<M.g.P->((cI M.g.P).map f)[i]? =some (f i):=fun i hi=>by rw[dY,mj hi];rfl
 have hcase:∀i,i<M.g.P->(f i=M.home[i]?.getD []/\T.rd (M.g.H+i)=S.rd (M.g.H+i))\/(f i=cT M.b i/\T.rd (M.g.H+i)=(ex i (cT M.b i)).bytes):=fun i hi=>by
  by_cases hs:T.rd (M.g.H+i)=S.rd (M.g.H+i)
  ·left;rw[hf];exact⟨if_pos hs,hs⟩
  ·right
   rcases k.or_ (M.g.H+i) (by unfold Geo.H;omega)with h1 | ⟨b,hb,h1⟩
   ·exact absurd h1 hs
   ·obtain⟨j,hj,e1,_,e2⟩:=mJ hb;obtain rfl:i=j:=by omega
    rw[hf];exact⟨if_neg hs,by rw[h1,e2];exact lx _⟩
 refine⟨(cI M.g.P).map f,h.move k.n0 k.n1 k.dry k.bb (fun i hi=>e i (by omega)) _ (by simp) (fun x hx=> ?_) (fun i x hx=> ?_) (fun k _=>e _ (by have:=hp k;omega)) (h.junk.to fun k _ _=>e _ (by have:=hp k;omega)) ?_⟩
 ·obtain⟨i,hi0⟩:=List.mem_iff_getElem?.1 hx;obtain⟨hi,rfl⟩:=hfi i x hi0;rcases hcase i hi with h1 | h1
  ·obtain⟨y,hy⟩:=hget i hi;rw[h1.1,hy];exact h.homb _ (dp hy)
  ·rw[h1.1];exact⟨ll _ _,hpcb i⟩
 ·obtain⟨hi,rfl⟩:=hfi i x hx;rcases hcase i hi with h1 | h1
  ·obtain⟨y,hy⟩:=hget i hi;rw[h1.1,h1.2,hy];exact h.hom i y hy
  ·rw[h1.1,h1.2]
 ·refine Cu h.idx h.rows (by simp[h.homl]) fun i=> ?_;by_cases hi:i<M.g.P
  ·rw[hfa i hi];rcases hcase i hi with h1 | h1
   ·left
    obtain⟨y,hy⟩:=hget i hi;rw[h1.1,hy]
    rfl
   ·right;rw[h1.1,h.cut_get hi]
  ·left
   rw[ej (by simp;omega),ej (by rw[h.homl];omega)]
theorem Inv.home_full {S T:RS} {M:MS} {n p0:Nat} {q0:Int} {ts:List (List Img)} (h:Inv S M n p0 q0 ts) (k:FullW S T M.homW):Inv T {M with home:=aX M.b} n p0 q0 ts:=by
 have hr:=h.room;have hC:=h.C0;have hp:=fun k=>mI hC p0 k;have hpcb:=mH h.bytes;have e:∀i,i<2+M.g.C->T.rd i=S.rd i:=fun i hi=>k.else' (by omega) fun b hb=>by
  obtain⟨j,_,e,_⟩:=mJ hb;unfold Geo.H at e;omega
 have hci:∀i x,(aX M.b)[i]? =some x->i<M.g.P/\x=cT M.b i:=fun i x hx=>by
  have hi:i<M.g.P:=by have:=(bZ.1 hx).1;rwa [jR,h.pcs]at this
  rw[h.cut_get hi]at hx;exact⟨hi,(Option.some.inj hx).symm⟩
 refine h.move k.n0 k.n1 k.dry k.bb (fun i hi=>e i (by omega)) _ (by rw[jR,h.pcs]) (fun x hx=> ?_) (fun i x hx=> ?_) (fun k _=>e _ (by have:=hp k;omega)) (h.junk.to fun k _ _=>e _ (by have:=hp k;omega)) ?_
 ·obtain⟨i,hi0⟩:=List.mem_iff_getElem?.1 hx;obtain⟨hi,rfl⟩:=hci i x hi0;exact⟨ll _ _,hpcb i⟩
 ·obtain⟨hi,rfl⟩:=hci i x hx;by_cases hne:(aX M.b)[i]? ≠M.home[i]?
  ·rw[k.at_ _ _ (MI hi hne)];exact lx _
  ·rw[k.else' (by unfold Geo.H;omega) fun b hb=>by
    obtain⟨j,_,e1,h2,_⟩:=mJ hb;obtain rfl:i=j:=by omega
    exact hne h2]
   exact h.hom i _ ((Classical.not_not.1 hne).symm.trans hx)
 ·exact Cu h.idx h.rows (by rw[jR,h.pcs,h.homl]) fun i=>aD rfl
theorem Inv.sup_full {S T:RS} {M:MS} {n p0:Nat} {q0:Int} {ts:List (List Img)} (h:Inv S M n p0 q0 ts) (hn:n<=100000) (hh:M.home=aX M.b) (k:FullW S T M.supW):Inv T M.ckpt (n+1) M.at0 M.seq []:=by
 have hN:=Geo.nats h.good;have hr:=h.room;have hC:=h.C0;have hp:=fun a k=>mI hC a k;have hs1:=h.sup1;have hq:=h.q;have e:∀i,i<S.n0->i≠1 - M.sup->T.rd i=S.rd i:=fun i hi hne=>k.else_ i hi (by simp[MS.supW];exact hne);have hat:T.rd (1 - M.sup)=(gG (M.gen+1) M.g M.at0 M.seq).bytes:=by
  rw[k.at_ (1 - M.sup) (aw (gG (M.gen+1) M.g M.at0 M.seq).bytes) (by simp[MS.supW])];exact lx _
 have hsq:dx M.seq:=by rw[h.seq];exact⟨by omega,by omega⟩
 have ha:M.at0<M.g.C:=by rw[h.at0];exact iI _ hC
 have hsup:=Ck (Cr hn h.gen) h.good h.n0 h.n1 (show(p0:Int)<M.g.r by have:=h.ring.at0;have:=hN.c;omega) h.ring.seq;refine{good:=h.good,n0:=by rw[k.n0];exact h.n0,n1:=by rw[k.n1];exact h.n1,dry:=k.dry,bb:=k.bb,sup1:=by show 1 - M.sup<=1;omega,sb:=hat,other:=fun x hx=> ?_,gen:= ?_,homl:= ?_,homb:= ?_,hom:=fun i x hx=> ?_,ring:=⟨by rw[k.n0];show 2+M.g.C<=_;omega,by show 2<=M.g.C;have:=hN.c1;omega,hN.c2,ha,hsq,fun t ht=>(by cases ht),bc _,fun k hk=>(by simp[bJ]at hk)⟩,q:= ?_,junk:=fun j _ hj=> ?_,at0:= ?_,seq:= ?_,used:=rfl,len:=h.len,bytes:=h.bytes,rows:=rfl}
 ·have e1:(1 - M.ckpt.sup)=M.sup:=by show 1 - (1 - M.sup)=M.sup;omega
  rw[e1,k.n0,k.n1,e _ (by omega) (by omega),h.sb,hsup]at hx;cases hx;show M.gen<M.gen+1;omega
 ·have:=h.gen;show 1<=M.gen+1/\M.gen+1<=((n+1:Nat):Int)+1;omega
 ·show(aX M.b).length=M.g.P;rw[←hh];exact h.homl
 ·show∀x ∈ aX M.b,_;rw[←hh];exact h.homb
 ·have hx:(aX M.b)[i]? =some x:=hx;rw[←hh]at hx;have hi:i<M.g.P:=by rw[←h.homl];exact(bZ.1 hx).1
  show T.rd (M.g.H+i)=_;rw[e _ (by unfold Geo.H;omega) (by unfold Geo.H;omega)];exact h.hom i x hx
 ·rw[h.seq];show 1<=q0+ts.length/\q0+ts.length+((0:Nat):Int)<=((n+1:Nat):Int)+1;omega
 ·have hj:j<M.g.C:=hj;have e2:M.seq+(([]:List (List Img)).length:Int)=q0+ts.length:=by rw[h.seq];simp
  rw[e2];have eT:T.rd (cA 2 M.ckpt.g.C M.at0 j)=S.rd (cA 2 M.g.C p0 ((bJ q0 ts).length+j)):=by
   show T.rd (cA 2 M.g.C M.at0 j)=_;rw[e _ (by have:=hp M.at0 j;omega) (by have:=hp M.at0 j;omega),h.at0,pt]
  rw[eT];exact Cn h.ring (by omega) h.junk hj
 ·show M.at0=(M.at0+0)%M.g.C;rw[Nat.add_zero,Nat.mod_eq_of_lt ha]
 ·show M.seq=M.seq+((0:Nat):Int);omega
end
section
section
variable {S T U:RS} {M:MS} {n p0:Nat} {q0:Int} {ts:List (List Img)} {b:List Int}
theorem wK {C a:Nat} {q:Int} {t:List Img} {i:Nat} {v:List ak} (h:(i,v)∈(cN 2 C a q t).take t.length):∃k x,k<t.length/\t[k]? =some x/\i=cA 2 C a k/\v=aw (eN q x).bytes:=by
 obtain⟨k,hk⟩:=List.mem_iff_getElem?.1 h;rw[kx]at hk;split at hk
 case isTrue hlt=>
  have hx:=aZ hlt;have hb:(bG q t)[k]? =some (eN q t[k]).bytes:=by
   unfold bG;rw[fS (by simpa using hlt),dY,hx]
   rfl
  have:=td (frm:=2) (count:=C) (at0:=a) hb;rw[this]at hk;cases hk;exact⟨k,t[k],hlt,hx,rfl,rfl⟩
 case isFalse=>cases hk
theorem MJ {C a:Nat} {q:Int} {t:List Img} {k:Nat} {x:Img} (h:t[k]? =some x):(cA 2 C a k,aw (eN q x).bytes)∈(cN 2 C a q t).take t.length:=by
 have hlt:=(bZ.1 h).1;have hb:(bG q t)[k]? =some (eN q x).bytes:=by
  unfold bG;rw[fS (by simpa using hlt),dY,h]
  rfl
 refine List.mem_iff_getElem?.2 ⟨k, ?_⟩;rw[kx,if_pos hlt];exact td hb
theorem wL (C a:Nat) (q:Int) (t:List Img):(cN 2 C a q t).drop t.length= [(cA 2 C a t.length,aw (dI q t.length).bytes)]:=Mg (Cc q t)
theorem Inv.txn (h:Inv S M n p0 q0 ts) (hl:b.length=M.b.length) (hb:aP b) (hd:M.dif b≠ []):TxnOk M.g.C (M.dif b):=by
 have hN:=Geo.nats h.good;have hp:dt b=M.g.P:=by unfold dt;rw[hl,h.len,hN.bp]
 have hle:(M.dif b).length<=M.g.P:=by
  have:=wJ (aX M.b) (aX b)
  rwa [jR b,hp]at this
 have hx:∀x ∈ M.dif b,∃i:Nat,i<M.g.P/\x=⟨(i:Int),cT b i⟩:=fun x hx=>by
  obtain⟨i,rfl,hi,_⟩:=wI _ _ x hx;rw[jR,hp]at hi;refine⟨i,hi, ?_⟩;rw[qJ b (by rw[hp];exact hi)]
  rfl
 refine⟨?_,by have:=hN.c1;omega,fun x hxm=> ?_,fun x hxm=> ?_⟩
 ·rcases Nat.eq_zero_or_pos (M.dif b).length with h0 | h0
  ·exact absurd (ka h0) hd
  ·exact h0
 ·obtain⟨i,hi,rfl⟩:=hx x hxm;exact⟨ll _ _,mH hb i⟩
 ·obtain⟨i,hi,rfl⟩:=hx x hxm;have:=hN.p2;exact⟨Int.natCast_nonneg i,by show(i:Int)<=65535;omega⟩
theorem Inv.app_part (h:Inv S M n p0 q0 ts) (hn:n<=100000) {t:List Img} (ht:TxnOk M.g.C t) (hfit:M.used+t.length+1<=M.g.C) (k:PartW S T ((cN 2 M.g.C M.at0 M.seq t).take t.length)):Inv T M n p0 q0 ts:=by
 have hr:=h.room;have hC:=h.C0;have hq:=h.q;have hp:=fun a k=>mI hC a k;have hsq:dx M.seq:=by rw[h.seq];exact⟨by omega,by omega⟩
 have hu:=h.used;have far:∀i,i<S.n0->(∀j,j<t.length->i≠cA 2 M.g.C p0 ((bJ q0 ts).length+j))->T.rd i=S.rd i:=fun i hi hne=>k.far hi fun v hv=>by
  obtain⟨j,x,hj,_,e,_⟩:=wK hv;rw[h.at0,pt]at e;exact hne j hj e
 have inj:∀i j,i<M.g.C->j<M.g.C->cA 2 M.g.C p0 i=cA 2 M.g.C p0 j->i=j:=fun i j hi hj e=>te (frm:=2) (at0:=p0) hi hj e;refine h.move k.n0 k.n1 k.dry k.bb (fun i hi=>far i (by omega) fun j _=>by have:=hp p0 ((bJ q0 ts).length+j);omega) M.home h.homl h.homb (fun i x hx=> ?_) (fun j hj=>far _ (by have:=hp p0 j;omega) fun i hi e=> ?_) (fun j h1 h2=> ?_) h.rows
 ·have hi:i<M.g.P:=by rw[←h.homl];exact(bZ.1 hx).1
  rw[far _ (by unfold Geo.H;omega) fun j _=>by have:=hp p0 ((bJ q0 ts).length+j);unfold Geo.H;omega];exact h.hom i x hx
 ·have:=inj j ((bJ q0 ts).length+i) (by omega) (by omega) e;omega
 ·rcases k.or_ (cA 2 M.g.C p0 j) (by have:=hp p0 j;omega)with e | ⟨v,hv,e⟩
  ·rw[e];exact h.junk j h1 h2
  ·obtain⟨i,x,hi,hx,e1,e2⟩:=wK hv;have hm:=dp hx;have hv':T.rd (cA 2 M.g.C p0 j)=(eN M.seq x).bytes:=by rw[e,e2];exact lx _
   rw[hv',(nV (nU hsq (ht.ok x hm)) (qC (seq:=M.seq) (ht.fits x hm))).2];exact aD (aD ⟨h.seq,by show(73:Int)≠67;omega⟩)
theorem Inv.app_full (h:Inv S M n p0 q0 ts) (hn:n<=100000) (hl:b.length=M.b.length) (hb:aP b) (hd:M.dif b≠ []) (hfit:M.used+(M.dif b).length+1<=M.g.C)
  (k1:FullW S U ((cN 2 M.g.C M.at0 M.seq (M.dif b)).take (M.dif b).length)) (k2:FullW U T ((cN 2 M.g.C M.at0 M.seq (M.dif b)).drop (M.dif b).length)):Inv T (M.app b) (n+1) p0 q0 (ts++ [M.dif b]):=by
 have hN:=Geo.nats h.good;have ht:=h.txn hl hb hd;generalize htt:M.dif b=t at *;have hr:=h.room;have hC:=h.C0;have hq:=h.q;have hp:=fun a k=>mI hC a k;have hsq:dx M.seq:=by rw[h.seq];exact⟨by omega,by omega⟩
 have hu:=h.used;have eseq:gF q0 ts.length=M.seq:=by rw[wB h.ring.seq.1 (by omega),h.seq]
 rw[wL]at k2;have inj:∀i j,i<M.g.C->j<M.g.C->cA 2 M.g.C p0 i=cA 2 M.g.C p0 j->i=j:=fun i j hi hj e=>te (frm:=2) (at0:=p0) hi hj e;have hpl:∀k,cA 2 M.g.C M.at0 k=cA 2 M.g.C p0 ((bJ q0 ts).length+k):=fun k=>by rw[h.at0,pt]
 have hn0:T.n0=S.n0:=k2.n0.trans k1.n0;have far:∀i,i<S.n0->(∀j,j<=t.length->i≠cA 2 M.g.C M.at0 j)->T.rd i=S.rd i:=fun i hi hne=>by
  rw[k2.else' (by rw[k1.n0];exact hi) fun v hv=>by
   simp only[eF,Prod.mk.injEq]at hv;exact hne _ (aG _) hv.1]
  exact k1.else' hi fun v hv=>by
   obtain⟨j,x,hj,_,e,_⟩:=wK hv;exact hne j (by omega) e
 have new:∀j v,(bG M.seq t)[j]? =some v->T.rd (cA 2 M.g.C M.at0 j)=v:=fun j v hv=>by
  have hj:j<t.length+1:=by have:=(bZ.1 hv).1;rwa [iU]at this
  by_cases hjt:j=t.length
  ·subst hjt;rw[Cc]at hv;cases hv;rw[k2.at_ _ _ (eF.2 rfl)];exact lx _
  ·have hx:t[j]? =some t[j]:=aZ (by omega);have hv':v=(eN M.seq t[j]).bytes:=by
    unfold bG at hv;rw[fS (by simp;omega),dY,hx]at hv;exact(Option.some.inj hv).symm
   rw[k2.else' (by rw[k1.n0];have:=hp M.at0 j;omega) fun w hw=>by
    simp only[eF,Prod.mk.injEq]at hw;have:=te (frm:=2) (at0:=M.at0) (count:=M.g.C) (j:=j) (k:=t.length) (by omega) (by omega) hw.1;omega]
   rw[k1.at_ _ _ (MJ hx),hv'];exact lx _
 have hring:RingIs T 2 M.g.C p0 q0 (ts++ [t]):=by
  refine h.ring.more ht (by omega) hn0 (fun k v hv=> ?_) (fun i hi hno=>far i hi fun j hj=> ?_)
  ·rw[eseq]at hv;rw[←h.at0];exact new k v hv
  ·have:=hno j hj
   rwa [←h.at0]at this
 have hlen:(bJ q0 (ts++ [t])).length=(bJ q0 ts).length+t.length+1:=by
  rw[wk _ _ _ h.ring.seq,BH,cE,iU];omega
 have hlow:∀i,i<2->T.rd i=S.rd i:=fun i hi=>far i (by omega) fun j _=>by have:=hp M.at0 j;omega
 have hP:dt b=M.g.P:=by unfold dt;rw[hl,h.len,hN.bp]
 refine{good:=h.good,n0:=by rw[hn0];exact h.n0,n1:=by rw[k2.n1,k1.n1];exact h.n1,dry:=k2.dry,bb:=k2.bb,sup1:=h.sup1,sb:= ?_,other:=fun x hx=> ?_,gen:=⟨h.gen.1,by have:=h.gen.2;show M.gen<=((n+1:Nat):Int)+1;omega⟩,homl:=h.homl,homb:=h.homb,hom:=fun i x hx=> ?_,ring:=hring,q:=⟨hq.1, ?_⟩,junk:=fun j h1 h2=> ?_,at0:= ?_,seq:= ?_,used:= ?_,len:=by show b.length=_;rw[hl];exact h.len,bytes:=hb,rows:= ?_}
 ·show T.rd M.sup=_;rw[hlow _ (by have:=h.sup1;omega)];exact h.sb
 ·rw[hn0,k2.n1,k1.n1,hlow _ (by show 1 - M.sup<2;omega)]at hx;exact h.other x hx
 ·have hi:i<M.g.P:=by rw[←h.homl];exact(bZ.1 hx).1
  show T.rd (M.g.H+i)=_;rw[far _ (by unfold Geo.H;omega) fun j _=>by have:=hp M.at0 j;unfold Geo.H;omega];exact h.hom i x hx
 ·rw[cE,List.length_singleton];omega
 ·rw[hlen]at h1;have h2:j<M.g.C:=h2;show fi (T.rd (cA 2 M.g.C p0 j))=false\/(Sct.of (T.rd (cA 2 M.g.C p0 j))).seq<q0+((ts++ [t]).length:Int)\/((Sct.of (T.rd (cA 2 M.g.C p0 j))).seq=q0+((ts++ [t]).length:Int)/\(Sct.of (T.rd (cA 2 M.g.C p0 j))).mark≠67);rw[far _ (by have:=hp p0 j;omega) fun i hi e=>by
   rw[hpl]at e;have:=inj j ((bJ q0 ts).length+i) h2 (by omega) e;omega]
  rw[cE,List.length_singleton];rcases h.junk j (by omega) h2 with h3 | h3 | h3
  ·exact aA h3
  ·exact aD (aA (by omega))
  ·exact aD (aA (by have:=h3.1;omega))
 ·show(M.at0+(M.dif b).length+1)%M.g.C=(p0+(bJ q0 (ts++ [t])).length)%M.g.C;rw[htt,h.at0,hlen,Nat.add_assoc,Nat.mod_add_mod]
  congr 1
  omega
 ·show M.seq+1=q0+((ts++ [t]).length:Int);rw[h.seq,cE,List.length_singleton];omega
 ·show M.used+(M.dif b).length+1=(bJ q0 (ts++ [t])).length;rw[htt,hlen,h.used]
 ·show fo M.home (ts++ [t])=aX b;rw[MH,h.rows,←htt];exact Cw (by rw[jR,jR,h.pcs,hP])
end
end
section
theorem FullW.part {S T:RS} {W:cH} (h:FullW S T W):PartW S T W:=⟨h.n0,h.n1,h.dry,h.bb,fun i hi=>by
 by_cases hm:i ∈ W.map (·.1)
 ·obtain⟨x,hx,rfl⟩:=cM.1 hm;exact aD ⟨x.2,hx,h.at_ _ _ hx⟩
 ·exact aA (h.else_ i hi hm)⟩
theorem PartW.then0 {S U T:RS} {W:cH} (h:PartW S U W) (k:FullW U T []):PartW S T W:=⟨k.n0.trans h.n0,k.n1.trans h.n1,k.dry,k.bb,fun i hi=>by
 rw[k.else_ i (by rw[h.n0];exact hi) (by simp)];exact h.or_ i hi⟩
theorem tk {p:Sct} (h:p.Ok):BB (aw p.bytes):=⟨p.bytes,rfl,Sct.bytes_bytes h,Sct.bytes_length h⟩
section
variable {S T U:RS} {M:MS} {n p0:Nat} {q0:Int} {ts:List (List Img)} {b:List Int}
theorem Inv.homW_ok (h:Inv S M n p0 q0 ts):BatOk S M.homW:=by
 have hr:=h.room;refine⟨fun x hx=> ?_, ?_,fun x hx=> ?_⟩
 ·obtain⟨j,hj,e,_⟩:=mJ (i:=x.1) (v:=x.2) hx;rw[e];unfold Geo.H;omega
 ·unfold MS.homW;rw[iX];refine List.pairwise_map.2 ((List.nodup_range.filter _).imp fun{i j} hne e=>hne ?_);have e:M.g.H+i=M.g.H+j:=e;omega
 ·obtain⟨j,hj,_,_,e⟩:=mJ (i:=x.1) (v:=x.2) hx;rw[e];exact tk (qI (ll _ _) (mH h.bytes j))
theorem Inv.supW_ok (h:Inv S M n p0 q0 ts) (hn:n<=100000):BatOk S M.supW:=by
 have hr:=h.room;have hg:=h.gen;refine⟨fun x hx=> ?_,by simp[MS.supW],fun x hx=> ?_⟩
 ·rw[eF.1 hx];show 1 - M.sup<_;omega
 ·rw[eF.1 hx];exact tk (ti ⟨by omega,by omega⟩ _ _ _)
theorem Inv.appW_ok (h:Inv S M n p0 q0 ts) (hn:n<=100000) (ht:TxnOk M.g.C (M.dif b)):∀l ∈ M.appW b,BatOk S l:=by
 have hr:=h.room;have hq:=h.q;have hC:=h.C0;have hsq:dx M.seq:=by rw[h.seq];exact⟨by omega,by omega⟩
 have hlt:=Me (S:=S) (frm:=2) (at0:=M.at0) (seq:=M.seq) (t:=M.dif b) hC (by omega);have hnd:=Md (frm:=2) (at0:=M.at0) (seq:=M.seq) ht.most;have hbb:=Mn (frm:=2) (count:=M.g.C) (at0:=M.at0) hsq ht.ok;intro l hl;unfold MS.appW at hl;rcases dy.1 hl with rfl | hl
 ·exact⟨fun x hx=>hlt x (jE hx),by rw[List.map_take];exact hnd.sublist (List.take_sublist _ _),fun x hx=>hbb x (jE hx)⟩
 ·obtain rfl:=eF.1 hl;exact⟨fun x hx=>hlt x (List.mem_of_mem_drop hx),by rw[List.map_drop];exact hnd.sublist (List.drop_sublist _ _),fun x hx=>hbb x (List.mem_of_mem_drop hx)⟩
theorem Inv.bats_ok (h:Inv S M n p0 q0 ts) (hn:n<=100000) (hl:b.length=M.b.length) (hb:aP b):∀l ∈ M.bats b,BatOk S l:=by
 intro l hm;unfold MS.bats at hm;split at hm
 ·cases hm
 ·next hd=>
  have ht:=h.txn hl hb hd;rcases gc.1 hm with hm | hm
  ·split at hm
   ·rcases dy.1 hm with rfl | hm
    ·exact h.homW_ok
    ·obtain rfl:=eF.1 hm;exact h.supW_ok hn
   ·cases hm
  ·exact h.appW_ok hn ht l hm
theorem Inv.app_goes (h:Inv S M n p0 q0 ts) (hn:n<=100000) (hl:b.length=M.b.length) (hb:aP b) (hd:M.dif b≠ []) (hfit:M.used+(M.dif b).length+1<=M.g.C) (k:GoesW S (M.appW b) T):
  ∃M' us,Inv T M' (n+1) p0 q0 us/\M'.g=M.g/\(M'.b=M.b\/M'.b=b):=by
 have ht:=h.txn hl hb hd;have hr:=h.room;unfold MS.appW at k;cases k with
 | part k=>exact⟨M,ts,(h.app_part hn ht hfit k).mono,rfl,aA rfl⟩
 | step k1 k=>
  cases k with
  | part k=>
   rw[wL]at k;rcases k.one (by rw[k1.n0];have:=mI h.C0 M.at0 (M.dif b).length;omega)with k | k
   ·exact⟨M,ts,(h.app_part hn ht hfit (k1.part.then0 k)).mono,rfl,aA rfl⟩
   ·exact⟨M.app b,_,h.app_full hn hl hb hd hfit k1 (by rw[wL];exact k),rfl,aD rfl⟩
  | step k2 k=>
   cases k with
   | nil k=>exact⟨M.app b,_,(h.app_full hn hl hb hd hfit k1 k2).same k,rfl,aD rfl⟩
theorem Inv.app_all (h:Inv S M n p0 q0 ts) (hn:n<=100000) (hl:b.length=M.b.length) (hb:aP b) (hd:M.dif b≠ []) (hfit:M.used+(M.dif b).length+1<=M.g.C) (k:AllW S (M.appW b) T):Inv T (M.app b) (n+1) p0 q0 (ts++ [M.dif b]):=by
 unfold MS.appW at k;cases k with
 | step k1 k=>
  cases k with
  | step k2 k=>
   cases k with
   | nil k=>exact(h.app_full hn hl hb hd hfit k1 k2).same k
theorem Inv.fits (h:Inv S M n p0 q0 ts) (hf:¬M.full b):M.used+(M.dif b).length+1<=M.g.C:=by
 have hN:=Geo.nats h.good;unfold MS.full MS.room at hf;have:=hN.c;omega
theorem Inv.cmt (h:Inv S M n p0 q0 ts) (hn:n<=1000) (hl:b.length=M.b.length) (hb:aP b):∃T e,S.cmt M b=(T,e)/\T.n0=S.n0/\T.n1=S.n1/\T.BB/\
  ((e=0/\∃p q us,Inv T (M.next b) (n+2) p q us)\/(e=14/\∀b0 b1,∃M' p q us,Inv (T.crash b0 b1) M' (n+2) p q us/\M'.g=M.g/\(M'.b=M.b\/M'.b=b))):=by
 obtain⟨T,e,hT,t0,t1,tb,hc⟩:=RS.bat_spec (M.bats b) S h.dry h.bb (h.bats_ok (by omega) hl hb);refine⟨T,e,hT,t0,t1,tb, ?_⟩;by_cases hd:M.dif b= []
 ·have e1:M.bats b= []:=if_pos hd;have e2:M.next b=M:=if_pos hd;rw[e1]at hc;rw[e2];rcases hc with⟨he,hA⟩ | ⟨he,hG⟩
  ·cases hA with
   | nil k=>exact aA ⟨he,p0,q0,ts,(h.same k).mono.mono⟩
  ·refine aD ⟨he,fun b0 b1=> ?_⟩;cases hG b0 b1 with
   | nil k=>exact⟨M,p0,q0,ts,(h.same k).mono.mono,rfl,aA rfl⟩
 ·by_cases hf:M.full b
  ·have e1:M.bats b=M.homW::M.supW::M.appW b:=by unfold MS.bats;rw[if_neg hd,if_pos hf];rfl
   have e2:M.next b=M.ckpt.app b:=by unfold MS.next;rw[if_neg hd,if_pos hf]
   have hfit:M.ckpt.used+(M.ckpt.dif b).length+1<=M.ckpt.g.C:=by
    have:=(h.txn hl hb hd).most;show 0+(M.dif b).length+1<=M.g.C;omega
   rw[e1]at hc;rw[e2];rcases hc with⟨he,hA⟩ | ⟨he,hG⟩
   ·refine aA ⟨he, ?_⟩;cases hA with
    | step k1 k=>
     cases k with
     | step k2 k=>
      have h1:=h.home_full k1;have h2:=h1.sup_full (by omega) rfl k2;exact⟨_,_,_,h2.app_all (by omega) hl hb hd hfit k⟩
   ·refine aD ⟨he,fun b0 b1=> ?_⟩;cases hG b0 b1 with
    | part k=>
     obtain⟨hm,h1⟩:=h.home_part k;exact⟨_,_,_,_,h1.mono.mono,rfl,aA rfl⟩
    | step k1 k=>
     have h1:=h.home_full k1;cases k with
     | part k=>
      rcases PartW.one k (by rw[k1.n0];have:=h.room;omega)with k | k
      ·exact⟨_,_,_,_,(h1.same k).mono.mono,rfl,aA rfl⟩
      ·exact⟨_,_,_,_,(h1.sup_full (by omega) rfl k).mono,rfl,aA rfl⟩
     | step k2 k=>
      have h2:=h1.sup_full (by omega) rfl k2;obtain⟨M',us,hI,e3,e4⟩:=h2.app_goes (by omega) hl hb hd hfit k;exact⟨M',_,_,us,hI,e3,e4⟩
  ·have e1:M.bats b=M.appW b:=by unfold MS.bats;rw[if_neg hd,if_neg hf];rfl
   have e2:M.next b=M.app b:=by unfold MS.next;rw[if_neg hd,if_neg hf]
   rw[e1]at hc;rw[e2];rcases hc with⟨he,hA⟩ | ⟨he,hG⟩
   ·exact aA ⟨he,_,_,_,(h.app_all (by omega) hl hb hd (h.fits hf) hA).mono⟩
   ·refine aD ⟨he,fun b0 b1=> ?_⟩;obtain⟨M',us,hI,e3,e4⟩:=h.app_goes (by omega) hl hb hd (h.fits hf) (hG b0 b1);exact⟨M',_,_,us,hI.mono,e3,e4⟩
theorem MS.next_g (M:MS) (b:List Int):(M.next b).g=M.g:=by
 unfold MS.next;split
 ·rfl
 ·split<;>rfl
theorem Inv.next_b (h:Inv S M n p0 q0 ts) (hl:b.length=M.b.length):(M.next b).b=b:=by
 unfold MS.next;split
 ·next hd=>
  have hp:dt b=dt M.b:=by unfold dt;rw[hl]
  have e:aX b=aX M.b:=by
   have:=Cw (was:=aX M.b) (now:=aX b) (by rw[jR,jR,hp]);unfold MS.dif at hd;rw[hd]at this;exact this.symm
  have e1:=wC b;rw[e,hl,wC]at e1;exact e1
 ·split<;>rfl
end
end
section
theorem wM (n:Int):byt (bf n)=bg 64 n:=by
 unfold byt bf;rw[List.map_replicate]
 rfl
theorem RS.bat_up:∀(ls:List cH) (S:RS),S.Up->(∀l ∈ ls,∀x ∈ l,x.1<S.n0)->(S.bat ls).2=0/\(S.bat ls).1.Up
 | [],S,hu,_=>⟨rfl,hu⟩
 | l::ls,S,hu,h=>by
  obtain⟨h1,h2⟩:=RS.Up.wrs l hu (h l dC);have s1:=(RS.wrs_spec l S (h l dC)).1;rw[RS.bat_cons,if_neg (by rw[h1];simp)];obtain⟨u1,u2⟩:=h2.flush 0;obtain⟨s2,hf⟩:=RS.flush0 (S.wrs l).1;have hE:(S.wrs l).1.flushE 0=0:=by
   rcases hf with⟨_,h3,_⟩ | ⟨h3,_,_⟩
   ·exact h3
   ·rw[h2.ok]at h3;cases h3
  rw[if_neg (by omega)];exact RS.bat_up ls _ u1 fun k hk x hx=>by rw[s2.n0,s1.n0];exact h k (ea _ hk) x hx
theorem wN {C i:Nat} {v:List ak} (h:(i,v)∈(cI C).map fun i=>(2+i,bf 0)):∃j,j<C/\i=2+j/\v=bf 0:=by
 obtain⟨j,hj,e⟩:=cM.1 h;cases e;exact⟨j,dJ.1 hj,rfl,rfl⟩
theorem wO {g:Geo} {b:List Int} {i:Nat} {v:List ak} (h:(i,v)∈(cI g.P).map fun i=>(g.H+i,aw (ex i (cT b i)).bytes)):∃j,j<g.P/\i=g.H+j/\v=aw (ex j (cT b j)).bytes:=by
 obtain⟨j,hj,e⟩:=cM.1 h;cases e;exact⟨j,dJ.1 hj,rfl,rfl⟩
theorem Geo.room {g:Geo} (hg:g.good) {n0:Nat} (h:g.oF<=n0):2+g.C+g.P<n0:=by
 have hN:=Geo.nats hg;have:=hN.f;have:=hN.s1;omega
theorem wP {S:RS} {g:Geo} {b:List Int} (hg:g.good) (h0:g.oF<=S.n0) (hb:aP b):∀l ∈ cU g b,BatOk S l:=by
 have hr:=Geo.room hg h0;have hz:BB (bf 0):=BB.fill (by omega);intro l hl;unfold cU at hl;rcases dy.1 hl with rfl | hl
 ·refine⟨fun x hx=> ?_,by simp,fun x hx=> ?_⟩
  ·rcases dy.1 hx with rfl | hx
   ·show 0<_;omega
   ·rw[eF.1 hx];show 1<_;omega
  ·rcases dy.1 hx with rfl | hx
   ·exact hz
   ·rw[eF.1 hx];exact hz
 ·rcases dy.1 hl with rfl | hl
  ·refine⟨fun x hx=> ?_, ?_,fun x hx=> ?_⟩
   ·rcases gc.1 hx with hx | hx
    ·obtain⟨j,hj,e,_⟩:=wN (i:=x.1) (v:=x.2) hx;rw[e];omega
    ·obtain⟨j,hj,e,_⟩:=wO (i:=x.1) (v:=x.2) hx;rw[e];unfold Geo.H;omega
   ·rw[ec,iX,iX];have q1:((cI g.C).map ((fun x:Nat×List ak=>x.1)∘ fun i=>(2+i,bf 0))).Nodup:=List.pairwise_map.2 (List.nodup_range.imp fun{i j} hne e=>hne (by
     have e:2+i=2+j:=e;omega))
    have q2:((cI g.P).map ((fun x:Nat×List ak=>x.1)∘ fun i=>(g.H+i,aw (ex i (cT b i)).bytes))).Nodup:=List.pairwise_map.2 (List.nodup_range.imp fun{i j} hne e=>hne (by
     have e:g.H+i=g.H+j:=e;omega))
    refine List.nodup_append.2 ⟨q1,q2,fun a ha c hc e=> ?_⟩;obtain⟨i,hi,rfl⟩:=cM.1 ha;obtain⟨j,hj,rfl⟩:=cM.1 hc;have e:2+i=g.H+j:=e;have:=dJ.1 hi;unfold Geo.H at e;omega
   ·rcases gc.1 hx with hx | hx
    ·obtain⟨j,hj,_,e⟩:=wN (i:=x.1) (v:=x.2) hx;rw[e];exact hz
    ·obtain⟨j,hj,_,e⟩:=wO (i:=x.1) (v:=x.2) hx;rw[e];exact tk (qI (ll _ _) (mH hb j))
  ·obtain rfl:=eF.1 hl;refine⟨fun x hx=> ?_,by simp,fun x hx=> ?_⟩
   ·rw[eF.1 hx];show 0<_;omega
   ·rw[eF.1 hx];exact tk (ti ⟨by omega,by omega⟩ _ _ _)
theorem ML {S T:RS} {g:Geo} {b:List Int} (hg:g.good) (h0:g.oF<=S.n0) (h1:g.oW<=S.n1) (hl:b.length=g.bts.toNat) (hb:aP b) (k:AllW S (cU g b) T):Inv T (MS.new g b) 0 0 1 []:=by
 have hN:=Geo.nats hg;have hr:=Geo.room hg h0;have hpc:dt b=g.P:=by unfold dt;rw[hl,hN.bp]
 unfold cU at k;cases k with
 | @step _ U1 _ _ _ k1 k=>
  cases k with
  | @step _ U2 _ _ _ k2 k=>
   cases k with
   | @step _ U3 _ _ _ k3 k=>
    cases k with
    | nil k4=>
     have n3:U2.n0=S.n0:=k2.n0.trans k1.n0;have hn0:T.n0=S.n0:=k4.n0.trans (k3.n0.trans n3);have hn1:T.n1=S.n1:=k4.n1.trans (k3.n1.trans (k2.n1.trans k1.n1));have hU3:U3.n0=S.n0:=k3.n0.trans n3;have hlast:∀i,i<S.n0->i≠0->T.rd i=U2.rd i:=fun i hi hne=>by
      rw[k4.else_ i (by rw[hU3];exact hi) (by simp),k3.else' (by rw[n3];exact hi) fun v hv=>by
       simp only[eF,Prod.mk.injEq]at hv;exact hne hv.1]
     have hz:∀i,2<=i->i<2+g.C->T.rd i=bg 64 0:=fun i h2 h3=>by
      rw[hlast i (by omega) (by omega),k2.at_ i (bf 0) (List.mem_append_left _ (cM.2 ⟨i - 2,dJ.2 (by omega),by rw[show 2+(i - 2)=i by omega]⟩))];exact wM 0
     have h1z:T.rd 1=bg 64 0:=by
      rw[hlast 1 (by omega) (by omega),k2.else' (by rw[k1.n0];omega) fun v hv=>by
       rcases gc.1 hv with hv | hv
       ·obtain⟨j,hj,e,_⟩:=wN hv;omega
       ·obtain⟨j,hj,e,_⟩:=wO hv;unfold Geo.H at e;omega]
      rw[k1.at_ 1 (bf 0) (by simp)];exact wM 0
     have hh:∀i,i<g.P->T.rd (g.H+i)=(ex i (cT b i)).bytes:=fun i hi=>by
      rw[hlast _ (by unfold Geo.H;omega) (by unfold Geo.H;omega),k2.at_ (g.H+i) _ (List.mem_append_right _ (cM.2 ⟨i,dJ.2 hi,rfl⟩))];exact lx _
     have hsb:T.rd 0=(gG 1 g 0 1).bytes:=by
      rw[k4.else_ 0 (by rw[hU3];omega) (by simp),k3.at_ 0 _ (eF.2 rfl)];exact lx _
     have hci:∀i x,(aX b)[i]? =some x->i<g.P/\x=cT b i:=fun i x hx=>by
      have hi:i<g.P:=by have:=(bZ.1 hx).1;rwa [jR,hpc]at this
      rw[qJ b (by rw[hpc];exact hi)]at hx;exact⟨hi,(Option.some.inj hx).symm⟩
     refine{good:=hg,n0:=by rw[hn0];exact h0,n1:=by rw[hn1];exact h1,dry:=k4.dry,bb:=k4.bb,sup1:=bc _,sb:=hsb,other:=fun x hx=> ?_,gen:=⟨by show(1:Int)<=1;omega,by show(1:Int)<=_;omega⟩,homl:=by show(aX b).length=_;rw[jR];exact hpc,homb:=fun x hx=> ?_,hom:=fun i x hx=> ?_,ring:=⟨by rw[hn0];show 2+g.C<=_;omega,by show 2<=g.C;have:=hN.c1;omega,hN.c2,by show 0<g.C;have:=hN.c1;omega,⟨by omega,by omega⟩,fun t ht=>(by cases ht),bc _,fun k hk=>(by simp[bJ]at hk)⟩,q:=⟨by omega,by simp⟩,junk:=fun j _ hj=> ?_,at0:=(Nat.zero_mod _).symm,seq:=rfl,used:=rfl,len:=hl,bytes:=hb,rows:=rfl}
     ·have hx:jQ T.n0 T.n1 (T.rd 1)=some x:=hx;rw[h1z]at hx;unfold jQ at hx;rw[if_neg (fun h=>by have:=h.1;rw[wj]at this;cases this)]at hx;cases hx
     ·obtain⟨i,hi0⟩:=List.mem_iff_getElem?.1 hx;obtain⟨hi,rfl⟩:=hci i x hi0;exact⟨ll _ _,mH hb i⟩
     ·obtain⟨hi,rfl⟩:=hci i x hx;exact hh i hi
     ·left
      have hp:=mI (show 0<g.C by have:=hN.c1;omega) 0 j;show fi (T.rd (cA 2 g.C 0 j))=false;rw[hz _ hp.1 hp.2];exact wj
theorem RS.fmt {S:RS} {g:Geo} {b:List Int} (hu:S.Up) (hd:S.Dry) (hbb:S.BB) (hg:g.good) (h0:g.oF<=S.n0) (h1:g.oW<=S.n1) (hl:b.length=g.bts.toNat) (hb:aP b):
  ∃T,S.bat (cU g b)=(T,0)/\T.Up/\T.n0=S.n0/\T.n1=S.n1/\Inv T (MS.new g b) 0 0 1 []:=by
 have hok:=wP (S:=S) hg h0 hb;obtain⟨T,e,hT,t0,t1,tb,hc⟩:=RS.bat_spec (cU g b) S hd hbb hok;obtain⟨u1,u2⟩:=RS.bat_up (cU g b) S hu fun l hl x hx=>(hok l hl).lt x hx;rw[hT]at u1 u2;have u1:e=0:=u1;subst u1;refine⟨T,hT,u2,t0,t1, ?_⟩;rcases hc with⟨_,hA⟩ | ⟨he,_⟩
 ·exact ML hg h0 h1 hl hb hA
 ·cases he
theorem Inv.cmt_up {S:RS} {M:MS} {n p0:Nat} {q0:Int} {ts:List (List Img)} {b:List Int} (h:Inv S M n p0 q0 ts) (hu:S.Up) (hn:n<=1000) (hl:b.length=M.b.length) (hb:aP b):
  ∃T,S.cmt M b=(T,0)/\T.Up/\T.n0=S.n0/\T.n1=S.n1/\∃p q us,Inv T (M.next b) (n+2) p q us:=by
 obtain⟨T,e,hT,t0,t1,tb,hc⟩:=h.cmt hn hl hb;obtain⟨u1,u2⟩:=RS.bat_up (M.bats b) S hu fun l hl' x hx=>(h.bats_ok (by omega) hl hb l hl').lt x hx;unfold RS.cmt at hT;rw[hT]at u1 u2;have u1:e=0:=u1;subst u1;refine⟨T,hT,u2,t0,t1, ?_⟩;rcases hc with⟨_,hI⟩ | ⟨he,_⟩
 ·exact hI
 ·cases he
structure RS.Rdy (S:RS):Prop where
 n0:S.n0<=4096
 n1:S.n1<=4096
 d0:0<=S.done
 d1:S.done<=500000
 fu:S.fuse<=1000000
 few:S.Few 100
 bb:S.BB
structure MS.Ok (M:MS) (S:RS):Prop where
 good:M.g.good
 n0:M.g.oF<=S.n0
 n1:M.g.oW<=S.n1
 sup1:M.sup<=1
 gen:0<=M.gen/\M.gen<=1000000
 seq:0<=M.seq/\M.seq<=1000000
 at0:M.at0<M.g.C
 used:M.used<=M.g.C
 homl:M.home.length=M.g.P
 homb:∀x ∈ M.home,x.length=48/\aP x
 len:M.b.length=M.g.bts.toNat
 bytes:aP M.b
def jS (ls:List cH):Nat:=(ls.map fun l=>l.length+1).sum
theorem RS.write_wyM (S:RS) (dev i:Int) (b:List ak):S.done<=(S.write dev i b).done/\(S.write dev i b).done<=S.done+1/\((S.write dev i b).fuse<=S.fuse\/(S.write dev i b).fuse<=0):=by
 have ha:S.done<=S.after.done/\S.after.done<=S.done+1/\(S.after.fuse<=S.fuse\/S.after.fuse<=0):=by
  unfold RS.after;split
  ·refine⟨by show S.done<=S.done+1;omega,by show S.done+1<=_;omega,aA ?_⟩;show(if 0<S.fuse then S.fuse - 1 else S.fuse)<=S.fuse;split<;>omega
  ·exact⟨fT _,by show S.done<=_;omega,aA (fT _)⟩
 unfold RS.write;split
 ·split
  ·obtain⟨p1,p2,p3,p4,p5⟩:=S.after.put_rest dev i.toNat b;rw[p1,p3];exact ha
  ·exact ha
 ·exact⟨fT _,by omega,aA (fT _)⟩
theorem RS.flush_wyM (S:RS) (dev:Int):S.done<=(S.flush dev).done/\(S.flush dev).done<=S.done+1/\((S.flush dev).fuse<=S.fuse\/(S.flush dev).fuse<=0):=by
 have ha:S.done<=S.after.done/\S.after.done<=S.done+1/\(S.after.fuse<=S.fuse\/S.after.fuse<=0):=by
  unfold RS.after;split
  ·refine⟨by show S.done<=S.done+1;omega,by show S.done+1<=_;omega,aA ?_⟩;show(if 0<S.fuse then S.fuse - 1 else S.fuse)<=S.fuse;split<;>omega
  ·exact⟨fT _,by show S.done<=_;omega,aA (fT _)⟩
 unfold RS.flush;split
 ·split
  ·obtain⟨p1,p2,p3,p4,p5⟩:=S.after.fl_rest dev;rw[p1,p3];exact ha
  ·exact ha
 ·exact⟨fT _,by omega,aA (fT _)⟩
theorem RS.wrs_wyM:∀(l:cH) (S:RS),S.done<=(S.wrs l).1.done/\(S.wrs l).1.done<=S.done+l.length/\((S.wrs l).1.fuse<=S.fuse\/(S.wrs l).1.fuse<=0)
 | [],S=>⟨fT _,by show S.done<=_;simp,aA (fT _)⟩
 | (i,b)::l,S=>by
  obtain⟨w1,w2,w3⟩:=S.write_wyM 0 (i:Int) b;unfold RS.wrs;split
  ·obtain⟨v1,v2,v3⟩:=RS.wrs_wyM l (S.write 0 (i:Int) b);rw[bz];exact⟨by omega,by omega,by omega⟩
  ·rw[bz];exact⟨w1,by show(S.write 0 (i:Int) b).done<=_;omega,w3⟩
theorem RS.bat_way:∀(ls:List cH) (S:RS),S.done<=(S.bat ls).1.done/\(S.bat ls).1.done<=S.done+jS ls/\((S.bat ls).1.fuse<=S.fuse\/(S.bat ls).1.fuse<=0)
 | [],S=>⟨fT _,by show S.done<=_;simp[jS],aA (fT _)⟩
 | l::ls,S=>by
  obtain⟨w1,w2,w3⟩:=RS.wrs_wyM l S;obtain⟨f1,f2,f3⟩:=(S.wrs l).1.flush_wyM 0;have e:jS (l::ls)=l.length+1+jS ls:=rfl;rw[RS.bat_cons,e];split
  ·exact⟨w1,by show(S.wrs l).1.done<=_;omega,w3⟩
  ·split
   ·exact⟨by show S.done<=((S.wrs l).1.flush 0).done;omega,by show((S.wrs l).1.flush 0).done<=_;omega,by show((S.wrs l).1.flush 0).fuse<=_\/((S.wrs l).1.flush 0).fuse<=0;omega⟩
   ·obtain⟨v1,v2,v3⟩:=RS.bat_way ls ((S.wrs l).1.flush 0);exact⟨by omega,by omega,by omega⟩
theorem RS.wrs_D1 (l:cH) (S:RS) (h:∀x ∈ l,x.1<S.n0):(S.wrs l).1.D1=S.D1/\(S.wrs l).1.n0=S.n0/\(S.wrs l).1.n1=S.n1:=by
 have:=(RS.wrs_spec l S h).1;exact⟨this.D1,this.n0,this.n1⟩
theorem RS.bat_D1:∀(ls:List cH) (S:RS),(∀l ∈ ls,∀x ∈ l,x.1<S.n0)->(S.bat ls).1.D1=S.D1/\(S.bat ls).1.n0=S.n0/\(S.bat ls).1.n1=S.n1
 | [],S,_=>⟨rfl,rfl,rfl⟩
 | l::ls,S,h=>by
  obtain⟨w1,w2,w3⟩:=RS.wrs_D1 l S (h l dC);have s2:=((S.wrs l).1.flush0).1;rw[RS.bat_cons];split
  ·exact⟨w1,w2,w3⟩
  ·split
   ·exact⟨s2.D1.trans w1,s2.n0.trans w2,s2.n1.trans w3⟩
   ·obtain⟨v1,v2,v3⟩:=RS.bat_D1 ls ((S.wrs l).1.flush 0) (fun k hk x hx=>by rw[s2.n0,w2];exact h k (ea _ hk) x hx);exact⟨v1.trans (s2.D1.trans w1),v2.trans (s2.n0.trans w2),v3.trans (s2.n1.trans w3)⟩
theorem MS.bats_total {S:RS} {M:MS} {n p0:Nat} {q0:Int} {ts:List (List Img)} {b:List Int} (h:Inv S M n p0 q0 ts) (hl:b.length=M.b.length):jS (M.bats b)<=40:=by
 have hN:=Geo.nats h.good;have hp:dt b=M.g.P:=by unfold dt;rw[hl,h.len,hN.bp]
 have hle:(M.dif b).length<=M.g.P:=by
  have:=wJ (aX M.b) (aX b)
  rwa [jR b,hp]at this
 have hh:M.homW.length<=M.g.P:=by
  unfold MS.homW;rw[dV];exact bm (List.length_filter_le _ _) (by simp)
 have hp2:=hN.p2;have ha:jS (M.appW b)=(M.dif b).length+3:=by
  unfold MS.appW jS;simp[wu]
 unfold MS.bats;split
 ·simp[jS]
 ·split
  ·have e:jS ([M.homW,M.supW]++M.appW b)=M.homW.length+1+(2+jS (M.appW b)):=rfl;rw[e,ha];omega
  ·have e:jS ([]++M.appW b)=jS (M.appW b):=rfl;rw[e,ha];omega
theorem Inv.ok {S:RS} {M:MS} {n p0:Nat} {q0:Int} {ts:List (List Img)} (h:Inv S M n p0 q0 ts) (hn:n<=1000):M.Ok S:=by
 have hg:=h.gen;have hq:=h.q;exact⟨h.good,h.n0,h.n1,h.sup1,⟨by omega,by omega⟩,by rw[h.seq];exact⟨by omega,by omega⟩,by rw[h.at0];exact iI _ h.C0,by rw[h.used];exact h.ring.fits,h.homl,h.homb,h.len,h.bytes⟩
theorem MM {S T:RS} {m:Nat} (hd:T.Dry) (h:S.Few m) (h1:T.D1=S.D1) (h2:T.n1=S.n1):T.Few m:=⟨fun i hi=>by rw[hd i hi];exact bc _,fun i hi=>by rw[h1];exact h.2 i (by rw[←h2];exact hi)⟩
end
section
theorem RS.wrs_few {l:List (Nat×List ak)} {S:RS} {m:Nat} (h:S.Few m) (hm:m<=254) (hin:∀x ∈ l,x.1<S.n0) (hnd:(l.map (·.1)).Nodup):(S.wrs l).1.Few (m+1):=by
 obtain⟨hs,k,hk,hD,_⟩:=S.wrs_spec l hin;refine⟨fun i hi=> ?_,fun i hi=> ?_⟩
 ·rw[hs.n0]at hi;rw[hD];have h0:=h.1 i hi;by_cases hmem:i ∈(l.take k).map (·.1)
  ·obtain⟨⟨j,b⟩,hx,e⟩:=cM.1 hmem;subst e;rw[wt (l.take k) S.D0 (List.Nodup.sublist (List.Sublist.map _ (List.take_sublist k l)) hnd) hx];show((S.D0 j).add b).vs.length<=_;rw[BM _ _ (by have:(S.D0 j).vs.length<=m:=h0;omega)];have:(S.D0 j).vs.length<=m:=h0;omega
  ·rw[sZ _ _ hmem];omega
 ·rw[hs.n1]at hi;rw[hs.D1];exact Nat.le_succ_of_le (h.2 i hi)
section
variable {S:RS} {F C A:Nat} {seq:Int} {t:List Img} {m:Nat}
end
end
section
def dO (F C P:Nat) (L:List (List Int)):List (Nat×List ak):=L.zipIdx.map fun x=>(F+(P+x.2)%C,aw x.1)
theorem Cx (F C P:Nat) (L:List (List Int)):(dO F C P L).length=L.length:=by simp[dO]
theorem wsAt_get? (F C P:Nat) (L:List (List Int)) (k:Nat):(dO F C P L)[k]? =L[k]?.map fun b=>(F+(P+k)%C,aw b):=by
 unfold dO;rw[dY,List.getElem?_zipIdx];cases L[k]? with
 | none=>rfl
 | some b=>simp
theorem MN (F C A n:Nat) (seq:Int) (t:List Img):(cN F C A seq t).take n=dO F C A ((bG seq t).take n):=by
 apply jD;intro k;rw[wsAt_get?];by_cases h:k<n
 ·rw[List.getElem?_take_of_lt h,List.getElem?_take_of_lt h];exact wsAt_get? F C A (bG seq t) k
 ·rw[ej (by rw[dj];omega),ej (by rw[dj];omega)]
  rfl
theorem MO (F C A n:Nat) (seq:Int) (t:List Img):(cN F C A seq t).drop n=dO F C (A+n) ((bG seq t).drop n):=by
 apply jD;intro k;rw[wsAt_get?,lI,lI,show A+n+k=A+(n+k) by omega];exact wsAt_get? F C A (bG seq t) (n+k)
theorem wQ {F C P:Nat} {L:List (List Int)} (h:L.length<=C):((dO F C P L).map (·.1)).Nodup:=by
 have e:(dO F C P L).map (·.1)=(cI L.length).map fun k=>F+(P+k)%C:=by
  apply jD;intro k;rw[dY,dY,wsAt_get?];by_cases hk:k<L.length
  ·rw[mj hk,aZ hk]
   rfl
  ·rw[ej (by omega),ej (by simp;omega)]
   rfl
 rw[e];unfold List.Nodup;rw[List.pairwise_map];refine List.Pairwise.imp_of_mem (fun{j k} hj hk hne e=> ?_) List.nodup_range;have hj:=dJ.1 hj;have hk:=dJ.1 hk;exact hne (ww (a:=P) (count:=C) (by omega) (by omega) (by omega))
theorem Cy {F C P n0:Nat} {L:List (List Int)} (h0:0<C) (hF:F+C<=n0):∀x ∈ dO F C P L,x.1<n0:=by
 intro x hx;obtain⟨k,hk⟩:=List.mem_iff_getElem?.1 hx;rw[wsAt_get?]at hk;cases hl:L[k]? with
 | none=>rw[hl]at hk;simp at hk
 | some b=>
  rw[hl]at hk;cases hk;show F+(P+k)%C<n0;have:=iI (P+k) h0;omega
theorem RS.wrs_last:∀(l:List (Nat×List ak)) (S:RS) (i:Nat) (b:List ak),(S.wrs l).2=true->S.wrs (l++ [(i,b)])=((S.wrs l).1.write 0 (i:Int) b,decide ((S.wrs l).1.writeE 0 (i:Int)=0))
 | [],S,i,b,_=>by
  show S.wrs [(i,b)]=(S.write 0 (i:Int) b,decide (S.writeE 0 (i:Int)=0));unfold RS.wrs;split
  ·next h=>rw[decide_eq_true h];rfl
  ·next h=>rw[decide_eq_false h]
 | (j,c)::l,S,i,b,h=>by
  unfold RS.wrs at h;show S.wrs ((j,c)::(l++ [(i,b)]))=_;unfold RS.wrs;split at h
  ·rename_i h0;rw[if_pos h0,if_pos h0];exact RS.wrs_last l _ i b h
  ·simp at h
theorem RS.wrs_stop:∀(l l':List (Nat×List ak)) (S:RS),(S.wrs l).2=false->S.wrs (l++l')=S.wrs l
 | [],l',S,h=>by simp[RS.wrs]at h
 | (j,c)::l,l',S,h=>by
  unfold RS.wrs at h;show S.wrs ((j,c)::(l++l'))=_;unfold RS.wrs;split at h
  ·rename_i h0;rw[if_pos h0,if_pos h0];exact RS.wrs_stop l l' _ h
  ·rename_i h0;rw[if_neg h0,if_neg h0]
theorem RS.after_way (S:RS):S.after.fuse<=S.fuse/\S.done<=S.after.done/\S.after.done<=S.done+1:=by
 unfold RS.after;split
 ·refine⟨?_, ?_, ?_⟩
  ·show(if 0<S.fuse then S.fuse - 1 else S.fuse)<=S.fuse;split<;>omega
  ·show S.done<=S.done+1;omega
  ·exact fT _
 ·exact⟨fT _,fT _,by show S.done<=S.done+1;omega⟩
theorem RS.write_way (S:RS) (dev i:Int) (b:List ak):(S.write dev i b).fuse<=S.fuse/\S.done<=(S.write dev i b).done/\(S.write dev i b).done<=S.done+1:=by
 have h:=S.after_way;unfold RS.write;split
 ·split
  ·have:=S.after.put_rest dev i.toNat b;rw[this.1,this.2.2.1];exact h
  ·exact h
 ·exact⟨fT _,fT _,by omega⟩
theorem RS.flush_way (S:RS) (dev:Int):(S.flush dev).fuse<=S.fuse/\S.done<=(S.flush dev).done/\(S.flush dev).done<=S.done+1:=by
 have h:=S.after_way;unfold RS.flush;split
 ·split
  ·have:=S.after.fl_rest dev;rw[this.1,this.2.2.1];exact h
  ·exact h
 ·exact⟨fT _,fT _,by omega⟩
theorem RS.wrs_way:∀(l:List (Nat×List ak)) (S:RS),(S.wrs l).1.fuse<=S.fuse/\S.done<=(S.wrs l).1.done/\(S.wrs l).1.done<=S.done+l.length
 | [],S=>⟨fT _,fT _,by show S.done<=S.done+((0:Nat):Int);omega⟩
 | (i,b)::l,S=>by
  have h1:=S.write_way 0 (i:Int) b;have h2:=RS.wrs_way l (S.write 0 (i:Int) b);unfold RS.wrs;simp only[bz];split
  ·refine⟨?_, ?_, ?_⟩<;>omega
  ·refine⟨?_, ?_, ?_⟩<;>simp only<;>omega
theorem RS.flushE0 (S:RS):S.flushE 0=0\/S.flushE 0=14:=by
 rcases(S.flush0).2 with⟨_,e,_⟩ | ⟨_,e,_⟩
 ·exact aA e
 ·exact aD e
def RS.st (S:RS) (l:List (Nat×List ak)):RS×Int:=if(S.wrs l).2=false then((S.wrs l).1,14)else((S.wrs l).1.flush 0,(S.wrs l).1.flushE 0)
theorem RS.app_st (S:RS) (F C A:Nat) (seq:Int) (t:List Img):S.app F C A seq t=
  if(S.st (dO F C A ((bG seq t).take t.length))).2=0 then(S.st (dO F C A ((bG seq t).take t.length))).1.st (dO F C (A+t.length) ((bG seq t).drop t.length))else S.st (dO F C A ((bG seq t).take t.length)):=by
 rw[←MN,←MO];unfold RS.app;by_cases h1:(S.wrs ((cN F C A seq t).take t.length)).2=false
 ·have e1:S.st ((cN F C A seq t).take t.length)=((S.wrs ((cN F C A seq t).take t.length)).1,14):=by unfold RS.st;rw[if_pos h1]
  rw[if_pos h1,e1,if_neg (by omega)]
 ·have e1:S.st ((cN F C A seq t).take t.length)=((S.wrs ((cN F C A seq t).take t.length)).1.flush 0,(S.wrs ((cN F C A seq t).take t.length)).1.flushE 0):=by unfold RS.st;rw[if_neg h1]
  rw[if_neg h1,e1];by_cases h2:(S.wrs ((cN F C A seq t).take t.length)).1.flushE 0=0
  ·rw[if_neg (by omega),if_pos h2];simp only;generalize (S.wrs ((cN F C A seq t).take t.length)).1.flush 0=T;unfold RS.st;by_cases h3:(T.wrs ((cN F C A seq t).drop t.length)).2=false
   ·rw[if_pos h3,if_pos h3]
   ·rw[if_neg h3,if_neg h3];rcases RS.flushE0 (T.wrs ((cN F C A seq t).drop t.length)).1 with e | e
    ·rw[if_neg (by omega),e]
    ·rw[if_pos (by omega),e]
  ·have e:=(RS.flushE0 (S.wrs ((cN F C A seq t).take t.length)).1).resolve_left h2;rw[if_pos h2,if_neg h2,e]
theorem RS.st_spec {S:RS} {l:List (Nat×List ak)} (hin:∀x ∈ l,x.1<S.n0) (hnd:(l.map (·.1)).Nodup) {m:Nat} (hf:S.Few m) (hm:m<=254):
  (S.st l).1.n0=S.n0/\(S.st l).1.fuse<=S.fuse/\S.done<=(S.st l).1.done/\(S.st l).1.done<=S.done+l.length+1/\(S.st l).1.Few (m+1)/\((S.st l).2=0\/(S.st l).2=14):=by
 obtain⟨h1,_⟩:=S.wrs_spec l hin;obtain⟨w1,w2,w3⟩:=RS.wrs_way l S;have hfw:=RS.wrs_few hf hm hin hnd;unfold RS.st;split
 ·exact⟨h1.n0,w1,w2,by show(S.wrs l).1.done<=_;omega,hfw,aD rfl⟩
 ·obtain⟨v1,v2,v3⟩:=(S.wrs l).1.flush_way 0;exact⟨((S.wrs l).1.flush0).1.n0.trans h1.n0,by simp only;omega,by simp only;omega,by simp only;omega,RS.few_flush hfw 0,RS.flushE0 _⟩
theorem RS.bat_one (S:RS) (l:cH):S.bat [l]=S.st l:=by
 rw[RS.bat_cons];unfold RS.st;by_cases h:(S.wrs l).2=false
 ·rw[if_pos h,if_pos h]
 ·rw[if_neg h,if_neg h];rcases RS.flushE0 (S.wrs l).1 with e | e
  ·rw[if_neg (by omega),e];rfl
  ·rw[if_pos (by omega),e]
theorem RS.bat_st (S:RS) (l:cH) (ls:List cH):S.bat (l::ls)=if(S.st l).2=0 then(S.st l).1.bat ls else S.st l:=by
 have:=RS.bat_append [l] ls S;rw[RS.bat_one]at this;exact this
theorem RS.bat_two (S:RS) (l k:cH):S.bat [l,k]=if(S.st l).2=0 then(S.st l).1.st k else S.st l:=by rw[RS.bat_st,RS.bat_one]
def fX (m:Nat) (p:Nat->Bool):List (Fin m):=(iH m).filter fun i=>p i.1
theorem MP (m:Nat):(iH m).map Fin.val=cI m:=by
 apply List.ext_getElem
 ·simp
 ·intro i h1 h2;simp
theorem MQ (m:Nat) (p:Nat->Bool):(fX m p).map Fin.val=(cI m).filter p:=by
 rw[←MP,List.filter_map]
 rfl
theorem wR {β:Type} (m:Nat) (p:Nat->Bool) (f:Nat->β):((fX m p).map fun x=>f x.1)=((cI m).filter p).map f:=by
 rw[←MQ,iX]
 rfl
theorem MR (m:Nat) (p:Nat->Bool):(fX m p).length<=m:=by
 have:=List.length_filter_le (fun i:Fin m=>p i.1) (iH m);rw[List.length_finRange]at this;exact this
def bE (now:List (List Int)) (k:Nat):List Int:=now[k]?.getD []
def dW (x:Nat×List ak):List ak:=ab ac (x.1:Int)::x.2
def bU (l:cH):List (List ak):=l.map dW
def fY (H:Nat) (now:List (List Int)) {m:Nat} (xs:List (Fin m)):cH:=xs.map fun x=>(H+x.1,aw (ex x.1 (bE now x.1)).bytes)
def jT (was now:List (List Int)) (k:Nat):Bool:=decide (now[k]? ≠was[k]?)
theorem MT (was now:List (List Int)):mZ was now=(fX now.length (jT was now)).map fun x=>(⟨(x.1:Int),bE now x.1⟩:Img):=by
 rw[wR now.length (jT was now) fun k=>(⟨(k:Int),bE now k⟩:Img)]
 rfl
theorem lX (b:List Int):(aX b).length=dt b:=by simp[aX]
theorem Cz (b:List Int) {k:Nat} (h:k<dt b):bE (aX b) k=cT b k:=by unfold bE;rw[qJ b h];rfl
theorem MU (M:MS) (h:dt M.b=M.g.P):M.homW=fY M.g.H (aX M.b) (fX (aX M.b).length (jT M.home (aX M.b))):=by
 unfold MS.homW fY;rw[wR (aX M.b).length (jT M.home (aX M.b)) fun k=>(M.g.H+k,aw (ex k (bE (aX M.b) k)).bytes),lX,h];refine List.map_congr_left fun k hk=> ?_;have hk':=dJ.1 (lH.1 hk).1;rw[Cz M.b (by omega)]
theorem MV (g:Geo) (b:List Int) (h:dt b=g.P):((cI g.P).map fun i=>(g.H+i,aw (ex i (cT b i)).bytes))=fY g.H (aX b) (fX (aX b).length fun _=>true):=by
 unfold fY;rw[wR (aX b).length (fun _=>true) fun k=>(g.H+k,aw (ex k (bE (aX b) k)).bytes),lX,h];rw[show(cI g.P).filter (fun _=>true)=cI g.P from List.filter_eq_self.2 fun _ _=>rfl];refine List.map_congr_left fun k hk=> ?_;rw[Cz b (by have:=dJ.1 hk;omega)]
theorem MW (b:List Int):rows b (dt b)=(aX b).map aw:=by
 unfold rows aX;rw[iX]
 rfl
theorem tm {b:List Int} (hb:aP b):∀x ∈ aX b,x.length=48/\aP x:=by
 intro x hx;unfold aX at hx;obtain⟨k,_,rfl⟩:=cM.1 hx;exact⟨ll b k,mH hb k⟩
theorem MX (F n:Nat):((cI (n+1)).map fun i=>(F+i,bf 0))=((cI n).map fun i=>(F+i,bf 0))++ [(F+n,bf 0)]:=by
 rw[List.range_succ,ec]
 rfl
theorem CA (now:List (List Int)) (ts:List (List Img)):fo now ts=ts.flatten.foldl eO now:=by
 unfold fo;rw[List.foldl_flatten]
 rfl
theorem MY (ts:List (List Img)) (t:List Img):eP (ts++ [t])=eP ts+(t.length+1):=by
 unfold eP;rw[ec,List.sum_append];simp
def gZ:List ak:=ab ac 0::bf 0
theorem tp:gZ.toArray.size=65:=by simp[gZ,bf]
theorem nb {x:Nat×List ak} (h:x.2.length=64):(dW x).length=65:=by simp[dW,h]
theorem qK {x:Nat×List ak} (h:cz x.2):∀v ∈ dW x,v.oneCell'=true:=by
 intro v hv;unfold dW at hv;rcases dy.1 hv with rfl | hv
 ·rfl
 ·exact h.one v hv
section
theorem wS:(aj.info? 207).map (·.size)=some 65:=by kernel_rfl
theorem wT:(aj.info? 207).map (fun i=>(i.zero,i.size,i.bytes))=some (some (al gZ.toArray),65,72):=by kernel_rfl
theorem gH (w:ah):(zeroValue 207).run aj w=.ok (al gZ.toArray) w:=by kernel_rfl
set_option maxRecDepth 100000 in
theorem CC {w:ah} {b o:Nat} {c:List ak} (hc:w.rangeAt b o c) (h:c.length=65):(aE 207 ⟨b,o,none⟩).run aj w=.ok (al c.toArray) w:=
 jF w b o _ c _ hc Tryz.underlying207 rfl (by rw[h];exact wS)
theorem MZ {w:ah} {c:Array ak} {c':List ak} (h:c.size=65) (h':c'.length=65) (h1:∀v ∈ c',v.oneCell'=true):(aL 207 ⟨w.heap.size,0,none⟩ (al c'.toArray)).run aj (w.alloc (an c 207))=.ok () (w.alloc (an c'.toArray 207)):=
 kQ w _ c c'.toArray (by simpa [h']using wS) (by simpa [h']using h) (ky h1)
def tr:Nat->Option (Nat×Nat):=fun i=>(#[(0,1),(1,64)]:Array (Nat×Nat))[i]?
theorem Na (i:Int) (c:List ak) (hc:c.length=64):ir tr gZ.toArray [(0,ab ac i),(1,al c.toArray)]=some (Value.int ac i::c).toArray:=by
 have h3:ir tr gZ.toArray [(0,ab ac i),(1,al c.toArray)]=ir tr (gZ.set 0 (ab ac i)).toArray [(1,al c.toArray)]:=rfl;have hz:(gZ.set 0 (ab ac i)).toArray.size=65:=by simp[gZ,bf]
 rw[h3];have p3:tr 1=some (1,64):=rfl;simp only[ir,p3,Value.cells];refine(if_neg ?_).trans ?_
 ·intro h;rcases Bool.or_eq_true_iff.1 h with h | h
  ·exact(of_decide_eq_true h) (by simpa using hc)
  ·have h':1+c.toArray.size>(gZ.set 0 (ab ac i)).toArray.size:=of_decide_eq_true h;rw[hz,cJ,hc]at h';omega
 congr 1
 rw[←Array.foldl_toList,Array.toList_zipIdx,vH];apply Array.ext_getElem?;intro j;rw[so c 1 _ j (by rw[hz,hc];omega)]
 match j with
 | 0=>rfl
 | j+1=>
  by_cases hj:j<64
  ·rw[if_pos (by omega)];simp
  ·rw[if_neg (by omega),Array.getElem?_eq_none (by omega)];simp;omega
theorem CD (i:Int) (c:List ak) (hc:c.length=64) (w:ah):
  (df 207 #[(0,ab ac i),(1,al c.toArray)]).run aj w=.ok (al (Value.int ac i::c).toArray) w:=
 run_build w _ _ _ (Na i c hc)
theorem Nb (i:Int) (w:ah):(df 207 #[(0,ab ac i)]).run aj w=.ok (al (Value.int ac i::bf 0).toArray) w:=by kernel_rfl
theorem tt (w:ah) (b:List ak) (h:b.length=65):(dh 199 1 #[(0,al b.toArray)]).run aj w=.ok (af (some ⟨w.heap.size,0,none⟩) 1 1) (w.alloc (an b.toArray 207)):=by
 have e:(b.zipIdx.foldl (fun cs (x:ak×Nat)=>cs.setIfInBounds (0+x.2) x.1) ((Array.range 65).map (gZ.toArray[·%gZ.toArray.size]!)))=b.toArray:=sp b _ (by simp[h]);have e2:b.toArray.zipIdx.foldl (fun cs (x:ak×Nat)=>cs.setIfInBounds (0+x.2) x.1) ((Array.range 65).map (gZ.toArray[·%gZ.toArray.size]!))=b.toArray:=by
  rw[←Array.foldl_toList,Array.toList_zipIdx];exact e
 obtain⟨i0,hi,hz0,hz1,hz2⟩:=fy wT;refine run_buildSlice (P:=aj) w 199 207 1 _ b.toArray i0 (al gZ.toArray) (by kernel_rfl) hi hz0 (by rw[hz1];decide) (by rw[hz1];decide) ?_;rw[hz1];show ir _ _ [(0,Value.agg b.toArray)]=_;simp only[ir];rw[if_neg (by simp[Value.cells,h])]
 congr 1
set_option maxRecDepth 100000 in
theorem CE (N:Nat) (w:ah) (v:ak) (vs:List (List ak)) (b:List ak) (B:Nat) (hown:w.ownsRow N 207 65 v vs.length vs.flatten) (hb:b.length=65) (h1:∀u ∈ b,u.oneCell'=true) (hB:w.rangeAt B 0 b) (hlen:vs.length<=1000000) (hN:N<=w.heap.size):
  ∃v' w',(Builtin.append_ #[199, 199] 199 #[v,af (some ⟨B,0,none⟩) 1 1]).run aj w=.ok v' w'/\w'.ownsRow N 207 65 v' (vs++ [b]).length (vs++ [b]).flatten/\w.grownBy w' v.ownBlock/\(v'.ownBlock=v.ownBlock\/v'.ownBlock=some w.heap.size):=by
 obtain⟨i0,hi,hz0,hz1,hz2⟩:=fy wT;obtain⟨v',w',hr,h1,h2,_,h3⟩:=run_append_own_at (P:=aj) w N 199 199 207 i0 (al gZ.toArray) 65 72 Tryz.underlying199 hi hz0 hz1 hz2 tp (by omega) v vs.length vs.flatten hown
  ⟨B,0,none⟩ 1 1 b (by rw[hb]) (fun j u hj=>by have:=hB j u hj;rwa [Addr.add_mid]) h1 (by unfold aY;omega) (by omega) hN
 exact⟨v',w',hr,by simpa using h1,h2,h3⟩
set_option maxRecDepth 100000 in
theorem Nc (N:Nat) (w:ah) (v u:ak) (vs us:List (List ak)) (hown:w.ownsRow N 207 65 v vs.length vs.flatten) (hu:w.ownsRow 0 207 65 u us.length us.flatten) (hok:∀x ∈ us,∀y ∈ x,y.oneCell'=true) (hlen:vs.length+us.length<=1000000) (hN:N<=w.heap.size):
  ∃v' w',(Builtin.append_ #[199, 199] 199 #[v,u]).run aj w=.ok v' w'/\w'.ownsRow N 207 65 v' (vs++us).length (vs++us).flatten/\w.grownBy w' v.ownBlock/\(v'.ownBlock=v.ownBlock\/v'.ownBlock=some w.heap.size):=by
 obtain⟨i0,hi,hz0,hz1,hz2⟩:=fy wT;rcases hu.2 with⟨rfl,h0⟩ | ⟨g,cap,cur,rfl,_⟩
 ·obtain rfl:=ka h0;exact⟨v,w,run_append_owned_none (P:=aj) (w:=w) N 199 199 207 i0 65 Tryz.underlying199 hi v vs.length _ hown,by simpa using hown,World.grownBy.refl _ _,aA rfl⟩
 ·obtain⟨v',w',hr,h1,h2,_,h3⟩:=run_append_own_at (P:=aj) w N 199 199 207 i0 (al gZ.toArray) 65 72 Tryz.underlying199 hi hz0 hz1 hz2 tp (by omega) v vs.length vs.flatten hown
   ⟨g,0,none⟩ us.length cap us.flatten hu.1 (hu.cells rfl) (fun x hx=>by obtain⟨y,hy,hxy⟩:=List.mem_flatten.1 hx;exact hok y hy x hxy) (by unfold aY;omega) (by omega) hN
  exact⟨v',w',hr,by simpa using h1,h2,h3⟩
end
def iB (eS eI:aR) (x:ah) (N:Nat) (v:ak) (ts:List (List Img)):Prop:=
 ∃vs:List ak,vs.length=ts.length/\x.ownsRow N eS 1 v vs.length vs/\∀(i:Nat) (u:ak) (t:List Img),vs[i]? =some u->ts[i]? =some t->x.ownsRow N eI 49 u t.length (cL t).flatten
theorem iB.below {eS eI:aR} {x y:ah} {N:Nat} {v:ak} {ts:List (List Img)} (h:iB eS eI x N v ts) (hb:ag x.heap.size x y):iB eS eI y N v ts:=by
 obtain⟨vs,h1,h2,h3⟩:=h;exact⟨vs,h1,dQ h2 hb,fun i u t hu ht=>dQ (h3 i u t hu ht) hb⟩
theorem iB.grownC {eS eI:aR} {x y:ah} {N B:Nat} {v:ak} {ts:List (List Img)} {C:List ak} {t:aR} (h:iB eS eI x N v ts) (hB:aq x B t C) (h1:eS≠t) (h2:eI≠t) (hg:x.grownBy y (some B)):iB eS eI y N v ts:=by
 obtain⟨vs,g1,g2,g3⟩:=h;exact⟨vs,g1,g2.kept hg (aD (fz g2 hB h1)),fun i w t hw ht=>(g3 i w t hw ht).kept hg (aD (fz (g3 i w t hw ht) hB h2))⟩
theorem Nd:(aj.info? 223).map (fun i=>(i.zero,i.size,i.bytes))=some (some (af none 0 0),1,24):=by kernel_rfl
theorem Nf (w:ah) (a:Option aF) (n c:Nat):(dh 242 1 #[(0,af a n c)]).run aj w=.ok (af (some ⟨w.heap.size,0,none⟩) 1 1) (w.alloc (an #[af a n c] 223)):=by kernel_rfl
end
section
attribute [-simp] isAgg51 zeroValue51 isAgg205 zeroValue205 isAgg254 zeroValue254 isAgg232 zeroValue232
attribute [-go_sem] aE aL cS
attribute [local go_sem] bC bD dz nZ mW oc zJ zK
theorem Ng {w:ah} {g:Nat} {t:List Img} (hg:w.rangeAt g 0 (cL t).flatten) (hok:∀x ∈ t,x.Ok) {k:Nat} {x:Img} (hx:t[k]? =some x):w.rangeAt g (k*49) x.cells:=by
 rw[Nat.mul_comm];have hl:∀(t:List Img),(∀x ∈ t,x.Ok)->(cL t).flatten.length=49*t.length:=fun t=>by
  induction t with
  | nil=>intro _;rfl
  | cons y t ih=>
   intro h;show(y.cells++(cL t).flatten).length=_;rw[cE,ih (fun x hx=>h x (ea _ hx)),Img.cells_length (h y dC).len,bz];omega
 obtain⟨hk,e⟩:=bZ.1 hx;have e1:t=t.take k++x::t.drop (k+1):=by
  rw[←e,←List.drop_eq_getElem_cons hk,lK]
 have e2:(cL t).flatten=(cL (t.take k)).flatten++(x.cells++(cL (t.drop (k+1))).flatten):=by
  conv=>lhs;rw[e1]
  unfold cL;rw[ec,lL]
  rfl
 have hl1:=hl (t.take k) (fun x hx=>hok x (jE hx));rw[dj,lJ (jt hk)]at hl1;intro j u hj;have hj':j<x.cells.length:=(bZ.1 hj).1;have:=hg (49*k+j) u (by
  rw[e2,fv (by omega),hl1,show 49*k+j - 49*k=j by omega,fS hj'];exact hj)
 rwa [dP]at this
end
section
attribute [-simp] isAgg51 zeroValue51 isAgg205 zeroValue205 isAgg254 zeroValue254 isAgg232 zeroValue232
attribute [-go_sem] aE aL cS
attribute [local go_sem] bC bD dz nZ mW oc
theorem Nh (t:aR) (h:t≠ 51 /\t≠ 205 /\t≠ 254 /\t≠ 259) (a:aF):aE t a=(do if←isAgg t then pure (al (←loadCells a (←sizeOf t)))else load a):=rfl
theorem Ni (t:aR) (h:t≠ 51 /\t≠ 254 /\t≠ 259) (a:aF) (v:ak):aL t a v=(do
  if v.cells.size≠(←sizeOf t)then stuck "storeVar: the value has not the size of the variable"
  storeCells a v.cells.toList):=rfl
attribute [local go_sem] Nh Ni
theorem wU {x:ah} {N M e sz n:Nat} {v:ak} {xs:List ak} (h:x.ownsRow M e sz v n xs) (hN:N<=M):x.ownsRow N e sz v n xs:=by
 refine⟨h.1, ?_⟩;rcases h.2 with h' | ⟨g,cap,cur,rfl,a1,a2⟩
 ·exact aA h'
 ·exact aD ⟨g,cap,cur,rfl,bm hN a1,a2⟩
def lY (x:ah) (B:Nat):Nat:=match x.cell? ⟨B,0,none⟩with | some (af _ n _)=>n | _=>0
end
section
theorem qL (t:aR) (h:t≠ 51 /\t≠ 205 /\t≠ 254 /\t≠ 259 /\t≠ 232 /\t≠ 244 /\t≠ 226) (a:aF):aE t a=(do if←isAgg t then pure (al (←loadCells a (←sizeOf t)))else load a):=rfl
theorem qM (t:aR) (h:t≠ 51 /\t≠ 254 /\t≠ 259 /\t≠ 232 /\t≠ 244 /\t≠ 226) (a:aF) (v:ak):aL t a v=(do
  if v.cells.size≠(←sizeOf t)then stuck "storeVar: the value has not the size of the variable"
  storeCells a v.cells.toList):=rfl
attribute [-simp] isAgg51 zeroValue51 isAgg205 zeroValue205 isAgg254 zeroValue254 isAgg232 zeroValue232 isAgg226 zeroValue226
attribute [-go_sem] aE aL cS
attribute [local go_sem] bC bD dz nZ mW oc ew qL qM
end
section
attribute [-go_sem] aE aL cS
attribute [local go_sem] qL qM
def CF (ps:List (Int×Int)) (most:Int):Prop:=(∀p ∈ ps,0<=p.1/\p.1<=65535)/\1<=ps.length/\(ps.length:Int)<=most
instance (ps:List (Int×Int)) (most:Int):Decidable (CF ps most):=by unfold CF;infer_instance
end
section
attribute [-simp] isAgg51 zeroValue51 isAgg205 zeroValue205 isAgg254 zeroValue254 isAgg232 zeroValue232 isAgg226 zeroValue226
attribute [-go_sem] aE aL cS
attribute [local go_sem] bC bD dz nZ mW oc ew qL qM
def low (n:Int):Int:=n%256
theorem tw {P:Program} {C:ah->Prop} {ops:Array Oper} {rest:List Oper} {o:Oper} {a:Act} {Q:Act->Prop} (t:aR) (parts:Array (Nat×Operand))
  (ho:o.op=.build t parts) (hw:Region.wanted o (yielded ops a.tmps)=true) (vs:List (Nat×ak)) (v':ak) (hs:(parts.toList.map fun(i,x)=>(i,a.eval x))=vs)
  (hrun:∀x,C x->(df t vs.toArray).run P x=.ok v' x) (h:wpQuiet P ops C Q rest (a.put o.dst v')):wpQuiet P ops C Q (o::rest) a:=by
 unfold wpQuiet;rw[if_pos hw];refine⟨v',fun x hx=> ?_,h⟩;have hs':(parts.map fun(i,x)=>(i,a.eval x))=vs.toArray:=by
  apply Array.toList_inj.1;rw[Array.toList_map,hs]
 unfold Oper.quietAt;simp only[execOp,ho,gK,hs',hrun x hx,ek,Sem.run_pure];exact⟨rfl,rfl⟩
def eQ (v:ak) (a:Nat) (q:Int):List ak:= [v,ab ac (a:Int),ab aO q]
theorem iB.at {eS eI:aR} {x:ah} {N:Nat} {v:ak} {ts:List (List Img)} (h:iB eS eI x N v ts):∃ra c,v=af ra ts.length c/\∀(i:Nat) (t:List Img),ts[i]? =some t->
  ∃g,ra=some ⟨g,0,none⟩/\g<x.heap.size/\∃rb d,x.cell? ⟨g,i,none⟩=some (af rb t.length d)/\(0<t.length->∃b,rb=some ⟨b,0,none⟩/\b<x.heap.size/\x.rangeAt b 0 (cL t).flatten):=by
 obtain⟨vs,h1,h2,h3⟩:=h;obtain⟨ra,c,rfl,hr⟩:=ke h2;refine⟨ra,c,by rw[h1],fun i t ht=> ?_⟩;have hi:i<vs.length:=by rw[h1];exact(bZ.1 ht).1
 obtain⟨g,rfl,hg,hc⟩:=hr (by omega);have hu:=aZ hi;obtain⟨rb,d,hv,hb⟩:=ke (h3 i _ t hu ht);have:=hc i _ hu;rw[dP,hv]at this;exact⟨g,rfl,hg,rb,d,this,hb⟩
end
section
structure RingOk:Prop where
 replay:∀{rb p0 p1:Nat} {S:RS} {w:ah} {f:Nat->Prop},aU rb p0 p1 S w f->S.Byt->S.down=false->∀{F C A:Nat},2<=C->C<=256->F+C<=S.n0->A<C->S.n0<=4096->∀{seq:Int},dx seq->
  ap aj 158 #[am (some ⟨rb,0,none⟩),ab ac (F:Int),ab ac (C:Int),ab ac (A:Int),ab aO seq] w fun e w'=>
   (∃v,e=ao (aQ #[al (eQ v (eh S.rd F C A seq).2.1 (eh S.rd F C A seq).2.2).toArray,ab ac 0])/\iB 223 226 w' w.heap.size v (eh S.rd F C A seq).1)/\ag w.heap.size w w'
 replay_no:∀{rb p0 p1:Nat} {S:RS} {w:ah} {f:Nat->Prop},aU rb p0 p1 S w f->S.n0<=4096->∀{frm count at0 seq:Int},lz S.n0 frm count at0=false->
  ap aj 158 #[am (some ⟨rb,0,none⟩),ab ac frm,ab ac count,ab ac at0,ab aO seq] w fun e w'=>e=ao (aQ #[al (eQ (af none 0 0) 0 0).toArray,ab ac 1])/\ag w.heap.size w w'
 replay_nil:∀(frm count at0 seq:Int) (w:ah),
  ap aj 158 #[am none,ab ac frm,ab ac count,ab ac at0,ab aO seq] w fun e w'=>e=ao (aQ #[al (eQ (af none 0 0) 0 0).toArray,ab ac 1])/\ag w.heap.size w w'
 append:∀{rb p0 p1:Nat} {S:RS} {w:ah} {f:Nat->Prop},aU rb p0 p1 S w f->S.fuse<=1000000->0<=S.done->S.done<=900000->S.Few 250->∀{F C A:Nat},2<=C->C<=256->F+C<=S.n0->A<C->S.n0<=4096->∀{seq:Int},dx seq->
  ∀{t:List Img},TxnOk C t->∀{g c:Nat},w.rangeAt g 0 (cL t).flatten->g<w.heap.size->¬f g->
  ap aj 146 #[am (some ⟨rb,0,none⟩),ab ac (F:Int),ab ac (C:Int),ab ac (A:Int),ab aO seq,af (some ⟨g,0,none⟩) t.length c] w fun e w'=>
   e=ao (aQ #[ab ac (if(S.app F C A seq t).2=0 then(((A+t.length+1)%C:Nat):Int)else 0),ab ac (S.app F C A seq t).2])/\∃f',aU rb p0 p1 (S.app F C A seq t).1 w' f'/\Turn f f' w w'
 append_no:∀{rb p0 p1:Nat} {S:RS} {w:ah} {f:Nat->Prop},aU rb p0 p1 S w f->S.n0<=4096->∀{frm count at0 seq:Int},lz S.n0 frm count at0=false->∀{a:Option aF} {n c:Nat},n<=1000000->
  ap aj 146 #[am (some ⟨rb,0,none⟩),ab ac frm,ab ac count,ab ac at0,ab aO seq,af a n c] w fun e w'=>e=ao (aQ #[ab ac 0,ab ac 1])/\ag w.heap.size w w'
 append_nil:∀(frm count at0 seq:Int) (w:ah) {a:Option aF} {n c:Nat},n<=1000000->
  ap aj 146 #[am none,ab ac frm,ab ac count,ab ac at0,ab aO seq,af a n c] w fun e w'=>e=ao (aQ #[ab ac 0,ab ac 1])/\ag w.heap.size w w'
 append_long:∀{rb p0 p1:Nat} {S:RS} {w:ah} {f:Nat->Prop},aU rb p0 p1 S w f->S.n0<=4096->∀{F C A:Nat},2<=C->C<=256->F+C<=S.n0->A<C->∀{seq:Int} {a:Option aF} {n c:Nat},(n<1\/C<n+1)->n<=1000000->
  ap aj 146 #[am (some ⟨rb,0,none⟩),ab ac (F:Int),ab ac (C:Int),ab ac (A:Int),ab aO seq,af a n c] w fun e w'=>e=ao (aQ #[ab ac 0,ab ac 2])/\ag w.heap.size w w'
 append_bad:∀{rb p0 p1:Nat} {S:RS} {w:ah} {f:Nat->Prop},aU rb p0 p1 S w f->S.n0<=4096->∀{F C A:Nat},2<=C->C<=256->F+C<=S.n0->A<C->∀{seq:Int},dx seq->∀{t:List Img},1<=t.length->t.length+1<=C->(∀x ∈ t,x.Ok)->(¬∀x ∈ t,x.fits)->∀{g c:Nat},w.rangeAt g 0 (cL t).flatten->g<w.heap.size->
  ap aj 146 #[am (some ⟨rb,0,none⟩),ab ac (F:Int),ab ac (C:Int),ab ac (A:Int),ab aO seq,af (some ⟨g,0,none⟩) t.length c] w fun e w'=>e=ao (aQ #[ab ac 0,ab ac 1])/\ag w.heap.size w w'
end
section
attribute [-simp] isAgg51 zeroValue51
attribute [-go_sem] aE aL
attribute [local go_sem] bC bD fe ez
theorem CG (dev:Int) (w:ah):ap aj 167 #[am none,ab ac dev] w fun e w'=>e=ao (ab ac 0)/\ag w.heap.size w w':=by
 have H1:=ae (sY dev w);go_enter func167,ntmps167;go_wp2_with fail;refine H1.out.mono ?_;rintro e x1 ⟨rfl,hb⟩;have HB:=ae hb;clear hb;go_wp2_with fail;refine(vY x1).mono ?_;rintro e w' ⟨rfl,rfl⟩;go_wp2_with fail;go_ret;exact⟨rfl,HB.out⟩
theorem Nj (dev:Int) (w:ah):ap aj 81 #[am none,ab ac dev] w fun e w'=>e=ao (ab ac 1)/\ag w.heap.size w w':=by
 have H1:=ae (sY dev w);go_enter func81,ntmps81;go_wp2_with fail;refine H1.out.mono ?_;rintro e x1 ⟨rfl,hb⟩;have HB:=ae hb;clear hb;go_wp2_with fail;go_ret;exact⟨rfl,HB.out⟩
theorem CH (i:Int) (w:ah):ap aj 150 #[am none,ab ac i] w fun e w'=>e=ao (.bool false)/\w'=w:=by
 have:=BL none 0 i w (vY w)
 rwa [show decide (0<=i/\i< ((0:Nat):Int))=false by simp]at this
theorem Nk (dev i:Int) (b:List ak) (w:ah):ap aj 63 #[am none,ab ac dev,ab ac i,al b.toArray] w fun e w'=>e=ao (ab ac 1)/\ag w.heap.size w w':=by
 obtain⟨W,hW⟩:=w9nm (w.alloc (an b.toArray 51));have HB0:Hid (ag w.heap.size w W):=by rw[←hW];exact(aI _ w).alloc (aG _) _
 have H1:=ae (sY dev W);go_enter func63,ntmps63;go_wp2_with (with_reducible (rw[hW];clear hW));refine H1.out.mono ?_;rintro e x1 ⟨rfl,hb⟩;have HB:=ae hb;clear hb;go_wp2_with fail;refine(CH i x1).mono ?_;rintro e w' ⟨rfl,hx⟩;obtain rfl:=hx.symm;clear hx;go_wp2_with fail;go_ret;exact⟨rfl,HB0.out.trans (HB.out.mono HB0.out.size)⟩
theorem CI (dev i:Int) (w:ah):ap aj 72 #[am none,ab ac dev,ab ac i] w fun e w'=>e=ao (aQ #[al (bf 0).toArray,ab ac 1])/\ag w.heap.size w w':=by
 obtain⟨W,hW⟩:=w9nm (w.alloc (an cF 51));have HB0:Hid (ag w.heap.size w W):=by rw[←hW];exact(aI _ w).alloc (aG _) _
 have K:Hid (W.heap[w.heap.size]? =some (an cF 51 (0,0))/\w.heap.size<W.heap.size):=by rw[←hW];exact⟨cD w _,by simp⟩
 have H1:=ae (sY dev W);go_enter func72,ntmps72;go_wp2_with (with_reducible (rw[hW];clear hW));refine H1.out.mono ?_;rintro e x1 ⟨rfl,hb⟩;have HB:=ae hb;clear hb;go_wp2_with fail;refine(CH i x1).mono ?_;rintro e w' ⟨rfl,hx⟩;obtain rfl:=hx.symm;clear hx;obtain⟨x2,st,ld,hb2⟩:=nW ((HB.out.block _ K.out.2).trans K.out.1) gk (HB0.out.trans (HB.out.mono HB0.out.size)) (eV 0);have st':(aL 51 ⟨w.heap.size,0,none⟩ (al cF)).run aj x1=.ok () x2:=st;have HB2:=ae hb2;clear st hb2;go_wp2_with fail;exact bo (eH rfl rfl ld) rfl ⟨rfl,HB2.out⟩
end
section
attribute [-simp] isAgg51 zeroValue51 isAgg205 zeroValue205 isAgg304 zeroValue304 isAgg226 zeroValue226
attribute [-go_sem] aE aL cS
attribute [local go_sem] bC bD dz eK eL eM ew sy sB
theorem CJ {F C P:Nat} (hC:1<=C) (hC2:C<=256) (hF:F<=4096) (hP:P<=1000000) (w:ah):
  ap aj 233 #[ab ac (F:Int),ab ac (C:Int),ab ac (P:Int)] w fun e w'=>e=ao (ab ac ((F+P%C:Nat):Int))/\w'=w:=by
 have hz:¬((C:Int)=0):=by omega
 obtain⟨i,hi⟩:=w9nm (F+P%C);have hii:(F:Int)+(P:Int)%(C:Int)=(i:Int):=by rw[←hi];simp
 have hi4:(i:Int)<5000:=by have:=iI P (show 0<C by omega);omega
 rw[hi];clear hi;go_enter func233,ntmps233;go_wp2_with fail;go_ret;exact⟨rfl,rfl⟩
theorem Nl (p:Sct) (hp:p.body.length=48) (seq:Int) (w:ah):
  ap aj 234 #[al p.cells.toArray,ab aO seq] w fun e w'=>e=ao (.bool (p.mark==73&&p.seq==seq))/\ag w.heap.size w w':=by
 obtain⟨W,hW⟩:=w9nm (w.alloc (an p.cells.toArray 304));have r:aq W w.heap.size 304 p.cells:=by rw[←hW];exact aq.new w _ _
 have c0:W.cell? ⟨w.heap.size,0,none⟩=some (ab ay p.mark):=r.cell 0 _ rfl;have c1:W.cell? ⟨w.heap.size,1,none⟩=some (ab aO p.seq):=r.cell 1 _ rfl;have HB:Hid (ag w.heap.size w W):=by show ag _ _ _;rw[←hW];exact aH w _
 obtain⟨mk,hmk⟩:=w9nm p.mark;obtain⟨sq,hsq⟩:=w9nm p.seq;rw[hmk]at c0 ⊢;rw[hsq]at c1 ⊢;clear r hmk hsq;go_enter func234,ntmps234;go_wp2_with fail;all_goals
  go_ret;first | exact⟨rfl,HB.out⟩ | (refine⟨?_,HB.out⟩;simp_all)
theorem CK (seq:Int) (n:Nat) (w:ah):
  ap aj 235 #[ab aO seq,ab ac (n:Int)] w fun e w'=>e=ao (al (dI seq n).cells.toArray)/\ag w.heap.size w w':=by
 obtain⟨y,ST,r,hb⟩:=qj w (dI seq n) (by simp[dI]);have LD:=r.pg (by simp[dI]);have e1:(dI seq n).cells.toArray=(((dF.set 0 (ab ay 67)).set 1 (ab aO seq)).set 2 (ab ac (n:Int))).toArray:=rfl;have HB:=ae hb;rw[e1]at ST;clear r hb;go_enter func235,ntmps235;go_wp2_with fail;refine bo (ev rfl rfl LD) rfl ⟨rfl,HB.out⟩
theorem wV {v:ak} {n:Nat} (hn:n<=4096) (frm count at0:Int) (w:ah)
  (HL:ap aj 167 #[v,ab ac 0] w fun e w'=>e=ao (ab ac (n:Int))/\ag w.heap.size w w'):
  ap aj 221 #[v,ab ac frm,ab ac count,ab ac at0] w fun e w'=>e=ao (.bool (lz n frm count at0))/\ag w.heap.size w w':=by
 have H:=ae HL;clear HL;have HM:Hid (lz n frm count at0=decide (0<=frm/\2<=count/\count<=256/\frm<=n/\count<=n - frm/\0<=at0/\at0<count)):=rfl;by_cases h1:count<2
 ·go_enter func221,ntmps221;go_wp2_with fail;all_goals
   go_ret;refine⟨?_,aI _ _⟩;rw[HM.out,decide_eq_false (by omega)];rfl
 ·by_cases h2:256<count
  ·go_enter func221,ntmps221;go_wp2_with fail;all_goals
    go_ret;refine⟨?_,aI _ _⟩;rw[HM.out,decide_eq_false (by omega)];rfl
  ·have g1:decide (count<2)=false:=by simpa using h1
   have g2:decide (256<count)=false:=by simpa using h2
   have g3:decide (count>256)=false:=g2;by_cases h3:0<=frm
   ·have g4:decide (0<=frm)=true:=by simpa using h3
    have g5:decide (frm≥0)=true:=g4;go_enter func221,ntmps221;go_wp2_with fail;go_at_call 167;refine H.out.mono ?_;rintro e x ⟨rfl,hb⟩;have HB:=ae hb;clear hb;go_wp2_with fail;all_goals
     go_ret;refine⟨?_,HB.out⟩;rw[HM.out];first
      | (rw[decide_eq_false (by omega)];rfl)
      | (rw[decide_eq_true (by omega)];rfl)
      | (refine congrArg (fun b=>Ending.returned (Value.bool b)) ?_;simp only[decide_eq_decide];omega)
   ·have g4:decide (0<=frm)=false:=by simpa using h3
    have g5:decide (frm≥0)=false:=g4;go_enter func221,ntmps221;go_wp2_with fail;all_goals
     go_ret;refine⟨?_,aI _ _⟩;rw[HM.out,decide_eq_false (by omega)];rfl
theorem qN {s:Nat}:∀{L:List (List ak)},(∀x ∈ L,x.length=s)->L.flatten.length=L.length*s
 | [],_=>by simp
 | y::L,h=>by
  rw[kN,cE,qN (fun x hx=>h x (ea _ hx)),h y dC,bz,Nat.succ_mul];omega
theorem qO {w:ah} {g o s:Nat} {L:List (List ak)} (hl:∀x ∈ L,x.length=s) (hg:w.rangeAt g o L.flatten) {k:Nat} {x:List ak} (hx:L[k]? =some x):w.rangeAt g (o+k*s) x:=by
 obtain⟨hk,e⟩:=bZ.1 hx;have e1:L=L.take k++x::L.drop (k+1):=by rw[←e,←List.drop_eq_getElem_cons hk,lK]
 have e2:L.flatten=(L.take k).flatten++(x++(L.drop (k+1)).flatten):=by
  conv=>lhs;rw[e1]
  rw[lL]
  rfl
 have hl1:=qN (L:=L.take k) (fun x hx=>hl x (jE hx));rw[dj,lJ (jt hk)]at hl1;intro j u hj;have hj':j<x.length:=(bZ.1 hj).1;have:=hg (k*s+j) u (by
  rw[e2,fv (by omega),hl1,show k*s+j - k*s=j by omega,fS hj'];exact hj)
 rwa [show o+(k*s+j)=o+k*s+j by omega]at this
theorem Nm {w:ah} {g o:Nat} {L:List (List Int)} (hl:∀b ∈ L,b.length=64) (hg:w.rangeAt g o (L.map aw).flatten) {k:Nat} {b:List Int} (hx:L[k]? =some b):w.rangeAt g (o+k*64) (aw b):=
 qO (s:=64) (fun x hx=>by obtain⟨y,hy,rfl⟩:=cM.1 hx;rw[cw];exact hl y hy) hg (by rw[dY,hx];rfl)
theorem CM {rb p0 p1:Nat} {S:RS} {w:ah} {f:Nat->Prop} (h:aU rb p0 p1 S w f) (hfu:S.fuse<=2000000) (hd:0<=S.done/\S.done<=950000) {m:Nat} (hf:S.Few m) (hm:m<=253) {F C P:Nat} (hC1:1<=C) (hC:C<=256) (hF:F+C<=S.n0) (hn:S.n0<=4096) (hP:P<=100000) {L:List (List Int)} (hL:∀b ∈ L,b.length=64) (hl:L.length<=C) {g o c:Nat} (hg:w.rangeAt g o (L.map aw).flatten) (hgl:g<w.heap.size) (hgf:¬f g):
  ap aj 223 #[am (some ⟨rb,0,none⟩),ab ac (F:Int),ab ac (C:Int),ab ac (P:Int),af (some ⟨g,o,none⟩) L.length c] w fun e w'=>e=ao (ab ac (S.st (dO F C P L)).2)/\∃f',aU rb p0 p1 (S.st (dO F C P L)).1 w' f'/\Turn f f' w w':=by
 obtain⟨T,hT⟩:∃T:Nat->RS×Bool,T=fun k=>S.wrs ((dO F C P L).take k):=⟨_,rfl⟩;have hT':∀k,T k=S.wrs ((dO F C P L).take k):=fun k=>by rw[hT]
 have hin:=Cy (L:=L) (P:=P) (C:=C) (by omega) hF;have hnd:=wQ (F:=F) (P:=P) hl;have hlen:=Cx F C P L;have HW:Hid (∀k,(T k).1.Fit/\(T k).1.Few 254/\(T k).1.n0=S.n0):=fun k=>by
  have h1:∀x ∈(dO F C P L).take k,x.1<S.n0:=fun x hx=>hin x (jE hx);obtain⟨w1,w2,w3⟩:=RS.wrs_way ((dO F C P L).take k) S;have hll:((dO F C P L).take k).length<=256:=by rw[dj,hlen];omega
  rw[hT' k];exact⟨RS.fit (by omega) (by omega) (by omega),(RS.wrs_few hf (by omega) h1 (List.Nodup.sublist (List.Sublist.map _ (List.take_sublist k _)) hnd)).mono (by omega),(S.wrs_spec _ h1).1.n0⟩
 have HS:Hid (∀k b,L[k]? =some b->(T k).2=true->T (k+1)=((T k).1.write 0 ((F+(P+k)%C:Nat):Int) (aw b),decide ((T k).1.writeE 0 ((F+(P+k)%C:Nat):Int)=0))):=fun k b hb ht=>by
  rw[hT']at ht;rw[hT',hT',jZ,wsAt_get?,hb];exact RS.wrs_last _ S _ _ ht
 have HF:Hid (∀k,(T k).2=false->(S.st (dO F C P L))=((T k).1,14)):=fun k hk=>by
  rw[hT']at hk ⊢;have e:=RS.wrs_stop ((dO F C P L).take k) ((dO F C P L).drop k) S hk;rw[lK]at e;unfold RS.st;rw[e,if_pos hk]
 have HE:Hid ((T L.length).2=true->(S.st (dO F C P L))=((T L.length).1.flush 0,(T L.length).1.flushE 0)):=fun hk=>by
  rw[hT',←hlen,List.take_length]at hk ⊢;unfold RS.st;rw[if_neg (by rw[hk];simp)]
 have H0:Hid (aU rb p0 p1 (T 0).1 w f/\(T 0).2=true):=by
  refine(?_:_/\_);rw[hT'];exact⟨h,rfl⟩
 obtain⟨res,hres⟩:=w9nm (S.st (dO F C P L));rw[hres]at HF HE ⊢;obtain⟨n,hnn⟩:=w9nm L.length;rw[hnn]at HE hl ⊢;have HNN:=ae hnn;have HL:=ae hL;have HG:=ae hg;have HGF:=ae hgf;have HFN:=ae hF;have hn255:n<=256:=by omega
 have hF4:F<=4096:=by omega
 clear h hT hT' hin hnd hlen hfu hd hf hm hL hg hgf hres hnn;go_enter func223,ntmps223;go_wp2_with fail;go_loopw [16] (fun i wr=>∃(k:Nat) (f':Nat->Prop),k<=n/\i=ab ac (k:Int)/\Hid ((T k).2=true)/\Hid (aU rb p0 p1 (T k).1 wr f')/\Hid (Turn f f' w wr)) (fun i _=>n - (aS i).toNat)
 case atStart=>exact⟨0,f,bc _,rfl,H0.out.2,H0.out.1,Turn.refl _ _⟩
 case round=>
  obtain⟨k,f1,hk,rfl,HK,HQ,HTU⟩:=hrel;have hmx:=w9x
  by_cases hlt:k<n
  ·have g3:decide ((k:Int)< (n:Int))=true:=by simpa using hlt
   obtain⟨b,hb⟩:∃b,L[k]? =some b:=⟨_,aZ (by rw[HNN.out];exact hlt)⟩;have hbl:cz (aw b):=gQ (HL.out b (dp hb));have hb64:(aw b).length=64:=by rw[cw];exact HL.out b (dp hb)
   have hg':=ij HG.out (HTU.out.out g hgl HGF.out);have LD:(aE 51 ⟨g,o+k*64,none⟩).run aj wr=.ok (al (aw b).toArray) wr:=gl (Nm HL.out hg' hb) hb64;obtain⟨x2,ST2,hr2,hb2⟩:=kE wr hbl;have LB:∀z:aM x2,(aE 51 ⟨wr.heap.size,0,none⟩).run aj z.1=.ok (al (aw b).toArray) z.1:=fun z=>(hr2.below z.2).blk hb64;have HSX:=HS.out k b hb HK.out;obtain⟨T2,hT2⟩:=w9nm (T (k+1));rw[hT2]at HSX;have hway:=HW.out k;have HQ2:=HQ.out.beside hb2;have HT2:Hid (Turn f f1 w x2):=HTU.out.trans (Turn.of_below hb2);have HBL:=ae hbl;have HT2':=ae hT2;have HSX':=ae HSX;have HWR:Hid (∀z:aM x2,ap aj 63 #[am (some ⟨rb,0,none⟩),ab ac 0,ab ac ((F+(P+k)%C:Nat):Int),al (aw b).toArray] z.1 fun e w'=>e=ao (ab ac ((T k).1.writeE 0 ((F+(P+k)%C:Nat):Int)))/\∃f',aU rb p0 p1 T2.1 w' f'/\Turn f1 f' z.1 w'):=fun z=>by
    have:=(HQ2.beside z.2).write hway.1 (hway.2.1.mono (by omega)) 0 ((F+(P+k)%C:Nat):Int) hbl;rw[HSX];exact this
   have HSEC:Hid (∀z:ah,ap aj 233 #[ab ac (F:Int),ab ac (C:Int),ab ac ((P:Int)+(k:Int))] z fun e w'=>e=ao (ab ac ((F+(P+k)%C:Nat):Int))/\w'=z):=fun z=>by
    have:=CJ (F:=F) (C:=C) (P:=P+k) hC1 hC hF4 (by omega) z
    rwa [Int.natCast_add]at this
   have hE:(T k).1.writeE 0 ((F+(P+k)%C:Nat):Int)=0\/(T k).1.writeE 0 ((F+(P+k)%C:Nat):Int)=14:=by
    have hi:F+(P+k)%C< (T k).1.n0:=by
     rw[hway.2.2];have:=iI (P+k) (show 0<C by omega);have:=HFN.out;omega
    rcases((T k).1.write0 hi (aw b)).2 with⟨_,e,_⟩ | ⟨_,e,_⟩
    ·exact aA e
    ·exact aD e
   obtain⟨we,hwe⟩:=w9nm ((T k).1.writeE 0 ((F+(P+k)%C:Nat):Int));rw[hwe]at HWR hE;have hsx2:T2.2=decide (we=0):=by rw[HSX,hwe]
   have HSX2:=ae hsx2;obtain⟨i,hi⟩:=w9nm (F+(P+k)%C);rw[hi]at HWR HSEC;clear hb hbl hb64 hg' hr2 HSX hway HQ2 hb2 hT2 HSX' hwe hsx2 hi;go_wp2_with fail;refine du (fun x=>∃y:aM x2,x=y.1) 8 (.takes [0,1,2,3,4,5,7] (.one 6 .leaf)) hmx (by kernel_rfl) (by intro c x v a w h;cases x<;>exact h) ⟨⟨x2.drew,(aI _ x2).drew⟩,rfl⟩ ?_;repeat(rw[bu];simp only[aB,aC];go_big_quiet_step (fail);refine aV ?_)
   rw[bt,aT];simp only[aB,aC];clear LB;obtain⟨X,hX⟩:=w9nm x2.drew;have hbX:ag x2.heap.size x2 X:=by rw[←hX];exact(aI _ x2).drew
   have HWX:Hid (ap aj 63 #[am (some ⟨rb,0,none⟩),ab ac 0,ab ac (i:Int),al (aw b).toArray] X fun e w'=>e=ao (ab ac we)/\∃f',aU rb p0 p1 T2.1 w' f'/\Turn f1 f' X w'):=HWR.out ⟨X,hbX⟩;have HT3:Hid (Turn f f1 w X):=HT2.out.trans (Turn.of_below hbX);have HBX:=ae hbX;rw[hX];clear hX hbX HWR HT2;go_wp2_with fail;go_at_call 233;refine(HSEC.out _).mono ?_;rintro e z ⟨rfl,hz⟩;obtain rfl:=hz.symm;clear HSEC;go_wp2_with fail;refine aN ⟨⟨X,HBX.out⟩,rfl⟩ ?_;rw[cW];simp only[bR,bQ];go_wp2_with fail;go_at_call 63;refine HWX.out.mono ?_;rintro e x5 ⟨rfl,f5,g1,g2⟩;have Q5:=ae g1;have T5:=ae (HT3.out.trans g2);clear g1 g2 HWX HT3;by_cases h0:we=0
   ·subst h0;have HK2:Hid ((T (k+1)).2=true):=by show _=_;rw[HT2'.out,HSX2.out];rfl
    have Q6:Hid (aU rb p0 p1 (T (k+1)).1 x5 f5):=by show aU _ _ _ _ _ _;rw[HT2'.out];exact Q5.out
    go_wp2_with fail;go_roundw
    case rel=>exact⟨k+1,f5,hlt,by go_num,HK2,Q6,T5⟩
    case measure=>simp[aS];omega
   ·obtain rfl:we=14:=hE.resolve_left h0;have HR:Hid (res=(T2.1,14)):=by
     show _=_;rw[←HT2'.out];exact HF.out (k+1) (by rw[HT2'.out,HSX2.out];rfl)
    go_wp2_with fail;go_ret;rw[HR.out];exact⟨rfl,f5,Q5.out,T5.out⟩
  ·have g3:decide ((k:Int)< (n:Int))=false:=by simpa using hlt
   obtain rfl:k=n:=by omega
   have hway:=HW.out k;have HFL:=ae (HQ.out.flush hway.1 0);have HR:=ae (HE.out HK.out);clear hway;go_wp2_with fail;go_at_call 81;refine HFL.out.mono ?_;rintro e x5 ⟨rfl,f5,g1,g2⟩;have Q5:=ae g1;have T5:=ae (HTU.out.trans g2);clear g1 g2 HFL;go_wp2_with fail;go_ret;rw[HR.out];exact⟨rfl,f5,Q5.out,T5.out⟩
end
section
theorem wW (t:aR) (h:t≠ 51 /\t≠ 304 /\t≠ 205 /\t≠ 226 /\t≠ 244) (a:aF):aE t a=(do if←isAgg t then pure (al (←loadCells a (←sizeOf t)))else load a):=rfl
theorem wX (t:aR) (h:t≠ 51 /\t≠ 304 /\t≠ 226 /\t≠ 244) (a:aF) (v:ak):aL t a v=(do
  if v.cells.size≠(←sizeOf t)then stuck "storeVar: the value has not the size of the variable"
  storeCells a v.cells.toList):=rfl
attribute [-simp] isAgg51 zeroValue51 isAgg205 zeroValue205 isAgg304 zeroValue304 isAgg226 zeroValue226
attribute [-go_sem] aE aL cS
attribute [local go_sem] bC bD dz eK eL eM ew wW wX
theorem CN (m s i:Int) (c:List ak) (hc:c.length=48) (w:ah):
  (df 304 #[(0,ab ay m),(1,ab aO s),(2,ab ac i),(3,al c.toArray)]).run aj w=.ok (al (Value.int ay m:: ab aO s:: ab ac i::c).toArray) w:=by
 refine run_build w _ _ _ ?_;have e:ir sH dF.toArray [(0,ab ay m),(1,ab aO s),(2,ab ac i),(3,al c.toArray)]=some (Value.int ay m:: ab aO s:: ab ac i::c).toArray:=by
  have h3:ir sH dF.toArray [(0,ab ay m),(1,ab aO s),(2,ab ac i),(3,al c.toArray)]=ir sH (((dF.set 0 (ab ay m)).set 1 (ab aO s)).set 2 (ab ac i)).toArray [(3,al c.toArray)]:=rfl;have hz:(((dF.set 0 (ab ay m)).set 1 (ab aO s)).set 2 (ab ac i)).toArray.size=51:=by simp[dF,aw]
  rw[h3];have p3:sH 3=some (3,48):=rfl;simp only[ir,p3,Value.cells];refine(if_neg ?_).trans ?_
  ·intro h;rcases Bool.or_eq_true_iff.1 h with h | h
   ·exact(of_decide_eq_true h) (by simpa using hc)
   ·have h':3+c.toArray.size>(((dF.set 0 (ab ay m)).set 1 (ab aO s)).set 2 (ab ac i)).toArray.size:=of_decide_eq_true h;rw[hz,cJ,hc]at h';omega
  congr 1
  rw[←Array.foldl_toList,Array.toList_zipIdx,vH];apply Array.ext_getElem?;intro j;rw[so c 3 _ j (by rw[hz,hc];omega)]
  match j with
  | 0=>rfl
  | 1=>rfl
  | 2=>rfl
  | j+3=>
   by_cases hj:j<48
   ·rw[if_pos (by omega)];simp
   ·rw[if_neg (by omega),Array.getElem?_eq_none (by omega)];simp;omega
 exact e
theorem CO (x:ah) (i:Img) (hi:i.body.length=48):∃y,(aL 226 ⟨x.heap.size,0,none⟩ (al i.cells.toArray)).run aj (x.alloc (an fF.toArray 226))=.ok () y/\aq y x.heap.size 226 i.cells/\ag x.heap.size x y:=
 ⟨_,Mm qH (Img.cells_length hi) (Img.cells_one i),aq.new x _ _,aH x _⟩
theorem Nn {x:ah} {B:Nat} {i:Img} {t:aR} (h:aq x B t i.cells) (hi:i.body.length=48):(aE 205 ⟨B,1,none⟩).run aj x=.ok (al (aw i.body).toArray) x:=
 nJ (oZ (a:= [ab ac i.index]) (b:=aw i.body) h) (by rw[cw,hi])
def jz (seq:Int) (t:List Img):List (List ak):=t.map fun x=>aw (eN seq x).bytes
theorem CQ (seq:Int) (t:List Img):(jz seq t).length=t.length:=by simp[jz]
theorem No (seq:Int) (t:List Img):(bG seq t).map aw=jz seq t++ [aw (dI seq t.length).bytes]:=by
 unfold bG jz;rw[ec,iX]
 rfl
theorem CR {w:ah} {t:List Img} (hn:t.length<=65535) (hok:∀x ∈ t,x.Ok) {seq:Int} (hs:dx seq) {g c:Nat} (hg:w.rangeAt g 0 (cL t).flatten) (hgl:g<w.heap.size):
  ap aj 222 #[ab aO seq,af (some ⟨g,0,none⟩) t.length c] w fun e w'=>
   ((∀x ∈ t,x.fits)->∃v,e=ao (aQ #[v,.bool true])/\w'.ownsRow w.heap.size 51 64 v ((bG seq t).map aw).length ((bG seq t).map aw).flatten)/\
   ((¬∀x ∈ t,x.fits)->e=ao (aQ #[af none 0 0,.bool false]))/\ag w.heap.size w w':=by
 obtain⟨n,hnn⟩:=w9nm t.length;have HNN:=ae hnn;have HOK:=ae hok;have HSQ:=ae hs;have HG:=ae hg;rw[hnn]at hn ⊢;clear hok hs hg hnn;go_enter func222,ntmps222;go_wp2_with fail;go_loopw [4,14] (fun l i wr=>∃k:Nat,k<=n/\i=ab ac (k:Int)/\Hid (wr.ownsRow w.heap.size 51 64 l (jz seq (t.take k)).length (jz seq (t.take k)).flatten)/\w9h w wr/\Hid (∀j x,j<k->t[j]? =some x->x.fits)) (fun _ i _=>n - (aS i).toNat)
 case atStart=>exact⟨0,bc _,rfl,jc _ _ _ _,aI _ _,fun j x h=>absurd h (Nat.not_lt_zero _)⟩
 case round=>
  obtain⟨k,hk,rfl,HO,HB,HK⟩:=hrel;by_cases hlt:k<n
  ·have g3:decide ((k:Int)< (n:Int))=true:=by simpa using hlt
   obtain⟨x,hx⟩:∃x,t[k]? =some x:=⟨_,aZ (by rw[HNN.out];exact hlt)⟩;have hxo:=HOK.out x (dp hx);have hg':=mA HB.out hgl HG.out;have L0:(aE 226 ⟨g,k*49,none⟩).run aj wr=.ok (al x.cells.toArray) wr:=Ce (Ng hg' HOK.out hx) (Img.cells_length hxo.len);obtain⟨x1,ST1,hr1,hb1⟩:=CO wr x hxo.len;have B1:=w9bt HB hb1;have O1:=ae (jm HO.out hb1);have c1:x1.cell? ⟨wr.heap.size,0,none⟩=some (ab ac x.index):=hr1.cell 0 _ rfl;have L1:=Nn hr1 hxo.len;have BI:Hid ((df 304 #[(0,ab ay 73),(1,ab aO seq),(2,ab ac x.index),(3,al (aw x.body).toArray)]).run aj x1=.ok (al (eN seq x).cells.toArray) x1):=CN 73 seq x.index (aw x.body) (by rw[cw];exact hxo.len) x1;have HX:=ae hx;have HXO:=ae hxo;have hP:(eN seq x).Ok:=nU HSQ.out hxo;have HP:=ae hP;clear hx hxo hg' hr1 hb1 hP;go_wp2_with (first | ((with_reducible refine nA 304 ?_);refine nz _ _ rfl rfl [(0,ab ay 73),(1,ab aO seq),(2,ab ac x.index),(3,al (aw x.body).toArray)] _ rfl BI.out ?_));clear L0 ST1 c1 L1 BI;go_at_call 264;refine(sE (eN seq x) HP.out x1).mono ?_;rintro e x2 ⟨rfl,hb⟩;obtain⟨x3,ST3,hr3,hb3⟩:=kE x2 (zL HP.out);have b3:w9b x1 x3:=hb.trans (hb3.mono hb.size);have B3:=w9bt B1 b3;have O3:=ae (jm O1.out b3);have L3:(aE 51 ⟨x2.heap.size,0,none⟩).run aj x3=.ok (al (eN seq x).code.toArray) x3:=hr3.blk (zL HP.out).length;clear hb hr3 hb3 b3 O1 B1;by_cases hft:x.fits
   ·have eE:(eN seq x).codeE=0:=by unfold Sct.codeE;rw[if_pos (qC hft)]
    have eC:(eN seq x).code=aw (eN seq x).bytes:=by unfold Sct.code;rw[if_pos (qC hft)]
    rw[eE];rw[eC]at ST3 L3 ⊢;have hbl:cz (aw (eN seq x).bytes):=gQ (Sct.bytes_length HP.out);obtain⟨x4,hx4⟩:=w9nm (x3.alloc (an (aw (eN seq x).bytes).toArray 51));have SB:Hid ((dh 54 1 #[(0,al (aw (eN seq x).bytes).toArray)]).run aj x3=.ok (af (some ⟨x3.heap.size,0,none⟩) 1 1) x4):=by show _=_;rw[←hx4];exact vW x3 _ hbl.length
    have b4:ag x3.heap.size x3 x4:=by rw[←hx4];exact aH x3 _
    have B4:w9b w x4:=B3.out.trans (b4.mono B3.out.size);have O4:=jm O3.out b4;obtain⟨v6,x6,r6,o6,g6, -⟩:=vX w.heap.size x4 u4 (jz seq (t.take k)) (aw (eN seq x).bytes) x3.heap.size O4 hbl (jg (t:= 51) (by rw[←hx4];exact cD x3 _)) (by rw[CQ,dj];omega) B4.size;have R6:=ae r6;have B6:w9h w x6:=B4.grown g6 B4.size (fun j e=>(O4.lt j e).1);have O6:Hid (x6.ownsRow w.heap.size 51 64 v6 (jz seq (t.take (k+1))).length (jz seq (t.take (k+1))).flatten):=by
     have e:jz seq (t.take (k+1))=jz seq (t.take k)++ [aw (eN seq x).bytes]:=by
      rw[jZ,HX.out];unfold jz;rw[ec]
      rfl
     show World.ownsRow _ _ _ _ _ _ _;rw[e];exact o6
    have HK2:Hid (∀j z,j<k+1->t[j]? =some z->z.fits):=fun j z hj hz=>by
     rcases Nat.lt_or_ge j k with h | h
     ·exact HK.out j z h hz
     ·obtain rfl:j=k:=by omega
      rw[HX.out]at hz;cases hz;exact hft
    clear eE eC hbl hx4 b4 B4 O4 r6 o6 g6 hft;go_wp2_with (first | ((with_reducible refine iu ?_);refine dR _ _ _ rfl rfl [(0,al (aw (eN seq x).bytes).toArray)] _ rfl SB.out ?_) | (at_builtin;refine wpList_append_run (.tmp 30) (.tmp 32) 54 rfl rfl _ _ _ rfl rfl R6.out ?_));go_roundw
    case rel=>exact⟨k+1,hlt,by go_num,O6,B6,HK2⟩
    case measure=>simp[aS];omega
   ·have eE:(eN seq x).codeE=11:=by unfold Sct.codeE;rw[if_neg (fun h=>hft (of_decide_eq_true h).2)]
    have HBAD:Hid (¬∀x ∈ t,x.fits):=fun h=>hft (h x (dp HX.out));rw[eE];clear eE hft;go_wp2_with fail;go_ret2;exact⟨fun h=>absurd h HBAD.out,fun _=>rfl,B3.out⟩
  ·have g3:decide ((k:Int)< (n:Int))=false:=by simpa using hlt
   obtain rfl:k=n:=by omega
   have HFT:Hid (∀x ∈ t,x.fits):=fun x hx=>by
    obtain⟨j,hj⟩:=List.mem_iff_getElem?.1 hx;exact HK.out j x (by have:=(bZ.1 hj).1;rw[HNN.out]at this;omega) hj
   have HO':Hid (wr.ownsRow w.heap.size 51 64 u4 (jz seq t).length (jz seq t).flatten):=by
    have:=HO.out;rw[←HNN.out,List.take_length]at this;exact this
   have hP:(dI seq k).Ok:=pq HSQ.out;have hF:(dI seq k).fits=true:=wi hn;have HP:=ae hP;have HF:=ae hF;clear hP hF HK HO;go_wp2_with fail;go_at_call 235;refine(CK seq k wr).mono ?_;rintro e x1 ⟨rfl,hb1⟩;have B1:=w9bt HB hb1;have O1:=ae (jm HO'.out hb1);clear hb1;go_wp2_with fail;go_at_call 264;refine(sE (dI seq k) HP.out x1).mono ?_;rintro e x2 ⟨rfl,hb⟩;have eE:(dI seq k).codeE=0:=by unfold Sct.codeE;rw[if_pos HF.out]
   have eC:(dI seq k).code=aw (dI seq k).bytes:=by unfold Sct.code;rw[if_pos HF.out]
   rw[eE,eC];have hbl:cz (aw (dI seq k).bytes):=gQ (Sct.bytes_length HP.out);obtain⟨x3,ST3,hr3,hb3⟩:=kE x2 hbl;have b3:w9b x1 x3:=hb.trans (hb3.mono hb.size);have B3:w9b w x3:=B1.out.trans (b3.mono B1.out.size);have O3:=jm O1.out b3;have L3:(aE 51 ⟨x2.heap.size,0,none⟩).run aj x3=.ok (al (aw (dI seq k).bytes).toArray) x3:=hr3.blk hbl.length;obtain⟨x4,hx4⟩:=w9nm (x3.alloc (an (aw (dI seq k).bytes).toArray 51));have SB:Hid ((dh 54 1 #[(0,al (aw (dI seq k).bytes).toArray)]).run aj x3=.ok (af (some ⟨x3.heap.size,0,none⟩) 1 1) x4):=by show _=_;rw[←hx4];exact vW x3 _ hbl.length
   have b4:ag x3.heap.size x3 x4:=by rw[←hx4];exact aH x3 _
   have B4:w9b w x4:=B3.trans (b4.mono B3.size);have O4:=jm O3 b4;obtain⟨v6,x6,r6,o6,g6, -⟩:=vX w.heap.size x4 u4 (jz seq t) (aw (dI seq k).bytes) x3.heap.size O4 hbl (jg (t:= 51) (by rw[←hx4];exact cD x3 _)) (by rw[CQ,HNN.out];omega) B4.size;have R6:=ae r6;have B6:w9h w x6:=B4.grown g6 B4.size (fun j e=>(O4.lt j e).1);have O6:Hid (x6.ownsRow w.heap.size 51 64 v6 ((bG seq t).map aw).length ((bG seq t).map aw).flatten):=by
    show World.ownsRow _ _ _ _ _ _ _;rw[No,HNN.out];exact o6
   clear eE eC hbl hx4 b4 B4 O4 r6 o6 g6 hb hr3 hb3 b3 B3 O3 O1 B1;go_wp2_with (first | ((with_reducible refine iu ?_);refine dR _ _ _ rfl rfl [(0,al (aw (dI seq k).bytes).toArray)] _ rfl SB.out ?_) | (at_builtin;refine wpList_append_run (.tmp 43) (.tmp 45) 54 rfl rfl _ _ _ rfl rfl R6.out ?_));go_ret2;exact⟨fun _=>⟨_,rfl,O6.out⟩,fun h=>absurd HFT.out h,B6.out⟩
end
section
attribute [-simp] isAgg51 zeroValue51 isAgg205 zeroValue205 isAgg304 zeroValue304 isAgg226 zeroValue226
attribute [-go_sem] aE aL cS
attribute [local go_sem] bC bD dz eK eL eM ew wW wX
theorem tx:aj.underlying 54 =some (.slice (aj.elem 54)):=by kernel_rfl
theorem CS (W:ah):(sizeOf (aj.elem 54)).run aj W=.ok 64 W:=by kernel_rfl
theorem Np (W:ah) {g o n c K:Nat} (hK:K<=n) (hc:n<=c):(Instr.sliceAt 54 (af (some ⟨g,o,none⟩) n c) none (some (ab ac (K:Int))) none).run aj W=.ok (af (some ⟨g,o,none⟩) K c) W:=by
 rw[run_sliceAt_slice (h:=tx),run_slice_h (ht:=tx) (kh:=ac) (h0:=by omega) (h2:=by omega),CS];simp only[Result.andThen,sliced,iG,Nat.zero_mul,Gm,ite_self,Nat.sub_zero]
theorem Nq (W:ah) {g o n c K:Nat} (hK:K<n) (hc:n<=c):(Instr.sliceAt 54 (af (some ⟨g,o,none⟩) n c) (some (ab ac (K:Int))) none none).run aj W=.ok (af (some ⟨g,o+K*64,none⟩) (n - K) (c - K)) W:=by
 rw[run_sliceAt_slice (h:=tx),run_slice_l (ht:=tx) (kl:=ac) (h0:=by omega) (h1:=by omega),CS];simp only[Result.andThen,sliced,iG];rw[if_neg (by omega)];simp[Addr.add]
theorem px {x:ah} {N e sz n:Nat} {v:ak} {xs:List ak} (h:x.ownsRow N e sz v n xs) (hn:0<n):∃g c,v=af (some ⟨g,0,none⟩) n c/\N<=g/\n<=c/\g<x.heap.size/\x.rangeAt g 0 xs:=by
 rcases h.2 with⟨rfl,rfl⟩ | ⟨g,cap,cur,rfl,h1,hg,h2,_⟩
 ·exact absurd hn (by omega)
 ·refine⟨g,cap,rfl,h1,h2,(bL.1 hg).1,fun j u hj=> ?_⟩;have:=h.cells (g:=g) rfl j u hj
  rwa [Addr.add_mid]at this
theorem Nr {L:List (List ak)} {n:Nat} (hn:n<=L.length):∃r,L.flatten=(L.take n).flatten++r:=⟨(L.drop n).flatten,by rw[←lL,lK]⟩
theorem Ns {w:ah} {g o:Nat} {a b:List ak} (h:w.rangeAt g o (a++b)):w.rangeAt g o a:=fun j u hj=>h j u (by rw[fS (bZ.1 hj).1];exact hj)
theorem Nt {w:ah} {g o k:Nat} {a b:List ak} (h:w.rangeAt g o (a++b)) (hk:a.length=k):w.rangeAt g (o+k) b:=fun j u hj=>by
 have:=h (k+j) u (by rw[fv (by omega),hk,Nat.add_sub_cancel_left];exact hj)
 rwa [←Nat.add_assoc]at this
section
theorem CT {v:ak} {n0:Nat} {w:ah} (hn:n0<=4096) (HL:∀x,ag w.heap.size w x->ap aj 167 #[v,ab ac 0] x fun e w'=>e=ao (ab ac (n0:Int))/\ag x.heap.size x w') {frm count at0 seq:Int} (hm:lz n0 frm count at0=false) {a:Option aF} {n c:Nat}:
  ap aj 146 #[v,ab ac frm,ab ac count,ab ac at0,ab aO seq,af a n c] w fun e w'=>e=ao (aQ #[ab ac 0,ab ac 1])/\ag w.heap.size w w':=by
 have HF:=ae (wV hn frm count at0 w (HL w (aI _ _)));rw[hm]at HF;clear HL hm hn;go_enter func146,ntmps146;go_wp2_with fail;go_at_call 221;refine HF.out.mono ?_;rintro e x ⟨rfl,hb⟩;have HB:=ae hb;clear hb;go_wp2_with fail;go_ret2;exact⟨rfl,HB.out⟩
theorem Nu {rb p0 p1:Nat} {S:RS} {w:ah} {f:Nat->Prop} (h:aU rb p0 p1 S w f) (hn:S.n0<=4096) {frm count at0 seq:Int} (hm:lz S.n0 frm count at0=false) {a:Option aF} {n c:Nat}:
  ap aj 146 #[am (some ⟨rb,0,none⟩),ab ac frm,ab ac count,ab ac at0,ab aO seq,af a n c] w fun e w'=>e=ao (aQ #[ab ac 0,ab ac 1])/\ag w.heap.size w w':=
 CT hn (fun x hx=>(h.beside hx).len 0) hm
theorem Nv (frm count at0 seq:Int) (w:ah) {a:Option aF} {n c:Nat}:
  ap aj 146 #[am none,ab ac frm,ab ac count,ab ac at0,ab aO seq,af a n c] w fun e w'=>e=ao (aQ #[ab ac 0,ab ac 1])/\ag w.heap.size w w':=
 CT (n0:=0) (by omega) (fun x _=>CG 0 x) (by unfold lz;exact decide_eq_false (by omega))
theorem tz {rb p0 p1:Nat} {S:RS} {w:ah} {f:Nat->Prop} (h:aU rb p0 p1 S w f) (hn:S.n0<=4096) {F C A:Nat} (hC2:2<=C) (hC:C<=256) (hF:F+C<=S.n0) (hA:A<C):
  ap aj 221 #[am (some ⟨rb,0,none⟩),ab ac (F:Int),ab ac (C:Int),ab ac (A:Int)] w fun e w'=>e=ao (.bool true)/\ag w.heap.size w w':=by
 have:=wV hn F C A w (h.len 0);rw[show lz S.n0 F C A=true by unfold lz;simp;omega]at this;exact this
theorem Nw {rb p0 p1:Nat} {S:RS} {w:ah} {f:Nat->Prop} (h:aU rb p0 p1 S w f) (hn:S.n0<=4096) {F C A:Nat} (hC2:2<=C) (hC:C<=256) (hF:F+C<=S.n0) (hA:A<C) {seq:Int} {a:Option aF} {n c:Nat} (hl:n<1\/C<n+1) (hnb:n<=1000000):
  ap aj 146 #[am (some ⟨rb,0,none⟩),ab ac (F:Int),ab ac (C:Int),ab ac (A:Int),ab aO seq,af a n c] w fun e w'=>e=ao (aQ #[ab ac 0,ab ac 2])/\ag w.heap.size w w':=by
 have HF:=ae (tz h hn hC2 hC hF hA);clear h hF hn hA;by_cases h1:n<1
 ·obtain rfl:n=0:=by omega
  clear h1 hl hnb;go_enter func146,ntmps146;go_wp2_with fail;go_at_call 221;refine HF.out.mono ?_;rintro e x ⟨rfl,hb⟩;have HB:=ae hb;clear hb;go_wp2_with fail;go_ret2;exact⟨rfl,HB.out⟩
 ·have g1:((n:Int)==0)=false:=by simp;omega
  have g2:decide ((C:Int) - 1< (n:Int))=true:=by simp;omega
  have g2':decide ((n:Int)>(C:Int) - 1)=true:=g2;go_enter func146,ntmps146;go_wp2_with fail;go_at_call 221;refine HF.out.mono ?_;rintro e x ⟨rfl,hb⟩;have HB:=ae hb;clear hb;go_wp2_with fail;go_ret2;exact⟨rfl,HB.out⟩
theorem Nx {rb p0 p1:Nat} {S:RS} {w:ah} {f:Nat->Prop} (h:aU rb p0 p1 S w f) (hn:S.n0<=4096) {F C A:Nat} (hC2:2<=C) (hC:C<=256) (hF:F+C<=S.n0) (hA:A<C) {seq:Int} (hs:dx seq) {t:List Img} (n1:1<=t.length) (n2:t.length+1<=C) (hok:∀x ∈ t,x.Ok) (hbad:¬∀x ∈ t,x.fits) {g c:Nat} (hg:w.rangeAt g 0 (cL t).flatten) (hgl:g<w.heap.size):
  ap aj 146 #[am (some ⟨rb,0,none⟩),ab ac (F:Int),ab ac (C:Int),ab ac (A:Int),ab aO seq,af (some ⟨g,0,none⟩) t.length c] w fun e w'=>e=ao (aQ #[ab ac 0,ab ac 1])/\ag w.heap.size w w':=by
 have HF:=ae (tz h hn hC2 hC hF hA);have HE:Hid (∀x,ag w.heap.size w x->ap aj 222 #[ab aO seq,af (some ⟨g,0,none⟩) t.length c] x fun e w'=>e=ao (aQ #[af none 0 0,.bool false])/\ag x.heap.size x w'):=fun x hx=>
  (CR (by omega) hok hs (mA hx hgl hg) (bq hgl hx.size)).mono fun e w' hh=>⟨hh.2.1 hbad,hh.2.2⟩
 obtain⟨n,hnn⟩:=w9nm t.length;rw[hnn]at n1 n2 HE ⊢;have g1:((n:Int)==0)=false:=by simp;omega
 have g2:decide ((C:Int) - 1< (n:Int))=false:=by simp;omega
 have g2':decide ((n:Int)>(C:Int) - 1)=false:=g2;clear h hF hn hA hok hbad hg hgl hnn;go_enter func146,ntmps146;go_wp2_with fail;go_at_call 221;refine HF.out.mono ?_;rintro e x ⟨rfl,hb⟩;have HB:=ae hb;have HE2:=ae (HE.out x hb);clear hb;go_wp2_with fail;go_at_call 222;refine HE2.out.mono ?_;rintro e y ⟨rfl,hb⟩;have HB2:=w9bt HB hb;clear hb;go_wp2_with fail;go_ret2;exact⟨rfl,HB2.out⟩
end
theorem Ny {rb p0 p1:Nat} {S:RS} {w:ah} {f:Nat->Prop} (h:aU rb p0 p1 S w f) (hfu:S.fuse<=1000000) (hd0:0<=S.done) (hd1:S.done<=900000) (hf:S.Few 250) {F C A:Nat} (hC2:2<=C) (hC:C<=256) (hF:F+C<=S.n0) (hA:A<C) (hn:S.n0<=4096) {seq:Int} (hs:dx seq)
  {t:List Img} (ht:TxnOk C t) {g c:Nat} (hg:w.rangeAt g 0 (cL t).flatten) (hgl:g<w.heap.size) (hgf:¬f g):
  ap aj 146 #[am (some ⟨rb,0,none⟩),ab ac (F:Int),ab ac (C:Int),ab ac (A:Int),ab aO seq,af (some ⟨g,0,none⟩) t.length c] w fun e w'=>
   e=ao (aQ #[ab ac (if(S.app F C A seq t).2=0 then(((A+t.length+1)%C:Nat):Int)else 0),ab ac (S.app F C A seq t).2])/\∃f',aU rb p0 p1 (S.app F C A seq t).1 w' f'/\Turn f f' w w':=by
 have HF:=ae (tz h hn hC2 hC hF hA);have n1:=ht.least;have n2:=ht.most;have HE:Hid (∀x,ag w.heap.size w x->ap aj 222 #[ab aO seq,af (some ⟨g,0,none⟩) t.length c] x fun e w'=>(∃v,e=ao (aQ #[v,.bool true])/\w'.ownsRow x.heap.size 51 64 v ((bG seq t).map aw).length ((bG seq t).map aw).flatten)/\ag x.heap.size x w'):=fun x hx=>
  (CR (by omega) ht.ok hs (mA hx hgl hg) (bq hgl hx.size)).mono fun e w' hh=>⟨hh.1 ht.fits,hh.2.2⟩
 have hin:∀P L,∀x ∈ dO F C P L,x.1<S.n0:=fun P L=>Cy (by omega) hF;have htl:((bG seq t).take t.length).length=t.length:=by rw[dj,iU];omega
 have hdl:((bG seq t).drop t.length).length=1:=by rw[dm,iU];omega
 have h64:∀b ∈ bG seq t,b.length=64:=fun b hb=>by
  unfold bG at hb;rcases gc.1 hb with hb | hb
  ·obtain⟨x,hx,rfl⟩:=cM.1 hb;exact Sct.bytes_length (nU hs (ht.ok x hx))
  ·simp at hb;rw[hb];exact Sct.bytes_length (pq hs)
 obtain⟨s1,s2,s3,s4,s5,s6⟩:=RS.st_spec (hin A ((bG seq t).take t.length)) (wQ (by omega)) hf (by omega);have hst:=S.app_st F C A seq t;rw[Cx,htl]at s4;have HST1:Hid (∀(x:ah) (B c:Nat),aU rb p0 p1 S x f->x.rangeAt B 0 ((bG seq t).map aw).flatten->B<x.heap.size->¬f B->
   ap aj 223 #[am (some ⟨rb,0,none⟩),ab ac (F:Int),ab ac (C:Int),ab ac (A:Int),af (some ⟨B,0,none⟩) t.length c] x fun e w'=>e=ao (ab ac (S.st (dO F C A ((bG seq t).take t.length))).2)/\∃f',aU rb p0 p1 (S.st (dO F C A ((bG seq t).take t.length))).1 w' f'/\Turn f f' x w'):=fun x B c hx hr hB hfB=>by
  have:=CM (P:=A) (c:=c) hx (by omega) ⟨hd0,by omega⟩ hf (by omega) (by omega) hC hF hn (by omega) (L:=(bG seq t).take t.length) (fun b hb=>h64 b (jE hb)) (by omega) (g:=B) (o:=0) (by
   obtain⟨r,e⟩:=Nr (L:=(bG seq t).map aw) (n:=t.length) (by simp[iU]);rw[e]at hr;rw[List.map_take];exact Ns hr) hB hfB
  rw[htl]at this;exact this
 have HST2:Hid (∀(x:ah) (B c:Nat) (f':Nat->Prop),aU rb p0 p1 (S.st (dO F C A ((bG seq t).take t.length))).1 x f'->x.rangeAt B 0 ((bG seq t).map aw).flatten->B<x.heap.size->¬f' B->
   ap aj 223 #[am (some ⟨rb,0,none⟩),ab ac (F:Int),ab ac (C:Int),ab ac ((A:Int)+(t.length:Int)),af (some ⟨B,t.length*64,none⟩) 1 c] x fun e w'=>e=ao (ab ac (((S.st (dO F C A ((bG seq t).take t.length))).1.st (dO F C (A+t.length) ((bG seq t).drop t.length))).2))/\∃f'',aU rb p0 p1 ((S.st (dO F C A ((bG seq t).take t.length))).1.st (dO F C (A+t.length) ((bG seq t).drop t.length))).1 w' f''/\Turn f' f'' x w'):=fun x B c f' hx hr hB hfB=>by
  have:=CM (P:=A+t.length) (c:=c) hx (by omega) ⟨by omega,by omega⟩ s5 (by omega) (by omega) hC (by rw[s1];exact hF) (by rw[s1];exact hn) (by omega) (L:=(bG seq t).drop t.length) (fun b hb=>h64 b (List.mem_of_mem_drop hb)) (by omega) (g:=B) (o:=t.length*64) (by
   have e:((bG seq t).map aw).flatten=(((bG seq t).map aw).take t.length).flatten++(((bG seq t).map aw).drop t.length).flatten:=by rw[←lL,lK]
   rw[e]at hr;rw[List.map_drop];have:=Nt hr (k:=t.length*64) (by
    rw[←List.map_take,qN (s:=64) (fun x hx=>by obtain⟨y,hy,rfl⟩:=cM.1 hx;rw[cw];exact h64 y (jE hy)),dV,htl])
   rwa [dP]at this) hB hfB
  rw[hdl,Int.natCast_add]at this;exact this
 have HLT:Hid (∀j,f j->j<w.heap.size):=(aU.isRes rb p0 p1 S).lt h;have hlen:((bG seq t).map aw).length=t.length+1:=by rw[dV,iU]
 obtain⟨a1,ha1⟩:=w9nm (S.st (dO F C A ((bG seq t).take t.length)));rw[ha1]at hst HST1 HST2 s6;obtain⟨a2,ha2⟩:=w9nm (a1.1.st (dO F C (A+t.length) ((bG seq t).drop t.length)));rw[ha2]at hst HST2;obtain⟨R,hR⟩:=w9nm (S.app F C A seq t);rw[hR]at hst ⊢;have HRR:=ae hst;have H:=ae h;have h2E:a2.2=0\/a2.2=14:=by
  have:=(RS.st_spec (S:=a1.1) (l:=dO F C (A+t.length) ((bG seq t).drop t.length)) (by rw[←ha1,s1];exact hin _ _) (wQ (by omega)) (by rw[←ha1];exact s5) (by omega)).2.2.2.2.2
  rwa [ha2]at this
 obtain⟨ys,hys⟩:=w9nm ((bG seq t).map aw);rw[hys]at HE HST1 HST2 hlen;obtain⟨n,hnn⟩:=w9nm t.length;rw[hnn]at n1 n2 HE HST1 HST2 hlen ⊢;have g1:((n:Int)==0)=false:=by simp;omega
 have g2:decide ((C:Int) - 1< (n:Int))=false:=by simp;omega
 have g2':decide ((n:Int)>(C:Int) - 1)=false:=g2;have hYL:=ae hlen;obtain⟨r1,hr1⟩:∃r,(if R.2=0 then(((A+n+1)%C:Nat):Int)else 0)=r:=⟨_,rfl⟩;obtain⟨r2,hr2⟩:=w9nm R.2;rw[hr1,hr2];have HR1:=ae hr1;have HR2:=ae hr2;clear h hfu hd0 hd1 hf hF hn hs ht hg hgl hgf hin htl hdl h64 s1 s2 s3 s4 s5 hst hR ha1 ha2 hys hnn hlen hr1 hr2;go_enter func146,ntmps146;go_wp2_with fail;go_at_call 221;refine HF.out.mono ?_;rintro e x1 ⟨rfl,hb1⟩;have HB1:=ae hb1;have HE2:=ae (HE.out x1 hb1);clear hb1 HE HF;go_wp2_with fail;go_at_call 222;refine HE2.out.mono ?_;rintro e x2 ⟨⟨v,rfl,hO⟩,hb2⟩;have HB2:=w9bt HB1 hb2;rw[hYL.out]at hO;obtain⟨B,cc,rfl,hBN,hBc,hBl,hBr⟩:=px hO (by omega);have hBw:w.heap.size<=B:=bm HB1.out.size hBN;have hfB:¬f B:=fun h=>iJ _ (bq (HLT.out B h) hBw);have HC1:=ae (HST1.out x2 B cc (H.out.beside HB2.out) hBr hBl hfB);have SL1:Hid (∀W:ah,(Instr.sliceAt 54 (af (some ⟨B,0,none⟩) (n+1) cc) none (some (ab ac (n:Int))) none).run aj W=.ok (af (some ⟨B,0,none⟩) n cc) W):=fun W=>Np W (by omega) hBc;have SL2:Hid (∀W:ah,(Instr.sliceAt 54 (af (some ⟨B,0,none⟩) (n+1) cc) (some (ab ac (n:Int))) none none).run aj W=.ok (af (some ⟨B,n*64,none⟩) 1 (cc - n)) W):=fun W=>by
  have:=Nq W (g:=B) (o:=0) (n:=n+1) (c:=cc) (K:=n) (by omega) hBc
  rwa [dP,Nat.add_sub_cancel_left]at this
 have HBR:=ae hBr;have HFB:=ae hfB;clear hO hb2 HE2 HST1 hBr hfB hBw hBN;go_wp2_with ((with_reducible refine yl 49 ?_);refine yk (.tmp 49) 54 none (some (.tmp 50)) rfl rfl _ _ _ _ rfl rfl rfl (SL1.out _) ?_);go_at_call 223;refine HC1.out.mono ?_;rintro e x3 ⟨rfl,f3,q3,t3⟩;have T3:Hid (Turn f f3 w x3):=(Turn.of_below HB2.out).trans t3;have Q3:=ae q3;have hBr3:x3.rangeAt B 0 ys.flatten:=ij HBR.out (t3.out B hBl HFB.out);have hBl3:B<x3.heap.size:=bq hBl t3.size;have hfB3:¬f3 B:=fun h=>(t3.new B h).elim HFB.out (fun h=>iJ _ (bq hBl h));have HC2:=ae (HST2.out x3 B (cc - n) f3 q3 hBr3 hBl3 hfB3);clear q3 t3 hBr3 hBl3 hfB3 HST2 HC1;by_cases h1:a1.2=0
 ·have hR:Hid (R=a2):=by show R=a2;rw[HRR.out,if_pos h1]
  rw[h1];go_wp2_with ((with_reducible refine yl 62 ?_);refine yk (.tmp 62) 54 (some (.tmp 63)) none rfl rfl _ _ _ _ rfl rfl rfl (SL2.out _) ?_);go_at_call 223;refine HC2.out.mono ?_;rintro e x4 ⟨rfl,f4,q4,t4⟩;have T4:Hid (Turn f f4 w x4):=T3.out.trans t4;have Q4:=ae q4;clear q4 t4 HC2;by_cases h2:a2.2=0
  ·have hr:Hid (r1=(((A+n+1)%C:Nat):Int)/\r2=0):=by refine(?_:_/\_);rw[←HR1.out,←HR2.out,hR.out,h2];exact⟨if_pos rfl,rfl⟩
   rw[h2];have hCz:¬((C:Int)=0):=by omega
   obtain⟨i,hi⟩:=w9nm ((A+n+1)%C);have hii:((A:Int)+((n:Int)+1))%(C:Int)=(i:Int):=by rw[←hi,Int.natCast_emod];congr 1
   rw[hi]at hr;have HII:=ae hii;clear hi hii;go_wp2_with fail;go_ret2;rw[hr.out.1,hr.out.2,hR.out,←HII.out];exact⟨rfl,f4,Q4.out,T4.out⟩
  ·have h14:=h2E.resolve_left h2;have hr:Hid (r1=0/\r2=14):=by refine(?_:_/\_);rw[←HR1.out,←HR2.out,hR.out,h14];exact⟨if_neg (by omega),rfl⟩
   rw[h14];clear h2 h14;go_wp2_with fail;go_ret2;rw[hr.out.1,hr.out.2,hR.out];exact⟨rfl,f4,Q4.out,T4.out⟩
 ·have h14:=s6.resolve_left h1;have hR:Hid (R=a1):=by show R=a1;rw[HRR.out,if_neg h1]
  have hr:Hid (r1=0/\r2=14):=by refine(?_:_/\_);rw[←HR1.out,←HR2.out,hR.out,h14];exact⟨if_neg (by omega),rfl⟩
  rw[h14];clear h1;go_wp2_with fail;go_ret2;rw[hr.out.1,hr.out.2,hR.out];exact⟨rfl,f3,Q3.out,T3.out⟩
end
section
def lZ (rd:Nat->List Int) (F C:Nat):Nat->List (List Img)->Nat->Int->Nat->List Img->List (List Img)×Nat×Int
 | 0,ts,A,q,_,_=>(ts,A,q)
 | f+1,ts,A,q,k,acc=>
  match iT (kH rd F C A) q (C - k) k acc with
  | none=>(ts,A,q)
  | some t=>jP rd F C f ((A+t.length+1)%C) ((q+1)%4294967296) (ts++ [t])
theorem tA (rd:Nat->List Int) (F C f:Nat) (ts:List (List Img)) (A:Nat) (q:Int) (k:Nat) (acc:List Img):lZ rd F C (f+1) ts A q k acc=(match iT (kH rd F C A) q (C - k) k acc with
  | none=>(ts,A,q)
  | some t=>jP rd F C f ((A+t.length+1)%C) ((q+1)%4294967296) (ts++ [t])):=rfl
theorem CU (rd:Nat->List Int) (F C f:Nat) (ts:List (List Img)) (A:Nat) (q:Int):lZ rd F C f ts A q 0 []=jP rd F C f A q ts:=by
 cases f with
 | zero=>rfl
 | succ f=>rfl
theorem CX {bs:List Int} (h:(ed bs).mark=73\/(ed bs).mark=67):fi bs=true/\ed bs=Sct.of bs:=by
 unfold ed at h ⊢;by_cases hd:fi bs=true
 ·rw[if_pos hd];exact⟨hd,rfl⟩
 ·rw[if_neg hd]at h;rcases h with h | h<;>cases h
theorem Nz {rd:Nat->List Int} {F C f:Nat} {ts:List (List Img)} {A:Nat} {q:Int} {k:Nat} {acc:List Img} {bs:List Int} (hb:kH rd F C A k=bs) (hk:k+1<C) (h1:(ed bs).mark=73) (h2:(ed bs).seq=q):
  lZ rd F C (f+1) ts A q k acc=lZ rd F C (f+1) ts A q (k+1) (acc++ [⟨(ed bs).index,(ed bs).body⟩]):=by
 obtain⟨hd,e⟩:=CX (aA h1);rw[e]at h1 h2 ⊢;have:iT (kH rd F C A) q (C - k) k acc=iT (kH rd F C A) q (C - (k+1)) (k+1) (acc++ [⟨(Sct.of bs).index,(Sct.of bs).body⟩]):=by
  rw[show C - k=(C - (k+1))+1 by omega]
  conv=>lhs;unfold iT
  rw[hb,hd,h2,h1,if_neg (by simp),if_neg (by omega),if_neg (by omega)]
 rw[tA,tA,this]
theorem NA {rd:Nat->List Int} {F C f:Nat} {ts:List (List Img)} {A:Nat} {q:Int} {k:Nat} {acc:List Img} {bs:List Int} (hb:kH rd F C A k=bs) (hk:k<C) (hk1:1<=k) (ha:acc.length=k) (h:ed bs=dI q k):
  lZ rd F C (f+1) ts A q k acc=jP rd F C f ((A+k+1)%C) ((q+1)%4294967296) (ts++ [acc]):=by
 obtain⟨hd,e⟩:=CX (bs:=bs) (aD (by rw[h];rfl));rw[e]at h;have:iT (kH rd F C A) q (C - k) k acc=some acc:=by
  rw[show C - k=(C - (k+1))+1 by omega];unfold iT;rw[hb,hd,h,if_neg (by simp[dI]),if_pos (by simp[dI]),if_neg (by rintro(h | h | h);omega;exact h rfl;exact h rfl)]
 rw[tA,this];simp only[ha]
theorem CY {rd:Nat->List Int} {F C f:Nat} {ts:List (List Img)} {A:Nat} {q:Int} {k:Nat} {acc:List Img} {bs:List Int} (hb:kH rd F C A k=bs) (hk:k<C) (h1:¬(((ed bs).mark=73/\(ed bs).seq=q)/\k+1<C)) (h2:¬(1<=k/\ed bs=dI q k)):
  lZ rd F C (f+1) ts A q k acc=(ts,A,q):=by
 have:iT (kH rd F C A) q (C - k) k acc=none:=by
  rw[show C - k=(C - (k+1))+1 by omega];unfold iT;rw[hb];by_cases hd:fi bs=true
  ·have e:ed bs=Sct.of bs:=by unfold ed;rw[if_pos hd]
   rw[e]at h1 h2;by_cases hq:(Sct.of bs).seq=q
   ·rw[if_neg (by rintro(h | h);rw[hd]at h;cases h;exact h hq)];by_cases hm:(Sct.of bs).mark=67
    ·rw[if_pos hm];refine if_pos ?_;rcases Nat.lt_or_ge k 1 with h | h
     ·exact aA h
     ·right
      by_cases hi:(Sct.of bs).index=k
      ·right
       intro hz;refine h2 ⟨h, ?_⟩;rw[show Sct.of bs=⟨(Sct.of bs).mark,(Sct.of bs).seq,(Sct.of bs).index,(Sct.of bs).body⟩from rfl,hm,hq,hi,hz]
       rfl
      ·exact aA hi
    ·rw[if_neg hm];by_cases hm3:(Sct.of bs).mark=73
     ·have:C - (k+1)=0:=by
       rcases Nat.lt_or_ge (k+1) C with h | h
       ·exact absurd ⟨⟨hm3,hq⟩,h⟩ h1
       ·omega
      rw[if_neg (by simpa using hm3),this]
      rfl
     ·rw[if_pos hm3]
   ·rw[if_pos (aD hq)]
  ·rw[if_pos (aA (by simpa using hd))]
 rw[tA,this]
def lB (x:ah) (N M:Nat) (v:ak) (ts:List (List Img)):Prop:=
 ∃vs:List ak,vs.length=ts.length/\x.ownsRow N 223 1 v vs.length vs/\∀(i:Nat) (u:ak) (t:List Img),vs[i]? =some u->ts[i]? =some t->x.ownsRow N 226 49 u t.length (cL t).flatten/\∀j,u.ownBlock=some j->j<M
section
variable {x y:ah} {N M:Nat} {v:ak} {ts:List (List Img)}
theorem lB.toR (h:lB x N M v ts):iB 223 226 x N v ts:=by
 obtain⟨vs,h1,h2,h3⟩:=h;exact⟨vs,h1,h2,fun i u t hu ht=>(h3 i u t hu ht).1⟩
theorem lB.nil (x:ah) (N M:Nat):lB x N M (af none 0 0) []:=⟨[],rfl,jc _ _ _ _,fun i u t h=>by simp at h⟩
theorem lB.below (h:lB x N M v ts) (hb:ag x.heap.size x y):lB y N M v ts:=by
 obtain⟨vs,h1,h2,h3⟩:=h;exact⟨vs,h1,dQ h2 hb,fun i u t hu ht=>⟨dQ (h3 i u t hu ht).1 hb,(h3 i u t hu ht).2⟩⟩
theorem lB.grownC {B:Nat} {C:List ak} {t:aR} (h:lB x N M v ts) (hB:aq x B t C) (h1: 223 ≠t) (h2: 226 ≠t) (hg:x.grownBy y (some B)):lB y N M v ts:=by
 obtain⟨vs,g1,g2,g3⟩:=h;exact⟨vs,g1,g2.kept hg (aD (fz g2 hB h1)),fun i w t hw ht=>⟨(g3 i w t hw ht).1.kept hg (aD (fz (g3 i w t hw ht).1 hB h2)),(g3 i w t hw ht).2⟩⟩
theorem lB.grownI {iv:ak} {n:Nat} {xs:List ak} (h:lB x N M v ts) (hi:x.ownsRow M 226 49 iv n xs) (hg:x.grownBy y iv.ownBlock):lB y N M v ts:=by
 obtain⟨vs,g1,g2,g3⟩:=h;refine⟨vs,g1,g2.kept hg (mQ g2 hi (by decide)),fun i w t hw ht=>⟨(g3 i w t hw ht).1.kept hg ?_,(g3 i w t hw ht).2⟩⟩;cases hw':w.ownBlock with
 | none=>exact aA rfl
 | some j=>
  right
  intro e;have h1:=(g3 i w t hw ht).2 j hw';have h2:=(hi.lt j e.symm).1;omega
set_option maxRecDepth 100000 in
theorem NB {w:ah} {t:List Img} {a:Option aF} {c B:Nat} (h:lB w N M v ts) (ht:w.ownsRow M 226 49 (af a t.length c) t.length (cL t).flatten) (hNM:N<=M) (hMw:M<=w.heap.size)
  (hB:aq w B 223 [af a t.length c]) (hlen:ts.length<=1000000):
  ∃v' w',(Builtin.append_ #[242, 242] 242 #[v,af (some ⟨B,0,none⟩) 1 1]).run aj w=.ok v' w'/\lB w' N w.heap.size v' (ts++ [t])/\w.grownBy w' v.ownBlock:=by
 obtain⟨i0,hi,hz0,hz1,hz2⟩:=fy Nd;obtain⟨vs,g1,g2,g3⟩:=h;obtain⟨v',w',hr,h1,h2,_⟩:=run_append_own (P:=aj) w N 242 242 223 i0 (af none 0 0) 1 24 Tryz.underlying242 hi hz0 hz1 hz2 rfl (by decide) v vs.length vs g2
  ⟨B,0,none⟩ 1 1 [af a t.length c] rfl (fun j u hj=>by have:=hB.range j u hj;rwa [Addr.add_mid]) (fun u hu=>by simp at hu;rw[hu];rfl) (by unfold aY;omega) (by omega) (by omega)
 have hk:∀{n:Nat} {u:ak} {xs:List ak},w.ownsRow N 226 49 u n xs->w'.ownsRow N 226 49 u n xs:=fun hu=>hu.kept h2 (mQ hu g2 (by decide));refine⟨v',w',hr,⟨vs++ [af a t.length c],by simp[g1],by simpa using h1,fun i u s hu hs=> ?_⟩,h2⟩;by_cases hi:i<vs.length
 ·rw[fS hi]at hu;rw[fS (by omega)]at hs;exact⟨hk (g3 i u s hu hs).1,fun j hj=>by have:=(g3 i u s hu hs).2 j hj;omega⟩
 ·rw[fv (by omega)]at hu hs;rw[g1]at hu;cases hj:i - ts.length with
  | zero=>
   rw[hj]at hu hs;simp at hu hs;subst hu;subst hs;exact⟨hk (wU ht hNM),fun j hj=>(ht.lt j hj).2⟩
  | succ j=>
   rw[hj]at hu;simp at hu
end
end
section
attribute [-simp] isAgg51 zeroValue51 isAgg205 zeroValue205 isAgg254 zeroValue254 isAgg232 zeroValue232 isAgg226 zeroValue226
attribute [-go_sem] aE aL cS
attribute [local go_sem] bC bD dz nZ mW oc ew qL qM
theorem CZ:(aj.info? 244).map (·.size)=some 3:=by kernel_rfl
theorem NC {w:ah} {a b c a' b' c':ak} (h:a'.oneCell'=true/\b'.oneCell'=true/\c'.oneCell'=true):
  (aL 244 ⟨w.heap.size,0,none⟩ (al #[a',b',c'])).run aj (w.alloc (an #[a,b,c] 244))=.ok () (w.alloc (an #[a',b',c'] 244)):=
 kQ w _ _ #[a',b',c'] CZ rfl (by simp[h])
end
section
attribute [-simp] isAgg51 zeroValue51 isAgg205 zeroValue205 isAgg304 zeroValue304 isAgg226 zeroValue226
attribute [-go_sem] aE aL cS
attribute [local go_sem] bC bD dz eK eL eM ew wW wX
set_option maxRecDepth 100000 in
theorem oe {x:ah} {B a:Nat} {t:aR} {v:ak} {q:Int} (h:aq x B t (eQ v a q)):(aE 244 ⟨B,0,none⟩).run aj x=.ok (al (eQ v a q).toArray) x:=
 jF x B 0 _ (eQ v a q) _ h.range Tryz.underlying244 rfl (by kernel_rfl)
theorem og {x:ah} {B a:Nat} {old:List ak} {v:ak} {q:Int} (h:aq x B 244 old) (ho:old.length=3) (hv:v.oneCell'=true):
  ∃y,(aL 244 ⟨B,0,none⟩ (al (eQ v a q).toArray)).run aj x=.ok () y/\aq y B 244 (eQ v a q)/\x.grownBy y (some B):=by
 refine⟨_,run_storeVar_row x B _ _ old.toArray (eQ v a q).toArray h CZ (by simpa [eQ]using ho) (by simp[eQ,hv];exact⟨rfl,rfl⟩),setRow_heap x B _ _ _ _ h, ?_⟩;exact⟨rfl,rfl,rfl,by rw[setRow_size];exact aG _,fun k _ hk=>setRow_other x B k _ (fun e=>hk (by rw[e]))⟩
theorem Da {v:ak} {n0:Nat} {w:ah} (hn:n0<=4096) (HL:∀x,ag w.heap.size w x->ap aj 167 #[v,ab ac 0] x fun e w'=>e=ao (ab ac (n0:Int))/\ag x.heap.size x w') {frm count at0 seq:Int} (hm:lz n0 frm count at0=false):
  ap aj 158 #[v,ab ac frm,ab ac count,ab ac at0,ab aO seq] w fun e w'=>e=ao (aQ #[al (eQ (af none 0 0) 0 0).toArray,ab ac 1])/\ag w.heap.size w w':=by
 have HF:=ae (wV hn frm count at0 (w.alloc (an #[af none 0 0,ab ac 0,ab aO 0] 244)) (HL _ (aH w _)));rw[hm]at HF;clear HL hm hn;go_enter func158,ntmps158;go_wp2_with fail;go_step3
 go_wp2_with fail;go_at_call 221;refine HF.out.mono ?_;rintro e x ⟨rfl,hb⟩;have hr:=(aq.new w 244 (eQ (af none 0 0) 0 0)).below hb;have hb1:w9b w x:=(aH w (an (eQ (af none 0 0) 0 0).toArray 244)).trans (hb.mono (aH w _).size);obtain⟨y,ST,hy,hg⟩:=og (v:=af none 0 0) (a:=0) (q:=0) hr rfl rfl;have ST':(aL 244 ⟨w.heap.size,0,none⟩ (al #[af none 0 0,ab ac 0,ab aO 0])).run aj x=.ok () y:=ST;have LD:=oe hy;clear ST;have HB:w9h w y:=hb1.grown hg hb1.size (fun j e=>by cases e;exact aG _);clear hb hr hb1 hy hg;go_wp2_with fail;rw[Exit.noGoto_ret];refine bo (eH rfl rfl LD) rfl ⟨rfl,HB.out⟩
def NF:ak->Nat
 | .slice _ n _=>n
 | _=>0
theorem NG {rb p0 p1:Nat} {S:RS} {w:ah} {f:Nat->Prop} (h:aU rb p0 p1 S w f) (hby:S.Byt) (hup:S.down=false) {F C A:Nat} (hC2:2<=C) (hC:C<=256) (hF:F+C<=S.n0) (hA:A<C) (hn:S.n0<=4096) {seq:Int} (hs:dx seq):
  ap aj 158 #[am (some ⟨rb,0,none⟩),ab ac (F:Int),ab ac (C:Int),ab ac (A:Int),ab aO seq] w fun e w'=>
   (∃v,e=ao (aQ #[al (eQ v (eh S.rd F C A seq).2.1 (eh S.rd F C A seq).2.2).toArray,ab ac 0])/\iB 223 226 w' w.heap.size v (eh S.rd F C A seq).1)/\ag w.heap.size w w':=by
 obtain⟨res,hres⟩:=w9nm (eh S.rd F C A seq);have HR:Hid (lZ S.rd F C C [] A seq 0 []=res):=by show _=_;rw[CU];exact hres
 rw[hres];have HF:Hid (∀x,ag w.heap.size w x->ap aj 221 #[am (some ⟨rb,0,none⟩),ab ac (F:Int),ab ac (C:Int),ab ac (A:Int)] x fun e w'=>e=ao (.bool true)/\ag x.heap.size x w'):=fun x hx=>tz (h.beside hx) hn hC2 hC hF hA;have HBY:=ae hby;have HRD:Hid (∀(x:ah) (i:Nat),ag w.heap.size w x->i<S.n0->ap aj 72 #[am (some ⟨rb,0,none⟩),ab ac 0,ab ac (i:Int)] x fun e w'=>e=ao (aQ #[al (aw (S.rd i)).toArray,ab ac 0])/\ag x.heap.size x w'):=fun x i hx hin=>by
  have hh:=(h.beside hx).read 0 (i:Int);have e1:S.read 0 (i:Int)=aw (S.rd i):=by
   unfold RS.read;rw[if_pos ⟨RS.has0 hin,hup⟩];unfold RS.look;rw[if_pos rfl];exact(hby i hin).2.2
  have e2:S.readE 0 (i:Int)=0:=by
   unfold RS.readE;rw[if_pos (RS.has0 hin),if_neg (by rw[hup];simp)]
  rw[e1,e2]at hh;exact hh
 have HSQ:=ae hs;have HFN:=ae hF;have hF4:F<=4096:=by omega
 obtain⟨rd,hrd⟩:=w9nm S.rd;have HBY2:Hid (∀i,i<S.n0->aP (rd i)/\(rd i).length=64):=fun i hi=>by rw[←hrd];exact⟨(hby i hi).1,(hby i hi).2.1⟩
 rw[hrd]at HR HRD;clear h hby hup hs hres hF hn HBY hrd;go_enter func158,ntmps158;go_wp2_with fail;go_step3
 go_wp2_with fail;go_at_call 221;refine(HF.out _ (aH w _)).mono ?_;rintro e x ⟨rfl,hb⟩;have R0:=(aq.new w 244 (eQ (af none 0 0) 0 0)).below hb;have hb1:w9b w x:=(aH w (an (eQ (af none 0 0) 0 0).toArray 244)).trans (hb.mono (aH w _).size);have hne:w.heap.size<x.heap.size:=R0.lt;obtain⟨W,hW⟩:=w9nm (x.alloc (an #[af none 0 0,ab ac (A:Int),ab aO seq] 244));have ST:=NC (w:=x) (a:=af none 0 0) (b:=ab ac 0) (c:=ab aO 0) (a':=af none 0 0) (b':=ab ac (A:Int)) (c':=ab aO seq) ⟨rfl,rfl,rfl⟩;rw[hW]at ST;have hb2:ag x.heap.size x W:=by rw[←hW];exact aH x _
 have r1:aq W x.heap.size 244 (eQ (af none 0 0) A seq):=by rw[←hW];exact aq.new x _ _
 have RZ:=ae (R0.below hb2);have RL:=ae r1;have HB:=ae (hb1.trans (hb2.mono hb1.size));clear hb R0 hb1 hW hb2 r1 HF;obtain⟨B,hB⟩:=w9nm x.heap.size;rw[hB]at ST RL hne;have hNW:Hid (w.heap.size<=W.heap.size):=HB.out.size;go_wp2_with fail;clear ST hB;go_step3
 go_wp2_with fail;go_loopw [13,14] (fun im pl wr=>∃(ts:List (List Img)) (A':Nat) (q:Int) (k:Nat) (acc:List Img) (v:ak) (P M:Nat),ts.length<=C/\A'<C/\k<C/\(0<k->ts.length<C)/\P<=256+256*ts.length+k/\pl=ab ac (P:Int)/\Hid (dx q)/\Hid (acc.length=k)/\Hid (P%C=(A'+k)%C)/\Hid (aq wr w.heap.size 244 (eQ (af none 0 0) 0 0))/\Hid (aq wr B 244 (eQ v A' q))/\Hid (lB wr w.heap.size M v ts)/\Hid (wr.ownsRow M 226 49 im (cL acc).length (cL acc).flatten)/\Hid (w.heap.size<=M/\M<=wr.heap.size)/\w9h w wr/\Hid (lZ rd F C (C - ts.length) ts A' q k acc=res)) (fun im _ wr=>(C - lY wr B)*(C+1)+(C - NF im))
 case atStart=>exact⟨[],A,seq,0, [],_,A,W.heap.size,bc _,hA,by omega,fun h=>absurd h (by omega),by simp;omega,rfl,HSQ,rfl,rfl,RZ,RL,lB.nil _ _ _,jc _ _ _ _,⟨hNW.out,aG _⟩,HB,HR⟩
 case round=>
  obtain⟨ts,A',q,k,acc,v,P,M,hk,hA',hkC,hk0,hP,rfl,HQ,HAC,HPM,HZ,HL,HT,HI,HM,HB,HG⟩:=hrel;obtain⟨vs,hvl,hvo,hvt⟩:=HT.out;obtain⟨ra,c,rfl, -⟩:=ke hvo;rw[hvl]at HL HT;obtain⟨ri,ci,him, -⟩:=ke HI.out;subst him;have hil:(cL acc).length=k:=by rw[nY];exact HAC.out
  rw[hil]at HI;have HIL:=ae hil;rw[hil];have c0:wr.cell? ⟨B,0,none⟩=some (af ra ts.length c):=HL.out.cell 0 _ rfl;have HLN:Hid (lY wr B=ts.length):=by show lY wr B=_;unfold lY;rw[c0]
  clear hvl hvo hvt hil;by_cases hlt:ts.length<C
  ·have g1:decide ((ts.length:Int)< (C:Int))=true:=by simp;omega
   obtain⟨i,hi⟩:=w9nm (F+(A'+k)%C);have hin:i<S.n0:=by have:=iI (A'+k) (show 0<C by omega);have:=HFN.out;omega
   have HTG:Hid (kH rd F C A' k=rd i):=by show rd (F+(A'+k)%C)=_;rw[hi]
   have HSEC:Hid (ap aj 233 #[ab ac (F:Int),ab ac (C:Int),ab ac (P:Int)] wr fun e w'=>e=ao (ab ac (i:Int))/\w'=wr):=by
    have:=CJ (F:=F) (C:=C) (P:=P) (by omega) hC hF4 (by omega) wr
    rwa [HPM.out,hi]at this
   have HR1:=ae (HRD.out wr i HB.out hin);obtain⟨hbb,hbl⟩:=HBY2.out i hin;have HIB:=ae hbb;have HIL2:=ae hbl;clear hi hbb hbl hin;obtain⟨bs,hbs⟩:=w9nm (rd i);rw[hbs]at HTG HR1 HIB HIL2;clear hbs;go_wp2_with fail;go_at_call 233;refine HSEC.out.mono ?_;rintro e z ⟨rfl,hz⟩;obtain rfl:=hz.symm;clear HSEC;go_wp2_with fail;go_at_call 72;refine HR1.out.mono ?_;rintro e x1 ⟨rfl,hb⟩;obtain⟨x2,ST2,hr2,hb2⟩:=kE x1 (gQ HIL2.out);have b2:w9b wr x2:=hb.trans (hb2.mono hb.size);have L2:=hr2.blk (by rw[cw];exact HIL2.out);have B2:=ae b2;clear hb hb2 b2 hr2 HR1 HRD;go_wp2_with fail;clear ST2 L2;go_at_call 232;refine(vD bs HIB.out HIL2.out x2).mono ?_;rintro e x3 ⟨rfl,hb⟩;have hPO:=vI HIB.out HIL2.out;obtain⟨x4,ST4,hr4,hb4⟩:=qj x3 (ed bs) hPO.len;have b4:w9b wr x4:=B2.out.trans ((hb.trans (hb4.mono hb.size)).mono B2.out.size);have L4:=hr4.pg hPO.len;have c2:x4.cell? ⟨B,2,none⟩=some (ab aO q):=(HL.out.below b4).cell 2 _ rfl;obtain⟨BP,hBP⟩:=w9nm x3.heap.size;rw[hBP]at ST4 hr4 L4;have B4:=ae b4;have R4:=ae hr4;obtain⟨p,hp⟩:=w9nm (ed bs);rw[hp]at ST4 L4 R4 hPO ⊢;have HP:=ae hp;have HPO:=ae hPO;clear hb hb4 b4 hr4 hPO hp B2 HIB HIL2;obtain⟨z,hz⟩:=w9nm ((p.mark==73&&p.seq==q));have HII:=ae (Nl p HPO.out.len q x4);rw[hz]at HII;have HZZ:=ae hz;clear hz;go_wp2_with fail;clear ST4;go_at_call 234;refine HII.out.mono ?_;rintro e x5 ⟨rfl,hb⟩;have B5:=w9bt B4 hb;have R5:=ae (R4.out.below hb);have L5:=R5.out.pg HPO.out.len;clear hb L4 c2 HII B4 R4 c0;have HL5:=ae (HL.out.below B5.out);have HT5:=ae (HT.out.below B5.out);have HI5:=ae (jm HI.out B5.out);have HZ5:=ae (HZ.out.below B5.out);have HB5:w9h w x5:=HB.out.trans (B5.out.mono HB.out.size);have HM5:Hid (w.heap.size<=M/\M<=x5.heap.size):=⟨HM.out.1,bm HM.out.2 B5.out.size⟩;have hfuel:C - ts.length=(C - ts.length - 1)+1:=by omega
   have HFU:=ae hfuel;clear hfuel HL HT HI HZ HB HM B5;by_cases hA:(p.mark=73/\p.seq=q)/\k+1<C
   ·have hzt:z=true:=by rw[←HZZ.out,hA.1.1,hA.1.2];simp
    subst hzt;have hk1:=hA.2;have g2:decide ((k:Int)< (C:Int) - 1)=true:=by simp;omega
    obtain⟨X,hX⟩:∃X:Img,X=⟨p.index,p.body⟩:=⟨_,rfl⟩;have HGN:Hid (lZ rd F C (C - ts.length) ts A' q (k+1) (acc++ [X])=res):=by
     show _=_;rw[←HG.out,HFU.out,hX,←HP.out];exact(Nz HTG.out hA.2 (by rw[HP.out];exact hA.1.1) (by rw[HP.out];exact hA.1.2)).symm
    have hXc:X.cells=Value.int ac p.index::aw p.body:=by rw[hX];rfl
    have hXl:X.cells.length=49:=Img.cells_length (by rw[hX];exact HPO.out.len);have c3:x5.cell? ⟨BP,2,none⟩=some (ab ac p.index):=R5.out.cell 2 _ rfl;have LB:=R5.out.bod HPO.out.len;have BI:Hid ((df 226 #[(0,ab ac p.index),(1,al (aw p.body).toArray)]).run aj x5=.ok (al X.cells.toArray) x5):=by
     show _=_;rw[hXc];exact Cf p.index (aw p.body) (by rw[cw];exact HPO.out.len) x5
    obtain⟨x6,hx6⟩:=w9nm (x5.alloc (an X.cells.toArray 226));have SB:Hid ((dh 223 1 #[(0,al X.cells.toArray)]).run aj x5=.ok (af (some ⟨x5.heap.size,0,none⟩) 1 1) x6):=by show _=_;rw[←hx6];exact Cg x5 _ hXl
    have b6:ag x5.heap.size x5 x6:=by rw[←hx6];exact aH x5 _
    have hI6:=jm HI5.out b6;have hM6:M<=x6.heap.size:=bm HM5.out.2 b6.size;obtain⟨v7,x7,r7,o7,g7, -⟩:=Ch M x6 (af ri k ci) (cL acc) X.cells x5.heap.size (by rw[HIL.out];exact hI6) hXl (Img.cells_one X) (jg (t:= 226) (by rw[←hx6];exact cD x5 _)) (by rw[HIL.out];omega) hM6;have e7:cL acc++ [X.cells]=cL (acc++ [X]):=by unfold cL;rw[ec];rfl
    rw[e7]at o7;have R7:=ae r7;have HL7:=ae ((HL5.out.below b6).grown g7 (fz hI6 (HL5.out.below b6) (by decide)));have HZ7:=ae ((HZ5.out.below b6).grown g7 (fz hI6 (HZ5.out.below b6) (by decide)));have HT7:=ae ((HT5.out.below b6).grownI hI6 g7);have HI7:=ae o7;have hb6:w9b w x6:=HB5.out.trans (b6.mono HB5.out.size);have HB7:w9h w x7:=hb6.grown g7 hb6.size (fun j e=>bm HM5.out.1 (hI6.lt j e).1);have HM7:Hid (w.heap.size<=M/\M<=x7.heap.size):=⟨HM5.out.1,bm hM6 g7.size⟩;have HA7:Hid ((acc++ [X]).length=k+1):=by show _=_;rw[cE,HAC.out];rfl
    have HPM7:Hid ((P+1)%C=(A'+(k+1))%C):=by show _=_;rw[Nat.add_mod,HPM.out,←Nat.add_mod,Nat.add_assoc]
    obtain⟨r8,c8,hv8, -⟩:=ke o7;rw[nY,HA7.out]at hv8;subst hv8;have HLN7:Hid (lY x7 B=ts.length):=by show lY x7 B=_;unfold lY;rw[HL7.out.cell 0 _ rfl]
    clear hA hX hXc hXl hx6 b6 hI6 hM6 r7 o7 g7 e7 hb6 L5;go_wp2_with (first | ((with_reducible refine nA 226 ?_);refine nz _ _ rfl rfl [(0,ab ac p.index),(1,al (aw p.body).toArray)] _ rfl BI.out ?_) | ((with_reducible refine iu ?_);refine dR _ _ _ rfl rfl [(0,al X.cells.toArray)] _ rfl SB.out ?_) | (at_builtin;refine wpList_append_run (.tmp 67) (.tmp 73) 223 rfl rfl _ _ _ rfl rfl R7.out ?_));go_roundw
    case rel=>exact⟨ts,A',q,k+1,acc++ [X],_,P+1,M,hk,hA',hk1,fun _=>hlt,by omega,by go_num,HQ,HA7,HPM7,HZ7,HL7,HT7,HI7,HM7,HB7,HGN⟩
    case measure=>
     rw[HLN7.out,HLN.out];show _+(C - (k+1))<_+(C - k);omega
   ·have HNA:=ae hA;have hcase:z=false\/(z=true/\¬k+1<C):=by
     cases hzc:z with
     | false=>exact aA rfl
     | true=>
      right
      refine⟨rfl,fun hk1=>hA ⟨?_,hk1⟩⟩;have:=HZZ.out;rw[hzc]at this
      simpa using this
    clear hA;have hcase2:(z=false/\True)\/(z=true/\decide ((k:Int)< (C:Int) - 1)=false):=hcase.imp (fun h=>⟨h,trivial⟩) (fun h=>⟨h.1,by have:=h.2;simp;omega⟩);clear hcase;obtain⟨hz,g2⟩ | ⟨hz,g2⟩:=hcase2;all_goals
     subst hz;by_cases hk0':0<k
     ·have g3:decide (0< (k:Int))=true:=by simp;omega
      have g3':decide ((k:Int)>0)=true:=g3;have KP:∀x:aM x5,(aE 304 ⟨BP,0,none⟩).run aj x.1=.ok (al p.cells.toArray) x.1:=fun x=>(R5.out.below x.2).pg HPO.out.len;have KQ:∀x:aM x5,x.1.cell? ⟨B,2,none⟩=some (ab aO q):=fun x=>(HL5.out.below x.2).cell 2 _ rfl;have KE:∀x:aM x5,(jG 10000 304 (al p.cells.toArray) (al (dI q k).cells.toArray)).run aj x.1=.ok (jI p (dI q k)) x.1:=fun x=>vu HPO.out.len (by simp[dI]) x.1;have KC:Hid (∀x:aM x5,ap aj 235 #[ab aO q,ab ac (k:Int)] x.1 fun e w''=>e=ao (al (dI q k).cells.toArray)/\∃y:aM x5,w''=y.1):=fun x=>ny x (CK q k x.1);obtain⟨y,hy⟩:=w9nm (jI p (dI q k));rw[hy]at KE;go_wp2_with fail;refine ig (by kernel_rfl) (by kernel_rfl) ?_;repeat(go_big_quiet_step (with_reducible (first | exact KC.out _)))
      refine aV ?_;intro x;clear KP KQ KE KC L5;cases y with
      | true=>
       have hpe:p=dI q k:=su.1 hy;have hb0:=x.2;obtain⟨y0,hy0⟩:=w9nm x.1;rw[hy0]at hb0 ⊢;have hL0:=HL5.out.below hb0;have hZ0:=HZ5.out.below hb0;have hT0:=HT5.out.below hb0;have hI0:=jm HI5.out hb0;have hB0:w9b w y0:=HB5.out.trans (hb0.mono HB5.out.size);have hM0:M<=y0.heap.size:=bm HM5.out.2 hb0.size;have c0:y0.cell? ⟨B,0,none⟩=some (af ra ts.length c):=hL0.cell 0 _ rfl;obtain⟨A2,hA2'⟩:∃n,(A'+k+1)%C=n:=⟨_,rfl⟩;have hA2l:A2<C:=by rw[←hA2'];exact iI _ (by omega)
       have hP2:(P+1)%C=A2:=by rw[Nat.add_mod,HPM.out,←Nat.add_mod,hA2']
       have hA2:((P:Int)+1)%(C:Int)=(A2:Int):=by rw[←hP2,Int.natCast_emod];norm_cast
       obtain⟨q2,hq2⟩:=w9nm ((q+1)%4294967296);have hq2s:Hid (dx q2):=by show dx q2;unfold dx;omega
       have HGN:Hid (lZ rd F C (C - (ts++ [acc]).length) (ts++ [acc]) A2 q2 0 []=res):=by
        show _=_;rw[CU,←HG.out,HFU.out,NA HTG.out hkC hk0' HAC.out (by rw[HP.out];exact hpe),hA2',hq2,cE]
        rfl
       obtain⟨y1,hy1⟩:=w9nm (y0.alloc (an #[af ri k ci] 223));have SB:Hid ((dh 242 1 #[(0,af ri k ci)]).run aj y0=.ok (af (some ⟨y0.heap.size,0,none⟩) 1 1) y1):=by show _=_;rw[←hy1];exact Nf y0 _ _ _
       have b1:ag y0.heap.size y0 y1:=by rw[←hy1];exact aH y0 _
       have rN:aq y1 y0.heap.size 223 [af ri k ci]:=by rw[←hy1];exact aq.new y0 _ _
       have hT1:=hT0.below b1;have hI1:=jm hI0 b1;obtain⟨v2,y2,r2,t2,g2⟩:=NB (t:=acc) (a:=ri) (c:=ci) (B:=y0.heap.size) hT1 (by rw[HAC.out];exact hI1) HM5.out.1 (bm hM0 b1.size) (by rw[HAC.out];exact rN) (by omega);have hB1:w9b w y1:=hB0.trans (b1.mono hB0.size);obtain⟨_,hw1,hw2,_⟩:=hT1;rw[hw1]at hw2;have hB2:w9b w y2:=hB1.grown g2 hB1.size (fun j e=>(hw2.lt j e).1);have L2:=(hL0.below b1).grown g2 (fz hw2 (hL0.below b1) (by decide));have Z2:=(hZ0.below b1).grown g2 (fz hw2 (hZ0.below b1) (by decide));have hvv:∃ra' c',v2=af ra' (ts.length+1) c':=by
        obtain⟨vs',hv1,hv2,_⟩:=t2;obtain⟨ra',c',rfl, -⟩:=ke hv2;rw[hv1,cE];exact⟨ra',c',rfl⟩
       obtain⟨ra',c',rfl⟩:=hvv;have R2:=ae r2;obtain⟨x4,hx4⟩:=w9nm (y2.setCell ⟨B,0,none⟩ (af ra' (ts.length+1) c'));obtain⟨x7,hx7⟩:=w9nm (x4.setCell ⟨B,1,none⟩ (ab ac (A2:Int)));obtain⟨x6,hx6⟩:=w9nm (x7.setCell ⟨B,2,none⟩ (ab aO q2));have L4:aq x4 B 244 (eQ (af ra' (ts.length+1) c') A' q):=by rw[←hx4];exact L2.set 0 _
       have L7:aq x7 B 244 (eQ (af ra' (ts.length+1) c') A2 q):=by rw[←hx7];exact L4.set 1 _
       have L6:aq x6 B 244 (eQ (af ra' (ts.length+1) c') A2 q2):=by rw[←hx6];exact L7.set 2 _
       have G4:y2.grownBy x4 (some B):=by rw[←hx4];exact fH y2 B 0 _
       have G7:x4.grownBy x7 (some B):=by rw[←hx7];exact fH x4 B 1 _
       have G6:x7.grownBy x6 (some B):=by rw[←hx6];exact fH x7 B 2 _
       have G:=(G4.trans G7).trans G6;have T6:=ae (t2.grownC L2 (by decide) (by decide) G);have hBw:w.heap.size<=B:=jt hne;have B6:w9h w x6:=hB2.grown G hB2.size (fun j e=>by cases e;exact hBw);have Z6:=ae (Z2.grown G (by simpa using fun e=>Nat.ne_of_gt hne e));have L6':=ae L6;have M6:Hid (w.heap.size<=y1.heap.size/\y1.heap.size<=x6.heap.size):=⟨hB1.size,bm g2.size G.size⟩;have d0:y2.cell? ⟨B,0,none⟩=some (af ra ts.length c):=L2.cell 0 _ rfl;have d0':=L2.frozen 0;have d1:x4.cell? ⟨B,1,none⟩=some (ab ac (A':Int)):=L4.cell 1 _ rfl;have d1':=L4.frozen 1;have d2:x7.cell? ⟨B,2,none⟩=some (ab aO q):=L7.cell 2 _ rfl;have d2':=L7.frozen 2;have HLN6:Hid (lY x6 B=ts.length+1):=by show lY x6 B=_;unfold lY;rw[L6.cell 0 _ rfl]
       have HPM6:Hid ((P+1)%C=(A2+0)%C):=by show _=_;rw[hP2,Nat.add_zero,Nat.mod_eq_of_lt hA2l]
       have hCz:¬((C:Int)=0):=by omega
       clear hpe hy hb0 hL0 hZ0 hT0 hI0 hB0 hM0 hA2' hP2 hy1 b1 rN hI1 t2 g2 hw1 hw2 hB1 hB2 L2 Z2 r2 L4 L7 L6 G4 G7 G6 G hy0;go_wp2_with (first | ((with_reducible refine iu ?_);refine dR _ _ _ rfl rfl [(0,af ri k ci)] _ rfl SB.out ?_) | (at_builtin;refine wpList_append_run (.tmp 89) (.tmp 91) 242 rfl rfl _ _ _ rfl rfl R2.out ?_));go_roundw
       case rel=>exact⟨ts++ [acc],A2,q2,0, [],_,P+1,y1.heap.size,by rw[cE];simp;omega,hA2l,by omega,fun h=>absurd h (by omega),by rw[cE];simp;omega,by go_num,hq2s,rfl,HPM6,Z6,L6',T6,jc _ _ _ _,M6,B6,HGN⟩
       case measure=>
        rw[HLN6.out,HLN.out];have e:C - ts.length=(C - (ts.length+1))+1:=by omega
        show(C - (ts.length+1))*(C+1)+(C - 0)< (C - ts.length)*(C+1)+(C - k);rw[e,Nat.add_mul];omega
      | false=>
       have hst:res=(ts,A',q):=by
        rw[←HG.out,HFU.out];exact CY HTG.out hkC (by rw[HP.out];exact HNA.out) (by rw[HP.out];rintro⟨_,h2⟩;rw[su.2 h2]at hy;cases hy)
       subst hst;have hb0:=x.2;obtain⟨y0,hy0⟩:=w9nm x.1;rw[hy0]at hb0 ⊢;have hL0:=HL5.out.below hb0;have hZ0:=HZ5.out.below hb0;have LL:=oe hL0;obtain⟨y2,ST,hy2,hg⟩:=og (v:=af ra ts.length c) (a:=A') (q:=q) hZ0 rfl rfl;have LY:=oe hy2;have hty:Hid (iB 223 226 y2 w.heap.size (af ra ts.length c) ts):=((HT5.out.below hb0).grownC hZ0 (by decide) (by decide) hg).toR;have hbb:=HB5.out.trans (hb0.mono HB5.out.size);have hby:w9h w y2:=hbb.grown hg hbb.size (fun j e=>by cases e;exact aG _);clear hg hbb hL0 hZ0 hb0 hy0 hy2;go_wp2_with fail;try rw[Exit.noGoto_ret]
       refine bo (eH rfl rfl LY) rfl ⟨⟨_,rfl,hty.out⟩,hby.out⟩
     ·have g3:decide (0< (k:Int))=false:=by simp;omega
      have g3':decide ((k:Int)>0)=false:=g3;go_wp2_with fail;refine ig (by kernel_rfl) (by kernel_rfl) ?_;repeat(go_big_quiet_step (fail))
      refine aV ?_;intro x;have hst:res=(ts,A',q):=by
       rw[←HG.out,HFU.out];exact CY HTG.out hkC (by rw[HP.out];exact HNA.out) (by rintro⟨h1,_⟩;exact hk0' h1)
      subst hst;have hb0:=x.2;obtain⟨y0,hy0⟩:=w9nm x.1;rw[hy0]at hb0 ⊢;have hL0:=HL5.out.below hb0;have hZ0:=HZ5.out.below hb0;have LL:=oe hL0;obtain⟨y2,ST,hy2,hg⟩:=og (v:=af ra ts.length c) (a:=A') (q:=q) hZ0 rfl rfl;have LY:=oe hy2;have hty:Hid (iB 223 226 y2 w.heap.size (af ra ts.length c) ts):=((HT5.out.below hb0).grownC hZ0 (by decide) (by decide) hg).toR;have hbb:=HB5.out.trans (hb0.mono HB5.out.size);have hby:w9h w y2:=hbb.grown hg hbb.size (fun j e=>by cases e;exact aG _);clear hg hbb hL0 hZ0 hb0 hy0 hy2;go_wp2_with fail;try rw[Exit.noGoto_ret]
      refine bo (eH rfl rfl LY) rfl ⟨⟨_,rfl,hty.out⟩,hby.out⟩
  ·have hk00:k=0:=by
    rcases Nat.eq_zero_or_pos k with h | h
    ·exact h
    ·exact absurd (hk0 h) hlt
   have hst:res=(ts,A',q):=by
    rw[←HG.out,show C - ts.length=0 by omega]
    rfl
   subst hst;have g1:decide ((ts.length:Int)< (C:Int))=false:=by simp;omega
   have LL:=oe HL.out;obtain⟨y2,ST,hy2,hg⟩:=og (v:=af ra ts.length c) (a:=A') (q:=q) HZ.out rfl rfl;have LY:=oe hy2;have hty:Hid (iB 223 226 y2 w.heap.size (af ra ts.length c) ts):=(HT.out.grownC HZ.out (by decide) (by decide) hg).toR;have hby:w9h w y2:=HB.out.grown hg HB.out.size (fun j e=>by cases e;exact aG _);clear hg hy2;go_wp2_with fail;try rw[Exit.noGoto_ret]
   refine bo (eH rfl rfl LY) rfl ⟨⟨_,rfl,hty.out⟩,hby.out⟩
end
section
theorem Db:RingOk where
 replay:=fun h hby hup _ _ _ hC2 hC hF hA hn _ hs=>NG h hby hup hC2 hC hF hA hn hs
 replay_no:=fun h hn _ _ _ _ hm=>Da hn (fun x hx=>(h.beside hx).len 0) hm
 replay_nil:=fun frm count at0 seq w=>Da (n0:=0) (by omega) (fun x _=>CG 0 x) (by unfold lz;exact decide_eq_false (by omega))
 append:=fun h hfu hd0 hd1 hf _ _ _ hC2 hC hF hA hn _ hs _ ht _ _ hg hgl hgf=>Ny h hfu hd0 hd1 hf hC2 hC hF hA hn hs ht hg hgl hgf
 append_no:=fun h hn _ _ _ _ hm _ _ _ _=>Nu h hn hm
 append_nil:=fun frm count at0 seq w _ _ _ _=>Nv frm count at0 seq w
 append_long:=fun h hn _ _ _ hC2 hC hF hA _ _ _ _ hl hnb=>Nw h hn hC2 hC hF hA hl hnb
 append_bad:=fun h hn _ _ _ hC2 hC hF hA _ hs _ n1 n2 hok hbad _ _ hg hgl=>Nx h hn hC2 hC hF hA hs n1 n2 hok hbad hg hgl
end
end Go.Proofs.YtbeeenembgplmaaGreat
