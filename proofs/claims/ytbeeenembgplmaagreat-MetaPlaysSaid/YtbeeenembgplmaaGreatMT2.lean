/- Made shorter by a tool: what the statements rest on. -/
import Derived.Test.YtbeeenembgplmaaGreatMT1
import Derived.LoopTactic
import Derived.Maps.AppendAt
import Derived.RangeFuncNested
import Derived.RangeFuncBound
import Derived.RangeFuncCalls
import Derived.RangeFuncLeaves
import Derived.Shelf.Abstract
import Derived.Shelf.RegionOpen
import Derived.WalkKit
import Derived.OwnWalkIn
import Derived.TacticsInMore
import Derived.LoopNIn
import Derived.LoopIn
import Derived.Test.YtbeeenembgplmaaGreatProg
import Derived.RangeFuncBox
import Derived.Lib.Hide
import Derived.Laws.StructEq
import Derived.Lib.AppendZerosOnto
set_option maxRecDepth 100000
set_option maxHeartbeats 20000000
set_option linter.unusedVariables false
set_option linter.unusedSimpArgs false
open List renaming drop_succ_cons -> be, drop_zero -> bf, getElem?_eq_getElem -> bJ, replicate -> bK, length_cons -> cK, length_append -> cX, mem_map -> dc, range -> dm, getElem?_eq_some_iff -> dp, getElem?_map -> du, length_drop -> dx, mem_of_getElem? -> dI, length_nil -> dP, nil_append -> dT, size_toArray -> dU, cons_append -> dX, mem_cons -> ec, take_of_length_le -> ey, push_toArray -> eD, append_toArray -> eF, getElem?_append_left -> eU, mem_cons_self -> eV, length_take -> fd, mem_range -> fo, map_append -> fp, getElem?_append_right -> fF, mem_cons_of_mem -> fG, length_map -> fZ, mem_append -> gW, finRange -> ik, map_map -> iA, getElem?_eq_none -> iB, eq_nil_of_length_eq_zero -> je, getElem?_replicate -> jL, take_append_drop -> ki, flatten_append -> kj, getElem?_cons_succ -> kC
open Nat renaming le_refl -> aJ, lt_of_lt_of_le -> aU, le_trans -> aZ, zero_le -> bq, zero_add -> dC, mod_lt -> fO, le_succ -> gP, le_of_lt -> iT
open Int renaming toNat_natCast -> gO
open Array renaming getElem?_eq_some_iff -> cj, replicate_succ -> ez, replicate_zero -> eA
open Bool renaming and_eq_true -> fN
open Go.Lib renaming hid -> ae
open Go renaming World -> ak, Value -> am, Calls -> az, loadVar -> aE, storeVar -> aL, Addr -> aN, wpQuiet_nil -> aO, maxLen -> aS, TypeId -> aV, bodyPost_ret -> bl, heap_alloc_new -> bR, cell_of_row -> cl, info_parts -> eJ, all_oneCell_toArray -> gD, run_takeDeferred -> iD, run_loadVar_mid -> iL, run_storeVar_new -> iU, callsIn_of_wp_marks -> jf
open Go.Boxed renaming new -> dY
open Go.Instr renaming buildSlice -> cO, build -> cY, fill -> fe
open Go.IntWalk renaming wrap64_in -> gj
open Go.KeepsOthers renaming setCell -> iC
open Go.Op renaming equalIn -> eG
open Go.Result renaming andThen_ok -> ed
open Go.RowKit renaming Below -> ah, intOf -> aW
open Go.RowKit.Below renaming refl -> aF
open Go.Sem renaming run_bind -> gR
open Go.Value renaming ownBlock -> fq
open Go.World renaming cell?_of_block -> cL, size_alloc -> dy, ownsRow_nil -> ft, rangeAt_setCells_same -> gE, rangeAt_setCells_apart -> iM
open Go.Ending renaming returned -> ar
open Go.IntKind renaming i64 -> af, u8 -> aq, u32 -> aD
open Go.Obj renaming cells -> ap
open Go.Value renaming int -> ab, slice -> ag, agg -> al, pointer -> ao, tuple -> aQ
open Or renaming inl -> aA, inr -> aC
open Go.Proofs.Tryz
open Go.Proofs.Tryz renaming prog -> aj
namespace Go.Proofs.YtbeeenembgplmaaGreat
open Go.RowKit Go.Shelf Go.Lib
section
attribute [-simp] isAgg51 zeroValue51
attribute [-go_sem] aE aL
attribute [local go_sem] bC bD dZ dQ
theorem own_cell {w x:ak} {u:List am} {z:Array am} (hw:x.heap[w.heap.size]? =some (ap z 51 (0,0))) (hz:z.size=64) (hb:w9b w x) (hu:bx u):
  ∃x',(aL 51 ⟨w.heap.size,0,none⟩ (al u.toArray)).run aj x=.ok () x'/\(aE 51 ⟨w.heap.size,0,none⟩).run aj x'=.ok (al u.toArray) x'/\ah w.heap.size w x':=by
 have ht:x.there w.heap.size 0 64:=fun j hj=>by
  have hcell:=cl x w.heap.size (0+j) z _ _ hw;refine⟨?_, ?_⟩
  ·rw[hcell];simp[hz];omega
  ·simp[World.frozen?,hw]
 have hs:=lk ht hu;refine⟨_,hs,dd (gE x _ 0 u (by rw[hu.length];exact ht)) hu.length, ?_⟩;exact hb.trans (kJ (aJ _) _ _ _)
section
variable {rb p0 p1:Nat} {S:RS} {w:ak} {f:Nat->Prop}
theorem aX.read (h:aX rb p0 p1 S w f) (dev i:Int):
  az aj 72 #[ao (some ⟨rb,0,none⟩),ab af dev,ab af i] w fun e w'=>e=ar (aQ #[al (S.read dev i).toArray,ab af (S.readE dev i)])/\ah w.heap.size w w':=by
 obtain⟨W,hW⟩:=w9nm (w.alloc (ap cx 51));have hB:ah w.heap.size w W:=by rw[←hW];exact(aF _ w).alloc (aJ _) _
 have K:Hid (W.heap[w.heap.size]? =some (ap cx 51 (0,0))/\w.heap.size<W.heap.size):=by rw[←hW];exact⟨bR w _,by simp⟩
 have H:=ae (h.beside hB);have H1:=ae (H.out.disk dev);have HB0:=ae hB;clear h hB;obtain⟨p,hp⟩:=w9nm (dk p0 p1 dev);have HP:=ae hp;rw[hp]at H1;clear hp;have H2:Hid (∀x:ak,w9b W x->az aj 150 #[ao p,ab af i] x fun e w'=>e=ar (.bool (S.has dev i))/\w'=x):=fun x hx=>by
  have:=(H.out.beside hx).hasOf dev i;rw[HP.out]at this;exact this
 have SZ:Hid (∀x u,w9b W x->bx u->∃x',(aL 51 ⟨w.heap.size,0,none⟩ (al u.toArray)).run aj x=.ok () x'/\(aE 51 ⟨w.heap.size,0,none⟩).run aj x'=.ok (al u.toArray) x'/\ah w.heap.size w x'):=fun x u hx hu=>
  own_cell ((hx.block _ K.out.2).trans K.out.1) dj (HB0.out.trans (hx.mono HB0.out.size)) hu
 by_cases hh:S.has dev i=true
 ·have HH:=ae hh;rw[hh]at H2;cases hdw:S.down with
  | true=>
   have hE:Hid (S.readE dev i=14/\S.read dev i=a9 0):=by refine(?_:_/\_);unfold RS.readE RS.read;rw[if_pos hh,if_pos hdw,if_neg (by simp[hdw])];exact⟨rfl,rfl⟩
   have HD:=ae hdw;clear hh hdw;go_enter func72,ntmps72;go_wp2_with (with_reducible (rw[hW];clear hW));go_at_call 149;refine H1.out.mono ?_;rintro e x1 ⟨rfl,hb⟩;have HB:=ae hb;clear hb;go_wp2_with fail;go_at_call 150;refine(H2.out x1 HB.out).mono ?_;rintro e w' ⟨rfl,hx⟩;obtain rfl:=hx.symm;clear hx;have c3:x1.cell? ⟨rb,3,none⟩=some (.bool true):=by rw[←HD.out];exact(H.out.beside HB.out).cell 3
   obtain⟨x2,st,ld,hb2⟩:=SZ.out x1 (a9 0) HB.out (fv 0);have st':(aL 51 ⟨w.heap.size,0,none⟩ (al cx)).run aj x1=.ok () x2:=st;have HB2:=ae hb2;clear st hb2;go_wp2_with fail;rw[hE.out.1,hE.out.2];exact bl (dl rfl rfl ld) rfl ⟨rfl,HB2.out⟩
  | false=>
   have hE:Hid (S.readE dev i=0/\S.read dev i=S.look dev i.toNat):=by refine(?_:_/\_);unfold RS.readE RS.read;rw[if_pos hh,if_neg (by simp[hdw]),if_pos ⟨hh,hdw⟩];exact⟨rfl,rfl⟩
   have HD:=ae hdw;obtain⟨u,hu⟩:=w9nm (S.look dev i.toNat);have HU:Hid (bx u):=by rw[←hu];exact H.out.okLook HH.out
   have H3:Hid (∀x:ak,w9b W x->az aj 165 #[ao p,ab af i] x fun e w'=>e=ar (aQ #[al u.toArray,ab af 0])/\ah x.heap.size x w'):=fun x hx=>by
    have:=(H.out.beside hx).readOf HH.out;rw[HP.out,hu]at this;exact this
   rw[hu]at hE;clear hh hdw hu;go_enter func72,ntmps72;go_wp2_with (with_reducible (rw[hW];clear hW));go_at_call 149;refine H1.out.mono ?_;rintro e x1 ⟨rfl,hb⟩;have HB:=ae hb;clear hb;go_wp2_with fail;go_at_call 150;refine(H2.out x1 HB.out).mono ?_;rintro e w' ⟨rfl,hx⟩;obtain rfl:=hx.symm;clear hx;have c3:x1.cell? ⟨rb,3,none⟩=some (.bool false):=by rw[←HD.out];exact(H.out.beside HB.out).cell 3
   go_wp2_with fail;go_at_call 165;refine(H3.out x1 HB.out).mono ?_;rintro e x2 ⟨rfl,hb⟩;obtain⟨x3,st,ld,hb2⟩:=SZ.out x2 u (HB.out.trans (hb.mono HB.out.size)) HU.out;have HB2:=ae hb2;clear hb hb2 c3;go_wp2_with fail;rw[hE.out.1,hE.out.2];exact bl (dl rfl rfl ld) rfl ⟨rfl,HB2.out⟩
 ·have hh:S.has dev i=false:=by simpa using hh
  rw[hh]at H2;have hE:Hid (S.readE dev i=1/\S.read dev i=a9 0):=by refine(?_:_/\_);unfold RS.readE RS.read;rw[if_neg (by simp[hh]),if_neg (by simp[hh])];exact⟨rfl,rfl⟩
  clear hh;go_enter func72,ntmps72;go_wp2_with (with_reducible (rw[hW];clear hW));go_at_call 149;refine H1.out.mono ?_;rintro e x1 ⟨rfl,hb⟩;have HB:=ae hb;clear hb;go_wp2_with fail;go_at_call 150;refine(H2.out x1 HB.out).mono ?_;rintro e w' ⟨rfl,hx⟩;obtain rfl:=hx.symm;clear hx;obtain⟨x2,st,ld,hb2⟩:=SZ.out x1 (a9 0) HB.out (fv 0);have st':(aL 51 ⟨w.heap.size,0,none⟩ (al cx)).run aj x1=.ok () x2:=st;have HB2:=ae hb2;clear st hb2;go_wp2_with fail;rw[hE.out.1,hE.out.2];exact bl (dl rfl rfl ld) rfl ⟨rfl,HB2.out⟩
end
def gq (n0 n1:Nat):RS:=⟨n0,n1,fun _=>kK,fun _=>kK, -1,false,0⟩
theorem AY (n0 n1:Nat) (w:ak) (h01:1<=n0) (h02:n0<=4096) (h11:1<=n1) (h12:n1<=4096):
  az aj 12 #[ab af (n0:Int),ab af (n1:Int)] w fun e w'=>∃rb p0 p1,e=ar (aQ #[ao (some ⟨rb,0,none⟩),ab af 0])/\(∃f,aX rb p0 p1 (gq n0 n1) w' f/\∀k,f k->w.heap.size<=k)/\ah w.heap.size w w':=by
 have H0:=ae (qS n0 w h01 h02);have H1:=ae (fun x=>qS n1 x h11 h12);have HP:Hid (0<n0/\0<n1):=⟨by omega,by omega⟩;clear h01 h02 h11 h12;go_enter func12,ntmps12;go_wp2_with fail;go_at_call 78;refine H0.out.mono ?_;rintro e x1 ⟨p0,rfl,⟨f0,g1,g2⟩,g3⟩;have A1:=ae g1;have A2:=ae g2;have A3:=ae g3;clear g1 g2 g3;go_wp2_with fail;go_at_call 78;refine(H1.out x1).mono ?_;rintro e x2 ⟨p1,rfl,⟨f1,g1,g2⟩,g3⟩;have B1:=ae g1;have B2:=ae g2;have B3:=ae g3;clear g1 g2 g3;go_wp2_with fail;go_ret2;have hA:∀k,f0 k->k<x1.heap.size:=A1.out.lt HP.out.1;have hB:∀k,f1 k->k<x2.heap.size:=B1.out.lt HP.out.2;have hz1:=A3.out.size;have hz2:=B3.out.size;have hal:∀o:Obj,ah x2.heap.size x2 (x2.alloc o):=fun o=>(aF _ x2).alloc (aJ _) o;refine⟨_,p0,p1,rfl,⟨_,⟨fun k=>k=x2.heap.size,fun k=>f0 k\/f1 k,⟨bR x2 _,rfl⟩,⟨f0,f1,⟨(A1.out.below HP.out.1 B3.out).below HP.out.1 (hal _),HP.out.1⟩,⟨B1.out.below HP.out.2 (hal _),HP.out.2⟩,fun k a b=> ?_,rfl⟩,fun k a b=> ?_,rfl⟩,fun k hk=> ?_⟩, ?_⟩
 ·have:=hA k a;have:=B2.out k b;omega
 ·subst a;rcases b with b | b
  ·have:=hA _ b;omega
  ·have:=hB _ b;omega
 ·rcases hk with rfl | hk | hk
  ·omega
  ·exact A2.out k hk
  ·have:=B2.out k hk;omega
 ·exact(A3.out.trans (B3.out.mono A3.out.size)).trans ((hal _).mono (by omega))
theorem AZ (n0 n1:Int) (w:ak) (h:(n0<1\/4096<n0)\/(n1<1\/4096<n1)):
  az aj 12 #[ab af n0,ab af n1] w fun e w'=>e=ar (aQ #[ao none,ab af 1])/\ah w.heap.size w w':=by
 by_cases h0:n0<1\/4096<n0
 ·have H0:=ae (uC n0 w h0);clear h h0;go_enter func12,ntmps12;go_wp2_with fail;go_at_call 78;refine H0.out.mono ?_;rintro e x1 ⟨rfl,hx⟩;obtain rfl:=hx.symm;clear hx;go_wp2_with fail;go_ret2;exact⟨rfl,aF _ _⟩
 ·have h1:n1<1\/4096<n1:=h.resolve_left h0;obtain⟨m,rfl⟩:∃m:Nat,n0=(m:Int):=⟨n0.toNat,by omega⟩;have H0:=ae (qS m w (by omega) (by omega));have H1:=ae (fun x=>uC n1 x h1);clear h h0 h1;go_enter func12,ntmps12;go_wp2_with fail;go_at_call 78;refine H0.out.mono ?_;rintro e x1 ⟨p0,rfl, -,g3⟩;have A3:=ae g3;clear g3;go_wp2_with fail;go_at_call 78;refine(H1.out x1).mono ?_;rintro e x2 ⟨rfl,hx⟩;obtain rfl:=hx.symm;clear hx;go_wp2_with fail;go_ret2;exact⟨rfl,A3.out⟩
end
section
attribute [-simp] isAgg51 zeroValue51
attribute [-go_sem] aE aL
attribute [local go_sem] bC bD dZ dQ
attribute [local go_sem] Oper.semAt_some
theorem Sl.stay {k:IntKind} {w w':ak} {v:am} {bs:List Int} (h:Sl k w v bs) (hs:w.heap.size<=w'.heap.size) (hb:bs≠ []->∀b off len cap,v=ag (some ⟨b,off,none⟩) len cap->b<w.heap.size->w'.heap[b]? =w.heap[b]?):Sl k w' v bs:=by
 obtain⟨a,cap,rfl,h1,h2,h3,h4⟩:=h;refine⟨a,cap,rfl,h1,h2, ?_,h4⟩;rcases h3 with h3 | ⟨b,off,rfl,h5,h6⟩
 ·exact aA h3
 ·by_cases hn:bs= []
  ·exact aA hn
  ·exact aC ⟨b,off,rfl,aU h5 hs,fun j hj=>(cL (a:=⟨b,off+j,none⟩) (hb hn b off _ _ rfl h5)).trans (h6 j hj)⟩
theorem Sl.lt_of {k:IntKind} {w:ak} {v:am} {bs:List Int} (h:Sl k w v bs) (hn:bs≠ []) {b off len cap:Nat} (e:v=ag (some ⟨b,off,none⟩) len cap):b<w.heap.size:=by
 obtain⟨a,cap',rfl,_,_,h3,_⟩:=h;rcases h3 with h3 | ⟨b',off',rfl,h5,_⟩
 ·exact absurd h3 hn
 ·simp only[Value.slice.injEq,Option.some.injEq,Addr.mk.injEq]at e;rw[←e.1.1];exact h5
theorem cS.firstC {P P' Q:ea} {w:ak} {f:Nat->Prop} {g:FuncId} {args:Array am} {R:Ending->ak->Prop} (hP:IsRes P) (hQ:IsRes Q) (h:cS P Q w f)
  (hc:∀f1,P w f1->(∀k,f1 k->f k)->az aj g args w fun e w'=>R e w'/\∃f1',P' w' f1'/\Turn f1 f1' w w'):az aj g args w fun e w'=>R e w'/\∃f',cS P' Q w' f'/\Turn f f' w w':=by
 obtain⟨f1,f2,h1,h2,h3,rfl⟩:=h;exact(hc f1 h1 (fun k hk=>aA hk)).mono fun e w' ⟨hr,h⟩=>⟨hr,Turn.first hP hQ h1 h2 h3 h⟩
theorem cS.secondC {P Q Q':ea} {w:ak} {f:Nat->Prop} {g:FuncId} {args:Array am} {R:Ending->ak->Prop} (hP:IsRes P) (hQ:IsRes Q) (h:cS P Q w f)
  (hc:∀f2,Q w f2->(∀k,f2 k->f k)->az aj g args w fun e w'=>R e w'/\∃f2',Q' w' f2'/\Turn f2 f2' w w'):az aj g args w fun e w'=>R e w'/\∃f',cS P Q' w' f'/\Turn f f' w w':=
 (cS.firstC hQ hP h.swap hc).mono fun e w' ⟨hr,f',h1,h2⟩=>⟨hr,f',h1.swap,h2⟩
noncomputable def RS.cr0 (S:RS) (b:List Int):RS:={S with D0:=cR S.D0 (ip S.D0 b) (bF S.D0 S.n0)}
noncomputable def RS.cr1 (S:RS) (b:List Int):RS:={S with D1:=cR S.D1 (ip S.D1 b) (bF S.D1 S.n1)}
section
variable {rb p0 p1:Nat} {S:RS} {w:ak} {f:Nat->Prop} {v:am} {b:List Int}
theorem aX.crash0 (h:aX rb p0 p1 S w f) (hv:Sl aq w v b) (hB:aP b) (hc:b≠ []->ju f v) (hm:S.Few 1000000):
  az aj 119 #[ao (some ⟨p0,0,none⟩),v] w fun e w'=>e=ar (aQ #[])/\∃f',aX rb p0 p1 (S.cr0 b) w' f'/\Turn f f' w w':=by
 refine cS.secondC (R:=fun e _=>e=ar (aQ #[])) (kL.isRes _ _ _) (S.disks_isRes p0 p1) h (Q':=(S.cr0 b).disks p0 p1) fun f2 h2 hs2=> ?_;refine cS.firstC (R:=fun e _=>e=ar (aQ #[])) (qX.isRes _ _ _) (qX.isRes _ _ _) h2 fun f3 h3 hs3=> ?_;refine(uN p0 S.n0 f3 S.D0 v b w h3.1 h3.2 hv hB (fun hn x off len cap e hf=>hc hn x off len cap e (hs2 _ (hs3 _ hf))) hm.1).mono ?_;rintro e w' ⟨rfl,f',g1,g2⟩;exact⟨rfl,f',⟨g1,h3.2⟩,g2⟩
theorem aX.crash1 (h:aX rb p0 p1 S w f) (hv:Sl aq w v b) (hB:aP b) (hc:b≠ []->ju f v) (hm:S.Few 1000000):
  az aj 119 #[ao (some ⟨p1,0,none⟩),v] w fun e w'=>e=ar (aQ #[])/\∃f',aX rb p0 p1 (S.cr1 b) w' f'/\Turn f f' w w':=by
 refine cS.secondC (R:=fun e _=>e=ar (aQ #[])) (kL.isRes _ _ _) (S.disks_isRes p0 p1) h (Q':=(S.cr1 b).disks p0 p1) fun f2 h2 hs2=> ?_;refine cS.secondC (R:=fun e _=>e=ar (aQ #[])) (qX.isRes _ _ _) (qX.isRes _ _ _) h2 fun f3 h3 hs3=> ?_;refine(uN p1 S.n1 f3 S.D1 v b w h3.1 h3.2 hv hB (fun hn x off len cap e hf=>hc hn x off len cap e (hs2 _ (hs3 _ hf))) hm.2).mono ?_;rintro e w' ⟨rfl,f',g1,g2⟩;exact⟨rfl,f',⟨g1,h3.2⟩,g2⟩
end
noncomputable def RS.cr (S:RS) (b0 b1:List Int):List Nat->RS
 | []=>S
 | [_]=>S.cr0 b0
 | _=>(S.cr0 b0).cr1 b1
theorem RS.cr0_few {S:RS} {m:Nat} (h:S.Few m) (b:List Int):(S.cr0 b).Few m:=⟨fun i hi=>by
 show(cR S.D0 _ _ i).vs.length<=m;rw[m6 S.D0 _ S.n0 i hi];exact bq _,h.2⟩
def m8 (w:ak) (f:Nat->Prop) (rb p0 p1:Nat) (S:RS) (b0 b1:List Int) (pre:List Nat) (W:ak):Prop:=∃f',aX rb p0 p1 (S.cr b0 b1 pre) W f'/\Turn f f' w W
theorem A0 (w:ak) (f:Nat->Prop) (rb p0 p1:Nat) (S:RS) (b0 b1:List Int) (N:Nat) (hN:w.heap.size<=N):OwnFrom N (m8 w f rb p0 p1 S b0 b1):=by
 rintro pre W W' row ⟨f',h1,h2⟩ hg hr;exact⟨f',(aX.isRes _ _ _ _).grown h1 hg (fun r e=>(hr r e).2),h2.kept hg (fun r e=>aZ hN (hr r e).1)⟩
theorem A5 {β:Type} (B:Nat) (t:aV) (a:Array am) (N:Nat):OwnFrom (β:=β) N (fun _ W=>W.heap[B]? =some (ap a t (0,0))):=by
 rintro s W W' row h hg hr;refine(hg.block B (cj.1 h).1 fun e=> ?_).trans h;obtain⟨_,o,ho,hc⟩:=hr B e.symm;rw[h]at ho;cases ho;cases hc
theorem aX.crash {rb p0 p1:Nat} {S:RS} {w:ak} {f:Nat->Prop} {v0 v1:am} {b0 b1:List Int} (h:aX rb p0 p1 S w f) (hv0:Sl aq w v0 b0) (hv1:Sl aq w v1 b1) (hB0:aP b0) (hB1:aP b1) (hc0:b0≠ []->ju f v0) (hc1:b1≠ []->ju f v1) (hm:S.Few 1000000):
  az aj 47 #[ao (some ⟨rb,0,none⟩),v0,v1] w fun e w'=>e=ar (aQ #[])/\∃f',aX rb p0 p1 (S.crash b0 b1) w' f'/\Turn f f' w w':=by
 obtain⟨a0,cap0,rfl, -, -, -, -⟩:=id hv0;obtain⟨a1,cap1,rfl, -, -, -, -⟩:=id hv1;obtain⟨L0,hL0⟩:=w9nm b0.length;obtain⟨L1,hL1⟩:=w9nm b1.length;rw[hL0]at hv0 hc0 ⊢;rw[hL1]at hv1 hc1 ⊢;have H:=ae h;have HV0:=ae hv0;have HV1:=ae hv1;have HB0:=ae hB0;have HB1:=ae hB1;have HC0:=ae hc0;have HC1:=ae hc1;have HM:=ae hm;clear h hv0 hv1 hB0 hB1 hc0 hc1 hm hL0 hL1;refine(callsIn_wide (n:=3)).1 ?_;refine jf func47 rfl trivial ?_ rfl;simp only[ntmps47,dU,cK,dP,Nat.reduceAdd,Nat.reduceSub,ez,eA,eD,eF,dT,dX]
 gi_wp2_with (refine⟨trivial, ?_⟩;gi_at_call 118;refine(qY _ _ trivial rfl _ _).mono ?_;rintro e w' ⟨rfl,rfl⟩)
 obtain⟨W0,hW0⟩:=w9nm ((w.alloc (ap #[ag a0 L0 cap0,ag a1 L1 cap1] 182)).alloc (ap #[ao (some ⟨rb,0,none⟩)] 31));have br:W0.heap[w.heap.size]? =some (ap #[ag a0 L0 cap0,ag a1 L1 cap1] 182 (0,0)):=by rw[←hW0,Below.heap_alloc _ _ _ (by simp)];exact bR w _
 have bd:Boxed W0 (w.heap.size+1) 31 (ao (some ⟨rb,0,none⟩)):=by
  rw[←hW0];have:=dY (w.alloc (ap #[ag a0 L0 cap0,ag a1 L1 cap1] 182)) 31 (ao (some ⟨rb,0,none⟩))
  rwa [dy]at this
 have hB0:ah w.heap.size w W0:=by rw[←hW0];exact((aF _ w).alloc (aJ _) _).alloc (by simp) _
 have hsz0:W0.heap.size=w.heap.size+2:=by rw[←hW0];simp
 rw[hW0];clear hW0;have P0:m8 W0 f rb p0 p1 S b0 b1 [] W0:=⟨f,H.out.beside hB0,Turn.refl _ _⟩;have HF:Hid (∀k,f k->k<w.heap.size):=(aX.isRes rb p0 p1 S).lt H.out;have HSZ:=ae hsz0;have HBZ:=ae hB0
 have stay:∀{v:am} {b:List Int} {f':Nat->Prop} {W:ak},Sl aq w v b->(b≠ []->ju f v)->Turn f f' W0 W->Sl aq W v b/\(b≠ []->ju f' v):=fun{v b f' W} hs hc ht=>
  ⟨(hs.below hB0).stay ht.size (fun hn x off len cap e hx=>ht.out x hx (hc hn x off len cap e)),fun hn x off len cap e hf=>(ht.new x hf).elim (hc hn x off len cap e) (fun h=>by have:=hs.lt_of hn e;omega)⟩
 have beyond:∀{f' f'':Nat->Prop} {W w':ak} {k:Nat},Turn f f' W0 W->Turn f' f'' W w'->w.heap.size<=k->k<W0.heap.size->w'.heap[k]? =W.heap[k]? :=fun{f' f'' W w' k} ht hu h1 h2=>
  hu.out k (aU h2 ht.size) (fun h=>(ht.new k h).elim (fun h=>by have:=HF.out k h;omega) (fun h=>by omega))
 have STEP:Hid (∀(pre:List Nat) (x:Nat) (W:ak),uP pre x->m8 W0 f rb p0 p1 S b0 b1 pre W->Boxed W (w.heap.size+1) 31 (ao (some ⟨rb,0,none⟩))->W.heap[w.heap.size]? =some (ap #[ag a0 L0 cap0,ag a1 L1 cap1] 182 (0,0))->
   az aj 119 #[ao (some ⟨jS p0 p1 x,0,none⟩),if x=0 then ag a0 L0 cap0 else ag a1 L1 cap1] W fun e w'=>e=ar (aQ #[])/\m8 W0 f rb p0 p1 S b0 b1 (pre++ [x]) w'/\KeepsOthers W w'/\Boxed w' (w.heap.size+1) 31 (ao (some ⟨rb,0,none⟩))/\w'.heap[w.heap.size]? =some (ap #[ag a0 L0 cap0,ag a1 L1 cap1] 182 (0,0))):=by
  rintro pre x W hok ⟨f',g1,g2⟩ hbd hbr;rcases hok with⟨rfl,rfl⟩ | ⟨rfl,rfl⟩
  ·obtain⟨s1,s2⟩:=stay HV0.out HC0.out g2;refine(aX.crash0 (S:=S) g1 s1 HB0.out s2 HM.out).mono ?_;rintro e w' ⟨rfl,f'',g3,g4⟩;exact⟨rfl,⟨f'',g3,g2.trans g4⟩,g4.others,(beyond g2 g4 (by omega) (by omega)).trans hbd,(beyond g2 g4 (by omega) (by omega)).trans hbr⟩
  ·obtain⟨s1,s2⟩:=stay HV1.out HC1.out g2;refine(aX.crash1 (S:=S.cr0 b0) g1 s1 HB1.out s2 (RS.cr0_few HM.out b0)).mono ?_;rintro e w' ⟨rfl,f'',g3,g4⟩;exact⟨rfl,⟨f'',g3,g2.trans g4⟩,g4.others,(beyond g2 g4 (by omega) (by omega)).trans hbd,(beyond g2 g4 (by omega) (by omega)).trans hbr⟩
 clear stay beyond;refine mX (n:=3) rfl (by omega) (gf:= 205) (lb:=#[ao (some ⟨w.heap.size+1,0,none⟩)]) rfl trivial (enters_of func205 (by kernel_rfl) rfl)
  (fun pre W=>Boxed W (w.heap.size+1) 31 (ao (some ⟨rb,0,none⟩))/\W.heap[w.heap.size]? =some (ap #[ag a0 L0 cap0,ag a1 L1 cap1] 182 (0,0))/\m8 W0 f rb p0 p1 S b0 b1 pre W)
  (fun _ _ _=>False)
  ((uQ (w.heap.size+1) rb p0 p1 W0).mono fun pre W hI=>⟨hI.1,by obtain⟨f',g1,_⟩:=hI.2.2;exact g1.cell 0,by obtain⟨f',g1,_⟩:=hI.2.2;exact g1.cell 1⟩)
  (aF _ _) (fun _=>rfl)
  ((jA _ _ (fun _=>ao (some ⟨rb,0,none⟩)) _).and ((A5 _ _ _ _).and (A0 W0 f rb p0 p1 S b0 b1 _ (aJ _))))
  (fun _ _ _ _ _ h _ _=>h.elim) ⟨bd,br,P0⟩ ?a1 ?assign ?body ?done ?stop
 case assign=>
  intro l x W K hK
  dsimp only[m5]
  gi_wp2
  exact hK
 case body=>
  rintro l pre x W ⟨hbd,hbr,hI⟩ hok;have HS:=ae (STEP.out pre x W hok hI hbd hbr);have c0:W.cell? ⟨w.heap.size,0,none⟩=some (ag a0 L0 cap0):=by rw[cl _ _ _ _ _ _ hbr];rfl
  have c1:W.cell? ⟨w.heap.size,1,none⟩=some (ag a1 L1 cap1):=by rw[cl _ _ _ _ _ _ hbr];rfl
  have c1':W.cell? ⟨w.heap.size,0+1,none⟩=some (ag a1 L1 cap1):=c1;clear hI hbd hbr;rcases hok with⟨rfl,rfl⟩ | ⟨rfl,rfl⟩
  ·rw[if_pos rfl]at HS
   gi_wp2_with (refine⟨trivial, ?_⟩;gi_at_call 119;refine(CallsIn.inRound l (callsIn_wide.2 HS.out)).mono ?_;rintro e w' ⟨rfl,e1,e2,e3,e4⟩)
   exact⟨e2.from _,trivial,e3,e4,e1⟩
  ·rw[if_neg (by omega)]at HS
   gi_wp2_with (refine⟨trivial, ?_⟩;gi_at_call 119;refine(CallsIn.inRound l (callsIn_wide.2 HS.out)).mono ?_;rintro e w' ⟨rfl,e1,e2,e3,e4⟩)
   exact⟨e2.from _,trivial,e3,e4,e1⟩
 case done=>
  rintro Dd xs W hDd rfl ⟨hbd,hbr,f',g1,g2⟩ hK;have q2:W.cell? ⟨rb,2,none⟩=some (ab af S.fuse):=g1.cell 2;have q3:W.cell? ⟨rb,3,none⟩=some (.bool S.down):=g1.cell 3;have r2:=g1.frozen 2;have r3:=g1.frozen 3;have G1:=ae g1;have G2:=ae g2;clear g1 g2 hbd hbr
  gi_wp2
  have hK':=(iC (W.setCell ⟨rb,2,none⟩ (ab af (-1))) ⟨rb,3,none⟩ (.bool false)).same Dd _ ((iC W ⟨rb,2,none⟩ (ab af (-1))).same Dd _ hK rfl) rfl;refine⟨by simp,aA ⟨_,_,rfl,iD hK', ?_⟩⟩;obtain⟨g3,g4⟩:=G1.out.set (RS.disks_isRes p0 p1 _) 2 (ab af (-1));obtain⟨g5,g6⟩:=g3.set (RS.disks_isRes p0 p1 _) 3 (.bool false);have hgr:=grownBy_putObj' ((W.setCell ⟨rb,2,none⟩ (ab af (-1))).setCell ⟨rb,3,none⟩ (.bool false)) Dd (.deferred none);have hT:=(Turn.of_below (f:=f) HBZ.out).trans ((G2.out.trans g4).trans g6);exact⟨_,results_none rfl _ _ _,rfl,f',(aX.isRes rb p0 p1 (S.crash b0 b1)).grown g5 hgr (fun r e=>by cases e;exact⟨_,hK',rfl⟩),hT.kept hgr (fun r e=>by cases e;have:=HSZ.out;omega)⟩
 case stop=>
  rintro D c pre W _ h _;exact h.elim
end
section
attribute [-simp] isAgg51 zeroValue51
attribute [-go_sem] aE aL
attribute [local go_sem] bC bD dZ dQ
def jv (v:Int) (k:Nat):List am:=bK k (ab aq v)++bK (64 - k) (ab aq 0)
theorem A7 (v:Int):(jv v 0).toArray=cx:=by simp[jv,cx,a9]
theorem A9 (v:Int):jv v 64=a9 v:=by simp[jv,a9]
theorem Be (v:Int) (k:Nat) (h:k<64):(jv v k)[k]? =some (ab aq 0):=by
 unfold jv;rw[fF (by simp),List.length_replicate,Nat.sub_self];rw[jL,if_pos (by omega)]
theorem Bf (v:Int) (k:Nat) (h:k<64):(jv v k).set k (ab aq v)=jv v (k+1):=by
 unfold jv;rw[List.set_append_right _ _ (by simp),show 64 - k=(64 - (k+1))+1 by omega,List.replicate_succ (n:=64 - (k+1))];simp[List.replicate_succ']
theorem Bj (v:Int) (w:ak):az aj 15 #[ab aq v] w fun e w'=>e=ar (al (a9 v).toArray)/\ah w.heap.size w w':=by
 obtain⟨W,hW⟩:=w9nm (w.alloc (ap cx 51));have hsz:W.heap.size=w.heap.size+1:=by rw[←hW];simp
 have HB:Hid (ah w.heap.size w W):=by rw[←hW];exact(aF _ w).alloc (aJ _) _
 have HSZ:=ae hsz;have hblk:W.heap[w.heap.size]? =some (ap cx 51 (0,0)):=by rw[←hW];exact bR w _
 have HBK:=ae hblk;clear hsz hblk;go_enter func15,ntmps15;go_wp2_with fail;clear hW;go_loopw [4] (fun i wr=>∃k:Nat,k<=64/\i=ab af k/\wr=W.alloc (ap (jv v k).toArray 51)) (fun i _=>64 - (aW i).toNat)
 case atStart=>exact⟨0,bq _,rfl,by rw[A7]⟩
 case round=>
  obtain⟨k,hk,rfl,rfl⟩:=hrel;by_cases hlt:k<64
  ·have c1:(W.alloc (ap (jv v k).toArray 51)).cell? ⟨W.heap.size,k,none⟩=some (ab aq 0):=by
    rw[cl _ _ _ _ _ _ (bR W _)];simpa using Be v k hlt
   have f1:(W.alloc (ap (jv v k).toArray 51)).frozen? ⟨W.heap.size,k,none⟩=false:=by
    unfold World.frozen?;rw[bR W _];simp
   have g1:(k:Int)<64:=by omega
   have HN:=ae (Bf v k hlt);have HLT:=ae hlt;clear hlt hk;go_wp2;exact⟨⟨k+1,HLT.out,by simp,by rw[HN.out]⟩,by have:=HLT.out;simp[aW];omega⟩
  ·obtain rfl:k=64:=by omega
   rw[A9];obtain⟨W2,hW2⟩:=w9nm (W.alloc (ap (a9 v).toArray 51));have L:(aE 51 ⟨W.heap.size,0,none⟩).run aj W2=.ok (al (a9 v).toArray) W2:=by rw[←hW2];exact mM (by simp[(fv v).length])
   have hblk:W2.heap[w.heap.size]? =some (ap cx 51 (0,0)):=by rw[←hW2,Below.heap_alloc _ _ _ (by have:=HSZ.out;omega)];exact HBK.out
   have ht:W2.there w.heap.size 0 64:=fun j hj=>by
    have hcell:=cl W2 w.heap.size (0+j) cx _ _ hblk;refine⟨?_, ?_⟩
    ·rw[hcell];simp[dj];omega
    ·simp[World.frozen?,hblk]
   obtain⟨W3,hW3⟩:=w9nm (W2.setCells w.heap.size 0 (a9 v));have S:(aL 51 ⟨w.heap.size,0,none⟩ (al (a9 v).toArray)).run aj W2=.ok () W3:=by rw[←hW3];exact lk ht (fv v)
   have R:(aE 51 ⟨w.heap.size,0,none⟩).run aj W3=.ok (al (a9 v).toArray) W3:=by
    rw[←hW3];exact dd (gE W2 _ 0 (a9 v) (by rw[(fv v).length];exact ht)) (fv v).length
   have HB3:Hid (ah w.heap.size w W3):=by
    have h2:ah w.heap.size w W2:=by rw[←hW2];exact HB.out.alloc HB.out.size _
    have h3:ah w.heap.size W2 W3:=by
     rw[←hW3];exact kJ (aJ _) _ _ _
    exact h2.trans h3
   have g1:¬((64:Int)<64):=by omega
   clear hblk ht hW3 hk hlt;go_wp2_with fail;exact bl (ff rfl rfl R) rfl ⟨rfl,HB3.out⟩
end
section
abbrev jD (w0 W:ak) (rb p0 p1:Nat) (S:RS) (own:Nat->Prop):Prop:=dL (aX rb p0 p1 S) w0 W own
theorem RS.fit {S:RS} (h1:S.fuse<=9223372036854775807) (h2:0<=S.done) (h3:S.done<=1000000):S.Fit:=⟨fun h=>gj _ (by omega),gj _ (by omega)⟩
section
variable {w0 W W':ak} {rb p0 p1:Nat} {S:RS} {own:Nat->Prop}
theorem jD.new (n0 n1:Nat) (w0 w:ak) (hb:w9b w0 w) (h01:1<=n0) (h02:n0<=4096) (h11:1<=n1) (h12:n1<=4096) (own:Nat->Prop) (ho:∀k,own k->k<w.heap.size):
  az aj 12 #[ab af (n0:Int),ab af (n1:Int)] w fun e w'=>∃rb p0 p1,e=ar (aQ #[ao (some ⟨rb,0,none⟩),ab af 0])/\jD w0 w' rb p0 p1 (gq n0 n1) own/\ah w.heap.size w w':=by
 refine(AY n0 n1 w h01 h02 h11 h12).mono ?_;rintro e w' ⟨rb,p0,p1,rfl,⟨f,g1,g2⟩,g3⟩;exact⟨rb,p0,p1,rfl,⟨f,g1,fun k hk=>⟨aZ hb.size (g2 k hk),fun h=>by have:=ho k h;have:=g2 k hk;omega⟩,fun k hk=>aU (ho k hk) g3.size,hb.trans (g3.mono hb.size)⟩,g3⟩
theorem jD.crash {v0 v1:am} {b0 b1:List Int} (h:jD w0 W rb p0 p1 S own) (hv0:Sl aq W v0 b0) (hv1:Sl aq W v1 b1) (hB0:aP b0) (hB1:aP b1)
  (hc0:b0≠ []->∀b off len cap,v0=ag (some ⟨b,off,none⟩) len cap->b<w0.heap.size\/own b) (hc1:b1≠ []->∀b off len cap,v1=ag (some ⟨b,off,none⟩) len cap->b<w0.heap.size\/own b) (hm:S.Few 1000000):
  az aj 47 #[ao (some ⟨rb,0,none⟩),v0,v1] W fun e w'=>e=ar (aQ #[])/\jD w0 w' rb p0 p1 (S.crash b0 b1) own/\∀k,own k->w'.heap[k]? =W.heap[k]? :=
 dL.call (R:=fun e _=>e=ar (aQ #[])) (aX.isRes _ _ _ _) h fun f hf hk=>by
  refine hf.crash hv0 hv1 hB0 hB1 (fun hn b off len cap e hfb=> ?_) (fun hn b off len cap e hfb=> ?_) hm
  ·rcases hc0 hn b off len cap e with h' | h'
   ·have:=(hk b hfb).1;omega
   ·exact(hk b hfb).2 h'
  ·rcases hc1 hn b off len cap e with h' | h'
   ·have:=(hk b hfb).1;omega
   ·exact(hk b hfb).2 h'
end
end
section
structure RS.Up (S:RS):Prop where
 fuse:S.fuse= -1
 down:S.down=false
theorem RS.Up.ok {S:RS} (h:S.Up):S.ok=true:=by unfold RS.ok;rw[h.down,h.fuse];rfl
theorem RS.Up.after {S:RS} (h:S.Up):S.after={S with done:=S.done+1}:=by
 unfold RS.after;rw[if_pos h.ok,if_neg (by rw[h.fuse];omega)]
theorem RS.put_rest (S:RS) (dev:Int) (i:Nat) (b:List am):(S.put dev i b).fuse=S.fuse/\(S.put dev i b).down=S.down/\(S.put dev i b).done=S.done/\(S.put dev i b).n0=S.n0/\(S.put dev i b).n1=S.n1:=by
 unfold RS.put;split<;>exact⟨rfl,rfl,rfl,rfl,rfl⟩
theorem RS.fl_rest (S:RS) (dev:Int):(S.fl dev).fuse=S.fuse/\(S.fl dev).down=S.down/\(S.fl dev).done=S.done/\(S.fl dev).n0=S.n0/\(S.fl dev).n1=S.n1:=by
 unfold RS.fl;split<;>exact⟨rfl,rfl,rfl,rfl,rfl⟩
theorem RS.Up.write {S:RS} (h:S.Up) (dev i:Int) (b:List am):(S.write dev i b).Up/\((S.writeE dev i=0/\(S.write dev i b).done=S.done+1)\/(S.writeE dev i=1/\(S.write dev i b).done=S.done)):=by
 unfold RS.write RS.writeE;split
 ·rw[if_pos h.ok,if_pos h.ok,h.after];have:=RS.put_rest {S with done:=S.done+1} dev i.toNat b;exact⟨⟨this.1.trans h.fuse,this.2.1.trans h.down⟩,aA ⟨rfl,this.2.2.1⟩⟩
 ·exact⟨h,aC ⟨rfl,rfl⟩⟩
theorem RS.Up.flush {S:RS} (h:S.Up) (dev:Int):(S.flush dev).Up/\((S.flushE dev=0/\(S.flush dev).done=S.done+1)\/(S.flushE dev=1/\(S.flush dev).done=S.done)):=by
 unfold RS.flush RS.flushE;split
 ·rw[if_pos h.ok,if_pos h.ok,h.after];have:=RS.fl_rest {S with done:=S.done+1} dev;exact⟨⟨this.1.trans h.fuse,this.2.1.trans h.down⟩,aA ⟨rfl,this.2.2.1⟩⟩
 ·exact⟨h,aC ⟨rfl,rfl⟩⟩
theorem RS.crash_up (S:RS) (b0 b1:List Int):(S.crash b0 b1).Up/\(S.crash b0 b1).done=S.done:=⟨⟨rfl,rfl⟩,rfl⟩
theorem rg (n0 n1:Nat):(gq n0 n1).Up:=⟨rfl,rfl⟩
theorem ve {D:Nat->Sec} {n m k:Nat} {b:List am} (h:∀i,i<n->(D i).vs.length<=m) (hk:k<n) (hm:m<=254):∀i,i<n->(dD D k ((D k).add b) i).vs.length<=m+1:=fun i hi=>by
 by_cases e:i=k
 ·subst e;rw[en,uR _ _ (by have:=h i hi;omega)];have:=h i hi;omega
 ·rw[ef _ _ e];exact Nat.le_succ_of_le (h i hi)
theorem RS.few_put {S:RS} {m:Nat} (h:S.Few m) (hm:m<=254) {dev i:Int} (hi:S.has dev i=true) (b:List am):(S.put dev i.toNat b).Few (m+1):=by
 obtain⟨hd,k,rfl,hk⟩:=RS.has_lt hi;rcases hd with rfl | rfl
 ·exact⟨ve h.1 (by exact hk) hm,fun i hi=>Nat.le_succ_of_le (h.2 i hi)⟩
 ·exact⟨fun i hi=>Nat.le_succ_of_le (h.1 i hi),ve h.2 (by exact hk) hm⟩
theorem RS.few_write {S:RS} {m:Nat} (h:S.Few m) (hm:m<=254) (dev i:Int) (b:List am):(S.write dev i b).Few (m+1):=by
 unfold RS.write;split
 ·next hh=>
  split
  ·exact RS.few_put (RS.after_few h) hm (by unfold RS.has;rw[S.after_len];exact hh) b
  ·exact(RS.after_few h).mono (by omega)
 ·exact h.mono (by omega)
theorem RS.few_fl {S:RS} {m:Nat} (h:S.Few m) (dev:Int):(S.fl dev).Few m:=by
 unfold RS.fl;split
 ·exact⟨fun i hi=>by show(dA S.D0 S.n0 i).vs.length<=m;unfold dA;rw[if_pos (by exact hi)];exact bq _,h.2⟩
 ·exact⟨h.1,fun i hi=>by show(dA S.D1 S.n1 i).vs.length<=m;unfold dA;rw[if_pos (by exact hi)];exact bq _⟩
theorem RS.few_flush {S:RS} {m:Nat} (h:S.Few m) (dev:Int):(S.flush dev).Few m:=by
 unfold RS.flush;split
 ·split
  ·exact RS.few_fl (RS.after_few h) dev
  ·exact RS.after_few h
 ·exact h
theorem RS.few_crash (S:RS) (b0 b1:List Int) (m:Nat):(S.crash b0 b1).Few m:=
 ⟨fun i hi=>by show(cR S.D0 _ _ i).vs.length<=m;rw[m6 S.D0 _ S.n0 i hi];exact bq _,fun i hi=>by show(cR S.D1 _ _ i).vs.length<=m;rw[m6 S.D1 _ S.n1 i hi];exact bq _⟩
theorem rh (n0 n1 m:Nat):(gq n0 n1).Few m:=⟨fun i _=>bq _,fun i _=>bq _⟩
def byt (c:List am):List Int:=c.map aW
theorem jT (bs:List Int):byt (an bs)=bs:=by
 unfold byt an;rw[iA,show aW ∘ Value.int aq=id from by funext x;rfl,List.map_id]
def RS.rd (S:RS) (i:Nat):List Int:=byt (S.D0 i).look
def RS.wrs (S:RS):List (Nat×List am)->RS×Bool
 | []=>(S,true)
 | (i,b)::l=>if S.writeE 0 (i:Int)=0 then(S.write 0 (i:Int) b).wrs l else(S.write 0 (i:Int) b,false)
def jE (D:Nat->Sec):List (Nat×List am)->Nat->Sec
 | []=>D
 | (i,b)::l=>jE (dD D i ((D i).add b)) l
theorem oC {i:Nat}:∀(l:List (Nat×List am)) (D:Nat->Sec),i ∉ l.map (·.1)->jE D l i=D i
 | [],D,_=>rfl
 | (j,b)::l,D,h=>by
  simp only[List.map_cons,ec,not_or]at h;show jE (dD D j _) l i=_;rw[oC l _ h.2,ef _ _ h.1]
theorem rj {i:Nat} {b:List am}:∀(l:List (Nat×List am)) (D:Nat->Sec),(l.map (·.1)).Nodup->(i,b)∈ l->jE D l i=(D i).add b
 | [],D,_,h=>by simp at h
 | (j,c)::l,D,hn,h=>by
  simp only[List.map_cons,List.nodup_cons]at hn;show jE (dD D j _) l i=_;rcases ec.1 h with e | h
  ·cases e;rw[oC l _ hn.1,en]
  ·have hne:i≠j:=fun e=>hn.1 (e▸List.mem_map_of_mem h);rw[rj l _ hn.2 h,ef _ _ hne]
structure Same0 (S T:RS):Prop where
 n0:T.n0=S.n0
 n1:T.n1=S.n1
 D1:T.D1=S.D1
theorem Same0.refl (S:RS):Same0 S S:=⟨rfl,rfl,rfl⟩
theorem Same0.trans {A B C:RS} (h:Same0 A B) (k:Same0 B C):Same0 A C:=⟨k.n0.trans h.n0,k.n1.trans h.n1,k.D1.trans h.D1⟩
theorem RS.has0 {S:RS} {i:Nat} (h:i<S.n0):S.has 0 (i:Int)=true:=by
 unfold RS.has RS.len;rw[if_pos rfl];exact decide_eq_true ⟨by omega,by omega⟩
theorem RS.write0 (S:RS) {i:Nat} (h:i<S.n0) (b:List am):Same0 S (S.write 0 (i:Int) b)/\((S.ok=true/\S.writeE 0 (i:Int)=0/\(S.write 0 (i:Int) b).D0=dD S.D0 i ((S.D0 i).add b))\/(S.ok=false/\S.writeE 0 (i:Int)=14/\(S.write 0 (i:Int) b).D0=S.D0)):=by
 have hh:=RS.has0 h;obtain⟨e0,e1,e2,e3⟩:=S.after_same;unfold RS.write RS.writeE;rw[if_pos hh,if_pos hh];by_cases hok:S.ok=true
 ·rw[if_pos hok,if_pos hok];refine⟨?_,aA ⟨hok,rfl, ?_⟩⟩
  ·unfold RS.put;rw[if_pos rfl];exact⟨e0,e1,e3⟩
  ·unfold RS.put;rw[if_pos rfl];show dD S.after.D0 _ ((S.after.D0 _).add b)=_;rw[e2]
   rfl
 ·rw[if_neg hok,if_neg hok];exact⟨⟨e0,e1,e3⟩,aC ⟨by simpa using hok,rfl,e2⟩⟩
theorem RS.flush0 (S:RS):Same0 S (S.flush 0)/\((S.ok=true/\S.flushE 0=0/\(S.flush 0).D0=dA S.D0 S.n0)\/(S.ok=false/\S.flushE 0=14/\(S.flush 0).D0=S.D0)):=by
 obtain⟨e0,e1,e2,e3⟩:=S.after_same;have a1:S.flush 0=if S.ok=true then S.after.fl 0 else S.after:=by unfold RS.flush;rw[if_pos (Or.inl rfl)]
 have a2:S.flushE 0=if S.ok=true then 0 else 14:=by unfold RS.flushE;rw[if_pos (Or.inl rfl)]
 rw[a1,a2];by_cases hok:S.ok=true
 ·rw[if_pos hok,if_pos hok];refine⟨?_,aA ⟨hok,rfl, ?_⟩⟩
  ·unfold RS.fl;rw[if_pos rfl];exact⟨e0,e1,e3⟩
  ·unfold RS.fl;rw[if_pos rfl];show dA S.after.D0 S.after.n0=_;rw[e2,e0]
 ·rw[if_neg hok,if_neg hok];exact⟨⟨e0,e1,e3⟩,aC ⟨by simpa using hok,rfl,e2⟩⟩
theorem RS.wrs_spec:∀(l:List (Nat×List am)) (S:RS),(∀x ∈ l,x.1<S.n0)->Same0 S (S.wrs l).1/\∃m,m<=l.length/\(S.wrs l).1.D0=jE S.D0 (l.take m)/\((S.wrs l).2=true->m=l.length)
 | [],S,_=>⟨Same0.refl S,0,aJ _,rfl,fun _=>rfl⟩
 | (i,b)::l,S,h=>by
  have hi:i<S.n0:=h (i,b) eV;obtain⟨h1,h2⟩:=S.write0 hi b;unfold RS.wrs;rcases h2 with⟨hok,he,hD⟩ | ⟨hok,he,hD⟩
  ·rw[if_pos he];obtain⟨g1,m,g2,g3,g4⟩:=RS.wrs_spec l (S.write 0 (i:Int) b) (fun x hx=>by rw[h1.n0];exact h x (fG _ hx));refine⟨h1.trans g1,m+1,by simpa using g2, ?_,fun hh=>by rw[g4 hh];rfl⟩;rw[g3,hD]
   rfl
  ·rw[if_neg (by rw[he];omega)];exact⟨h1,0,bq _,hD,fun hh=>by simp at hh⟩
theorem RS.Up.wrs:∀(l:List (Nat×List am)) {S:RS},S.Up->(∀x ∈ l,x.1<S.n0)->(S.wrs l).2=true/\(S.wrs l).1.Up
 | [],S,hu,_=>⟨rfl,hu⟩
 | (i,b)::l,S,hu,h=>by
  have hi:i<S.n0:=h (i,b) eV;obtain⟨h1,h2⟩:=S.write0 hi b;unfold RS.wrs;rcases h2 with⟨hok,he,hD⟩ | ⟨hok,he,hD⟩
  ·rw[if_pos he];exact RS.Up.wrs l (hu.write 0 (i:Int) b).1 (fun x hx=>by rw[h1.n0];exact h x (fG _ hx))
  ·rw[hu.ok]at hok;cases hok
def bQ (frm count at0:Nat) (seq:Int) (t:List Img):List (Nat×List am):=(bu seq t).zipIdx.map fun x=>(frm+(at0+x.2)%count,an x.1)
theorem lA (frm count at0:Nat) (seq:Int) (t:List Img):(bQ frm count at0 seq t).length=t.length+1:=by simp[bQ,gY]
theorem lB {frm count at0:Nat} {seq:Int} {t:List Img} {k:Nat} {b:List Int} (h:(bu seq t)[k]? =some b):(bQ frm count at0 seq t)[k]? =some (frm+(at0+k)%count,an b):=by
 unfold bQ;rw[du,List.getElem?_zipIdx,h];simp
theorem rk (frm count at0:Nat) (seq:Int) (t:List Img):(bQ frm count at0 seq t).map (·.1)=(dm (t.length+1)).map fun k=>frm+(at0+k)%count:=by
 apply List.ext_getElem?;intro k;rw[du,du];by_cases hk:k<t.length+1
 ·rw[List.getElem?_range hk];have:k< (bu seq t).length:=by rw[gY];exact hk
  rw[lB (bJ this)]
  rfl
 ·rw[iB (by rw[lA];omega),iB (by simp;omega)]
  rfl
theorem rl {a count j k:Nat} (hj:j<count) (hk:k<count) (h:(a+j)%count=(a+k)%count):j=k:=by
 have h1:=Nat.div_add_mod (a+j) count;have h2:=Nat.div_add_mod (a+k) count;rw[h]at h1;rcases Nat.lt_trichotomy ((a+j) / count) ((a+k) / count)with h3 | h3 | h3
 ·have:=Nat.mul_le_mul_left count (show(a+j) / count+1<=(a+k) / count from h3);rw[Nat.mul_succ]at this;omega
 ·rw[h3]at h1;omega
 ·have:=Nat.mul_le_mul_left count (show(a+k) / count+1<=(a+j) / count from h3);rw[Nat.mul_succ]at this;omega
theorem vf {frm count at0:Nat} {seq:Int} {t:List Img} (h:t.length+1<=count):((bQ frm count at0 seq t).map (·.1)).Nodup:=by
 rw[rk];unfold List.Nodup;rw[List.pairwise_map];refine List.Pairwise.imp_of_mem (fun{j k} hj hk hne e=> ?_) List.nodup_range;have hj:=fo.1 hj;have hk:=fo.1 hk;exact hne (rl (a:=at0) (count:=count) (by omega) (by omega) (by omega))
def RS.app (S:RS) (frm count at0:Nat) (seq:Int) (t:List Img):RS×Int:=
 if(S.wrs ((bQ frm count at0 seq t).take t.length)).2=false then((S.wrs ((bQ frm count at0 seq t).take t.length)).1,14)
 else if(S.wrs ((bQ frm count at0 seq t).take t.length)).1.flushE 0≠0 then((S.wrs ((bQ frm count at0 seq t).take t.length)).1.flush 0,14)
 else if(((S.wrs ((bQ frm count at0 seq t).take t.length)).1.flush 0).wrs ((bQ frm count at0 seq t).drop t.length)).2=false then((((S.wrs ((bQ frm count at0 seq t).take t.length)).1.flush 0).wrs ((bQ frm count at0 seq t).drop t.length)).1,14)
 else if(((S.wrs ((bQ frm count at0 seq t).take t.length)).1.flush 0).wrs ((bQ frm count at0 seq t).drop t.length)).1.flushE 0≠0 then((((S.wrs ((bQ frm count at0 seq t).take t.length)).1.flush 0).wrs ((bQ frm count at0 seq t).drop t.length)).1.flush 0,14)
 else((((S.wrs ((bQ frm count at0 seq t).take t.length)).1.flush 0).wrs ((bQ frm count at0 seq t).drop t.length)).1.flush 0,0)
end
section
section
variable {S:RS} {frm count at0:Nat} {seq:Int} {t:List Img}
def cI (frm count at0 k:Nat):Nat:=frm+(at0+k)%count
theorem Bm (hc:0<count) (hn:frm+count<=S.n0):∀x ∈ bQ frm count at0 seq t,x.1<S.n0:=fun x hx=>by
 have:x.1 ∈(bQ frm count at0 seq t).map (·.1):=List.mem_map_of_mem hx;rw[rk]at this;obtain⟨k,_,e⟩:=dc.1 this;rw[←e];have:=fO (at0+k) hc;omega
def Sec.may (s:Sec) (c:List am):Prop:=c=s.c\/c ∈ s.vs
theorem Sec.add_few {s:Sec} (h:s.vs.length<=255) (b:List am):s.add b=⟨s.c,s.vs++ [b]⟩:=by unfold Sec.add;rw[if_neg (by omega)]
theorem Sec.look_add {s:Sec} (h:s.vs.length<=255) (b:List am):(s.add b).look=b:=by rw[Sec.add_few h];unfold Sec.look;simp
theorem vg {s:Sec} (h:s.vs= []):s.look=s.c:=by unfold Sec.look;rw[h];rfl
theorem Bo (hc:0<count) (hn:frm+count<=S.n0) (k:Nat):cI frm count at0 k<S.n0:=by
 unfold cI;have:=fO (at0+k) hc;omega
theorem oD {j k:Nat} (hj:j<count) (hk:k<count) (h:cI frm count at0 j=cI frm count at0 k):j=k:=by
 unfold cI at h;exact rl (a:=at0) hj hk (by omega)
theorem Br {b:List Int} (hb:(bu seq t)[t.length]? =some b):(bQ frm count at0 seq t).drop t.length= [(cI frm count at0 t.length,an b)]:=by
 have hL:=lA frm count at0 seq t;rw[List.drop_eq_getElem_cons (by omega),List.drop_of_length_le (by omega)];have:=lB (frm:=frm) (count:=count) (at0:=at0) hb;rw[bJ (by omega)]at this;rw[Option.some.inj this]
 rfl
theorem vh (seq:Int) (t:List Img):(bu seq t)[t.length]? =some (cz seq t.length).bytes:=by
 unfold bu;rw[fF (by simp)];simp
theorem Bu (T:RS) (b0 b1:List Int) {i:Nat} (hi:i<T.n0):∃c,(T.crash b0 b1).D0 i=⟨c, []⟩/\(T.D0 i).may c:=by
 have h1:=m6 T.D0 (ip T.D0 b0) T.n0 i hi;have h2:=AO T.D0 (ip T.D0 b0) T.n0 i hi;refine⟨(cR T.D0 (ip T.D0 b0) (bF T.D0 T.n0) i).look, ?_,h2⟩;show cR T.D0 (ip T.D0 b0) (bF T.D0 T.n0) i=_;rw[vg h1];cases hs:cR T.D0 (ip T.D0 b0) (bF T.D0 T.n0) i with
 | mk c vs=>
  rw[hs]at h1;subst h1
  rfl
theorem Sec.eta {s:Sec} (h:s.vs= []):s=⟨s.look, []⟩:=by
 rw[vg h];cases s;simp at h;rw[h]
end
end
section
theorem mo (frm count p0 L k:Nat):cI frm count ((p0+L)%count) k=cI frm count p0 (L+k):=by
 unfold cI;rw[Nat.mod_add_mod,Nat.add_assoc]
theorem By {frm count p0 k:Nat} (h:p0<count):cI frm count p0 (count+k)=cI frm count p0 k:=by
 unfold cI;rw[show p0+(count+k)=p0+k+count by omega,Nat.add_mod_right]
structure RingIs (S:RS) (frm count p0:Nat) (q0:Int) (ts:List (List Img)):Prop where
 room:frm+count<=S.n0
 two:2<=count
 most:count<=256
 at0:p0<count
 seq:cH q0
 ok:∀t ∈ ts,TxnOk count t
 fits:(bO q0 ts).length<=count
 lay:∀k,k< (bO q0 ts).length->(bO q0 ts)[k]? =some (S.rd (cI frm count p0 k))
theorem RingIs.laid {S:RS} {frm count p0:Nat} {q0:Int} {ts:List (List Img)} (h:RingIs S frm count p0 q0 ts):mS S.rd frm count p0 q0 ts ((p0+(bO q0 ts).length)%count) (gm q0 ts.length):=
 ur (by have:=h.most;omega) (by have:=h.two;omega) ts p0 q0 h.seq h.ok h.lay h.at0
theorem Bz (q0:Int) (ts:List (List Img)) (h:∀t ∈ ts,1<=t.length):2*ts.length<=(bO q0 ts).length:=by
 induction ts generalizing q0 with
 | nil=>simp
 | cons t ts ih=>
  have h1:=h t eV;have h2:=ih ((q0+1)%4294967296) (fun u hu=>h u (fG _ hu));show 2*(ts.length+1)<=(bu q0 t++bO _ ts).length;rw[cX,gY];omega
theorem RingIs.len {S:RS} {frm count p0:Nat} {q0:Int} {ts:List (List Img)} (h:RingIs S frm count p0 q0 ts):2*ts.length<=count:=aZ (Bz q0 ts (fun t ht=>(h.ok t ht).least)) h.fits
theorem RingIs.rep {S:RS} {frm count p0:Nat} {q0:Int} {ts:List (List Img)} (h:RingIs S frm count p0 q0 ts) (hn:io S.rd frm count ((p0+(bO q0 ts).length)%count) (gm q0 ts.length)=none):
  cC S.rd frm count p0 q0=(ts,(p0+(bO q0 ts).length)%count,gm q0 ts.length):=
 Ar h.laid hn (by have:=h.len;omega)
theorem RingIs.more {S S':RS} {frm count p0:Nat} {q0:Int} {ts:List (List Img)} {t:List Img} (h:RingIs S frm count p0 q0 ts) (ht:TxnOk count t) (hfit:(bO q0 ts).length+t.length+1<=count) (hn:S'.n0=S.n0)
  (hnew:∀k b,(bu (gm q0 ts.length) t)[k]? =some b->S'.rd (cI frm count ((p0+(bO q0 ts).length)%count) k)=b)
  (hold:∀i,i<S.n0->(∀k,k<=t.length->i≠cI frm count ((p0+(bO q0 ts).length)%count) k)->S'.rd i=S.rd i):RingIs S' frm count p0 q0 (ts++ [t]):=by
 have hl:bO q0 (ts++ [t])=bO q0 ts++bu (gm q0 ts.length) t:=by rw[qN _ _ _ h.seq,ut]
 refine⟨by rw[hn];exact h.room,h.two,h.most,h.at0,h.seq, ?_, ?_, ?_⟩
 ·intro u hu;rcases gW.1 hu with hu | hu
  ·exact h.ok u hu
  ·simp at hu;rw[hu];exact ht
 ·rw[hl,cX,gY];omega
 ·intro k hk;rw[hl]at hk ⊢;by_cases hlt:k< (bO q0 ts).length
  ·rw[eU hlt,h.lay k hlt,hold _ (Bo (show 0<count by have:=h.two;omega) h.room k) (fun j hj e=> ?_)];rw[mo]at e;have:=oD (frm:=frm) (at0:=p0) (count:=count) (j:=k) (k:=(bO q0 ts).length+j) (by omega) (by omega) e;omega
  ·rw[cX,gY]at hk;rw[fF (by omega)];have hlen:k - (bO q0 ts).length< (bu (gm q0 ts.length) t).length:=by rw[gY];omega
   rw[bJ hlen];have:=hnew _ _ (bJ hlen);rw[mo,show(bO q0 ts).length+(k - (bO q0 ts).length)=k by omega]at this;rw[this]
def cnt (n:Int):Int:=if n<1 then 0 else(n - 1) / 48+1
theorem vj (n:Nat):cnt n=((n+47) / 48:Nat):=by
 unfold cnt;split<;>omega
theorem vk (n:Int) (w:ak) (h0: -9223372036854775808<=n) (h1:n<9223372036854775808):
  az aj 77 #[ab af n] w fun e w'=>e=ar (ab af (cnt n))/\w'=w:=by
 by_cases hn:n<1
 ·have hc:cnt n=0:=if_pos hn;rw[hc];go_enter func77,ntmps77;go_wp2_with fail;all_goals(go_ret;exact⟨rfl,rfl⟩)
 ·have hc:cnt n=(n - 1) / 48+1:=if_neg hn;have hq:Int.tdiv (n - 1) 48=(n - 1) / 48:=Int.tdiv_eq_ediv_of_nonneg (by omega);rw[hc];go_enter func77,ntmps77;go_wp2_with fail;all_goals(go_ret;exact⟨rfl,rfl⟩)
def dR:List am:=an (bK 48 0)
theorem oE:dR.toArray.size=48:=by simp[dR,an]
theorem rn:aj.underlying 205 =some (.array 48 5):=by kernel_rfl
theorem oG:(aj.info? 205).map (fun i=>(i.zero,i.size,i.bytes))=some (some (al dR.toArray),48,48):=by kernel_rfl
theorem vm:(aj.info? 205).map (·.size)=some 48:=by kernel_rfl
theorem cV (w:ak):(zeroValue 205).run aj w=.ok (al dR.toArray) w:=by kernel_rfl
theorem iH {w:ak} {b o:Nat} {c:List am} (hc:w.rangeAt b o c) (h:c.length=48):(aE 205 ⟨b,o,none⟩).run aj w=.ok (al c.toArray) w:=
 iL w b o _ c _ hc rn rfl (by rw[h];exact vm)
theorem ro (t:aV) (h:t≠ 51 /\t≠ 205) (a:aN):aE t a=(do if←isAgg t then pure (al (←loadCells a (←sizeOf t)))else load a):=rfl
theorem kM (w:ak) (b:List am) (h:b.length=48):(cO 109 1 #[(0,al b.toArray)]).run aj w=.ok (ag (some ⟨w.heap.size,0,none⟩) 1 1) (w.alloc (ap b.toArray 205)):=by
 have e:(b.zipIdx.foldl (fun cs (x:am×Nat)=>cs.setIfInBounds (0+x.2) x.1) ((Array.range 48).map (dR.toArray[·%dR.toArray.size]!)))=b.toArray:=mU b _ (by simp[h]);have e2:b.toArray.zipIdx.foldl (fun cs (x:am×Nat)=>cs.setIfInBounds (0+x.2) x.1) ((Array.range 48).map (dR.toArray[·%dR.toArray.size]!))=b.toArray:=by
  rw[←Array.foldl_toList,Array.toList_zipIdx];exact e
 obtain⟨i0,hi,hz0,hz1,hz2⟩:=eJ oG;refine run_buildSlice (P:=aj) w 109 205 1 _ b.toArray i0 (al dR.toArray) (by kernel_rfl) hi hz0 (by rw[hz1];decide) (by rw[hz1];decide) ?_;rw[hz1];show fe _ _ [(0,Value.agg b.toArray)]=_;simp only[fe];rw[if_neg (by simp[Value.cells,h])]
 congr 1
set_option maxRecDepth 100000 in
theorem oI (N:Nat) (w:ak) (v:am) (vs:List (List am)) (b:List am) (B:Nat) (hown:w.ownsRow N 205 48 v vs.length vs.flatten) (hb:b.length=48) (h1:∀u ∈ b,u.oneCell'=true) (hB:w.rangeAt B 0 b) (hlen:vs.length<=1000000) (hN:N<=w.heap.size):
  ∃v' w',(Builtin.append_ #[109, 109] 109 #[v,ag (some ⟨B,0,none⟩) 1 1]).run aj w=.ok v' w'/\w'.ownsRow N 205 48 v' (vs++ [b]).length (vs++ [b]).flatten/\w.grownBy w' v.ownBlock/\(v'.ownBlock=v.ownBlock\/v'.ownBlock=some w.heap.size):=by
 obtain⟨i0,hi,hz0,hz1,hz2⟩:=eJ oG;obtain⟨v',w',hr,h1,h2,_,h3⟩:=run_append_own_at (P:=aj) w N 109 109 205 i0 (al dR.toArray) 48 48 Tryz.underlying109 hi hz0 hz1 hz2 oE (by omega) v vs.length vs.flatten hown
  ⟨B,0,none⟩ 1 1 b (by rw[hb]) (fun j u hj=>by have:=hB j u hj;rwa [Addr.add_mid]) h1 (by unfold aS;omega) (by omega) hN
 exact⟨v',w',hr,by simpa using h1,h2,h3⟩
def cB (bs:List Int):Nat:=(bs.length+47) / 48
def bM (bs:List Int) (k:Nat):List Int:=(bs.drop (48*k)).take 48++bK (48 - ((bs.drop (48*k)).take 48).length) 0
theorem gH (bs:List Int) (k:Nat):(bM bs k).length=48:=by simp[bM];omega
def rows (bs:List Int) (k:Nat):List (List am):=(dm k).map fun i=>an (bM bs i)
theorem BA (bs:List Int) (k:Nat):rows bs (k+1)=rows bs k++ [an (bM bs k)]:=by simp[rows,List.range_succ]
theorem oJ (bs:List Int) (k:Nat):(rows bs k).length=k:=by simp[rows]
end
section
attribute [local go_sem] Oper.semAt_some
def gZ (m k:Nat):List (Fin m):=(ik m).take k
theorem ku (m k:Nat) (h:k<m):gZ m (k+1)=gZ m k++ [⟨k,h⟩]:=by
 unfold gZ;rw[List.take_succ_eq_append_getElem (by simpa using h)];simp
theorem oK (m k:Nat) (h:k<=m):(gZ m k).length=k:=by simp[gZ,h]
theorem nc (m:Nat):gZ m m=ik m:=by
 unfold gZ;rw[ey (by simp)]
def nd {m:Nat} (x:Fin m):Array am:=#[ab af (x.1:Int),ab .u64 (8*(x.1:Int))]
theorem vn (F:Fence) (n:Nat) (hf:F.fn 248) (hro:F.round=none) (size:Int) (w:ak):
  CallsIn F n aj 248 #[ab af size] w fun e w'=>e=ar (.func (.func 285) #[] #[ao (some ⟨w.heap.size,0,none⟩)])/\w'=w.alloc (ap #[ab af size] 3):=by
 refine callsIn_of_wp func248 rfl hf ?_ hro;simp only[ntmps248,dU,cK,dP,Nat.reduceAdd,Nat.reduceSub,ez,eA,eD,eF,dT,dX]
 gi_wp2
 go_ret;exact⟨rfl,rfl⟩
theorem BE (F:Fence) (n:Nat) (hf:F.fn 285) (hro:F.round=none) (hn:1<=n) (l Bs m:Nat) (size:Int) (hm:(size<=8/\m=size.toNat)\/(8<size/\m=8)) (J Jx:List (Fin m)->ak->Prop)
  (hY:∀pre x W,J pre W->pre.length<m->YieldAt F (n - 1) aj l (nd x) W fun e W'=>
   (e=ar (.bool true)/\J (pre++ [x]) W'/\True)\/(e=ar (.bool false)/\Jx (pre++ [x]) W'))
  (W:ak) (hBs:W.cell? ⟨Bs,0,none⟩=some (ab af size)) (h0:J [] W):
  CallsIn F n aj 285 #[.func (.yield l) #[] #[],ao (some ⟨Bs,0,none⟩)] W fun e W'=>(∃v,e=ar v)/\
   ((∃ys,ys=ik m/\J ys W')\/(∃pre,(∃k,k<=m/\pre=gZ m k)/\Jx pre W')):=by
 refine callsIn_of_wp func285 rfl hf ?_ hro;simp only[ntmps285,dU,cK,dP,Nat.reduceAdd,Nat.reduceSub,ez,eA,eD,eF,dT,dX]
 gi_wp2
 all_goals
  gi_loopw [6] (fun i wr=>∃k:Nat,k<=m/\i=ab af k/\J (gZ m k) wr) (fun i _=>m - (aW i).toNat)
  case atStart=>exact⟨0,bq _,rfl,h0⟩
  case round=>
   obtain⟨k,hk,rfl,hJs⟩:=hrel;by_cases hlt:k<m
   ·obtain⟨fn,tmps,assign,body,hy,hR⟩:=hY _ ⟨k,hlt⟩ wr hJs (by rw[oK m k hk];exact hlt)
    dsimp only[nd]at hy
    have hb1:(k:Int)<size:=by omega
    have hb2:(k:Int)<8:=by omega
    gi_wp2
    refine hR.mono ?_;rintro e W3 (⟨rfl,hJ3,hk3⟩ | ⟨rfl,hJx3⟩)
    ·gi_wp2
     go_roundw
     case rel=>exact⟨k+1,by omega,by simp,by rw[ku m k hlt];exact hJ3⟩
     case measure=>simp[aW];omega
    ·gi_wp2
     refine bl (results_none rfl _ _ _) rfl ?_;exact⟨⟨_,rfl⟩,aC ⟨_,⟨k+1,by omega,(ku m k hlt).symm⟩,hJx3⟩⟩
   ·obtain rfl:k=m:=by omega
    gi_wp2
    go_end0
    exact⟨⟨_,rfl⟩,aA ⟨_,rfl,by rw[←nc];exact hJs⟩⟩
def oL (_ _:ak):Prop:=True
theorem vo (F:Fence) (n:Nat) (hf:F.fn 285) (hro:F.round=none) (hn:1<=n) (Bs:Nat) (size:Int) (w:ak) (hBs:Bs<w.heap.size)
  (hc:w.cell? ⟨Bs,0,none⟩=some (ab af size)):
  SeqStopsK F n aj 285 #[ao (some ⟨Bs,0,none⟩)] (nd (m:=dz size)) oL (fun ys=>ys=ik (dz size)) (fun _=>True) (dz size) w:=fun l J Jx W hW _ _ hY h0=>
 (BE F n hf hro hn l Bs (dz size) size (zM size) J Jx
  (fun pre x W hJ hl=>(hY pre x W hJ hl).mono fun e W' h=>h.imp (fun⟨a,b,_⟩=>⟨a,b,trivial⟩) id)
  W ((hW.cell (p:=⟨Bs,0,none⟩) hBs).trans hc) h0).mono fun e W' ⟨he,h⟩=>⟨he,h.imp id fun⟨pre,_,hj⟩=>⟨pre,trivial,hj⟩⟩
theorem vp {A B C:ak} (_:oL A B) (_:oL B C):oL A C:=trivial
theorem BG (a:Option aN) (len cap:Nat) (bs:List Int) (hlen:bs.length=len) (hcap:len<=9223372036854775807) (w:ak)
  (hA:len=0\/∃b off,a=some ⟨b,off,none⟩/\b<w.heap.size/\∀j,j<len->w.cell? ⟨b,off+j,none⟩=some (ab aq (bs[j]?.getD 0))) (hr:aP bs):
  az aj 301 #[ag a len cap] w fun e w'=>e=ar (ab .u64 (cy bs))/\ah w.heap.size w w':=by
 refine(callsIn_wide (n:=3)).1 ?_;refine jf func301 rfl trivial ?_ rfl;simp only[ntmps301,dU,cK,dP,Nat.reduceAdd,Nat.reduceSub,ez,eA,eD,eF,dT,dX];have hr:=ae hr;have hA:=ae hA
 gi_wp2_with (refine⟨trivial, ?_⟩;gi_at_call 248;refine(vn _ _ trivial rfl _ _).mono ?_;rintro e w' ⟨rfl,rfl⟩)
 have bB:=dY w 76 (ag a len cap);have bN:=dY (w.alloc (ap #[ag a len cap] 76)) 267 (ab .u64 0);rw[dy]at bN;have bP:=dY ((w.alloc (ap #[ag a len cap] 76)).alloc (ap #[ab .u64 0] 267)) 3 (ab af (len:Int));rw[dy,dy]at bP;have hB0:ah w.heap.size w (((w.alloc (ap #[ag a len cap] 76)).alloc (ap #[ab .u64 0] 267)).alloc (ap #[ab af (len:Int)] 3)):=(((aF _ w).alloc (aJ _) _).alloc (by simp) _).alloc (by simp;omega) _;refine wpIn_rangeFunc_ownF (n:=3) rfl (by omega) (gf:= 285) (lb:=#[ao (some ⟨w.heap.size+1+1,0,none⟩)]) rfl trivial (enters_of func285 (by kernel_rfl) rfl)
  (vo Fence.wide 2 trivial rfl (by omega) (w.heap.size+1+1) (len:Int) _ (by simp) bP.cell) vp (fun _ _ _ _ _ _ _ _=>trivial) (aF _ _) (fun _=>rfl)
  (fun pre W=>(∃v:Int,Boxed W (w.heap.size+1) 267 (ab .u64 v)/\0<=v/\v<18446744073709551616/\(pre<+:ik (dz (len:Int))->v=gF bs pre.length))/\Boxed W w.heap.size 76 (ag a len cap)/\ah w.heap.size w W)
  (fun _ _ _=>False)
  ?hI (fun _ _ _ _ _ h _ _=>h.elim) ?h0 ?a1 ?assign ?body ?done ?stop
 case hI=>
  intro s W W' row ⟨⟨v,hv,h1,h2,h3⟩,hb,hB⟩ hg hrow;have hr':∀r,row=some r->∃o:Obj,W.heap[r]? =some o/\o.isCells=false:=fun r e=>(hrow r e).2;exact⟨⟨v,boxed_own _ _ (fun _:Unit=>_) () W W' row hv hg hr',h1,h2,h3⟩,boxed_own _ _ (fun _:Unit=>_) () W W' row hb hg hr',ownFrom_below (β:=Unit) (aJ _) (by simp;omega) () W W' row hB hg hrow⟩
 case h0=>exact⟨⟨0,bN.alloc _,by omega,by omega,fun _=>rfl⟩,(bB.alloc _).alloc _,hB0⟩
 case assign=>
  intro l x W K hK
  dsimp only[nd]
  gi_wp2
  exact hK
 case body=>
  rintro l pre x W ⟨⟨v,hv,hv0,hv1,hvp⟩,hbx,hB⟩ hlen;have c1:=hv.cell;have f1:=hv.frozen;have hx:x.1<len:=by have:=x.2;unfold dz at this;split at this<;>omega
  have hx8:x.1<8:=by have:=x.2;have:=mL (len:Int);omega
  obtain⟨b,off,rfl,hb,hc⟩:∃b off,a=some ⟨b,off,none⟩/\b<w.heap.size/\∀j,j<len->w.cell? ⟨b,off+j,none⟩=some (ab aq (bs[j]?.getD 0)):=by
   rcases hA.out with h | h
   ·omega
   ·exact h
  have c2:=hbx.cell;have c3:W.cell? ⟨b,off+x.1,none⟩=some (ab aq (bs[x.1]?.getD 0)):=(hB.cell (p:=⟨b,off+x.1,none⟩) hb).trans (hc x.1 hx);have hx':((x.1:Nat):Int)< (len:Int):=by omega
  obtain⟨hr1,hr2⟩:=hr.out x.1;obtain⟨y,hy⟩:=w9nm (bs[x.1]?.getD 0);rw[hy]at c3 hr1 hr2;have HP:=ae hvp;have HY:=ae hy;clear hc hvp hy;have hmx:=w9x
  gi_wp2
  refine Ac 9 (lZ nZ) (by kernel_rfl) (by kernel_rfl) (by kernel_rfl) ?_;simp only[List.take_succ_cons,List.take_zero,be,bf];repeat still_step
  try refine wpStill_nil ?_
  go_wp2;have bd:=zI v y x.1 hx8 hv0 hv1 hr1 hr2;refine⟨(iC _ _ _).trans (KeepsOthers.drew _),trivial,⟨lj v y x.1,hv.set _,bd.1,bd.2,fun hp=> ?_⟩,hbx.other (by omega) _,(hB.setCell (p:=⟨w.heap.size+1,0,none⟩) (by simp) _).drew⟩;obtain⟨hp1,hp2⟩:=zN hp;rw[HP.out hp1,←HY.out,hp2];rw[hp2]at hx8;rw[zK bs hr.out pre.length hx8];simp
 case done=>
  rintro D xs W hD rfl ⟨⟨v,hv,_,_,hvp⟩,hbx,hB⟩ hK;have c1:=hv.cell;have e:=hvp (List.prefix_refl _);have He:=ae e;clear e hvp
  gi_wp2
  refine⟨by simp,aA ⟨_,_,rfl,iD hK, ?_⟩⟩;refine⟨_,results_tmp rfl _ _ _, ?_,hB.trans (belowK_b (w:=w) (aJ _) W D _ _ (by simp at hD;omega) hK rfl rfl)⟩;rw[He.out];simp[cy,hlen]
 case stop=>
  rintro D c pre W _ _ h _;exact h.elim
set_option maxRecDepth 100000 in
theorem ng (n:Int) (size:Nat) (w:ak) (hs1:1<=size) (hs2:size<=16) (hn0:0<=n) (hn1:n<18446744073709551616):
  az aj 174 #[ab .u64 n,ab af (size:Int)] w fun e w'=>∃v,e=ar v/\w'.ownsRow w.heap.size 5 1 v size ((aH n size).map (Value.int aq))/\ah w.heap.size w w':=by
 refine(callsIn_wide (n:=3)).1 ?_;refine jf func174 rfl trivial ?_ rfl;simp only[ntmps174,dU,cK,dP,Nat.reduceAdd,Nat.reduceSub,ez,eA,eD,eF,dT,dX];obtain⟨i0,hi,hz0,hz1,hz2⟩:=eJ ln;have g1:¬((size:Int)<1):=by omega
 have g2:¬(16< (size:Int)):=by omega
 have g3:decide ((size:Int)<1)=false:=by simpa using g1
 have g4:decide (16< (size:Int))=false:=by simpa using g2
 gi_wp2_with (first | (gi_at_make;refine Ad _ rfl _ _ 76 rfl w.heap.size 5 i0 (ab aq 0) 1 Tryz.underlying76 hi hz0 hz1 af af _ _ size rfl rfl rfl rfl (by rw[hz2];omega) (by unfold aS;omega) (by simp) ?_;intro w1 hown1 hgrow1) | (refine⟨trivial, ?_⟩;gi_at_call 248;refine(vn _ _ trivial rfl _ _).mono ?_;rintro e w' ⟨rfl,rfl⟩))
 have hz:=hown1.lt _ rfl;have hown2:w1.ownsRow w.heap.size 5 1 (ag (some ⟨w.heap.size+1,0,none⟩) size size) size (jy n size (m:=dz (size:Int)) []):=by
  rw[zO];rw[show(Value.int IntKind.u8 0).cells=#[ab aq 0]from rfl,toList_madeCells_one,Nat.mul_one,dy]at hown1;exact hown1
 rw[dy]at hz;have bN1:Boxed w1 w.heap.size 267 (ab .u64 n):=(dY w 267 (ab .u64 n)).kept hgrow1 (by simp);have bS:=dY w1 76 (ag (some ⟨w.heap.size+1,0,none⟩) size size);have bP:=dY (w1.alloc (ap #[ag (some ⟨w.heap.size+1,0,none⟩) size size] 76)) 3 (ab af (size:Int));rw[dy]at bP;have hB1:w9b w w1:=((aF _ w).alloc (aJ _) _).grown hgrow1 (by simp) (fun k e=>by cases e);have hB0:ah w.heap.size w ((w1.alloc (ap #[ag (some ⟨w.heap.size+1,0,none⟩) size size] 76)).alloc (ap #[ab af (size:Int)] 3)):=(hB1.alloc hB1.size _).alloc (by have:=hB1.size;simp;omega) _;clear hown1 hgrow1 g3 g4;refine wpIn_rangeFunc_ownF (n:=3) rfl (by omega) (gf:= 285) (lb:=#[ao (some ⟨w1.heap.size+1,0,none⟩)]) rfl trivial (enters_of func285 (by kernel_rfl) rfl)
  (vo Fence.wide 2 trivial rfl (by omega) (w1.heap.size+1) (size:Int) _ (by simp) bP.cell) vp (fun _ _ _ _ _ _ _ _=>trivial) (aF _ _) (fun _=>rfl)
  (fun pre W=>(W.ownsRow w.heap.size 5 1 (ag (some ⟨w.heap.size+1,0,none⟩) size size) size (jy n size pre)/\Boxed W w.heap.size 267 (ab .u64 n)/\Boxed W w1.heap.size 76 (ag (some ⟨w.heap.size+1,0,none⟩) size size))/\ah w.heap.size w W)
  (fun _ _ _=>False)
  (OwnFrom.and (OwnFrom.and ((qK _ _ _ _ (fun _=>size) (fun pre=>jy n size pre)).from _) (OwnFrom.and ((boxed_own _ _ (fun _=>_)).from _) ((boxed_own _ _ (fun _=>_)).from _))) (ownFrom_below (aJ _) (by have:=hB1.size;simp;omega)))
  (fun _ _ _ _ _ h _ _=>h.elim) ?h0 ?a1 ?assign ?body ?done ?stop
 case h0=>exact⟨⟨(hown2.alloc _).alloc _,(bN1.alloc _).alloc _,bS.alloc _⟩,hB0⟩
 case assign=>
  intro l x W K hK
  dsimp only[nd]
  gi_wp2
  exact hK
 case body=>
  rintro l pre x W ⟨⟨hrow,hbn,hbs⟩,hB⟩ hlen;have c1:=hbn.cell;have c2:=hbs.cell;have hx:x.1<size:=by have:=x.2;unfold dz at this;split at this<;>omega
  have hx8:x.1<8:=by have:=x.2;have:=mL (size:Int);omega
  have hx':((x.1:Nat):Int)< (size:Int):=by omega
  obtain⟨z,c3⟩:∃z,W.cell? ⟨w.heap.size+1,x.1,none⟩=some (ab aq z):=by
   rw[hrow.cellAt x.1 (by omega)];unfold jy;simp[hx]
  have f3:=hrow.frozenAt x.1
  gi_wp2
  have hst:=hrow.stored x.1 (ab aq (n / 2^(8*x.1)%256));refine⟨iC _ _ _,trivial,⟨?_,hbn.kept hst.2 (by simp),hbs.kept hst.2 (by have:=hz.2;simp;omega)⟩,hB.setCell (p:=⟨w.heap.size+1,x.1,none⟩) (by simp) _⟩;rw[zP];exact hst.1
 case done=>
  rintro D xs W hD rfl ⟨⟨hrow,hbn,hbs⟩,hB⟩ hK;have c2:=hbs.cell;rw[zQ]at hrow
  gi_wp2
  refine⟨by simp,aA ⟨_,_,rfl,iD hK, ?_⟩⟩;refine⟨_,results_tmp rfl _ _ _,_,rfl,ownsRow_putObj hrow _ hK rfl,hB.trans (belowK_b (w:=w) (aJ _) W D _ _ (by have:=hB1.size;simp at hD;omega) hK rfl rfl)⟩
 case stop=>
  rintro D c pre W _ _ h _;exact h.elim
end
section
theorem BH (a:Option aN) (len cap:Nat) (bs:List Int) (hlen:bs.length=len) (hcap:len<=9223372036854775807) (w:ak) (hA:lp w a len bs) (hr:aP bs):
  az aj 238 #[ag a len cap] w fun e w'=>e=ar (ab .u64 (cy bs))/\w'=w:=by
 have HL:=ae hlen;have hA:=ae hA;have hr:=ae hr;clear hlen;go_enter func238,ntmps238;go_wp2;go_loop [3,4] (fun v i=>∃k:Nat,k<=dz (len:Int)/\i=ab af k/\v=ab .u64 (gF bs k)) (fun _ i=>8 - (aW i).toNat)
 case atStart=>exact⟨0,bq _,rfl,rfl⟩
 case round=>
  obtain⟨k,hk,rfl,rfl⟩:=hrel;have hk8:=mL (len:Int);by_cases hlt:k<dz (len:Int)
  ·have hl:k<len:=by have:=tL hlt;omega
   have hl8:k<8:=by omega
   have hl8':(k:Int)<8:=by omega
   obtain⟨b,off,rfl,hb,hc⟩:∃b off,a=some ⟨b,off,none⟩/\b<w.heap.size/\∀j,j<len->w.cell? ⟨b,off+j,none⟩=some (ab aq (bs[j]?.getD 0)):=by
    rcases hA.out with h | h
    ·omega
    ·exact h
   have c3:=hc k hl;obtain⟨r1,r2⟩:=hr.out k;have HS:=ae (zL bs hr.out k hl8);obtain⟨y,hy⟩:=w9nm (bs[k]?.getD 0);rw[hy]at c3 r1 r2 HS;obtain⟨v,hv⟩:=w9nm (gF bs k);rw[hv]at HS ⊢;clear hc hy hv;go_wp2;go_round
   case rel=>exact⟨k+1,by omega,by go_num,by rw[HS.out]⟩
   case measure=>simp[aW];omega
  ·have hk':k=dz (len:Int):=by omega
   have hd:¬(k<len/\k<8):=by
    rintro⟨h1,h2⟩;unfold dz at hk';split at hk'<;>omega
   have HK:=ae hk';clear hk';by_cases h1:k<len
   ·have h2:¬k<8:=fun h=>hd ⟨h1,h⟩;have h3:decide ((k:Int)<8)=false:=by simp;omega
    clear hd;go_wp2;go_ret;refine⟨?_,rfl⟩;rw[HK.out];simp[cy,HL.out]
   ·have h3:decide ((k:Int)< (len:Int))=false:=by simp;omega
    clear hd;go_wp2;go_ret;refine⟨?_,rfl⟩;rw[HK.out];simp[cy,HL.out]
theorem lC (v:am) (bs:List Int) (w:ak) (hv:Sl aq w v bs) (hr:aP bs):
  az aj 238 #[v] w fun e w'=>e=ar (ab .u64 (cy bs))/\w'=w:=by
 obtain⟨a,cap,rfl,hl,h2⟩:=lp.of_sl hv;unfold aS at h2;exact BH a bs.length cap bs rfl (by omega) w hl hr
set_option maxRecDepth 100000 in
theorem ia (n:Int) (size:Nat) (w:ak) (hs1:1<=size) (hs2:size<=16) (hn0:0<=n) (hn1:n<18446744073709551616):
  az aj 219 #[ab .u64 n,ab af (size:Int)] w fun e w'=>∃v,e=ar v/\w'.ownsRow w.heap.size 5 1 v size ((aH n size).map (Value.int aq))/\ah w.heap.size w w':=by
 obtain⟨i0,hi,hz0,hz1,hz2⟩:=eJ ln;have g1:¬((size:Int)<1):=by omega
 have g2:¬(16< (size:Int)):=by omega
 have g3:decide ((size:Int)<1)=false:=by simpa using g1
 have g4:decide (16< (size:Int))=false:=by simpa using g2
 go_enter func219,ntmps219;go_wp2_with (first | (at_make;refine wpList_make_full _ rfl _ _ 76 rfl w.heap.size 5 i0 (ab aq 0) 1 Tryz.underlying76 hi hz0 hz1 af af _ _ size rfl rfl rfl rfl (by rw[hz2];omega) (by unfold aS;omega) (by simp) ?_;intro w1 hown1 hgrow1));have hown2:w1.ownsRow w.heap.size 5 1 (ag (some ⟨w.heap.size,0,none⟩) size size) size (jM n size 0):=by
  rw[zR];rw[show(Value.int IntKind.u8 0).cells=#[ab aq 0]from rfl,toList_madeCells_one,Nat.mul_one]at hown1;exact hown1
 have hB1:w9b w w1:=(aF _ w).grown hgrow1 (aJ _) (fun k e=>by cases e);have HO:=ae hown2;have HB:=ae hB1;clear hown1 hgrow1 hown2 hB1 g1 g2 g3 g4;go_loopw [6] (fun i wr=>∃k:Nat,k<=dz (size:Int)/\i=ab af k/\wr.ownsRow w.heap.size 5 1 (ag (some ⟨w.heap.size,0,none⟩) size size) size (jM n size k)/\ah w.heap.size w wr) (fun i _=>8 - (aW i).toNat)
 case atStart=>exact⟨0,bq _,rfl,HO.out,HB.out⟩
 case round=>
  obtain⟨k,hk,rfl,hrow,hB⟩:=hrel;have hk8:=mL (size:Int);by_cases hlt:k<dz (size:Int)
  ·have hl:k<size:=by have:=tL hlt;omega
   have hl8:k<8:=by omega
   have hl8':(k:Int)<8:=by omega
   obtain⟨z,c3⟩:∃z,wr.cell? ⟨w.heap.size,k,none⟩=some (ab aq z):=by
    rw[hrow.cellAt k (by omega)];unfold jM;simp[hl]
   have f3:=hrow.frozenAt k;have hst:=hrow.stored k (ab aq (n / 2^(8*k)%256));have HST:=ae hst;have HB1:=ae hB;clear hrow hst hB;go_wp2;go_roundw
   case rel=>exact⟨k+1,by omega,by go_num,by rw[zS];exact HST.out.1,HB1.out.setCell (p:=⟨w.heap.size,k,none⟩) (aJ _) _⟩
   case measure=>simp[aW];omega
  ·have hk':k=dz (size:Int):=by omega
   have hd:¬(k<size/\k<8):=by
    rintro⟨h1,h2⟩;unfold dz at hk';split at hk'<;>omega
   have hfin:wr.ownsRow w.heap.size 5 1 (ag (some ⟨w.heap.size,0,none⟩) size size) size ((aH n size).map (Value.int aq)):=by
    rw[←zT,←hk'];exact hrow
   have HF:=ae hfin;have HB1:=ae hB;clear hk' hrow hB hfin;by_cases h1:k<size
   ·have h2:¬k<8:=fun h=>hd ⟨h1,h⟩;have h3:decide ((k:Int)<8)=false:=by simp;omega
    clear hd;go_wp2;go_ret;exact⟨_,rfl,HF.out,HB1.out⟩
   ·have h3:decide ((k:Int)< (size:Int))=false:=by simp;omega
    clear hd;go_wp2;go_ret;exact⟨_,rfl,HF.out,HB1.out⟩
end
section
attribute [local go_sem] Oper.semAt_some
theorem rs (bs:List Int) {k:Nat} (h:k<bs.length):bs.take (k+1)=bs.take k++ [bs[k]?.getD 0]:=by
 rw[List.take_succ_eq_append_getElem h,bJ h]
 rfl
theorem BJ (F:Fence) (n:Nat) (hf:F.fn 324) (hro:F.round=none) (hn:1<=n) (l Bs n₀ len cap:Nat) (a:Option aN) (zs:List Int) (hz:zs.length=len) (hmax:len<=aS)
  (J Jx:List Int->ak->Prop)
  (hY:∀pre x W,J pre W->pre.length<len->YieldAt F (n - 1) aj l #[ab aq x] W fun e W'=>
   (e=ar (.bool true)/\J (pre++ [x]) W'/\ah n₀ W W')\/(e=ar (.bool false)/\Jx (pre++ [x]) W'))
  (W:ak) (hBs:W.cell? ⟨Bs,0,none⟩=some (ag a len cap)) (hc:len=0\/∃b off,a=some ⟨b,off,none⟩/\b<n₀/\∀j,j<len->W.cell? ⟨b,off+j,none⟩=some (ab aq (zs[j]?.getD 0))) (h0:J [] W):
  CallsIn F n aj 324 #[.func (.yield l) #[] #[],ao (some ⟨Bs,0,none⟩)] W fun e W'=>(∃v,e=ar v)/\
   ((∃ys,ys=zs/\J ys W')\/(∃pre,pre<+:zs/\Jx pre W')):=by
 have HC:=ae hc;have HM:=ae hmax;have HZ:=ae hz;clear hc hmax hz;refine callsIn_of_wp func324 rfl hf ?_ hro;simp only[ntmps324,dU,cK,dP,Nat.reduceAdd,Nat.reduceSub,ez,eA,eD,eF,dT,dX]
 gi_wp2
 gi_loopw [7] (fun i wr=>∃k:Nat,k<=len/\i=ab af k/\J (zs.take k) wr/\ah n₀ W wr)
  (fun i _=>len - (aW i).toNat)
 case atStart=>exact⟨0,bq _,rfl,by simpa using h0,aF _ _⟩
 case round=>
  obtain⟨k,hk,rfl,hJs,hnx⟩:=hrel;by_cases hlt:k<len
  ·obtain⟨b,off,rfl,hb,hcs⟩:∃b off,a=some ⟨b,off,none⟩/\b<n₀/\∀j,j<len->W.cell? ⟨b,off+j,none⟩=some (ab aq (zs[j]?.getD 0)):=by
    rcases HC.out with h | h
    ·omega
    ·exact h
   have hcx:wr.cell? ⟨b,off+k,none⟩=some (ab aq (zs[k]?.getD 0)):=(hnx.cell (p:=⟨b,off+k,none⟩) hb).trans (hcs k hlt);obtain⟨fn,tmps,assign,body,hy,hR⟩:=hY _ (zs[k]?.getD 0) wr hJs (by rw[fd,HZ.out];omega);have hm:len<=9223372036854775807:=by have:=HM.out;unfold aS at this;omega
   clear hcs
   gi_wp2
   refine hR.mono ?_;rintro e W3 (⟨rfl,hJ3,hk3⟩ | ⟨rfl,hJx3⟩)
   ·gi_wp2
    go_roundw
    case rel=>exact⟨k+1,by omega,by simp,by rw[rs zs (by rw[HZ.out];exact hlt)];exact hJ3,hnx.trans hk3⟩
    case measure=>simp[aW];omega
   ·gi_wp2
    refine bl (results_none rfl _ _ _) rfl ?_;exact⟨⟨_,rfl⟩,aC ⟨_,by rw[←rs zs (by rw[HZ.out];exact hlt)];exact List.take_prefix _ _,hJx3⟩⟩
  ·obtain rfl:k=len:=by omega
   gi_wp2
   go_end0
   exact⟨⟨_,rfl⟩,aA ⟨_,rfl,by rw[←HZ.out,List.take_length]at hJs;exact hJs⟩⟩
theorem BK (F:Fence) (n:Nat) (hf:F.fn 315) (hro:F.round=none) (a:Option aN) (len cap:Nat) (w:ak):
  CallsIn F n aj 315 #[ag a len cap] w fun e w'=>e=ar (.func (.func 324) #[] #[ao (some ⟨w.heap.size,0,none⟩)])/\w'=w.alloc (ap #[ag a len cap] 76):=by
 refine callsIn_of_wp func315 rfl hf ?_ hro;simp only[ntmps315,dU,cK,dP,Nat.reduceAdd,Nat.reduceSub,ez,eA,eD,eF,dT,dX]
 gi_wp2
 go_ret;exact⟨rfl,rfl⟩
theorem BM (F:Fence) (n:Nat) (hf:F.fn 324) (hro:F.round=none) (hn:1<=n) (Bs n₀ len cap:Nat) (a:Option aN) (zs:List Int) (hz:zs.length=len) (hmax:len<=aS) (w:ak) (hBs:Bs<w.heap.size) (hn₀:n₀<=w.heap.size)
  (hb:w.cell? ⟨Bs,0,none⟩=some (ag a len cap)) (hc:len=0\/∃b off,a=some ⟨b,off,none⟩/\b<n₀/\∀j,j<len->w.cell? ⟨b,off+j,none⟩=some (ab aq (zs[j]?.getD 0))):
  SeqStopsK F n aj 324 #[ao (some ⟨Bs,0,none⟩)] (fun x:Int=>#[Value.int aq x]) (ah n₀) (fun ys=>ys=zs) (fun pre=>pre<+:zs) len w:=fun l J Jx W hW _ _ hY h0=>
 BJ F n hf hro hn l Bs n₀ len cap a zs hz hmax J Jx hY W ((hW.cell (p:=⟨Bs,0,none⟩) hBs).trans hb)
  (hc.imp id fun⟨b,off,e,h1,h2⟩=>⟨b,off,e,h1,fun j hj=>((hW.mono hn₀).cell (p:=⟨b,off+j,none⟩) h1).trans (h2 j hj)⟩) h0
theorem BN {pre bs:List Int} {x:Int} (hr:aP bs) (h:pre++ [x]<+:bs):0<=x/\x<256:=by
 obtain⟨t,rfl⟩:=h
 simpa using hr pre.length
theorem BO (h:Int) (hh:jr h) (a:Option aN) (len cap:Nat) (bs:List Int) (hlen:bs.length=len) (hmax:len<=aS) (hr:aP bs) (w:ak)
  (hA:len=0\/∃b off,a=some ⟨b,off,none⟩/\b<w.heap.size/\∀j,j<len->w.cell? ⟨b,off+j,none⟩=some (ab aq (bs[j]?.getD 0))):
  az aj 302 #[ab .u64 h,ag a len cap] w fun e w'=>e=ar (ab .u64 (fH h bs))/\ah w.heap.size w w':=by
 refine(callsIn_wide (n:=3)).1 ?_;refine jf func302 rfl trivial ?_ rfl;simp only[ntmps302,dU,cK,dP,Nat.reduceAdd,Nat.reduceSub,ez,eA,eD,eF,dT,dX];have HA:=ae hA;have HM:=ae hmax;have HR:=ae hr;have HH:=ae hh;have HL:=ae hlen;clear hA hmax hr hh hlen
 gi_wp2_with (refine⟨trivial, ?_⟩;gi_at_call 315;refine(BK _ _ trivial rfl _ _ _ _).mono ?_;rintro e w' ⟨rfl,rfl⟩)
 have bH:=dY w 267 (ab .u64 h);have bV:=dY (w.alloc (ap #[ab .u64 h] 267)) 76 (ag a len cap);rw[dy]at bV;have hB0:ah w.heap.size w ((w.alloc (ap #[ab .u64 h] 267)).alloc (ap #[ag a len cap] 76)):=((aF _ w).alloc (aJ _) _).alloc (by simp) _;refine wpIn_rangeFunc_ownF (n:=3) rfl (by omega) (gf:= 324) (lb:=#[ao (some ⟨w.heap.size+1,0,none⟩)]) rfl trivial (enters_of func324 (by kernel_rfl) rfl)
  (BM Fence.wide 2 trivial rfl (by omega) (w.heap.size+1) w.heap.size len cap a bs HL.out HM.out _ (by simp) (by simp;omega) bV.cell
   (HA.out.imp id fun⟨b,off,e,h1,h2⟩=>⟨b,off,e,h1,fun j hj=>(hB0.cell (p:=⟨b,off+j,none⟩) h1).trans (h2 j hj)⟩)) belowK_t (belowK_b (by simp;omega)) (aF _ _) (fun _=>rfl)
  (fun pre W=>(∃v:Int,Boxed W w.heap.size 267 (ab .u64 v)/\jr v/\(pre<+:bs->v=fH h pre))/\ah w.heap.size w W)
  (fun _ _ _=>False)
  ?hI (fun _ _ _ _ _ h _ _=>h.elim) ?h0 ?a1 ?assign ?body ?done ?stop
 case hI=>
  intro s W W' row ⟨⟨v,hv,h1,h2⟩,hB⟩ hg hrow;have hr':∀r,row=some r->∃o:Obj,W.heap[r]? =some o/\o.isCells=false:=fun r e=>(hrow r e).2;exact⟨⟨v,boxed_own _ _ (fun _:Unit=>_) () W W' row hv hg hr',h1,h2⟩,ownFrom_below (β:=Unit) (aJ _) (by simp;omega) () W W' row hB hg hrow⟩
 case h0=>exact⟨⟨h,bH.alloc _,HH.out,fun _=>rfl⟩,hB0⟩
 case assign=>
  intro l x W K hK
  gi_wp2
  exact hK
 case body=>
  rintro l pre x W ⟨⟨v,hv,hv0,hvp⟩,hB⟩ hlen;have c1:=hv.cell;have f1:=hv.frozen;have HP:=ae hvp;have HV:=ae hv0;clear hvp hv0
  gi_wp2
  refine⟨(iC _ _ _).trans (iC _ _ _),((aF w.heap.size W).setCell (p:=⟨w.heap.size,0,none⟩) (aJ _) _).setCell (p:=⟨w.heap.size,0,none⟩) (aJ _) _,⟨_,(hv.set _).set _,tP _,fun hp=> ?_⟩,(hB.setCell (p:=⟨w.heap.size,0,none⟩) (aJ _) _).setCell (p:=⟨w.heap.size,0,none⟩) (aJ _) _⟩;obtain⟨r1,r2⟩:=BN HR.out hp;rw[HP.out ((List.prefix_append _ _).trans hp),tQ,nU x r1 (by omega)]
  rfl
 case done=>
  rintro D xs W hD rfl ⟨⟨v,hv,_,hvp⟩,hB⟩ hK;have c1:=hv.cell;have e:=hvp (List.prefix_refl _);have He:=ae e;clear e hvp
  gi_wp2
  refine⟨by simp,aA ⟨_,_,rfl,iD hK, ?_⟩⟩;refine⟨_,results_tmp rfl _ _ _, ?_,hB.trans (belowK_b (w:=w) (aJ _) W D _ _ (by simp at hD;omega) hK rfl rfl)⟩;rw[He.out];rfl
 case stop=>
  rintro D c pre W _ _ h _;exact h.elim
theorem BQ (h:Int) (v:am) (bs:List Int) (w:ak) (hh:jr h) (hv:Sl aq w v bs) (hr:aP bs):
  az aj 302 #[ab .u64 h,v] w fun e w'=>e=ar (ab .u64 (fH h bs))/\ah w.heap.size w w':=by
 obtain⟨a,cap,rfl,hl,h2⟩:=lp.of_sl hv;exact BO h hh a _ cap bs rfl h2 hr w hl
theorem BR (v:am) (bs:List Int) (w:ak) (hv:Sl aq w v bs) (hr:aP bs):
  az aj 291 #[v] w fun e w'=>e=ar (ab .u64 (fH jq bs))/\ah w.heap.size w w':=by
 have HM:=ae (BQ jq v bs w qF hv hr);clear hv hr;unfold jq at *;go_enter func291,ntmps291;go_wp2_with fail;refine HM.out.mono ?_;rintro e w1 ⟨rfl,hB⟩;have HB:=ae hB;clear hB;go_wp2_with fail;go_ret;exact⟨rfl,HB.out⟩
theorem BT (h:Int) (hh:jr h) (a:Option aN) (len cap:Nat) (bs:List Int) (hlen:bs.length=len) (hmax:len<=9223372036854775807) (hr:aP bs) (w:ak) (hA:lp w a len bs):
  az aj 292 #[ab .u64 h,ag a len cap] w fun e w'=>e=ar (ab .u64 (fH h bs))/\w'=w:=by
 have HL:=ae hlen;have HA:=ae hA;have HR:=ae hr;clear hlen hA hr hh;go_enter func292,ntmps292;go_wp2;go_loop [0,5] (fun v i=>∃k:Nat,k<=len/\i=ab af k/\v=ab .u64 (fH h (bs.take k))) (fun _ i=>len - (aW i).toNat)
 case atStart=>exact⟨0,bq _,rfl,rfl⟩
 case round=>
  obtain⟨k,hk,rfl,rfl⟩:=hrel;obtain⟨v,hv⟩:=w9nm (fH h (bs.take k));rw[hv];by_cases hlt:k<len
  ·obtain⟨b,off,rfl,hb,hc⟩:∃b off,a=some ⟨b,off,none⟩/\b<w.heap.size/\∀j,j<len->w.cell? ⟨b,off+j,none⟩=some (ab aq (bs[j]?.getD 0)):=by
    rcases HA.out with h | h
    ·omega
    ·exact h
   have c3:=hc k hlt;obtain⟨r1,r2⟩:=HR.out k;have HS:Hid (mN v (bs[k]?.getD 0)=fH h (bs.take (k+1))):=by
    show _=_;rw[rs bs (by rw[HL.out];exact hlt),tQ,hv]
   obtain⟨y,hy⟩:=w9nm (bs[k]?.getD 0);rw[hy]at c3 r1 r2 HS;clear hc hy hv;go_wp2;go_round
   case rel=>
    refine⟨k+1,by omega,by go_num, ?_⟩;rw[←HS.out];rfl
   case measure=>simp[aW];omega
  ·obtain rfl:k=len:=by omega
   have HV:=ae hv;clear hv;go_wp2;go_ret;refine⟨?_,rfl⟩;rw[←HV.out,←HL.out,List.take_length];rfl
theorem Cc (h:Int) (v:am) (bs:List Int) (w:ak) (hh:jr h) (hv:Sl aq w v bs) (hr:aP bs):
  az aj 292 #[ab .u64 h,v] w fun e w'=>e=ar (ab .u64 (fH h bs))/\w'=w:=by
 obtain⟨a,cap,rfl,hl,h2⟩:=lp.of_sl hv;unfold aS at h2;exact BT h hh a _ cap bs rfl (by omega) hr w hl
theorem vq (v:am) (bs:List Int) (w:ak) (hv:Sl aq w v bs) (hr:aP bs):
  az aj 266 #[v] w fun e w'=>e=ar (ab .u64 (fH jq bs))/\w'=w:=by
 have HM:=ae (Cc jq v bs w qF hv hr);clear hv hr;unfold jq at *;go_enter func266,ntmps266;go_wp2_with fail;refine HM.out.mono ?_;rintro e w' ⟨rfl,rfl⟩;go_wp2_with fail;go_ret;exact⟨rfl,rfl⟩
end
section
attribute [-simp] isAgg51 zeroValue51
attribute [-go_sem] aE aL
attribute [local go_sem] bC bD dZ dQ
def Sct.code (p:Sct):List am:=if p.fits=true then an p.bytes else a9 0
def Sct.codeE (p:Sct):Int:=if p.fits=true then 0 else 11
theorem lD (p:Sct) (hp:p.Ok) (w:ak):
  az aj 218 #[al p.cells.toArray] w fun e w'=>e=ar (aQ #[al p.code.toArray,ab af p.codeE])/\ah w.heap.size w w':=by
 obtain⟨W1,hW1⟩:=w9nm (w.alloc (ap p.cells.toArray 254));have hB1:ah w.heap.size w W1:=by rw[←hW1];exact(aF _ _).alloc (aJ _) _
 have hz1:W1.heap.size=w.heap.size+1:=by rw[←hW1];simp
 have hr1:W1.heap[w.heap.size]? =some (ap p.cells.toArray 254 (0,0)):=by rw[←hW1];exact bR w _
 obtain⟨W,hW⟩:=w9nm (W1.alloc (ap cx 51));have hB2:ah W1.heap.size W1 W:=by rw[←hW];exact(aF _ _).alloc (aJ _) _
 have HB:w9h w W:=hB1.trans (hB2.mono hB1.size);have HR:Hid (W.heap[w.heap.size]? =some (ap p.cells.toArray 254 (0,0))):=(hB2.block _ (by omega)).trans hr1;have HR2:Hid (W.heap[w.heap.size+1]? =some (ap cx 51 (0,0))):=by
  have:=bR W1 (ap cx 51);rw[hW,hz1]at this;exact this
 have HZ:Hid (W.heap.size=w.heap.size+2):=by show _=_;rw[←hW,dy,hz1]
 have HP:=ae hp;have c0:W.cell? ⟨w.heap.size,0,none⟩=some (ab aq p.mark):=cl W _ 0 _ _ _ HR.out;have c1:W.cell? ⟨w.heap.size,1,none⟩=some (ab aD p.seq):=cl W _ 1 _ _ _ HR.out;have c2:W.cell? ⟨w.heap.size,2,none⟩=some (ab af p.index):=cl W _ 2 _ _ _ HR.out;clear hB1 hB2 hr1 hp;obtain⟨mk,hmk⟩:=w9nm p.mark;obtain⟨sq,hsq⟩:=w9nm p.seq;obtain⟨ix,hix⟩:=w9nm p.index;have EM:=ae hmk;have ES:=ae hsq;have EI:=ae hix;rw[hmk]at c0;rw[hsq]at c1;rw[hix]at c2;clear hmk hsq hix;by_cases hf:p.fits=true
 ·have hfx:=of_decide_eq_true hf;rw[EM.out,EI.out]at hfx;obtain⟨m1,m2,m3⟩:=hfx;have q0:(mk==0)=false:=by simpa using m1
  have q1:decide (ix<0)=false:=by simp;omega
  have q2:decide (65535<ix)=false:=by simp;omega
  have HF:=ae hf;clear hf;have hmx:=w9x
  have HC:Hid (∀y:ak,w9b W y->y.cell? ⟨w.heap.size,2,none⟩=some (ab af ix)):=fun y hy=>(hy.cell (p:=⟨w.heap.size,2,none⟩) (by have:=HZ.out;show w.heap.size<_;omega)).trans (by rw[←EI.out];exact cl W _ 2 _ _ _ HR.out);have HI0:Hid (0<=ix):=m2;have HI1:Hid (ix<=65535):=m3;have HSB:Hid (Sl aq W (ag (some ⟨w.heap.size,3,none⟩) 48 48) p.body):=by
   have:=mi (bs:=p.body) (jO (a:= [ab aq p.mark,ab aD p.seq,ab af p.index]) (b:=an p.body) HR.out) (by have:=HZ.out;omega) (by rw[HP.out.len];simp[aS]);rw[HP.out.len]at this;exact this
  have d0:∀y:aI W,y.1.cell? ⟨w.heap.size,0,none⟩=some (ab aq mk):=fun y=>(y.2.cell (p:=⟨w.heap.size,0,none⟩) (by have:=HZ.out;show w.heap.size<_;omega)).trans c0;have d1:∀y:aI W,y.1.cell? ⟨w.heap.size,1,none⟩=some (ab aD sq):=fun y=>(y.2.cell (p:=⟨w.heap.size,1,none⟩) (by have:=HZ.out;show w.heap.size<_;omega)).trans c1;have s0:0<=sq:=by rw[←ES.out];exact HP.out.seq.1
  have s1:sq<4294967296:=by rw[←ES.out];exact HP.out.seq.2
  have HPut:Hid (∀x:ak,az aj 219 #[ab .u64 sq,ab af 4] x fun e w'=>∃v,e=ar v/\w'.ownsRow x.heap.size 5 1 v 4 ((aH sq 4).map (Value.int aq))/\ah x.heap.size x w'):=fun x=>ia sq 4 x (by omega) (by omega) s0 (by omega);have HPut2:Hid (∀x:ak,az aj 219 #[ab .u64 ix,ab af 2] x fun e w'=>∃v,e=ar v/\w'.ownsRow x.heap.size 5 1 v 2 ((aH ix 2).map (Value.int aq))/\ah x.heap.size x w'):=fun x=>ia ix 2 x (by omega) (by omega) m2 (by omega);clear m1 m2 m3;go_enter func218,ntmps218;go_wp2_with fail;refine cM (fun x=>∃y:aI W,x=y.1) 8 (.takes [0,1,3,4,5] (.two 2 6 (.one 6 (.one 7 .leaf)) (.one 2 (.one 7 .leaf)))) hmx (by kernel_rfl) (by intro c x v a w h;cases x<;>exact h) ⟨⟨W.drew,(aF _ W).drew⟩,rfl⟩ ?_;repeat(rw[bj];simp only[au,ay];go_big_quiet_step (fail);refine aO ?_)
  rw[bo];clear s0 s1 c0 c1 c2 q0 q1 q2 hW hW1;refine⟨?_, ?_⟩
  ·obtain⟨x1,hx1⟩:=w9nm (W.drew.alloc (ap #[ab aq mk] 5));have K1:Hid (ah W.heap.size W x1):=by rw[←hx1];exact((aF _ W).drew).alloc (aJ _) _
   have O1:Hid (iP W x1 (ag (some ⟨W.heap.size,0,none⟩) 1 1) [mk]):=by rw[←hx1];exact uk W W.drew (aJ _) mk
   simp only[au,ay];go_wp2_with fail;try rw[hx1]
   refine aG ⟨⟨x1,K1.out⟩,rfl⟩ ?_;clear hx1;rw[aT];simp only[au,ay];go_wp2_with fail;go_at_call 219;refine(HPut.out x1).mono ?_;rintro e x2 ⟨v4,rfl,hrow,hb⟩;obtain⟨v5,x3,R3,O3,K3⟩:=(O1.out.below hb).app (K1.out.trans (hb.mono K1.out.size)) (Sl.of_owns (bs:=aH sq 4) (by rw[bE];exact hrow)) (by simp[bE]);have K2:=w9bt K1 hb;clear hrow hb O1;go_wp2_with fail;refine aG ⟨⟨x2,K2.out⟩,rfl⟩ ?_;rw[aT];simp only[au,ay];refine wpList_append_run (.tmp 22) (.tmp 26) 76 rfl rfl _ _ _ rfl rfl R3.out ?_;go_wp2_with fail;refine aG ⟨⟨x3,K3.out⟩,rfl⟩ ?_;rw[cu];simp only[be,bf];go_wp2_with fail
   clear d0 d1;have d2:∀y:aI W,y.1.cell? ⟨w.heap.size,2,none⟩=some (ab af ix):=fun y=>HC.out y.1 y.2;have KD:Hid (ah W.heap.size W x3.drew):=K3.out.trans (((aF _ x3).drew).mono K3.out.size);have O3':Hid (iP W x3.drew v5 ([mk]++aH sq 4)):=O3.out.below (aF _ x3).drew;have i0:=HI0.out;have i1:=HI1.out;refine cM (fun x=>∃y:aI W,x=y.1) 9 (.takes [0,1,2,3,6,7] (.one 4 (.one 5 (.one 8 .leaf)))) hmx (by kernel_rfl) (by intro c x v a w h;cases x<;>exact h) ⟨⟨x3.drew,KD.out⟩,rfl⟩ ?_;repeat(rw[bj];simp only[au,ay];go_big_quiet_step (fail);refine aO ?_)
   clear i0 i1 d2;rw[bo,aT];simp only[au,ay];go_wp2_with fail;go_at_call 219;refine(HPut2.out x3.drew).mono ?_;rintro e x4 ⟨v6,rfl,hrow,hb⟩;obtain⟨v7,x5,R5,O5,K5⟩:=(O3'.out.below hb).app (KD.out.trans (hb.mono KD.out.size)) (Sl.of_owns (bs:=aH ix 2) (by rw[bE];exact hrow)) (by simp[bE]);obtain⟨v8,x6,R6,O6',K6⟩:=O5.out.app K5.out (HSB.out.below K5.out) (by rw[HP.out.len];simp[bE]);have O6:Hid (iP W x6 v8 p.head):=by
    have:=O6'.out;rw[show([mk]++aH sq 4)++aH ix 2++p.body=p.head by simp[Sct.head,EM.out,ES.out,EI.out]]at this;exact this
   have K4:=w9bt KD hb;clear hrow hb O6';go_wp2_with fail;refine aG ⟨⟨x4,K4.out⟩,rfl⟩ ?_;rw[aT];simp only[au,ay];refine wpList_append_run (.tmp 28) (.tmp 32) 76 rfl rfl _ _ _ rfl rfl R5.out ?_;go_wp2_with fail;refine aG ⟨⟨x5,K5.out⟩,rfl⟩ ?_;rw[aT];simp only[au,ay];refine wpList_append_run (.tmp 33) (.tmp 35) 76 rfl rfl _ _ _ rfl rfl R6.out ?_;go_wp2_with fail;refine aG ⟨⟨x6,K6.out⟩,rfl⟩ ?_;rw[cu];simp only[be,bf];clear R3 R5 R6 O3 O3' O5;go_wp2_with fail
   go_at_call 266;refine(vq v8 p.head x6 O6.out.sl (Sct.head_bytes HP.out)).mono ?_;rintro e w' ⟨rfl,hx⟩;obtain rfl:=hx.symm;clear hx;obtain⟨ck,hck⟩:=w9nm (fH jq p.head);have HCK:=ae hck;have HU:=ae (qG p.head);rw[hck];clear hck;go_wp2_with fail;go_at_call 219;refine(ia ck 8 x6 (by omega) (by omega) (by rw[←HCK.out];exact HU.out.1) (by rw[←HCK.out];exact HU.out.2)).mono ?_;rintro e x7 ⟨v9,rfl,hrow,hb⟩;obtain⟨v10,x8,R8,O8,K8⟩:=(O6.out.below hb).app (K6.out.trans (hb.mono K6.out.size)) (Sl.of_owns (bs:=aH ck 8) (by rw[bE];exact hrow)) (by rw[Sct.head_length HP.out];simp[bE]);clear hrow hb;obtain⟨x9,hx9⟩:=w9nm (x8.alloc (ap cx 51));have K9:Hid (ah W.heap.size W x9):=by rw[←hx9];exact K8.out.alloc K8.out.size _
   have k9:Hid (x9.heap[x8.heap.size]? =some (ap cx 51 (0,0))):=by rw[←hx9];exact bR x8 _
   have O9:Hid (iP W x9 v10 (p.head++aH ck 8)):=by rw[←hx9];exact O8.out.below ((aF _ x8).alloc (aJ _) _)
   have hl63:(p.head++aH ck 8).length=63:=by rw[cX,Sct.head_length HP.out,bE]
   have RC:=jP (B:=x8.heap.size) (o:=0) (dLen:=64) (dCap:=64) 3 O9.out.sl (by rw[hl63];omega) (fy k9.out 0 _ (by rw[hl63,dj];omega));obtain⟨x10,hx10⟩:=w9nm (x9.setCells x8.heap.size 0 (an (p.head++aH ck 8)));rw[hx10,hl63]at RC;have K10:Hid (ah W.heap.size W x10):=by rw[←hx10];exact K9.out.trans ((fi (N:=W.heap.size) K8.out.size _ _ _).mono (aJ _))
   have rb:x10.rangeAt x8.heap.size 0 (an p.bytes):=by
    have e1:an p.bytes=an (p.head++aH ck 8)++ [ab aq 0]:=by
     rw[←HCK.out];simp[an,Sct.bytes,lY]
    rw[e1];refine kp ?_ ?_
    ·rw[←hx10];exact gE x9 _ 0 _ (by rw[bi,hl63];exact fy k9.out 0 63 (by rw[dj];omega))
    ·rw[bi,hl63,←hx10];refine iM (fun j x hx=> ?_) _ 0 _ (by rw[bi,hl63];simp);rw[cl _ _ _ _ _ _ k9.out]
     match j,hx with
     | 0,hx=>simp at hx;subst hx;rfl
     | j+1,hx=>simp at hx
   have L10:(aE 51 ⟨x8.heap.size,0,none⟩).run aj x10=.ok (al (an p.bytes).toArray) x10:=dd rb (by rw[bi];exact Sct.bytes_length HP.out);obtain⟨x11,st,ld,hb11⟩:=mj (w:=w) (x:=x10) (B:=w.heap.size+1) (u:=an p.bytes) ((K10.out.block _ (by have:=HZ.out;omega)).trans HR2.out) dj (gP _) (HB.out.trans (K10.out.mono HB.out.size)) (dr (Sct.bytes_length HP.out));have HB11:=ae hb11;have HLD:=ae ld;clear hx10 rb hl63 hb11 ld;go_wp2_with (at_builtin;refine wpList_append_run (.tmp 37) (.tmp 40) 76 rfl rfl _ _ _ rfl rfl R8.out ?_);have hE:p.code=an p.bytes/\p.codeE=0:=by unfold Sct.code Sct.codeE;rw[if_pos HF.out,if_pos HF.out];exact⟨rfl,rfl⟩
   rw[hE.1,hE.2];exact bl (dl rfl rfl HLD.out) rfl ⟨rfl,HB11.out⟩
  ·simp only[au,ay];go_wp2_with fail;go_at_call 219;refine(HPut.out W.drew).mono ?_;rintro e x1 ⟨v4,rfl,hrow,hb⟩;have K1:w9h W x1:=((aF _ W).drew).trans hb;have S1:Hid (Sl aq x1 v4 (aH sq 4)):=Sl.of_owns (bs:=aH sq 4) (by rw[bE];exact hrow);clear hrow hb;go_wp2_with fail;refine aG ⟨⟨x1,K1.out⟩,rfl⟩ ?_;rw[aT];obtain⟨x2,hx2⟩:=w9nm (x1.alloc (ap #[ab aq mk] 5));have K2:Hid (ah W.heap.size W x2):=by rw[←hx2];exact K1.out.alloc K1.out.size _
   have O2:Hid (iP W x2 (ag (some ⟨x1.heap.size,0,none⟩) 1 1) [mk]):=by rw[←hx2];exact uk W x1 K1.out.size mk
   have S2:Hid (Sl aq x2 v4 (aH sq 4)):=by rw[←hx2];exact S1.out.below ((aF _ x1).alloc (aJ _) _)
   obtain⟨v5,x3,R3,O3,K3⟩:=O2.out.app K2.out S2.out (by simp[bE]);simp only[au,ay];go_wp2_with fail;try rw[hx2]
   refine aG ⟨⟨x2,K2.out⟩,rfl⟩ ?_;clear hx2 O2 S1 S2;rw[aT];simp only[au,ay];refine wpList_append_run (.tmp 22) (.tmp 26) 76 rfl rfl _ _ _ rfl rfl R3.out ?_;go_wp2_with fail;refine aG ⟨⟨x3,K3.out⟩,rfl⟩ ?_;rw[cu];simp only[be,bf];go_wp2_with fail
   clear d0 d1;have d2:∀y:aI W,y.1.cell? ⟨w.heap.size,2,none⟩=some (ab af ix):=fun y=>HC.out y.1 y.2;have KD:Hid (ah W.heap.size W x3.drew):=K3.out.trans (((aF _ x3).drew).mono K3.out.size);have O3':Hid (iP W x3.drew v5 ([mk]++aH sq 4)):=O3.out.below (aF _ x3).drew;have i0:=HI0.out;have i1:=HI1.out;refine cM (fun x=>∃y:aI W,x=y.1) 9 (.takes [0,1,2,3,6,7] (.one 4 (.one 5 (.one 8 .leaf)))) hmx (by kernel_rfl) (by intro c x v a w h;cases x<;>exact h) ⟨⟨x3.drew,KD.out⟩,rfl⟩ ?_;repeat(rw[bj];simp only[au,ay];go_big_quiet_step (fail);refine aO ?_)
   clear i0 i1 d2;rw[bo,aT];simp only[au,ay];go_wp2_with fail;go_at_call 219;refine(HPut2.out x3.drew).mono ?_;rintro e x4 ⟨v6,rfl,hrow,hb⟩;obtain⟨v7,x5,R5,O5,K5⟩:=(O3'.out.below hb).app (KD.out.trans (hb.mono KD.out.size)) (Sl.of_owns (bs:=aH ix 2) (by rw[bE];exact hrow)) (by simp[bE]);obtain⟨v8,x6,R6,O6',K6⟩:=O5.out.app K5.out (HSB.out.below K5.out) (by rw[HP.out.len];simp[bE]);have O6:Hid (iP W x6 v8 p.head):=by
    have:=O6'.out;rw[show([mk]++aH sq 4)++aH ix 2++p.body=p.head by simp[Sct.head,EM.out,ES.out,EI.out]]at this;exact this
   have K4:=w9bt KD hb;clear hrow hb O6';go_wp2_with fail;refine aG ⟨⟨x4,K4.out⟩,rfl⟩ ?_;rw[aT];simp only[au,ay];refine wpList_append_run (.tmp 28) (.tmp 32) 76 rfl rfl _ _ _ rfl rfl R5.out ?_;go_wp2_with fail;refine aG ⟨⟨x5,K5.out⟩,rfl⟩ ?_;rw[aT];simp only[au,ay];refine wpList_append_run (.tmp 33) (.tmp 35) 76 rfl rfl _ _ _ rfl rfl R6.out ?_;go_wp2_with fail;refine aG ⟨⟨x6,K6.out⟩,rfl⟩ ?_;rw[cu];simp only[be,bf];clear R3 R5 R6 O3 O3' O5;go_wp2_with fail
   go_at_call 266;refine(vq v8 p.head x6 O6.out.sl (Sct.head_bytes HP.out)).mono ?_;rintro e w' ⟨rfl,hx⟩;obtain rfl:=hx.symm;clear hx;obtain⟨ck,hck⟩:=w9nm (fH jq p.head);have HCK:=ae hck;have HU:=ae (qG p.head);rw[hck];clear hck;go_wp2_with fail;go_at_call 219;refine(ia ck 8 x6 (by omega) (by omega) (by rw[←HCK.out];exact HU.out.1) (by rw[←HCK.out];exact HU.out.2)).mono ?_;rintro e x7 ⟨v9,rfl,hrow,hb⟩;obtain⟨v10,x8,R8,O8,K8⟩:=(O6.out.below hb).app (K6.out.trans (hb.mono K6.out.size)) (Sl.of_owns (bs:=aH ck 8) (by rw[bE];exact hrow)) (by rw[Sct.head_length HP.out];simp[bE]);clear hrow hb;obtain⟨x9,hx9⟩:=w9nm (x8.alloc (ap cx 51));have K9:Hid (ah W.heap.size W x9):=by rw[←hx9];exact K8.out.alloc K8.out.size _
   have k9:Hid (x9.heap[x8.heap.size]? =some (ap cx 51 (0,0))):=by rw[←hx9];exact bR x8 _
   have O9:Hid (iP W x9 v10 (p.head++aH ck 8)):=by rw[←hx9];exact O8.out.below ((aF _ x8).alloc (aJ _) _)
   have hl63:(p.head++aH ck 8).length=63:=by rw[cX,Sct.head_length HP.out,bE]
   have RC:=jP (B:=x8.heap.size) (o:=0) (dLen:=64) (dCap:=64) 3 O9.out.sl (by rw[hl63];omega) (fy k9.out 0 _ (by rw[hl63,dj];omega));obtain⟨x10,hx10⟩:=w9nm (x9.setCells x8.heap.size 0 (an (p.head++aH ck 8)));rw[hx10,hl63]at RC;have K10:Hid (ah W.heap.size W x10):=by rw[←hx10];exact K9.out.trans ((fi (N:=W.heap.size) K8.out.size _ _ _).mono (aJ _))
   have rb:x10.rangeAt x8.heap.size 0 (an p.bytes):=by
    have e1:an p.bytes=an (p.head++aH ck 8)++ [ab aq 0]:=by
     rw[←HCK.out];simp[an,Sct.bytes,lY]
    rw[e1];refine kp ?_ ?_
    ·rw[←hx10];exact gE x9 _ 0 _ (by rw[bi,hl63];exact fy k9.out 0 63 (by rw[dj];omega))
    ·rw[bi,hl63,←hx10];refine iM (fun j x hx=> ?_) _ 0 _ (by rw[bi,hl63];simp);rw[cl _ _ _ _ _ _ k9.out]
     match j,hx with
     | 0,hx=>simp at hx;subst hx;rfl
     | j+1,hx=>simp at hx
   have L10:(aE 51 ⟨x8.heap.size,0,none⟩).run aj x10=.ok (al (an p.bytes).toArray) x10:=dd rb (by rw[bi];exact Sct.bytes_length HP.out);obtain⟨x11,st,ld,hb11⟩:=mj (w:=w) (x:=x10) (B:=w.heap.size+1) (u:=an p.bytes) ((K10.out.block _ (by have:=HZ.out;omega)).trans HR2.out) dj (gP _) (HB.out.trans (K10.out.mono HB.out.size)) (dr (Sct.bytes_length HP.out));have HB11:=ae hb11;have HLD:=ae ld;clear hx10 rb hl63 hb11 ld;go_wp2_with (at_builtin;refine wpList_append_run (.tmp 37) (.tmp 40) 76 rfl rfl _ _ _ rfl rfl R8.out ?_);have hE:p.code=an p.bytes/\p.codeE=0:=by unfold Sct.code Sct.codeE;rw[if_pos HF.out,if_pos HF.out];exact⟨rfl,rfl⟩
   rw[hE.1,hE.2];exact bl (dl rfl rfl HLD.out) rfl ⟨rfl,HB11.out⟩
 ·have hE:Hid (p.code=a9 0/\p.codeE=11):=by refine(?_:_/\_);unfold Sct.code Sct.codeE;rw[if_neg hf,if_neg hf];exact⟨rfl,rfl⟩
  have hq:(mk==0)=true\/((mk==0)=false/\decide (ix<0)=true)\/((mk==0)=false/\decide (ix<0)=false/\decide (65535<ix)=true):=by
   have hfx:¬(p.mark≠0/\0<=p.index/\p.index<=65535):=fun h=>hf (decide_eq_true h);rw[EM.out,EI.out]at hfx;by_cases h0:mk=0
   ·exact aA (by simpa using h0)
   ·by_cases h1:ix<0
    ·exact aC (aA ⟨by simpa using h0,by simpa using h1⟩)
    ·exact aC (aC ⟨by simpa using h0,by simpa using h1,by simp;omega⟩)
  obtain⟨x2,st,ld,hb2⟩:=mj HR2.out dj (gP _) HB.out (fv 0);have st':(aL 51 ⟨w.heap.size+1,0,none⟩ (al cx)).run aj W=.ok () x2:=st;have HB2:=ae hb2;clear hf st hb2;rcases hq with q0 | ⟨q0,q1⟩ | ⟨q0,q1,q2⟩;all_goals
   go_enter func218,ntmps218;go_wp2_with fail;rw[hE.out.1,hE.out.2];exact bl (dl rfl rfl ld) rfl ⟨rfl,HB2.out⟩
end
section
attribute [-simp] isAgg51 zeroValue51 isAgg205 zeroValue205
attribute [-go_sem] aE aL
attribute [local go_sem] bC bD cV ro dQ
theorem vr (d:Nat) {xs ys:List Int} (hx:xs.length=48) (hy:ys.length=48) (w:ak):(eG (d+2) 205 (al (an xs).toArray) (al (an ys).toArray)).run aj w=.ok (fg (an xs) (an ys)) w:=by
 obtain⟨i0,hi⟩:∃i,aj.info? 5 =some i:=Option.isSome_iff_exists.1 (show(aj.info? 5).isSome=true by kernel_rfl);unfold an;rw[run_equalIn_array w (d+1) (xs.map (Value.int aq)).toArray (ys.map (Value.int aq)).toArray rn hi,show aj.cellsOf 5 =1 from by kernel_rfl,
  qD (d:=d) (by kernel_rfl) (by kernel_rfl) xs ys w (dm 48) (fun i hi=>by have:=fo.1 hi;omega)]
 congr 1
 rw[Bool.eq_iff_iff,kF,List.all_eq_true];constructor
 ·intro h
  congr 1
  apply List.ext_getElem (by omega);intro i h1 h2;have:=h i (fo.2 (by omega))
  simpa [h1,h2]using this
 ·intro h i hi;have hxy:xs=ys:=by
   have e:=congrArg (List.map aW) h;rw[iA,iA,show aW ∘ Value.int aq=id from by funext x;rfl]at e
   simpa using e
  simp[hxy]
theorem nh {xs ys:List Int} (hx:xs.length=48) (hy:ys.length=48) (w:ak):(eG 10000 205 (al (an xs).toArray) (al (an ys).toArray)).run aj w=.ok (fg (an xs) (an ys)) w:=vr 9998 hx hy w
noncomputable def iV (p q:Sct):Bool:=p.mark==q.mark&&(p.seq==q.seq&&(p.index==q.index&&fg (an p.body) (an q.body)))
theorem oM {p q:Sct}:iV p q=true↔p=q:=by
 unfold iV;rw[fN,fN,fN,kF];constructor
 ·rintro⟨a,b,c,d⟩;have e:=congrArg (List.map aW) d;unfold an at e;rw[iA,iA,show aW ∘ Value.int aq=id from by funext x;rfl]at e;cases p;cases q;simp at a b c e;simp[a,b,c,e]
 ·rintro rfl;simp
end
section
theorem iI {t:aV} {k k':IntKind} (hu:aj.underlying t=some (.int k)) {xs:Array am} {off:Nat} {n:Int} (hx:xs[off]? =some (ab k' n)) (w:ak):(part t xs off).run aj w=.ok (ab k' n) w:=
 run_part_plain w (by unfold Program.plainKey;rw[hu]) hx
theorem vu {xs:Array am} {off:Nat} (w:ak):(part 205 xs off).run aj w=.ok (al (xs.extract off (off+48))) w:=by
 obtain⟨i0,hi⟩:∃i,aj.info? 205 =some i:=Option.isSome_iff_exists.1 (show(aj.info? 205).isSome=true by kernel_rfl);have hs:aj.cellsOf 205 =48:=by kernel_rfl
 simp[part,isAgg,run_underlying rn,run_sizeOf w hi,hs,Result.andThen]
theorem vv (p:Sct) (hp:p.body.length=48):p.cells.toArray.extract 3 (3+48)=(an p.body).toArray:=by
 rw[show p.cells= [ab aq p.mark,ab aD p.seq,ab af p.index]++an p.body from rfl];apply Array.toList_inj.1;simp only[an,dX,dT,Array.toList_extract,List.extract_eq_take_drop,be,bf];exact ey (by simp[hp])
set_option maxRecDepth 100000 in
theorem ru {p q:Sct} (hp:p.body.length=48) (hq:q.body.length=48) (w:ak):(eG 10000 304 (al p.cells.toArray) (al q.cells.toArray)).run aj w=.ok (iV p q) w:=by
 rw[run_equalIn_struct w 9999 304 _ _ (by kernel_rfl) (by kernel_rfl)];have h0:∃f0 f1 f2 f3:Field,aj.fieldsOf 304 =#[f0,f1,f2,f3]/\(f0.name≠ "_" /\f0.type= 5 /\f0.offset=0)/\(f1.name≠ "_" /\f1.type= 110 /\f1.offset=1)/\(f2.name≠ "_" /\f2.type= 3 /\f2.offset=2)/\(f3.name≠ "_" /\f3.type= 205 /\f3.offset=3):=
  ⟨_,_,_,_,rfl,⟨by decide,rfl,rfl⟩,⟨by decide,rfl,rfl⟩,⟨by decide,rfl,rfl⟩,⟨by decide,rfl,rfl⟩⟩
 obtain⟨f0,f1,f2,f3,h0,⟨n0,t0,o0⟩,⟨n1,t1,o1⟩,⟨n2,t2,o2⟩,⟨n3,t3,o3⟩⟩:=h0;rw[h0];simp only[Op.eqFields,gR,if_pos n0,if_pos n1,if_pos n2,if_pos n3,t0,t1,t2,t3,o0,o1,o2,o3];have a0:p.cells.toArray[0]? =some (ab aq p.mark):=rfl;have b0:q.cells.toArray[0]? =some (ab aq q.mark):=rfl;have a1:p.cells.toArray[1]? =some (ab aD p.seq):=rfl;have b1:q.cells.toArray[1]? =some (ab aD q.seq):=rfl;have a2:p.cells.toArray[2]? =some (ab af p.index):=rfl;have b2:q.cells.toArray[2]? =some (ab af q.index):=rfl;have s0:iV p q=(p.mark==q.mark&&(p.seq==q.seq&&(p.index==q.index&&fg (an p.body) (an q.body)))):=rfl;rw[s0,iI Tryz.underlying5 a0,ed,iI Tryz.underlying5 b0,ed,run_equalIn_int w 9998 5 aq aq _ _ Tryz.underlying5,ed];cases p.mark==q.mark
 ·rfl
 simp only[Bool.not_true,Bool.false_eq_true,if_false,Bool.true_and,gR];rw[iI Tryz.underlying110 a1,ed,iI Tryz.underlying110 b1,ed,run_equalIn_int w 9998 110 aD aD _ _ Tryz.underlying110,ed];cases p.seq==q.seq
 ·rfl
 simp only[Bool.not_true,Bool.false_eq_true,if_false,Bool.true_and,gR];rw[iI Tryz.underlying3 a2,ed,iI Tryz.underlying3 b2,ed,run_equalIn_int w 9998 3 af af _ _ Tryz.underlying3,ed];cases p.index==q.index
 ·rfl
 simp only[Bool.not_true,Bool.false_eq_true,if_false,Bool.true_and,gR];rw[vu,ed,vu,ed,vv p hp,vv q hq,vr 9997 hp hq,ed];cases fg (an p.body) (an q.body)<;>rfl
theorem rv:(aj.info? 304).map (·.size)=some 51:=by kernel_rfl
set_option maxRecDepth 100000 in
theorem mp {w:ak} {b o:Nat} {c:List am} (hc:w.rangeAt b o c) (h:c.length=51):(aE 304 ⟨b,o,none⟩).run aj w=.ok (al c.toArray) w:=
 iL w b o _ c _ hc Tryz.underlying304 rfl (by rw[h];exact rv)
theorem Cd {w:ak} {b o:Nat} {c:List am} (ht:w.there b o 51) (h:c.length=51) (h1:∀v ∈ c,v.oneCell'=true):(aL 304 ⟨b,o,none⟩ (al c.toArray)).run aj w=.ok () (w.setCells b o c):=by
 have:=run_storeVar_mid (P:=aj) w b o 304 c.toArray (by simpa [h]using ht) (by simpa [h]using rv) (gD h1)
 simpa using this
theorem oN {w:ak} {c:Array am} {c':List am} (h:c.size=51) (h':c'.length=51) (h1:∀v ∈ c',v.oneCell'=true):(aL 304 ⟨w.heap.size,0,none⟩ (al c'.toArray)).run aj (w.alloc (ap c 304))=.ok () (w.alloc (ap c'.toArray 304)):=
 iU w _ c c'.toArray (by simpa [h']using rv) (by simpa [h']using h) (gD h1)
theorem eM (w:ak):(zeroValue 304).run aj w=.ok (al cm.toArray) w:=by kernel_rfl
theorem eN (m s i:Int) (w:ak):(cY 304 #[(0,ab aq m),(1,ab aD s),(2,ab af i)]).run aj w=.ok (al (Value.int aq m:: ab aD s:: ab af i::an (bK 48 0)).toArray) w:=by kernel_rfl
theorem eO (w:ak):(cY 304 #[]).run aj w=.ok (al cm.toArray) w:=by kernel_rfl
theorem kN:cm.toArray.size=51:=by simp[cm,an]
theorem oO (t:aV) (h:t≠ 51 /\t≠ 304 /\t≠ 205) (a:aN):aE t a=(do if←isAgg t then pure (al (←loadCells a (←sizeOf t)))else load a):=rfl
theorem oQ (t:aV) (h:t≠ 51 /\t≠ 304) (a:aN) (v:am):aL t a v=(do
  if v.cells.size≠(←sizeOf t)then stuck "storeVar: the value has not the size of the variable"
  storeCells a v.cells.toList):=rfl
def gu (w:ak) (N rb:Nat) (bs:List Int):Prop:=
 ∃b off cap,Boxed w rb 370 (ag (some ⟨b,off,none⟩) bs.length cap)/\bs.length<=cap/\cap<=aS/\b<N/\
  (∀j,j<bs.length->w.cell? ⟨b,off+j,none⟩=some (ab aq (bs[j]?.getD 0)))/\rb<N/\N<=w.heap.size
theorem vw (rb b off len cap k:Nat) (w:ak) (hb:Boxed w rb 370 (ag (some ⟨b,off,none⟩) len cap)) (hk:k<=len) (hlen:len<=cap) (hcap:cap<=aS):
  az aj 300 #[ao (some ⟨rb,0,none⟩),ab af (k:Int)] w fun e w'=>
   e=ar (aQ #[ag (some ⟨b,off,none⟩) k cap,.bool true])/\w'=w.setCell ⟨rb,0,none⟩ (ag (some ⟨b,if k=cap then off else off+k,none⟩) (len - k) (cap - k)):=by
 unfold aS at hcap;have c1:=hb.cell;have f1:=hb.frozen;have g1:decide ((k:Int)<0)=false:=by simp
 have g2:decide (len<k)=false:=by simp;omega
 go_enter func300,ntmps300;go_wp2;all_goals
  go_ret2;exact⟨rfl,rfl⟩
set_option maxRecDepth 100000 in
theorem Ce (a:Option aN) (len cap:Nat) (bs:List Int) (hlen:bs.length=len) (hcap:len<=140737488351232) (w:ak) (hA:lp w a len bs):
  az aj 253 #[ag a len cap] w fun e w'=>∃rb,e=ar (ao (some ⟨rb,0,none⟩))/\w.heap.size<rb/\gu w' w'.heap.size rb bs/\ah w.heap.size w w':=by
 obtain⟨i0,hi,hz0,hz1,hz2⟩:=eJ ln;have hA:=ae hA;have HL:=ae hlen;clear hlen;have HN:=ua HL;have H1:=ub (bs:=bs);go_enter func253,ntmps253;go_wp2_with (first | (at_make;refine wpList_make_full _ rfl _ _ 76 rfl w.heap.size 5 i0 (ab aq 0) 1 Tryz.underlying76 hi hz0 hz1 af af _ _ len rfl rfl rfl rfl (by rw[hz2];omega) (by unfold aS;omega) (by simp) ?_;intro w1 hown1 hgrow1;obtain⟨HB,HR,HP⟩:=tZ HL hA hown1 hgrow1;clear hown1 hgrow1) | (with_reducible refine wpList_copy_splice rfl (.tmp 7) (.tmp 8) 76 76 rfl 5 Tryz.underlying76 oa _ _ len len len cap rfl rfl w.heap.size 0 (bK len (Value.int aq 0)) 5 HR.out (bs.map (Value.int aq)) HN.out HP.out (by rw[HN.out];simp) H1.out w.heap.size w HB.out (aJ _) ?_;intro w2 hg2 hB2));have hsz:w.heap.size<w2.heap.size:=(cj.1 hg2.out).1;have hcells:∀j,j<bs.length->w2.cell? ⟨w.heap.size,0+j,none⟩=some (ab aq (bs[j]?.getD 0)):=by
  intro j hj;rw[cl _ _ _ _ _ _ hg2.out,tW _ _ (by rw[List.length_replicate,fZ,HL.out])];simp[hj]
 have HZ:=ae hsz;have HC:=ae hcells;clear hsz hcells;go_ret;refine⟨_,rfl,HZ.out, ?_,hB2.alloc (iT HZ.out) _⟩;have e:=HL.out;subst e;exact⟨w.heap.size,0,_,dY _ _ _,aJ _,by unfold aS;omega,by have:=HZ.out;simp;omega,fun j hj=>((cL (Below.heap_alloc w2 _ _ HZ.out)).trans (HC.out j hj)),by simp,aJ _⟩
theorem vy (v:am) (bs:List Int) (w:ak) (hv:Sl aq w v bs) (hcap:bs.length<=140737488351232):
  az aj 253 #[v] w fun e w'=>∃rb,e=ar (ao (some ⟨rb,0,none⟩))/\w.heap.size<rb/\gu w' w'.heap.size rb bs/\ah w.heap.size w w':=by
 obtain⟨a,cap,rfl,hl,_⟩:=lp.of_sl hv;exact Ce a bs.length cap bs rfl hcap w hl
theorem gu.next {w:ak} {N rb b off cap:Nat} {bs:List Int} {k:Nat} (hb:Boxed w rb 370 (ag (some ⟨b,off,none⟩) bs.length cap)) (h1:bs.length<=cap) (h2:cap<=aS) (h3:b<N)
  (h4:∀j,j<bs.length->w.cell? ⟨b,off+j,none⟩=some (ab aq (bs[j]?.getD 0))) (hk:k<=bs.length) (h5:rb<N/\N<=w.heap.size):
  (gu (w.setCell ⟨rb,0,none⟩ (ag (some ⟨b,if k=cap then off else off+k,none⟩) (bs.length - k) (cap - k))) N rb (bs.drop k))/\
  (∀j,j<bs.length->(w.setCell ⟨rb,0,none⟩ (ag (some ⟨b,if k=cap then off else off+k,none⟩) (bs.length - k) (cap - k))).cell? ⟨b,off+j,none⟩=some (ab aq (bs[j]?.getD 0)))/\
  w.grownBy (w.setCell ⟨rb,0,none⟩ (ag (some ⟨b,if k=cap then off else off+k,none⟩) (bs.length - k) (cap - k))) (some rb):=by
 have hg:=grownBy_setCell' w rb (ag (some ⟨b,if k=cap then off else off+k,none⟩) (bs.length - k) (cap - k));have hcells:∀j,j<bs.length->(w.setCell ⟨rb,0,none⟩ (ag (some ⟨b,if k=cap then off else off+k,none⟩) (bs.length - k) (cap - k))).cell? ⟨b,off+j,none⟩=some (ab aq (bs[j]?.getD 0)):=by
  intro j hj;have hne:b≠rb:=by
   rintro rfl;have h5:=h4 j hj;rw[cl _ _ _ _ _ _ hb]at h5;by_cases e:off+j=0
   ·rw[e]at h5;simp at h5
   ·rw[Array.getElem?_eq_none (by simp;omega)]at h5;cases h5
  exact(cL (hg.block b (aU h3 h5.2) (fun e=>hne (by cases e;rfl)))).trans (h4 j hj)
 refine⟨⟨b,if k=cap then off else off+k,cap - k, ?_,by rw[dx];omega,by omega,h3, ?_,h5.1,aZ h5.2 hg.size⟩,hcells,hg⟩
 ·rw[dx];exact hb.set _
 ·intro j hj;rw[dx]at hj;have e:(if k=cap then off else off+k)+j=off+(k+j):=by rw[if_neg (by omega)];omega
  rw[e,l6];exact hcells (k+j) (by omega)
theorem gu.kept {w w':ak} {N rb:Nat} {bs:List Int} {row:Option Nat} (h:gu w N rb bs) (hg:w.grownBy w' row) (hr:∀r,row=some r->N<=r):gu w' N rb bs:=by
 obtain⟨b,off,cap,h0,h1,h2,h3,h4,h5,h6⟩:=h;exact⟨b,off,cap,h0.kept hg (fun e=>by have:=hr _ e.symm;omega),h1,h2,h3,fun j hj=>(cL (hg.block b (by omega) (fun e=>by have:=hr _ e.symm;omega))).trans (h4 j hj),h5,aZ h6 hg.size⟩
theorem gu.below {w w':ak} {N rb:Nat} {bs:List Int} (h:gu w N rb bs) (hg:w.grownBy w' none):gu w' N rb bs:=h.kept hg (fun r e=>by cases e)
theorem oS {N:Nat} (rb:Nat) (bs:List Int) (k:Nat) (w:ak) (hr:gu w N rb bs) (hB:aP bs) (hk:k<=bs.length):
  az aj 287 #[ao (some ⟨rb,0,none⟩),ab af (k:Int)] w fun e w'=>
   e=ar (aQ #[ab .u64 (cy (bs.take k)),.bool true])/\gu w' N rb (bs.drop k)/\w.grownBy w' (some rb):=by
 obtain⟨b,off,cap,h0,h1,h2,h3,h4,h5⟩:=hr;obtain⟨r1,r2,r3⟩:=gu.next h0 h1 h2 h3 h4 hk h5;obtain⟨W,hW⟩:∃W,w.setCell ⟨rb,0,none⟩ (ag (some ⟨b,if k=cap then off else off+k,none⟩) (bs.length - k) (cap - k))=W:=⟨_,rfl⟩;have hl:lp W (some ⟨b,off,none⟩) k (bs.take k):=by
  rw[←hW];exact aC ⟨b,off,rfl,aU h3 (aZ h5.2 r3.size),fun j hj=>by rw[l9 bs k j hj];exact r2 j (by omega)⟩
 have hn:az aj 300 #[ao (some ⟨rb,0,none⟩),ab af (k:Int)] w fun e w'=>e=ar (aQ #[ag (some ⟨b,off,none⟩) k cap,.bool true])/\w'=W:=by
  rw[←hW];exact vw rb b off bs.length cap k w h0 hk h1 h2
 rw[hW]at r1 r3;have hg:=BG (some ⟨b,off,none⟩) k cap (bs.take k) (by rw[fd];omega) (by unfold aS at h2;omega) W hl (hB.take k);have HG:=ae hg;have HC:=ae hn;have R1:=ae r1;have R3:=ae r3;clear h0 h1 h2 h3 h4 h5 hk hB hl r1 r2 r3 hW hn hg;go_enter func287,ntmps287;go_wp2_with fail;refine HC.out.mono ?_;rintro e w' ⟨rfl,rfl⟩;go_wp2_with fail;refine HG.out.mono ?_;rintro e w' ⟨rfl,hb⟩;have HB:=ae hb;clear hb;go_wp2;go_ret2;exact⟨rfl,R1.out.below (fS HB.out none),uc R3.out (fS HB.out _)⟩
set_option maxRecDepth 100000 in
theorem vz {N:Nat} (rb:Nat) (bs:List Int) (k:Nat) (w:ak) (hr:gu w N rb bs) (hk:k<=bs.length) (hcap:bs.length<=140737488351232):
  az aj 288 #[ao (some ⟨rb,0,none⟩),ab af (k:Int)] w fun e w'=>
   ∃g,e=ar (aQ #[ag (some ⟨g,0,none⟩) k k,.bool true])/\w.heap.size<=g/\w'.heap[g]? =some (ap ((bs.take k).map (Value.int aq)).toArray 5 (0,0))/\gu w' N rb (bs.drop k)/\w.grownBy w' (some rb):=by
 obtain⟨b,off,cap,h0,h1,h2,h3,h4,h5⟩:=hr;obtain⟨r1,r2,r3⟩:=gu.next h0 h1 h2 h3 h4 hk h5;obtain⟨W,hW⟩:∃W,w.setCell ⟨rb,0,none⟩ (ag (some ⟨b,if k=cap then off else off+k,none⟩) (bs.length - k) (cap - k))=W:=⟨_,rfl⟩;have hl:lp W (some ⟨b,off,none⟩) k (bs.take k):=by
  rw[←hW];exact aC ⟨b,off,rfl,aU h3 (aZ h5.2 r3.size),fun j hj=>by rw[l9 bs k j hj];exact r2 j (by omega)⟩
 have hsz:W.heap.size=w.heap.size:=by rw[←hW];simp
 have hn:az aj 300 #[ao (some ⟨rb,0,none⟩),ab af (k:Int)] w fun e w'=>e=ar (aQ #[ag (some ⟨b,off,none⟩) k cap,.bool true])/\w'=W:=by
  rw[←hW];exact vw rb b off bs.length cap k w h0 hk h1 h2
 rw[hW]at r1 r3;obtain⟨i0,hi,hz0,hz1,hz2⟩:=eJ ln;have HL0:Hid ((bs.take k).length=k):=by show _=_;rw[fd];omega
 have hA:=ae hl;have HN:=ua HL0;have H1:=ub (bs:=bs.take k);have HC:=ae hn;have R1:=ae r1;have R3:=ae r3;have HS:=ae hsz;have hk1:k<=140737488351232:=by omega
 clear h0 h1 h2 h3 h4 h5 hk hl r1 r2 r3 hW hn hsz hcap;go_enter func288,ntmps288;go_wp2_with fail;refine HC.out.mono ?_;rintro e w' ⟨rfl,rfl⟩;go_wp2_with (first | (at_make;refine wpList_make_full _ rfl _ _ 76 rfl w'.heap.size 5 i0 (ab aq 0) 1 Tryz.underlying76 hi hz0 hz1 af af _ _ k rfl rfl rfl rfl (by rw[hz2];omega) (by unfold aS;omega) (by simp) ?_;intro w1 hown1 hgrow1;obtain⟨HB,HR,HP⟩:=tZ HL0 hA hown1 hgrow1;clear hown1 hgrow1) | (with_reducible refine wpList_copy_splice rfl (.tmp 19) (.tmp 20) 76 76 rfl 5 Tryz.underlying76 oa _ _ k k k cap rfl rfl w'.heap.size 0 (bK k (Value.int aq 0)) 5 HR.out ((bs.take k).map (Value.int aq)) HN.out HP.out (by rw[HN.out];simp) H1.out w'.heap.size w' HB.out (aJ _) ?_;intro w2 hg2 hB2));go_ret2;have hB2':=hB2;have e2:splice (bK k (Value.int aq 0)) 0 ((bs.take k).map (Value.int aq))=(bs.take k).map (Value.int aq):=tW _ _ (by rw[List.length_replicate,fZ,HL0.out]);have h2:=hg2.out;rw[e2]at h2;exact⟨_,rfl,Nat.le_of_eq HS.out.symm,by rw[←List.map_take];exact h2,R1.out.below (fS hB2 none),uc R3.out (fS hB2 _)⟩
end
section
attribute [-simp] isAgg51 zeroValue51 isAgg205 zeroValue205 isAgg304 zeroValue304
attribute [-go_sem] aE aL
attribute [local go_sem] bC bD cV eM eN eO oO oQ
theorem mr {w x:ak} {B:Nat} {u:List am} {z:Array am} (hw:x.heap[B]? =some (ap z 304 (0,0))) (hz:z.size=51) (hB:w.heap.size<=B) (hb:w9b w x) (hu:u.length=51) (h1:∀v ∈ u,v.oneCell'=true):
  ∃x',(aL 304 ⟨B,0,none⟩ (al u.toArray)).run aj x=.ok () x'/\(aE 304 ⟨B,0,none⟩).run aj x'=.ok (al u.toArray) x'/\ah w.heap.size w x':=by
 have ht:x.there B 0 51:=fy hw 0 51 (by rw[hz];exact aJ _);have hs:=Cd ht hu h1;exact⟨_,hs,mp (gE x _ 0 u (by rw[hu];exact ht)) hu,hb.trans (fi hB _ _ _)⟩
theorem vA {y:Int}:cy [y]=y:=by
 show gF [y] 1=y;simp[gF]
theorem Cf (bs:List Int) (hb:aP bs) (hl:bs.length=64) (w:ak):
  az aj 268 #[al (an bs).toArray] w fun e w'=>e=ar (al (Sct.of bs).cells.toArray)/\ah w.heap.size w w':=by
 obtain⟨W1,hW1⟩:=w9nm (w.alloc (ap (an bs).toArray 51));have hB1:ah w.heap.size w W1:=by rw[←hW1];exact(aF _ _).alloc (aJ _) _
 have hz1:W1.heap.size=w.heap.size+1:=by rw[←hW1];simp
 have hr1:W1.heap[w.heap.size]? =some (ap (an bs).toArray 51 (0,0)):=by rw[←hW1];exact bR w _
 obtain⟨W,hW⟩:=w9nm (W1.alloc (ap cm.toArray 304));have hB2:ah W1.heap.size W1 W:=by rw[←hW];exact(aF _ _).alloc (aJ _) _
 have HB:w9h w W:=hB1.trans (hB2.mono hB1.size);have hr:=(hB2.block _ (by omega)).trans hr1;have HR2:Hid (W.heap[w.heap.size+1]? =some (ap cm.toArray 304 (0,0))):=by
  have:=bR W1 (ap cm.toArray 304);rw[hW,hz1]at this;exact this
 have HZ:Hid (W.heap.size=w.heap.size+2):=by show _=_;rw[←hW,dy,hz1]
 have HS:Hid (Sl aq W (ag (some ⟨w.heap.size,0,none⟩) 64 64) bs):=by
  have:=mi (dJ hr) (by have:=HZ.out;omega) (by rw[hl];simp[aS]);rw[hl]at this;exact this
 have HOK:=ae (jg hb hl);have HIX:=ae (qH hb hl);have HBS:=ae hb;have HL:=ae hl;have e0:cy (bs.take 1)=(Sct.of bs).mark:=by rw[tT (by omega),vA];rfl
 have e1:cy ((bs.drop 1).take 4)=(Sct.of bs).seq:=rfl;have e2:cy ((bs.drop 5).take 2)=(Sct.of bs).index:=rfl;obtain⟨p,hp⟩:=w9nm (Sct.of bs);have e3:(bs.drop 7).take 48=p.body:=by rw[←hp];rfl
 rw[hp]at e0 e1 e2 HOK HIX ⊢;obtain⟨mk,hmk⟩:=w9nm p.mark;obtain⟨sq,hsq⟩:=w9nm p.seq;obtain⟨ix,hix⟩:=w9nm p.index;rw[hmk]at e0;rw[hsq]at e1;rw[hix]at e2;have E0:=ae e0;have E1:=ae e1;have E2:=ae e2;have E3:=ae e3;have EC:Hid (p.cells=ab aq mk:: ab aD sq:: ab af ix::an p.body):=by show _=_;rw[←hmk,←hsq,←hix];rfl
 have m0:0<=mk:=by rw[←hmk];exact HOK.out.mark.1
 have m1:mk<256:=by rw[←hmk];exact HOK.out.mark.2
 have s0:0<=sq:=by rw[←hsq];exact HOK.out.seq.1
 have s1:sq<4294967296:=by rw[←hsq];exact HOK.out.seq.2
 have i0:0<=ix:=by rw[←hix];exact HIX.out.1
 have i1:ix<=65535:=by rw[←hix];exact HIX.out.2
 clear hr hr1 hB1 hB2 hb hl e0 e1 e2 e3 hmk hsq hix hp HIX;go_enter func268,ntmps268;go_wp2_with fail;go_at_call 253;refine(vy _ bs W HS.out (by rw[HL.out];omega)).mono ?_;rintro e x1 ⟨rb,rfl,hrb,hR,hb⟩;obtain⟨N,hN⟩:=w9nm x1.heap.size;rw[hN]at hR;have HRB:Hid (w.heap.size<=rb):=aZ HB.out.size (iT hrb);have R1:=ae hR;have K1:w9h W x1:=hb;have HW:Hid (W.heap.size<=rb):=iT hrb;clear hR hb hrb hW hW1 hN HRB;go_wp2_with fail;go_at_call 287;refine(oS rb bs 1 x1 R1.out HBS.out (by rw[HL.out];omega)).mono ?_;rintro e x2 ⟨rfl,hR,hg⟩;rw[E0.out];have R2:=ae hR;have K2:w9h W x2:=K1.out.grown hg K1.out.size (fun k e=>by cases e;exact HW.out);clear hR hg;go_wp2_with fail;go_at_call 287;refine(oS rb (bs.drop 1) 4 x2 R2.out (HBS.out.drop 1) (by rw[dx,HL.out];omega)).mono ?_;rintro e x3 ⟨rfl,hR,hg⟩;rw[E1.out];rw[List.drop_drop]at hR;have R3:=ae hR;have K3:w9h W x3:=K2.out.grown hg K2.out.size (fun k e=>by cases e;exact HW.out);clear hR hg;go_wp2_with fail;go_at_call 287;refine(oS rb (bs.drop 5) 2 x3 R3.out (HBS.out.drop 5) (by rw[dx,HL.out];omega)).mono ?_;rintro e x4 ⟨rfl,hR,hg⟩;rw[E2.out];rw[List.drop_drop]at hR;have R4:=ae hR;have K4:w9h W x4:=K3.out.grown hg K3.out.size (fun k e=>by cases e;exact HW.out);clear hR hg;go_wp2_with fail;go_at_call 288;refine(vz rb (bs.drop 7) 48 x4 R4.out (by rw[dx,HL.out];omega) (by rw[dx,HL.out];omega)).mono ?_;rintro e x5 ⟨g,rfl, -,hrow,hR,hg⟩;rw[E3.out]at hrow;have K5:w9h W x5:=K4.out.grown hg K4.out.size (fun k e=>by cases e;exact HW.out);have S5:Hid (Sl aq x5 (ag (some ⟨g,0,none⟩) 48 48) p.body):=by
  have:=kn hrow (by rw[HOK.out.len];simp[aS]);rw[HOK.out.len]at this;exact this
 clear hrow hR hg
 obtain⟨x6,hx6⟩:=w9nm (x5.alloc (ap (Value.int aq mk:: ab aD sq:: ab af ix::an (bK 48 0)).toArray 304));have ST1:(aL 304 ⟨x5.heap.size,0,none⟩ (al (Value.int aq mk:: ab aD sq:: ab af ix::an (bK 48 0)).toArray)).run aj (x5.alloc (ap cm.toArray 304))=.ok () x6:=by
  rw[←hx6];exact oN kN (by simp[an]) (Sct.cells_one ⟨mk,sq,ix,bK 48 0⟩)
 have ST:(aL 304 ⟨x5.heap.size,0,none⟩ (al (((cm.set 0 (ab aq mk)).set 1 (ab aD sq)).set 2 (ab af ix)).toArray)).run aj (x5.alloc (ap cm.toArray 304))=.ok () x6:=ST1;have r6:x6.heap[x5.heap.size]? =some (ap (Value.int aq mk:: ab aD sq:: ab af ix::an (bK 48 0)).toArray 304 (0,0)):=by rw[←hx6];exact bR x5 _
 have b6:ah x5.heap.size x5 x6:=by rw[←hx6];exact(aF _ _).alloc (aJ _) _
 have K6:=w9bt K5 b6;have t6:x6.there x5.heap.size 3 48:=fy r6 3 48 (by simp[an]);have RC0:=jP (B:=x5.heap.size) (o:=3) (dLen:=48) (dCap:=48) 3 (S5.out.below b6) (by rw[HOK.out.len];omega) (by rw[HOK.out.len];exact t6);obtain⟨x7,hx7⟩:=w9nm (x6.setCells x5.heap.size 3 (an p.body));rw[hx7,HOK.out.len]at RC0;have K7:Hid (ah W.heap.size W x7):=by rw[←hx7];exact K6.out.trans ((fi (N:=W.heap.size) K5.out.size _ _ _).mono (aJ _))
 have ra7:x7.rangeAt x5.heap.size 0 p.cells:=by
  rw[EC.out,show(Value.int aq mk:: ab aD sq:: ab af ix::an p.body)= [ab aq mk,ab aD sq,ab af ix]++an p.body from rfl,←hx7];refine kp ?_ (gE x6 _ 3 _ (by rw[bi,HOK.out.len];exact t6));refine iM (fun j x hx=> ?_) _ 3 _ (aC (aA (by simp)));rw[cl _ _ _ _ _ _ r6]
  match j,hx with
  | 0,hx=>simpa using hx
  | 1,hx=>simpa using hx
  | 2,hx=>simpa using hx
  | j+3,hx=>simp at hx
 have L7:=ae (mp ra7 (Sct.cells_length HOK.out.len));obtain⟨x8,st,ld,hb8⟩:=mr (w:=w) (x:=x7) (B:=w.heap.size+1) (u:=p.cells) ((K7.out.block _ (by have:=HZ.out;omega)).trans HR2.out) kN (gP _) (HB.out.trans (K7.out.mono HB.out.size)) (Sct.cells_length HOK.out.len) (Sct.cells_one _);have HB8:=ae hb8;have HLD:=ae ld;clear hb8 ld ra7 t6 r6 b6 ST1 hx6 hx7;go_wp2_with fail;clear ST RC0;rw[L7.out];go_wp2_with fail;exact bl (ff rfl rfl HLD.out) rfl ⟨rfl,HB8.out⟩
end
section
set_option maxRecDepth 100000 in
theorem Cg (n:Nat) (hn:n<=1000000) (w:ak):
  az aj 247 #[ag none 0 0,ab af (n:Int)] w fun e w'=>∃v,e=ar v/\w'.ownsRow w.heap.size 5 1 v 0 []/\ah w.heap.size w w':=by
 obtain⟨i0,hi,hz0,hz1,hz2⟩:=eJ ln;have g0:¬((n:Int)<0):=by omega
 have g1:decide ((n:Int)<0)=false:=by simp
 by_cases h:0<n
 ·have g2:decide ((n:Int)>0)=true:=by simp;omega
  have hr:=fun ty=>Lib.run_append_grow_zeros (P:=aj) w 76 3 ty 5 i0 (ab aq 0) af af Tryz.underlying76 Tryz.underlying3 hi hz0 none 0 0 [] (run_firstCells_none w.drew i0.size 0 0 0) n h (by omega) (by omega) (by omega) (by rw[hz2];omega)
   (by rw[hz2];exact growslice_fits (by omega) (by omega))
  have hc1:=grownCap_ge w (0+n) 0 5;have hc2:=grownCap_le_maxLen w (0+n) 0 5 (by unfold aS;omega);obtain⟨G,hG⟩:=w9nm (grownCap w (0+n) 0 5);rw[hG]at hr hc1 hc2;obtain⟨W,hW⟩:=w9nm (w.drew.alloc (ap (([]:List am).toArray++Builtin.zeroCells (Value.int aq 0).cells n++Builtin.zeroCells (Value.int aq 0).cells (G - (0+n))) 5));rw[hW]at hr;have HO:Hid (W.ownsRow w.heap.size 5 1 (ag (some ⟨w.heap.size,0,none⟩) 0 G) 0 []):=by
   refine⟨by simp,aC ⟨w.heap.size,G,_,rfl,aJ _,by rw[←hW];exact bR w.drew _,bq _,hc2, ?_,by simp⟩⟩;simp[size_zeroCells,Value.cells];omega
  have HB:Hid (ah w.heap.size w W):=by rw[←hW];exact((aF _ w).drew).alloc (aJ _) _
  have HR:=ae hr;have g3:G<=9223372036854775807:=by unfold aS at hc2;omega
  clear hr hW hc2 hG hz0 hz1 hz2 hi;go_enter func247,ntmps247;go_wp2_with (at_builtin;refine Lib.wpList_append_run _ rfl _ _ _ _ rfl _ _ rfl rfl _ _ (HR.out _) ?_);go_ret;exact⟨_,rfl,HO.out,HB.out⟩
 ·obtain rfl:n=0:=by omega
  go_enter func247,ntmps247;go_wp2;go_ret;exact⟨_,rfl,ft _ _ _ _,aF _ _⟩
def rx (w:ak) (v:am) (bss:List (List Int)):Prop:=
 ∃B cap,v=ag (some ⟨B,0,none⟩) bss.length cap/\bss.length<=cap/\cap<=aS/\B<w.heap.size/\∀k,k<bss.length->∃u,w.cell? ⟨B,k,none⟩=some u/\Sl aq w u (bss[k]?.getD [])
theorem Ch (bss:List (List Int)) {k:Nat} (h:k<bss.length):bss.take (k+1)=bss.take k++ [bss[k]?.getD []]:=by
 rw[List.take_succ_eq_append_getElem h,bJ h]
 rfl
theorem rA (bss:List (List Int)) {k:Nat} (h:k<bss.length):(bss.take (k+1)).flatten=(bss.take k).flatten++bss[k]?.getD []:=by
 rw[Ch bss h];simp
theorem rC (bss:List (List Int)) (k:Nat):(bss.take k).flatten.length<=bss.flatten.length:=by
 conv=>rhs;rw[←ki k bss]
 rw[kj,cX];omega
theorem vB (v:am) (bss:List (List Int)) (w:ak) (hv:rx w v bss) (hl:bss.flatten.length<=1000000):
  az aj 173 #[v] w fun e w'=>∃v,e=ar v/\w'.ownsRow w.heap.size 5 1 v bss.flatten.length (an bss.flatten)/\ah w.heap.size w w':=by
 obtain⟨B,cap,rfl,h1,h2,h3,h4⟩:=hv;obtain⟨n,hn⟩:=w9nm bss.length;have HN:=ae hn;have HL:=ae hl;rw[hn]at h1 h4 ⊢;have H4:=ae h4;have hm:(n:Int)<=9223372036854775807:=by unfold aS at h2;omega
 clear hn hl h4 h2;go_enter func173,ntmps173;go_wp2_with fail;go_loop [3,11] (fun s i=>∃k:Nat,k<=n/\i=ab af k/\s=ab af (((bss.take k).flatten.length:Nat):Int)) (fun _ i=>n - (aW i).toNat)
 case atStart=>exact⟨0,bq _,rfl,rfl⟩
 case round=>
  obtain⟨k,hk,rfl,rfl⟩:=hrel;obtain⟨m,hm0⟩:=w9nm ((bss.take k).flatten.length);rw[hm0];by_cases hlt:k<n
  ·have hlt':decide ((k:Int)< (n:Int))=true:=by simp;omega
   obtain⟨u,c0,⟨a,cp,rfl, -⟩⟩:=H4.out k hlt;obtain⟨q,hq⟩:=w9nm ((bss[k]?.getD []).length);rw[hq]at c0;have hs:(bss.take (k+1)).flatten.length=m+q:=by rw[rA bss (by rw[HN.out];exact hlt),cX,hm0,hq]
   have hb:=rC bss (k+1);have hb2:=HL.out;have g5:(m:Int)+(q:Int)<=1000000:=by omega
   have g6:decide ((m:Int)+(q:Int)<0)=false:=by simp;omega
   have HS:=ae hs;clear hs hb hb2 hq hm0;go_wp2_with fail;go_round
   case rel=>exact⟨k+1,by omega,by go_num,by rw[HS.out];simp⟩
   case measure=>simp[aW];omega
  ·have hlt':decide ((k:Int)< (n:Int))=false:=by simp;omega
   obtain rfl:k=n:=by omega
   have hmb:m<=1000000:=by rw[←hm0];exact aZ (rC bss k) HL.out
   clear hm0;go_wp2_with fail;go_at_call 247;refine(Cg m hmb w).mono ?_;rintro e w1 ⟨v1,rfl,hO,hB⟩;have HO:=ae hO;have HB:=ae hB;clear hO hB;go_wp2_with fail;go_loopw [6,27] (fun v i wr=>∃j:Nat,j<=k/\i=ab af j/\Hid (iP w wr v (bss.take j).flatten)/\w9h w wr) (fun _ i _=>k - (aW i).toNat)
   case atStart=>exact⟨0,bq _,rfl,HO,HB⟩
   case round=>
    obtain⟨j,hj,rfl,HO,HB⟩:=hrel;by_cases hlt:j<k
    ·have hlt':decide ((j:Int)< (k:Int))=true:=by simp;omega
     obtain⟨u,c0,hu⟩:=H4.out j hlt;have c1:wr.cell? ⟨B,j,none⟩=some u:=(HB.out.cell (p:=⟨B,j,none⟩) h3).trans c0;obtain⟨v5,x3,R3,O3,K3⟩:=HO.out.app HB.out (hu.below HB.out) (by
      rw[←cX,←rA bss (by rw[HN.out];exact hlt)];exact aZ (rC bss _) HL.out)
     clear c0 hu;go_wp2_with (at_builtin;refine wpList_append_run (.tmp 31) (.tmp 32) 76 rfl rfl _ _ _ rfl rfl R3.out ?_);go_roundw
     case rel=>exact⟨j+1,by omega,by go_num,by rw[rA bss (by rw[HN.out];exact hlt)];exact O3,K3⟩
     case measure=>simp[aW];omega
    ·have hlt':decide ((j:Int)< (k:Int))=false:=by simp;omega
     obtain rfl:j=k:=by omega
     have e1:bss.take j=bss:=ey (by rw[HN.out];exact aJ _);rw[e1]at HO;clear e1;go_wp2_with fail;go_ret;exact⟨_,rfl,HO.out,HB.out⟩
end
section
attribute [-simp] isAgg51 zeroValue51
attribute [-go_sem] aE aL
attribute [local go_sem] bC bD dZ dQ
theorem Ci (w:ak) (a b c d:Option aN) (la lb lc ld ca cb cc cd:Nat):
  (cO 332 4 #[(0,ag a la ca),(1,ag b lb cb),(2,ag c lc cc),(3,ag d ld cd)]).run aj w=.ok (ag (some ⟨w.heap.size,0,none⟩) 4 4) (w.alloc (ap #[ag a la ca,ag b lb cb,ag c lc cc,ag d ld cd] 76)):=by
 kernel_rfl
theorem Cj {n:Int} (h0:0<=n) (h1:n<256):aH n 1= [n]:=by
 show [_]=_;simp;omega
theorem oT (p:Sct) (hp:p.Ok) (w:ak):
  az aj 264 #[al p.cells.toArray] w fun e w'=>e=ar (aQ #[al p.code.toArray,ab af p.codeE])/\ah w.heap.size w w':=by
 obtain⟨W1,hW1⟩:=w9nm (w.alloc (ap p.cells.toArray 304));have hB1:ah w.heap.size w W1:=by rw[←hW1];exact(aF _ _).alloc (aJ _) _
 have hz1:W1.heap.size=w.heap.size+1:=by rw[←hW1];simp
 have hr1:W1.heap[w.heap.size]? =some (ap p.cells.toArray 304 (0,0)):=by rw[←hW1];exact bR w _
 obtain⟨W,hW⟩:=w9nm (W1.alloc (ap cx 51));have hB2:ah W1.heap.size W1 W:=by rw[←hW];exact(aF _ _).alloc (aJ _) _
 have HB:w9h w W:=hB1.trans (hB2.mono hB1.size);have HR:Hid (W.heap[w.heap.size]? =some (ap p.cells.toArray 304 (0,0))):=(hB2.block _ (by omega)).trans hr1;have HR2:Hid (W.heap[w.heap.size+1]? =some (ap cx 51 (0,0))):=by
  have:=bR W1 (ap cx 51);rw[hW,hz1]at this;exact this
 have HZ:Hid (W.heap.size=w.heap.size+2):=by show _=_;rw[←hW,dy,hz1]
 have HP:=ae hp;have c0:W.cell? ⟨w.heap.size,0,none⟩=some (ab aq p.mark):=cl W _ 0 _ _ _ HR.out;have c2:W.cell? ⟨w.heap.size,2,none⟩=some (ab af p.index):=cl W _ 2 _ _ _ HR.out;have HC1:Hid (∀y:ak,w9b W y->y.cell? ⟨w.heap.size,1,none⟩=some (ab aD p.seq)):=fun y hy=>(hy.cell (p:=⟨w.heap.size,1,none⟩) (by have:=HZ.out;show w.heap.size<_;omega)).trans (cl W _ 1 _ _ _ HR.out);have HC2:Hid (∀y:ak,w9b W y->y.cell? ⟨w.heap.size,2,none⟩=some (ab af p.index)):=fun y hy=>(hy.cell (p:=⟨w.heap.size,2,none⟩) (by have:=HZ.out;show w.heap.size<_;omega)).trans (cl W _ 2 _ _ _ HR.out);clear hB1 hB2 hr1 hp;obtain⟨mk,hmk⟩:=w9nm p.mark;obtain⟨sq,hsq⟩:=w9nm p.seq;obtain⟨ix,hix⟩:=w9nm p.index;have EM:=ae hmk;have ES:=ae hsq;have EI:=ae hix;rw[hmk]at c0;rw[hix]at c2 HC2;rw[hsq]at HC1;clear hmk hsq hix;by_cases hf:p.fits=true
 ·have hfx:=of_decide_eq_true hf;rw[EM.out,EI.out]at hfx;obtain⟨m1,m2,m3⟩:=hfx;have q0:(mk==0)=false:=by simpa using m1
  have q1:decide (ix<0)=false:=by simp;omega
  have q2:decide (65535<ix)=false:=by simp;omega
  have HF:=ae hf;clear hf;have hmx:=w9x
  have HI0:Hid (0<=ix):=m2;have HI1:Hid (ix<=65535):=m3;have HSB:Hid (Sl aq W (ag (some ⟨w.heap.size,3,none⟩) 48 48) p.body):=by
   have:=mi (bs:=p.body) (jO (a:= [ab aq p.mark,ab aD p.seq,ab af p.index]) (b:=an p.body) HR.out) (by have:=HZ.out;omega) (by rw[HP.out.len];simp[aS]);rw[HP.out.len]at this;exact this
  have m0:0<=mk:=by rw[←EM.out];exact HP.out.mark.1
  have m9:mk<256:=by rw[←EM.out];exact HP.out.mark.2
  have HS0:Hid (0<=sq):=by show _<=_;rw[←ES.out];exact HP.out.seq.1
  have HS1:Hid (sq<4294967296):=by show _<_;rw[←ES.out];exact HP.out.seq.2
  have HM0:=ae m0;have HM1:=ae m9;clear m1 m2 m3;go_enter func264,ntmps264;have d0:∀y:aI W,y.1.cell? ⟨w.heap.size,0,none⟩=some (ab aq mk):=fun y=>(y.2.cell (p:=⟨w.heap.size,0,none⟩) (by have:=HZ.out;show w.heap.size<_;omega)).trans c0;have d1:∀y:aI W,y.1.cell? ⟨w.heap.size,1,none⟩=some (ab aD sq):=fun y=>HC1.out y.1 y.2;have d2:∀y:aI W,y.1.cell? ⟨w.heap.size,2,none⟩=some (ab af ix):=fun y=>HC2.out y.1 y.2;have s0:=HS0.out;have s1:=HS1.out;have i0:=HI0.out;have i1:=HI1.out;have HPut0:Hid (∀x:ak,az aj 174 #[ab .u64 mk,ab af 1] x fun e w'=>∃v,e=ar v/\w'.ownsRow x.heap.size 5 1 v 1 ((aH mk 1).map (Value.int aq))/\ah x.heap.size x w'):=fun x=>ng mk 1 x (by omega) (by omega) m0 (by omega);have HPut1:Hid (∀x:ak,az aj 174 #[ab .u64 sq,ab af 4] x fun e w'=>∃v,e=ar v/\w'.ownsRow x.heap.size 5 1 v 4 ((aH sq 4).map (Value.int aq))/\ah x.heap.size x w'):=fun x=>ng sq 4 x (by omega) (by omega) s0 (by omega);have HPut2:Hid (∀x:ak,az aj 174 #[ab .u64 ix,ab af 2] x fun e w'=>∃v,e=ar v/\w'.ownsRow x.heap.size 5 1 v 2 ((aH ix 2).map (Value.int aq))/\ah x.heap.size x w'):=fun x=>ng ix 2 x (by omega) (by omega) i0 (by omega);go_wp2_with fail;clear q0 q1 q2 c2 c0 hW1 hW;refine cM (fun x=>∃y:aI W,x=y.1) 16 (.takes [0,1,2,4,5,6,8,9,10,12,13] (.one 3 (.one 7 (.one 11 (.one 14 (.one 15 .leaf)))))) hmx (by kernel_rfl) (by intro c x v a w h;cases x<;>exact h) ⟨⟨W.drew,(aF _ W).drew⟩,rfl⟩ ?_;repeat(rw[bj];simp only[au,ay];go_big_quiet_step (fail);refine aO ?_)
  rw[bo];clear s0 s1 i0 i1 d0 d1 d2 m0 m9;have KD:Hid (ah W.heap.size W W.drew):=(aF _ W).drew;rw[aT];simp only[au,ay];go_wp2_with fail;go_at_call 174;refine(HPut0.out W.drew).mono ?_;rintro e x1 ⟨v1,rfl,hrow,hb⟩;have K1:w9h W x1:=KD.out.trans hb;have hs:=Sl.of_owns (bs:=aH mk 1) (by rw[bE];exact hrow);obtain⟨a1,n1,hv, -⟩:=id hs;rw[bE]at hv;subst hv;have S1:=ae hs;clear hrow hb hs;go_wp2_with fail;refine aG ⟨⟨x1,K1.out⟩,rfl⟩ ?_;rw[aT];simp only[au,ay];go_wp2_with fail;go_at_call 174;refine(HPut1.out x1).mono ?_;rintro e x2 ⟨v2,rfl,hrow,hb⟩;have K2:=w9bt K1 hb;have T1:=ae (S1.out.below hb);have hs:=Sl.of_owns (bs:=aH sq 4) (by rw[bE];exact hrow);obtain⟨a2,n2,hv, -⟩:=id hs;rw[bE]at hv;subst hv;have S2:=ae hs;clear hrow hb hs S1;go_wp2_with fail;refine aG ⟨⟨x2,K2.out⟩,rfl⟩ ?_;rw[aT];simp only[au,ay];go_wp2_with fail;go_at_call 174;refine(HPut2.out x2).mono ?_;rintro e x3 ⟨v3,rfl,hrow,hb⟩;have K3:=w9bt K2 hb;have U1:=ae (T1.out.below hb);have U2:=ae (S2.out.below hb);have hs:=Sl.of_owns (bs:=aH ix 2) (by rw[bE];exact hrow);obtain⟨a3,n3,hv, -⟩:=id hs;rw[bE]at hv;subst hv;have U3:=ae hs;clear hrow hb hs T1 S2;go_wp2_with fail;refine aG ⟨⟨x3,K3.out⟩,rfl⟩ ?_;rw[aT];simp only[au,ay];obtain⟨x4,hx4⟩:=w9nm (x3.alloc (ap #[ag a1 1 n1,ag a2 4 n2,ag a3 2 n3,ag (some ⟨w.heap.size,3,none⟩) 48 48] 76));have b34:ah x3.heap.size x3 x4:=by rw[←hx4];exact(aF _ _).alloc (aJ _) _
  have K4:=w9bt K3 b34;have r4:x4.heap[x3.heap.size]? =some (ap #[ag a1 1 n1,ag a2 4 n2,ag a3 2 n3,ag (some ⟨w.heap.size,3,none⟩) 48 48] 76 (0,0)):=by rw[←hx4];exact bR x3 _
  have BS:(cO 332 4 #[(0,ag a1 1 n1),(1,ag a2 4 n2),(2,ag a3 2 n3),(3,ag (some ⟨w.heap.size,3,none⟩) 48 48)]).run aj x3=.ok (ag (some ⟨x3.heap.size,0,none⟩) 4 4) x4:=by rw[←hx4];exact Ci x3 a1 a2 a3 (some ⟨w.heap.size,3,none⟩) 1 4 2 48 n1 n2 n3 48
  have SS:Hid (rx x4 (ag (some ⟨x3.heap.size,0,none⟩) 4 4) [aH mk 1,aH sq 4,aH ix 2,p.body]):=by
   refine⟨x3.heap.size,4,rfl,aJ _,by unfold aS;omega,by rw[←hx4];simp,fun k hk=> ?_⟩;have hk':k<4:=hk
   match k,hk' with
   | 0,_=>exact⟨_,cl _ _ 0 _ _ _ r4,U1.out.below b34⟩
   | 1,_=>exact⟨_,cl _ _ 1 _ _ _ r4,U2.out.below b34⟩
   | 2,_=>exact⟨_,cl _ _ 2 _ _ _ r4,U3.out.below b34⟩
   | 3,_=>exact⟨_,cl _ _ 3 _ _ _ r4,HSB.out.below K4.out⟩
  clear b34 r4 hx4;refine dq _ _ _ rfl rfl _ _ rfl BS ?_;clear BS;go_wp2_with fail;refine aG ⟨⟨x4,K4.out⟩,rfl⟩ ?_;rw[aT];simp only[au,ay];go_wp2_with fail;go_at_call 173;have hfl: [aH mk 1,aH sq 4,aH ix 2,p.body].flatten=p.head:=by
   simp[Sct.head,EM.out,ES.out,EI.out,Cj HM0.out HM1.out]
  have hcc:=vB _ _ x4 SS.out (by rw[hfl,Sct.head_length HP.out];omega);rw[hfl]at hcc;refine hcc.mono ?_;clear hcc hfl;rintro e x5 ⟨v5,rfl,hrow,hb⟩;have K5:=w9bt K4 hb;have S5:Hid (Sl aq x5 v5 p.head):=Sl.of_owns (bs:=p.head) hrow;clear hrow hb SS U1 U2 U3;go_wp2_with fail;refine aG ⟨⟨x5,K5.out⟩,rfl⟩ ?_;rw[cu];simp only[be,bf]
  obtain⟨x6,hx6⟩:=w9nm (x5.alloc (ap cx 51));have K6:Hid (ah W.heap.size W x6):=by rw[←hx6];exact K5.out.alloc K5.out.size _
  have r6:x6.heap[x5.heap.size]? =some (ap cx 51 (0,0)):=by rw[←hx6];exact bR x5 _
  have S6:Hid (Sl aq x6 v5 p.head):=by rw[←hx6];exact S5.out.below ((aF _ x5).alloc (aJ _) _)
  have z6:x5.heap.size<x6.heap.size:=by rw[←hx6];simp
  have RC0:=jP (B:=x5.heap.size) (o:=0) (dLen:=64) (dCap:=64) 3 S6.out (by rw[Sct.head_length HP.out];omega) (fy r6 0 _ (by rw[Sct.head_length HP.out,dj];omega));obtain⟨x7,hx7⟩:=w9nm (x6.setCells x5.heap.size 0 (an p.head));have K7:Hid (ah W.heap.size W x7):=by rw[←hx7];exact K6.out.trans ((fi (N:=W.heap.size) K5.out.size _ _ _).mono (aJ _))
  have b57:ah x5.heap.size x5 x7:=by rw[←hx7,←hx6];exact((aF _ x5).alloc (aJ _) _).trans ((fi (N:=x5.heap.size) (aJ _) _ _ _).mono (aJ _))
  have S7:Hid (Sl aq x7 v5 p.head):=S5.out.below b57;have z7:Hid (x5.heap.size<x7.heap.size):=by show _<_;rw[←hx7];exact aU z6 (fi (N:=0) (bq _) _ _ _).size
  have h7:Hid (x7.rangeAt x5.heap.size 0 (an p.head)):=by
   show World.rangeAt _ _ _ _;rw[←hx7];exact gE x6 _ 0 _ (by rw[bi,Sct.head_length HP.out];exact fy r6 0 55 (by rw[dj];omega))
  have l7:Hid (x7.rangeAt x5.heap.size 63 [ab aq 0]):=by
   show World.rangeAt _ _ _ _;rw[←hx7];refine iM (fun j x hx=> ?_) _ 0 _ (by rw[bi,Sct.head_length HP.out];simp);rw[cl _ _ _ _ _ _ r6]
   match j,hx with
   | 0,hx=>simp at hx;subst hx;rfl
   | j+1,hx=>simp at hx
  have t7:Hid (x7.there x5.heap.size 55 8):=by
   show World.there _ _ _ _;rw[←hx7];exact World.there_setCells (fy r6 55 8 (by rw[dj];omega)) _ _ _
  rw[hx7,Sct.head_length HP.out]at RC0;clear hx7 z6 b57 r6 S6 K6 S5;go_wp2_with fail;have KD7:ah x7.heap.size x7 x7.drew:=(aF _ x7).drew;refine cM (fun x=>∃y:aI x7,x=y.1) 5 (.takes [0,1,2] (.one 3 (.one 4 .leaf))) hmx (by kernel_rfl) (by intro c x v a w h;cases x<;>exact h) ⟨⟨x7.drew,KD7⟩,rfl⟩ ?_;repeat(rw[bj];simp only[au,ay];go_big_quiet_step (fail);refine aO ?_)
  rw[bo,aT];simp only[au,ay];go_wp2_with fail;go_at_call 291;refine(BR v5 p.head x7.drew (S7.out.below KD7) (Sct.head_bytes HP.out)).mono ?_;rintro e x8 ⟨rfl,hb⟩;have B8:w9h x7 x8:=KD7.trans hb;obtain⟨ck,hck⟩:=w9nm (fH jq p.head);have HCK:=ae hck;have HU:=ae (qG p.head);rw[hck];clear hck hb KD7;go_wp2_with fail;refine aG ⟨⟨x8,B8.out⟩,rfl⟩ ?_;rw[aT];simp only[au,ay];go_wp2_with fail;go_at_call 174;refine(ng ck 8 x8 (by omega) (by omega) (by rw[←HCK.out];exact HU.out.1) (by rw[←HCK.out];exact HU.out.2)).mono ?_;rintro e x9 ⟨v9,rfl,hrow,hb⟩;have B9:=w9bt B8 hb;have K9:w9h W x9:=K7.out.trans (B9.out.mono K7.out.size);have S9:Hid (Sl aq x9 v9 (aH ck 8)):=Sl.of_owns (bs:=aH ck 8) (by rw[bE];exact hrow);clear hrow hb;go_wp2_with fail;refine aG ⟨⟨x9,B9.out⟩,rfl⟩ ?_;rw[cu];simp only[be,bf];have t9:x9.there x5.heap.size 55 8:=Ak B9.out z7.out t7.out;have RC1:=jP (B:=x5.heap.size) (o:=55) (dLen:=9) (dCap:=9) 3 S9.out (by rw[bE];omega) (by rw[bE];exact t9);obtain⟨x10,hx10⟩:=w9nm (x9.setCells x5.heap.size 55 (an (aH ck 8)));have K10:Hid (ah W.heap.size W x10):=by rw[←hx10];exact K9.out.trans ((fi (N:=W.heap.size) K5.out.size _ _ _).mono (aJ _))
  have rb:x10.rangeAt x5.heap.size 0 (an p.bytes):=by
   have e1:an p.bytes=an p.head++(an (aH ck 8)++ [ab aq 0]):=by
    rw[←HCK.out];simp[an,Sct.bytes,lY]
   rw[e1];refine kp ?_ ?_
   ·rw[←hx10];exact iM (eL B9.out z7.out h7.out) _ 55 _ (aC (aA (by rw[bi,Sct.head_length HP.out];omega)))
   ·rw[bi,Sct.head_length HP.out];intro j x hx;by_cases hj:j<8
    ·rw[eU (by rw[bi,bE];exact hj)]at hx;rw[←hx10];exact gE x9 _ 55 _ (by rw[bi,bE];exact t9) j x hx
    ·rw[fF (by rw[bi,bE];omega),bi,bE]at hx;have:=iM (eL B9.out z7.out l7.out) x5.heap.size 55 (an (aH ck 8)) (aC (aC (by rw[bi,bE];omega))) (j - 8) x hx;rw[hx10,show 63+(j - 8)=55+j by omega]at this;exact this
  rw[hx10,bE]at RC1;have L10:(aE 51 ⟨x5.heap.size,0,none⟩).run aj x10=.ok (al (an p.bytes).toArray) x10:=dd rb (by rw[bi];exact Sct.bytes_length HP.out);obtain⟨x11,st,ld,hb11⟩:=mj (w:=w) (x:=x10) (B:=w.heap.size+1) (u:=an p.bytes) ((K10.out.block _ (by have:=HZ.out;omega)).trans HR2.out) dj (gP _) (HB.out.trans (K10.out.mono HB.out.size)) (dr (Sct.bytes_length HP.out));have HB11:=ae hb11;have HLD:=ae ld;clear hx10 rb hb11 ld t9;go_wp2_with fail;have hE:p.code=an p.bytes/\p.codeE=0:=by unfold Sct.code Sct.codeE;rw[if_pos HF.out,if_pos HF.out];exact⟨rfl,rfl⟩
  rw[hE.1,hE.2];exact bl (dl rfl rfl HLD.out) rfl ⟨rfl,HB11.out⟩
 ·have hE:Hid (p.code=a9 0/\p.codeE=11):=by refine(?_:_/\_);unfold Sct.code Sct.codeE;rw[if_neg hf,if_neg hf];exact⟨rfl,rfl⟩
  have hq:(mk==0)=true\/((mk==0)=false/\decide (ix<0)=true)\/((mk==0)=false/\decide (ix<0)=false/\decide (65535<ix)=true):=by
   have hfx:¬(p.mark≠0/\0<=p.index/\p.index<=65535):=fun h=>hf (decide_eq_true h);rw[EM.out,EI.out]at hfx;by_cases h0:mk=0
   ·exact aA (by simpa using h0)
   ·by_cases h1:ix<0
    ·exact aC (aA ⟨by simpa using h0,by simpa using h1⟩)
    ·exact aC (aC ⟨by simpa using h0,by simpa using h1,by simp;omega⟩)
  obtain⟨x2,st,ld,hb2⟩:=mj HR2.out dj (gP _) HB.out (fv 0);have st':(aL 51 ⟨w.heap.size+1,0,none⟩ (al cx)).run aj W=.ok () x2:=st;have HB2:=ae hb2;clear hf st hb2;rcases hq with q0 | ⟨q0,q1⟩ | ⟨q0,q1,q2⟩;all_goals
   go_enter func264,ntmps264;go_wp2_with fail;rw[hE.out.1,hE.out.2];exact bl (dl rfl rfl ld) rfl ⟨rfl,HB2.out⟩
end
section
attribute [-simp] isAgg51 zeroValue51 isAgg254 zeroValue254
attribute [-go_sem] aE aL
attribute [local go_sem] bC bD iQ Am An Ao Ap
theorem ni {a b:List Int} (h:an a=an b):a=b:=by
 have e:=congrArg (List.map aW) h;unfold an at e;rw[iA,iA,show aW ∘ Value.int aq=id from by funext x;rfl]at e
 simpa using e
theorem jU:∀v ∈ cm,v.oneCell'=true:=Sct.cells_one kH
theorem vC {bs:List Int} (hb:aP bs) (hl:bs.length=64):
  ((Sct.of bs).code=a9 0/\(Sct.of bs).codeE=11/\cN bs=kH/\fI bs=11)\/
  (∃c,(Sct.of bs).code=c/\bx c/\fg c (an bs)=false/\(Sct.of bs).codeE=0/\cN bs=kH/\fI bs=11)\/
  (∃c,(Sct.of bs).code=c/\bx c/\fg c (an bs)=true/\(Sct.of bs).codeE=0/\cN bs=Sct.of bs/\fI bs=0):=by
 unfold Sct.code Sct.codeE cN fI dF;by_cases hf:(Sct.of bs).fits=true
 ·by_cases hq:(Sct.of bs).bytes=bs
  ·refine aC (aC ⟨_,rfl, ?_, ?_, ?_⟩)
   ·rw[if_pos hf];exact dr (Sct.bytes_length (jg hb hl))
   ·rw[if_pos hf,hq];exact kF.2 rfl
   ·simp[hf,hq]
  ·refine aC (aA ⟨_,rfl, ?_, ?_, ?_⟩)
   ·rw[if_pos hf];exact dr (Sct.bytes_length (jg hb hl))
   ·rw[if_pos hf];exact nY (fun h=>hq (ni h))
   ·simp[hf,hq]
 ·exact aA (by simp[hf])
theorem rD (bs:List Int) (hb:aP bs) (hl:bs.length=64) (w:ak):
  az aj 163 #[al (an bs).toArray] w fun e w'=>e=ar (aQ #[al (cN bs).cells.toArray,ab af (fI bs)])/\ah w.heap.size w w':=by
 obtain⟨W1,hW1⟩:=w9nm (w.alloc (ap (an bs).toArray 51));have hB1:ah w.heap.size w W1:=by rw[←hW1];exact(aF _ _).alloc (aJ _) _
 have hz1:W1.heap.size=w.heap.size+1:=by rw[←hW1];simp
 have hr1:W1.heap[w.heap.size]? =some (ap (an bs).toArray 51 (0,0)):=by rw[←hW1];exact bR w _
 obtain⟨W,hW⟩:=w9nm (W1.alloc (ap cm.toArray 254));have hB2:ah W1.heap.size W1 W:=by rw[←hW];exact(aF _ _).alloc (aJ _) _
 have HB:w9h w W:=hB1.trans (hB2.mono hB1.size);have HR:Hid (W.heap[w.heap.size]? =some (ap (an bs).toArray 51 (0,0))):=(hB2.block _ (by omega)).trans hr1;have HR2:Hid (W.heap[w.heap.size+1]? =some (ap cm.toArray 254 (0,0))):=by
  have:=bR W1 (ap cm.toArray 254);rw[hW,hz1]at this;exact this
 have HZ:Hid (W.heap.size=w.heap.size+2):=by show _=_;rw[←hW,dy,hz1]
 have HBB:=ae hb;have HL:=ae hl;have HOK:=ae (jg hb hl);have HIX:=ae (qH hb hl);obtain⟨mk,hmk⟩:=w9nm (bs[0]?.getD 0);obtain⟨sq,hsq⟩:=w9nm (cy ((bs.drop 1).take 4));obtain⟨ix,hix⟩:=w9nm (cy ((bs.drop 5).take 2));have c0:∀y:aI W,y.1.cell? ⟨w.heap.size,0,none⟩=some (ab aq mk):=fun y=>by
  rw[y.2.cell (p:=⟨w.heap.size,0,none⟩) (by have:=HZ.out;show w.heap.size<_;omega),cl W _ 0 _ _ _ HR.out,←hmk];simp[an,hl]
 have s0:0<=sq:=by rw[←hsq];exact HOK.out.seq.1
 have s1:sq<4294967296:=by rw[←hsq];exact HOK.out.seq.2
 have i0:0<=ix:=by rw[←hix];exact HIX.out.1
 have i1:ix<=65535:=by rw[←hix];exact HIX.out.2
 have hra:W.rangeAt w.heap.size 0 (an bs):=dJ HR.out;have hlt:w.heap.size<W.heap.size:=by have:=HZ.out;omega
 have HG1:Hid (∀x:ak,w9b W x->az aj 238 #[ag (some ⟨w.heap.size,1,none⟩) 4 63] x fun e w'=>e=ar (ab .u64 sq)/\w'=x):=fun x hx=>by
  have:=lC _ _ x ((qM (k:=1) (n:=4) (cap:=63) hra hlt (by omega) (by omega) (by simp[aS])).below hx) (hb.cut 1 4)
  rwa [hsq]at this
 have HG2:Hid (∀x:ak,w9b W x->az aj 238 #[ag (some ⟨w.heap.size,5,none⟩) 2 59] x fun e w'=>e=ar (ab .u64 ix)/\w'=x):=fun x hx=>by
  have:=lC _ _ x ((qM (k:=5) (n:=2) (cap:=59) hra hlt (by omega) (by omega) (by simp[aS])).below hx) (hb.cut 5 2)
  rwa [hix]at this
 have HSB:Hid (∀x:ak,w9b W x->Sl aq x (ag (some ⟨w.heap.size,7,none⟩) 48 57) ((bs.drop 7).take 48)):=fun x hx=>(qM (k:=7) (n:=48) (cap:=57) hra hlt (by omega) (by omega) (by simp[aS])).below hx
 obtain⟨x1,hx1⟩:=w9nm (W.drew.alloc (ap cm.toArray 254));have K0:Hid (ah W.heap.size W W.drew):=(aF _ W).drew;have K1:Hid (ah W.heap.size W x1):=by rw[←hx1];exact((aF _ W).drew).alloc (aJ _) _
 have k1:x1.heap[W.heap.size]? =some (ap cm.toArray 254 (0,0)):=by rw[←hx1];exact bR W.drew _
 have zz:cm.toArray.size=51:=by simp[cm,an]
 have hbl:((bs.drop 7).take 48).length=48:=by simp[hl]
 obtain⟨x2,hx2⟩:=w9nm (x1.setCells W.heap.size 0 (Value.int aq mk:: ab aD sq:: ab af ix::an (bK 48 0)));have ST0:Hid ((aL 254 ⟨W.heap.size,0,none⟩ (al (Value.int aq mk:: ab aD sq:: ab af ix::an (bK 48 0)).toArray)).run aj x1=.ok () x2):=by
  rw[←hx2];refine ul (fy k1 0 51 (by rw[zz];exact aJ _)) (by simp[an]) (fun v hv=> ?_);simp only[ec]at hv;rcases hv with rfl | rfl | rfl | hv
  ·rfl
  ·rfl
  ·rfl
  ·exact iO _ v hv
 have t2:x2.there W.heap.size 0 51:=by rw[←hx2];exact World.there_setCells (fy k1 0 51 (by rw[zz];exact aJ _)) _ _ _
 have ra2:x2.rangeAt W.heap.size 0 (Value.int aq mk:: ab aD sq:: ab af ix::an (bK 48 0)):=by
  rw[←hx2];exact gE x1 _ 0 _ (by simpa [an]using fy k1 0 51 (by rw[zz];exact aJ _))
 have K2:Hid (ah W.heap.size W x2):=by rw[←hx2];exact K1.out.trans ((fi (aJ _) _ _ _).mono (aJ _))
 have t2d:x2.drew.there W.heap.size 3 48:=fun j hj=>by
  have:=t2 (3+j) (by omega)
  rwa [dC]at this
 have KD:ah W.heap.size W x2.drew:=K2.out.trans (((aF _ x2).drew).mono K2.out.size);have rc:=jP (w:=x2.drew) (B:=W.heap.size) (o:=3) (dLen:=48) (dCap:=48) 3 (HSB.out x2.drew KD) (by rw[hbl];exact aJ _) (by rw[hbl];exact t2d);obtain⟨x3,hx3⟩:=w9nm (x2.drew.setCells W.heap.size 3 (an ((bs.drop 7).take 48)));rw[hx3,hbl]at rc;have RC0:=ae rc;have K3:Hid (ah W.heap.size W x3):=by rw[←hx3];exact KD.trans ((fi (aJ _) _ _ _).mono (aJ _))
 have ra3:x3.rangeAt W.heap.size 0 (Sct.of bs).cells:=by
  rw[show(Sct.of bs).cells= [Value.int aq mk,ab aD sq,ab af ix]++an ((bs.drop 7).take 48) by rw[←hmk,←hsq,←hix];rfl];refine kp ?_ ?_
  ·rw[←hx3];refine iM (w:=x2.drew) (cs:= [Value.int aq mk,ab aD sq,ab af ix]) (fun j x hx=>ra2 j x ?_) W.heap.size 3 (an ((bs.drop 7).take 48)) (by simp)
   match j,hx with
   | 0,hx=>exact hx
   | 1,hx=>exact hx
   | 2,hx=>exact hx
   | j+3,hx=>simp at hx
  ·rw[←hx3];exact gE x2.drew _ 3 _ (by rw[bi,hbl];exact t2d)
 have L30:Hid ((aE 254 ⟨W.heap.size,0,none⟩).run aj x3=.ok (al (Sct.of bs).cells.toArray) x3):=lr ra3 (Sct.cells_length (by show((bs.drop 7).take 48).length=48;exact hbl));have RA3:=ae ra3;have HWY:=ae (vC hb hl);have ZZ:Hid (cm.length=51):=by show _=_;simp[cm,an]
 have CL:Hid ((Sct.of bs).cells.length=51):=Sct.cells_length (by show((bs.drop 7).take 48).length=48;exact hbl);have H0:Hid (w.heap.size<W.heap.size):=hlt;have H3:Hid (W.heap.size<x3.heap.size):=by
  have h1:x1.heap.size=W.heap.size+1:=by rw[←hx1,dy];rfl
  have h2:x1.heap.size<=x2.heap.size:=by rw[←hx2];exact(fi (aJ W.heap.size) _ _ x1).size
  have h3:x2.heap.size<=x3.heap.size:=by rw[←hx3];exact(fi (aJ W.heap.size) _ _ x2.drew).size
  show _<_;omega
 have hmx:=w9x
 clear rc t2 t2d ra2 ra3 k1 zz hra hlt hmk hsq hix hb hl hr1 hB1 hB2 hx2 hx3 KD;go_enter func163,ntmps163;go_wp2_with fail;refine cM (fun x=>∃y:aI W,x=y.1) 10 (.takes [0,1,2,5] (.two 3 9 (.takes [4] (.two 6 9 (.takes [7] (.two 8 9 (.one 9 .leaf) (.one 8 .leaf))) (.one 6 (.takes [7] (.one 8 .leaf))))) (.one 3 (.takes [4] (.one 6 (.takes [7] (.one 8 .leaf))))))) hmx (by kernel_rfl) (by intro c x v a w h;cases x<;>exact h) ⟨⟨W.drew,K0.out⟩,rfl⟩ ?_;repeat(rw[bj];simp only[au,ay];go_big_quiet_step (fail);refine aO ?_)
 rw[bo];refine⟨?_, ?_⟩
 ·simp only[au,ay];go_wp2_with fail;go_at_call 238;refine(HG1.out W.drew K0.out).mono ?_;rintro e w' ⟨rfl,hx⟩;obtain rfl:=hx.symm;clear hx;go_wp2_with fail;refine aG ⟨⟨W.drew,K0.out⟩,rfl⟩ ?_;repeat(rw[bj];simp only[au,ay];go_big_quiet_step (fail);refine aO ?_)
  rw[bo];refine⟨?_, ?_⟩
  ·simp only[au,ay];go_wp2_with fail;go_at_call 238;refine(HG2.out W.drew K0.out).mono ?_;rintro e w' ⟨rfl,hx⟩;obtain rfl:=hx.symm;clear hx;go_wp2_with fail;refine aG ⟨⟨W.drew,K0.out⟩,rfl⟩ ?_;repeat(rw[bj];simp only[au,ay];go_big_quiet_step (fail);refine aO ?_)
   rw[bo];refine⟨?_, ?_⟩
   ·simp only[au,ay];go_wp2_with fail;refine aG ⟨⟨W.drew,K0.out⟩,rfl⟩ ?_;rw[aT];simp only[au,ay];go_wp2_with fail;try rw[hx1]
    refine aG ⟨⟨x1,K1.out⟩,rfl⟩ ?_;rw[cu];simp only[be,bf];have ST:(aL 254 ⟨W.heap.size,0,none⟩ (al (((cm.set 0 (ab aq mk)).set 1 (ab aD sq)).set 2 (ab af ix)).toArray)).run aj x1=.ok () x2:=ST0.out;go_wp2_with fail;clear ST c0;refine cM (fun x=>x=x2.drew) 3 (.takes [0,1,2] .leaf) hmx (by kernel_rfl) (by intro c x v a w h;cases x<;>exact h) rfl ?_;repeat(rw[bj];simp only[au,ay];go_big_quiet_step (fail);refine aO ?_)
    rw[bo,cu];simp only[be,bf];have RC:=RC0.out;go_wp2_with fail;clear RC;have L3:(aE 254 ⟨W.heap.size,0,none⟩).run aj x3=.ok (al (Sct.of bs).cells.toArray) x3:=L30.out;go_wp2_with fail;rw[L3];go_wp2_with fail;go_at_call 218;clear L3;refine(lD (Sct.of bs) HOK.out x3).mono ?_;rintro e x4 ⟨rfl,hb⟩;have K4:=w9bt K3 hb;have H4:Hid (W.heap.size<x4.heap.size):=aU H3.out hb.size;have RA4:Hid (x4.rangeAt W.heap.size 0 (Sct.of bs).cells):=eL hb H3.out RA3.out;clear hb;obtain⟨x5,hx5⟩:=w9nm (x4.alloc (ap cx 51));rcases HWY.out with⟨hc,he,hS,hE⟩ | ⟨c,hc,hC,hA,he,hS,hE⟩ | ⟨c,hc,hC,hA,he,hS,hE⟩
    ·rw[hc,he];obtain⟨x6,hx6⟩:=w9nm (x4.alloc (ap (a9 0).toArray 51));have ST5:(aL 51 ⟨x4.heap.size,0,none⟩ (al (a9 0).toArray)).run aj x5=.ok () x6:=by rw[←hx5,←hx6];exact gT dj (fv 0)
     have K6:Hid (ah W.heap.size W x6):=by rw[←hx6];exact K4.out.alloc K4.out.size _
     obtain⟨x7,ST7,ld,hb7⟩:=jt (w:=w) (x:=x6) (B:=w.heap.size+1) (u:=cm) ((K6.out.block _ (by have:=HZ.out;omega)).trans HR2.out) ZZ.out (gP _) (HB.out.trans (K6.out.mono HB.out.size)) ZZ.out jU;have HB7:=ae hb7;have HS:=ae (And.intro hS hE);clear hb7 hc he hS hE hx6;go_wp2_with fail;rw[HS.out.1,HS.out.2];exact bl (dl rfl rfl ld) rfl ⟨rfl,HB7.out⟩
    ·rw[hc,he];obtain⟨x6,hx6⟩:=w9nm (x4.alloc (ap c.toArray 51));have ST5:(aL 51 ⟨x4.heap.size,0,none⟩ (al c.toArray)).run aj x5=.ok () x6:=by rw[←hx5,←hx6];exact gT dj hC
     have K6:Hid (ah W.heap.size W x6):=by rw[←hx6];exact K4.out.alloc K4.out.size _
     have L5:(aE 51 ⟨x4.heap.size,0,none⟩).run aj x6=.ok (al c.toArray) x6:=dd (dJ (t:= 51) (by rw[←hx6];exact bR x4 _)) hC.length;have L1:(aE 51 ⟨w.heap.size,0,none⟩).run aj x6=.ok (al (an bs).toArray) x6:=dd (eL K6.out H0.out (dJ HR.out)) (by rw[bi];exact HL.out);have EQ:(eG 10000 51 (al c.toArray) (al (an bs).toArray)).run aj x6=.ok false x6:=by rw[←hA];exact iN hC (dr HL.out) x6
     obtain⟨x7,ST7,ld,hb7⟩:=jt (w:=w) (x:=x6) (B:=w.heap.size+1) (u:=cm) ((K6.out.block _ (by have:=HZ.out;omega)).trans HR2.out) ZZ.out (gP _) (HB.out.trans (K6.out.mono HB.out.size)) ZZ.out jU;have HB7:=ae hb7;have HS:=ae (And.intro hS hE);clear hb7 hc he hS hE hA hC hx6;go_wp2_with fail;rw[HS.out.1,HS.out.2];exact bl (dl rfl rfl ld) rfl ⟨rfl,HB7.out⟩
    ·rw[hc,he];obtain⟨x6,hx6⟩:=w9nm (x4.alloc (ap c.toArray 51));have ST5:(aL 51 ⟨x4.heap.size,0,none⟩ (al c.toArray)).run aj x5=.ok () x6:=by rw[←hx5,←hx6];exact gT dj hC
     have B6:ah x4.heap.size x4 x6:=by rw[←hx6];exact(aF _ x4).alloc (aJ _) _
     have K6:=w9bt K4 B6;have L5:(aE 51 ⟨x4.heap.size,0,none⟩).run aj x6=.ok (al c.toArray) x6:=dd (dJ (t:= 51) (by rw[←hx6];exact bR x4 _)) hC.length;have L1:(aE 51 ⟨w.heap.size,0,none⟩).run aj x6=.ok (al (an bs).toArray) x6:=dd (eL K6.out H0.out (dJ HR.out)) (by rw[bi];exact HL.out);have EQ:(eG 10000 51 (al c.toArray) (al (an bs).toArray)).run aj x6=.ok true x6:=by rw[←hA];exact iN hC (dr HL.out) x6
     have L4:(aE 254 ⟨W.heap.size,0,none⟩).run aj x6=.ok (al (Sct.of bs).cells.toArray) x6:=lr (eL B6 H4.out RA4.out) CL.out;obtain⟨x7,ST7,ld,hb7⟩:=jt (w:=w) (x:=x6) (B:=w.heap.size+1) (u:=(Sct.of bs).cells) ((K6.out.block _ (by have:=HZ.out;omega)).trans HR2.out) ZZ.out (gP _) (HB.out.trans (K6.out.mono HB.out.size)) CL.out (Sct.cells_one _);have HB7:=ae hb7;have HS:=ae (And.intro hS hE);clear hb7 hc he hS hE hA hC hx6 B6;go_wp2_with fail;try rw[L4]
     try go_wp2_with fail
     rw[HS.out.1,HS.out.2];exact bl (dl rfl rfl ld) rfl ⟨rfl,HB7.out⟩
   ·simp only[au,ay];go_wp2_with fail;try rw[hx1]
    refine aG ⟨⟨x1,K1.out⟩,rfl⟩ ?_;rw[aT];simp only[au,ay];go_wp2_with fail;refine aG ⟨⟨x1,K1.out⟩,rfl⟩ ?_;rw[cu];simp only[be,bf];have ST:(aL 254 ⟨W.heap.size,0,none⟩ (al (((cm.set 0 (ab aq mk)).set 1 (ab aD sq)).set 2 (ab af ix)).toArray)).run aj x1=.ok () x2:=ST0.out;go_wp2_with fail;clear ST c0;refine cM (fun x=>x=x2.drew) 3 (.takes [0,1,2] .leaf) hmx (by kernel_rfl) (by intro c x v a w h;cases x<;>exact h) rfl ?_;repeat(rw[bj];simp only[au,ay];go_big_quiet_step (fail);refine aO ?_)
    rw[bo,cu];simp only[be,bf];have RC:=RC0.out;go_wp2_with fail;clear RC;have L3:(aE 254 ⟨W.heap.size,0,none⟩).run aj x3=.ok (al (Sct.of bs).cells.toArray) x3:=L30.out;go_wp2_with fail;rw[L3];go_wp2_with fail;go_at_call 218;clear L3;refine(lD (Sct.of bs) HOK.out x3).mono ?_;rintro e x4 ⟨rfl,hb⟩;have K4:=w9bt K3 hb;have H4:Hid (W.heap.size<x4.heap.size):=aU H3.out hb.size;have RA4:Hid (x4.rangeAt W.heap.size 0 (Sct.of bs).cells):=eL hb H3.out RA3.out;clear hb;obtain⟨x5,hx5⟩:=w9nm (x4.alloc (ap cx 51));rcases HWY.out with⟨hc,he,hS,hE⟩ | ⟨c,hc,hC,hA,he,hS,hE⟩ | ⟨c,hc,hC,hA,he,hS,hE⟩
    ·rw[hc,he];obtain⟨x6,hx6⟩:=w9nm (x4.alloc (ap (a9 0).toArray 51));have ST5:(aL 51 ⟨x4.heap.size,0,none⟩ (al (a9 0).toArray)).run aj x5=.ok () x6:=by rw[←hx5,←hx6];exact gT dj (fv 0)
     have K6:Hid (ah W.heap.size W x6):=by rw[←hx6];exact K4.out.alloc K4.out.size _
     obtain⟨x7,ST7,ld,hb7⟩:=jt (w:=w) (x:=x6) (B:=w.heap.size+1) (u:=cm) ((K6.out.block _ (by have:=HZ.out;omega)).trans HR2.out) ZZ.out (gP _) (HB.out.trans (K6.out.mono HB.out.size)) ZZ.out jU;have HB7:=ae hb7;have HS:=ae (And.intro hS hE);clear hb7 hc he hS hE hx6;go_wp2_with fail;rw[HS.out.1,HS.out.2];exact bl (dl rfl rfl ld) rfl ⟨rfl,HB7.out⟩
    ·rw[hc,he];obtain⟨x6,hx6⟩:=w9nm (x4.alloc (ap c.toArray 51));have ST5:(aL 51 ⟨x4.heap.size,0,none⟩ (al c.toArray)).run aj x5=.ok () x6:=by rw[←hx5,←hx6];exact gT dj hC
     have K6:Hid (ah W.heap.size W x6):=by rw[←hx6];exact K4.out.alloc K4.out.size _
     have L5:(aE 51 ⟨x4.heap.size,0,none⟩).run aj x6=.ok (al c.toArray) x6:=dd (dJ (t:= 51) (by rw[←hx6];exact bR x4 _)) hC.length;have L1:(aE 51 ⟨w.heap.size,0,none⟩).run aj x6=.ok (al (an bs).toArray) x6:=dd (eL K6.out H0.out (dJ HR.out)) (by rw[bi];exact HL.out);have EQ:(eG 10000 51 (al c.toArray) (al (an bs).toArray)).run aj x6=.ok false x6:=by rw[←hA];exact iN hC (dr HL.out) x6
     obtain⟨x7,ST7,ld,hb7⟩:=jt (w:=w) (x:=x6) (B:=w.heap.size+1) (u:=cm) ((K6.out.block _ (by have:=HZ.out;omega)).trans HR2.out) ZZ.out (gP _) (HB.out.trans (K6.out.mono HB.out.size)) ZZ.out jU;have HB7:=ae hb7;have HS:=ae (And.intro hS hE);clear hb7 hc he hS hE hA hC hx6;go_wp2_with fail;rw[HS.out.1,HS.out.2];exact bl (dl rfl rfl ld) rfl ⟨rfl,HB7.out⟩
    ·rw[hc,he];obtain⟨x6,hx6⟩:=w9nm (x4.alloc (ap c.toArray 51));have ST5:(aL 51 ⟨x4.heap.size,0,none⟩ (al c.toArray)).run aj x5=.ok () x6:=by rw[←hx5,←hx6];exact gT dj hC
     have B6:ah x4.heap.size x4 x6:=by rw[←hx6];exact(aF _ x4).alloc (aJ _) _
     have K6:=w9bt K4 B6;have L5:(aE 51 ⟨x4.heap.size,0,none⟩).run aj x6=.ok (al c.toArray) x6:=dd (dJ (t:= 51) (by rw[←hx6];exact bR x4 _)) hC.length;have L1:(aE 51 ⟨w.heap.size,0,none⟩).run aj x6=.ok (al (an bs).toArray) x6:=dd (eL K6.out H0.out (dJ HR.out)) (by rw[bi];exact HL.out);have EQ:(eG 10000 51 (al c.toArray) (al (an bs).toArray)).run aj x6=.ok true x6:=by rw[←hA];exact iN hC (dr HL.out) x6
     have L4:(aE 254 ⟨W.heap.size,0,none⟩).run aj x6=.ok (al (Sct.of bs).cells.toArray) x6:=lr (eL B6 H4.out RA4.out) CL.out;obtain⟨x7,ST7,ld,hb7⟩:=jt (w:=w) (x:=x6) (B:=w.heap.size+1) (u:=(Sct.of bs).cells) ((K6.out.block _ (by have:=HZ.out;omega)).trans HR2.out) ZZ.out (gP _) (HB.out.trans (K6.out.mono HB.out.size)) CL.out (Sct.cells_one _);have HB7:=ae hb7;have HS:=ae (And.intro hS hE);clear hb7 hc he hS hE hA hC hx6 B6;go_wp2_with fail;try rw[L4]
     try go_wp2_with fail
     rw[HS.out.1,HS.out.2];exact bl (dl rfl rfl ld) rfl ⟨rfl,HB7.out⟩
  ·simp only[au,ay];go_wp2_with fail;try rw[hx1]
   refine aG ⟨⟨x1,K1.out⟩,rfl⟩ ?_;rw[aT];simp only[au,ay];go_wp2_with fail;go_at_call 238;refine(HG2.out x1 K1.out).mono ?_;rintro e w' ⟨rfl,hx⟩;obtain rfl:=hx.symm;clear hx;go_wp2_with fail;refine aG ⟨⟨x1,K1.out⟩,rfl⟩ ?_;repeat(rw[bj];simp only[au,ay];go_big_quiet_step (fail);refine aO ?_)
   rw[bo,aT];simp only[au,ay];go_wp2_with fail;refine aG ⟨⟨x1,K1.out⟩,rfl⟩ ?_;rw[cu];simp only[be,bf];have ST:(aL 254 ⟨W.heap.size,0,none⟩ (al (((cm.set 0 (ab aq mk)).set 1 (ab aD sq)).set 2 (ab af ix)).toArray)).run aj x1=.ok () x2:=ST0.out;go_wp2_with fail;clear ST c0;refine cM (fun x=>x=x2.drew) 3 (.takes [0,1,2] .leaf) hmx (by kernel_rfl) (by intro c x v a w h;cases x<;>exact h) rfl ?_;repeat(rw[bj];simp only[au,ay];go_big_quiet_step (fail);refine aO ?_)
   rw[bo,cu];simp only[be,bf];have RC:=RC0.out;go_wp2_with fail;clear RC;have L3:(aE 254 ⟨W.heap.size,0,none⟩).run aj x3=.ok (al (Sct.of bs).cells.toArray) x3:=L30.out;go_wp2_with fail;rw[L3];go_wp2_with fail;go_at_call 218;clear L3;refine(lD (Sct.of bs) HOK.out x3).mono ?_;rintro e x4 ⟨rfl,hb⟩;have K4:=w9bt K3 hb;have H4:Hid (W.heap.size<x4.heap.size):=aU H3.out hb.size;have RA4:Hid (x4.rangeAt W.heap.size 0 (Sct.of bs).cells):=eL hb H3.out RA3.out;clear hb;obtain⟨x5,hx5⟩:=w9nm (x4.alloc (ap cx 51));rcases HWY.out with⟨hc,he,hS,hE⟩ | ⟨c,hc,hC,hA,he,hS,hE⟩ | ⟨c,hc,hC,hA,he,hS,hE⟩
   ·rw[hc,he];obtain⟨x6,hx6⟩:=w9nm (x4.alloc (ap (a9 0).toArray 51));have ST5:(aL 51 ⟨x4.heap.size,0,none⟩ (al (a9 0).toArray)).run aj x5=.ok () x6:=by rw[←hx5,←hx6];exact gT dj (fv 0)
    have K6:Hid (ah W.heap.size W x6):=by rw[←hx6];exact K4.out.alloc K4.out.size _
    obtain⟨x7,ST7,ld,hb7⟩:=jt (w:=w) (x:=x6) (B:=w.heap.size+1) (u:=cm) ((K6.out.block _ (by have:=HZ.out;omega)).trans HR2.out) ZZ.out (gP _) (HB.out.trans (K6.out.mono HB.out.size)) ZZ.out jU;have HB7:=ae hb7;have HS:=ae (And.intro hS hE);clear hb7 hc he hS hE hx6;go_wp2_with fail;rw[HS.out.1,HS.out.2];exact bl (dl rfl rfl ld) rfl ⟨rfl,HB7.out⟩
   ·rw[hc,he];obtain⟨x6,hx6⟩:=w9nm (x4.alloc (ap c.toArray 51));have ST5:(aL 51 ⟨x4.heap.size,0,none⟩ (al c.toArray)).run aj x5=.ok () x6:=by rw[←hx5,←hx6];exact gT dj hC
    have K6:Hid (ah W.heap.size W x6):=by rw[←hx6];exact K4.out.alloc K4.out.size _
    have L5:(aE 51 ⟨x4.heap.size,0,none⟩).run aj x6=.ok (al c.toArray) x6:=dd (dJ (t:= 51) (by rw[←hx6];exact bR x4 _)) hC.length;have L1:(aE 51 ⟨w.heap.size,0,none⟩).run aj x6=.ok (al (an bs).toArray) x6:=dd (eL K6.out H0.out (dJ HR.out)) (by rw[bi];exact HL.out);have EQ:(eG 10000 51 (al c.toArray) (al (an bs).toArray)).run aj x6=.ok false x6:=by rw[←hA];exact iN hC (dr HL.out) x6
    obtain⟨x7,ST7,ld,hb7⟩:=jt (w:=w) (x:=x6) (B:=w.heap.size+1) (u:=cm) ((K6.out.block _ (by have:=HZ.out;omega)).trans HR2.out) ZZ.out (gP _) (HB.out.trans (K6.out.mono HB.out.size)) ZZ.out jU;have HB7:=ae hb7;have HS:=ae (And.intro hS hE);clear hb7 hc he hS hE hA hC hx6;go_wp2_with fail;rw[HS.out.1,HS.out.2];exact bl (dl rfl rfl ld) rfl ⟨rfl,HB7.out⟩
   ·rw[hc,he];obtain⟨x6,hx6⟩:=w9nm (x4.alloc (ap c.toArray 51));have ST5:(aL 51 ⟨x4.heap.size,0,none⟩ (al c.toArray)).run aj x5=.ok () x6:=by rw[←hx5,←hx6];exact gT dj hC
    have B6:ah x4.heap.size x4 x6:=by rw[←hx6];exact(aF _ x4).alloc (aJ _) _
    have K6:=w9bt K4 B6;have L5:(aE 51 ⟨x4.heap.size,0,none⟩).run aj x6=.ok (al c.toArray) x6:=dd (dJ (t:= 51) (by rw[←hx6];exact bR x4 _)) hC.length;have L1:(aE 51 ⟨w.heap.size,0,none⟩).run aj x6=.ok (al (an bs).toArray) x6:=dd (eL K6.out H0.out (dJ HR.out)) (by rw[bi];exact HL.out);have EQ:(eG 10000 51 (al c.toArray) (al (an bs).toArray)).run aj x6=.ok true x6:=by rw[←hA];exact iN hC (dr HL.out) x6
    have L4:(aE 254 ⟨W.heap.size,0,none⟩).run aj x6=.ok (al (Sct.of bs).cells.toArray) x6:=lr (eL B6 H4.out RA4.out) CL.out;obtain⟨x7,ST7,ld,hb7⟩:=jt (w:=w) (x:=x6) (B:=w.heap.size+1) (u:=(Sct.of bs).cells) ((K6.out.block _ (by have:=HZ.out;omega)).trans HR2.out) ZZ.out (gP _) (HB.out.trans (K6.out.mono HB.out.size)) CL.out (Sct.cells_one _);have HB7:=ae hb7;have HS:=ae (And.intro hS hE);clear hb7 hc he hS hE hA hC hx6 B6;go_wp2_with fail;try rw[L4]
    try go_wp2_with fail
    rw[HS.out.1,HS.out.2];exact bl (dl rfl rfl ld) rfl ⟨rfl,HB7.out⟩
 ·simp only[au,ay];go_wp2_with fail;try rw[hx1]
  refine aG ⟨⟨x1,K1.out⟩,rfl⟩ ?_;rw[aT];simp only[au,ay];go_wp2_with fail;go_at_call 238;refine(HG1.out x1 K1.out).mono ?_;rintro e w' ⟨rfl,hx⟩;obtain rfl:=hx.symm;clear hx;go_wp2_with fail;refine aG ⟨⟨x1,K1.out⟩,rfl⟩ ?_;repeat(rw[bj];simp only[au,ay];go_big_quiet_step (fail);refine aO ?_)
  rw[bo,aT];simp only[au,ay];go_wp2_with fail;go_at_call 238;refine(HG2.out x1 K1.out).mono ?_;rintro e w' ⟨rfl,hx⟩;obtain rfl:=hx.symm;clear hx;go_wp2_with fail;refine aG ⟨⟨x1,K1.out⟩,rfl⟩ ?_;repeat(rw[bj];simp only[au,ay];go_big_quiet_step (fail);refine aO ?_)
  rw[bo,aT];simp only[au,ay];go_wp2_with fail;refine aG ⟨⟨x1,K1.out⟩,rfl⟩ ?_;rw[cu];simp only[be,bf];have ST:(aL 254 ⟨W.heap.size,0,none⟩ (al (((cm.set 0 (ab aq mk)).set 1 (ab aD sq)).set 2 (ab af ix)).toArray)).run aj x1=.ok () x2:=ST0.out;go_wp2_with fail;clear ST c0;refine cM (fun x=>x=x2.drew) 3 (.takes [0,1,2] .leaf) hmx (by kernel_rfl) (by intro c x v a w h;cases x<;>exact h) rfl ?_;repeat(rw[bj];simp only[au,ay];go_big_quiet_step (fail);refine aO ?_)
  rw[bo,cu];simp only[be,bf];have RC:=RC0.out;go_wp2_with fail;clear RC;have L3:(aE 254 ⟨W.heap.size,0,none⟩).run aj x3=.ok (al (Sct.of bs).cells.toArray) x3:=L30.out;go_wp2_with fail;rw[L3];go_wp2_with fail;go_at_call 218;clear L3;refine(lD (Sct.of bs) HOK.out x3).mono ?_;rintro e x4 ⟨rfl,hb⟩;have K4:=w9bt K3 hb;have H4:Hid (W.heap.size<x4.heap.size):=aU H3.out hb.size;have RA4:Hid (x4.rangeAt W.heap.size 0 (Sct.of bs).cells):=eL hb H3.out RA3.out;clear hb;obtain⟨x5,hx5⟩:=w9nm (x4.alloc (ap cx 51));rcases HWY.out with⟨hc,he,hS,hE⟩ | ⟨c,hc,hC,hA,he,hS,hE⟩ | ⟨c,hc,hC,hA,he,hS,hE⟩
  ·rw[hc,he];obtain⟨x6,hx6⟩:=w9nm (x4.alloc (ap (a9 0).toArray 51));have ST5:(aL 51 ⟨x4.heap.size,0,none⟩ (al (a9 0).toArray)).run aj x5=.ok () x6:=by rw[←hx5,←hx6];exact gT dj (fv 0)
   have K6:Hid (ah W.heap.size W x6):=by rw[←hx6];exact K4.out.alloc K4.out.size _
   obtain⟨x7,ST7,ld,hb7⟩:=jt (w:=w) (x:=x6) (B:=w.heap.size+1) (u:=cm) ((K6.out.block _ (by have:=HZ.out;omega)).trans HR2.out) ZZ.out (gP _) (HB.out.trans (K6.out.mono HB.out.size)) ZZ.out jU;have HB7:=ae hb7;have HS:=ae (And.intro hS hE);clear hb7 hc he hS hE hx6;go_wp2_with fail;rw[HS.out.1,HS.out.2];exact bl (dl rfl rfl ld) rfl ⟨rfl,HB7.out⟩
  ·rw[hc,he];obtain⟨x6,hx6⟩:=w9nm (x4.alloc (ap c.toArray 51));have ST5:(aL 51 ⟨x4.heap.size,0,none⟩ (al c.toArray)).run aj x5=.ok () x6:=by rw[←hx5,←hx6];exact gT dj hC
   have K6:Hid (ah W.heap.size W x6):=by rw[←hx6];exact K4.out.alloc K4.out.size _
   have L5:(aE 51 ⟨x4.heap.size,0,none⟩).run aj x6=.ok (al c.toArray) x6:=dd (dJ (t:= 51) (by rw[←hx6];exact bR x4 _)) hC.length;have L1:(aE 51 ⟨w.heap.size,0,none⟩).run aj x6=.ok (al (an bs).toArray) x6:=dd (eL K6.out H0.out (dJ HR.out)) (by rw[bi];exact HL.out);have EQ:(eG 10000 51 (al c.toArray) (al (an bs).toArray)).run aj x6=.ok false x6:=by rw[←hA];exact iN hC (dr HL.out) x6
   obtain⟨x7,ST7,ld,hb7⟩:=jt (w:=w) (x:=x6) (B:=w.heap.size+1) (u:=cm) ((K6.out.block _ (by have:=HZ.out;omega)).trans HR2.out) ZZ.out (gP _) (HB.out.trans (K6.out.mono HB.out.size)) ZZ.out jU;have HB7:=ae hb7;have HS:=ae (And.intro hS hE);clear hb7 hc he hS hE hA hC hx6;go_wp2_with fail;rw[HS.out.1,HS.out.2];exact bl (dl rfl rfl ld) rfl ⟨rfl,HB7.out⟩
  ·rw[hc,he];obtain⟨x6,hx6⟩:=w9nm (x4.alloc (ap c.toArray 51));have ST5:(aL 51 ⟨x4.heap.size,0,none⟩ (al c.toArray)).run aj x5=.ok () x6:=by rw[←hx5,←hx6];exact gT dj hC
   have B6:ah x4.heap.size x4 x6:=by rw[←hx6];exact(aF _ x4).alloc (aJ _) _
   have K6:=w9bt K4 B6;have L5:(aE 51 ⟨x4.heap.size,0,none⟩).run aj x6=.ok (al c.toArray) x6:=dd (dJ (t:= 51) (by rw[←hx6];exact bR x4 _)) hC.length;have L1:(aE 51 ⟨w.heap.size,0,none⟩).run aj x6=.ok (al (an bs).toArray) x6:=dd (eL K6.out H0.out (dJ HR.out)) (by rw[bi];exact HL.out);have EQ:(eG 10000 51 (al c.toArray) (al (an bs).toArray)).run aj x6=.ok true x6:=by rw[←hA];exact iN hC (dr HL.out) x6
   have L4:(aE 254 ⟨W.heap.size,0,none⟩).run aj x6=.ok (al (Sct.of bs).cells.toArray) x6:=lr (eL B6 H4.out RA4.out) CL.out;obtain⟨x7,ST7,ld,hb7⟩:=jt (w:=w) (x:=x6) (B:=w.heap.size+1) (u:=(Sct.of bs).cells) ((K6.out.block _ (by have:=HZ.out;omega)).trans HR2.out) ZZ.out (gP _) (HB.out.trans (K6.out.mono HB.out.size)) CL.out (Sct.cells_one _);have HB7:=ae hb7;have HS:=ae (And.intro hS hE);clear hb7 hc he hS hE hA hC hx6 B6;go_wp2_with fail;try rw[L4]
   try go_wp2_with fail
   rw[HS.out.1,HS.out.2];exact bl (dl rfl rfl ld) rfl ⟨rfl,HB7.out⟩
end
section
attribute [-simp] isAgg51 zeroValue51 isAgg205 zeroValue205 isAgg304 zeroValue304
attribute [-go_sem] aE aL
attribute [local go_sem] bC bD cV eM eN eO oO oQ
theorem rE (bs:List Int) (hb:aP bs) (hl:bs.length=64) (w:ak):
  az aj 232 #[al (an bs).toArray] w fun e w'=>e=ar (aQ #[al (cN bs).cells.toArray,ab af (fI bs)])/\ah w.heap.size w w':=by
 obtain⟨W1,hW1⟩:=w9nm (w.alloc (ap (an bs).toArray 51));have hB1:ah w.heap.size w W1:=by rw[←hW1];exact(aF _ _).alloc (aJ _) _
 have hz1:W1.heap.size=w.heap.size+1:=by rw[←hW1];simp
 have hr1:W1.heap[w.heap.size]? =some (ap (an bs).toArray 51 (0,0)):=by rw[←hW1];exact bR w _
 obtain⟨W,hW⟩:=w9nm (W1.alloc (ap cm.toArray 304));have hB2:ah W1.heap.size W1 W:=by rw[←hW];exact(aF _ _).alloc (aJ _) _
 have HB:w9h w W:=hB1.trans (hB2.mono hB1.size);have HR:Hid (W.heap[w.heap.size]? =some (ap (an bs).toArray 51 (0,0))):=(hB2.block _ (by omega)).trans hr1;have HR2:Hid (W.heap[w.heap.size+1]? =some (ap cm.toArray 304 (0,0))):=by
  have:=bR W1 (ap cm.toArray 304);rw[hW,hz1]at this;exact this
 have HZ:Hid (W.heap.size=w.heap.size+2):=by show _=_;rw[←hW,dy,hz1]
 have HL:=ae hl;have HOK:=ae (jg hb hl);have HWY:=ae (vC hb hl);have HF:=ae (Cf bs hb hl W);have ZZ:Hid (cm.length=51):=rfl;have CL:Hid ((Sct.of bs).cells.length=51):=Sct.cells_length HOK.out.len;have L0:(aE 51 ⟨w.heap.size,0,none⟩).run aj W=.ok (al (an bs).toArray) W:=dd (dJ HR.out) (by rw[bi];exact hl);have H0:Hid (w.heap.size<W.heap.size):=by show _<_;have:=HZ.out;omega
 clear hr1 hB1 hB2 hb hl;go_enter func232,ntmps232;go_wp2_with fail;clear L0 hW hW1;go_at_call 268;refine HF.out.mono ?_;rintro e x1 ⟨rfl,hb⟩;have K1:w9h W x1:=hb;obtain⟨x2,hx2⟩:=w9nm (x1.alloc (ap (Sct.of bs).cells.toArray 304));have ST2:(aL 304 ⟨x1.heap.size,0,none⟩ (al (Sct.of bs).cells.toArray)).run aj (x1.alloc (ap cm.toArray 304))=.ok () x2:=by
  rw[←hx2];exact oN kN CL.out (Sct.cells_one _)
 have r2:x2.heap[x1.heap.size]? =some (ap (Sct.of bs).cells.toArray 304 (0,0)):=by rw[←hx2];exact bR x1 _
 have RA2:=ae (dJ r2);have H2:Hid (x1.heap.size<x2.heap.size):=by show _<_;rw[←hx2];simp
 have K2:Hid (ah W.heap.size W x2):=by rw[←hx2];exact K1.out.alloc K1.out.size _
 have L2:(aE 304 ⟨x1.heap.size,0,none⟩).run aj x2=.ok (al (Sct.of bs).cells.toArray) x2:=mp RA2.out CL.out;clear hb r2 hx2;go_wp2_with fail;try rw[L2]
 try go_wp2_with fail
 clear ST2 L2;go_at_call 264;refine(oT (Sct.of bs) HOK.out x2).mono ?_;rintro e x4 ⟨rfl,hb⟩;have K4:=w9bt K2 hb;have H4:Hid (x1.heap.size<x4.heap.size):=aU H2.out hb.size;have RA4:Hid (x4.rangeAt x1.heap.size 0 (Sct.of bs).cells):=eL hb H2.out RA2.out;clear hb;obtain⟨x5,hx5⟩:=w9nm (x4.alloc (ap cx 51));rcases HWY.out with⟨hc,he,hS,hE⟩ | ⟨c,hc,hC,hA,he,hS,hE⟩ | ⟨c,hc,hC,hA,he,hS,hE⟩
 ·rw[hc,he];obtain⟨x6,hx6⟩:=w9nm (x4.alloc (ap (a9 0).toArray 51));have ST5:(aL 51 ⟨x4.heap.size,0,none⟩ (al (a9 0).toArray)).run aj x5=.ok () x6:=by rw[←hx5,←hx6];exact gT dj (fv 0)
  have K6:Hid (ah W.heap.size W x6):=by rw[←hx6];exact K4.out.alloc K4.out.size _
  obtain⟨x7,ST7,ld,hb7⟩:=mr (w:=w) (x:=x6) (B:=w.heap.size+1) (u:=cm) ((K6.out.block _ (by have:=HZ.out;omega)).trans HR2.out) ZZ.out (gP _) (HB.out.trans (K6.out.mono HB.out.size)) ZZ.out jU;have HB7:=ae hb7;have HS:=ae (And.intro hS hE);clear hb7 hc he hS hE hx6;go_wp2_with fail;rw[HS.out.1,HS.out.2];exact bl (dl rfl rfl ld) rfl ⟨rfl,HB7.out⟩
 ·rw[hc,he];obtain⟨x6,hx6⟩:=w9nm (x4.alloc (ap c.toArray 51));have ST5:(aL 51 ⟨x4.heap.size,0,none⟩ (al c.toArray)).run aj x5=.ok () x6:=by rw[←hx5,←hx6];exact gT dj hC
  have K6:Hid (ah W.heap.size W x6):=by rw[←hx6];exact K4.out.alloc K4.out.size _
  have L5:(aE 51 ⟨x4.heap.size,0,none⟩).run aj x6=.ok (al c.toArray) x6:=dd (dJ (t:= 51) (by rw[←hx6];exact bR x4 _)) hC.length;have L1:(aE 51 ⟨w.heap.size,0,none⟩).run aj x6=.ok (al (an bs).toArray) x6:=dd (eL K6.out H0.out (dJ HR.out)) (by rw[bi];exact HL.out);have EQ:(eG 10000 51 (al c.toArray) (al (an bs).toArray)).run aj x6=.ok false x6:=by rw[←hA];exact iN hC (dr HL.out) x6
  obtain⟨x7,ST7,ld,hb7⟩:=mr (w:=w) (x:=x6) (B:=w.heap.size+1) (u:=cm) ((K6.out.block _ (by have:=HZ.out;omega)).trans HR2.out) ZZ.out (gP _) (HB.out.trans (K6.out.mono HB.out.size)) ZZ.out jU;have HB7:=ae hb7;have HS:=ae (And.intro hS hE);clear hb7 hc he hS hE hA hC hx6;go_wp2_with fail;rw[HS.out.1,HS.out.2];exact bl (dl rfl rfl ld) rfl ⟨rfl,HB7.out⟩
 ·rw[hc,he];obtain⟨x6,hx6⟩:=w9nm (x4.alloc (ap c.toArray 51));have ST5:(aL 51 ⟨x4.heap.size,0,none⟩ (al c.toArray)).run aj x5=.ok () x6:=by rw[←hx5,←hx6];exact gT dj hC
  have B6:ah x4.heap.size x4 x6:=by rw[←hx6];exact(aF _ x4).alloc (aJ _) _
  have K6:=w9bt K4 B6;have L5:(aE 51 ⟨x4.heap.size,0,none⟩).run aj x6=.ok (al c.toArray) x6:=dd (dJ (t:= 51) (by rw[←hx6];exact bR x4 _)) hC.length;have L1:(aE 51 ⟨w.heap.size,0,none⟩).run aj x6=.ok (al (an bs).toArray) x6:=dd (eL K6.out H0.out (dJ HR.out)) (by rw[bi];exact HL.out);have EQ:(eG 10000 51 (al c.toArray) (al (an bs).toArray)).run aj x6=.ok true x6:=by rw[←hA];exact iN hC (dr HL.out) x6
  have L4:(aE 304 ⟨x1.heap.size,0,none⟩).run aj x6=.ok (al (Sct.of bs).cells.toArray) x6:=mp (eL B6 H4.out RA4.out) CL.out;obtain⟨x7,ST7,ld,hb7⟩:=mr (w:=w) (x:=x6) (B:=w.heap.size+1) (u:=(Sct.of bs).cells) ((K6.out.block _ (by have:=HZ.out;omega)).trans HR2.out) ZZ.out (gP _) (HB.out.trans (K6.out.mono HB.out.size)) CL.out (Sct.cells_one _);have HB7:=ae hb7;have HS:=ae (And.intro hS hE);clear hb7 hc he hS hE hA hC hx6 B6;go_wp2_with fail;try rw[L4]
  try go_wp2_with fail
  rw[HS.out.1,HS.out.2];exact bl (dl rfl rfl ld) rfl ⟨rfl,HB7.out⟩
end
section
attribute [local go_sem] Oper.semAt_some
def dH (S:Nat->Prop) (A B:ak):Prop:=A.heap.size<=B.heap.size/\∀k,S k->B.heap[k]? =A.heap[k]?
theorem dH.refl (S:Nat->Prop) (A:ak):dH S A A:=⟨aJ _,fun _ _=>rfl⟩
theorem iW {S:Nat->Prop} {A B C:ak} (h:dH S A B) (k:dH S B C):dH S A C:=⟨aZ h.1 k.1,fun j hj=>(k.2 j hj).trans (h.2 j hj)⟩
theorem dH.cell {S:Nat->Prop} {A B:ak} (h:dH S A B) {p:aN} (hp:S p.block):B.cell? p=A.cell? p:=cL (h.2 _ hp)
theorem nj {S:Nat->Prop} {w:ak} (hS:∀k,S k->k<w.heap.size) (W:ak) (l:Nat) (o o':Obj) (hl:w.heap.size<=l) (_:W.heap[l]? =some o) (_:o.isCells=false) (_:o.isWalk=false):dH S W (W.putObj l o'):=⟨by simp,fun k hk=>by
 refine World.putObj_heap_other ?_;have:=hS k hk;omega⟩
def oU (b off len:Nat) {m:Nat} (x:Fin m):Array am:=#[ag (some ⟨b,off+48*x.1,none⟩) (min 48 (len - 48*x.1)) (min 48 (len - 48*x.1))]
theorem Ck (F:Fence) (n:Nat) (hf:F.fn 210) (hro:F.round=none) (a:Option aN) (len cap:Nat) (w:ak):
  CallsIn F n aj 210 #[ag a len cap,ab af 48] w fun e w'=>e=ar (.func (.func 263) #[] #[ao (some ⟨w.heap.size,0,none⟩),ao (some ⟨w.heap.size+1,0,none⟩)])/\w'=(w.alloc (ap #[ag a len cap] 76)).alloc (ap #[ab af 48] 3):=by
 refine callsIn_of_wp func210 rfl hf ?_ hro;simp only[ntmps210,dU,cK,dP,Nat.reduceAdd,Nat.reduceSub,ez,eA,eD,eF,dT,dX]
 gi_wp2
 go_ret;exact⟨rfl,rfl⟩
theorem Cl (n:Nat) (hn:1<=n) (l Bs Bn b off len cap m:Nat) (a:Option aN) (ha:len=0\/a=some ⟨b,off,none⟩) (hlc:len<=cap) (hc:cap<=aS) (hmx:len<=1000000) (hm:m=(len+47) / 48) (S:Nat->Prop) (hs:S Bs) (hs':S Bn)
  (J Jx:List (Fin m)->ak->Prop)
  (hY:∀pre x W,J pre W->pre.length<m->YieldAt Fence.wide (n - 1) aj l (oU b off len x) W fun e W'=>
   (e=ar (.bool true)/\J (pre++ [x]) W'/\dH S W W')\/(e=ar (.bool false)/\Jx (pre++ [x]) W'))
  (hJd:∀pre W,J pre W->J pre W.drew)
  (W:ak) (hBs:W.cell? ⟨Bs,0,none⟩=some (ag a len cap)) (hBn:W.cell? ⟨Bn,0,none⟩=some (ab af 48)) (h0:J [] W) (hlt:Bs<W.heap.size) (hlt':Bn<W.heap.size):
  CallsIn Fence.wide n aj 263 #[.func (.yield l) #[] #[],ao (some ⟨Bs,0,none⟩),ao (some ⟨Bn,0,none⟩)] W fun e W'=>(∃v,e=ar v)/\
   ((∃ys,ys=ik m/\J ys W')\/(∃pre,(∃k,k<=m/\pre=gZ m k)/\Jx pre W')):=by
 refine callsIn_of_wp func263 rfl trivial ?_ rfl;simp only[ntmps263,dU,cK,dP,Nat.reduceAdd,Nat.reduceSub,ez,eA,eD,eF,dT,dX];have HM:=ae hm;have HS:=ae hs;have HS':=ae hs';have HA:=ae ha;have HLT:=ae hlt;have HLT':=ae hlt';have hcap:cap<=9223372036854775807:=by unfold aS at hc;omega
 have hmo:aj.follows .mixedOrders=true:=by kernel_rfl
 clear hm hs hs' ha hc hlt hlt'
 gi_wp2
 gi_loopw [4] (fun i wr=>∃k:Nat,k<=m/\i=ab af ((48*k:Nat):Int)/\J (gZ m k) wr/\Hid (dH S W wr)) (fun i _=>48*m - (aW i).toNat)
 case atStart=>exact⟨0,bq _,rfl,h0,dH.refl _ _⟩
 case round=>
  obtain⟨k,hk,rfl,hJs,HK⟩:=hrel;obtain⟨K,hK⟩:=w9nm (48*k);rw[hK];have c1:wr.cell? ⟨Bs,0,none⟩=some (ag a len cap):=(HK.out.cell HS.out).trans hBs;have c2:wr.cell? ⟨Bn,0,none⟩=some (ab af 48):=(HK.out.cell HS'.out).trans hBn;by_cases hlt:K<len
  ·have hkm:k<m:=by have:=HM.out;omega
   have hlt':decide ((K:Int)< (len:Int))=true:=by simp;omega
   obtain rfl:a=some ⟨b,off,none⟩:=by rcases HA.out with h | h;omega;exact h
   have hKK:=ae hK;obtain⟨H,hH⟩:=w9nm (min 48 (len - K));have hHH:=ae hH;have d1:∀y:aI wr,y.1.cell? ⟨Bs,0,none⟩=some (ag (some ⟨b,off,none⟩) len cap):=fun y=>(y.2.cell (p:=⟨Bs,0,none⟩) (aU HLT.out HK.out.1)).trans c1;have d2:∀y:aI wr,y.1.cell? ⟨Bn,0,none⟩=some (ab af 48):=fun y=>(y.2.cell (p:=⟨Bn,0,none⟩) (aU HLT'.out HK.out.1)).trans c2;have g1:(K:Int)<=len:=by omega
   have g2:(len:Int)<=cap:=by omega
   have hq:(len:Int) - (K:Int)=((len - K:Nat):Int):=by omega
   have hmin:∀(ts:Array aV) (t:aV) (W:ak),(Builtin.min_ ts t #[ab af 48,ab af ((len - K:Nat):Int)]).run aj W=.ok (ab af (H:Int)) W:=fun ts t W=>by
    rw[run_min_int2,←hH]
    congr 2
    split<;>omega
   have hH1:H<=48:=by omega
   have hH2:K+H<=len:=by omega
   have hH0:0<H:=by omega
   have hKc:K<cap:=by omega
   clear hH hBn hBs h0
   gi_wp2_with fail
   refine wpIn_wide.2 ?_;refine cM (fun x=>∃y:aI wr,x=y.1) 6 (.takes [0,1,2,3,4] (.one 5 .leaf)) hmo (by kernel_rfl) (by intro c x v a w h;cases x<;>exact h) ⟨⟨wr.drew,(aF _ wr).drew⟩,rfl⟩ ?_;repeat(rw[bj];simp only[au,ay];go_big_quiet_step (fail);refine aO ?_)
   rw[bo,aT];simp only[au,ay];go_wp2_with fail;refine aG ⟨⟨wr.drew,(aF _ wr).drew⟩,rfl⟩ ?_;rw[cu];simp only[be,bf];clear hmin d1 d2;have c1':wr.drew.cell? ⟨Bs,0,none⟩=some (ag (some ⟨b,off,none⟩) len cap):=c1;have c2':wr.drew.cell? ⟨Bn,0,none⟩=some (ab af 48):=c2;have HJ:J (gZ m k) wr.drew:=hJd _ _ hJs;obtain⟨fn,tmps,assign,body,hy,hR⟩:=hY _ ⟨k,hkm⟩ wr.drew HJ (by rw[oK m k hk];exact hkm);unfold oU at hy
   dsimp only at hy
   rw[hKK.out,hHH.out]at hy;go_wp2_with fail
   gi_wp2_with fail
   refine hR.mono ?_;rintro e W3 (⟨rfl,hJ3,hk3⟩ | ⟨rfl,hJx3⟩)
   ·have c3:W3.cell? ⟨Bn,0,none⟩=some (ab af 48):=(hk3.cell HS'.out).trans c2';have HK3:Hid (dH S W W3):=iW (iW HK.out (⟨aJ _,fun _ _=>rfl⟩:dH S wr wr.drew)) hk3;clear hk3
    gi_wp2_with fail
    go_roundw
    case rel=>exact⟨k+1,by omega,by have:=hKK.out;go_num,by rw[ku m k hkm];exact hJ3,HK3⟩
    case measure=>have:=hKK.out;simp[aW];omega
   ·gi_wp2_with fail
    refine bl (results_none rfl _ _ _) rfl ?_;exact⟨⟨_,rfl⟩,aC ⟨_,⟨k+1,by omega,(ku m k hkm).symm⟩,hJx3⟩⟩
  ·have hlt':decide ((K:Int)< (len:Int))=false:=by simp;omega
   obtain rfl:k=m:=by have:=HM.out;omega
   clear hK
   gi_wp2_with fail
   go_end0
   exact⟨⟨_,rfl⟩,aA ⟨_,rfl,by rw[←nc];exact hJs⟩⟩
end
section
attribute [-simp] isAgg51 zeroValue51 isAgg205 zeroValue205
attribute [-go_sem] aE aL
attribute [local go_sem] bC bD cV ro dQ
theorem gI {x x':ak} {N e sz n:Nat} {v:am} {xs:List am} (h:x.ownsRow N e sz v n xs) (hb:w9b x x'):x'.ownsRow N e sz v n xs:=by
 refine⟨h.1, ?_⟩;rcases h.2 with h' | ⟨g,cap,cur,rfl,a1,a2,a3⟩
 ·exact aA h'
 ·exact aC ⟨g,cap,cur,rfl,a1,(hb.block g (cj.1 a2).1).trans a2,a3⟩
theorem Cm (v:am) (bs:List Int) (w:ak) (hv:Sl aq w v bs) (hl:bs.length<=100000):
  az aj 139 #[v] w fun e w'=>∃v',e=ar v'/\w'.ownsRow w.heap.size 205 48 v' (cB bs) (rows bs (cB bs)).flatten/\ah w.heap.size w w':=by
 have HS:=ae hv;obtain⟨ra,rc,rfl,hm1,hm2, -, -⟩:=hv;obtain⟨len,hlen⟩:=w9nm bs.length;have HL:=ae hlen;obtain⟨n,hn⟩:=w9nm (cB bs);have HN:Hid (n=(len+47) / 48):=by show _=_;rw[←hn,←hlen];rfl
 rw[hlen]at hl hm1 HS ⊢;rw[hn];clear hlen hn;have hmx:=w9x
 go_enter func139,ntmps139;go_wp2_with fail;go_loopw [3,4] (fun v i wr=>∃k:Nat,k<=n/\i=ab af ((48*k:Nat):Int)/\w9h w wr/\Hid (wr.ownsRow w.heap.size 205 48 v k (rows bs k).flatten)) (fun _ i _=>48*n - (aW i).toNat)
 case atStart=>exact⟨0,bq _,rfl,aF _ _,ft _ _ _ _⟩
 case round=>
  obtain⟨k,hk,rfl,HB,HO⟩:=hrel;obtain⟨K,hK⟩:=w9nm (48*k);rw[hK];by_cases hlt:K<len
  ·have hlt':decide ((K:Int)< (len:Int))=true:=by simp;omega
   obtain⟨x1,hx1⟩:=w9nm (wr.alloc (ap dR.toArray 205));have hKH:(K:Int)+48<=200000:=by omega
   have hK0:(0:Int)<=K:=by omega
   obtain⟨H0,hH⟩:∃H0:Nat,(if(len:Int)< (K:Int)+48 then(len:Int)else(K:Int)+48)=(H0:Int):=by
    split
    ·exact⟨len,rfl⟩
    ·exact⟨K+48,by omega⟩
   have hH1:(K:Int)<=H0:=by split at hH<;>omega
   have hH2:(H0:Int)<=(rc:Int):=by split at hH<;>omega
   have hH3:(H0:Int)<=len/\(H0:Int)<=K+48/\(len<=H0\/K+48<=H0):=by split at hH<;>omega
   have HH:=ae hH;clear hH;have hcl:((bs.drop K).take (H0 - K)).length=H0 - K:=by rw[fd,dx,HL.out];omega
   have HSP:∀x,w9b w x->Sl aq x (ag (ra.map fun y=>y.add K) (H0 - K) (rc - K)) ((bs.drop K).take (H0 - K)):=fun x hx=>by
    have h1:=Ag (HS.out.below hx) (K:=K) (by omega);rw[if_neg (by omega)]at h1;exact(Af h1 (K:=H0 - K) (by omega)).2 x h1
   have k1:x1.heap[wr.heap.size]? =some (ap dR.toArray 205 (0,0)):=by rw[←hx1];exact bR wr _
   have B1:ah w.heap.size w x1:=by rw[←hx1];exact HB.out.alloc HB.out.size _
   have BD:ah w.heap.size w x1.drew:=B1.trans (((aF _ x1).drew).mono B1.size);have t1:x1.drew.there wr.heap.size 0 (H0 - K):=fy k1 0 _ (by rw[oE];omega);have rc0:=jP (w:=x1.drew) (B:=wr.heap.size) (o:=0) (dLen:=48) (dCap:=48) 3 (HSP _ BD) (by rw[hcl];omega) (by rw[hcl];exact t1);obtain⟨x2,hx2⟩:=w9nm (x1.drew.setCells wr.heap.size 0 (an ((bs.drop K).take (H0 - K))));rw[hx2,hcl]at rc0;have RC0:=ae rc0;have hp:an (bM bs k)=an ((bs.drop K).take (H0 - K))++an (bK (48 - (H0 - K)) 0):=by
    have e1:(bs.drop K).take 48=(bs.drop K).take (H0 - K):=by
     by_cases h:K+48<=len
     ·rw[show H0 - K=48 by omega]
     ·rw[ey (by rw[dx,HL.out];omega),ey (by rw[dx,HL.out];omega)]
    unfold bM;rw[hK,e1,hcl];simp[an]
   have ra2:x2.rangeAt wr.heap.size 0 (an (bM bs k)):=by
    rw[hp];refine kp ?_ ?_
    ·rw[←hx2];exact gE x1.drew _ 0 _ (by rw[bi,hcl];exact t1)
    ·rw[bi,hcl,←hx2];refine iM (w:=x1.drew) (fun j x hx=> ?_) _ 0 _ (aC (aC (by rw[bi,hcl];omega)));refine(cl x1 _ _ _ _ _ k1).trans ?_;have hj:j<48 - (H0 - K):=by have:=(dp.1 hx).1;simpa [an]using this
     rw[←hx,List.getElem?_toArray];unfold dR an;rw[du,du,jL,jL,if_pos (by omega),if_pos hj]
   have B2:ah w.heap.size w x2:=by rw[←hx2];exact BD.trans ((fi HB.out.size _ _ x1.drew).mono (aJ _))
   have hpl:(an (bM bs k)).length=48:=by rw[bi,gH]
   have L20:=ae (iH ra2 hpl);obtain⟨x3,hx3⟩:=w9nm (x2.alloc (ap (an (bM bs k)).toArray 205));have SB0:Hid ((cO 109 1 #[(0,al (an (bM bs k)).toArray)]).run aj x2=.ok (ag (some ⟨x2.heap.size,0,none⟩) 1 1) x3):=by rw[←hx3];exact kM x2 _ hpl
   have B3:ah w.heap.size w x3:=by rw[←hx3];exact B2.alloc B2.size _
   have W3:ah wr.heap.size wr x3:=by
    have w1:ah wr.heap.size wr x1:=by rw[←hx1];exact(aF _ wr).alloc (aJ _) _
    have w2:ah wr.heap.size wr x1.drew:=w1.trans (((aF _ x1).drew).mono w1.size);have w3:ah wr.heap.size wr x2:=by rw[←hx2];exact w2.trans ((fi (aJ wr.heap.size) _ _ x1.drew).mono (aJ _))
    rw[←hx3];exact w3.alloc w3.size _
   have O3:x3.ownsRow w.heap.size 205 48 u3 (rows bs k).length (rows bs k).flatten:=by rw[oJ];exact gI HO.out W3
   obtain⟨v4,x4,r4,o4,g4, -⟩:=oI w.heap.size x3 u3 (rows bs k) (an (bM bs k)) x2.heap.size O3 hpl (iO _) (dJ (t:= 205) (by rw[←hx3];exact bR x2 _)) (by rw[oJ];omega) B3.size;have R4:=ae r4;have HO4:Hid (x4.ownsRow w.heap.size 205 48 v4 (k+1) (rows bs (k+1)).flatten):=by
    show x4.ownsRow _ _ _ _ _ _;rw[BA];simpa [oJ]using o4
   have HB4:w9h w x4:=B3.grown g4 B3.size (fun j e=>(O3.lt j e).1);clear r4 o4 g4 O3 W3 B3 B2 hpl ra2 hp rc0 t1 BD B1 k1 HSP hcl;have HKK:=ae hK;clear hK;go_wp2_with fail;refine cM (fun x=>x=x1.drew) 9 (.takes [0,1,2,3,4,5,6] (.one 7 (.takes [8] .leaf))) hmx (by kernel_rfl) (by intro c x v a w h;cases x<;>exact h) rfl ?_;repeat(rw[bj];simp only[au,ay];go_big_quiet_step (fail);refine aO ?_)
   rw[bo,aT];simp only[au,ay];have hmin:∀(ts:Array aV) (t:aV) (W:ak),(Builtin.min_ ts t #[ab af ((K:Int)+48),ab af (len:Int)]).run aj W=.ok (ab af (H0:Int)) W:=fun ts t W=>by
    rw[run_min_int2,HH.out]
   go_wp2_with fail;refine aG rfl ?_;clear hmin;repeat(rw[bj];simp only[au,ay];go_big_quiet_step (fail);refine aO ?_)
   rw[bo,cu];simp only[be,bf];have RC:=RC0.out;go_wp2_with fail;clear RC;have L2:=L20.out;have SB:=SB0.out;go_wp2_with fail;rw[L2];have HLT:=ae hlt;clear L2 hx1 hx2 hx3 hH1 hH2 hH3 hlt hm1 hm2;clear SB;go_wp2_with (first | ((with_reducible refine gG ?_);refine dq _ _ _ rfl rfl [(0,al (an (bM bs k)).toArray)] _ rfl SB0.out ?_) | (at_builtin;refine wpList_append_run (.tmp 22) (.tmp 24) 109 rfl rfl _ _ _ rfl rfl R4.out ?_));go_roundw
   case rel=>exact⟨k+1,by have:=HN.out;have:=HKK.out;have:=HLT.out;omega,by have:=HKK.out;go_num,HB4.out,HO4.out⟩
   case measure=>have:=HN.out;have:=HKK.out;have:=HLT.out;simp[aW];omega
  ·have hlt':decide ((K:Int)< (len:Int))=false:=by simp;omega
   have hkn:k=n:=by have:=HN.out;omega
   rw[hkn]at HO;clear hkn hK;go_wp2_with fail;go_ret;exact⟨_,rfl,HO.out,HB.out⟩
end
section
theorem rF (n:Int) (w:ak) (h0: -9223372036854775808<=n) (h1:n<9223372036854775808):
  az aj 209 #[ab af n] w fun e w'=>e=ar (ab af (cnt n))/\w'=w:=by
 by_cases hn:n<1
 ·have hc:cnt n=0:=if_pos hn;rw[hc];go_enter func209,ntmps209;go_wp2_with fail;all_goals(go_ret;exact⟨rfl,rfl⟩)
 ·have hc:cnt n=(n - 1) / 48+1:=if_neg hn;have hq:Int.tdiv (n - 1) 48=(n - 1) / 48:=Int.tdiv_eq_ediv_of_nonneg (by omega);rw[hc];go_enter func209,ntmps209;go_wp2_with fail;all_goals(go_ret;exact⟨rfl,rfl⟩)
end
section
theorem rG {l₀ n:Nat} {P:Program} {ops:Array Oper} {Q:Exit->Act->ak->Prop} (hL:¬LetsOut Q):∀(l:List Oper) (a:Act) (w:ak),(∀o ∈ l,∀c,o.op≠ .defer c)->wpList P ops Q l a w->wpListIn (Fence.wide.inRound l₀) n P ops Q l a w
 | [],_,_,_,h=>h
 | o::rest,a,w,hd,h=>by
  have hd':∀o ∈ rest,∀c,o.op≠ .defer c:=fun o ho=>hd o (fG _ ho);unfold wpList at h;unfold wpListIn;by_cases hw:Region.wanted o (yielded ops a.tmps)=true
  ·rw[if_pos hw]at h ⊢;rcases h with h | h
   ·exact tU (hd o eV) (Oper.wp_mono (fun a' w'=>rG hL rest a' w' hd') h)
   ·exact absurd h.2 hL
  ·rw[if_neg hw]at h ⊢;exact⟨fun _ _=>trivial,rG hL rest _ _ hd' h⟩
theorem oV {l₀ n id:Nat} {P:Program} {l:List Oper} {Q:Exit->Act->ak->Prop} {a:Act} {w:ak} (hL:¬LetsOut Q) (hd:jN l.toArray=true) (h:wpList P l.toArray Q l a w):(Code.region id l.toArray false).wpIn (Fence.wide.inRound l₀) n P Q a w:=
 wpIn_region_lit (rG hL l a w (fun o ho=>by
  obtain⟨i,hi⟩:=List.getElem?_of_mem ho;exact qI hd (i:=i) (by simpa using hi)) h)
theorem vD {K:Act->ak->Prop} {Q:Exit->Act->ak->Prop} (h:¬LetsOut Q):¬LetsOut (Exit.then K Q):=fun⟨a,w,e⟩=>h ⟨a,w,e⟩
theorem Co (n:Nat) (hn:1<=n) (Bs Bn b off len cap m:Nat) (a:Option aN) (ha:len=0\/a=some ⟨b,off,none⟩) (hlc:len<=cap) (hc:cap<=aS) (hmx:len<=1000000) (hm:m=(len+47) / 48) (w:ak)
  (h1:Bs<w.heap.size) (h2:Bn<w.heap.size) (hBs:w.cell? ⟨Bs,0,none⟩=some (ag a len cap)) (hBn:w.cell? ⟨Bn,0,none⟩=some (ab af 48)):
  SeqStopsK Fence.wide n aj 263 #[ao (some ⟨Bs,0,none⟩),ao (some ⟨Bn,0,none⟩)] (oU b off len (m:=m)) (dH fun k=>k=Bs\/k=Bn) (fun ys=>ys=ik m) (fun _=>True) m w:=fun l J Jx W hW hJ _ hY h0=>
 (Cl n hn l Bs Bn b off len cap m a ha hlc hc hmx hm _ (aA rfl) (aC rfl) J Jx hY
  (fun pre W hj=>hJ pre W W.drew none hj (fS (aF _ W).drew none) (fun r e=>by cases e))
  W ((hW.cell (p:=⟨Bs,0,none⟩) h1).trans hBs) ((hW.cell (p:=⟨Bn,0,none⟩) h2).trans hBn) h0 (aU h1 hW.size) (aU h2 hW.size)).mono fun e W' ⟨he,h⟩=>⟨he,h.imp id fun⟨pre,_,hj⟩=>⟨pre,trivial,hj⟩⟩
theorem lE {W:ak} {base sz n:Nat} {e:aV} {v:am} {xs:List am} (h:W.ownsRow base e sz v n xs):∃ra n c,v=ag ra n c:=by
 rcases h.2 with⟨rfl,_⟩ | ⟨g,cap,cur,rfl,_⟩
 ·exact⟨_,_,_,rfl⟩
 ·exact⟨_,_,_,rfl⟩
theorem rH {W:ak} {base sz n j:Nat} {e:aV} {v:am} {xs:List am} {o:Obj} (h:W.ownsRow base e sz v n xs) (hj:v.ownBlock=some j) (ho:W.heap[j]? =some o):o.isCells=true:=by
 rcases h.2 with⟨rfl,_⟩ | ⟨g,cap,cur,rfl,_,hg,_⟩
 ·simp[fq]at hj
 ·obtain rfl:g=j:=by simpa [fq]using hj
  rw[hg]at ho;cases ho
  rfl
attribute [-simp] isAgg51 zeroValue51 isAgg205 zeroValue205
attribute [-go_sem] aE aL
attribute [local go_sem] bC bD cV ro dQ Oper.semAt_some
set_option maxRecDepth 100000 in
theorem Cp (v:am) (bs:List Int) (w:ak) (hv:Sl aq w v bs) (hl:bs.length<=100000):
  az aj 128 #[v] w fun e w'=>∃v',e=ar v'/\w'.ownsRow w.heap.size 205 48 v' (cB bs) (rows bs (cB bs)).flatten/\ah w.heap.size w w':=by
 have HS:=ae hv;obtain⟨a,cap,rfl,hm1,hm2,hla, -⟩:=hv;obtain⟨len,hlen⟩:=w9nm bs.length;have HL:=ae hlen;obtain⟨m,hm⟩:=w9nm (cB bs);have HN:Hid (m=(len+47) / 48):=by show _=_;rw[←hm,←hlen];rfl
 obtain⟨b,off,hab,hcs⟩:∃b off,(len=0\/a=some ⟨b,off,none⟩)/\(0<len->b<w.heap.size/\∀j,j<len->w.cell? ⟨b,off+j,none⟩=some (ab aq (bs[j]?.getD 0))):=by
  rcases hla with h | ⟨b,off,e,h1,h2⟩
  ·refine⟨0,0,aA (by rw[←hlen,h];rfl),fun h0=> ?_⟩;rw[←hlen,h]at h0;simp at h0
  ·exact⟨b,off,aC e,fun _=>⟨h1,fun j hj=>h2 j (by omega)⟩⟩
 have HA:=ae hab;have HC:=ae hcs;rw[hlen]at hl hm1 HS ⊢;rw[hm];have HM2:=ae hm2;clear hlen hm hla hab hcs hm2;have hcn:cnt (len:Int)=(m:Int):=by rw[vj,HN.out]
 have hmm:m<=100000:=by have:=HN.out;omega
 refine(callsIn_wide (n:=3)).1 ?_;refine jf func128 rfl trivial ?_ rfl;simp only[ntmps128,dU,cK,dP,Nat.reduceAdd,Nat.reduceSub,ez,eA,eD,eF,dT,dX];obtain⟨i0,hi,hz0,hz1,hz2⟩:=eJ oG
 gi_wp2_with (first | (refine⟨trivial, ?_⟩;gi_at_call 209;refine(callsIn_wide.2 (rF (len:Int) _ (by omega) (by omega))).mono ?_;rintro e w' ⟨rfl,rfl⟩;rw[hcn]) | (gi_at_make;refine wpListIn_make_own _ rfl _ _ 109 rfl w'.heap.size 205 i0 (al dR.toArray) 48 Tryz.underlying109 hi hz0 hz1 af af _ m rfl rfl rfl (by rw[hz2];omega) (by unfold aS;omega) (aJ _) ?_;intro w1 hown1 hgrow1) | (refine⟨trivial, ?_⟩;gi_at_call 210;refine(Ck _ _ trivial rfl _ _ _ _).mono ?_;rintro e w2 ⟨rfl,rfl⟩))
 obtain⟨W2,hW2⟩:=w9nm (w1.alloc (ap #[ag (some ⟨w'.heap.size,0,none⟩) 0 m] 109));obtain⟨W3,hW3⟩:=w9nm (W2.alloc (ap #[ag a len cap] 76));obtain⟨W4,hW4⟩:=w9nm (W3.alloc (ap #[ab af 48] 3));obtain⟨B3,hB3⟩:=w9nm w1.heap.size;have z2:W2.heap.size=B3+1:=by rw[←hW2,dy,hB3]
 have z3:W3.heap.size=B3+2:=by rw[←hW3,dy,z2]
 have z4:W4.heap.size=B3+3:=by rw[←hW4,dy,z3]
 have hw1:w9b w' w1:=(aF _ w').grown hgrow1 (aJ _) (fun k e=>by cases e);have HB4:Hid (ah w'.heap.size w' W4):=by
  have a2:ah w'.heap.size w' W2:=by rw[←hW2];exact hw1.alloc hw1.size _
  have a3:ah w'.heap.size w' W3:=by rw[←hW3];exact a2.alloc a2.size _
  show ah _ _ _;rw[←hW4];exact a3.alloc a3.size _
 have HBX:Hid (Boxed W4 B3 109 (ag (some ⟨w'.heap.size,0,none⟩) 0 m)):=by
  show Boxed _ _ _ _;rw[←hW4,←hW3,←hW2,←hB3];exact((dY w1 _ _).alloc _).alloc _
 have HBS:Hid (Boxed W4 (B3+1) 76 (ag a len cap)):=by
  have:=(dY W2 76 (ag a len cap)).alloc (ap #[ab af 48] 3);rw[hW3,hW4,z2]at this;exact this
 have HBN:Hid (Boxed W4 (B3+1+1) 3 (ab af 48)):=by
  have:=dY W3 3 (ab af 48);rw[hW4,z3]at this;exact this
 have HRW:Hid (W4.ownsRow w'.heap.size 205 48 (ag (some ⟨w'.heap.size,0,none⟩) 0 m) 0 []):=by
  show World.ownsRow _ _ _ _ _ _ _;rw[←hW4,←hW3,←hW2];exact((hown1.alloc _).alloc _).alloc _
 have HZ3:Hid (w'.heap.size<=B3):=by show _<=_;rw[←hB3];exact hw1.size
 rw[hW2,hW3,hW4,hB3];clear hW2 hW3 hW4 hown1 hgrow1 hw1 hB3 z2 z3 hz0 hz1 hz2 hi;refine wpIn_rangeFunc_ownF (n:=3) rfl (by omega) (gf:= 263) (lb:=#[ao (some ⟨B3+1,0,none⟩),ao (some ⟨B3+1+1,0,none⟩)]) rfl trivial (enters_of func263 (by kernel_rfl) rfl)
  (Co 2 (by omega) (B3+1) (B3+1+1) b off len cap m a HA.out hm1 HM2.out (by omega) HN.out W4 (by omega) (by omega) HBS.out.cell HBN.out.cell) iW (nj (by rintro k (rfl | rfl)<;>omega)) (aF _ _) (fun _=>rfl)
  (fun pre W=>(∃v,Boxed W B3 109 v/\W.ownsRow w'.heap.size 205 48 v (pre.map fun x:Fin m=>an (bM bs x.1)).length (pre.map fun x:Fin m=>an (bM bs x.1)).flatten/\Boxed W (B3+1) 76 (ag a len cap)/\Boxed W (B3+1+1) 3 (ab af 48))/\ah w'.heap.size w' W)
  (fun _ _ _=>False)
  ?hI (fun _ _ _ _ _ h _ _=>h.elim) ?h0 ?a1 ?assign ?body ?done ?stop
 case hI=>
  intro s W W' row ⟨⟨v,hv,ho,h1,h2⟩,hB⟩ hg hrow;have hr':∀r,row=some r->∃o:Obj,W.heap[r]? =some o/\o.isCells=false:=fun r e=>(hrow r e).2;exact⟨⟨v,boxed_own _ _ (fun _:Unit=>_) () W W' row hv hg hr',qK _ _ _ _ (fun _:Unit=>_) (fun _=>_) () W W' row ho hg hr',boxed_own _ _ (fun _:Unit=>_) () W W' row h1 hg hr',boxed_own _ _ (fun _:Unit=>_) () W W' row h2 hg hr'⟩,ownFrom_below (β:=Unit) (aJ _) (by have:=HZ3.out;omega) () W W' row hB hg hrow⟩
 case h0=>exact⟨⟨_,HBX.out,HRW.out,HBS.out,HBN.out⟩,HB4.out⟩
 case assign=>
  intro l x W K hK
  dsimp only[oU]
  gi_wp2
  exact hK
 case body=>
  rintro l pre x W ⟨⟨v,hv,ho,hbs,hbn⟩,hB⟩ hlen;have hx:=x.2;obtain⟨k,hk⟩:=w9nm x.1;obtain⟨K,hK⟩:=w9nm (48*k);obtain⟨H,hH⟩:=w9nm (min 48 (len - K));rw[hk]at hx ⊢;rw[hK,hH];have hlt:K<len:=by have:=HN.out;omega
  have hcl:((bs.drop K).take H).length=H:=by rw[fd,dx,HL.out];omega
  have HSP:∀y,w9b w' y->Sl aq y (ag (some ⟨b,off+K,none⟩) H H) ((bs.drop K).take H):=fun y hy=>by
   obtain⟨h1,h2⟩:=HC.out (by omega);have:=Sl.at (k:=aq) (w:=y) (b:=b) (off:=off+K) (cap:=H) (bs:=(bs.drop K).take H) (by omega) (by unfold aS;omega) (aU h1 hy.size) (fun j hj=>by
    rw[hcl]at hj;rw[hy.cell (p:=⟨b,off+K+j,none⟩) h1,l9 _ _ _ hj,l6,Nat.add_assoc];exact h2 (K+j) (by omega))
   rwa [hcl]at this
  obtain⟨x1,hx1⟩:=w9nm (W.alloc (ap dR.toArray 205));have k1:x1.heap[W.heap.size]? =some (ap dR.toArray 205 (0,0)):=by rw[←hx1];exact bR W _
  have b1:ah W.heap.size W x1:=by rw[←hx1];exact(aF _ _).alloc (aJ _) _
  have t1:x1.there W.heap.size 0 H:=fy k1 0 _ (by rw[oE];omega);have rc0:=jP (w:=x1) (B:=W.heap.size) (o:=0) (dLen:=48) (dCap:=48) 3 (HSP _ (hB.trans (b1.mono hB.size))) (by rw[hcl];omega) (by rw[hcl];exact t1);obtain⟨x2,hx2⟩:=w9nm (x1.setCells W.heap.size 0 (an ((bs.drop K).take H)));rw[hx2,hcl]at rc0;have RC0:=ae rc0;have hp:an (bM bs k)=an ((bs.drop K).take H)++an (bK (48 - H) 0):=by
   have e1:(bs.drop K).take 48=(bs.drop K).take H:=by
    by_cases h:K+48<=len
    ·rw[show H=48 by omega]
    ·rw[ey (by rw[dx,HL.out];omega),ey (by rw[dx,HL.out];omega)]
   unfold bM;rw[hK,e1,hcl];simp[an]
  have ra2:x2.rangeAt W.heap.size 0 (an (bM bs k)):=by
   rw[hp];refine kp ?_ ?_
   ·rw[←hx2];exact gE x1 _ 0 _ (by rw[bi,hcl];exact t1)
   ·rw[bi,hcl,←hx2];refine iM (w:=x1) (fun j x hx=> ?_) _ 0 _ (aC (aC (by rw[bi,hcl];omega)));refine(cl x1 _ _ _ _ _ k1).trans ?_;have hj:j<48 - H:=by have:=(dp.1 hx).1;simpa [an]using this
    rw[←hx,List.getElem?_toArray];unfold dR an;rw[du,du,jL,jL,if_pos (by omega),if_pos hj]
  have b2:ah W.heap.size W x2:=by rw[←hx2];exact b1.trans ((fi (aJ W.heap.size) _ _ x1).mono (aJ _))
  have hpl:(an (bM bs k)).length=48:=by rw[bi,gH]
  have L20:=ae (iH ra2 hpl);obtain⟨x3,hx3⟩:=w9nm (x2.alloc (ap (an (bM bs k)).toArray 205));have SB0:Hid ((cO 109 1 #[(0,al (an (bM bs k)).toArray)]).run aj x2=.ok (ag (some ⟨x2.heap.size,0,none⟩) 1 1) x3):=by rw[←hx3];exact kM x2 _ hpl
  have b3:ah W.heap.size W x3:=by rw[←hx3];exact b2.alloc b2.size _
  have B3':w9b w' x3:=hB.trans (b3.mono hB.size);have O3:=gI ho b3;obtain⟨v4,x4,r4,o4,g4, -⟩:=oI w'.heap.size x3 v (pre.map fun x:Fin m=>an (bM bs x.1)) (an (bM bs k)) x2.heap.size O3 hpl (iO _) (dJ (t:= 205) (by rw[←hx3];exact bR x2 _)) (by rw[fZ];omega) B3'.size;obtain⟨ra4,n4,p4,hv4⟩:=lE o4;subst hv4;have R4:=ae r4;have hv3:Boxed x3 B3 109 v:=hv.kept (fS b3 none) (by simp);have hs3:Boxed x3 (B3+1) 76 (ag a len cap):=hbs.kept (fS b3 none) (by simp);have hn3:Boxed x3 (B3+1+1) 3 (ab af 48):=hbn.kept (fS b3 none) (by simp);have hv4:Boxed x4 B3 109 v:=hv3.kept g4 (hv3.not_row (by decide) O3);have hs4:Boxed x4 (B3+1) 76 (ag a len cap):=hs3.kept g4 (hs3.not_row (by decide) O3);have hn4:Boxed x4 (B3+1+1) 3 (ab af 48):=hn3.kept g4 (hn3.not_row (by decide) O3);have hv5:=hv4.set (ag ra4 n4 p4);have hs5:Boxed (x4.setCell ⟨B3,0,none⟩ (ag ra4 n4 p4)) (B3+1) 76 (ag a len cap):=hs4.other (by omega) _;have hn5:Boxed (x4.setCell ⟨B3,0,none⟩ (ag ra4 n4 p4)) (B3+1+1) 3 (ab af 48):=hn4.other (by omega) _;have o5:(x4.setCell ⟨B3,0,none⟩ (ag ra4 n4 p4)).ownsRow w'.heap.size 205 48 (ag ra4 n4 p4) ((pre++ [x]).map fun x:Fin m=>an (bM bs x.1)).length ((pre++ [x]).map fun x:Fin m=>an (bM bs x.1)).flatten:=by
   have:=o4.kept (grownBy_setCell' x4 B3 (ag ra4 n4 p4)) (aC (fun e=>hv4.not_row (by decide) o4 e.symm));rw[fp,List.map_cons,List.map_nil,hk];exact this
  have POST:Hid (ownPostK (dH fun k=>k=B3+1\/k=B3+1+1) (fun pre W=>(∃v,Boxed W B3 109 v/\W.ownsRow w'.heap.size 205 48 v (pre.map fun x:Fin m=>an (bM bs x.1)).length (pre.map fun x:Fin m=>an (bM bs x.1)).flatten/\Boxed W (B3+1) 76 (ag a len cap)/\Boxed W (B3+1+1) 3 (ab af 48))/\ah w'.heap.size w' W) (fun(_:Code) (_:List (Fin m)) (_:ak)=>False) (pre++ [x]) W .normal {tmps:=#[],defers:= []} (x4.setCell ⟨B3,0,none⟩ (ag ra4 n4 p4))):=by
   refine⟨((KeepsOthers.of_grownBy (fS b3 none) (fun j o e=>by cases e)).trans (KeepsOthers.of_grownBy g4 (fun j o hj hoj=>rH O3 hj hoj))).trans (iC _ _ _),⟨?_, ?_⟩,⟨_,hv5,o5,hs5,hn5⟩,(B3'.grown g4 B3'.size (fun j e=>(O3.lt j e).1)).setCell (p:=⟨B3,0,none⟩) HZ3.out _⟩
   ·exact aZ b3.size (aZ g4.size (grownBy_setCell' x4 B3 (ag ra4 n4 p4)).size)
   ·rintro k (rfl | rfl)
    ·exact hs5.trans hbs.symm
    ·exact hn5.trans hbn.symm
  have c2:x2.cell? ⟨B3,0,none⟩=some v:=(b2.cell (p:=⟨B3,0,none⟩) hv.lt).trans hv.cell;have c4:=hv4.cell;have f4:=hv4.frozen;clear hs5 hn5 hv5 o5 hv4 hs4 hn4 hv3 hs3 hn3 r4 o4 g4 O3 B3' b3 b2 b1 hpl ra2 hp rc0 t1 k1 HSP hcl hv ho hbs hbn hB hx3 hx2 hH hK;have RC:=RC0.out;gi_step
  gi_step
  gi_step
  refine oV (vD (lZ nZ)) (by kernel_rfl) ?_;go_wp2_with fail;gi_step
  refine oV (vD (lZ nZ)) (by kernel_rfl) ?_;go_wp2_with fail;clear RC;refine oV (lZ nZ) (by kernel_rfl) ?_;go_wp2_with fail;rw[L20.out];clear c2;go_wp2_with (first | ((with_reducible refine gG ?_);refine dq _ _ _ rfl rfl [(0,al (an (bM bs k)).toArray)] _ rfl SB0.out ?_) | (at_builtin;refine wpList_append_run (.tmp 16) (.tmp 18) 109 rfl rfl _ _ _ rfl rfl R4.out ?_));exact POST.out
 case done=>
  rintro D xs W hD rfl ⟨⟨v,hv,ho,hbs,hbn⟩,hB⟩ hK;have c2:=hv.cell;have hrw:W.ownsRow w'.heap.size 205 48 v m (rows bs m).flatten:=by
   have e:(ik m).map (fun x:Fin m=>an (bM bs x.1))=rows bs m:=by
    unfold rows;apply List.ext_getElem
    ·simp
    ·intro i h1 h2;simp
   rw[e,oJ]at ho;exact ho
  gi_wp2
  refine⟨by simp,aA ⟨_,_,rfl,iD hK, ?_⟩⟩;refine⟨_,results_tmp rfl _ _ _,_,rfl,ownsRow_putObj hrw _ hK rfl,hB.trans (belowK_b (w:=w') (aJ _) W D _ _ (by have:=HB4.out.size;omega) hK rfl rfl)⟩
 case stop=>
  rintro D c pre W _ _ h _;exact h.elim
end
section
theorem ib (x:ak) {C:List am} (hC:bx C):∃y,(aL 51 ⟨x.heap.size,0,none⟩ (al C.toArray)).run aj (x.alloc (ap cx 51))=.ok () y/\aB y x.heap.size 51 C/\ah x.heap.size x y:=
 ⟨_,gT dj hC,aB.new x _ C,aR x _⟩
theorem nk (x:ak) (p:Sct) (hp:p.body.length=48):∃y,(aL 304 ⟨x.heap.size,0,none⟩ (al p.cells.toArray)).run aj (x.alloc (ap cm.toArray 304))=.ok () y/\aB y x.heap.size 304 p.cells/\ah x.heap.size x y:=
 ⟨_,oN kN (Sct.cells_length hp) (Sct.cells_one p),aB.new x _ _,aR x _⟩
theorem Cq {w:ak} {c:Array am} {c':List am} (h:c.size=51) (h':c'.length=51) (h1:∀v ∈ c',v.oneCell'=true):(aL 254 ⟨w.heap.size,0,none⟩ (al c'.toArray)).run aj (w.alloc (ap c 254))=.ok () (w.alloc (ap c'.toArray 254)):=
 iU w _ c c'.toArray (by simpa [h']using oh) (by simpa [h']using h) (gD h1)
theorem nl (x:ak) (p:Sct) (hp:p.body.length=48):∃y,(aL 254 ⟨x.heap.size,0,none⟩ (al p.cells.toArray)).run aj (x.alloc (ap cm.toArray 254))=.ok () y/\aB y x.heap.size 254 p.cells/\ah x.heap.size x y:=
 ⟨_,Cq kN (Sct.cells_length hp) (Sct.cells_one p),aB.new x _ _,aR x _⟩
theorem aB.blk {x:ak} {B:Nat} {C:List am} {t:aV} (h:aB x B t C) (hC:C.length=64):(aE 51 ⟨B,0,none⟩).run aj x=.ok (al C.toArray) x:=dd h.range hC
theorem aB.pg {x:ak} {B:Nat} {p:Sct} {t:aV} (h:aB x B t p.cells) (hp:p.body.length=48):(aE 304 ⟨B,0,none⟩).run aj x=.ok (al p.cells.toArray) x:=mp h.range (Sct.cells_length hp)
theorem aB.sec {x:ak} {B:Nat} {p:Sct} {t:aV} (h:aB x B t p.cells) (hp:p.body.length=48):(aE 254 ⟨B,0,none⟩).run aj x=.ok (al p.cells.toArray) x:=lr h.range (Sct.cells_length hp)
theorem aB.bod {x:ak} {B:Nat} {p:Sct} {t:aV} (h:aB x B t p.cells) (hp:p.body.length=48):(aE 205 ⟨B,3,none⟩).run aj x=.ok (al (an p.body).toArray) x:=
 iH (jO (a:= [ab aq p.mark,ab aD p.seq,ab af p.index]) (b:=an p.body) h) (by rw[bi,hp])
theorem oY (l:List am) (k:Nat) (A:Array am):l.zipIdx.foldl (fun cs (x:am×Nat)=>cs.setIfInBounds (k+x.2) x.1) A=(l.zipIdx k).foldl (fun cs (x:am×Nat)=>cs.setIfInBounds (0+x.2) x.1) A:=by
 rw[List.zipIdx_eq_map_add (l:=l) (i:=k),List.foldl_map]
 congr 1
 funext cs x
 obtain⟨a,j⟩:=x;show cs.setIfInBounds (k+j) a=cs.setIfInBounds (0+(k+j)) a;rw[dC]
def kO:Nat->Option (Nat×Nat):=fun i=>(#[(0,1),(1,1),(2,1),(3,48)]:Array (Nat×Nat))[i]?
theorem vE (m s i:Int) (c:List am) (hc:c.length=48) (w:ak):
  (cY 254 #[(0,ab aq m),(1,ab aD s),(2,ab af i),(3,al c.toArray)]).run aj w=.ok (al (Value.int aq m:: ab aD s:: ab af i::c).toArray) w:=by
 refine run_build w _ _ _ ?_;have e:fe kO cm.toArray [(0,ab aq m),(1,ab aD s),(2,ab af i),(3,al c.toArray)]=some (Value.int aq m:: ab aD s:: ab af i::c).toArray:=by
  have h3:fe kO cm.toArray [(0,ab aq m),(1,ab aD s),(2,ab af i),(3,al c.toArray)]=fe kO (((cm.set 0 (ab aq m)).set 1 (ab aD s)).set 2 (ab af i)).toArray [(3,al c.toArray)]:=rfl;have hz:(((cm.set 0 (ab aq m)).set 1 (ab aD s)).set 2 (ab af i)).toArray.size=51:=by simp[cm,an]
  rw[h3];have p3:kO 3=some (3,48):=rfl;simp only[fe,p3,Value.cells];refine(if_neg ?_).trans ?_
  ·intro h;rcases Bool.or_eq_true_iff.1 h with h | h
   ·exact(of_decide_eq_true h) (by simpa using hc)
   ·have h':3+c.toArray.size>(((cm.set 0 (ab aq m)).set 1 (ab aD s)).set 2 (ab af i)).toArray.size:=of_decide_eq_true h;rw[hz,dU,hc]at h';omega
  congr 1
  rw[←Array.foldl_toList,Array.toList_zipIdx,oY];apply Array.ext_getElem?;intro j;rw[mT c 3 _ j (by rw[hz,hc];omega)]
  match j with
  | 0=>rfl
  | 1=>rfl
  | 2=>rfl
  | j+3=>
   by_cases hj:j<48
   ·rw[if_pos (by omega)];simp
   ·rw[if_neg (by omega),Array.getElem?_eq_none (by omega)];simp;omega
 exact e
theorem rI (t:aV) (h:t≠ 51 /\t≠ 304 /\t≠ 205 /\t≠ 254) (a:aN):aE t a=(do if←isAgg t then pure (al (←loadCells a (←sizeOf t)))else load a):=rfl
theorem rJ (t:aV) (h:t≠ 51 /\t≠ 304 /\t≠ 254) (a:aN) (v:am):aL t a v=(do
  if v.cells.size≠(←sizeOf t)then stuck "storeVar: the value has not the size of the variable"
  storeCells a v.cells.toList):=rfl
theorem vF {p:Sct} (hp:p.Ok):bx p.code:=by
 unfold Sct.code;split
 ·exact dr (Sct.bytes_length hp)
 ·exact fv 0
theorem nn {bs:List Int} (hb:aP bs) (hl:bs.length=64):(cN bs).Ok:=by
 unfold cN;split
 ·exact jg hb hl
 ·exact⟨by decide,by decide,by simp[kH],fun j=>by
   show 0<=((bK 48 (0:Int))[j]?).getD 0/\((bK 48 (0:Int))[j]?).getD 0<256;rw[jL];split<;>decide⟩
def eh:List am:=ab af 0::dR
theorem nr:eh.toArray.size=49:=by simp[eh,dR,an]
def bI (l:List Img):List (List am):=l.map Img.cells
theorem jF (l:List Img):(bI l).length=l.length:=by simp[bI]
theorem iR (w:ak):(cY 205 #[]).run aj w=.ok (al dR.toArray) w:=by kernel_rfl
def oZ:Nat->Option (Nat×Nat):=fun i=>(#[(0,1),(1,48)]:Array (Nat×Nat))[i]?
theorem vG (i:Int) (c:List am) (hc:c.length=48):fe oZ eh.toArray [(0,ab af i),(1,al c.toArray)]=some (Value.int af i::c).toArray:=by
 have h3:fe oZ eh.toArray [(0,ab af i),(1,al c.toArray)]=fe oZ (eh.set 0 (ab af i)).toArray [(1,al c.toArray)]:=rfl;have hz:(eh.set 0 (ab af i)).toArray.size=49:=by simp[eh,dR,an]
 rw[h3];have p3:oZ 1=some (1,48):=rfl;simp only[fe,p3,Value.cells];refine(if_neg ?_).trans ?_
 ·intro h;rcases Bool.or_eq_true_iff.1 h with h | h
  ·exact(of_decide_eq_true h) (by simpa using hc)
  ·have h':1+c.toArray.size>(eh.set 0 (ab af i)).toArray.size:=of_decide_eq_true h;rw[hz,dU,hc]at h';omega
 congr 1
 rw[←Array.foldl_toList,Array.toList_zipIdx,oY];apply Array.ext_getElem?;intro j;rw[mT c 1 _ j (by rw[hz,hc];omega)]
 match j with
 | 0=>rfl
 | j+1=>
  by_cases hj:j<48
  ·rw[if_pos (by omega)];simp
  ·rw[if_neg (by omega),Array.getElem?_eq_none (by omega)];simp;omega
theorem vH:(aj.info? 232).map (·.size)=some 49:=by kernel_rfl
theorem vI:(aj.info? 232).map (fun i=>(i.zero,i.size,i.bytes))=some (some (al eh.toArray),49,56):=by kernel_rfl
theorem kv (w:ak):(zeroValue 232).run aj w=.ok (al eh.toArray) w:=by kernel_rfl
set_option maxRecDepth 100000 in
theorem Cr {w:ak} {b o:Nat} {c:List am} (hc:w.rangeAt b o c) (h:c.length=49):(aE 232 ⟨b,o,none⟩).run aj w=.ok (al c.toArray) w:=
 iL w b o _ c _ hc Tryz.underlying232 rfl (by rw[h];exact vH)
theorem Cs {w:ak} {c:Array am} {c':List am} (h:c.size=49) (h':c'.length=49) (h1:∀v ∈ c',v.oneCell'=true):(aL 232 ⟨w.heap.size,0,none⟩ (al c'.toArray)).run aj (w.alloc (ap c 232))=.ok () (w.alloc (ap c'.toArray 232)):=
 iU w _ c c'.toArray (by simpa [h']using vH) (by simpa [h']using h) (gD h1)
theorem vJ (i:Int) (c:List am) (hc:c.length=48) (w:ak):
  (cY 232 #[(0,ab af i),(1,al c.toArray)]).run aj w=.ok (al (Value.int af i::c).toArray) w:=
 run_build w _ _ _ (vG i c hc)
theorem vK (w:ak) (b:List am) (h:b.length=49):(cO 231 1 #[(0,al b.toArray)]).run aj w=.ok (ag (some ⟨w.heap.size,0,none⟩) 1 1) (w.alloc (ap b.toArray 232)):=by
 have e:(b.zipIdx.foldl (fun cs (x:am×Nat)=>cs.setIfInBounds (0+x.2) x.1) ((Array.range 49).map (eh.toArray[·%eh.toArray.size]!)))=b.toArray:=mU b _ (by simp[h]);have e2:b.toArray.zipIdx.foldl (fun cs (x:am×Nat)=>cs.setIfInBounds (0+x.2) x.1) ((Array.range 49).map (eh.toArray[·%eh.toArray.size]!))=b.toArray:=by
  rw[←Array.foldl_toList,Array.toList_zipIdx];exact e
 obtain⟨i0,hi,hz0,hz1,hz2⟩:=eJ vI;refine run_buildSlice (P:=aj) w 231 232 1 _ b.toArray i0 (al eh.toArray) (by kernel_rfl) hi hz0 (by rw[hz1];decide) (by rw[hz1];decide) ?_;rw[hz1];show fe _ _ [(0,Value.agg b.toArray)]=_;simp only[fe];rw[if_neg (by simp[Value.cells,h])]
 congr 1
set_option maxRecDepth 100000 in
theorem vL (N:Nat) (w:ak) (v:am) (vs:List (List am)) (b:List am) (B:Nat) (hown:w.ownsRow N 232 49 v vs.length vs.flatten) (hb:b.length=49) (h1:∀u ∈ b,u.oneCell'=true) (hB:w.rangeAt B 0 b) (hlen:vs.length<=1000000) (hN:N<=w.heap.size):
  ∃v' w',(Builtin.append_ #[231, 231] 231 #[v,ag (some ⟨B,0,none⟩) 1 1]).run aj w=.ok v' w'/\w'.ownsRow N 232 49 v' (vs++ [b]).length (vs++ [b]).flatten/\w.grownBy w' v.ownBlock/\(v'.ownBlock=v.ownBlock\/v'.ownBlock=some w.heap.size):=by
 obtain⟨i0,hi,hz0,hz1,hz2⟩:=eJ vI;obtain⟨v',w',hr,h1,h2,_,h3⟩:=run_append_own_at (P:=aj) w N 231 231 232 i0 (al eh.toArray) 49 56 Tryz.underlying231 hi hz0 hz1 hz2 nr (by omega) v vs.length vs.flatten hown
  ⟨B,0,none⟩ 1 1 b (by rw[hb]) (fun j u hj=>by have:=hB j u hj;rwa [Addr.add_mid]) h1 (by unfold aS;omega) (by omega) hN
 exact⟨v',w',hr,by simpa using h1,h2,h3⟩
theorem vM:(aj.info? 226).map (·.size)=some 49:=by kernel_rfl
theorem pd:(aj.info? 226).map (fun i=>(i.zero,i.size,i.bytes))=some (some (al eh.toArray),49,56):=by kernel_rfl
theorem ek (w:ak):(zeroValue 226).run aj w=.ok (al eh.toArray) w:=by kernel_rfl
set_option maxRecDepth 100000 in
theorem vN {w:ak} {b o:Nat} {c:List am} (hc:w.rangeAt b o c) (h:c.length=49):(aE 226 ⟨b,o,none⟩).run aj w=.ok (al c.toArray) w:=
 iL w b o _ c _ hc Tryz.underlying226 rfl (by rw[h];exact vM)
theorem Ct {w:ak} {c:Array am} {c':List am} (h:c.size=49) (h':c'.length=49) (h1:∀v ∈ c',v.oneCell'=true):(aL 226 ⟨w.heap.size,0,none⟩ (al c'.toArray)).run aj (w.alloc (ap c 226))=.ok () (w.alloc (ap c'.toArray 226)):=
 iU w _ c c'.toArray (by simpa [h']using vM) (by simpa [h']using h) (gD h1)
theorem vO (i:Int) (c:List am) (hc:c.length=48) (w:ak):
  (cY 226 #[(0,ab af i),(1,al c.toArray)]).run aj w=.ok (al (Value.int af i::c).toArray) w:=
 run_build w _ _ _ (vG i c hc)
theorem vP (w:ak) (b:List am) (h:b.length=49):(cO 223 1 #[(0,al b.toArray)]).run aj w=.ok (ag (some ⟨w.heap.size,0,none⟩) 1 1) (w.alloc (ap b.toArray 226)):=by
 have e:(b.zipIdx.foldl (fun cs (x:am×Nat)=>cs.setIfInBounds (0+x.2) x.1) ((Array.range 49).map (eh.toArray[·%eh.toArray.size]!)))=b.toArray:=mU b _ (by simp[h]);have e2:b.toArray.zipIdx.foldl (fun cs (x:am×Nat)=>cs.setIfInBounds (0+x.2) x.1) ((Array.range 49).map (eh.toArray[·%eh.toArray.size]!))=b.toArray:=by
  rw[←Array.foldl_toList,Array.toList_zipIdx];exact e
 obtain⟨i0,hi,hz0,hz1,hz2⟩:=eJ pd;refine run_buildSlice (P:=aj) w 223 226 1 _ b.toArray i0 (al eh.toArray) (by kernel_rfl) hi hz0 (by rw[hz1];decide) (by rw[hz1];decide) ?_;rw[hz1];show fe _ _ [(0,Value.agg b.toArray)]=_;simp only[fe];rw[if_neg (by simp[Value.cells,h])]
 congr 1
set_option maxRecDepth 100000 in
theorem vQ (N:Nat) (w:ak) (v:am) (vs:List (List am)) (b:List am) (B:Nat) (hown:w.ownsRow N 226 49 v vs.length vs.flatten) (hb:b.length=49) (h1:∀u ∈ b,u.oneCell'=true) (hB:w.rangeAt B 0 b) (hlen:vs.length<=1000000) (hN:N<=w.heap.size):
  ∃v' w',(Builtin.append_ #[223, 223] 223 #[v,ag (some ⟨B,0,none⟩) 1 1]).run aj w=.ok v' w'/\w'.ownsRow N 226 49 v' (vs++ [b]).length (vs++ [b]).flatten/\w.grownBy w' v.ownBlock/\(v'.ownBlock=v.ownBlock\/v'.ownBlock=some w.heap.size):=by
 obtain⟨i0,hi,hz0,hz1,hz2⟩:=eJ pd;obtain⟨v',w',hr,h1,h2,_,h3⟩:=run_append_own_at (P:=aj) w N 223 223 226 i0 (al eh.toArray) 49 56 Tryz.underlying223 hi hz0 hz1 hz2 nr (by omega) v vs.length vs.flatten hown
  ⟨B,0,none⟩ 1 1 b (by rw[hb]) (fun j u hj=>by have:=hB j u hj;rwa [Addr.add_mid]) h1 (by unfold aS;omega) (by omega) hN
 exact⟨v',w',hr,by simpa using h1,h2,h3⟩
end
section
attribute [-simp] isAgg51 zeroValue51
attribute [-go_sem] aE aL
attribute [local go_sem] bC bD dZ dQ
def jV (w:ak) (D:Nat->Sec) (k:Nat) (v:am) (W:ak):Prop:=W.ownsRow w.heap.size 3 1 v (bF D k).length (ly (bF D k))/\ah w.heap.size w W/\(bF D k= []->v=ag none 0 0)
set_option maxRecDepth 100000 in
theorem Cu (rq n:Nat) (f:Nat->Prop) (D:Nat->Sec) (w:ak) (h:fT w rq n f D):
  az aj 225 #[ao (some ⟨rq,0,none⟩)] w fun e w'=>∃v,e=ar v/\w'.ownsRow w.heap.size 3 1 v (bF D n).length (ly (bF D n))/\ah w.heap.size w w'/\(bF D n= []->v=ag none 0 0):=by
 obtain⟨i0,hi,hz0,hz1,hz2⟩:=eJ AB;obtain⟨ss,vb,sv,h,rfl⟩:=h;have HM:Hid (n<=4096):=h.max;have HH:=ae h;have HI:Hid (∃i:TypeInfo,aj.info? 3 =some i/\i.zero=some (ab af 0)/\i.size=1/\i.bytes=8):=⟨i0,hi,hz0,hz1,hz2⟩;clear h hi hz0 hz1 hz2;go_enter func225,ntmps225;go_wp2;go_loopw [3,4] (fun v i wr=>∃k:Nat,k<=n/\i=ab af k/\jV w D k v wr) (fun _ i _=>n - (aW i).toNat)
 case atStart=>exact⟨0,bq _,rfl,ft _ _ _ _,aF _ _,fun _=>rfl⟩
 case round=>
  obtain⟨k,hk,rfl,hR,hB,hN⟩:=hrel;by_cases hlt:k<n
  ·have hn:0<n:=by omega
   have hD:RefAt _ rq ss vb n sv D:=HH.out.kept fun q hq=>hB.block q (HH.out.lt hn hq);have c0:=cl _ _ 0 _ _ _ hD.head;have c1:=cl _ _ 1 _ _ _ hD.head;have c2:=hD.ver k hlt;obtain⟨a,cap,hf, -, -, -, -⟩:=qZ (hD.ok k hlt).2 (hD.row k hlt);rw[hf]at c2;simp only[List.getElem?_toArray,List.getElem?_cons_zero,kC]at c0 c1;have g1:(k:Int)< (n:Int):=by omega
   have HLT:=ae hlt;have HW:Hid (wrap64 ((k:Int)+1)=(k:Int)+1):=gj _ (by have:=HM.out;omega);obtain⟨m,hm⟩:=w9nm ((D k).vs.length);rw[hm]at c2;by_cases h0:0<m
   ·have hv0:(D k).vs≠ []:=fun e=>by rw[e]at hm;simp at hm;omega
    obtain⟨i0,hi,hz0,hz1,hz2⟩:=HI.out;have hle:=qU D k;have hb2:=HM.out;obtain⟨v',w1,hrun,ho,hg,_⟩:=run_append_own (P:=aj) (w:=wr.alloc (ap #[ab af (k:Int)] 3)) w.heap.size 41 41 3 i0 (ab af 0) 1 8 Tryz.underlying41 hi hz0 hz1 hz2 rfl (by decide) _ _ _ (hR.alloc _) ⟨wr.heap.size,0,none⟩ 1 1 [ab af (k:Int)] rfl (cell_one_new _ _ _) (by simp[Value.oneCell']) (by unfold aS;omega) (by omega) (by have:=hB.size;simp;omega);have HP:Hid (jV w D (k+1) v' w1):=by
     show jV _ _ _ _ _;unfold jV;rw[ou hv0];exact⟨by rw[AD,cX];exact ho,(hB.alloc hB.size _).grown hg (by have:=hB.size;simp;omega) (fun q hq=>(hR.lt q hq).1),fun e=>by simp at e⟩
    have HA:=ae hrun;clear hR hB hN hD hlt hk hv0 hm hf hn ho hg hrun hi hz0 hz1 hz2 hle hb2;go_wp2_with (at_builtin;refine wpList_append_run (.tmp 23) (.tmp 25) 41 rfl rfl _ _ _ rfl rfl HA.out ?_);exact⟨kk (C:=fun k=>jV w D k _ _) HW.out HLT.out HP.out,km HW.out HLT.out⟩
   ·obtain rfl:m=0:=by omega
    have hv0:(D k).vs= []:=je hm;have HP:Hid (jV w D (k+1) u3 wr):=by show jV _ _ _ _ _;unfold jV;rw[qT hv0];exact⟨hR,hB,hN⟩
    clear hR hB hN hD hlt hk hv0 hm h0 hf hn;go_wp2_with fail;exact⟨kk (C:=fun k=>jV w D k _ _) HW.out HLT.out HP.out,km HW.out HLT.out⟩
  ·obtain rfl:k=n:=by omega
   have HP:Hid (jV w D k u3 wr):=⟨hR,hB,hN⟩;have c0:wr.cell? ⟨rq,0,none⟩=some (ag (some ⟨ss,0,none⟩) k k):=by
    rw[cL (a:=⟨rq,0,none⟩) (hB.block rq (cj.1 HH.out.head).1),cl _ _ _ _ _ _ HH.out.head];rfl
   clear hR hB hN hk hlt;go_wp2_with fail;go_ret;exact⟨_,rfl,HP.out⟩
theorem Cv (D:Nat->Sec) (n:Nat):(bF D n).Nodup:=List.nodup_range.filter _
theorem Cw {D:Nat->Sec} {n k x:Nat} (h:(bF D n)[k]? =some x):x<n/\(D x).vs≠ []/\(bF D n).take k=bF D x/\(bF D x).length=k/\x ∉ bF D x/\(bF D n).take (k+1)=bF D x++ [x]:=by
 have hm:=dI h;have hx:=ow hm;have hv:=mY hm;have hp:bF D x++ [x]<+:bF D n:=by
  rw[←ou hv];have:=uD D (x+1) (n - (x+1))
  rwa [show x+1+(n - (x+1))=n by omega]at this
 obtain⟨t,ht⟩:=hp;have h2:(bF D n)[(bF D x).length]? =some x:=by rw[←ht];simp
 have hk:k=(bF D x).length:=(List.getElem?_inj (dp.1 h).1 (Cv D n)).1 (h.trans h2.symm);refine⟨hx,hv, ?_,hk.symm,m4 D x, ?_⟩
 ·rw[hk,←ht];simp
 ·rw[hk,←ht,List.take_append_of_le_length (by simp),ey (by simp)]
theorem Cx {w w1:ak} {l:List Nat} {v:am} (h:w1.ownsRow w.heap.size 3 1 v l.length (ly l)):∃a cap,v=ag a l.length cap/\∀(k x:Nat),l[k]? =some x->∃g,a=some ⟨g,0,none⟩/\w.heap.size<=g/\g<w1.heap.size/\w1.cell? ⟨g,k,none⟩=some (ab af (x:Int)):=by
 have hc:=h;rcases h.2 with⟨rfl,h0⟩ | ⟨g,cap,cur,rfl,h1,h2,_⟩
 ·exact⟨none,0,by rw[h0],fun k x hk=>by have:=(dp.1 hk).1;omega⟩
 ·refine⟨_,cap,rfl,fun k x hk=>⟨g,rfl,h1,(cj.1 h2).1, ?_⟩⟩;have:=hc.cells rfl k (ab af (x:Int)) (by simp[ly,hk])
  rwa [show(⟨g,0,none⟩:aN).add k=⟨g,k,none⟩ by simp[Addr.add];omega]at this
theorem vR (rq n:Nat) (f:Nat->Prop) (D:Nat->Sec) (v:am) (bs:List Int) (w:ak) (h:fT w rq n f D) (hn:0<n) (hv:Sl aq w v bs) (hB:aP bs) (hc:bs≠ []->ju f v) (hl:∀i,i<n->(D i).vs.length<=1000000):
  az aj 148 #[ao (some ⟨rq,0,none⟩),v] w fun e w'=>e=ar (aQ #[])/\∃f',fT w' rq n f' (cR D (ip D bs) (bF D n))/\Turn f f' w w':=by
 obtain⟨g,hg⟩:∃g:Nat->Nat,ip D bs=g:=⟨_,rfl⟩;rw[hg];have HLo:=ae (Cu rq n f D w h);obtain⟨ss,vb,sv0,h,rfl⟩:=h;obtain⟨ad,cap,rfl,hcap,hmaxc,hlies, -⟩:=hv;have HMX:Hid (n<=4096):=h.max;have HH:=ae h;have HG:=ae hg;have HC:=ae hc;have HLI:=ae hlies;have HBY:=ae hB;have HMC:=ae hmaxc;have HCAP:=ae hcap;obtain⟨L,hL⟩:=w9nm bs.length;have HL:=ae hL;rw[hL]at hcap ⊢;have HLV:=ae hl;clear h hg hc hlies hB hmaxc hcap hL hl;have hmx:=w9x
 go_enter func148,ntmps148;go_wp2_with fail;refine HLo.out.mono ?_;rintro e w1 ⟨lv,rfl,hrow,hb, -⟩;obtain⟨la,lcap,hlv,hlist⟩:=Cx hrow;have BL:=ae hb;have hR1:RefAt w1 rq ss vb n sv0 D:=HH.out.kept fun k hk=>hb.block k (HH.out.lt hn hk);have HP:Hid (jC w1 rq ss vb n (eX rq ss vb n sv0) (cR D g ((bF D n).take 0)) w1):=by rw[List.take_zero,qV];exact⟨sv0,hR1,Turn.refl _ _⟩
 have HLs:=ae hlist;obtain⟨M,hM⟩:=w9nm ((bF D n).length);rw[hM]at hlv;subst hlv;have HMl:=ae hM;have hMn:M<=n:=by rw[←hM];exact qU D n
 have HMn:=ae hMn;clear hrow hb hlist hR1 hM hMn;go_wp2;go_loopw [5] (fun i wr=>∃k:Nat,k<=M/\i=ab af k/\jC w1 rq ss vb n (eX rq ss vb n sv0) (cR D g ((bF D n).take k)) wr) (fun i _=>M - (aW i).toNat)
 case atStart=>exact⟨0,bq _,rfl,HP.out⟩
 case round=>
  obtain⟨k,hk,rfl,sv,hR,hT⟩:=hrel;by_cases hlt:k<M
  ·obtain⟨x,hx⟩:∃x,(bF D n)[k]? =some x:=⟨_,bJ (by rw[HMl.out];exact hlt)⟩;obtain⟨p1,p2,p3,p4,p5,p6⟩:=Cw hx;obtain⟨lg,rfl,q1,q2,q3⟩:=HLs.out k x hx;have hlcell:wr.cell? ⟨lg,k,none⟩=some (ab af (x:Int)):=(cL (a:=⟨lg,k,none⟩) (hT.out lg q2 (fun hf=>by have:=HH.out.lt hn hf;omega))).trans q3;have hDx:cR D g ((bF D n).take k) x=D x:=by rw[p3];exact ji p5
   obtain⟨m,hm⟩:=w9nm ((D x).vs.length);have hgx:g x=kt bs k m:=by rw[←HG.out,ip,p4,hm]
   have hgm:g x<=m:=by rw[hgx];exact uK _ _ _
   have key:∀y:aI wr,RefAt y.1 rq ss vb n sv (cR D g ((bF D n).take k)):=fun y=>hR.kept fun q hq=>y.2.block q (hR.lt hn hq);have hC0:∀y:aI wr,y.1.cell? ⟨rq,0,none⟩=some (ag (some ⟨ss,0,none⟩) n n):=fun y=>by rw[cl _ _ _ _ _ _ (key y).head];rfl
   have hC1:∀y:aI wr,y.1.cell? ⟨rq,1,none⟩=some (ag (some ⟨vb,0,none⟩) n n):=fun y=>by rw[cl _ _ _ _ _ _ (key y).head];rfl
   obtain⟨a,vcap,hf,hvc,hvm,hvn,hvs⟩:=qZ (hR.ok x p1).2 (hR.row x p1);rw[hDx]at hf hvc hvn hvs;have hC2:∀y:aI wr,y.1.cell? ⟨vb,x,none⟩=some (ag a m vcap):=fun y=>by rw[(key y).ver x p1,hf,hm]
   have hF2:∀y:aI wr,y.1.frozen? ⟨vb,x,none⟩=false:=fun y=>by have:=((key y).thereV x p1).2;rwa [dC]at this
   have HF0:Hid (g x=0->∀y:aI wr,jC w1 rq ss vb n (eX rq ss vb n sv0) (cR D g ((bF D n).take (k+1))) (y.1.setCell ⟨vb,x,none⟩ (ag none 0 0))):=by
    intro h0 y;obtain⟨z1,z2⟩:=hR.setV (v':=ag none 0 0) (vs':= []) p1 y.2 (by simp) (ft _ _ _ _);refine⟨_, ?_,hT.trans z2⟩;rw[p6,qW,←p3,h0];rw[hDx]at z1;exact z1
   have HF1:Hid (∀(r:Nat) (u:List am),g x=r+1->(D x).vs[r]? =some u->∀y:aI wr,∃y2,(aL 51 ⟨ss,x*64,none⟩ (al u.toArray)).run aj y.1=.ok () y2/\y2.cell? ⟨rq,1,none⟩=some (ag (some ⟨vb,0,none⟩) n n)/\(∃v,y2.cell? ⟨vb,x,none⟩=some v)/\y2.frozen? ⟨vb,x,none⟩=false/\jC w1 rq ss vb n (eX rq ss vb n sv0) (cR D g ((bF D n).take (k+1))) (y2.setCell ⟨vb,x,none⟩ (ag none 0 0))):=by
    intro r u h0 hu y;have hok:bx u:=by have:=(hR.ok x p1).2 u;rw[hDx]at this;exact this (dI hu)
    have hx:=key y;obtain⟨z1,z2⟩:=hR.setS p1 y.2 hok;refine⟨_,lk (fun j hj=> ?_) hok, ?_,⟨_,z1.ver x p1⟩, ?_, ?_⟩
    ·have:=hx.thereS (x*64+j) (by omega)
     rwa [dC]at this
    ·rw[cl _ _ _ _ _ _ z1.head];rfl
    ·have:=(z1.thereV x p1).2;rwa [dC]at this
    ·obtain⟨z3,z4⟩:=z1.setV (v':=ag none 0 0) (vs':= []) p1 (aF _ _) (by simp) (ft _ _ _ _);refine⟨_, ?_,(hT.trans z2).trans z4⟩;rw[p6,qW,←p3,h0];have e:(D x).settle (r+1)=⟨u, []⟩:=by simp[Sec.settle,hu]
     rw[e];rw[en]at z3;have e2:∀(E:Nat->Sec) (s t:Sec),dD (dD E x s) x t=dD E x t:=fun E s t=>by
      funext j
      by_cases ej:j=x
      ·subst ej;rw[en,en]
      ·rw[ef _ _ ej,ef _ _ ej,ef _ _ ej]
     rw[e2]at z3;exact z3
   have c1:=hC1 ⟨wr,aF _ _⟩;have c2:=hC2 ⟨wr,aF _ _⟩;have f2:=hF2 ⟨wr,aF _ _⟩;have g1:(x:Int)< (n:Int):=by omega
   have g2:(k:Int)< (M:Int):=by omega
   have HLT:=ae hlt;have HMm:Hid ((m:Int)<=1000000):=by have:=HLV.out x p1;show _<=_;omega
   have HW:Hid (wrap64 ((k:Int)+1)=(k:Int)+1):=gj _ (by have:=HMn.out;have:=HMX.out;omega);by_cases hKL:k<L
   ·obtain⟨b,off,rfl,hbw,hby⟩:∃b off,ad=some ⟨b,off,none⟩/\b<w.heap.size/\∀j,j<bs.length->w.cell? ⟨b,off+j,none⟩=some (ab aq (bs[j]?.getD 0)):=by
     rcases HLI.out with e | e
     ·have:=HL.out;rw[e]at this;simp at this;omega
     ·exact e
    obtain⟨y,hy⟩:=w9nm (bs[k]?.getD 0);obtain⟨y0,y1⟩:=HBY.out k;rw[hy]at y0 y1;have hbw1:=aU hbw BL.out.size;have hD3:∀z:aI wr,z.1.cell? ⟨b,off+k,none⟩=some (ab aq y):=fun z=>by
     rw[←hy,←hby k (by rw[HL.out];exact hKL)];exact cL (a:=⟨b,off+k,none⟩) ((z.2.block b (aU hbw1 hT.size)).trans ((hT.out b hbw1 (HC.out (fun e=>by have:=HL.out;rw[e]at this;simp at this;omega) b off _ _ rfl)).trans (BL.out.block b hbw)))
    obtain⟨q,hq⟩:=w9nm (g x);have hqy:q=y.toNat%(m+1):=by rw[←hq,hgx,kt,if_pos (by rw[HL.out];exact hKL),hy]
    have HQY:Hid (y%((m:Int)+1)=(q:Int)):=by
     show _=_;obtain⟨z,rfl⟩:=Int.eq_ofNat_of_zero_le y0;rw[hqy,gO,Int.natCast_emod,Int.natCast_add]
     rfl
    have g3:(k:Int)< (L:Int):=by omega
    have d3:=hD3 ⟨wr,aF _ _⟩;have hm1:=HMm.out;have k0:Hid (∃z:aI wr,wr.drew=z.1):=⟨⟨wr.drew,(aF _ wr).drew⟩,rfl⟩;cases q with
    | zero=>
     have HFin:=ae (HF0.out hq ⟨wr.drew,(aF _ wr).drew⟩);clear hR hT hk hlt hx p1 p2 p3 p4 p5 p6 q1 q2 q3 hDx hgx hgm key hf hvc hvm hvn hvs hm hKL hq hqy hby hbw hbw1 hy HF1 HF0;go_wp2_with fail;refine cM (fun z=>∃y:aI wr,z=y.1) 15 (.takes [0,1,2,3,4,5,6,7,8,9,10,11,12,13,14] .leaf) hmx (by kernel_rfl) (by intro c x v a w h;cases x<;>exact h) k0.out ?_;repeat(rw[bj];simp only[au,ay];go_big_quiet_step (fail);refine aO ?_)
     rw[bo,cu];simp only[be,bf];rw[HQY.out];clear hm1 y0 y1 HQY;go_wp2_with fail;exact⟨kk (C:=fun k=>jC w1 rq ss vb n (eX rq ss vb n sv0) (cR D g ((bF D n).take k)) _) HW.out HLT.out HFin.out,km HW.out HLT.out⟩
    | succ r=>
     have hrm:r<m:=by omega
     obtain⟨u,hu⟩:∃u,(D x).vs[r]? =some u:=⟨_,bJ (by rw[hm];exact hrm)⟩;have hok:bx u:=by have:=(hR.ok x p1).2 u;rw[hDx]at this;exact this (dI hu)
     obtain⟨gv,rfl,hvg⟩:∃gv,a=some ⟨gv,0,none⟩/\∀z:aI wr,(aE 51 ⟨gv,r*64,none⟩).run aj z.1=.ok (al u.toArray) z.1:=by
      cases a with
      | none=>have:=(hvn rfl).2;rw[this]at hu;simp at hu
      | some ad'=>
       obtain⟨gv,rfl,h1,h2,h3⟩:=hvs ad' rfl;exact⟨gv,rfl,fun z=>dd (da (h3 r u hu) (z.2.block gv h2)) hok.length⟩
     obtain⟨y2,s1,s2,⟨sv2,s3⟩,s4,s5⟩:=HF1.out r u hq hu ⟨wr.drew.drew,(aF _ wr).drew.drew⟩;have HFin:=ae s5;have HS1:=ae s1;have k1:Hid (∃z:aI wr,wr.drew.drew=z.1):=⟨⟨wr.drew.drew,(aF _ wr).drew.drew⟩,rfl⟩;have g4:decide ((0:Int)< (r:Int)+1)=true:=by simp
     have g5:(r:Int)< (m:Int):=by omega
     have hw2:wrap64 (r:Int)=(r:Int):=gj _ (by omega);clear hR hT hk hlt hx p1 p2 p3 p4 p5 p6 q1 q2 q3 hDx hgx hgm key hf hvc hvm hvn hvs hm hKL hq hqy hby hbw hbw1 hy HF1 HF0 hrm hu hok s5;go_wp2_with fail;refine cM (fun z=>∃y:aI wr,z=y.1) 15 (.takes [0,1,2,3,4,5,6,7,8,9,10,11,12,13,14] .leaf) hmx (by kernel_rfl) (by intro c x v a w h;cases x<;>exact h) k0.out ?_;repeat(rw[bj];simp only[au,ay];go_big_quiet_step (fail);refine aO ?_)
     rw[bo,cu];simp only[be,bf];rw[HQY.out];clear hm1 y0 y1 HQY;go_wp2_with fail;refine cM (fun z=>∃y:aI wr,z=y.1) 16 (.takes [0,1,2,3,4,5,6,7,8,9,10,11,12,13,14,15] .leaf) hmx (by kernel_rfl) (by intro c x v a w h;cases x<;>exact h) k1.out ?_;repeat(rw[bj];simp only[au,ay];go_big_quiet_step (fail);refine aO ?_)
     rw[bo,cu];simp only[be,bf];go_wp2_with fail;exact⟨kk (C:=fun k=>jC w1 rq ss vb n (eX rq ss vb n sv0) (cR D g ((bF D n).take k)) _) HW.out HLT.out HFin.out,km HW.out HLT.out⟩
   ·have hq0:g x=0:=by rw[hgx];unfold kt;rw[if_neg (by rw[HL.out];exact hKL)]
    have HFin:=ae (HF0.out hq0 ⟨wr,aF _ _⟩);have g3:¬((k:Int)< (L:Int)):=by omega
    clear hR hT hk hlt hx p1 p2 p3 p4 p5 p6 q1 q2 q3 hDx hgx hgm key hf hvc hvm hvn hvs hm hKL hq0 hC0 hC1 hC2 hF2;go_wp2_with fail;exact⟨kk (C:=fun k=>jC w1 rq ss vb n (eX rq ss vb n sv0) (cR D g ((bF D n).take k)) _) HW.out HLT.out HFin.out,km HW.out HLT.out⟩
  ·obtain rfl:k=M:=by omega
   have HE:Hid (∃f',fT wr rq n f' (cR D g (bF D n))/\Turn (eX rq ss vb n sv0) f' w wr):=by
    rw[ey (by rw[HMl.out];exact aJ _)]at hR;exact⟨_,⟨ss,vb,sv,hR,rfl⟩,(Turn.of_below BL.out).trans hT⟩
   clear hR hT hk hlt;go_wp2_with fail
   go_end0
   exact⟨rfl,HE.out⟩
end
section
attribute [-simp] isAgg51 zeroValue51
attribute [-go_sem] aE aL
attribute [local go_sem] bC bD dZ dQ
def rK (q n:Nat) (D:Nat->Sec):ea:=fun w f=>fT w q n f D/\0<n
theorem rK.isRes (q n:Nat) (D:Nat->Sec):IsRes (rK q n D) where
 out:=fun h hk=>⟨h.1.out hk,h.2⟩
 lt:=fun h=>h.1.lt h.2
 cells:=by
  rintro w f ⟨⟨ss,vb,sv,h,rfl⟩,hn⟩ k hk ob ho;rcases hk with rfl | rfl | rfl | ⟨i,hi,hk⟩
  ·rw[h.head]at ho;cases ho;rfl
  ·obtain⟨u,hu⟩:=Option.isSome_iff_exists.1 (h.thereS 0 (by omega)).1;obtain⟨o,h1,h2⟩:=cells_of_cell hu;rw[h1]at ho;cases ho;exact h2
  ·obtain⟨o,h1,h2⟩:=cells_of_cell (h.ver 0 hn);rw[h1]at ho;cases ho;exact h2
  ·exact qQ (h.row i hi) k ob hk ho
def RS.disks2 (q0 q1:Nat) (S:RS):ea:=cS (rK q0 S.n0 S.D0) (rK q1 S.n1 S.D1)
theorem RS.disks2_isRes (q0 q1:Nat) (S:RS):IsRes (S.disks2 q0 q1):=(rK.isRes _ _ _).sep (rK.isRes _ _ _)
def bG (rq q0 q1:Nat) (S:RS):ea:=cS (kL rq (S.head q0 q1) 129) (S.disks2 q0 q1)
theorem bG.isRes (rq q0 q1:Nat) (S:RS):IsRes (bG rq q0 q1 S):=(kL.isRes _ _ _).sep (S.disks2_isRes q0 q1)
section
variable {rq q0 q1:Nat} {S:RS} {w:ak} {f:Nat->Prop}
theorem bG.d0 (h:bG rq q0 q1 S w f):∃g,fT w q0 S.n0 g S.D0/\0<S.n0:=by
 obtain⟨f1,f2,_,⟨f3,f4,h1,h2,_⟩,_⟩:=h;exact⟨f3,h1⟩
theorem bG.d1 (h:bG rq q0 q1 S w f):∃g,fT w q1 S.n1 g S.D1/\0<S.n1:=by
 obtain⟨f1,f2,_,⟨f3,f4,h1,h2,_⟩,_⟩:=h;exact⟨f4,h2⟩
theorem bG.beside {w':ak} (h:bG rq q0 q1 S w f) (hb:w9b w w'):bG rq q0 q1 S w' f:=(bG.isRes rq q0 q1 S).below h hb
theorem bG.has (h:bG rq q0 q1 S w f) (dev i:Int):
  az aj 153 #[ao (some ⟨rq,0,none⟩),ab af dev,ab af i] w fun e w'=>e=ar (.bool (S.has dev i))/\w'=w:=by
 have c0:w.cell? ⟨rq,0,none⟩=some (ao (some ⟨q0,0,none⟩)):=h.cell 0;have c1:w.cell? ⟨rq,1,none⟩=some (ao (some ⟨q1,0,none⟩)):=h.cell 1;by_cases h0:dev=0
 ·subst h0;obtain⟨g,hd,_⟩:=h.d0;have H:=ae (uT q0 S.n0 g S.D0 i w hd);have HE:Hid (decide (0<=i/\i< (S.n0:Int))=S.has 0 i):=rfl;rw[HE.out]at H;clear h hd;go_enter func153,ntmps153;go_wp2_with fail;refine H.out.mono ?_;rintro e w' ⟨rfl,rfl⟩;go_wp2_with fail;go_ret;exact⟨rfl,rfl⟩
 ·by_cases h1:dev=1
  ·subst h1;obtain⟨g,hd,_⟩:=h.d1;have H:=ae (uT q1 S.n1 g S.D1 i w hd);have HE:Hid (decide (0<=i/\i< (S.n1:Int))=S.has 1 i):=rfl;rw[HE.out]at H;clear h hd h0;go_enter func153,ntmps153;go_wp2_with fail;refine H.out.mono ?_;rintro e w' ⟨rfl,rfl⟩;go_wp2_with fail;go_ret;exact⟨rfl,rfl⟩
  ·have HE:Hid (S.has dev i=false):=by
    show _=_;unfold RS.has RS.len;rw[if_neg h0,if_neg h1];simp
   by_cases h2:0<=dev
   ·have g1:decide (0<=dev)=true:=by simpa using h2
    have g2:decide (dev<=1)=false:=by simp;omega
    have g3:¬dev<=1:=by omega
    clear h0 h1 c0 c1;go_enter func153,ntmps153;go_wp2;go_ret;exact⟨by rw[HE.out];rfl,rfl⟩
   ·have g1:decide (0<=dev)=false:=by simpa using h2
    clear h0 h1 c0 c1;go_enter func153,ntmps153;go_wp2;go_ret;exact⟨by rw[HE.out];rfl,rfl⟩
theorem bG.through (h:bG rq q0 q1 S w f) (hS:S.Fit):
  az aj 154 #[ao (some ⟨rq,0,none⟩)] w fun e w'=>e=ar (.bool S.ok)/\∃f',bG rq q0 q1 S.after w' f'/\Turn f f' w w':=by
 have hR:=S.disks2_isRes q0 q1;have c2:w.cell? ⟨rq,2,none⟩=some (ab af S.fuse):=h.cell 2;have c3:w.cell? ⟨rq,3,none⟩=some (.bool S.down):=h.cell 3;have c4:w.cell? ⟨rq,4,none⟩=some (ab af S.done):=h.cell 4;have r2:=h.frozen 2;have r3:=h.frozen 3;have r4:=h.frozen 4;have HF:=ae hS.fuse;have HD:=hS.done;have H:=ae h;obtain⟨fu,hfu⟩:=w9nm S.fuse;obtain⟨dn,hdn⟩:=w9nm S.done;obtain⟨dw,hdw⟩:=w9nm S.down;have EF:=ae hfu;have ED:=ae hdn;have EW:=ae hdw;rw[hfu]at c2 HF;rw[hdn]at c4 HD;rw[hdw]at c3;clear h hS hfu hdn hdw;cases dw with
 | true=>
  have HE:Hid (S.ok=false):=by show _=_;simp[RS.ok,EW.out]
  have HA:Hid (S=S.after):=by show _=_;unfold RS.after;rw[if_neg (by rw[HE.out];simp)];cases S;simp at *;exact EW.out
  go_enter func154,ntmps154;go_wp2;go_ret;rw[HE.out,←HA.out];exact⟨rfl,f,H.out,Turn.refl _ _⟩
 | false=>
  by_cases h0:fu=0
  ·subst h0;have HE:Hid (S.ok=false):=by show _=_;simp[RS.ok,EF.out]
   have HA:Hid ({S with down:=true}=S.after):=by show _=_;unfold RS.after;rw[if_neg (by rw[HE.out];simp)]
   go_enter func154,ntmps154;go_wp2;go_ret;obtain⟨g1,g2⟩:=H.out.set hR 3 (.bool true);rw[HE.out,←HA.out];exact⟨rfl,f,g1,g2⟩
  ·have q0:(fu==0)=false:=by simpa using h0
   have HE:Hid (S.ok=true):=by show _=_;simp[RS.ok,EW.out,EF.out,h0]
   by_cases h1:0<fu
   ·have HA:Hid ({S with fuse:=fu - 1,done:=dn+1}=S.after):=by show _=_;unfold RS.after;rw[if_pos HE.out,EF.out,ED.out,if_pos h1]
    have HF1:=HF.out h1;have r2':(w.setCell ⟨rq,2,none⟩ (ab af (fu - 1))).frozen? ⟨rq,4,none⟩=false:=by rw[World.frozen?_setCell];exact r4
    clear HF;go_enter func154,ntmps154;go_wp2;go_ret;obtain⟨g1,g2⟩:=H.out.set hR 2 (ab af (fu - 1));obtain⟨g3,g4⟩:=g1.set hR 4 (ab af (dn+1));rw[HE.out,←HA.out];exact⟨rfl,f,g3,g2.trans g4⟩
   ·have HA:Hid ({S with done:=dn+1}=S.after):=by show _=_;unfold RS.after;rw[if_pos HE.out,EF.out,ED.out,if_neg h1]
    clear HF;go_enter func154,ntmps154;go_wp2;go_ret;obtain⟨g1,g2⟩:=H.out.set hR 4 (ab af (dn+1));rw[HE.out,←HA.out];exact⟨rfl,f,g1,g2⟩
theorem bG.putOf (h:bG rq q0 q1 S w f) {dev i:Int} {b:List am} (hi:S.has dev i=true) (hb:bx b) (hm:S.Few 255):
  az aj 155 #[ao (some ⟨jS q0 q1 dev.toNat,0,none⟩),ab af i,al b.toArray] w fun e w'=>e=ar (aQ #[])/\∃f',bG rq q0 q1 (S.put dev i.toNat b) w' f'/\Turn f f' w w':=by
 obtain⟨hd,k,rfl,hk⟩:=RS.has_lt hi;have hadd:∀s:Sec,s.vs.length<=255->(⟨s.c,s.vs++ [b]⟩:Sec)=s.add b:=fun s hs=>by unfold Sec.add;rw[if_neg (by omega)]
 rcases hd with rfl | rfl
 ·have hk':k<S.n0:=hk;refine cS.second (R:=fun e _=>e=ar (aQ #[])) (kL.isRes _ _ _) (S.disks2_isRes q0 q1) h (Q':=(S.put 0 k b).disks2 q0 q1) fun f2 h2=> ?_;refine cS.first (R:=fun e _=>e=ar (aQ #[])) (rK.isRes _ _ _) (rK.isRes _ _ _) h2 fun f3 h3=> ?_;refine(uV q0 S.n0 k f3 S.D0 b w h3.1 hk' hb (by have:=hm.1 k hk';omega)).mono ?_;rintro e w' ⟨rfl,f',g1,g2⟩;rw[hadd _ (hm.1 k hk')]at g1;exact⟨rfl,f',⟨g1,h3.2⟩,g2⟩
 ·have hk':k<S.n1:=hk;refine cS.second (R:=fun e _=>e=ar (aQ #[])) (kL.isRes _ _ _) (S.disks2_isRes q0 q1) h (Q':=(S.put 1 k b).disks2 q0 q1) fun f2 h2=> ?_;refine cS.second (R:=fun e _=>e=ar (aQ #[])) (rK.isRes _ _ _) (rK.isRes _ _ _) h2 fun f3 h3=> ?_;refine(uV q1 S.n1 k f3 S.D1 b w h3.1 hk' hb (by have:=hm.2 k hk';omega)).mono ?_;rintro e w' ⟨rfl,f',g1,g2⟩;rw[hadd _ (hm.2 k hk')]at g1;exact⟨rfl,f',⟨g1,h3.2⟩,g2⟩
theorem bG.flOf (h:bG rq q0 q1 S w f) {dev:Int} (hd:dev=0\/dev=1):
  az aj 265 #[ao (some ⟨jS q0 q1 dev.toNat,0,none⟩)] w fun e w'=>e=ar (aQ #[])/\∃f',bG rq q0 q1 (S.fl dev) w' f'/\Turn f f' w w':=by
 rcases hd with rfl | rfl
 ·refine cS.second (R:=fun e _=>e=ar (aQ #[])) (kL.isRes _ _ _) (S.disks2_isRes q0 q1) h (Q':=(S.fl 0).disks2 q0 q1) fun f2 h2=> ?_;refine cS.first (R:=fun e _=>e=ar (aQ #[])) (rK.isRes _ _ _) (rK.isRes _ _ _) h2 fun f3 h3=> ?_;refine(uY q0 S.n0 f3 S.D0 w h3.1).mono ?_;rintro e w' ⟨rfl,f',g1,g2⟩;exact⟨rfl,f',⟨g1,h3.2⟩,g2⟩
 ·refine cS.second (R:=fun e _=>e=ar (aQ #[])) (kL.isRes _ _ _) (S.disks2_isRes q0 q1) h (Q':=(S.fl 1).disks2 q0 q1) fun f2 h2=> ?_;refine cS.second (R:=fun e _=>e=ar (aQ #[])) (rK.isRes _ _ _) (rK.isRes _ _ _) h2 fun f3 h3=> ?_;refine(uY q1 S.n1 f3 S.D1 w h3.1).mono ?_;rintro e w' ⟨rfl,f',g1,g2⟩;exact⟨rfl,f',⟨g1,h3.2⟩,g2⟩
theorem bG.readOf (h:bG rq q0 q1 S w f) {dev i:Int} (hi:S.has dev i=true):
  az aj 73 #[ao (some ⟨jS q0 q1 dev.toNat,0,none⟩),ab af i] w fun e w'=>e=ar (al (S.look dev i.toNat).toArray)/\ah w.heap.size w w':=by
 obtain⟨hd,k,rfl,hk⟩:=RS.has_lt hi;rcases hd with rfl | rfl
 ·obtain⟨g,h1,_⟩:=h.d0;exact re q0 S.n0 k g S.D0 w h1 hk
 ·obtain⟨g,h1,_⟩:=h.d1;exact re q1 S.n1 k g S.D1 w h1 hk
theorem bG.okLook (h:bG rq q0 q1 S w f) {dev i:Int} (hi:S.has dev i=true):bx (S.look dev i.toNat):=by
 obtain⟨hd,k,rfl,hk⟩:=RS.has_lt hi;rcases hd with rfl | rfl
 ·obtain⟨g,⟨ss,vb,sv,h1,rfl⟩,_⟩:=h.d0;exact(h1.ok k hk).look
 ·obtain⟨g,⟨ss,vb,sv,h1,rfl⟩,_⟩:=h.d1;exact(h1.ok k hk).look
end
end
end Go.Proofs.YtbeeenembgplmaaGreat
