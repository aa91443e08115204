/- Made shorter by a tool: what the statements rest on. -/
import Derived.Test.YtbeeenembgplmaaGreatMT3
import Derived.Deep.Upon
import Derived.WalkMore
set_option maxRecDepth 100000
set_option maxHeartbeats 20000000
set_option linter.unusedVariables false
set_option linter.unusedSimpArgs false
open List renaming drop_succ_cons -> be, drop_zero -> bf, getElem?_eq_getElem -> bJ, replicate -> bK, length_cons -> cK, length_append -> cX, mem_map -> dc, range -> dm, getElem?_eq_some_iff -> dp, getElem?_map -> du, length_drop -> dx, mem_of_getElem? -> dI, length_nil -> dP, nil_append -> dT, size_toArray -> dU, cons_append -> dX, mem_cons -> ec, take_of_length_le -> ey, push_toArray -> eD, append_toArray -> eF, getElem?_append_left -> eU, mem_cons_self -> eV, length_take -> fd, mem_range -> fo, map_append -> fp, getElem?_append_right -> fF, mem_cons_of_mem -> fG, length_map -> fZ, mem_append -> gW, mem_of_mem_take -> gX, finRange -> ik, map_map -> iA, getElem?_eq_none -> iB, eq_nil_of_length_eq_zero -> je, getElem?_replicate -> jL, getElem?_drop -> kf, take_append_drop -> ki, flatten_append -> kj, getElem?_cons_succ -> kC
open Nat renaming le_refl -> aJ, lt_of_lt_of_le -> aU, le_trans -> aZ, zero_le -> bq, zero_add -> dC, mod_lt -> fO, lt_irrefl -> gQ, le_of_lt -> iT
open Int renaming le_refl -> fP, toNat_natCast -> gO
open Array renaming getElem?_eq_some_iff -> cj, replicate_succ -> ez, replicate_zero -> eA, replicate -> kg
open Bool renaming and_eq_true -> fN
open Go.Lib renaming hid -> ae
open Go renaming World -> ak, Value -> am, Calls -> az, loadVar -> aE, undef -> aK, storeVar -> aL, Addr -> aN, wpQuiet_nil -> aO, maxLen -> aS, TypeId -> aV, bodyPost_ret -> bl, heap_alloc_new -> bR, cell_of_row -> cl, run_equalIn_agg -> cZ, info_parts -> eJ, all_oneCell_toArray -> gD, run_loadVar_mid -> iL, run_storeVar_new -> iU
open Go.Instr renaming buildSlice -> cO, build -> cY, fill -> fe
open Go.Op renaming equalIn -> eG
open Go.Result renaming andThen_ok -> ed
open Go.RowKit renaming Below -> ah, intOf -> aW
open Go.RowKit.Below renaming refl -> aF
open Go.Sem renaming run_bind -> gR
open Go.Value renaming ownBlock -> fq
open Go.World renaming cell?_of_block -> cL, ownsRow_nil -> ft, rangeAt_setCells_same -> gE, rangeAt_setCells_apart -> iM, heap_setCells_other -> li
open Go.Ending renaming returned -> ar
open Go.IntKind renaming i64 -> af, u8 -> aq, u32 -> aD
open Go.Obj renaming cells -> ap
open Go.Value renaming int -> ab, slice -> ag, agg -> al, pointer -> ao, tuple -> aQ
open Or renaming inl -> aA, inr -> aC
open Go.Proofs.Tryz
open Go.Proofs.Tryz renaming prog -> aj
namespace Go.Proofs.YtbeeenembgplmaaGreat
open Go.RowKit Go.Shelf Go.Lib
section
attribute [-simp] isAgg51 zeroValue51 isAgg205 zeroValue205 isAgg254 zeroValue254
attribute [-go_sem] aE aL cZ
attribute [local go_sem] bC bD cV iR iQ rI rJ
def j7 (rq:Nat):Array am:=#[ao (some ⟨rq,0,none⟩),ab af 0]
def gx (wb rq q0 q1:Nat) (S:RS):ea:=cS (kL wb (j7 rq) 217) (bG rq q0 q1 S)
theorem gx.isRes (wb rq q0 q1:Nat) (S:RS):IsRes (gx wb rq q0 q1 S):=(kL.isRes _ _ _).sep (bG.isRes _ _ _ _)
section
variable {wb rq q0 q1:Nat} {S:RS} {w:ak} {f:Nat->Prop}
theorem DS (hu:S.Up) {i:Nat} (hi:i<S.n0):S.writeE 0 (i:Int)=0:=by
 have h:S.has 0 (i:Int)=true:=by unfold RS.has RS.len;rw[if_pos rfl];exact decide_eq_true ⟨by omega,by omega⟩
 unfold RS.writeE;rw[if_pos h,if_pos hu.ok]
theorem sH (hu:S.Up):S.flushE 0=0:=by
 unfold RS.flushE;rw[if_pos (aA rfl),if_pos hu.ok]
theorem gx.wb_lt (h:gx wb rq q0 q1 S w f):wb<w.heap.size/\f wb:=by
 obtain⟨f1,f2,⟨h1,rfl⟩,h2,h3,rfl⟩:=h;exact⟨(cj.1 h1).1,aA rfl⟩
theorem gx.row (h:gx wb rq q0 q1 S w f):w.heap[wb]? =some (ap (j7 rq) 217 (0,0)):=by
 obtain⟨f1,f2,⟨h1,rfl⟩,h2,h3,rfl⟩:=h;exact h1
theorem lK (h:gx wb rq q0 q1 S w f) (hu:S.Up) (hS:S.Fit) (hm:S.Few 255) {i:Nat} (hi:i<S.n0) {b:List am} (hb:bx b):
  az aj 137 #[ao (some ⟨wb,0,none⟩),ab af (i:Int),al b.toArray] w fun e w'=>e=ar (aQ #[])/\∃f',gx wb rq q0 q1 (S.write 0 (i:Int) b) w' f'/\Turn f f' w w':=by
 have hmx:=w9x
 obtain⟨W,hW⟩:=w9nm (w.alloc (ap b.toArray 51));have hB:ah w.heap.size w W:=by rw[←hW];exact(aF _ w).alloc (aJ _) _
 have rB:aB W w.heap.size 51 b:=by rw[←hW];exact aB.new w _ _
 have h1:=(gx.isRes wb rq q0 q1 S).below h hB;obtain⟨hwl,hwf⟩:=h.wb_lt;have hsz:w.heap.size<W.heap.size:=rB.lt;have hfl:=(gx.isRes wb rq q0 q1 S).lt h;have hc0:∀y:mD wb w.heap.size W,y.1.cell? ⟨wb,0,none⟩=some (ao (some ⟨rq,0,none⟩)):=fun y=>by
  rw[cL (w:=W) y.2.1];exact h1.cell 0
 have hc1:∀y:mD wb w.heap.size W,y.1.cell? ⟨wb,1,none⟩=some (ab af 0):=fun y=>by
  rw[cL (w:=W) y.2.1];exact h1.cell 1
 have hf1:∀y:mD wb w.heap.size W,y.1.frozen? ⟨wb,1,none⟩=false:=fun y=>by
  rw[World.frozen?_of_block (w:=W) y.2.1];exact h1.frozen 1
 have hL:∀y:mD wb w.heap.size W,(aE 51 ⟨w.heap.size,0,none⟩).run aj y.1=.ok (al b.toArray) y.1:=fun y=>dd ((show aB y.1 w.heap.size 51 b from y.2.2.trans rB).range) hb.length;have c1:W.cell? ⟨wb,1,none⟩=some (ab af 0):=h1.cell 1;have h1d:gx wb rq q0 q1 S W.drew f:=(gx.isRes _ _ _ _ _).out h1 (fun _ _=>rfl);have hE:=DS hu hi;have HW:Hid (az aj 64 #[ao (some ⟨rq,0,none⟩),ab af 0,ab af (i:Int),al b.toArray] W.drew fun e w'=>e=ar (ab af 0)/\∃f',gx wb rq q0 q1 (S.write 0 (i:Int) b) w' f'/\Turn f f' W.drew w'):=
  cS.second (R:=fun e _=>e=ar (ab af 0)) (kL.isRes _ _ _) (bG.isRes _ _ _ _) h1d fun f2 h2=>(h2.write hS hm 0 (i:Int) hb).mono fun e w' ⟨he,hr⟩=>⟨by rw[he,hE],hr⟩
 have HB:=ae hB;have HROW:=ae h1.row;have HFL:Hid (∀k,f k->k<w.heap.size):=hfl;have HSZ:=ae hsz;have HWL:=ae hwl;clear h h1 h1d hu hS hm hi hb hB hfl hE rB hwf;go_enter func137,ntmps137;go_wp2_with fail;refine cM (fun x=>∃y:mD wb w.heap.size W,x=y.1) 10 (.takes [0,1,2,3,4,5,6] (.one 7 (.takes [8,9] .leaf))) hmx (by kernel_rfl) (by intro c x v a w h;cases x<;>exact h) ⟨⟨W.drew,rfl,rfl⟩,rfl⟩ ?_;repeat(rw[bj];simp only[au,ay];go_big_quiet_step (fail);refine aO ?_)
 rw[bo,aT];simp only[au,ay];go_wp2_with fail;go_at_call 64;refine HW.out.mono ?_;rintro e x ⟨rfl,f2,g1,g2⟩;have hx:x.heap[wb]? =W.heap[wb]? /\x.heap[w.heap.size]? =W.heap[w.heap.size]? :=
  ⟨g1.row.trans HROW.out.symm,g2.out _ HSZ.out (fun hk=>by have:=HFL.out _ hk;omega)⟩
 have HX:=ae hx;have d1:x.cell? ⟨wb,1,none⟩=some (ab af 0):=g1.cell 1;have e1:x.frozen? ⟨wb,1,none⟩=false:=g1.frozen 1;have HG:=ae g1;have HT:=ae g2;clear g1 g2 hx;go_wp2_with fail;refine aG ⟨⟨x,HX.out⟩,rfl⟩ ?_;repeat(rw[bj];simp only[au,ay];go_big_quiet_step (fail);refine aO ?_)
 rw[bo,cu];simp only[be,bf];clear hc0 hc1 hf1 hL c1;go_wp2_with fail;try go_end0
 obtain⟨k1,k2⟩:=HG.out.set (bG.isRes _ _ _ _) 1 (ab af 0);refine⟨rfl,f2,k1, ?_⟩;exact(Turn.of_below HB.out.drew).trans (HT.out.trans k2)
theorem nz (h:gx wb rq q0 q1 S w f) (hu:S.Up) (hS:S.Fit):
  az aj 138 #[ao (some ⟨wb,0,none⟩)] w fun e w'=>e=ar (aQ #[])/\∃f',gx wb rq q0 q1 (S.flush 0) w' f'/\Turn f f' w w':=by
 have c0:w.cell? ⟨wb,0,none⟩=some (ao (some ⟨rq,0,none⟩)):=h.cell 0;have c1:w.cell? ⟨wb,1,none⟩=some (ab af 0):=h.cell 1;have hE:=sH hu;have HW:Hid (az aj 217 #[ao (some ⟨rq,0,none⟩),ab af 0] w fun e w'=>e=ar (ab af 0)/\∃f',gx wb rq q0 q1 (S.flush 0) w' f'/\Turn f f' w w'):=
  cS.second (R:=fun e _=>e=ar (ab af 0)) (kL.isRes _ _ _) (bG.isRes _ _ _ _) h fun f2 h2=>(h2.flush hS 0).mono fun e w' ⟨he,hr⟩=>⟨by rw[he,hE],hr⟩
 clear h hu hS hE;go_enter func138,ntmps138;go_wp2_with fail;go_at_call 217;refine HW.out.mono ?_;rintro e x ⟨rfl,f2,g1,g2⟩;have d1:x.cell? ⟨wb,1,none⟩=some (ab af 0):=g1.cell 1;have e1:x.frozen? ⟨wb,1,none⟩=false:=g1.frozen 1;have HG:=ae g1;have HT:=ae g2;clear g1 g2 c0 c1;go_wp2_with fail;try go_end0
 obtain⟨k1,k2⟩:=HG.out.set (bG.isRes _ _ _ _) 1 (ab af 0);exact⟨rfl,f2,k1,HT.out.trans k2⟩
theorem wY (s:Sct) (hs:s.Ok) (hf:s.fits=true) (w:ak):
  az aj 140 #[ab aq s.mark,ab aD s.seq,ab af s.index,al (an s.body).toArray] w fun e w'=>e=ar (al (an s.bytes).toArray)/\ah w.heap.size w w':=by
 obtain⟨V,hV⟩:=w9nm (w.alloc (ap (an s.body).toArray 205));have bV:ah w.heap.size w V:=by rw[←hV];exact aR w _
 have rV:aB V w.heap.size 205 (an s.body):=by rw[←hV];exact aB.new w _ _
 obtain⟨W,hW⟩:=w9nm (V.alloc (ap cx 51));have bW:ah V.heap.size V W:=by rw[←hW];exact aR V _
 have rW:aB W V.heap.size 51 (a9 0):=by rw[←hW];exact aB.new V _ _
 have rB:aB W w.heap.size 205 (an s.body):=rV.below bW;have L:=iH rB.range (by rw[bi];exact hs.len);have BS:=vE s.mark s.seq s.index (an s.body) (by rw[bi];exact hs.len);have HE:=fun x=>ae (lD s hs x);have hcode:s.code=an s.bytes/\s.codeE=0:=by unfold Sct.code Sct.codeE;rw[if_pos hf,if_pos hf];exact⟨rfl,rfl⟩
 rw[hcode.1,hcode.2]at HE;have hbb:bx (an s.bytes):=dr (Sct.bytes_length hs);have HBB:=ae hbb;have hsz:V.heap.size=w.heap.size+1:=by rw[←hV];simp
 have HB:w9h w W:=bV.trans (bW.mono bV.size);have HRW:=ae rW;have BSS:Hid ((cY 254 #[(0,ab aq s.mark),(1,ab aD s.seq),(2,ab af s.index),(3,al (an s.body).toArray)]).run aj W=.ok (al s.cells.toArray) W):=BS W;have HBV:=ae bV;have HBW:=ae bW;clear bV rV bW rB hs hf hcode hbb BS;go_enter func140,ntmps140;go_wp2_with ((with_reducible refine gU 254 ?_);refine fJ _ _ rfl rfl [(0,ab aq s.mark),(1,ab aD s.seq),(2,ab af s.index),(3,al (an s.body).toArray)] _ rfl BSS.out ?_);go_at_call 218;refine(HE W).out.mono ?_;rintro e x ⟨rfl,hb⟩;obtain⟨y,ST,ry,by1⟩:=ib x HBB.out;have LD:=dd ry.range HBB.out.length;have rT:y.heap[V.heap.size]? =some (ap cx 51 (0,0)):=by
  have h1:V.heap.size<W.heap.size:=HRW.out.lt;rw[by1.block _ (aU h1 hb.size),hb.block _ h1];exact HRW.out
 have bY:w9b V y:=HBW.out.trans ((hb.trans (by1.mono hb.size)).mono HBW.out.size);obtain⟨z,ST2,LD2,bz⟩:=Go.Proofs.YtbeeenembgplmaaGreat.own_cell rT dj bY HBB.out;have HZ:=w9bt HBV bz;rw[hsz]at ST2 LD2;have HL2:=ae LD2;clear hb ry by1 rT bY bz HE HRW L BSS LD2;go_wp2_with fail;exact bl (ff rfl rfl HL2.out) rfl ⟨rfl,HZ.out⟩
end
end
section
def dN (F C P:Nat) (L:List (List Int)):List (Nat×List am):=L.zipIdx.map fun x=>(F+(P+x.2)%C,an x.1)
theorem wZ (F C P:Nat) (L:List (List Int)):(dN F C P L).length=L.length:=by simp[dN]
theorem wsAt_get? (F C P:Nat) (L:List (List Int)) (k:Nat):(dN F C P L)[k]? =L[k]?.map fun b=>(F+(P+k)%C,an b):=by
 unfold dN;rw[du,List.getElem?_zipIdx];cases L[k]? with
 | none=>rfl
 | some b=>simp
theorem DT (F C A n:Nat) (seq:Int) (t:List Img):(bQ F C A seq t).take n=dN F C A ((bu seq t).take n):=by
 apply List.ext_getElem?;intro k;rw[wsAt_get?];by_cases h:k<n
 ·rw[List.getElem?_take_of_lt h,List.getElem?_take_of_lt h];exact wsAt_get? F C A (bu seq t) k
 ·rw[iB (by rw[fd];omega),iB (by rw[fd];omega)]
  rfl
theorem DU (F C A n:Nat) (seq:Int) (t:List Img):(bQ F C A seq t).drop n=dN F C (A+n) ((bu seq t).drop n):=by
 apply List.ext_getElem?;intro k;rw[wsAt_get?,kf,kf,show A+n+k=A+(n+k) by omega];exact wsAt_get? F C A (bu seq t) (n+k)
theorem sI {F C P:Nat} {L:List (List Int)} (h:L.length<=C):((dN F C P L).map (·.1)).Nodup:=by
 have e:(dN F C P L).map (·.1)=(dm L.length).map fun k=>F+(P+k)%C:=by
  apply List.ext_getElem?;intro k;rw[du,du,wsAt_get?];by_cases hk:k<L.length
  ·rw[List.getElem?_range hk,bJ hk]
   rfl
  ·rw[iB (by omega),iB (by simp;omega)]
   rfl
 rw[e];unfold List.Nodup;rw[List.pairwise_map];refine List.Pairwise.imp_of_mem (fun{j k} hj hk hne e=> ?_) List.nodup_range;have hj:=fo.1 hj;have hk:=fo.1 hk;exact hne (rl (a:=P) (count:=C) (by omega) (by omega) (by omega))
theorem w5 {F C P n0:Nat} {L:List (List Int)} (h0:0<C) (hF:F+C<=n0):∀x ∈ dN F C P L,x.1<n0:=by
 intro x hx;obtain⟨k,hk⟩:=List.mem_iff_getElem?.1 hx;rw[wsAt_get?]at hk;cases hl:L[k]? with
 | none=>rw[hl]at hk;simp at hk
 | some b=>
  rw[hl]at hk;cases hk;show F+(P+k)%C<n0;have:=fO (P+k) h0;omega
theorem RS.wrs_last:∀(l:List (Nat×List am)) (S:RS) (i:Nat) (b:List am),(S.wrs l).2=true->S.wrs (l++ [(i,b)])=((S.wrs l).1.write 0 (i:Int) b,decide ((S.wrs l).1.writeE 0 (i:Int)=0))
 | [],S,i,b,_=>by
  show S.wrs [(i,b)]=(S.write 0 (i:Int) b,decide (S.writeE 0 (i:Int)=0));unfold RS.wrs;split
  ·next h=>rw[decide_eq_true h];rfl
  ·next h=>rw[decide_eq_false h]
 | (j,c)::l,S,i,b,h=>by
  unfold RS.wrs at h;show S.wrs ((j,c)::(l++ [(i,b)]))=_;unfold RS.wrs;split at h
  ·rename_i h0;rw[if_pos h0,if_pos h0];exact RS.wrs_last l _ i b h
  ·simp at h
theorem RS.wrs_stop:∀(l l':List (Nat×List am)) (S:RS),(S.wrs l).2=false->S.wrs (l++l')=S.wrs l
 | [],l',S,h=>by simp[RS.wrs]at h
 | (j,c)::l,l',S,h=>by
  unfold RS.wrs at h;show S.wrs ((j,c)::(l++l'))=_;unfold RS.wrs;split at h
  ·rename_i h0;rw[if_pos h0,if_pos h0];exact RS.wrs_stop l l' _ h
  ·rename_i h0;rw[if_neg h0,if_neg h0]
theorem RS.after_way (S:RS):S.after.fuse<=S.fuse/\S.done<=S.after.done/\S.after.done<=S.done+1:=by
 unfold RS.after;split
 ·refine⟨?_, ?_, ?_⟩
  ·show(if 0<S.fuse then S.fuse - 1 else S.fuse)<=S.fuse;split<;>omega
  ·show S.done<=S.done+1;omega
  ·exact fP _
 ·exact⟨fP _,fP _,by show S.done<=S.done+1;omega⟩
theorem RS.write_way (S:RS) (dev i:Int) (b:List am):(S.write dev i b).fuse<=S.fuse/\S.done<=(S.write dev i b).done/\(S.write dev i b).done<=S.done+1:=by
 have h:=S.after_way;unfold RS.write;split
 ·split
  ·have:=S.after.put_rest dev i.toNat b;rw[this.1,this.2.2.1];exact h
  ·exact h
 ·exact⟨fP _,fP _,by omega⟩
theorem RS.flush_way (S:RS) (dev:Int):(S.flush dev).fuse<=S.fuse/\S.done<=(S.flush dev).done/\(S.flush dev).done<=S.done+1:=by
 have h:=S.after_way;unfold RS.flush;split
 ·split
  ·have:=S.after.fl_rest dev;rw[this.1,this.2.2.1];exact h
  ·exact h
 ·exact⟨fP _,fP _,by omega⟩
theorem RS.wrs_way:∀(l:List (Nat×List am)) (S:RS),(S.wrs l).1.fuse<=S.fuse/\S.done<=(S.wrs l).1.done/\(S.wrs l).1.done<=S.done+l.length
 | [],S=>⟨fP _,fP _,by show S.done<=S.done+((0:Nat):Int);omega⟩
 | (i,b)::l,S=>by
  have h1:=S.write_way 0 (i:Int) b;have h2:=RS.wrs_way l (S.write 0 (i:Int) b);unfold RS.wrs;simp only[cK];split
  ·refine⟨?_, ?_, ?_⟩<;>omega
  ·refine⟨?_, ?_, ?_⟩<;>simp only<;>omega
theorem RS.flushE0 (S:RS):S.flushE 0=0\/S.flushE 0=14:=by
 rcases(S.flush0).2 with⟨_,e,_⟩ | ⟨_,e,_⟩
 ·exact aA e
 ·exact aC e
def RS.st (S:RS) (l:List (Nat×List am)):RS×Int:=if(S.wrs l).2=false then((S.wrs l).1,14)else((S.wrs l).1.flush 0,(S.wrs l).1.flushE 0)
theorem RS.app_st (S:RS) (F C A:Nat) (seq:Int) (t:List Img):S.app F C A seq t=
  if(S.st (dN F C A ((bu seq t).take t.length))).2=0 then(S.st (dN F C A ((bu seq t).take t.length))).1.st (dN F C (A+t.length) ((bu seq t).drop t.length))else S.st (dN F C A ((bu seq t).take t.length)):=by
 rw[←DT,←DU];unfold RS.app;by_cases h1:(S.wrs ((bQ F C A seq t).take t.length)).2=false
 ·have e1:S.st ((bQ F C A seq t).take t.length)=((S.wrs ((bQ F C A seq t).take t.length)).1,14):=by unfold RS.st;rw[if_pos h1]
  rw[if_pos h1,e1,if_neg (by omega)]
 ·have e1:S.st ((bQ F C A seq t).take t.length)=((S.wrs ((bQ F C A seq t).take t.length)).1.flush 0,(S.wrs ((bQ F C A seq t).take t.length)).1.flushE 0):=by unfold RS.st;rw[if_neg h1]
  rw[if_neg h1,e1];by_cases h2:(S.wrs ((bQ F C A seq t).take t.length)).1.flushE 0=0
  ·rw[if_neg (by omega),if_pos h2];simp only;generalize (S.wrs ((bQ F C A seq t).take t.length)).1.flush 0=T;unfold RS.st;by_cases h3:(T.wrs ((bQ F C A seq t).drop t.length)).2=false
   ·rw[if_pos h3,if_pos h3]
   ·rw[if_neg h3,if_neg h3];rcases RS.flushE0 (T.wrs ((bQ F C A seq t).drop t.length)).1 with e | e
    ·rw[if_neg (by omega),e]
    ·rw[if_pos (by omega),e]
  ·have e:=(RS.flushE0 (S.wrs ((bQ F C A seq t).take t.length)).1).resolve_left h2;rw[if_pos h2,if_neg h2,e]
theorem RS.st_spec {S:RS} {l:List (Nat×List am)} (hin:∀x ∈ l,x.1<S.n0) (hnd:(l.map (·.1)).Nodup) {m:Nat} (hf:S.Few m) (hm:m<=254):
  (S.st l).1.n0=S.n0/\(S.st l).1.fuse<=S.fuse/\S.done<=(S.st l).1.done/\(S.st l).1.done<=S.done+l.length+1/\(S.st l).1.Few (m+1)/\((S.st l).2=0\/(S.st l).2=14):=by
 obtain⟨h1,_⟩:=S.wrs_spec l hin;obtain⟨w1,w2,w3⟩:=RS.wrs_way l S;have hfw:=RS.wrs_few hf hm hin hnd;unfold RS.st;split
 ·exact⟨h1.n0,w1,w2,by show(S.wrs l).1.done<=_;omega,hfw,aC rfl⟩
 ·obtain⟨v1,v2,v3⟩:=(S.wrs l).1.flush_way 0;exact⟨((S.wrs l).1.flush0).1.n0.trans h1.n0,by simp only;omega,by simp only;omega,by simp only;omega,RS.few_flush hfw 0,RS.flushE0 _⟩
theorem RS.bat_one (S:RS) (l:cA):S.bat [l]=S.st l:=by
 rw[RS.bat_cons];unfold RS.st;by_cases h:(S.wrs l).2=false
 ·rw[if_pos h,if_pos h]
 ·rw[if_neg h,if_neg h];rcases RS.flushE0 (S.wrs l).1 with e | e
  ·rw[if_neg (by omega),e];rfl
  ·rw[if_pos (by omega),e]
theorem RS.bat_st (S:RS) (l:cA) (ls:List cA):S.bat (l::ls)=if(S.st l).2=0 then(S.st l).1.bat ls else S.st l:=by
 have:=RS.bat_append [l] ls S;rw[RS.bat_one]at this;exact this
theorem RS.bat_two (S:RS) (l k:cA):S.bat [l,k]=if(S.st l).2=0 then(S.st l).1.st k else S.st l:=by rw[RS.bat_st,RS.bat_one]
def fK (m:Nat) (p:Nat->Bool):List (Fin m):=(ik m).filter fun i=>p i.1
theorem DV (m:Nat):(ik m).map Fin.val=dm m:=by
 apply List.ext_getElem
 ·simp
 ·intro i h1 h2;simp
theorem DW (m:Nat) (p:Nat->Bool):(fK m p).map Fin.val=(dm m).filter p:=by
 rw[←DV,List.filter_map]
 rfl
theorem sJ {β:Type} (m:Nat) (p:Nat->Bool) (f:Nat->β):((fK m p).map fun x=>f x.1)=((dm m).filter p).map f:=by
 rw[←DW,iA]
 rfl
theorem DX (m:Nat) (p:Nat->Bool):(fK m p).length<=m:=by
 have:=List.length_filter_le (fun i:Fin m=>p i.1) (ik m);rw[List.length_finRange]at this;exact this
def aY (now:List (List Int)) (k:Nat):List Int:=now[k]?.getD []
def dS (x:Nat×List am):List am:=ab af (x.1:Int)::x.2
def cG (l:cA):List (List am):=l.map dS
def fL (H:Nat) (now:List (List Int)) {m:Nat} (xs:List (Fin m)):cA:=xs.map fun x=>(H+x.1,an (de x.1 (aY now x.1)).bytes)
def iY (was now:List (List Int)) (k:Nat):Bool:=decide (now[k]? ≠was[k]?)
theorem DY (was now:List (List Int)):jY was now=(fK now.length (iY was now)).map fun x=>(⟨(x.1:Int),aY now x.1⟩:Img):=by
 rw[sJ now.length (iY was now) fun k=>(⟨(k:Int),aY now k⟩:Img)]
 rfl
theorem it (b:List Int):(aM b).length=cB b:=by simp[aM]
theorem sK (b:List Int) {k:Nat} (h:k<cB b):aY (aM b) k=bM b k:=by unfold aY;rw[lF b h];rfl
theorem DZ (M:MS) (h:cB M.b=M.g.P):M.homW=fL M.g.H (aM M.b) (fK (aM M.b).length (iY M.home (aM M.b))):=by
 unfold MS.homW fL;rw[sJ (aM M.b).length (iY M.home (aM M.b)) fun k=>(M.g.H+k,an (de k (aY (aM M.b) k)).bytes),it,h];refine List.map_congr_left fun k hk=> ?_;have hk':=fo.1 (List.mem_filter.1 hk).1;rw[sK M.b (by omega)]
theorem D2 (g:Geo) (b:List Int) (h:cB b=g.P):((dm g.P).map fun i=>(g.H+i,an (de i (bM b i)).bytes))=fL g.H (aM b) (fK (aM b).length fun _=>true):=by
 unfold fL;rw[sJ (aM b).length (fun _=>true) fun k=>(g.H+k,an (de k (aY (aM b) k)).bytes),it,h];rw[show(dm g.P).filter (fun _=>true)=dm g.P from List.filter_eq_self.2 fun _ _=>rfl];refine List.map_congr_left fun k hk=> ?_;rw[sK b (by have:=fo.1 hk;omega)]
theorem xc (b:List Int):rows b (cB b)=(aM b).map an:=by
 unfold rows aM;rw[iA]
 rfl
theorem lL {b:List Int} (hb:aP b):∀x ∈ aM b,x.length=48/\aP x:=by
 intro x hx;unfold aM at hx;obtain⟨k,_,rfl⟩:=dc.1 hx;exact⟨gH b k,ir hb k⟩
theorem D3 (F n:Nat):((dm (n+1)).map fun i=>(F+i,a9 0))=((dm n).map fun i=>(F+i,a9 0))++ [(F+n,a9 0)]:=by
 rw[List.range_succ,fp]
 rfl
theorem pB (now:List (List Int)) (ts:List (List Img)):dV now ts=ts.flatten.foldl cD now:=by
 unfold dV;rw[List.foldl_flatten]
 rfl
theorem xd (ts:List (List Img)) (t:List Img):cE (ts++ [t])=cE ts+(t.length+1):=by
 unfold cE;rw[fp,List.sum_append];simp
def gL:List am:=ab af 0::a9 0
theorem pC:gL.toArray.size=65:=by simp[gL,a9]
theorem kT {x:Nat×List am} (h:x.2.length=64):(dS x).length=65:=by simp[dS,h]
theorem nA {x:Nat×List am} (h:bx x.2):∀v ∈ dS x,v.oneCell'=true:=by
 intro v hv;unfold dS at hv;rcases ec.1 hv with rfl | hv
 ·rfl
 ·exact h.one v hv
section
theorem sL:(aj.info? 207).map (·.size)=some 65:=by kernel_rfl
theorem sM:(aj.info? 207).map (fun i=>(i.zero,i.size,i.bytes))=some (some (al gL.toArray),65,72):=by kernel_rfl
theorem gA (w:ak):(zeroValue 207).run aj w=.ok (al gL.toArray) w:=by kernel_rfl
set_option maxRecDepth 100000 in
theorem xe {w:ak} {b o:Nat} {c:List am} (hc:w.rangeAt b o c) (h:c.length=65):(aE 207 ⟨b,o,none⟩).run aj w=.ok (al c.toArray) w:=
 iL w b o _ c _ hc Tryz.underlying207 rfl (by rw[h];exact sL)
theorem D4 {w:ak} {c:Array am} {c':List am} (h:c.size=65) (h':c'.length=65) (h1:∀v ∈ c',v.oneCell'=true):(aL 207 ⟨w.heap.size,0,none⟩ (al c'.toArray)).run aj (w.alloc (ap c 207))=.ok () (w.alloc (ap c'.toArray 207)):=
 iU w _ c c'.toArray (by simpa [h']using sL) (by simpa [h']using h) (gD h1)
def pD:Nat->Option (Nat×Nat):=fun i=>(#[(0,1),(1,64)]:Array (Nat×Nat))[i]?
theorem D5 (i:Int) (c:List am) (hc:c.length=64):fe pD gL.toArray [(0,ab af i),(1,al c.toArray)]=some (Value.int af i::c).toArray:=by
 have h3:fe pD gL.toArray [(0,ab af i),(1,al c.toArray)]=fe pD (gL.set 0 (ab af i)).toArray [(1,al c.toArray)]:=rfl;have hz:(gL.set 0 (ab af i)).toArray.size=65:=by simp[gL,a9]
 rw[h3];have p3:pD 1=some (1,64):=rfl;simp only[fe,p3,Value.cells];refine(if_neg ?_).trans ?_
 ·intro h;rcases Bool.or_eq_true_iff.1 h with h | h
  ·exact(of_decide_eq_true h) (by simpa using hc)
  ·have h':1+c.toArray.size>(gL.set 0 (ab af i)).toArray.size:=of_decide_eq_true h;rw[hz,dU,hc]at h';omega
 congr 1
 rw[←Array.foldl_toList,Array.toList_zipIdx,oY];apply Array.ext_getElem?;intro j;rw[mT c 1 _ j (by rw[hz,hc];omega)]
 match j with
 | 0=>rfl
 | j+1=>
  by_cases hj:j<64
  ·rw[if_pos (by omega)];simp
  ·rw[if_neg (by omega),Array.getElem?_eq_none (by omega)];simp;omega
theorem xf (i:Int) (c:List am) (hc:c.length=64) (w:ak):
  (cY 207 #[(0,ab af i),(1,al c.toArray)]).run aj w=.ok (al (Value.int af i::c).toArray) w:=
 run_build w _ _ _ (D5 i c hc)
theorem D6 (i:Int) (w:ak):(cY 207 #[(0,ab af i)]).run aj w=.ok (al (Value.int af i::a9 0).toArray) w:=by kernel_rfl
theorem pE (w:ak) (b:List am) (h:b.length=65):(cO 199 1 #[(0,al b.toArray)]).run aj w=.ok (ag (some ⟨w.heap.size,0,none⟩) 1 1) (w.alloc (ap b.toArray 207)):=by
 have e:(b.zipIdx.foldl (fun cs (x:am×Nat)=>cs.setIfInBounds (0+x.2) x.1) ((Array.range 65).map (gL.toArray[·%gL.toArray.size]!)))=b.toArray:=mU b _ (by simp[h]);have e2:b.toArray.zipIdx.foldl (fun cs (x:am×Nat)=>cs.setIfInBounds (0+x.2) x.1) ((Array.range 65).map (gL.toArray[·%gL.toArray.size]!))=b.toArray:=by
  rw[←Array.foldl_toList,Array.toList_zipIdx];exact e
 obtain⟨i0,hi,hz0,hz1,hz2⟩:=eJ sM;refine run_buildSlice (P:=aj) w 199 207 1 _ b.toArray i0 (al gL.toArray) (by kernel_rfl) hi hz0 (by rw[hz1];decide) (by rw[hz1];decide) ?_;rw[hz1];show fe _ _ [(0,Value.agg b.toArray)]=_;simp only[fe];rw[if_neg (by simp[Value.cells,h])]
 congr 1
set_option maxRecDepth 100000 in
theorem xh (N:Nat) (w:ak) (v:am) (vs:List (List am)) (b:List am) (B:Nat) (hown:w.ownsRow N 207 65 v vs.length vs.flatten) (hb:b.length=65) (h1:∀u ∈ b,u.oneCell'=true) (hB:w.rangeAt B 0 b) (hlen:vs.length<=1000000) (hN:N<=w.heap.size):
  ∃v' w',(Builtin.append_ #[199, 199] 199 #[v,ag (some ⟨B,0,none⟩) 1 1]).run aj w=.ok v' w'/\w'.ownsRow N 207 65 v' (vs++ [b]).length (vs++ [b]).flatten/\w.grownBy w' v.ownBlock/\(v'.ownBlock=v.ownBlock\/v'.ownBlock=some w.heap.size):=by
 obtain⟨i0,hi,hz0,hz1,hz2⟩:=eJ sM;obtain⟨v',w',hr,h1,h2,_,h3⟩:=run_append_own_at (P:=aj) w N 199 199 207 i0 (al gL.toArray) 65 72 Tryz.underlying199 hi hz0 hz1 hz2 pC (by omega) v vs.length vs.flatten hown
  ⟨B,0,none⟩ 1 1 b (by rw[hb]) (fun j u hj=>by have:=hB j u hj;rwa [Addr.add_mid]) h1 (by unfold aS;omega) (by omega) hN
 exact⟨v',w',hr,by simpa using h1,h2,h3⟩
set_option maxRecDepth 100000 in
theorem D7 (N:Nat) (w:ak) (v u:am) (vs us:List (List am)) (hown:w.ownsRow N 207 65 v vs.length vs.flatten) (hu:w.ownsRow 0 207 65 u us.length us.flatten) (hok:∀x ∈ us,∀y ∈ x,y.oneCell'=true) (hlen:vs.length+us.length<=1000000) (hN:N<=w.heap.size):
  ∃v' w',(Builtin.append_ #[199, 199] 199 #[v,u]).run aj w=.ok v' w'/\w'.ownsRow N 207 65 v' (vs++us).length (vs++us).flatten/\w.grownBy w' v.ownBlock/\(v'.ownBlock=v.ownBlock\/v'.ownBlock=some w.heap.size):=by
 obtain⟨i0,hi,hz0,hz1,hz2⟩:=eJ sM;rcases hu.2 with⟨rfl,h0⟩ | ⟨g,cap,cur,rfl,_⟩
 ·obtain rfl:=je h0;exact⟨v,w,run_append_owned_none (P:=aj) (w:=w) N 199 199 207 i0 65 Tryz.underlying199 hi v vs.length _ hown,by simpa using hown,World.grownBy.refl _ _,aA rfl⟩
 ·obtain⟨v',w',hr,h1,h2,_,h3⟩:=run_append_own_at (P:=aj) w N 199 199 207 i0 (al gL.toArray) 65 72 Tryz.underlying199 hi hz0 hz1 hz2 pC (by omega) v vs.length vs.flatten hown
   ⟨g,0,none⟩ us.length cap us.flatten hu.1 (hu.cells rfl) (fun x hx=>by obtain⟨y,hy,hxy⟩:=List.mem_flatten.1 hx;exact hok y hy x hxy) (by unfold aS;omega) (by omega) hN
  exact⟨v',w',hr,by simpa using h1,h2,h3⟩
end
end
section
attribute [-simp] isAgg51 zeroValue51 isAgg205 zeroValue205 isAgg254 zeroValue254 isAgg232 zeroValue232
attribute [-go_sem] aE aL cZ
attribute [local go_sem] bC bD cV iR iQ kv
def fM (v:am) (a:Nat) (q e:Int):List am:= [v,ab af (a:Int),ab aD q,ab af e]
theorem xi {g:Nat->List Int} {seq:Int} {t:List Img}:∀(f k:Nat) (acc:List Img),acc.length=k->fc g seq f k acc=some t->t.length<k+f
 | 0,k,acc,ha,h=>by simp[fc]at h
 | f+1,k,acc,ha,h=>by
  unfold fc at h;split at h
  ·simp at h
  ·split at h
   ·split at h
    ·simp at h
    ·cases h;omega
   ·split at h
    ·simp at h
    ·have:=xi f (k+1) _ (by simp[ha]) h;omega
theorem xj {rd:Nat->List Int} {frm count at0:Nat} {seq:Int} {t:List Img} (h:io rd frm count at0 seq=some t):t.length<count:=by
 have:=xi count 0 [] rfl h;omega
theorem D8 (t:aV) (h:t≠ 51 /\t≠ 205 /\t≠ 254 /\t≠ 259) (a:aN):aE t a=(do if←isAgg t then pure (al (←loadCells a (←sizeOf t)))else load a):=rfl
theorem D9 (t:aV) (h:t≠ 51 /\t≠ 254 /\t≠ 259) (a:aN) (v:am):aL t a v=(do
  if v.cells.size≠(←sizeOf t)then stuck "storeVar: the value has not the size of the variable"
  storeCells a v.cells.toList):=rfl
attribute [local go_sem] D8 D9
theorem xk:(aj.info? 259).map (·.size)=some 4:=by kernel_rfl
theorem xl {x:ak} {B a:Nat} {old:List am} {v:am} {q e:Int} (h:aB x B 259 old) (ho:old.length=4) (hv:v.oneCell'=true):
  ∃y,(aL 259 ⟨B,0,none⟩ (al (fM v a q e).toArray)).run aj x=.ok () y/\aB y B 259 (fM v a q e)/\x.grownBy y (some B):=by
 refine⟨_,run_storeVar_row x B _ _ old.toArray (fM v a q e).toArray h xk (by simpa [fM]using ho) (by simp[fM,hv];exact⟨rfl,rfl,rfl⟩),setRow_heap x B _ _ _ _ h, ?_⟩;exact⟨rfl,rfl,rfl,by rw[setRow_size];exact aJ _,fun k _ hk=>setRow_other x B k _ (fun e=>hk (by rw[e]))⟩
theorem Ea (x:ak):(binOp .eql 231 (ag none 0 0) (ag none 0 0)).run aj x=.ok (.bool true) x:=by kernel_rfl
theorem Eb (g:aN) (n c:Nat) (x:ak):(binOp .eql 231 (ag (some g) n c) (ag none 0 0)).run aj x=.ok (.bool false) x:=by kernel_rfl
theorem xm {w:ak} {a b c d a' b' c' d':am} (h:a'.oneCell'=true/\b'.oneCell'=true/\c'.oneCell'=true/\d'.oneCell'=true):
  (aL 259 ⟨w.heap.size,0,none⟩ (al #[a',b',c',d'])).run aj (w.alloc (ap #[a,b,c,d] 259))=.ok () (w.alloc (ap #[a',b',c',d'] 259)):=
 iU w _ _ #[a',b',c',d'] xk rfl (by simp[h])
set_option maxRecDepth 100000 in
theorem pF {x:ak} {B a:Nat} {t:aV} {v:am} {q e:Int} (h:aB x B t (fM v a q e)):(aE 259 ⟨B,0,none⟩).run aj x=.ok (al (fM v a q e).toArray) x:=
 iL x B 0 _ (fM v a q e) _ h.range Tryz.underlying259 rfl (by kernel_rfl)
theorem pG {x:ak} {N M e sz n:Nat} {v:am} {xs:List am} (h:x.ownsRow M e sz v n xs) (hN:N<=M):x.ownsRow N e sz v n xs:=by
 refine⟨h.1, ?_⟩;rcases h.2 with h' | ⟨g,cap,cur,rfl,a1,a2⟩
 ·exact aA h'
 ·exact aC ⟨g,cap,cur,rfl,aZ hN a1,a2⟩
def iu (x:ak) (B:Nat):Nat:=match x.cell? ⟨B,0,none⟩with | some (ag _ n _)=>n | _=>0
theorem Ec {rq q0 q1:Nat} {S:RS} {w:ak} {f:Nat->Prop} (h:bG rq q0 q1 S w f) (hby:S.Byt) (hup:S.down=false) {F C A:Nat} (hC2:2<=C) (hC:C<=256) (hF:F+C<=S.n0) (hA:A<C) (hn:S.n0<=4096) {seq:Int} (hs:cH seq):
  az aj 164 #[ao (some ⟨rq,0,none⟩),ab af (F:Int),ab af (C:Int),ab af (A:Int),ab aD seq] w fun e w'=>
   (∃v,e=ar (al (fM v (cC S.rd F C A seq).2.1 (cC S.rd F C A seq).2.2 0).toArray)/\eY 231 232 w' w.heap.size v (cC S.rd F C A seq).1)/\ah w.heap.size w w':=by
 obtain⟨res,hres⟩:=w9nm (cC S.rd F C A seq);have HR:Hid (fz S.rd F C C A seq []=res):=hres;rw[hres];have HM:Hid (∀x:ak,w9b w x->az aj 224 #[ao (some ⟨rq,0,none⟩),ab af (F:Int),ab af (C:Int),ab af (A:Int)] x fun e w'=>e=ar (.bool true)/\w'=x):=fun x hx=>by
  have:=vS (h.beside hx) F C A hn
  rwa [show iq S.n0 F C A=true by unfold iq;simp;omega]at this
 have HO:Hid (∀(x:ak) (A':Nat) (q:Int),w9b w x->A'<C->cH q->az aj 239 #[ao (some ⟨rq,0,none⟩),ab af (F:Int),ab af (C:Int),ab af (A':Int),ab aD q] x fun e w'=>
   (∃v,e=ar (aQ #[v,ab af 0])/\(match io S.rd F C A' q with | none=>v=ag none 0 0 | some t=>0<t.length/\w'.ownsRow x.heap.size 232 49 v t.length (bI t).flatten))/\ah x.heap.size x w'):=fun x A' q hx hA' hq=>Cy (h.beside hx) hby hup hC2 hC hF hA' hn hq
 have HSQ:=ae hs;clear h hby hup hs hres hF hn;go_enter func164,ntmps164;go_wp2_with fail;go_at_call 224;refine(HM.out _ (aR w _)).mono ?_;rintro e y ⟨rfl,rfl⟩;have ST:=xm (w:=w.alloc (ap #[ag none 0 0,ab af 0,ab aD 0,ab af 0] 259)) (a:=ag none 0 0) (b:=ab af 0) (c:=ab aD 0) (d:=ab af 0) (a':=ag none 0 0) (b':=ab af (A:Int)) (c':=ab aD seq) (d':=ab af 0) ⟨rfl,rfl,rfl,rfl⟩;rw[show(w.alloc (ap #[ag none 0 0,ab af 0,ab aD 0,ab af 0] 259)).heap.size=w.heap.size+1 from Array.size_push _]at ST;go_wp2_with fail;clear ST;obtain⟨W,hW⟩:=w9nm (((w.alloc (ap #[ag none 0 0,ab af 0,ab aD 0,ab af 0] 259)).alloc (ap #[ag none 0 0,ab af (A:Int),ab aD seq,ab af 0] 259)));have hb0:=aR w (ap #[ag none 0 0,ab af 0,ab aD 0,ab af 0] 259);have hb1:=hb0.trans ((aR _ (ap #[ag none 0 0,ab af (A:Int),ab aD seq,ab af 0] 259)).mono hb0.size);rw[hW]at hb1;have r0:aB W w.heap.size 259 (fM (ag none 0 0) 0 0 0):=by
  rw[←hW];exact(aB.new w 259 _).below (aR _ _)
 have r1:aB W (w.heap.size+1) 259 (fM (ag none 0 0) A seq 0):=by
  rw[←hW];have:=aB.new (w.alloc (ap #[ag none 0 0,ab af 0,ab aD 0,ab af 0] 259)) 259 (fM (ag none 0 0) A seq 0)
  rwa [show(w.alloc (ap #[ag none 0 0,ab af 0,ab aD 0,ab af 0] 259)).heap.size=w.heap.size+1 from Array.size_push _]at this
 have R0:=ae r0;have R1:=ae r1;have B1:=ae hb1;clear r0 r1 hb0 hb1;obtain⟨B,hB⟩:=w9nm (w.heap.size+1);rw[hB]at R1;rw[hW,hB];have hne:w.heap.size≠B:=by omega
 have hBw:w.heap.size<=B:=by omega
 clear hW hB;go_loopw [12,13] (fun _ _ wr=>∃(ts:List (List Img)) (A':Nat) (q:Int) (v:am),ts.length<=C/\A'<C/\Hid (cH q)/\Hid (aB wr w.heap.size 259 (fM (ag none 0 0) 0 0 0))/\Hid (aB wr B 259 (fM v A' q 0))/\Hid (eY 231 232 wr w.heap.size v ts)/\w9h w wr/\Hid (fz S.rd F C (C - ts.length) A' q ts=res)) (fun _ _ wr=>C - iu wr B)
 case atStart=>exact⟨[],A,seq,_,bq _,hA,HSQ,R0,R1,eY.nil _ _ _ _,B1,HR⟩
 case round=>
  obtain⟨ts,A',q,v,hk,hA',HQ,HZ,HL,HT,HB,HG⟩:=hrel;obtain⟨vs,hvl,hvo,hvt⟩:=HT.out;obtain⟨ra,c,rfl,hra⟩:=fR hvo;rw[hvl]at HL HT hvo hra;have c0:wr.cell? ⟨B,0,none⟩=some (ag ra ts.length c):=HL.out.cell 0 _ rfl;have c1:wr.cell? ⟨B,1,none⟩=some (ab af (A':Int)):=HL.out.cell 1 _ rfl;have c2:wr.cell? ⟨B,2,none⟩=some (ab aD q):=HL.out.cell 2 _ rfl;clear hvo hvt hra;have HLN:Hid (iu wr B=ts.length):=by show iu wr B=_;unfold iu;rw[c0]
  by_cases hlt:ts.length<C
  ·have g2:decide ((ts.length:Int)< (C:Int))=true:=by simp;omega
   go_wp2_with fail;go_at_call 239;refine(HO.out wr A' q HB.out hA' HQ.out).mono ?_;rintro e x1 ⟨⟨u,rfl,hu⟩,hb⟩;have B2:=w9bt HB hb;have hwr:=HB.out.size;have HZ1:=ae (HZ.out.below hb);have HL1:=ae (HL.out.below hb);have HT1:=ae (HT.out.below hb);have hgo:=HG.out;rw[show C - ts.length=(C - ts.length - 1)+1 by omega]at hgo;unfold fz at hgo;clear hb HB HZ HL HT HG HO c0 c1 c2;have c0:x1.cell? ⟨B,0,none⟩=some (ag ra ts.length c):=HL1.out.cell 0 _ rfl;have c1:x1.cell? ⟨B,1,none⟩=some (ab af (A':Int)):=HL1.out.cell 1 _ rfl;have c2:x1.cell? ⟨B,2,none⟩=some (ab aD q):=HL1.out.cell 2 _ rfl;cases ho:io S.rd F C A' q with
   | none=>
    rw[ho]at hu hgo;subst hu;simp only at hgo;subst hgo;clear ho;have LL:=pF HL1.out;obtain⟨y,ST,hy,hg⟩:=xl (v:=ag ra ts.length c) (a:=A') (q:=q) (e:=0) HZ1.out rfl rfl;have LY:=pF hy;have hty:Hid (eY 231 232 y w.heap.size (ag ra ts.length c) ts):=HT1.out.grownC HZ1.out (by decide) (by decide) hg;have hby:w9h w y:=B2.out.grown hg B2.out.size (fun j e=>by cases e;exact aJ _);clear hg;have EN:=Ea x1;go_wp2_with fail;refine bl (ff rfl rfl LY) rfl ⟨⟨_,rfl,hty.out⟩,hby.out⟩
   | some t=>
    rw[ho]at hu hgo;obtain⟨ht0,hu⟩:=hu;obtain⟨rb,cb,rfl,hrb⟩:=fR hu;obtain⟨g,rfl, -, -⟩:=hrb ht0;simp only at hgo;have htl:=xj ho;have EN:=Eb ⟨g,0,none⟩ t.length cb x1;obtain⟨x2,hx2⟩:=w9nm (x1.alloc (ap #[ag (some ⟨g,0,none⟩) t.length cb] 231));have SB:Hid ((cO 257 1 #[(0,ag (some ⟨g,0,none⟩) t.length cb)]).run aj x1=.ok (ag (some ⟨x1.heap.size,0,none⟩) 1 1) x2):=by show _=_;rw[←hx2];exact DL x1 _ _ _
    have b2:ah x1.heap.size x1 x2:=by rw[←hx2];exact aR x1 _
    have rN:aB x2 x1.heap.size 231 [ag (some ⟨g,0,none⟩) t.length cb]:=by rw[←hx2];exact aB.new x1 _ _
    have B3:w9b w x2:=B2.out.trans (b2.mono B2.out.size);obtain⟨v',x3,r3,t3,g3⟩:=DM w.heap.size x2 _ ts t _ cb x1.heap.size (HT1.out.below b2) (pG (eK hu b2) hwr) rN (by omega) B3.size;have hown:∀j,(Value.slice ra ts.length c).ownBlock=some j->w.heap.size<=j:=by
     obtain⟨_,_,hv1,_⟩:=HT1.out;intro j e;rcases hv1.2 with⟨h0,_⟩ | ⟨g0,cap,cur,h0,h1,_⟩
     ·rw[h0]at e;simp[fq]at e
     ·rw[h0]at e;simp[fq]at e;omega
    have hneB:(Value.slice ra ts.length c).ownBlock≠some B:=by
     obtain⟨_,_,hv1,_⟩:=HT1.out;exact dK hv1 HL1.out (by decide)
    have hneZ:(Value.slice ra ts.length c).ownBlock≠some w.heap.size:=by
     obtain⟨_,_,hv1,_⟩:=HT1.out;exact dK hv1 HZ1.out (by decide)
    have B4:w9b w x3:=B3.grown g3 B3.size hown;have L3:=(HL1.out.below b2).grown g3 hneB;have Z3:=(HZ1.out.below b2).grown g3 hneZ;have hvv:∃ra' c',v'=ag ra' (ts.length+1) c':=by
     obtain⟨vs',hv1,hv2,_⟩:=t3;obtain⟨ra',c',rfl, -⟩:=fR hv2;rw[hv1,cX];exact⟨ra',c',rfl⟩
    obtain⟨ra',c',rfl⟩:=hvv;have R3:=ae r3;have hA2:((A':Int)+(t.length:Int)+1)%(C:Int)=(((A'+t.length+1)%C:Nat):Int):=by rw[Int.natCast_emod];norm_cast
    obtain⟨A2,hA2'⟩:∃n,(A'+t.length+1)%C=n:=⟨_,rfl⟩;have hA2l:A2<C:=by rw[←hA2'];exact fO _ (by omega)
    obtain⟨q2,hq2⟩:=w9nm ((q+1)%4294967296);have hq2s:Hid (cH q2):=by show cH q2;unfold cH;omega
    rw[hA2']at hA2 hgo;rw[hq2]at hgo;obtain⟨x4,hx4⟩:=w9nm (x3.setCell ⟨B,0,none⟩ (ag ra' (ts.length+1) c'));obtain⟨x5,hx5⟩:=w9nm (x4.setCell ⟨B,1,none⟩ (ab af (A2:Int)));obtain⟨x6,hx6⟩:=w9nm (x5.setCell ⟨B,2,none⟩ (ab aD q2));have L4:aB x4 B 259 (fM (ag ra' (ts.length+1) c') A' q 0):=by rw[←hx4];exact L3.set 0 _
    have L5:aB x5 B 259 (fM (ag ra' (ts.length+1) c') A2 q 0):=by rw[←hx5];exact L4.set 1 _
    have L6:aB x6 B 259 (fM (ag ra' (ts.length+1) c') A2 q2 0):=by rw[←hx6];exact L5.set 2 _
    have G4:x3.grownBy x4 (some B):=by rw[←hx4];exact iE x3 B 0 _
    have G5:x4.grownBy x5 (some B):=by rw[←hx5];exact iE x4 B 1 _
    have G6:x5.grownBy x6 (some B):=by rw[←hx6];exact iE x5 B 2 _
    have G:=(G4.trans G5).trans G6;have T6:=ae (t3.grownC L3 (by decide) (by decide) G);have B6:w9h w x6:=B4.grown G B4.size (fun j e=>by cases e;exact hBw);have Z6:=ae (Z3.grown G (by simpa using fun e=>hne e.symm));have L6':=ae L6;have d0:x3.cell? ⟨B,0,none⟩=some (ag ra ts.length c):=L3.cell 0 _ rfl;have d0':=L3.frozen 0;have d1:x4.cell? ⟨B,1,none⟩=some (ab af (A':Int)):=L4.cell 1 _ rfl;have d1':=L4.frozen 1;have d2:x5.cell? ⟨B,2,none⟩=some (ab aD q):=L5.cell 2 _ rfl;have d2':=L5.frozen 2;have hln:iu x6 B=ts.length+1:=by unfold iu;rw[L6.cell 0 _ rfl]
    have hln0:Hid (iu wr B=ts.length):=HLN;have HGO:=ae hgo;clear ho hu hrb b2 rN B3 r3 t3 g3 hown hneB hneZ B4 L3 Z3 L4 L5 L6 G4 G5 G6 G hgo HL1 HZ1 HT1 B2;go_wp2_with (first | ((with_reducible refine gG ?_);refine dq _ _ _ rfl rfl [(0,ag (some ⟨g,0,none⟩) t.length cb)] _ rfl SB.out ?_) | (at_builtin;refine wpList_append_run (.tmp 48) (.tmp 50) 257 rfl rfl _ _ _ rfl rfl R3.out ?_));refine⟨⟨ts++ [t],A2,q2,_,by rw[cX];simp;omega,hA2l,hq2s,Z6,L6',T6,B6, ?_⟩,by rw[hln,hln0.out];omega⟩;show fz _ _ _ _ _ _ _=_;rw[cX];exact HGO.out
  ·have g2:decide ((ts.length:Int)< (C:Int))=false:=by simp;omega
   have hgo:=HG.out;rw[show C - ts.length=0 by omega]at hgo;unfold fz at hgo;subst hgo;have LL:=pF HL.out;obtain⟨y,ST,hy,hg⟩:=xl (v:=ag ra ts.length c) (a:=A') (q:=q) (e:=0) HZ.out rfl rfl;have LY:=pF hy;have hty:Hid (eY 231 232 y w.heap.size (ag ra ts.length c) ts):=HT.out.grownC HZ.out (by decide) (by decide) hg;have hby:w9h w y:=HB.out.grown hg HB.out.size (fun j e=>by cases e;exact aJ _);clear hg;go_wp2_with fail;refine bl (ff rfl rfl LY) rfl ⟨⟨_,rfl,hty.out⟩,hby.out⟩
end
section
theorem nD (t:aV) (h:t≠ 51 /\t≠ 205 /\t≠ 254 /\t≠ 259 /\t≠ 232 /\t≠ 244 /\t≠ 226) (a:aN):aE t a=(do if←isAgg t then pure (al (←loadCells a (←sizeOf t)))else load a):=rfl
theorem nE (t:aV) (h:t≠ 51 /\t≠ 254 /\t≠ 259 /\t≠ 232 /\t≠ 244 /\t≠ 226) (a:aN) (v:am):aL t a v=(do
  if v.cells.size≠(←sizeOf t)then stuck "storeVar: the value has not the size of the variable"
  storeCells a v.cells.toList):=rfl
attribute [-simp] isAgg51 zeroValue51 isAgg205 zeroValue205 isAgg254 zeroValue254 isAgg232 zeroValue232 isAgg226 zeroValue226
attribute [-go_sem] aE aL cZ
attribute [local go_sem] bC bD cV iR iQ kv ek nD nE
end
section
attribute [-go_sem] aE aL cZ
attribute [local go_sem] nD nE
def xn (ps:List (Int×Int)) (most:Int):Prop:=(∀p ∈ ps,0<=p.1/\p.1<=65535)/\1<=ps.length/\(ps.length:Int)<=most
instance (ps:List (Int×Int)) (most:Int):Decidable (xn ps most):=by unfold xn;infer_instance
end
section
attribute [-simp] isAgg51 zeroValue51 isAgg205 zeroValue205 isAgg254 zeroValue254 isAgg232 zeroValue232 isAgg226 zeroValue226
attribute [-go_sem] aE aL cZ
attribute [local go_sem] bC bD cV iR iQ kv ek nD nE
theorem ky {P:Program} {C:ak->Prop} {ops:Array Oper} {rest:List Oper} {o:Oper} {a:Act} {Q:Act->Prop} (t:aV) (parts:Array (Nat×Operand))
  (ho:o.op=.build t parts) (hw:Region.wanted o (yielded ops a.tmps)=true) (vs:List (Nat×am)) (v':am) (hs:(parts.toList.map fun(i,x)=>(i,a.eval x))=vs)
  (hrun:∀x,C x->(cY t vs.toArray).run P x=.ok v' x) (h:wpQuiet P ops C Q rest (a.put o.dst v')):wpQuiet P ops C Q (o::rest) a:=by
 unfold wpQuiet;rw[if_pos hw];refine⟨v',fun x hx=> ?_,h⟩;have hs':(parts.map fun(i,x)=>(i,a.eval x))=vs.toArray:=by
  apply Array.toList_inj.1;rw[Array.toList_map,hs]
 unfold Oper.quietAt;simp only[execOp,ho,gR,hs',hrun x hx,ed,Sem.run_pure];exact⟨rfl,rfl⟩
def eQ (v:am) (a:Nat) (q:Int):List am:= [v,ab af (a:Int),ab aD q]
theorem eY.at {eS eI:aV} {x:ak} {N:Nat} {v:am} {ts:List (List Img)} (h:eY eS eI x N v ts):∃ra c,v=ag ra ts.length c/\∀(i:Nat) (t:List Img),ts[i]? =some t->
  ∃g,ra=some ⟨g,0,none⟩/\g<x.heap.size/\∃rb d,x.cell? ⟨g,i,none⟩=some (ag rb t.length d)/\(0<t.length->∃b,rb=some ⟨b,0,none⟩/\b<x.heap.size/\x.rangeAt b 0 (bI t).flatten):=by
 obtain⟨vs,h1,h2,h3⟩:=h;obtain⟨ra,c,rfl,hr⟩:=fR h2;refine⟨ra,c,by rw[h1],fun i t ht=> ?_⟩;have hi:i<vs.length:=by rw[h1];exact(dp.1 ht).1
 obtain⟨g,rfl,hg,hc⟩:=hr (by omega);have hu:=bJ hi;obtain⟨rb,d,hv,hb⟩:=fR (h3 i _ t hu ht);have:=hc i _ hu;rw[dC,hv]at this;exact⟨g,rfl,hg,rb,d,this,hb⟩
end
section
structure RingOk:Prop where
 replay:∀{rb p0 p1:Nat} {S:RS} {w:ak} {f:Nat->Prop},aX rb p0 p1 S w f->S.Byt->S.down=false->∀{F C A:Nat},2<=C->C<=256->F+C<=S.n0->A<C->S.n0<=4096->∀{seq:Int},cH seq->
  az aj 158 #[ao (some ⟨rb,0,none⟩),ab af (F:Int),ab af (C:Int),ab af (A:Int),ab aD seq] w fun e w'=>
   (∃v,e=ar (aQ #[al (eQ v (cC S.rd F C A seq).2.1 (cC S.rd F C A seq).2.2).toArray,ab af 0])/\eY 223 226 w' w.heap.size v (cC S.rd F C A seq).1)/\ah w.heap.size w w'
 replay_no:∀{rb p0 p1:Nat} {S:RS} {w:ak} {f:Nat->Prop},aX rb p0 p1 S w f->S.n0<=4096->∀{frm count at0 seq:Int},iq S.n0 frm count at0=false->
  az aj 158 #[ao (some ⟨rb,0,none⟩),ab af frm,ab af count,ab af at0,ab aD seq] w fun e w'=>e=ar (aQ #[al (eQ (ag none 0 0) 0 0).toArray,ab af 1])/\ah w.heap.size w w'
 replay_nil:∀(frm count at0 seq:Int) (w:ak),
  az aj 158 #[ao none,ab af frm,ab af count,ab af at0,ab aD seq] w fun e w'=>e=ar (aQ #[al (eQ (ag none 0 0) 0 0).toArray,ab af 1])/\ah w.heap.size w w'
 append:∀{rb p0 p1:Nat} {S:RS} {w:ak} {f:Nat->Prop},aX rb p0 p1 S w f->S.fuse<=1000000->0<=S.done->S.done<=900000->S.Few 250->∀{F C A:Nat},2<=C->C<=256->F+C<=S.n0->A<C->S.n0<=4096->∀{seq:Int},cH seq->
  ∀{t:List Img},TxnOk C t->∀{g c:Nat},w.rangeAt g 0 (bI t).flatten->g<w.heap.size->¬f g->
  az aj 146 #[ao (some ⟨rb,0,none⟩),ab af (F:Int),ab af (C:Int),ab af (A:Int),ab aD seq,ag (some ⟨g,0,none⟩) t.length c] w fun e w'=>
   e=ar (aQ #[ab af (if(S.app F C A seq t).2=0 then(((A+t.length+1)%C:Nat):Int)else 0),ab af (S.app F C A seq t).2])/\∃f',aX rb p0 p1 (S.app F C A seq t).1 w' f'/\Turn f f' w w'
 append_no:∀{rb p0 p1:Nat} {S:RS} {w:ak} {f:Nat->Prop},aX rb p0 p1 S w f->S.n0<=4096->∀{frm count at0 seq:Int},iq S.n0 frm count at0=false->∀{a:Option aN} {n c:Nat},n<=1000000->
  az aj 146 #[ao (some ⟨rb,0,none⟩),ab af frm,ab af count,ab af at0,ab aD seq,ag a n c] w fun e w'=>e=ar (aQ #[ab af 0,ab af 1])/\ah w.heap.size w w'
 append_nil:∀(frm count at0 seq:Int) (w:ak) {a:Option aN} {n c:Nat},n<=1000000->
  az aj 146 #[ao none,ab af frm,ab af count,ab af at0,ab aD seq,ag a n c] w fun e w'=>e=ar (aQ #[ab af 0,ab af 1])/\ah w.heap.size w w'
 append_long:∀{rb p0 p1:Nat} {S:RS} {w:ak} {f:Nat->Prop},aX rb p0 p1 S w f->S.n0<=4096->∀{F C A:Nat},2<=C->C<=256->F+C<=S.n0->A<C->∀{seq:Int} {a:Option aN} {n c:Nat},(n<1\/C<n+1)->n<=1000000->
  az aj 146 #[ao (some ⟨rb,0,none⟩),ab af (F:Int),ab af (C:Int),ab af (A:Int),ab aD seq,ag a n c] w fun e w'=>e=ar (aQ #[ab af 0,ab af 2])/\ah w.heap.size w w'
 append_bad:∀{rb p0 p1:Nat} {S:RS} {w:ak} {f:Nat->Prop},aX rb p0 p1 S w f->S.n0<=4096->∀{F C A:Nat},2<=C->C<=256->F+C<=S.n0->A<C->∀{seq:Int},cH seq->∀{t:List Img},1<=t.length->t.length+1<=C->(∀x ∈ t,x.Ok)->(¬∀x ∈ t,x.fits)->∀{g c:Nat},w.rangeAt g 0 (bI t).flatten->g<w.heap.size->
  az aj 146 #[ao (some ⟨rb,0,none⟩),ab af (F:Int),ab af (C:Int),ab af (A:Int),ab aD seq,ag (some ⟨g,0,none⟩) t.length c] w fun e w'=>e=ar (aQ #[ab af 0,ab af 1])/\ah w.heap.size w w'
end
section
attribute [-simp] isAgg51 zeroValue51
attribute [-go_sem] aE aL
attribute [local go_sem] bC bD dZ dQ
theorem pH (dev:Int) (w:ak):az aj 167 #[ao none,ab af dev] w fun e w'=>e=ar (ab af 0)/\ah w.heap.size w w':=by
 have H1:=ae (AK dev w);go_enter func167,ntmps167;go_wp2_with fail;refine H1.out.mono ?_;rintro e x1 ⟨rfl,hb⟩;have HB:=ae hb;clear hb;go_wp2_with fail;refine(ux x1).mono ?_;rintro e w' ⟨rfl,rfl⟩;go_wp2_with fail;go_ret;exact⟨rfl,HB.out⟩
end
section
attribute [-simp] isAgg51 zeroValue51 isAgg205 zeroValue205 isAgg304 zeroValue304 isAgg226 zeroValue226
attribute [-go_sem] aE aL cZ
attribute [local go_sem] bC bD cV eM eN eO ek oO oQ
theorem xo {F C P:Nat} (hC:1<=C) (hC2:C<=256) (hF:F<=4096) (hP:P<=1000000) (w:ak):
  az aj 233 #[ab af (F:Int),ab af (C:Int),ab af (P:Int)] w fun e w'=>e=ar (ab af ((F+P%C:Nat):Int))/\w'=w:=by
 have hz:¬((C:Int)=0):=by omega
 obtain⟨i,hi⟩:=w9nm (F+P%C);have hii:(F:Int)+(P:Int)%(C:Int)=(i:Int):=by rw[←hi];simp
 have hi4:(i:Int)<5000:=by have:=fO P (show 0<C by omega);omega
 rw[hi];clear hi;go_enter func233,ntmps233;go_wp2_with fail;go_ret;exact⟨rfl,rfl⟩
theorem Ed (p:Sct) (hp:p.body.length=48) (seq:Int) (w:ak):
  az aj 234 #[al p.cells.toArray,ab aD seq] w fun e w'=>e=ar (.bool (p.mark==73&&p.seq==seq))/\ah w.heap.size w w':=by
 obtain⟨W,hW⟩:=w9nm (w.alloc (ap p.cells.toArray 304));have r:aB W w.heap.size 304 p.cells:=by rw[←hW];exact aB.new w _ _
 have c0:W.cell? ⟨w.heap.size,0,none⟩=some (ab aq p.mark):=r.cell 0 _ rfl;have c1:W.cell? ⟨w.heap.size,1,none⟩=some (ab aD p.seq):=r.cell 1 _ rfl;have HB:Hid (ah w.heap.size w W):=by show ah _ _ _;rw[←hW];exact aR w _
 obtain⟨mk,hmk⟩:=w9nm p.mark;obtain⟨sq,hsq⟩:=w9nm p.seq;rw[hmk]at c0 ⊢;rw[hsq]at c1 ⊢;clear r hmk hsq;go_enter func234,ntmps234;go_wp2_with fail;all_goals
  go_ret;first | exact⟨rfl,HB.out⟩ | (refine⟨?_,HB.out⟩;simp_all)
theorem xp (seq:Int) (n:Nat) (w:ak):
  az aj 235 #[ab aD seq,ab af (n:Int)] w fun e w'=>e=ar (al (cz seq n).cells.toArray)/\ah w.heap.size w w':=by
 obtain⟨y,ST,r,hb⟩:=nk w (cz seq n) (by simp[cz]);have LD:=r.pg (by simp[cz]);have e1:(cz seq n).cells.toArray=(((cm.set 0 (ab aq 67)).set 1 (ab aD seq)).set 2 (ab af (n:Int))).toArray:=rfl;have HB:=ae hb;rw[e1]at ST;clear r hb;go_enter func235,ntmps235;go_wp2_with fail;refine bl (ff rfl rfl LD) rfl ⟨rfl,HB.out⟩
theorem sN {v:am} {n:Nat} (hn:n<=4096) (frm count at0:Int) (w:ak)
  (HL:az aj 167 #[v,ab af 0] w fun e w'=>e=ar (ab af (n:Int))/\ah w.heap.size w w'):
  az aj 221 #[v,ab af frm,ab af count,ab af at0] w fun e w'=>e=ar (.bool (iq n frm count at0))/\ah w.heap.size w w':=by
 have H:=ae HL;clear HL;have HM:Hid (iq n frm count at0=decide (0<=frm/\2<=count/\count<=256/\frm<=n/\count<=n - frm/\0<=at0/\at0<count)):=rfl;by_cases h1:count<2
 ·go_enter func221,ntmps221;go_wp2_with fail;all_goals
   go_ret;refine⟨?_,aF _ _⟩;rw[HM.out,decide_eq_false (by omega)];rfl
 ·by_cases h2:256<count
  ·go_enter func221,ntmps221;go_wp2_with fail;all_goals
    go_ret;refine⟨?_,aF _ _⟩;rw[HM.out,decide_eq_false (by omega)];rfl
  ·have g1:decide (count<2)=false:=by simpa using h1
   have g2:decide (256<count)=false:=by simpa using h2
   have g3:decide (count>256)=false:=g2;by_cases h3:0<=frm
   ·have g4:decide (0<=frm)=true:=by simpa using h3
    have g5:decide (frm≥0)=true:=g4;go_enter func221,ntmps221;go_wp2_with fail;go_at_call 167;refine H.out.mono ?_;rintro e x ⟨rfl,hb⟩;have HB:=ae hb;clear hb;go_wp2_with fail;all_goals
     go_ret;refine⟨?_,HB.out⟩;rw[HM.out];first
      | (rw[decide_eq_false (by omega)];rfl)
      | (rw[decide_eq_true (by omega)];rfl)
      | (refine congrArg (fun b=>Ending.returned (Value.bool b)) ?_;simp only[decide_eq_decide];omega)
   ·have g4:decide (0<=frm)=false:=by simpa using h3
    have g5:decide (frm≥0)=false:=g4;go_enter func221,ntmps221;go_wp2_with fail;all_goals
     go_ret;refine⟨?_,aF _ _⟩;rw[HM.out,decide_eq_false (by omega)];rfl
theorem nF {s:Nat}:∀{L:List (List am)},(∀x ∈ L,x.length=s)->L.flatten.length=L.length*s
 | [],_=>by simp
 | y::L,h=>by
  rw[List.flatten_cons,cX,nF (fun x hx=>h x (fG _ hx)),h y eV,cK,Nat.succ_mul];omega
theorem mE {w:ak} {g o s:Nat} {L:List (List am)} (hl:∀x ∈ L,x.length=s) (hg:w.rangeAt g o L.flatten) {k:Nat} {x:List am} (hx:L[k]? =some x):w.rangeAt g (o+k*s) x:=by
 obtain⟨hk,e⟩:=dp.1 hx;have e1:L=L.take k++x::L.drop (k+1):=by rw[←e,←List.drop_eq_getElem_cons hk,ki]
 have e2:L.flatten=(L.take k).flatten++(x++(L.drop (k+1)).flatten):=by
  conv=>lhs;rw[e1]
  rw[kj]
  rfl
 have hl1:=nF (L:=L.take k) (fun x hx=>hl x (gX hx));rw[fd,Nat.min_eq_left (iT hk)]at hl1;intro j u hj;have hj':j<x.length:=(dp.1 hj).1;have:=hg (k*s+j) u (by
  rw[e2,fF (by omega),hl1,show k*s+j - k*s=j by omega,eU hj'];exact hj)
 rwa [show o+(k*s+j)=o+k*s+j by omega]at this
theorem Ee {w:ak} {g o:Nat} {L:List (List Int)} (hl:∀b ∈ L,b.length=64) (hg:w.rangeAt g o (L.map an).flatten) {k:Nat} {b:List Int} (hx:L[k]? =some b):w.rangeAt g (o+k*64) (an b):=
 mE (s:=64) (fun x hx=>by obtain⟨y,hy,rfl⟩:=dc.1 hx;rw[bi];exact hl y hy) hg (by rw[du,hx];rfl)
theorem xq {rb p0 p1:Nat} {S:RS} {w:ak} {f:Nat->Prop} (h:aX rb p0 p1 S w f) (hfu:S.fuse<=2000000) (hd:0<=S.done/\S.done<=950000) {m:Nat} (hf:S.Few m) (hm:m<=253) {F C P:Nat} (hC1:1<=C) (hC:C<=256) (hF:F+C<=S.n0) (hn:S.n0<=4096) (hP:P<=100000) {L:List (List Int)} (hL:∀b ∈ L,b.length=64) (hl:L.length<=C) {g o c:Nat} (hg:w.rangeAt g o (L.map an).flatten) (hgl:g<w.heap.size) (hgf:¬f g):
  az aj 223 #[ao (some ⟨rb,0,none⟩),ab af (F:Int),ab af (C:Int),ab af (P:Int),ag (some ⟨g,o,none⟩) L.length c] w fun e w'=>e=ar (ab af (S.st (dN F C P L)).2)/\∃f',aX rb p0 p1 (S.st (dN F C P L)).1 w' f'/\Turn f f' w w':=by
 obtain⟨T,hT⟩:∃T:Nat->RS×Bool,T=fun k=>S.wrs ((dN F C P L).take k):=⟨_,rfl⟩;have hT':∀k,T k=S.wrs ((dN F C P L).take k):=fun k=>by rw[hT]
 have hin:=w5 (L:=L) (P:=P) (C:=C) (by omega) hF;have hnd:=sI (F:=F) (P:=P) hl;have hlen:=wZ F C P L;have HW:Hid (∀k,(T k).1.Fit/\(T k).1.Few 254/\(T k).1.n0=S.n0):=fun k=>by
  have h1:∀x ∈(dN F C P L).take k,x.1<S.n0:=fun x hx=>hin x (gX hx);obtain⟨w1,w2,w3⟩:=RS.wrs_way ((dN F C P L).take k) S;have hll:((dN F C P L).take k).length<=256:=by rw[fd,hlen];omega
  rw[hT' k];exact⟨RS.fit (by omega) (by omega) (by omega),(RS.wrs_few hf (by omega) h1 (List.Nodup.sublist (List.Sublist.map _ (List.take_sublist k _)) hnd)).mono (by omega),(S.wrs_spec _ h1).1.n0⟩
 have HS:Hid (∀k b,L[k]? =some b->(T k).2=true->T (k+1)=((T k).1.write 0 ((F+(P+k)%C:Nat):Int) (an b),decide ((T k).1.writeE 0 ((F+(P+k)%C:Nat):Int)=0))):=fun k b hb ht=>by
  rw[hT']at ht;rw[hT',hT',List.take_add_one,wsAt_get?,hb];exact RS.wrs_last _ S _ _ ht
 have HF:Hid (∀k,(T k).2=false->(S.st (dN F C P L))=((T k).1,14)):=fun k hk=>by
  rw[hT']at hk ⊢;have e:=RS.wrs_stop ((dN F C P L).take k) ((dN F C P L).drop k) S hk;rw[ki]at e;unfold RS.st;rw[e,if_pos hk]
 have HE:Hid ((T L.length).2=true->(S.st (dN F C P L))=((T L.length).1.flush 0,(T L.length).1.flushE 0)):=fun hk=>by
  rw[hT',←hlen,List.take_length]at hk ⊢;unfold RS.st;rw[if_neg (by rw[hk];simp)]
 have H0:Hid (aX rb p0 p1 (T 0).1 w f/\(T 0).2=true):=by
  refine(?_:_/\_);rw[hT'];exact⟨h,rfl⟩
 obtain⟨res,hres⟩:=w9nm (S.st (dN F C P L));rw[hres]at HF HE ⊢;obtain⟨n,hnn⟩:=w9nm L.length;rw[hnn]at HE hl ⊢;have HNN:=ae hnn;have HL:=ae hL;have HG:=ae hg;have HGF:=ae hgf;have HFN:=ae hF;have hn255:n<=256:=by omega
 have hF4:F<=4096:=by omega
 clear h hT hT' hin hnd hlen hfu hd hf hm hL hg hgf hres hnn;go_enter func223,ntmps223;go_wp2_with fail;go_loopw [16] (fun i wr=>∃(k:Nat) (f':Nat->Prop),k<=n/\i=ab af (k:Int)/\Hid ((T k).2=true)/\Hid (aX rb p0 p1 (T k).1 wr f')/\Hid (Turn f f' w wr)) (fun i _=>n - (aW i).toNat)
 case atStart=>exact⟨0,f,bq _,rfl,H0.out.2,H0.out.1,Turn.refl _ _⟩
 case round=>
  obtain⟨k,f1,hk,rfl,HK,HQ,HTU⟩:=hrel;have hmx:=w9x
  by_cases hlt:k<n
  ·have g3:decide ((k:Int)< (n:Int))=true:=by simpa using hlt
   obtain⟨b,hb⟩:∃b,L[k]? =some b:=⟨_,bJ (by rw[HNN.out];exact hlt)⟩;have hbl:bx (an b):=dr (HL.out b (dI hb));have hb64:(an b).length=64:=by rw[bi];exact HL.out b (dI hb)
   have hg':=da HG.out (HTU.out.out g hgl HGF.out);have LD:(aE 51 ⟨g,o+k*64,none⟩).run aj wr=.ok (al (an b).toArray) wr:=dd (Ee HL.out hg' hb) hb64;obtain⟨x2,ST2,hr2,hb2⟩:=ib wr hbl;have LB:∀z:aI x2,(aE 51 ⟨wr.heap.size,0,none⟩).run aj z.1=.ok (al (an b).toArray) z.1:=fun z=>(hr2.below z.2).blk hb64;have HSX:=HS.out k b hb HK.out;obtain⟨T2,hT2⟩:=w9nm (T (k+1));rw[hT2]at HSX;have hway:=HW.out k;have HQ2:=HQ.out.beside hb2;have HT2:Hid (Turn f f1 w x2):=HTU.out.trans (Turn.of_below hb2);have HBL:=ae hbl;have HT2':=ae hT2;have HSX':=ae HSX;have HWR:Hid (∀z:aI x2,az aj 63 #[ao (some ⟨rb,0,none⟩),ab af 0,ab af ((F+(P+k)%C:Nat):Int),al (an b).toArray] z.1 fun e w'=>e=ar (ab af ((T k).1.writeE 0 ((F+(P+k)%C:Nat):Int)))/\∃f',aX rb p0 p1 T2.1 w' f'/\Turn f1 f' z.1 w'):=fun z=>by
    have:=(HQ2.beside z.2).write hway.1 (hway.2.1.mono (by omega)) 0 ((F+(P+k)%C:Nat):Int) hbl;rw[HSX];exact this
   have HSEC:Hid (∀z:ak,az aj 233 #[ab af (F:Int),ab af (C:Int),ab af ((P:Int)+(k:Int))] z fun e w'=>e=ar (ab af ((F+(P+k)%C:Nat):Int))/\w'=z):=fun z=>by
    have:=xo (F:=F) (C:=C) (P:=P+k) hC1 hC hF4 (by omega) z
    rwa [Int.natCast_add]at this
   have hE:(T k).1.writeE 0 ((F+(P+k)%C:Nat):Int)=0\/(T k).1.writeE 0 ((F+(P+k)%C:Nat):Int)=14:=by
    have hi:F+(P+k)%C< (T k).1.n0:=by
     rw[hway.2.2];have:=fO (P+k) (show 0<C by omega);have:=HFN.out;omega
    rcases((T k).1.write0 hi (an b)).2 with⟨_,e,_⟩ | ⟨_,e,_⟩
    ·exact aA e
    ·exact aC e
   obtain⟨we,hwe⟩:=w9nm ((T k).1.writeE 0 ((F+(P+k)%C:Nat):Int));rw[hwe]at HWR hE;have hsx2:T2.2=decide (we=0):=by rw[HSX,hwe]
   have HSX2:=ae hsx2;obtain⟨i,hi⟩:=w9nm (F+(P+k)%C);rw[hi]at HWR HSEC;clear hb hbl hb64 hg' hr2 HSX hway HQ2 hb2 hT2 HSX' hwe hsx2 hi;go_wp2_with fail;refine cM (fun x=>∃y:aI x2,x=y.1) 8 (.takes [0,1,2,3,4,5,7] (.one 6 .leaf)) hmx (by kernel_rfl) (by intro c x v a w h;cases x<;>exact h) ⟨⟨x2.drew,(aF _ x2).drew⟩,rfl⟩ ?_;repeat(rw[bj];simp only[au,ay];go_big_quiet_step (fail);refine aO ?_)
   rw[bo,aT];simp only[au,ay];clear LB;obtain⟨X,hX⟩:=w9nm x2.drew;have hbX:ah x2.heap.size x2 X:=by rw[←hX];exact(aF _ x2).drew
   have HWX:Hid (az aj 63 #[ao (some ⟨rb,0,none⟩),ab af 0,ab af (i:Int),al (an b).toArray] X fun e w'=>e=ar (ab af we)/\∃f',aX rb p0 p1 T2.1 w' f'/\Turn f1 f' X w'):=HWR.out ⟨X,hbX⟩;have HT3:Hid (Turn f f1 w X):=HT2.out.trans (Turn.of_below hbX);have HBX:=ae hbX;rw[hX];clear hX hbX HWR HT2;go_wp2_with fail;go_at_call 233;refine(HSEC.out _).mono ?_;rintro e z ⟨rfl,hz⟩;obtain rfl:=hz.symm;clear HSEC;go_wp2_with fail;refine aG ⟨⟨X,HBX.out⟩,rfl⟩ ?_;rw[cu];simp only[be,bf];go_wp2_with fail;go_at_call 63;refine HWX.out.mono ?_;rintro e x5 ⟨rfl,f5,g1,g2⟩;have Q5:=ae g1;have T5:=ae (HT3.out.trans g2);clear g1 g2 HWX HT3;by_cases h0:we=0
   ·subst h0;have HK2:Hid ((T (k+1)).2=true):=by show _=_;rw[HT2'.out,HSX2.out];rfl
    have Q6:Hid (aX rb p0 p1 (T (k+1)).1 x5 f5):=by show aX _ _ _ _ _ _;rw[HT2'.out];exact Q5.out
    go_wp2_with fail;go_roundw
    case rel=>exact⟨k+1,f5,hlt,by go_num,HK2,Q6,T5⟩
    case measure=>simp[aW];omega
   ·obtain rfl:we=14:=hE.resolve_left h0;have HR:Hid (res=(T2.1,14)):=by
     show _=_;rw[←HT2'.out];exact HF.out (k+1) (by rw[HT2'.out,HSX2.out];rfl)
    go_wp2_with fail;go_ret;rw[HR.out];exact⟨rfl,f5,Q5.out,T5.out⟩
  ·have g3:decide ((k:Int)< (n:Int))=false:=by simpa using hlt
   obtain rfl:k=n:=by omega
   have hway:=HW.out k;have HFL:=ae (HQ.out.flush hway.1 0);have HR:=ae (HE.out HK.out);clear hway;go_wp2_with fail;go_at_call 81;refine HFL.out.mono ?_;rintro e x5 ⟨rfl,f5,g1,g2⟩;have Q5:=ae g1;have T5:=ae (HTU.out.trans g2);clear g1 g2 HFL;go_wp2_with fail;go_ret;rw[HR.out];exact⟨rfl,f5,Q5.out,T5.out⟩
end
section
theorem sO (t:aV) (h:t≠ 51 /\t≠ 304 /\t≠ 205 /\t≠ 226 /\t≠ 244) (a:aN):aE t a=(do if←isAgg t then pure (al (←loadCells a (←sizeOf t)))else load a):=rfl
theorem sP (t:aV) (h:t≠ 51 /\t≠ 304 /\t≠ 226 /\t≠ 244) (a:aN) (v:am):aL t a v=(do
  if v.cells.size≠(←sizeOf t)then stuck "storeVar: the value has not the size of the variable"
  storeCells a v.cells.toList):=rfl
attribute [-simp] isAgg51 zeroValue51 isAgg205 zeroValue205 isAgg304 zeroValue304 isAgg226 zeroValue226
attribute [-go_sem] aE aL cZ
attribute [local go_sem] bC bD cV eM eN eO ek sO sP
theorem xr (m s i:Int) (c:List am) (hc:c.length=48) (w:ak):
  (cY 304 #[(0,ab aq m),(1,ab aD s),(2,ab af i),(3,al c.toArray)]).run aj w=.ok (al (Value.int aq m:: ab aD s:: ab af i::c).toArray) w:=by
 refine run_build w _ _ _ ?_;have e:fe kO cm.toArray [(0,ab aq m),(1,ab aD s),(2,ab af i),(3,al c.toArray)]=some (Value.int aq m:: ab aD s:: ab af i::c).toArray:=by
  have h3:fe kO cm.toArray [(0,ab aq m),(1,ab aD s),(2,ab af i),(3,al c.toArray)]=fe kO (((cm.set 0 (ab aq m)).set 1 (ab aD s)).set 2 (ab af i)).toArray [(3,al c.toArray)]:=rfl;have hz:(((cm.set 0 (ab aq m)).set 1 (ab aD s)).set 2 (ab af i)).toArray.size=51:=by simp[cm,an]
  rw[h3];have p3:kO 3=some (3,48):=rfl;simp only[fe,p3,Value.cells];refine(if_neg ?_).trans ?_
  ·intro h;rcases Bool.or_eq_true_iff.1 h with h | h
   ·exact(of_decide_eq_true h) (by simpa using hc)
   ·have h':3+c.toArray.size>(((cm.set 0 (ab aq m)).set 1 (ab aD s)).set 2 (ab af i)).toArray.size:=of_decide_eq_true h;rw[hz,dU,hc]at h';omega
  congr 1
  rw[←Array.foldl_toList,Array.toList_zipIdx,oY];apply Array.ext_getElem?;intro j;rw[mT c 3 _ j (by rw[hz,hc];omega)]
  match j with
  | 0=>rfl
  | 1=>rfl
  | 2=>rfl
  | j+3=>
   by_cases hj:j<48
   ·rw[if_pos (by omega)];simp
   ·rw[if_neg (by omega),Array.getElem?_eq_none (by omega)];simp;omega
 exact e
theorem xt (x:ak) (i:Img) (hi:i.body.length=48):∃y,(aL 226 ⟨x.heap.size,0,none⟩ (al i.cells.toArray)).run aj (x.alloc (ap eh.toArray 226))=.ok () y/\aB y x.heap.size 226 i.cells/\ah x.heap.size x y:=
 ⟨_,Ct nr (Img.cells_length hi) (Img.cells_one i),aB.new x _ _,aR x _⟩
theorem Eg {x:ak} {B:Nat} {i:Img} {t:aV} (h:aB x B t i.cells) (hi:i.body.length=48):(aE 205 ⟨B,1,none⟩).run aj x=.ok (al (an i.body).toArray) x:=
 iH (jO (a:= [ab af i.index]) (b:=an i.body) h) (by rw[bi,hi])
def iS (seq:Int) (t:List Img):List (List am):=t.map fun x=>an (df seq x).bytes
theorem xu (seq:Int) (t:List Img):(iS seq t).length=t.length:=by simp[iS]
theorem Eh (seq:Int) (t:List Img):(bu seq t).map an=iS seq t++ [an (cz seq t.length).bytes]:=by
 unfold bu iS;rw[fp,iA]
 rfl
theorem xv {w:ak} {t:List Img} (hn:t.length<=65535) (hok:∀x ∈ t,x.Ok) {seq:Int} (hs:cH seq) {g c:Nat} (hg:w.rangeAt g 0 (bI t).flatten) (hgl:g<w.heap.size):
  az aj 222 #[ab aD seq,ag (some ⟨g,0,none⟩) t.length c] w fun e w'=>
   ((∀x ∈ t,x.fits)->∃v,e=ar (aQ #[v,.bool true])/\w'.ownsRow w.heap.size 51 64 v ((bu seq t).map an).length ((bu seq t).map an).flatten)/\
   ((¬∀x ∈ t,x.fits)->e=ar (aQ #[ag none 0 0,.bool false]))/\ah w.heap.size w w':=by
 obtain⟨n,hnn⟩:=w9nm t.length;have HNN:=ae hnn;have HOK:=ae hok;have HSQ:=ae hs;have HG:=ae hg;rw[hnn]at hn ⊢;clear hok hs hg hnn;go_enter func222,ntmps222;go_wp2_with fail;go_loopw [4,14] (fun l i wr=>∃k:Nat,k<=n/\i=ab af (k:Int)/\Hid (wr.ownsRow w.heap.size 51 64 l (iS seq (t.take k)).length (iS seq (t.take k)).flatten)/\w9h w wr/\Hid (∀j x,j<k->t[j]? =some x->x.fits)) (fun _ i _=>n - (aW i).toNat)
 case atStart=>exact⟨0,bq _,rfl,ft _ _ _ _,aF _ _,fun j x h=>absurd h (Nat.not_lt_zero _)⟩
 case round=>
  obtain⟨k,hk,rfl,HO,HB,HK⟩:=hrel;by_cases hlt:k<n
  ·have g3:decide ((k:Int)< (n:Int))=true:=by simpa using hlt
   obtain⟨x,hx⟩:∃x,t[k]? =some x:=⟨_,bJ (by rw[HNN.out];exact hlt)⟩;have hxo:=HOK.out x (dI hx);have hg':=eL HB.out hgl HG.out;have L0:(aE 226 ⟨g,k*49,none⟩).run aj wr=.ok (al x.cells.toArray) wr:=vN (pA hg' HOK.out hx) (Img.cells_length hxo.len);obtain⟨x1,ST1,hr1,hb1⟩:=xt wr x hxo.len;have B1:=w9bt HB hb1;have O1:=ae (gI HO.out hb1);have c1:x1.cell? ⟨wr.heap.size,0,none⟩=some (ab af x.index):=hr1.cell 0 _ rfl;have L1:=Eg hr1 hxo.len;have BI:Hid ((cY 304 #[(0,ab aq 73),(1,ab aD seq),(2,ab af x.index),(3,al (an x.body).toArray)]).run aj x1=.ok (al (df seq x).cells.toArray) x1):=xr 73 seq x.index (an x.body) (by rw[bi];exact hxo.len) x1;have HX:=ae hx;have HXO:=ae hxo;have hP:(df seq x).Ok:=jz HSQ.out hxo;have HP:=ae hP;clear hx hxo hg' hr1 hb1 hP;go_wp2_with (first | ((with_reducible refine gU 304 ?_);refine fJ _ _ rfl rfl [(0,ab aq 73),(1,ab aD seq),(2,ab af x.index),(3,al (an x.body).toArray)] _ rfl BI.out ?_));clear L0 ST1 c1 L1 BI;go_at_call 264;refine(oT (df seq x) HP.out x1).mono ?_;rintro e x2 ⟨rfl,hb⟩;obtain⟨x3,ST3,hr3,hb3⟩:=ib x2 (vF HP.out);have b3:w9b x1 x3:=hb.trans (hb3.mono hb.size);have B3:=w9bt B1 b3;have O3:=ae (gI O1.out b3);have L3:(aE 51 ⟨x2.heap.size,0,none⟩).run aj x3=.ok (al (df seq x).code.toArray) x3:=hr3.blk (vF HP.out).length;clear hb hr3 hb3 b3 O1 B1;by_cases hft:x.fits
   ·have eE:(df seq x).codeE=0:=by unfold Sct.codeE;rw[if_pos (lu hft)]
    have eC:(df seq x).code=an (df seq x).bytes:=by unfold Sct.code;rw[if_pos (lu hft)]
    rw[eE];rw[eC]at ST3 L3 ⊢;have hbl:bx (an (df seq x).bytes):=dr (Sct.bytes_length HP.out);obtain⟨x4,hx4⟩:=w9nm (x3.alloc (ap (an (df seq x).bytes).toArray 51));have SB:Hid ((cO 54 1 #[(0,al (an (df seq x).bytes).toArray)]).run aj x3=.ok (ag (some ⟨x3.heap.size,0,none⟩) 1 1) x4):=by show _=_;rw[←hx4];exact oo x3 _ hbl.length
    have b4:ah x3.heap.size x3 x4:=by rw[←hx4];exact aR x3 _
    have B4:w9b w x4:=B3.out.trans (b4.mono B3.out.size);have O4:=gI O3.out b4;obtain⟨v6,x6,r6,o6,g6, -⟩:=oq w.heap.size x4 u4 (iS seq (t.take k)) (an (df seq x).bytes) x3.heap.size O4 hbl (dJ (t:= 51) (by rw[←hx4];exact bR x3 _)) (by rw[xu,fd];omega) B4.size;have R6:=ae r6;have B6:w9h w x6:=B4.grown g6 B4.size (fun j e=>(O4.lt j e).1);have O6:Hid (x6.ownsRow w.heap.size 51 64 v6 (iS seq (t.take (k+1))).length (iS seq (t.take (k+1))).flatten):=by
     have e:iS seq (t.take (k+1))=iS seq (t.take k)++ [an (df seq x).bytes]:=by
      rw[List.take_add_one,HX.out];unfold iS;rw[fp]
      rfl
     show World.ownsRow _ _ _ _ _ _ _;rw[e];exact o6
    have HK2:Hid (∀j z,j<k+1->t[j]? =some z->z.fits):=fun j z hj hz=>by
     rcases Nat.lt_or_ge j k with h | h
     ·exact HK.out j z h hz
     ·obtain rfl:j=k:=by omega
      rw[HX.out]at hz;cases hz;exact hft
    clear eE eC hbl hx4 b4 B4 O4 r6 o6 g6 hft;go_wp2_with (first | ((with_reducible refine gG ?_);refine dq _ _ _ rfl rfl [(0,al (an (df seq x).bytes).toArray)] _ rfl SB.out ?_) | (at_builtin;refine wpList_append_run (.tmp 30) (.tmp 32) 54 rfl rfl _ _ _ rfl rfl R6.out ?_));go_roundw
    case rel=>exact⟨k+1,hlt,by go_num,O6,B6,HK2⟩
    case measure=>simp[aW];omega
   ·have eE:(df seq x).codeE=11:=by unfold Sct.codeE;rw[if_neg (fun h=>hft (of_decide_eq_true h).2)]
    have HBAD:Hid (¬∀x ∈ t,x.fits):=fun h=>hft (h x (dI HX.out));rw[eE];clear eE hft;go_wp2_with fail;go_ret2;exact⟨fun h=>absurd h HBAD.out,fun _=>rfl,B3.out⟩
  ·have g3:decide ((k:Int)< (n:Int))=false:=by simpa using hlt
   obtain rfl:k=n:=by omega
   have HFT:Hid (∀x ∈ t,x.fits):=fun x hx=>by
    obtain⟨j,hj⟩:=List.mem_iff_getElem?.1 hx;exact HK.out j x (by have:=(dp.1 hj).1;rw[HNN.out]at this;omega) hj
   have HO':Hid (wr.ownsRow w.heap.size 51 64 u4 (iS seq t).length (iS seq t).flatten):=by
    have:=HO.out;rw[←HNN.out,List.take_length]at this;exact this
   have hP:(cz seq k).Ok:=jQ HSQ.out;have hF:(cz seq k).fits=true:=mR hn;have HP:=ae hP;have HF:=ae hF;clear hP hF HK HO;go_wp2_with fail;go_at_call 235;refine(xp seq k wr).mono ?_;rintro e x1 ⟨rfl,hb1⟩;have B1:=w9bt HB hb1;have O1:=ae (gI HO'.out hb1);clear hb1;go_wp2_with fail;go_at_call 264;refine(oT (cz seq k) HP.out x1).mono ?_;rintro e x2 ⟨rfl,hb⟩;have eE:(cz seq k).codeE=0:=by unfold Sct.codeE;rw[if_pos HF.out]
   have eC:(cz seq k).code=an (cz seq k).bytes:=by unfold Sct.code;rw[if_pos HF.out]
   rw[eE,eC];have hbl:bx (an (cz seq k).bytes):=dr (Sct.bytes_length HP.out);obtain⟨x3,ST3,hr3,hb3⟩:=ib x2 hbl;have b3:w9b x1 x3:=hb.trans (hb3.mono hb.size);have B3:w9b w x3:=B1.out.trans (b3.mono B1.out.size);have O3:=gI O1.out b3;have L3:(aE 51 ⟨x2.heap.size,0,none⟩).run aj x3=.ok (al (an (cz seq k).bytes).toArray) x3:=hr3.blk hbl.length;obtain⟨x4,hx4⟩:=w9nm (x3.alloc (ap (an (cz seq k).bytes).toArray 51));have SB:Hid ((cO 54 1 #[(0,al (an (cz seq k).bytes).toArray)]).run aj x3=.ok (ag (some ⟨x3.heap.size,0,none⟩) 1 1) x4):=by show _=_;rw[←hx4];exact oo x3 _ hbl.length
   have b4:ah x3.heap.size x3 x4:=by rw[←hx4];exact aR x3 _
   have B4:w9b w x4:=B3.trans (b4.mono B3.size);have O4:=gI O3 b4;obtain⟨v6,x6,r6,o6,g6, -⟩:=oq w.heap.size x4 u4 (iS seq t) (an (cz seq k).bytes) x3.heap.size O4 hbl (dJ (t:= 51) (by rw[←hx4];exact bR x3 _)) (by rw[xu,HNN.out];omega) B4.size;have R6:=ae r6;have B6:w9h w x6:=B4.grown g6 B4.size (fun j e=>(O4.lt j e).1);have O6:Hid (x6.ownsRow w.heap.size 51 64 v6 ((bu seq t).map an).length ((bu seq t).map an).flatten):=by
    show World.ownsRow _ _ _ _ _ _ _;rw[Eh,HNN.out];exact o6
   clear eE eC hbl hx4 b4 B4 O4 r6 o6 g6 hb hr3 hb3 b3 B3 O3 O1 B1;go_wp2_with (first | ((with_reducible refine gG ?_);refine dq _ _ _ rfl rfl [(0,al (an (cz seq k).bytes).toArray)] _ rfl SB.out ?_) | (at_builtin;refine wpList_append_run (.tmp 43) (.tmp 45) 54 rfl rfl _ _ _ rfl rfl R6.out ?_));go_ret2;exact⟨fun _=>⟨_,rfl,O6.out⟩,fun h=>absurd HFT.out h,B6.out⟩
end
section
attribute [-simp] isAgg51 zeroValue51 isAgg205 zeroValue205 isAgg304 zeroValue304 isAgg226 zeroValue226
attribute [-go_sem] aE aL cZ
attribute [local go_sem] bC bD cV eM eN eO ek sO sP
theorem pI:aj.underlying 54 =some (.slice (aj.elem 54)):=by kernel_rfl
theorem xx (W:ak):(sizeOf (aj.elem 54)).run aj W=.ok 64 W:=by kernel_rfl
theorem Ei (W:ak) {g o n c K:Nat} (hK:K<=n) (hc:n<=c):(Instr.sliceAt 54 (ag (some ⟨g,o,none⟩) n c) none (some (ab af (K:Int))) none).run aj W=.ok (ag (some ⟨g,o,none⟩) K c) W:=by
 rw[run_sliceAt_slice (h:=pI),run_slice_h (ht:=pI) (kh:=af) (h0:=by omega) (h2:=by omega),xx];simp only[Result.andThen,sliced,gO,Nat.zero_mul,uf,ite_self,Nat.sub_zero]
theorem Ej (W:ak) {g o n c K:Nat} (hK:K<n) (hc:n<=c):(Instr.sliceAt 54 (ag (some ⟨g,o,none⟩) n c) (some (ab af (K:Int))) none none).run aj W=.ok (ag (some ⟨g,o+K*64,none⟩) (n - K) (c - K)) W:=by
 rw[run_sliceAt_slice (h:=pI),run_slice_l (ht:=pI) (kl:=af) (h0:=by omega) (h1:=by omega),xx];simp only[Result.andThen,sliced,gO];rw[if_neg (by omega)];simp[Addr.add]
theorem jm {x:ak} {N e sz n:Nat} {v:am} {xs:List am} (h:x.ownsRow N e sz v n xs) (hn:0<n):∃g c,v=ag (some ⟨g,0,none⟩) n c/\N<=g/\n<=c/\g<x.heap.size/\x.rangeAt g 0 xs:=by
 rcases h.2 with⟨rfl,rfl⟩ | ⟨g,cap,cur,rfl,h1,hg,h2,_⟩
 ·exact absurd hn (by omega)
 ·refine⟨g,cap,rfl,h1,h2,(cj.1 hg).1,fun j u hj=> ?_⟩;have:=h.cells (g:=g) rfl j u hj
  rwa [Addr.add_mid]at this
theorem Ek {L:List (List am)} {n:Nat} (hn:n<=L.length):∃r,L.flatten=(L.take n).flatten++r:=⟨(L.drop n).flatten,by rw[←kj,ki]⟩
theorem El {w:ak} {g o:Nat} {a b:List am} (h:w.rangeAt g o (a++b)):w.rangeAt g o a:=fun j u hj=>h j u (by rw[eU (dp.1 hj).1];exact hj)
theorem Em {w:ak} {g o k:Nat} {a b:List am} (h:w.rangeAt g o (a++b)) (hk:a.length=k):w.rangeAt g (o+k) b:=fun j u hj=>by
 have:=h (k+j) u (by rw[fF (by omega),hk,Nat.add_sub_cancel_left];exact hj)
 rwa [←Nat.add_assoc]at this
section
theorem xy {v:am} {n0:Nat} {w:ak} (hn:n0<=4096) (HL:∀x,w9b w x->az aj 167 #[v,ab af 0] x fun e w'=>e=ar (ab af (n0:Int))/\ah x.heap.size x w') {frm count at0 seq:Int} (hm:iq n0 frm count at0=false) {a:Option aN} {n c:Nat}:
  az aj 146 #[v,ab af frm,ab af count,ab af at0,ab aD seq,ag a n c] w fun e w'=>e=ar (aQ #[ab af 0,ab af 1])/\ah w.heap.size w w':=by
 have HF:=ae (sN hn frm count at0 w (HL w (aF _ _)));rw[hm]at HF;clear HL hm hn;go_enter func146,ntmps146;go_wp2_with fail;go_at_call 221;refine HF.out.mono ?_;rintro e x ⟨rfl,hb⟩;have HB:=ae hb;clear hb;go_wp2_with fail;go_ret2;exact⟨rfl,HB.out⟩
theorem En {rb p0 p1:Nat} {S:RS} {w:ak} {f:Nat->Prop} (h:aX rb p0 p1 S w f) (hn:S.n0<=4096) {frm count at0 seq:Int} (hm:iq S.n0 frm count at0=false) {a:Option aN} {n c:Nat}:
  az aj 146 #[ao (some ⟨rb,0,none⟩),ab af frm,ab af count,ab af at0,ab aD seq,ag a n c] w fun e w'=>e=ar (aQ #[ab af 0,ab af 1])/\ah w.heap.size w w':=
 xy hn (fun x hx=>(h.beside hx).len 0) hm
theorem Eo (frm count at0 seq:Int) (w:ak) {a:Option aN} {n c:Nat}:
  az aj 146 #[ao none,ab af frm,ab af count,ab af at0,ab aD seq,ag a n c] w fun e w'=>e=ar (aQ #[ab af 0,ab af 1])/\ah w.heap.size w w':=
 xy (n0:=0) (by omega) (fun x _=>pH 0 x) (by unfold iq;exact decide_eq_false (by omega))
theorem pJ {rb p0 p1:Nat} {S:RS} {w:ak} {f:Nat->Prop} (h:aX rb p0 p1 S w f) (hn:S.n0<=4096) {F C A:Nat} (hC2:2<=C) (hC:C<=256) (hF:F+C<=S.n0) (hA:A<C):
  az aj 221 #[ao (some ⟨rb,0,none⟩),ab af (F:Int),ab af (C:Int),ab af (A:Int)] w fun e w'=>e=ar (.bool true)/\ah w.heap.size w w':=by
 have:=sN hn F C A w (h.len 0);rw[show iq S.n0 F C A=true by unfold iq;simp;omega]at this;exact this
theorem Ep {rb p0 p1:Nat} {S:RS} {w:ak} {f:Nat->Prop} (h:aX rb p0 p1 S w f) (hn:S.n0<=4096) {F C A:Nat} (hC2:2<=C) (hC:C<=256) (hF:F+C<=S.n0) (hA:A<C) {seq:Int} {a:Option aN} {n c:Nat} (hl:n<1\/C<n+1) (hnb:n<=1000000):
  az aj 146 #[ao (some ⟨rb,0,none⟩),ab af (F:Int),ab af (C:Int),ab af (A:Int),ab aD seq,ag a n c] w fun e w'=>e=ar (aQ #[ab af 0,ab af 2])/\ah w.heap.size w w':=by
 have HF:=ae (pJ h hn hC2 hC hF hA);clear h hF hn hA;by_cases h1:n<1
 ·obtain rfl:n=0:=by omega
  clear h1 hl hnb;go_enter func146,ntmps146;go_wp2_with fail;go_at_call 221;refine HF.out.mono ?_;rintro e x ⟨rfl,hb⟩;have HB:=ae hb;clear hb;go_wp2_with fail;go_ret2;exact⟨rfl,HB.out⟩
 ·have g1:((n:Int)==0)=false:=by simp;omega
  have g2:decide ((C:Int) - 1< (n:Int))=true:=by simp;omega
  have g2':decide ((n:Int)>(C:Int) - 1)=true:=g2;go_enter func146,ntmps146;go_wp2_with fail;go_at_call 221;refine HF.out.mono ?_;rintro e x ⟨rfl,hb⟩;have HB:=ae hb;clear hb;go_wp2_with fail;go_ret2;exact⟨rfl,HB.out⟩
theorem Er {rb p0 p1:Nat} {S:RS} {w:ak} {f:Nat->Prop} (h:aX rb p0 p1 S w f) (hn:S.n0<=4096) {F C A:Nat} (hC2:2<=C) (hC:C<=256) (hF:F+C<=S.n0) (hA:A<C) {seq:Int} (hs:cH seq) {t:List Img} (n1:1<=t.length) (n2:t.length+1<=C) (hok:∀x ∈ t,x.Ok) (hbad:¬∀x ∈ t,x.fits) {g c:Nat} (hg:w.rangeAt g 0 (bI t).flatten) (hgl:g<w.heap.size):
  az aj 146 #[ao (some ⟨rb,0,none⟩),ab af (F:Int),ab af (C:Int),ab af (A:Int),ab aD seq,ag (some ⟨g,0,none⟩) t.length c] w fun e w'=>e=ar (aQ #[ab af 0,ab af 1])/\ah w.heap.size w w':=by
 have HF:=ae (pJ h hn hC2 hC hF hA);have HE:Hid (∀x,w9b w x->az aj 222 #[ab aD seq,ag (some ⟨g,0,none⟩) t.length c] x fun e w'=>e=ar (aQ #[ag none 0 0,.bool false])/\ah x.heap.size x w'):=fun x hx=>
  (xv (by omega) hok hs (eL hx hgl hg) (aU hgl hx.size)).mono fun e w' hh=>⟨hh.2.1 hbad,hh.2.2⟩
 obtain⟨n,hnn⟩:=w9nm t.length;rw[hnn]at n1 n2 HE ⊢;have g1:((n:Int)==0)=false:=by simp;omega
 have g2:decide ((C:Int) - 1< (n:Int))=false:=by simp;omega
 have g2':decide ((n:Int)>(C:Int) - 1)=false:=g2;clear h hF hn hA hok hbad hg hgl hnn;go_enter func146,ntmps146;go_wp2_with fail;go_at_call 221;refine HF.out.mono ?_;rintro e x ⟨rfl,hb⟩;have HB:=ae hb;have HE2:=ae (HE.out x hb);clear hb;go_wp2_with fail;go_at_call 222;refine HE2.out.mono ?_;rintro e y ⟨rfl,hb⟩;have HB2:=w9bt HB hb;clear hb;go_wp2_with fail;go_ret2;exact⟨rfl,HB2.out⟩
end
theorem Es {rb p0 p1:Nat} {S:RS} {w:ak} {f:Nat->Prop} (h:aX rb p0 p1 S w f) (hfu:S.fuse<=1000000) (hd0:0<=S.done) (hd1:S.done<=900000) (hf:S.Few 250) {F C A:Nat} (hC2:2<=C) (hC:C<=256) (hF:F+C<=S.n0) (hA:A<C) (hn:S.n0<=4096) {seq:Int} (hs:cH seq)
  {t:List Img} (ht:TxnOk C t) {g c:Nat} (hg:w.rangeAt g 0 (bI t).flatten) (hgl:g<w.heap.size) (hgf:¬f g):
  az aj 146 #[ao (some ⟨rb,0,none⟩),ab af (F:Int),ab af (C:Int),ab af (A:Int),ab aD seq,ag (some ⟨g,0,none⟩) t.length c] w fun e w'=>
   e=ar (aQ #[ab af (if(S.app F C A seq t).2=0 then(((A+t.length+1)%C:Nat):Int)else 0),ab af (S.app F C A seq t).2])/\∃f',aX rb p0 p1 (S.app F C A seq t).1 w' f'/\Turn f f' w w':=by
 have HF:=ae (pJ h hn hC2 hC hF hA);have n1:=ht.least;have n2:=ht.most;have HE:Hid (∀x,w9b w x->az aj 222 #[ab aD seq,ag (some ⟨g,0,none⟩) t.length c] x fun e w'=>(∃v,e=ar (aQ #[v,.bool true])/\w'.ownsRow x.heap.size 51 64 v ((bu seq t).map an).length ((bu seq t).map an).flatten)/\ah x.heap.size x w'):=fun x hx=>
  (xv (by omega) ht.ok hs (eL hx hgl hg) (aU hgl hx.size)).mono fun e w' hh=>⟨hh.1 ht.fits,hh.2.2⟩
 have hin:∀P L,∀x ∈ dN F C P L,x.1<S.n0:=fun P L=>w5 (by omega) hF;have htl:((bu seq t).take t.length).length=t.length:=by rw[fd,gY];omega
 have hdl:((bu seq t).drop t.length).length=1:=by rw[dx,gY];omega
 have h64:∀b ∈ bu seq t,b.length=64:=fun b hb=>by
  unfold bu at hb;rcases gW.1 hb with hb | hb
  ·obtain⟨x,hx,rfl⟩:=dc.1 hb;exact Sct.bytes_length (jz hs (ht.ok x hx))
  ·simp at hb;rw[hb];exact Sct.bytes_length (jQ hs)
 obtain⟨s1,s2,s3,s4,s5,s6⟩:=RS.st_spec (hin A ((bu seq t).take t.length)) (sI (by omega)) hf (by omega);have hst:=S.app_st F C A seq t;rw[wZ,htl]at s4;have HST1:Hid (∀(x:ak) (B c:Nat),aX rb p0 p1 S x f->x.rangeAt B 0 ((bu seq t).map an).flatten->B<x.heap.size->¬f B->
   az aj 223 #[ao (some ⟨rb,0,none⟩),ab af (F:Int),ab af (C:Int),ab af (A:Int),ag (some ⟨B,0,none⟩) t.length c] x fun e w'=>e=ar (ab af (S.st (dN F C A ((bu seq t).take t.length))).2)/\∃f',aX rb p0 p1 (S.st (dN F C A ((bu seq t).take t.length))).1 w' f'/\Turn f f' x w'):=fun x B c hx hr hB hfB=>by
  have:=xq (P:=A) (c:=c) hx (by omega) ⟨hd0,by omega⟩ hf (by omega) (by omega) hC hF hn (by omega) (L:=(bu seq t).take t.length) (fun b hb=>h64 b (gX hb)) (by omega) (g:=B) (o:=0) (by
   obtain⟨r,e⟩:=Ek (L:=(bu seq t).map an) (n:=t.length) (by simp[gY]);rw[e]at hr;rw[List.map_take];exact El hr) hB hfB
  rw[htl]at this;exact this
 have HST2:Hid (∀(x:ak) (B c:Nat) (f':Nat->Prop),aX rb p0 p1 (S.st (dN F C A ((bu seq t).take t.length))).1 x f'->x.rangeAt B 0 ((bu seq t).map an).flatten->B<x.heap.size->¬f' B->
   az aj 223 #[ao (some ⟨rb,0,none⟩),ab af (F:Int),ab af (C:Int),ab af ((A:Int)+(t.length:Int)),ag (some ⟨B,t.length*64,none⟩) 1 c] x fun e w'=>e=ar (ab af (((S.st (dN F C A ((bu seq t).take t.length))).1.st (dN F C (A+t.length) ((bu seq t).drop t.length))).2))/\∃f'',aX rb p0 p1 ((S.st (dN F C A ((bu seq t).take t.length))).1.st (dN F C (A+t.length) ((bu seq t).drop t.length))).1 w' f''/\Turn f' f'' x w'):=fun x B c f' hx hr hB hfB=>by
  have:=xq (P:=A+t.length) (c:=c) hx (by omega) ⟨by omega,by omega⟩ s5 (by omega) (by omega) hC (by rw[s1];exact hF) (by rw[s1];exact hn) (by omega) (L:=(bu seq t).drop t.length) (fun b hb=>h64 b (List.mem_of_mem_drop hb)) (by omega) (g:=B) (o:=t.length*64) (by
   have e:((bu seq t).map an).flatten=(((bu seq t).map an).take t.length).flatten++(((bu seq t).map an).drop t.length).flatten:=by rw[←kj,ki]
   rw[e]at hr;rw[List.map_drop];have:=Em hr (k:=t.length*64) (by
    rw[←List.map_take,nF (s:=64) (fun x hx=>by obtain⟨y,hy,rfl⟩:=dc.1 hx;rw[bi];exact h64 y (gX hy)),fZ,htl])
   rwa [dC]at this) hB hfB
  rw[hdl,Int.natCast_add]at this;exact this
 have HLT:Hid (∀j,f j->j<w.heap.size):=(aX.isRes rb p0 p1 S).lt h;have hlen:((bu seq t).map an).length=t.length+1:=by rw[fZ,gY]
 obtain⟨a1,ha1⟩:=w9nm (S.st (dN F C A ((bu seq t).take t.length)));rw[ha1]at hst HST1 HST2 s6;obtain⟨a2,ha2⟩:=w9nm (a1.1.st (dN F C (A+t.length) ((bu seq t).drop t.length)));rw[ha2]at hst HST2;obtain⟨R,hR⟩:=w9nm (S.app F C A seq t);rw[hR]at hst ⊢;have HRR:=ae hst;have H:=ae h;have h2E:a2.2=0\/a2.2=14:=by
  have:=(RS.st_spec (S:=a1.1) (l:=dN F C (A+t.length) ((bu seq t).drop t.length)) (by rw[←ha1,s1];exact hin _ _) (sI (by omega)) (by rw[←ha1];exact s5) (by omega)).2.2.2.2.2
  rwa [ha2]at this
 obtain⟨ys,hys⟩:=w9nm ((bu seq t).map an);rw[hys]at HE HST1 HST2 hlen;obtain⟨n,hnn⟩:=w9nm t.length;rw[hnn]at n1 n2 HE HST1 HST2 hlen ⊢;have g1:((n:Int)==0)=false:=by simp;omega
 have g2:decide ((C:Int) - 1< (n:Int))=false:=by simp;omega
 have g2':decide ((n:Int)>(C:Int) - 1)=false:=g2;have hYL:=ae hlen;obtain⟨r1,hr1⟩:∃r,(if R.2=0 then(((A+n+1)%C:Nat):Int)else 0)=r:=⟨_,rfl⟩;obtain⟨r2,hr2⟩:=w9nm R.2;rw[hr1,hr2];have HR1:=ae hr1;have HR2:=ae hr2;clear h hfu hd0 hd1 hf hF hn hs ht hg hgl hgf hin htl hdl h64 s1 s2 s3 s4 s5 hst hR ha1 ha2 hys hnn hlen hr1 hr2;go_enter func146,ntmps146;go_wp2_with fail;go_at_call 221;refine HF.out.mono ?_;rintro e x1 ⟨rfl,hb1⟩;have HB1:=ae hb1;have HE2:=ae (HE.out x1 hb1);clear hb1 HE HF;go_wp2_with fail;go_at_call 222;refine HE2.out.mono ?_;rintro e x2 ⟨⟨v,rfl,hO⟩,hb2⟩;have HB2:=w9bt HB1 hb2;rw[hYL.out]at hO;obtain⟨B,cc,rfl,hBN,hBc,hBl,hBr⟩:=jm hO (by omega);have hBw:w.heap.size<=B:=aZ HB1.out.size hBN;have hfB:¬f B:=fun h=>gQ _ (aU (HLT.out B h) hBw);have HC1:=ae (HST1.out x2 B cc (H.out.beside HB2.out) hBr hBl hfB);have SL1:Hid (∀W:ak,(Instr.sliceAt 54 (ag (some ⟨B,0,none⟩) (n+1) cc) none (some (ab af (n:Int))) none).run aj W=.ok (ag (some ⟨B,0,none⟩) n cc) W):=fun W=>Ei W (by omega) hBc;have SL2:Hid (∀W:ak,(Instr.sliceAt 54 (ag (some ⟨B,0,none⟩) (n+1) cc) (some (ab af (n:Int))) none none).run aj W=.ok (ag (some ⟨B,n*64,none⟩) 1 (cc - n)) W):=fun W=>by
  have:=Ej W (g:=B) (o:=0) (n:=n+1) (c:=cc) (K:=n) (by omega) hBc
  rwa [dC,Nat.add_sub_cancel_left]at this
 have HBR:=ae hBr;have HFB:=ae hfB;clear hO hb2 HE2 HST1 hBr hfB hBw hBN;go_wp2_with ((with_reducible refine tY 49 ?_);refine tX (.tmp 49) 54 none (some (.tmp 50)) rfl rfl _ _ _ _ rfl rfl rfl (SL1.out _) ?_);go_at_call 223;refine HC1.out.mono ?_;rintro e x3 ⟨rfl,f3,q3,t3⟩;have T3:Hid (Turn f f3 w x3):=(Turn.of_below HB2.out).trans t3;have Q3:=ae q3;have hBr3:x3.rangeAt B 0 ys.flatten:=da HBR.out (t3.out B hBl HFB.out);have hBl3:B<x3.heap.size:=aU hBl t3.size;have hfB3:¬f3 B:=fun h=>(t3.new B h).elim HFB.out (fun h=>gQ _ (aU hBl h));have HC2:=ae (HST2.out x3 B (cc - n) f3 q3 hBr3 hBl3 hfB3);clear q3 t3 hBr3 hBl3 hfB3 HST2 HC1;by_cases h1:a1.2=0
 ·have hR:Hid (R=a2):=by show R=a2;rw[HRR.out,if_pos h1]
  rw[h1];go_wp2_with ((with_reducible refine tY 62 ?_);refine tX (.tmp 62) 54 (some (.tmp 63)) none rfl rfl _ _ _ _ rfl rfl rfl (SL2.out _) ?_);go_at_call 223;refine HC2.out.mono ?_;rintro e x4 ⟨rfl,f4,q4,t4⟩;have T4:Hid (Turn f f4 w x4):=T3.out.trans t4;have Q4:=ae q4;clear q4 t4 HC2;by_cases h2:a2.2=0
  ·have hr:Hid (r1=(((A+n+1)%C:Nat):Int)/\r2=0):=by refine(?_:_/\_);rw[←HR1.out,←HR2.out,hR.out,h2];exact⟨if_pos rfl,rfl⟩
   rw[h2];have hCz:¬((C:Int)=0):=by omega
   obtain⟨i,hi⟩:=w9nm ((A+n+1)%C);have hii:((A:Int)+((n:Int)+1))%(C:Int)=(i:Int):=by rw[←hi,Int.natCast_emod];congr 1
   rw[hi]at hr;have HII:=ae hii;clear hi hii;go_wp2_with fail;go_ret2;rw[hr.out.1,hr.out.2,hR.out,←HII.out];exact⟨rfl,f4,Q4.out,T4.out⟩
  ·have h14:=h2E.resolve_left h2;have hr:Hid (r1=0/\r2=14):=by refine(?_:_/\_);rw[←HR1.out,←HR2.out,hR.out,h14];exact⟨if_neg (by omega),rfl⟩
   rw[h14];clear h2 h14;go_wp2_with fail;go_ret2;rw[hr.out.1,hr.out.2,hR.out];exact⟨rfl,f4,Q4.out,T4.out⟩
 ·have h14:=s6.resolve_left h1;have hR:Hid (R=a1):=by show R=a1;rw[HRR.out,if_neg h1]
  have hr:Hid (r1=0/\r2=14):=by refine(?_:_/\_);rw[←HR1.out,←HR2.out,hR.out,h14];exact⟨if_neg (by omega),rfl⟩
  rw[h14];clear h1;go_wp2_with fail;go_ret2;rw[hr.out.1,hr.out.2,hR.out];exact⟨rfl,f3,Q3.out,T3.out⟩
end
section
def j8 (rd:Nat->List Int) (F C:Nat):Nat->List (List Img)->Nat->Int->Nat->List Img->List (List Img)×Nat×Int
 | 0,ts,A,q,_,_=>(ts,A,q)
 | f+1,ts,A,q,k,acc=>
  match fc (iF rd F C A) q (C - k) k acc with
  | none=>(ts,A,q)
  | some t=>fz rd F C f ((A+t.length+1)%C) ((q+1)%4294967296) (ts++ [t])
theorem pK (rd:Nat->List Int) (F C f:Nat) (ts:List (List Img)) (A:Nat) (q:Int) (k:Nat) (acc:List Img):j8 rd F C (f+1) ts A q k acc=(match fc (iF rd F C A) q (C - k) k acc with
  | none=>(ts,A,q)
  | some t=>fz rd F C f ((A+t.length+1)%C) ((q+1)%4294967296) (ts++ [t])):=rfl
theorem xA (rd:Nat->List Int) (F C f:Nat) (ts:List (List Img)) (A:Nat) (q:Int):j8 rd F C f ts A q 0 []=fz rd F C f A q ts:=by
 cases f with
 | zero=>rfl
 | succ f=>rfl
theorem xB {bs:List Int} (h:(cN bs).mark=73\/(cN bs).mark=67):dF bs=true/\cN bs=Sct.of bs:=by
 unfold cN at h ⊢;by_cases hd:dF bs=true
 ·rw[if_pos hd];exact⟨hd,rfl⟩
 ·rw[if_neg hd]at h;rcases h with h | h<;>cases h
theorem Et {rd:Nat->List Int} {F C f:Nat} {ts:List (List Img)} {A:Nat} {q:Int} {k:Nat} {acc:List Img} {bs:List Int} (hb:iF rd F C A k=bs) (hk:k+1<C) (h1:(cN bs).mark=73) (h2:(cN bs).seq=q):
  j8 rd F C (f+1) ts A q k acc=j8 rd F C (f+1) ts A q (k+1) (acc++ [⟨(cN bs).index,(cN bs).body⟩]):=by
 obtain⟨hd,e⟩:=xB (aA h1);rw[e]at h1 h2 ⊢;have:fc (iF rd F C A) q (C - k) k acc=fc (iF rd F C A) q (C - (k+1)) (k+1) (acc++ [⟨(Sct.of bs).index,(Sct.of bs).body⟩]):=by
  rw[show C - k=(C - (k+1))+1 by omega]
  conv=>lhs;unfold fc
  rw[hb,hd,h2,h1,if_neg (by simp),if_neg (by omega),if_neg (by omega)]
 rw[pK,pK,this]
theorem Eu {rd:Nat->List Int} {F C f:Nat} {ts:List (List Img)} {A:Nat} {q:Int} {k:Nat} {acc:List Img} {bs:List Int} (hb:iF rd F C A k=bs) (hk:k<C) (hk1:1<=k) (ha:acc.length=k) (h:cN bs=cz q k):
  j8 rd F C (f+1) ts A q k acc=fz rd F C f ((A+k+1)%C) ((q+1)%4294967296) (ts++ [acc]):=by
 obtain⟨hd,e⟩:=xB (bs:=bs) (aC (by rw[h];rfl));rw[e]at h;have:fc (iF rd F C A) q (C - k) k acc=some acc:=by
  rw[show C - k=(C - (k+1))+1 by omega];unfold fc;rw[hb,hd,h,if_neg (by simp[cz]),if_pos (by simp[cz]),if_neg (by rintro(h | h | h);omega;exact h rfl;exact h rfl)]
 rw[pK,this];simp only[ha]
theorem xC {rd:Nat->List Int} {F C f:Nat} {ts:List (List Img)} {A:Nat} {q:Int} {k:Nat} {acc:List Img} {bs:List Int} (hb:iF rd F C A k=bs) (hk:k<C) (h1:¬(((cN bs).mark=73/\(cN bs).seq=q)/\k+1<C)) (h2:¬(1<=k/\cN bs=cz q k)):
  j8 rd F C (f+1) ts A q k acc=(ts,A,q):=by
 have:fc (iF rd F C A) q (C - k) k acc=none:=by
  rw[show C - k=(C - (k+1))+1 by omega];unfold fc;rw[hb];by_cases hd:dF bs=true
  ·have e:cN bs=Sct.of bs:=by unfold cN;rw[if_pos hd]
   rw[e]at h1 h2;by_cases hq:(Sct.of bs).seq=q
   ·rw[if_neg (by rintro(h | h);rw[hd]at h;cases h;exact h hq)];by_cases hm:(Sct.of bs).mark=67
    ·rw[if_pos hm];refine if_pos ?_;rcases Nat.lt_or_ge k 1 with h | h
     ·exact aA h
     ·right
      by_cases hi:(Sct.of bs).index=k
      ·right
       intro hz;refine h2 ⟨h, ?_⟩;rw[show Sct.of bs=⟨(Sct.of bs).mark,(Sct.of bs).seq,(Sct.of bs).index,(Sct.of bs).body⟩from rfl,hm,hq,hi,hz]
       rfl
      ·exact aA hi
    ·rw[if_neg hm];by_cases hm3:(Sct.of bs).mark=73
     ·have:C - (k+1)=0:=by
       rcases Nat.lt_or_ge (k+1) C with h | h
       ·exact absurd ⟨⟨hm3,hq⟩,h⟩ h1
       ·omega
      rw[if_neg (by simpa using hm3),this]
      rfl
     ·rw[if_pos hm3]
   ·rw[if_pos (aC hq)]
  ·rw[if_pos (aA (by simpa using hd))]
 rw[pK,this]
def jJ (x:ak) (N M:Nat) (v:am) (ts:List (List Img)):Prop:=
 ∃vs:List am,vs.length=ts.length/\x.ownsRow N 223 1 v vs.length vs/\∀(i:Nat) (u:am) (t:List Img),vs[i]? =some u->ts[i]? =some t->x.ownsRow N 226 49 u t.length (bI t).flatten/\∀j,u.ownBlock=some j->j<M
section
variable {x y:ak} {N M:Nat} {v:am} {ts:List (List Img)}
theorem jJ.toR (h:jJ x N M v ts):eY 223 226 x N v ts:=by
 obtain⟨vs,h1,h2,h3⟩:=h;exact⟨vs,h1,h2,fun i u t hu ht=>(h3 i u t hu ht).1⟩
theorem jJ.nil (x:ak) (N M:Nat):jJ x N M (ag none 0 0) []:=⟨[],rfl,ft _ _ _ _,fun i u t h=>by simp at h⟩
theorem jJ.below (h:jJ x N M v ts) (hb:w9b x y):jJ y N M v ts:=by
 obtain⟨vs,h1,h2,h3⟩:=h;exact⟨vs,h1,eK h2 hb,fun i u t hu ht=>⟨eK (h3 i u t hu ht).1 hb,(h3 i u t hu ht).2⟩⟩
theorem jJ.grownC {B:Nat} {C:List am} {t:aV} (h:jJ x N M v ts) (hB:aB x B t C) (h1: 223 ≠t) (h2: 226 ≠t) (hg:x.grownBy y (some B)):jJ y N M v ts:=by
 obtain⟨vs,g1,g2,g3⟩:=h;exact⟨vs,g1,g2.kept hg (aC (dK g2 hB h1)),fun i w t hw ht=>⟨(g3 i w t hw ht).1.kept hg (aC (dK (g3 i w t hw ht).1 hB h2)),(g3 i w t hw ht).2⟩⟩
theorem jJ.grownI {iv:am} {n:Nat} {xs:List am} (h:jJ x N M v ts) (hi:x.ownsRow M 226 49 iv n xs) (hg:x.grownBy y iv.ownBlock):jJ y N M v ts:=by
 obtain⟨vs,g1,g2,g3⟩:=h;refine⟨vs,g1,g2.kept hg (qE g2 hi (by decide)),fun i w t hw ht=>⟨(g3 i w t hw ht).1.kept hg ?_,(g3 i w t hw ht).2⟩⟩;cases hw':w.ownBlock with
 | none=>exact aA rfl
 | some j=>
  right
  intro e;have h1:=(g3 i w t hw ht).2 j hw';have h2:=(hi.lt j e.symm).1;omega
set_option maxRecDepth 100000 in
theorem Ev {w:ak} {t:List Img} {a:Option aN} {c B:Nat} (h:jJ w N M v ts) (ht:w.ownsRow M 226 49 (ag a t.length c) t.length (bI t).flatten) (hNM:N<=M) (hMw:M<=w.heap.size)
  (hB:aB w B 223 [ag a t.length c]) (hlen:ts.length<=1000000):
  ∃v' w',(Builtin.append_ #[242, 242] 242 #[v,ag (some ⟨B,0,none⟩) 1 1]).run aj w=.ok v' w'/\jJ w' N w.heap.size v' (ts++ [t])/\w.grownBy w' v.ownBlock:=by
 obtain⟨i0,hi,hz0,hz1,hz2⟩:=eJ DN;obtain⟨vs,g1,g2,g3⟩:=h;obtain⟨v',w',hr,h1,h2,_⟩:=run_append_own (P:=aj) w N 242 242 223 i0 (ag none 0 0) 1 24 Tryz.underlying242 hi hz0 hz1 hz2 rfl (by decide) v vs.length vs g2
  ⟨B,0,none⟩ 1 1 [ag a t.length c] rfl (fun j u hj=>by have:=hB.range j u hj;rwa [Addr.add_mid]) (fun u hu=>by simp at hu;rw[hu];rfl) (by unfold aS;omega) (by omega) (by omega)
 have hk:∀{n:Nat} {u:am} {xs:List am},w.ownsRow N 226 49 u n xs->w'.ownsRow N 226 49 u n xs:=fun hu=>hu.kept h2 (qE hu g2 (by decide));refine⟨v',w',hr,⟨vs++ [ag a t.length c],by simp[g1],by simpa using h1,fun i u s hu hs=> ?_⟩,h2⟩;by_cases hi:i<vs.length
 ·rw[eU hi]at hu;rw[eU (by omega)]at hs;exact⟨hk (g3 i u s hu hs).1,fun j hj=>by have:=(g3 i u s hu hs).2 j hj;omega⟩
 ·rw[fF (by omega)]at hu hs;rw[g1]at hu;cases hj:i - ts.length with
  | zero=>
   rw[hj]at hu hs;simp at hu hs;subst hu;subst hs;exact⟨hk (pG ht hNM),fun j hj=>(ht.lt j hj).2⟩
  | succ j=>
   rw[hj]at hu;simp at hu
end
end
section
attribute [-simp] isAgg51 zeroValue51 isAgg205 zeroValue205 isAgg254 zeroValue254 isAgg232 zeroValue232 isAgg226 zeroValue226
attribute [-go_sem] aE aL cZ
attribute [local go_sem] bC bD cV iR iQ kv ek nD nE
theorem xD:(aj.info? 244).map (·.size)=some 3:=by kernel_rfl
theorem Ew {w:ak} {a b c a' b' c':am} (h:a'.oneCell'=true/\b'.oneCell'=true/\c'.oneCell'=true):
  (aL 244 ⟨w.heap.size,0,none⟩ (al #[a',b',c'])).run aj (w.alloc (ap #[a,b,c] 244))=.ok () (w.alloc (ap #[a',b',c'] 244)):=
 iU w _ _ #[a',b',c'] xD rfl (by simp[h])
end
section
attribute [-simp] isAgg51 zeroValue51 isAgg205 zeroValue205 isAgg304 zeroValue304 isAgg226 zeroValue226
attribute [-go_sem] aE aL cZ
attribute [local go_sem] bC bD cV eM eN eO ek sO sP
set_option maxRecDepth 100000 in
theorem lM {x:ak} {B a:Nat} {t:aV} {v:am} {q:Int} (h:aB x B t (eQ v a q)):(aE 244 ⟨B,0,none⟩).run aj x=.ok (al (eQ v a q).toArray) x:=
 iL x B 0 _ (eQ v a q) _ h.range Tryz.underlying244 rfl (by kernel_rfl)
theorem lN {x:ak} {B a:Nat} {old:List am} {v:am} {q:Int} (h:aB x B 244 old) (ho:old.length=3) (hv:v.oneCell'=true):
  ∃y,(aL 244 ⟨B,0,none⟩ (al (eQ v a q).toArray)).run aj x=.ok () y/\aB y B 244 (eQ v a q)/\x.grownBy y (some B):=by
 refine⟨_,run_storeVar_row x B _ _ old.toArray (eQ v a q).toArray h xD (by simpa [eQ]using ho) (by simp[eQ,hv];exact⟨rfl,rfl⟩),setRow_heap x B _ _ _ _ h, ?_⟩;exact⟨rfl,rfl,rfl,by rw[setRow_size];exact aJ _,fun k _ hk=>setRow_other x B k _ (fun e=>hk (by rw[e]))⟩
theorem xE {v:am} {n0:Nat} {w:ak} (hn:n0<=4096) (HL:∀x,w9b w x->az aj 167 #[v,ab af 0] x fun e w'=>e=ar (ab af (n0:Int))/\ah x.heap.size x w') {frm count at0 seq:Int} (hm:iq n0 frm count at0=false):
  az aj 158 #[v,ab af frm,ab af count,ab af at0,ab aD seq] w fun e w'=>e=ar (aQ #[al (eQ (ag none 0 0) 0 0).toArray,ab af 1])/\ah w.heap.size w w':=by
 have HF:=ae (sN hn frm count at0 (w.alloc (ap #[ag none 0 0,ab af 0,ab aD 0] 244)) (HL _ (aR w _)));rw[hm]at HF;clear HL hm hn;go_enter func158,ntmps158;go_wp2_with fail;go_step3
 go_wp2_with fail;go_at_call 221;refine HF.out.mono ?_;rintro e x ⟨rfl,hb⟩;have hr:=(aB.new w 244 (eQ (ag none 0 0) 0 0)).below hb;have hb1:w9b w x:=(aR w (ap (eQ (ag none 0 0) 0 0).toArray 244)).trans (hb.mono (aR w _).size);obtain⟨y,ST,hy,hg⟩:=lN (v:=ag none 0 0) (a:=0) (q:=0) hr rfl rfl;have ST':(aL 244 ⟨w.heap.size,0,none⟩ (al #[ag none 0 0,ab af 0,ab aD 0])).run aj x=.ok () y:=ST;have LD:=lM hy;clear ST;have HB:w9h w y:=hb1.grown hg hb1.size (fun j e=>by cases e;exact aJ _);clear hb hr hb1 hy hg;go_wp2_with fail;rw[Exit.noGoto_ret];refine bl (dl rfl rfl LD) rfl ⟨rfl,HB.out⟩
def Ex:am->Nat
 | .slice _ n _=>n
 | _=>0
theorem Ey {rb p0 p1:Nat} {S:RS} {w:ak} {f:Nat->Prop} (h:aX rb p0 p1 S w f) (hby:S.Byt) (hup:S.down=false) {F C A:Nat} (hC2:2<=C) (hC:C<=256) (hF:F+C<=S.n0) (hA:A<C) (hn:S.n0<=4096) {seq:Int} (hs:cH seq):
  az aj 158 #[ao (some ⟨rb,0,none⟩),ab af (F:Int),ab af (C:Int),ab af (A:Int),ab aD seq] w fun e w'=>
   (∃v,e=ar (aQ #[al (eQ v (cC S.rd F C A seq).2.1 (cC S.rd F C A seq).2.2).toArray,ab af 0])/\eY 223 226 w' w.heap.size v (cC S.rd F C A seq).1)/\ah w.heap.size w w':=by
 obtain⟨res,hres⟩:=w9nm (cC S.rd F C A seq);have HR:Hid (j8 S.rd F C C [] A seq 0 []=res):=by show _=_;rw[xA];exact hres
 rw[hres];have HF:Hid (∀x,w9b w x->az aj 221 #[ao (some ⟨rb,0,none⟩),ab af (F:Int),ab af (C:Int),ab af (A:Int)] x fun e w'=>e=ar (.bool true)/\ah x.heap.size x w'):=fun x hx=>pJ (h.beside hx) hn hC2 hC hF hA;have HBY:=ae hby;have HRD:Hid (∀(x:ak) (i:Nat),w9b w x->i<S.n0->az aj 72 #[ao (some ⟨rb,0,none⟩),ab af 0,ab af (i:Int)] x fun e w'=>e=ar (aQ #[al (an (S.rd i)).toArray,ab af 0])/\ah x.heap.size x w'):=fun x i hx hin=>by
  have hh:=(h.beside hx).read 0 (i:Int);have e1:S.read 0 (i:Int)=an (S.rd i):=by
   unfold RS.read;rw[if_pos ⟨RS.has0 hin,hup⟩];unfold RS.look;rw[if_pos rfl];exact(hby i hin).2.2
  have e2:S.readE 0 (i:Int)=0:=by
   unfold RS.readE;rw[if_pos (RS.has0 hin),if_neg (by rw[hup];simp)]
  rw[e1,e2]at hh;exact hh
 have HSQ:=ae hs;have HFN:=ae hF;have hF4:F<=4096:=by omega
 obtain⟨rd,hrd⟩:=w9nm S.rd;have HBY2:Hid (∀i,i<S.n0->aP (rd i)/\(rd i).length=64):=fun i hi=>by rw[←hrd];exact⟨(hby i hi).1,(hby i hi).2.1⟩
 rw[hrd]at HR HRD;clear h hby hup hs hres hF hn HBY hrd;go_enter func158,ntmps158;go_wp2_with fail;go_step3
 go_wp2_with fail;go_at_call 221;refine(HF.out _ (aR w _)).mono ?_;rintro e x ⟨rfl,hb⟩;have R0:=(aB.new w 244 (eQ (ag none 0 0) 0 0)).below hb;have hb1:w9b w x:=(aR w (ap (eQ (ag none 0 0) 0 0).toArray 244)).trans (hb.mono (aR w _).size);have hne:w.heap.size<x.heap.size:=R0.lt;obtain⟨W,hW⟩:=w9nm (x.alloc (ap #[ag none 0 0,ab af (A:Int),ab aD seq] 244));have ST:=Ew (w:=x) (a:=ag none 0 0) (b:=ab af 0) (c:=ab aD 0) (a':=ag none 0 0) (b':=ab af (A:Int)) (c':=ab aD seq) ⟨rfl,rfl,rfl⟩;rw[hW]at ST;have hb2:ah x.heap.size x W:=by rw[←hW];exact aR x _
 have r1:aB W x.heap.size 244 (eQ (ag none 0 0) A seq):=by rw[←hW];exact aB.new x _ _
 have RZ:=ae (R0.below hb2);have RL:=ae r1;have HB:=ae (hb1.trans (hb2.mono hb1.size));clear hb R0 hb1 hW hb2 r1 HF;obtain⟨B,hB⟩:=w9nm x.heap.size;rw[hB]at ST RL hne;have hNW:Hid (w.heap.size<=W.heap.size):=HB.out.size;go_wp2_with fail;clear ST hB;go_step3
 go_wp2_with fail;go_loopw [13,14] (fun im pl wr=>∃(ts:List (List Img)) (A':Nat) (q:Int) (k:Nat) (acc:List Img) (v:am) (P M:Nat),ts.length<=C/\A'<C/\k<C/\(0<k->ts.length<C)/\P<=256+256*ts.length+k/\pl=ab af (P:Int)/\Hid (cH q)/\Hid (acc.length=k)/\Hid (P%C=(A'+k)%C)/\Hid (aB wr w.heap.size 244 (eQ (ag none 0 0) 0 0))/\Hid (aB wr B 244 (eQ v A' q))/\Hid (jJ wr w.heap.size M v ts)/\Hid (wr.ownsRow M 226 49 im (bI acc).length (bI acc).flatten)/\Hid (w.heap.size<=M/\M<=wr.heap.size)/\w9h w wr/\Hid (j8 rd F C (C - ts.length) ts A' q k acc=res)) (fun im _ wr=>(C - iu wr B)*(C+1)+(C - Ex im))
 case atStart=>exact⟨[],A,seq,0, [],_,A,W.heap.size,bq _,hA,by omega,fun h=>absurd h (by omega),by simp;omega,rfl,HSQ,rfl,rfl,RZ,RL,jJ.nil _ _ _,ft _ _ _ _,⟨hNW.out,aJ _⟩,HB,HR⟩
 case round=>
  obtain⟨ts,A',q,k,acc,v,P,M,hk,hA',hkC,hk0,hP,rfl,HQ,HAC,HPM,HZ,HL,HT,HI,HM,HB,HG⟩:=hrel;obtain⟨vs,hvl,hvo,hvt⟩:=HT.out;obtain⟨ra,c,rfl, -⟩:=fR hvo;rw[hvl]at HL HT;obtain⟨ri,ci,him, -⟩:=fR HI.out;subst him;have hil:(bI acc).length=k:=by rw[jF];exact HAC.out
  rw[hil]at HI;have HIL:=ae hil;rw[hil];have c0:wr.cell? ⟨B,0,none⟩=some (ag ra ts.length c):=HL.out.cell 0 _ rfl;have HLN:Hid (iu wr B=ts.length):=by show iu wr B=_;unfold iu;rw[c0]
  clear hvl hvo hvt hil;by_cases hlt:ts.length<C
  ·have g1:decide ((ts.length:Int)< (C:Int))=true:=by simp;omega
   obtain⟨i,hi⟩:=w9nm (F+(A'+k)%C);have hin:i<S.n0:=by have:=fO (A'+k) (show 0<C by omega);have:=HFN.out;omega
   have HTG:Hid (iF rd F C A' k=rd i):=by show rd (F+(A'+k)%C)=_;rw[hi]
   have HSEC:Hid (az aj 233 #[ab af (F:Int),ab af (C:Int),ab af (P:Int)] wr fun e w'=>e=ar (ab af (i:Int))/\w'=wr):=by
    have:=xo (F:=F) (C:=C) (P:=P) (by omega) hC hF4 (by omega) wr
    rwa [HPM.out,hi]at this
   have HR1:=ae (HRD.out wr i HB.out hin);obtain⟨hbb,hbl⟩:=HBY2.out i hin;have HIB:=ae hbb;have HIL2:=ae hbl;clear hi hbb hbl hin;obtain⟨bs,hbs⟩:=w9nm (rd i);rw[hbs]at HTG HR1 HIB HIL2;clear hbs;go_wp2_with fail;go_at_call 233;refine HSEC.out.mono ?_;rintro e z ⟨rfl,hz⟩;obtain rfl:=hz.symm;clear HSEC;go_wp2_with fail;go_at_call 72;refine HR1.out.mono ?_;rintro e x1 ⟨rfl,hb⟩;obtain⟨x2,ST2,hr2,hb2⟩:=ib x1 (dr HIL2.out);have b2:w9b wr x2:=hb.trans (hb2.mono hb.size);have L2:=hr2.blk (by rw[bi];exact HIL2.out);have B2:=ae b2;clear hb hb2 b2 hr2 HR1 HRD;go_wp2_with fail;clear ST2 L2;go_at_call 232;refine(rE bs HIB.out HIL2.out x2).mono ?_;rintro e x3 ⟨rfl,hb⟩;have hPO:=nn HIB.out HIL2.out;obtain⟨x4,ST4,hr4,hb4⟩:=nk x3 (cN bs) hPO.len;have b4:w9b wr x4:=B2.out.trans ((hb.trans (hb4.mono hb.size)).mono B2.out.size);have L4:=hr4.pg hPO.len;have c2:x4.cell? ⟨B,2,none⟩=some (ab aD q):=(HL.out.below b4).cell 2 _ rfl;obtain⟨BP,hBP⟩:=w9nm x3.heap.size;rw[hBP]at ST4 hr4 L4;have B4:=ae b4;have R4:=ae hr4;obtain⟨p,hp⟩:=w9nm (cN bs);rw[hp]at ST4 L4 R4 hPO ⊢;have HP:=ae hp;have HPO:=ae hPO;clear hb hb4 b4 hr4 hPO hp B2 HIB HIL2;obtain⟨z,hz⟩:=w9nm ((p.mark==73&&p.seq==q));have HII:=ae (Ed p HPO.out.len q x4);rw[hz]at HII;have HZZ:=ae hz;clear hz;go_wp2_with fail;clear ST4;go_at_call 234;refine HII.out.mono ?_;rintro e x5 ⟨rfl,hb⟩;have B5:=w9bt B4 hb;have R5:=ae (R4.out.below hb);have L5:=R5.out.pg HPO.out.len;clear hb L4 c2 HII B4 R4 c0;have HL5:=ae (HL.out.below B5.out);have HT5:=ae (HT.out.below B5.out);have HI5:=ae (gI HI.out B5.out);have HZ5:=ae (HZ.out.below B5.out);have HB5:w9h w x5:=HB.out.trans (B5.out.mono HB.out.size);have HM5:Hid (w.heap.size<=M/\M<=x5.heap.size):=⟨HM.out.1,aZ HM.out.2 B5.out.size⟩;have hfuel:C - ts.length=(C - ts.length - 1)+1:=by omega
   have HFU:=ae hfuel;clear hfuel HL HT HI HZ HB HM B5;by_cases hA:(p.mark=73/\p.seq=q)/\k+1<C
   ·have hzt:z=true:=by rw[←HZZ.out,hA.1.1,hA.1.2];simp
    subst hzt;have hk1:=hA.2;have g2:decide ((k:Int)< (C:Int) - 1)=true:=by simp;omega
    obtain⟨X,hX⟩:∃X:Img,X=⟨p.index,p.body⟩:=⟨_,rfl⟩;have HGN:Hid (j8 rd F C (C - ts.length) ts A' q (k+1) (acc++ [X])=res):=by
     show _=_;rw[←HG.out,HFU.out,hX,←HP.out];exact(Et HTG.out hA.2 (by rw[HP.out];exact hA.1.1) (by rw[HP.out];exact hA.1.2)).symm
    have hXc:X.cells=Value.int af p.index::an p.body:=by rw[hX];rfl
    have hXl:X.cells.length=49:=Img.cells_length (by rw[hX];exact HPO.out.len);have c3:x5.cell? ⟨BP,2,none⟩=some (ab af p.index):=R5.out.cell 2 _ rfl;have LB:=R5.out.bod HPO.out.len;have BI:Hid ((cY 226 #[(0,ab af p.index),(1,al (an p.body).toArray)]).run aj x5=.ok (al X.cells.toArray) x5):=by
     show _=_;rw[hXc];exact vO p.index (an p.body) (by rw[bi];exact HPO.out.len) x5
    obtain⟨x6,hx6⟩:=w9nm (x5.alloc (ap X.cells.toArray 226));have SB:Hid ((cO 223 1 #[(0,al X.cells.toArray)]).run aj x5=.ok (ag (some ⟨x5.heap.size,0,none⟩) 1 1) x6):=by show _=_;rw[←hx6];exact vP x5 _ hXl
    have b6:ah x5.heap.size x5 x6:=by rw[←hx6];exact aR x5 _
    have hI6:=gI HI5.out b6;have hM6:M<=x6.heap.size:=aZ HM5.out.2 b6.size;obtain⟨v7,x7,r7,o7,g7, -⟩:=vQ M x6 (ag ri k ci) (bI acc) X.cells x5.heap.size (by rw[HIL.out];exact hI6) hXl (Img.cells_one X) (dJ (t:= 226) (by rw[←hx6];exact bR x5 _)) (by rw[HIL.out];omega) hM6;have e7:bI acc++ [X.cells]=bI (acc++ [X]):=by unfold bI;rw[fp];rfl
    rw[e7]at o7;have R7:=ae r7;have HL7:=ae ((HL5.out.below b6).grown g7 (dK hI6 (HL5.out.below b6) (by decide)));have HZ7:=ae ((HZ5.out.below b6).grown g7 (dK hI6 (HZ5.out.below b6) (by decide)));have HT7:=ae ((HT5.out.below b6).grownI hI6 g7);have HI7:=ae o7;have hb6:w9b w x6:=HB5.out.trans (b6.mono HB5.out.size);have HB7:w9h w x7:=hb6.grown g7 hb6.size (fun j e=>aZ HM5.out.1 (hI6.lt j e).1);have HM7:Hid (w.heap.size<=M/\M<=x7.heap.size):=⟨HM5.out.1,aZ hM6 g7.size⟩;have HA7:Hid ((acc++ [X]).length=k+1):=by show _=_;rw[cX,HAC.out];rfl
    have HPM7:Hid ((P+1)%C=(A'+(k+1))%C):=by show _=_;rw[Nat.add_mod,HPM.out,←Nat.add_mod,Nat.add_assoc]
    obtain⟨r8,c8,hv8, -⟩:=fR o7;rw[jF,HA7.out]at hv8;subst hv8;have HLN7:Hid (iu x7 B=ts.length):=by show iu x7 B=_;unfold iu;rw[HL7.out.cell 0 _ rfl]
    clear hA hX hXc hXl hx6 b6 hI6 hM6 r7 o7 g7 e7 hb6 L5;go_wp2_with (first | ((with_reducible refine gU 226 ?_);refine fJ _ _ rfl rfl [(0,ab af p.index),(1,al (an p.body).toArray)] _ rfl BI.out ?_) | ((with_reducible refine gG ?_);refine dq _ _ _ rfl rfl [(0,al X.cells.toArray)] _ rfl SB.out ?_) | (at_builtin;refine wpList_append_run (.tmp 67) (.tmp 73) 223 rfl rfl _ _ _ rfl rfl R7.out ?_));go_roundw
    case rel=>exact⟨ts,A',q,k+1,acc++ [X],_,P+1,M,hk,hA',hk1,fun _=>hlt,by omega,by go_num,HQ,HA7,HPM7,HZ7,HL7,HT7,HI7,HM7,HB7,HGN⟩
    case measure=>
     rw[HLN7.out,HLN.out];show _+(C - (k+1))<_+(C - k);omega
   ·have HNA:=ae hA;have hcase:z=false\/(z=true/\¬k+1<C):=by
     cases hzc:z with
     | false=>exact aA rfl
     | true=>
      right
      refine⟨rfl,fun hk1=>hA ⟨?_,hk1⟩⟩;have:=HZZ.out;rw[hzc]at this
      simpa using this
    clear hA;have hcase2:(z=false/\True)\/(z=true/\decide ((k:Int)< (C:Int) - 1)=false):=hcase.imp (fun h=>⟨h,trivial⟩) (fun h=>⟨h.1,by have:=h.2;simp;omega⟩);clear hcase;obtain⟨hz,g2⟩ | ⟨hz,g2⟩:=hcase2;all_goals
     subst hz;by_cases hk0':0<k
     ·have g3:decide (0< (k:Int))=true:=by simp;omega
      have g3':decide ((k:Int)>0)=true:=g3;have KP:∀x:aI x5,(aE 304 ⟨BP,0,none⟩).run aj x.1=.ok (al p.cells.toArray) x.1:=fun x=>(R5.out.below x.2).pg HPO.out.len;have KQ:∀x:aI x5,x.1.cell? ⟨B,2,none⟩=some (ab aD q):=fun x=>(HL5.out.below x.2).cell 2 _ rfl;have KE:∀x:aI x5,(eG 10000 304 (al p.cells.toArray) (al (cz q k).cells.toArray)).run aj x.1=.ok (iV p (cz q k)) x.1:=fun x=>ru HPO.out.len (by simp[cz]) x.1;have KC:Hid (∀x:aI x5,az aj 235 #[ab aD q,ab af (k:Int)] x.1 fun e w''=>e=ar (al (cz q k).cells.toArray)/\∃y:aI x5,w''=y.1):=fun x=>mQ x (xp q k x.1);obtain⟨y,hy⟩:=w9nm (iV p (cz q k));rw[hy]at KE;go_wp2_with fail;refine ko (by kernel_rfl) (by kernel_rfl) ?_;repeat(go_big_quiet_step (with_reducible (first | exact KC.out _)))
      refine aO ?_;intro x;clear KP KQ KE KC L5;cases y with
      | true=>
       have hpe:p=cz q k:=oM.1 hy;have hb0:=x.2;obtain⟨y0,hy0⟩:=w9nm x.1;rw[hy0]at hb0 ⊢;have hL0:=HL5.out.below hb0;have hZ0:=HZ5.out.below hb0;have hT0:=HT5.out.below hb0;have hI0:=gI HI5.out hb0;have hB0:w9b w y0:=HB5.out.trans (hb0.mono HB5.out.size);have hM0:M<=y0.heap.size:=aZ HM5.out.2 hb0.size;have c0:y0.cell? ⟨B,0,none⟩=some (ag ra ts.length c):=hL0.cell 0 _ rfl;obtain⟨A2,hA2'⟩:∃n,(A'+k+1)%C=n:=⟨_,rfl⟩;have hA2l:A2<C:=by rw[←hA2'];exact fO _ (by omega)
       have hP2:(P+1)%C=A2:=by rw[Nat.add_mod,HPM.out,←Nat.add_mod,hA2']
       have hA2:((P:Int)+1)%(C:Int)=(A2:Int):=by rw[←hP2,Int.natCast_emod];norm_cast
       obtain⟨q2,hq2⟩:=w9nm ((q+1)%4294967296);have hq2s:Hid (cH q2):=by show cH q2;unfold cH;omega
       have HGN:Hid (j8 rd F C (C - (ts++ [acc]).length) (ts++ [acc]) A2 q2 0 []=res):=by
        show _=_;rw[xA,←HG.out,HFU.out,Eu HTG.out hkC hk0' HAC.out (by rw[HP.out];exact hpe),hA2',hq2,cX]
        rfl
       obtain⟨y1,hy1⟩:=w9nm (y0.alloc (ap #[ag ri k ci] 223));have SB:Hid ((cO 242 1 #[(0,ag ri k ci)]).run aj y0=.ok (ag (some ⟨y0.heap.size,0,none⟩) 1 1) y1):=by show _=_;rw[←hy1];exact DO y0 _ _ _
       have b1:ah y0.heap.size y0 y1:=by rw[←hy1];exact aR y0 _
       have rN:aB y1 y0.heap.size 223 [ag ri k ci]:=by rw[←hy1];exact aB.new y0 _ _
       have hT1:=hT0.below b1;have hI1:=gI hI0 b1;obtain⟨v2,y2,r2,t2,g2⟩:=Ev (t:=acc) (a:=ri) (c:=ci) (B:=y0.heap.size) hT1 (by rw[HAC.out];exact hI1) HM5.out.1 (aZ hM0 b1.size) (by rw[HAC.out];exact rN) (by omega);have hB1:w9b w y1:=hB0.trans (b1.mono hB0.size);obtain⟨_,hw1,hw2,_⟩:=hT1;rw[hw1]at hw2;have hB2:w9b w y2:=hB1.grown g2 hB1.size (fun j e=>(hw2.lt j e).1);have L2:=(hL0.below b1).grown g2 (dK hw2 (hL0.below b1) (by decide));have Z2:=(hZ0.below b1).grown g2 (dK hw2 (hZ0.below b1) (by decide));have hvv:∃ra' c',v2=ag ra' (ts.length+1) c':=by
        obtain⟨vs',hv1,hv2,_⟩:=t2;obtain⟨ra',c',rfl, -⟩:=fR hv2;rw[hv1,cX];exact⟨ra',c',rfl⟩
       obtain⟨ra',c',rfl⟩:=hvv;have R2:=ae r2;obtain⟨x4,hx4⟩:=w9nm (y2.setCell ⟨B,0,none⟩ (ag ra' (ts.length+1) c'));obtain⟨x7,hx7⟩:=w9nm (x4.setCell ⟨B,1,none⟩ (ab af (A2:Int)));obtain⟨x6,hx6⟩:=w9nm (x7.setCell ⟨B,2,none⟩ (ab aD q2));have L4:aB x4 B 244 (eQ (ag ra' (ts.length+1) c') A' q):=by rw[←hx4];exact L2.set 0 _
       have L7:aB x7 B 244 (eQ (ag ra' (ts.length+1) c') A2 q):=by rw[←hx7];exact L4.set 1 _
       have L6:aB x6 B 244 (eQ (ag ra' (ts.length+1) c') A2 q2):=by rw[←hx6];exact L7.set 2 _
       have G4:y2.grownBy x4 (some B):=by rw[←hx4];exact iE y2 B 0 _
       have G7:x4.grownBy x7 (some B):=by rw[←hx7];exact iE x4 B 1 _
       have G6:x7.grownBy x6 (some B):=by rw[←hx6];exact iE x7 B 2 _
       have G:=(G4.trans G7).trans G6;have T6:=ae (t2.grownC L2 (by decide) (by decide) G);have hBw:w.heap.size<=B:=iT hne;have B6:w9h w x6:=hB2.grown G hB2.size (fun j e=>by cases e;exact hBw);have Z6:=ae (Z2.grown G (by simpa using fun e=>Nat.ne_of_gt hne e));have L6':=ae L6;have M6:Hid (w.heap.size<=y1.heap.size/\y1.heap.size<=x6.heap.size):=⟨hB1.size,aZ g2.size G.size⟩;have d0:y2.cell? ⟨B,0,none⟩=some (ag ra ts.length c):=L2.cell 0 _ rfl;have d0':=L2.frozen 0;have d1:x4.cell? ⟨B,1,none⟩=some (ab af (A':Int)):=L4.cell 1 _ rfl;have d1':=L4.frozen 1;have d2:x7.cell? ⟨B,2,none⟩=some (ab aD q):=L7.cell 2 _ rfl;have d2':=L7.frozen 2;have HLN6:Hid (iu x6 B=ts.length+1):=by show iu x6 B=_;unfold iu;rw[L6.cell 0 _ rfl]
       have HPM6:Hid ((P+1)%C=(A2+0)%C):=by show _=_;rw[hP2,Nat.add_zero,Nat.mod_eq_of_lt hA2l]
       have hCz:¬((C:Int)=0):=by omega
       clear hpe hy hb0 hL0 hZ0 hT0 hI0 hB0 hM0 hA2' hP2 hy1 b1 rN hI1 t2 g2 hw1 hw2 hB1 hB2 L2 Z2 r2 L4 L7 L6 G4 G7 G6 G hy0;go_wp2_with (first | ((with_reducible refine gG ?_);refine dq _ _ _ rfl rfl [(0,ag ri k ci)] _ rfl SB.out ?_) | (at_builtin;refine wpList_append_run (.tmp 89) (.tmp 91) 242 rfl rfl _ _ _ rfl rfl R2.out ?_));go_roundw
       case rel=>exact⟨ts++ [acc],A2,q2,0, [],_,P+1,y1.heap.size,by rw[cX];simp;omega,hA2l,by omega,fun h=>absurd h (by omega),by rw[cX];simp;omega,by go_num,hq2s,rfl,HPM6,Z6,L6',T6,ft _ _ _ _,M6,B6,HGN⟩
       case measure=>
        rw[HLN6.out,HLN.out];have e:C - ts.length=(C - (ts.length+1))+1:=by omega
        show(C - (ts.length+1))*(C+1)+(C - 0)< (C - ts.length)*(C+1)+(C - k);rw[e,Nat.add_mul];omega
      | false=>
       have hst:res=(ts,A',q):=by
        rw[←HG.out,HFU.out];exact xC HTG.out hkC (by rw[HP.out];exact HNA.out) (by rw[HP.out];rintro⟨_,h2⟩;rw[oM.2 h2]at hy;cases hy)
       subst hst;have hb0:=x.2;obtain⟨y0,hy0⟩:=w9nm x.1;rw[hy0]at hb0 ⊢;have hL0:=HL5.out.below hb0;have hZ0:=HZ5.out.below hb0;have LL:=lM hL0;obtain⟨y2,ST,hy2,hg⟩:=lN (v:=ag ra ts.length c) (a:=A') (q:=q) hZ0 rfl rfl;have LY:=lM hy2;have hty:Hid (eY 223 226 y2 w.heap.size (ag ra ts.length c) ts):=((HT5.out.below hb0).grownC hZ0 (by decide) (by decide) hg).toR;have hbb:=HB5.out.trans (hb0.mono HB5.out.size);have hby:w9h w y2:=hbb.grown hg hbb.size (fun j e=>by cases e;exact aJ _);clear hg hbb hL0 hZ0 hb0 hy0 hy2;go_wp2_with fail;try rw[Exit.noGoto_ret]
       refine bl (dl rfl rfl LY) rfl ⟨⟨_,rfl,hty.out⟩,hby.out⟩
     ·have g3:decide (0< (k:Int))=false:=by simp;omega
      have g3':decide ((k:Int)>0)=false:=g3;go_wp2_with fail;refine ko (by kernel_rfl) (by kernel_rfl) ?_;repeat(go_big_quiet_step (fail))
      refine aO ?_;intro x;have hst:res=(ts,A',q):=by
       rw[←HG.out,HFU.out];exact xC HTG.out hkC (by rw[HP.out];exact HNA.out) (by rintro⟨h1,_⟩;exact hk0' h1)
      subst hst;have hb0:=x.2;obtain⟨y0,hy0⟩:=w9nm x.1;rw[hy0]at hb0 ⊢;have hL0:=HL5.out.below hb0;have hZ0:=HZ5.out.below hb0;have LL:=lM hL0;obtain⟨y2,ST,hy2,hg⟩:=lN (v:=ag ra ts.length c) (a:=A') (q:=q) hZ0 rfl rfl;have LY:=lM hy2;have hty:Hid (eY 223 226 y2 w.heap.size (ag ra ts.length c) ts):=((HT5.out.below hb0).grownC hZ0 (by decide) (by decide) hg).toR;have hbb:=HB5.out.trans (hb0.mono HB5.out.size);have hby:w9h w y2:=hbb.grown hg hbb.size (fun j e=>by cases e;exact aJ _);clear hg hbb hL0 hZ0 hb0 hy0 hy2;go_wp2_with fail;try rw[Exit.noGoto_ret]
      refine bl (dl rfl rfl LY) rfl ⟨⟨_,rfl,hty.out⟩,hby.out⟩
  ·have hk00:k=0:=by
    rcases Nat.eq_zero_or_pos k with h | h
    ·exact h
    ·exact absurd (hk0 h) hlt
   have hst:res=(ts,A',q):=by
    rw[←HG.out,show C - ts.length=0 by omega]
    rfl
   subst hst;have g1:decide ((ts.length:Int)< (C:Int))=false:=by simp;omega
   have LL:=lM HL.out;obtain⟨y2,ST,hy2,hg⟩:=lN (v:=ag ra ts.length c) (a:=A') (q:=q) HZ.out rfl rfl;have LY:=lM hy2;have hty:Hid (eY 223 226 y2 w.heap.size (ag ra ts.length c) ts):=(HT.out.grownC HZ.out (by decide) (by decide) hg).toR;have hby:w9h w y2:=HB.out.grown hg HB.out.size (fun j e=>by cases e;exact aJ _);clear hg hy2;go_wp2_with fail;try rw[Exit.noGoto_ret]
   refine bl (dl rfl rfl LY) rfl ⟨⟨_,rfl,hty.out⟩,hby.out⟩
end
section
theorem xF:RingOk where
 replay:=fun h hby hup _ _ _ hC2 hC hF hA hn _ hs=>Ey h hby hup hC2 hC hF hA hn hs
 replay_no:=fun h hn _ _ _ _ hm=>xE hn (fun x hx=>(h.beside hx).len 0) hm
 replay_nil:=fun frm count at0 seq w=>xE (n0:=0) (by omega) (fun x _=>pH 0 x) (by unfold iq;exact decide_eq_false (by omega))
 append:=fun h hfu hd0 hd1 hf _ _ _ hC2 hC hF hA hn _ hs _ ht _ _ hg hgl hgf=>Es h hfu hd0 hd1 hf hC2 hC hF hA hn hs ht hg hgl hgf
 append_no:=fun h hn _ _ _ _ hm _ _ _ _=>En h hn hm
 append_nil:=fun frm count at0 seq w _ _ _ _=>Eo frm count at0 seq w
 append_long:=fun h hn _ _ _ hC2 hC hF hA _ _ _ _ hl hnb=>Ep h hn hC2 hC hF hA hl hnb
 append_bad:=fun h hn _ _ _ hC2 hC hF hA _ hs _ n1 n2 hok hbad _ _ hg hgl=>Er h hn hC2 hC hF hA hs n1 n2 hok hbad hg hgl
end
section
theorem gB (t:aV) (h:t≠ 51 /\t≠ 304 /\t≠ 205 /\t≠ 226 /\t≠ 244 /\t≠ 207 /\t≠ 198 /\t≠ 23) (a:aN):aE t a=(do if←isAgg t then pure (al (←loadCells a (←sizeOf t)))else load a):=rfl
theorem gC (t:aV) (h:t≠ 51 /\t≠ 304 /\t≠ 205 /\t≠ 226 /\t≠ 244 /\t≠ 207 /\t≠ 198 /\t≠ 23) (a:aN) (v:am):aL t a v=(do
  if v.cells.size≠(←sizeOf t)then stuck "storeVar: the value has not the size of the variable"
  storeCells a v.cells.toList):=rfl
theorem xG:(aj.info? 205).map (·.size)=some 48:=by kernel_rfl
theorem Ez {w:ak} {c:Array am} {c':List am} (h:c.size=48) (h':c'.length=48) (h1:∀v ∈ c',v.oneCell'=true):(aL 205 ⟨w.heap.size,0,none⟩ (al c'.toArray)).run aj (w.alloc (ap c 205))=.ok () (w.alloc (ap c'.toArray 205)):=
 iU w _ c c'.toArray (by simpa [h']using xG) (by simpa [h']using h) (gD h1)
theorem nG (x:ak) {b:List Int} (hb:b.length=48):∃y,(aL 205 ⟨x.heap.size,0,none⟩ (al (an b).toArray)).run aj (x.alloc (ap dR.toArray 205))=.ok () y/\aB y x.heap.size 205 (an b)/\ah x.heap.size x y:=
 ⟨_,Ez (by simp[dR,an]) (by rw[bi,hb]) (iO b),aB.new x _ _,aR x _⟩
theorem aB.body {x:ak} {B:Nat} {t:aV} {b:List Int} (h:aB x B t (an b)) (hb:b.length=48):(aE 205 ⟨B,0,none⟩).run aj x=.ok (al (an b).toArray) x:=iH h.range (by rw[bi,hb])
attribute [-simp] isAgg51 zeroValue51 isAgg205 zeroValue205 isAgg304 zeroValue304 isAgg226 zeroValue226 isAgg207 zeroValue207
attribute [-go_sem] aE aL cZ
attribute [local go_sem] bC bD cV eM eN eO ek gA gB gC
section
theorem xH (i:Int) {b:List Int} (hb:b.length=48) (w:ak):
  az aj 214 #[ab af i,al (an b).toArray] w fun e w'=>e=ar (al (Value.int aq 72:: ab aD 0:: ab af i::an b).toArray)/\ah w.heap.size w w':=by
 obtain⟨W1,hW1⟩:=w9nm (w.alloc (ap (an b).toArray 205));have r1:aB W1 w.heap.size 205 (an b):=by rw[←hW1];exact aB.new w _ _
 have b1:ah w.heap.size w W1:=by rw[←hW1];exact aR w _
 obtain⟨W,hW⟩:=w9nm (W1.alloc (ap cm.toArray 304));have b2:ah W1.heap.size W1 W:=by rw[←hW];exact aR W1 _
 have r2:W.heap[W1.heap.size]? =some (ap cm.toArray 304 (0,0)):=by rw[←hW];exact bR W1 _
 have L0:=(r1.below b2).body hb;have BI:Hid ((cY 304 #[(0,ab aq 72),(1,ab aD 0),(2,ab af i),(3,al (an b).toArray)]).run aj W=.ok (al (Value.int aq 72:: ab aD 0:: ab af i::an b).toArray) W):=xr 72 0 i (an b) (by rw[bi];exact hb) W;obtain⟨x,ST,ld,hbx⟩:=mr (w:=w) (x:=W) (B:=W1.heap.size) (u:=Value.int aq 72:: ab aD 0:: ab af i::an b) r2 kN b1.size (b1.trans (b2.mono b1.size)) (by simp[bi,hb]) (Sct.cells_one ⟨72,0,i,b⟩);have HL:=ae ld;have HX:=ae hbx;clear r1 b1 b2 r2 ld hbx;go_enter func214,ntmps214;go_wp2_with (first | ((with_reducible refine gU 304 ?_);refine fJ _ _ rfl rfl [(0,ab aq 72),(1,ab aD 0),(2,ab af i),(3,al (an b).toArray)] _ rfl BI.out ?_));exact bl (ff rfl rfl HL.out) rfl ⟨rfl,HX.out⟩
theorem xI (p:Sct) (hp:p.Ok) (hf:p.fits=true) (w:ak):
  az aj 213 #[al p.cells.toArray] w fun e w'=>e=ar (al (an p.bytes).toArray)/\ah w.heap.size w w':=by
 obtain⟨W1,hW1⟩:=w9nm (w.alloc (ap p.cells.toArray 304));have r1:aB W1 w.heap.size 304 p.cells:=by rw[←hW1];exact aB.new w _ _
 have b1:ah w.heap.size w W1:=by rw[←hW1];exact aR w _
 obtain⟨W,hW⟩:=w9nm (W1.alloc (ap cx 51));have b2:ah W1.heap.size W1 W:=by rw[←hW];exact aR W1 _
 have r2:Hid (W.heap[W1.heap.size]? =some (ap cx 51 (0,0))):=by show _=_;rw[←hW];exact bR W1 _
 have L0:=(r1.below b2).pg hp.len;have HB:w9h w W:=b1.trans (b2.mono b1.size);have HZ:Hid (W1.heap.size<W.heap.size):=by show _<_;rw[←hW];simp
 have HS1:=ae b1.size;have HP:=ae hp;have HC:Hid (p.code=an p.bytes/\p.codeE=0):=by refine(?_:_/\_);unfold Sct.code Sct.codeE;rw[if_pos hf,if_pos hf];exact⟨rfl,rfl⟩
 clear r1 b1 b2 hp hf;go_enter func213,ntmps213;go_wp2_with fail;go_at_call 264;refine(oT p HP.out W).mono ?_;rintro e x1 ⟨rfl,hb⟩;rw[HC.out.1,HC.out.2];have hbk:bx (an p.bytes):=dr (Sct.bytes_length HP.out);obtain⟨x2,ST,hr,hb2⟩:=ib x1 hbk;have L2:=hr.blk hbk.length;have b3:w9b W x2:=hb.trans (hb2.mono hb.size);obtain⟨x3,st3,ld,hb3⟩:=mj (w:=w) (x:=x2) (B:=W1.heap.size) (u:=an p.bytes) ((b3.block _ HZ.out).trans r2.out) dj HS1.out (HB.out.trans (b3.mono HB.out.size)) hbk;have HL:=ae ld;have HX:=ae hb3;clear hb hr hb2 b3 ld hb3 hW hW1 L0;go_wp2_with fail;exact bl (ff rfl rfl HL.out) rfl ⟨rfl,HX.out⟩
theorem sQ (a:Option aN) (n c:Nat) (hn:n<=1000000) (w:ak):
  az aj 144 #[ag a n c] w fun e w'=>e=ar (ab af ((n:Int)+1))/\w'=w:=by
 go_enter func144,ntmps144;go_wp2;go_ret;exact⟨rfl,rfl⟩
theorem eY.row {x:ak} {N:Nat} {v:am} {ts:List (List Img)} {eS eI:aV} (h:eY eS eI x N v ts):∃a c,v=ag a ts.length c/\∀(i:Nat) (t:List Img),ts[i]? =some t->∃g b d,a=some ⟨g,0,none⟩/\g<x.heap.size/\x.cell? ⟨g,i,none⟩=some (ag b t.length d)/\x.ownsRow N eI 49 (ag b t.length d) t.length (bI t).flatten:=by
 obtain⟨vs,h1,h2,h3⟩:=h;obtain⟨a,c,rfl,h4⟩:=fR h2;refine⟨a,c,by rw[h1],fun i t ht=> ?_⟩;have hi:i<ts.length:=(dp.1 ht).1;obtain⟨g,rfl,h5,h6⟩:=h4 (by omega);obtain⟨u,hu⟩:∃u,vs[i]? =some u:=⟨_,bJ (by omega)⟩;have h7:=h3 i u t hu ht;obtain⟨b,d,rfl,_⟩:=fR h7;have h8:=h6 i _ hu;rw[dC]at h8;exact⟨g,b,d,rfl,h5,h8,h7⟩
theorem xJ {ts:List (List Img)} {k:Nat} {t:List Img} (h:ts[k]? =some t):cE (ts.take (k+1))=cE (ts.take k)+(t.length+1):=by
 rw[List.take_add_one,h];exact xd _ _
theorem xK (ts:List (List Img)) (k:Nat):cE (ts.take k)<=cE ts:=by
 conv=>rhs;rw[←ki k ts]
 unfold cE;rw[fp,List.sum_append];omega
theorem xL:∀ts:List (List Img),ts.length<=cE ts
 | []=>bq _
 | t::ts=>by
  have:=xL ts;unfold cE at this ⊢;rw[List.map_cons,List.sum_cons,cK];omega
theorem EA (v:am) (ts:List (List Img)) (w:ak) {N:Nat} (h:eY 223 226 w N v ts) (hl:cE ts<=1000000):
  az aj 160 #[v] w fun e w'=>e=ar (ab af ((cE ts:Nat):Int))/\w'=w:=by
 obtain⟨a,c,rfl,h3⟩:=h.row;have H3:=ae h3;have HL:=ae hl;obtain⟨n,hn⟩:=w9nm ts.length;have HN:=ae hn;have hn6:n<=1000000:=by have:=xL ts;omega
 rw[hn];clear h h3 hl hn;go_enter func160,ntmps160;go_wp2_with fail;go_loop [3,8] (fun s i=>∃k:Nat,k<=n/\i=ab af (k:Int)/\s=ab af (((cE (ts.take k):Nat)):Int)) (fun _ i=>n - (aW i).toNat)
 case atStart=>exact⟨0,bq _,rfl,rfl⟩
 case round=>
  obtain⟨k,hk,rfl,rfl⟩:=hrel;by_cases hlt:k<n
  ·have g3:decide ((k:Int)< (n:Int))=true:=by simpa using hlt
   obtain⟨t,ht⟩:∃t,ts[k]? =some t:=⟨_,bJ (by rw[HN.out];exact hlt)⟩;obtain⟨g,b,d,rfl,h5,c0,h7⟩:=H3.out k t ht;have hu:=xJ ht;have hle:=aZ (xK ts (k+1)) HL.out;rw[hu]at hle;have HU:=ae hu;obtain⟨m,hm⟩:=w9nm (cE (ts.take k));obtain⟨q,hq⟩:=w9nm t.length;rw[hm,hq]at hle HU;rw[hq]at c0;rw[hm];have hb1:(m:Int)+(q:Int)<=1000000:=by omega
   have hq0:q<=1000000:=by omega
   clear h5 h7 ht hu hm hq;go_wp2_with fail;go_at_call 144;refine(sQ b q d hq0 w).mono ?_;rintro e x ⟨rfl,hx⟩;obtain rfl:=hx.symm;clear hx;go_wp2_with fail;go_round
   case rel=>exact⟨k+1,hlt,by go_num,by rw[HU.out];simp⟩
   case measure=>simp[aW];omega
  ·have g3:decide ((k:Int)< (n:Int))=false:=by simpa using hlt
   obtain rfl:k=n:=by omega
   have e1:ts.take k=ts:=ey (by rw[HN.out];exact aJ _);rw[e1];go_wp2_with fail;go_ret;exact⟨rfl,rfl⟩
def fC (F n:Nat):cA:=(dm n).map fun i=>(F+i,a9 0)
theorem sR (F n:Nat):(fC F n).length=n:=by simp[fC]
theorem xM {F n:Nat} (hF:F<=100000) (hn:n<=100000) (w:ak):
  az aj 129 #[ab af (F:Int),ab af (n:Int)] w fun e w'=>∃v,e=ar v/\w'.ownsRow w.heap.size 207 65 v (cG (fC F n)).length (cG (fC F n)).flatten/\ah w.heap.size w w':=by
 go_enter func129,ntmps129;go_wp2_with fail;go_loopw [5,8] (fun l i wr=>∃k:Nat,k<=n/\i=ab af (k:Int)/\Hid (wr.ownsRow w.heap.size 207 65 l (cG (fC F k)).length (cG (fC F k)).flatten)/\w9h w wr) (fun _ i _=>n - (aW i).toNat)
 case atStart=>exact⟨0,bq _,rfl,ft _ _ _ _,aF _ _⟩
 case round=>
  obtain⟨k,hk,rfl,HO,HB⟩:=hrel;by_cases hlt:k<n
  ·have g3:decide ((k:Int)< (n:Int))=true:=by simpa using hlt
   have hwr:(dS (F+k,a9 0)).length=65:=kT (by simp[a9]);have h1:∀v ∈ dS (F+k,a9 0),v.oneCell'=true:=nA (fv 0);have BI:Hid ((cY 207 #[(0,ab af ((F:Int)+(k:Int)))]).run aj wr=.ok (al (dS (F+k,a9 0)).toArray) wr):=by
    have:=D6 ((F:Int)+(k:Int)) wr;unfold dS;rw[Int.natCast_add];exact this
   obtain⟨x4,hx4⟩:=w9nm (wr.alloc (ap (dS (F+k,a9 0)).toArray 207));have SB:Hid ((cO 199 1 #[(0,al (dS (F+k,a9 0)).toArray)]).run aj wr=.ok (ag (some ⟨wr.heap.size,0,none⟩) 1 1) x4):=by show _=_;rw[←hx4];exact pE wr _ hwr
   have b4:ah wr.heap.size wr x4:=by rw[←hx4];exact aR wr _
   have B4:w9b w x4:=HB.out.trans (b4.mono HB.out.size);have O4:=gI HO.out b4;obtain⟨v6,x6,r6,o6,g6, -⟩:=xh w.heap.size x4 u5 (cG (fC F k)) (dS (F+k,a9 0)) wr.heap.size O4 hwr h1 (dJ (t:= 207) (by rw[←hx4];exact bR wr _)) (by simp[cG,sR];omega) B4.size;have R6:=ae r6;have B6:w9h w x6:=B4.grown g6 B4.size (fun j e=>(O4.lt j e).1);have O6:Hid (x6.ownsRow w.heap.size 207 65 v6 (cG (fC F (k+1))).length (cG (fC F (k+1))).flatten):=by
    have e:cG (fC F (k+1))=cG (fC F k)++ [dS (F+k,a9 0)]:=by
     unfold cG fC;rw[D3,fp]
     rfl
    show World.ownsRow _ _ _ _ _ _ _;rw[e];exact o6
   obtain⟨bv,hbv⟩:=w9nm ((dS (F+k,a9 0)).toArray);rw[hbv]at BI SB;clear hwr h1 hx4 b4 B4 O4 r6 o6 g6 hbv;go_wp2_with (first | ((with_reducible refine gU 207 ?_);refine fJ _ _ rfl rfl [(0,ab af ((F:Int)+(k:Int)))] _ rfl BI.out ?_) | ((with_reducible refine gG ?_);refine dq _ _ _ rfl rfl [(0,al bv)] _ rfl SB.out ?_) | (at_builtin;refine wpList_append_run (.tmp 11) (.tmp 16) 199 rfl rfl _ _ _ rfl rfl R6.out ?_));go_roundw
   case rel=>exact⟨k+1,hlt,by go_num,O6,B6⟩
   case measure=>simp[aW];omega
  ·have g3:decide ((k:Int)< (n:Int))=false:=by simpa using hlt
   obtain rfl:k=n:=by omega
   go_wp2_with fail;go_ret;exact⟨_,rfl,HO.out,HB.out⟩
end
end
section
def cJ (gen:Int) (g:Geo) (a q:Int):List am:= [ab aD gen,ab af g.b,ab af g.s,ab af g.y,ab af g.a,ab af g.r,ab af a,ab aD q]
def fD:List am:=cJ 0 ⟨0,0,0,0,0⟩ 0 0
theorem iZ (gen:Int) (g:Geo) (a q:Int):∀v ∈ cJ gen g a q,v.oneCell'=true:=by
 intro v hv;simp only[cJ,ec,List.not_mem_nil,or_false]at hv;rcases hv with rfl | rfl | rfl | rfl | rfl | rfl | rfl | rfl<;>rfl
structure SupIn (gen:Int) (g:Geo) (a q:Int):Prop where
 gen:cH gen
 b:0<=g.b/\g.b<65536
 s:0<=g.s/\g.s<256
 y:0<=g.y/\g.y<256
 a':0<=g.a/\g.a<65536
 r:0<=g.r/\g.r<65536
 at0:0<=a/\a<65536
 seq:cH q
section
theorem pL:(aj.info? 198).map (·.size)=some 8:=by kernel_rfl
theorem ie (w:ak):(zeroValue 198).run aj w=.ok (al fD.toArray) w:=by kernel_rfl
set_option maxRecDepth 100000 in
theorem kz {w:ak} {b o:Nat} {c:List am} (hc:w.rangeAt b o c) (h:c.length=8):(aE 198 ⟨b,o,none⟩).run aj w=.ok (al c.toArray) w:=
 iL w b o _ c _ hc Tryz.underlying198 rfl (by rw[h];exact pL)
theorem xN {w:ak} {b o:Nat} {c:List am} (ht:w.there b o 8) (h:c.length=8) (h1:∀v ∈ c,v.oneCell'=true):(aL 198 ⟨b,o,none⟩ (al c.toArray)).run aj w=.ok () (w.setCells b o c):=by
 have:=run_storeVar_mid (P:=aj) w b o 198 c.toArray (by simpa [h]using ht) (by simpa [h]using pL) (gD h1)
 simpa using this
theorem xO {w:ak} {c:Array am} {c':List am} (h:c.size=8) (h':c'.length=8) (h1:∀v ∈ c',v.oneCell'=true):(aL 198 ⟨w.heap.size,0,none⟩ (al c'.toArray)).run aj (w.alloc (ap c 198))=.ok () (w.alloc (ap c'.toArray 198)):=
 iU w _ c c'.toArray (by simpa [h']using pL) (by simpa [h']using h) (gD h1)
theorem xP:(aj.info? 23).map (·.size)=some 5:=by kernel_rfl
set_option maxRecDepth 100000 in
theorem sS {w:ak} {b o:Nat} {g:Geo} (hc:w.rangeAt b o [ab af g.b,ab af g.s,ab af g.y,ab af g.a,ab af g.r]):(aE 23 ⟨b,o,none⟩).run aj w=.ok (al g.v) w:=
 iL w b o _ _ _ hc Tryz.underlying23 rfl (by exact xP)
theorem sT (a q:Int) (w:ak):(cY 196 #[(0,ab af a),(1,ab aD q)]).run aj w=.ok (al #[ab af a,ab aD q]) w:=by kernel_rfl
theorem xQ (n:Int) (g:Geo) (a q:Int) (w:ak):(cY 198 #[(0,ab aD n),(1,al g.v),(2,al #[ab af a,ab aD q])]).run aj w=.ok (al (cJ n g a q).toArray) w:=by kernel_rfl
theorem ig (m s:Int) (w:ak):(cY 304 #[(0,ab aq m),(1,ab aD s)]).run aj w=.ok (al (Value.int aq m:: ab aD s:: ab af 0::an (bK 48 0)).toArray) w:=by kernel_rfl
end
theorem aB.sup {x:ak} {B:Nat} {t:aV} {gen:Int} {g:Geo} {a q:Int} (h:aB x B t (cJ gen g a q)):(aE 198 ⟨B,0,none⟩).run aj x=.ok (al (cJ gen g a q).toArray) x:=kz h.range rfl
theorem aB.supG {x:ak} {B:Nat} {t:aV} {gen:Int} {g:Geo} {a q:Int} (h:aB x B t (cJ gen g a q)):(aE 23 ⟨B,1,none⟩).run aj x=.ok (al g.v) x:=
 sS fun j v hj=>h.cell (1+j) v (by
  match j,hj with
  | 0,hj=>exact hj
  | 1,hj=>exact hj
  | 2,hj=>exact hj
  | 3,hj=>exact hj
  | 4,hj=>exact hj
  | j+5,hj=>simp at hj)
def dh (g:Geo) (a q:Int):List Int:= [82,86,84,49]++(aH g.b 2++(aH g.s 1++(aH g.y 1++(aH g.a 2++(aH g.r 2++(aH a 2++aH q 4))))))
theorem nI (g:Geo) (a q:Int):(dh g a q).length=18:=by simp[dh,bE]
def ev (gen:Int) (g:Geo) (a q:Int):Sct:=⟨83,gen,0,dh g a q++bK 30 0⟩
theorem pM (gen:Int) (g:Geo) (a:Nat) (q:Int):ev gen g (a:Int) q=dt gen g a q:=by
 unfold ev dt fU dh;simp
theorem pN (gen:Int) (g:Geo) (a q:Int):(ev gen g a q).body.length=48:=by simp[ev,nI]
theorem EB {x:ak} {P:Nat} {v:am} {gen:Int} {g:Geo} {a q:Int} (hP:aB x P 304 (Value.int aq 83:: ab aD gen:: ab af 0::an (bK 48 0))) (hv:Sl aq x v (dh g a q)):
  (Builtin.copy_ #[76, 76] 3 #[ag (some ⟨P,3,none⟩) 48 48,v]).run aj x=.ok (goInt 18) (x.setCells P 3 (an (dh g a q)))/\
  (aE 304 ⟨P,0,none⟩).run aj (x.setCells P 3 (an (dh g a q)))=.ok (al (ev gen g a q).cells.toArray) (x.setCells P 3 (an (dh g a q))):=by
 have ht:x.there P 3 48:=fy hP 3 48 (by simp[an]);have hl:=nI g a q;have h18:x.there P 3 18:=fun j hj=>ht j (by omega);have rc:=jP (B:=P) (o:=3) (dLen:=48) (dCap:=48) 3 hv (by omega) (by rw[hl];exact h18);rw[hl]at rc;refine⟨rc,mp ?_ (Sct.cells_length (pN gen g a q))⟩;have e:(ev gen g a q).cells= [ab aq 83,ab aD gen,ab af 0]++(an (dh g a q)++an (bK 30 0)):=by simp[Sct.cells,ev,an]
 rw[e];have hr:x.rangeAt P 0 (Value.int aq 83:: ab aD gen:: ab af 0::an (bK 48 0)):=hP.range;refine kp (iM (fun j u hj=> ?_) _ 3 _ (aC (aA (by simp)))) (fun j u hj=> ?_)
 ·refine hr j u ?_
  match j,hj with
  | 0,hj=>exact hj
  | 1,hj=>exact hj
  | 2,hj=>exact hj
  | j+3,hj=>simp at hj
 ·by_cases hj2:j<18
  ·rw[eU (by rw[bi,hl];exact hj2)]at hj;exact gE x P 3 _ (by rw[bi,hl];exact h18) j u hj
  ·rw[fF (by rw[bi,hl];omega),bi,hl]at hj;have hz:x.rangeAt P 21 (an (bK 30 0)):=fun i z hi=>by
    have h30:i<30:=by have:=(dp.1 hi).1;simpa [an]using this
    have:=hr (21+i) z (by
     rw[show 21+i=18+i+1+1+1 by omega,kC,kC,kC,←hi];unfold an;rw[du,du,jL,jL,if_pos (by omega),if_pos h30])
    rwa [dC]at this
   have:=iM hz P 3 (an (dh g a q)) (aC (aC (by rw[bi,hl];omega))) (j - 18) u hj
   rwa [show 21+(j - 18)= [Value.int aq 83,ab aD gen,ab af 0].length+j by simp;omega]at this
end
section
attribute [-simp] isAgg51 zeroValue51 isAgg205 zeroValue205 isAgg304 zeroValue304 isAgg226 zeroValue226 isAgg207 zeroValue207
attribute [-go_sem] aE aL cZ
attribute [local go_sem] bC bD cV eM eN eO ek gA gB gC
theorem EE (x:ak) {c:List am} (hl:c.length=65) (h1:∀v ∈ c,v.oneCell'=true):∃y,(aL 207 ⟨x.heap.size,0,none⟩ (al c.toArray)).run aj (x.alloc (ap gL.toArray 207))=.ok () y/\aB y x.heap.size 207 c/\ah x.heap.size x y:=
 ⟨_,D4 pC hl h1,aB.new x _ c,aR x _⟩
theorem aB.wrB {x:ak} {B:Nat} {t:aV} {i:Nat} {b:List am} (h:aB x B t (dS (i,b))) (hb:b.length=64):(aE 51 ⟨B,1,none⟩).run aj x=.ok (al b.toArray) x:=
 dd (jO (a:= [ab af (i:Int)]) (b:=b) h) hb
theorem sU {rb p0 p1:Nat} {S:RS} {w:ak} {f:Nat->Prop} (h:aX rb p0 p1 S w f) (hfu:S.fuse<=2000000) (hd:0<=S.done/\S.done<=950000) {m:Nat} (hf:S.Few m) (hm:m<=253) {l:cA} (hin:∀x ∈ l,x.1<S.n0) (hnd:(l.map (·.1)).Nodup) (hbk:∀x ∈ l,bx x.2) (hll:l.length<=1000) {v:am} {N:Nat} (hv:w.ownsRow N 207 65 v (cG l).length (cG l).flatten) (hvf:∀g,v.ownBlock=some g->¬f g):
  az aj 134 #[ao (some ⟨rb,0,none⟩),v] w fun e w'=>e=ar (ab af (S.st l).2)/\∃f',aX rb p0 p1 (S.st l).1 w' f'/\Turn f f' w w':=by
 obtain⟨T,hT⟩:∃T:Nat->RS×Bool,T=fun k=>S.wrs (l.take k):=⟨_,rfl⟩;have hT':∀k,T k=S.wrs (l.take k):=fun k=>by rw[hT]
 have HW:Hid (∀k,(T k).1.Fit/\(T k).1.Few 254/\(T k).1.n0=S.n0):=fun k=>by
  have h1:∀x ∈ l.take k,x.1<S.n0:=fun x hx=>hin x (gX hx);obtain⟨w1,w2,w3⟩:=RS.wrs_way (l.take k) S;have hll:(l.take k).length<=1000:=by rw[fd];omega
  rw[hT' k];exact⟨RS.fit (by omega) (by omega) (by omega),(RS.wrs_few hf (by omega) h1 (List.Nodup.sublist (List.Sublist.map _ (List.take_sublist k _)) hnd)).mono (by omega),(S.wrs_spec _ h1).1.n0⟩
 have HS:Hid (∀k i b,l[k]? =some (i,b)->(T k).2=true->T (k+1)=((T k).1.write 0 ((i:Nat):Int) b,decide ((T k).1.writeE 0 ((i:Nat):Int)=0))):=fun k i b hb ht=>by
  rw[hT']at ht;rw[hT',hT',List.take_add_one,hb];exact RS.wrs_last _ S _ _ ht
 have HF:Hid (∀k,(T k).2=false->(S.st l)=((T k).1,14)):=fun k hk=>by
  rw[hT']at hk ⊢;have e:=RS.wrs_stop (l.take k) (l.drop k) S hk;rw[ki]at e;unfold RS.st;rw[e,if_pos hk]
 have HE:Hid ((T l.length).2=true->(S.st l)=((T l.length).1.flush 0,(T l.length).1.flushE 0)):=fun hk=>by
  rw[hT',List.take_length]at hk ⊢;unfold RS.st;rw[if_neg (by rw[hk];simp)]
 have H0:Hid (aX rb p0 p1 (T 0).1 w f/\(T 0).2=true):=by
  refine(?_:_/\_);rw[hT'];exact⟨h,rfl⟩
 obtain⟨res,hres⟩:=w9nm (S.st l);rw[hres]at HF HE ⊢;have hwl:(cG l).length=l.length:=by simp[cG]
 rw[hwl]at hv;obtain⟨a,c,rfl,hrow⟩:=fR hv;obtain⟨n,hnn⟩:=w9nm l.length;rw[hnn]at HE hll hrow hvf ⊢;have HROW:=ae hrow;have HVF:=ae hvf;have HNN:=ae hnn;have HIN:=ae hin;have HBK:=ae hbk;clear h hT hT' hnd hfu hd hf hm hin hbk hres hnn hv hrow hvf hwl;go_enter func134,ntmps134;go_wp2_with fail;go_loopw [10] (fun i wr=>∃(k:Nat) (f':Nat->Prop),k<=n/\i=ab af (k:Int)/\Hid ((T k).2=true)/\Hid (aX rb p0 p1 (T k).1 wr f')/\Hid (Turn f f' w wr)) (fun i _=>n - (aW i).toNat)
 case atStart=>exact⟨0,f,bq _,rfl,H0.out.2,H0.out.1,Turn.refl _ _⟩
 case round=>
  obtain⟨k,f1,hk,rfl,HK,HQ,HTU⟩:=hrel;by_cases hlt:k<n
  ·have g3:decide ((k:Int)< (n:Int))=true:=by simpa using hlt
   obtain⟨⟨i,b⟩,hb⟩:∃b,l[k]? =some b:=⟨_,bJ (by rw[HNN.out];exact hlt)⟩;have hbl:bx b:=HBK.out (i,b) (dI hb);have hb64:b.length=64:=hbl.length;have hi0:i<S.n0:=HIN.out (i,b) (dI hb);obtain⟨g,rfl,hgl,hg⟩:=HROW.out (by omega);have hgf:¬f g:=HVF.out g rfl;have hg':=da hg (HTU.out.out g hgl hgf);have LD:(aE 207 ⟨g,0+k*65,none⟩).run aj wr=.ok (al (dS (i,b)).toArray) wr:=xe (mE (s:=65) (fun x hx=>by obtain⟨y,hy,rfl⟩:=dc.1 hx;exact kT (HBK.out y hy).length) hg' (by show(cG l)[k]? =_;unfold cG;rw[du,hb];rfl)) (kT hb64);rw[dC]at LD;obtain⟨x2,ST2,hr2,hb2⟩:=EE wr (kT (x:=(i,b)) hb64) (nA hbl);have c0:x2.cell? ⟨wr.heap.size,0,none⟩=some (ab af (i:Int)):=hr2.cell 0 _ rfl;have LB:=hr2.wrB hb64;have HSX:=HS.out k i b hb HK.out;obtain⟨T2,hT2⟩:=w9nm (T (k+1));rw[hT2]at HSX;have hway:=HW.out k;have HT2:Hid (Turn f f1 w x2):=HTU.out.trans (Turn.of_below hb2);have HT2':=ae hT2;have HWR:Hid (az aj 63 #[ao (some ⟨rb,0,none⟩),ab af 0,ab af (i:Int),al b.toArray] x2 fun e w'=>e=ar (ab af ((T k).1.writeE 0 (i:Int)))/\∃f',aX rb p0 p1 T2.1 w' f'/\Turn f1 f' x2 w'):=by
    have:=(HQ.out.beside hb2).write hway.1 (hway.2.1.mono (by omega)) 0 (i:Int) hbl;rw[HSX];exact this
   have hE:(T k).1.writeE 0 (i:Int)=0\/(T k).1.writeE 0 (i:Int)=14:=by
    rcases((T k).1.write0 (by rw[hway.2.2];exact hi0) b).2 with⟨_,e,_⟩ | ⟨_,e,_⟩
    ·exact aA e
    ·exact aC e
   obtain⟨we,hwe⟩:=w9nm ((T k).1.writeE 0 (i:Int));rw[hwe]at HWR hE;have hsx2:T2.2=decide (we=0):=by rw[HSX,hwe]
   have HSX2:=ae hsx2;obtain⟨B,hB⟩:=w9nm wr.heap.size;rw[hB]at c0 LB ST2;obtain⟨bk,hbk⟩:=w9nm b.toArray;rw[hbk]at LB HWR;obtain⟨wc,hwc⟩:=w9nm ((dS (i,b)).toArray);rw[hwc]at LD ST2;clear hb hbl hb64 hg' hr2 HSX hway hb2 hT2 hwe hsx2 hgf hgl hg hwc hbk;go_wp2_with fail;clear LD ST2 c0 LB hB;go_at_call 63;refine HWR.out.mono ?_;rintro e x5 ⟨rfl,f5,g1,g2⟩;have Q5:=ae g1;have T5:=ae (HT2.out.trans g2);clear g1 g2 HWR HT2;by_cases h0:we=0
   ·subst h0;have HK2:Hid ((T (k+1)).2=true):=by show _=_;rw[HT2'.out,HSX2.out];rfl
    have Q6:Hid (aX rb p0 p1 (T (k+1)).1 x5 f5):=by show aX _ _ _ _ _ _;rw[HT2'.out];exact Q5.out
    go_wp2_with fail;go_roundw
    case rel=>exact⟨k+1,f5,hlt,by go_num,HK2,Q6,T5⟩
    case measure=>simp[aW];omega
   ·obtain rfl:we=14:=hE.resolve_left h0;have HR:Hid (res=(T2.1,14)):=by
     show _=_;rw[←HT2'.out];exact HF.out (k+1) (by rw[HT2'.out,HSX2.out];rfl)
    go_wp2_with fail;go_ret;rw[HR.out];exact⟨rfl,f5,Q5.out,T5.out⟩
  ·have g3:decide ((k:Int)< (n:Int))=false:=by simpa using hlt
   obtain rfl:k=n:=by omega
   have hway:=HW.out k;have HFL:=ae (HQ.out.flush hway.1 0);have HR:=ae (HE.out HK.out);clear hway;go_wp2_with fail;go_at_call 81;refine HFL.out.mono ?_;rintro e x5 ⟨rfl,f5,g1,g2⟩;have Q5:=ae g1;have T5:=ae (HTU.out.trans g2);clear g1 g2 HFL;go_wp2_with fail;go_ret;rw[HR.out];exact⟨rfl,f5,Q5.out,T5.out⟩
end
section
def ei (w:ak) (L:List (am×List Int)):Prop:=∀p ∈ L,Sl aq w p.1 p.2
theorem ei.nil (w:ak):ei w []:=fun p h=>by cases h
theorem ei.put {w w':ak} {L:List (am×List Int)} (h:ei w L) (hb:w9b w w') {v:am} {bs:List Int} (hv:Sl aq w' v bs):ei w' ((v,bs)::L):=fun p hp=>by
 rcases ec.1 hp with rfl | hp
 ·exact hv
 ·exact(h p hp).below hb
theorem ei.below {w w':ak} {L:List (am×List Int)} (h:ei w L) (hb:w9b w w'):ei w' L:=fun p hp=>(h p hp).below hb
theorem ii {P:Program} {l:List Oper} {Q:Exit->Act->ak->Prop} {S:ak->Prop} {n i j:Nat} {p q:Plan} {a:Act} {w:ak}:fh P l Q S n (.two i j p q) a w=(wpList P l.toArray (eZ S Q (fh P l Q S n p)) [cQ l i] a w/\wpList P l.toArray (eZ S Q (fh P l Q S n q)) [cQ l j] a w):=rfl
theorem lO {x:ak} (n:Int) (k:Nat) (h1:1<=k) (h2:k<=16) (h0:0<=n) (h3:n<18446744073709551616):az aj 174 #[ab .u64 n,ab af (k:Int)] x fun e w'=>∃a c,e=ar (ag a k c)/\Sl aq w' (ag a k c) (aH n k)/\ah x.heap.size x w':=by
 refine(ng n k x h1 h2 h0 h3).mono ?_;rintro e w' ⟨v,rfl,hrow,hb⟩;have hs:=Sl.of_owns (bs:=aH n k) (by rw[bE];exact hrow);obtain⟨a,c,hv, -⟩:=id hs;rw[bE]at hv;subst hv;exact⟨a,c,rfl,hs,hb⟩
set_option maxRecDepth 100000 in
theorem kU (w:ak) (L:Nat) (C:Array am) (n c:Nat) (h:w.heap[L]? =some (ap C 5 (0,0))):
  ∃w',(convert 76 76 (ag (some ⟨L,0,none⟩) n c)).run aj w=.ok (ag (some ⟨L,0,none⟩) n c) w'/\ah L w w'/\w'.heap.size=w.heap.size/\∀p,w'.cell? p=w.cell? p:=by
 have hsh:w.shape? L=some (5,C.size):=by unfold World.shape?;rw[h]
 have hlt:L<w.heap.size:=(cj.1 h).1;have hoth:∀k,k≠L->(w.freeze ⟨L,C.size,none⟩ 1).heap[k]? =w.heap[k]? :=fun k hk=>by
  unfold World.freeze;rw[if_neg (by decide)];show(w.heap.modify L _)[k]? =_;rw[Array.getElem?_modify,if_neg (fun e=>hk e.symm)]
 have hat:∃r,(w.freeze ⟨L,C.size,none⟩ 1).heap[L]? =some (ap C 5 r):=by
  unfold World.freeze;rw[if_neg (by decide)];show∃r,(w.heap.modify L _)[L]? =_;rw[Array.getElem?_modify,if_pos rfl,h];exact⟨_,rfl⟩
 have hsz:(w.freeze ⟨L,C.size,none⟩ 1).heap.size=w.heap.size:=by
  unfold World.freeze;rw[if_neg (by decide)];exact Array.size_modify
 refine⟨w.freeze ⟨L,C.size,none⟩ 1, ?_,⟨rfl,rfl,rfl,by rw[hsz];exact aJ _,fun k hk=>hoth k (by omega)⟩,hsz,fun p=> ?_⟩
 ·simp[convert,run_underlying Tryz.underlying76,run_underlying Tryz.underlying5,markStringish,hsh]
 ·by_cases hp:p.block=L
  ·obtain⟨r,hr⟩:=hat;unfold World.cell?;rw[hp,hr,h]
  ·exact cL (hoth _ hp)
theorem Sl.cells {w w':ak} {v:am} {bs:List Int} (h:Sl aq w v bs) (hs:w'.heap.size=w.heap.size) (hc:∀p,w'.cell? p=w.cell? p):Sl aq w' v bs:=by
 obtain⟨a,cap,e,h1,h2,h3,hn⟩:=h;refine⟨a,cap,e,h1,h2, ?_,hn⟩;rcases h3 with h3 | ⟨b,off,e,h3,h4⟩
 ·exact aA h3
 ·exact aC ⟨b,off,e,by rw[hs];exact h3,fun j hj=>(hc _).trans (h4 j hj)⟩
theorem ei.cells {w w':ak} {L:List (am×List Int)} (h:ei w L) (hs:w'.heap.size=w.heap.size) (hc:∀p,w'.cell? p=w.cell? p):ei w' L:=fun p hp=>(h p hp).cells hs hc
theorem fE {ι:Type} {P:Program} {l:List Oper} {Q:Exit->Act->ak->Prop} {S:ak->Prop} {n:Nat} {p0:Plan} {a0:Act} {x0:ak} (p1:Plan) (F:ι->Act) (C:ι->ak->Prop) (h1:∀i x,C i x->fh P l Q S n p1 (F i) x)
  (h0:(∀i x,C i x->fh P l Q S n p1 (F i) x)->fh P l Q S n p0 a0 x0):fh P l Q S n p0 a0 x0:=h0 h1
end
section
attribute [-simp] isAgg51 zeroValue51 isAgg205 zeroValue205 isAgg304 zeroValue304 isAgg226 zeroValue226 isAgg207 zeroValue207 isAgg198 zeroValue198
attribute [-go_sem] aE aL cZ
attribute [local go_sem] bC bD cV eM eN eO ig ek gA ie gB gC
theorem kV (w:ak):(cO 76 4 #[(0,ab aq 82),(1,ab aq 86),(2,ab aq 84),(3,ab aq 49)]).run aj w=.ok (ag (some ⟨w.heap.size,0,none⟩) 4 4) (w.alloc (ap (an [82,86,84,49]).toArray 5)):=by
 kernel_rfl
theorem EH (w:ak) (a b c d e f g h:Option aN) (la lb lc ld le lf lg lh ca cb cc cd ce cf cg ch:Nat):
  (cO 332 8 #[(0,ag a la ca),(1,ag b lb cb),(2,ag c lc cc),(3,ag d ld cd),(4,ag e le ce),(5,ag f lf cf),(6,ag g lg cg),(7,ag h lh ch)]).run aj w=.ok (ag (some ⟨w.heap.size,0,none⟩) 8 8) (w.alloc (ap #[ag a la ca,ag b lb cb,ag c lc cc,ag d ld cd,ag e le ce,ag f lf cf,ag g lg cg,ag h lh ch] 76)):=by
 kernel_rfl
theorem SupIn.of {gen:Int} {g:Geo} {a q:Int} (h:SupIn gen g a q):0<=g.b/\g.b<65536/\0<=g.s/\g.s<256/\0<=g.y/\g.y<256/\0<=g.a/\g.a<65536/\0<=g.r/\g.r<65536/\0<=a/\a<65536/\0<=q/\q<4294967296:=
 ⟨h.b.1,h.b.2,h.s.1,h.s.2,h.y.1,h.y.2,h.a'.1,h.a'.2,h.r.1,h.r.2,h.at0.1,h.at0.2,h.seq.1,h.seq.2⟩
theorem EJ (x:ak) (gen:Int):∃y,(aL 304 ⟨x.heap.size,0,none⟩ (al (Value.int aq 83:: ab aD gen:: ab af 0::an (bK 48 0)).toArray)).run aj (x.alloc (ap cm.toArray 304))=.ok () y/\aB y x.heap.size 304 (Value.int aq 83:: ab aD gen:: ab af 0::an (bK 48 0))/\ah x.heap.size x y:=
 ⟨_,oN kN (by simp[an]) (Sct.cells_one ⟨83,gen,0,bK 48 0⟩),aB.new x _ _,aR x _⟩
def pO:Plan:=.one 39 (.one 40 .leaf)
def pP:Plan:=.one 38 pO
def pQ:Plan:=.one 33 pP
def pR:Plan:=.one 28 pQ
def pS:Plan:=.one 23 pR
def pT:Plan:=.one 18 pS
def pU:Plan:=.one 13 pT
def sX:Plan:=.one 8 pU
def pV:Plan:=.one 3 pO
def pW:Plan:=.two 3 38 pP pV
def pX:Plan:=.two 3 33 pQ pW
def pY:Plan:=.two 3 28 pR pX
def pZ:Plan:=.two 3 23 pS pY
def p7:Plan:=.two 3 18 pT pZ
def p8:Plan:=.two 3 13 pU p7
def sY:Plan:=.two 3 8 sX p8
def sZ:Plan:=.one 2 pV
def s7:Plan:=.two 2 38 pW sZ
def s9:Plan:=.two 2 33 pX s7
def tc:Plan:=.two 2 28 pY s9
def td:Plan:=.two 2 23 pZ tc
def te:Plan:=.two 2 18 p7 td
def tf:Plan:=.two 2 13 p8 te
def xR:Plan:=.two 2 8 sY tf
def cW (gen:Int) (g:Geo) (a q:Int) (B0 B1 B2:Nat) (t9 t10 v1 v2 v3 v4 v5 v6 v7:am):Act:={tmps:=#[al (cJ gen g a q).toArray,ao (some ⟨B0,0,none⟩),ao (some ⟨B1,0,none⟩),ao (some ⟨B2,0,none⟩),ao (some ⟨B0,0,none⟩),ab aD gen,al ((cm.set 0 (ab aq 83)).set 1 (ab aD gen)).toArray,ao (some ⟨B2,3,none⟩),ag (some ⟨B2,3,none⟩) 48 48,t9,t10,ao (some ⟨B0,1,none⟩),ao (some ⟨B0,1,none⟩),ab af g.b,ab .u64 g.b,v1,ao (some ⟨B0,1,none⟩),ao (some ⟨B0,2,none⟩),ab af g.s,ab .u64 g.s,v2,ao (some ⟨B0,1,none⟩),ao (some ⟨B0,3,none⟩),ab af g.y,ab .u64 g.y,v3,ao (some ⟨B0,1,none⟩),ao (some ⟨B0,4,none⟩),ab af g.a,ab .u64 g.a,v4,ao (some ⟨B0,1,none⟩),ao (some ⟨B0,5,none⟩),ab af g.r,ab .u64 g.r,v5,ao (some ⟨B0,6,none⟩),ao (some ⟨B0,6,none⟩),ab af a,ab .u64 a,v6,ao (some ⟨B0,6,none⟩),ao (some ⟨B0,7,none⟩),ab aD q,ab .u64 q,v7,aK,aK,aK,aK],defers:= []}
theorem xS {gen:Int} {g:Geo} {a q:Int} (hI:SupIn gen g a q) (w:ak):
  az aj 216 #[al (cJ gen g a q).toArray] w fun e w'=>e=ar (al (ev gen g a q).cells.toArray)/\ah w.heap.size w w':=by
 obtain⟨W1,hW1⟩:=w9nm (w.alloc (ap (cJ gen g a q).toArray 198));have r1:aB W1 w.heap.size 198 (cJ gen g a q):=by rw[←hW1];exact aB.new w _ _
 have b1:ah w.heap.size w W1:=by rw[←hW1];exact aR w _
 obtain⟨W2,hW2⟩:=w9nm (W1.alloc (ap cm.toArray 304));have b2:ah W1.heap.size W1 W2:=by rw[←hW2];exact aR W1 _
 have r2:aB W2 W1.heap.size 304 cm:=by rw[←hW2];exact aB.new W1 _ _
 obtain⟨W,ST,r3,b3⟩:=EJ W2 gen;have rS:=(r1.below b2);have c0:W2.cell? ⟨w.heap.size,0,none⟩=some (ab aD gen):=rS.cell 0 _ rfl;have hb12:=b1.trans (b2.mono b1.size);have HB0:w9h w W:=hb12.trans (b3.mono hb12.size);have rS3:=rS.below b3;obtain⟨B0,hB0⟩:=w9nm w.heap.size;obtain⟨B1,hB1⟩:=w9nm W1.heap.size;obtain⟨B2,hB2⟩:=w9nm W2.heap.size;have r23:=r2.below b3;rw[hB1]at r23;rw[hB2]at ST r3;have ST:(aL 304 ⟨B2,0,none⟩ (al ((cm.set 0 (ab aq 83)).set 1 (ab aD gen)).toArray)).run aj (W2.alloc (ap cm.toArray 304))=.ok () W:=ST;rw[hB0]at c0 rS3;have R1:=ae r23;have R3:=ae r3;have h01:w.heap.size<=B1:=by rw[←hB1];exact b1.size
 have h12:w.heap.size<=B2:=by rw[←hB2];exact hb12.size
 have H1:=ae h01;have HNE:Hid (B1≠B2):=by show _≠_;have:=r2.lt;omega
 have H2:=ae h12;have d1:∀z:aI W,z.1.cell? ⟨B0,1,none⟩=some (ab af g.b):=fun z=>(rS3.below z.2).cell 1 _ rfl;have d2:∀z:aI W,z.1.cell? ⟨B0,2,none⟩=some (ab af g.s):=fun z=>(rS3.below z.2).cell 2 _ rfl;have d3:∀z:aI W,z.1.cell? ⟨B0,3,none⟩=some (ab af g.y):=fun z=>(rS3.below z.2).cell 3 _ rfl;have d4:∀z:aI W,z.1.cell? ⟨B0,4,none⟩=some (ab af g.a):=fun z=>(rS3.below z.2).cell 4 _ rfl;have d5:∀z:aI W,z.1.cell? ⟨B0,5,none⟩=some (ab af g.r):=fun z=>(rS3.below z.2).cell 5 _ rfl;have d6:∀z:aI W,z.1.cell? ⟨B0,6,none⟩=some (ab af a):=fun z=>(rS3.below z.2).cell 6 _ rfl;have d7:∀z:aI W,z.1.cell? ⟨B0,7,none⟩=some (ab aD q):=fun z=>(rS3.below z.2).cell 7 _ rfl;obtain⟨i1,i2,i3,i4,i5,i6,i7,i8,i9,i10,i11,i12,i13,i14⟩:=hI.of;have HP1:Hid (∀x:ak,az aj 174 #[ab .u64 g.b,ab af 2] x fun e w'=>∃ad c,e=ar (ag ad 2 c)/\Sl aq w' (ag ad 2 c) (aH g.b 2)/\ah x.heap.size x w'):=fun x=>lO (x:=x) g.b 2 (by omega) (by omega) (by omega) (by omega);have HP2:Hid (∀x:ak,az aj 174 #[ab .u64 g.s,ab af 1] x fun e w'=>∃ad c,e=ar (ag ad 1 c)/\Sl aq w' (ag ad 1 c) (aH g.s 1)/\ah x.heap.size x w'):=fun x=>lO (x:=x) g.s 1 (by omega) (by omega) (by omega) (by omega);have HP3:Hid (∀x:ak,az aj 174 #[ab .u64 g.y,ab af 1] x fun e w'=>∃ad c,e=ar (ag ad 1 c)/\Sl aq w' (ag ad 1 c) (aH g.y 1)/\ah x.heap.size x w'):=fun x=>lO (x:=x) g.y 1 (by omega) (by omega) (by omega) (by omega);have HP4:Hid (∀x:ak,az aj 174 #[ab .u64 g.a,ab af 2] x fun e w'=>∃ad c,e=ar (ag ad 2 c)/\Sl aq w' (ag ad 2 c) (aH g.a 2)/\ah x.heap.size x w'):=fun x=>lO (x:=x) g.a 2 (by omega) (by omega) (by omega) (by omega);have HP5:Hid (∀x:ak,az aj 174 #[ab .u64 g.r,ab af 2] x fun e w'=>∃ad c,e=ar (ag ad 2 c)/\Sl aq w' (ag ad 2 c) (aH g.r 2)/\ah x.heap.size x w'):=fun x=>lO (x:=x) g.r 2 (by omega) (by omega) (by omega) (by omega);have HP6:Hid (∀x:ak,az aj 174 #[ab .u64 a,ab af 2] x fun e w'=>∃ad c,e=ar (ag ad 2 c)/\Sl aq w' (ag ad 2 c) (aH a 2)/\ah x.heap.size x w'):=fun x=>lO (x:=x) a 2 (by omega) (by omega) (by omega) (by omega);have HP7:Hid (∀x:ak,az aj 174 #[ab .u64 q,ab af 4] x fun e w'=>∃ad c,e=ar (ag ad 4 c)/\Sl aq w' (ag ad 4 c) (aH q 4)/\ah x.heap.size x w'):=fun x=>lO (x:=x) q 4 (by omega) (by omega) (by omega) (by omega);obtain⟨P,hP⟩:=w9nm (ev gen g a q);have HPP:=ae hP;rw[hP];have hmx:=w9x
 clear r1 b1 b2 r2 r3 b3 rS hb12 rS3 r23 h01 h12 hI hP;go_enter func216,ntmps216;go_wp2_with fail;refine cM (fun x=>∃y:aI W,x=y.1) 41 (.takes [0,1,4,5,6,7,9,10,11,12,14,15,16,17,19,20,21,22,24,25,26,27,29,30,31,32,34,35,36,37] xR) hmx (by kernel_rfl) (by intro c x v a w h;cases x<;>exact h) ⟨⟨W.drew,(aF _ W).drew⟩,rfl⟩ ?_;repeat(rw[bj];simp only[au,ay];go_big_quiet_step (fail);refine aO ?_)
 rw[bo];clear ST c0 d1 d2 d3 d4 d5 d6 d7 i1 i2 i3 i4 i5 i6 i7 i8 i9 i10 i11 i12 i13 i14 hW1 hW2 hB1 hB2;have K0:Hid (ah W.heap.size W W.drew):=(aF _ W).drew;obtain⟨x0,hx0⟩:=w9nm W.drew;rw[hx0]at K0;try rw[hx0]
 clear hx0;refine fE (ι:=Nat×Option aN×Nat×Option aN×Nat×Option aN×Nat×Option aN×Nat×Option aN×Nat×Option aN×Nat×Option aN×Nat) (pO) (fun i=>cW gen g a q B0 B1 B2 (ag (some ⟨i.1,0,none⟩) 4 4) (ag (some ⟨i.1,0,none⟩) 4 4) (ag i.2.1 2 i.2.2.1) (ag i.2.2.2.1 1 i.2.2.2.2.1) (ag i.2.2.2.2.2.1 1 i.2.2.2.2.2.2.1) (ag i.2.2.2.2.2.2.2.1 2 i.2.2.2.2.2.2.2.2.1) (ag i.2.2.2.2.2.2.2.2.2.1 2 i.2.2.2.2.2.2.2.2.2.2.1) (ag i.2.2.2.2.2.2.2.2.2.2.2.1 2 i.2.2.2.2.2.2.2.2.2.2.2.2.1) (ag i.2.2.2.2.2.2.2.2.2.2.2.2.2.1 4 i.2.2.2.2.2.2.2.2.2.2.2.2.2.2)) (fun i x=>w9h W x/\Hid (ei x [(ag i.2.2.2.2.2.2.2.2.2.2.2.2.2.1 4 i.2.2.2.2.2.2.2.2.2.2.2.2.2.2,aH q 4),(ag i.2.2.2.2.2.2.2.2.2.2.2.1 2 i.2.2.2.2.2.2.2.2.2.2.2.2.1,aH a 2),(ag i.2.2.2.2.2.2.2.2.2.1 2 i.2.2.2.2.2.2.2.2.2.2.1,aH g.r 2),(ag i.2.2.2.2.2.2.2.1 2 i.2.2.2.2.2.2.2.2.1,aH g.a 2),(ag i.2.2.2.2.2.1 1 i.2.2.2.2.2.2.1,aH g.y 1),(ag i.2.2.2.1 1 i.2.2.2.2.1,aH g.s 1),(ag i.2.1 2 i.2.2.1,aH g.b 2)])/\Hid (Sl aq x (ag (some ⟨i.1,0,none⟩) 4 4) [82,86,84,49])) ?_ ?_
 ·rintro⟨L,a1,n1,a2,n2,a3,n3,a4,n4,a5,n5,a6,n6,a7,n7⟩ x ⟨K,S,Z⟩;try dsimp only
  try dsimp only at S Z
  unfold pO cW
  as_aux_lemma=>
   rw[aT];simp only[au,ay];obtain⟨x1,hx⟩:=w9nm (x.alloc (ap #[ag (some ⟨L,0,none⟩) 4 4,ag a1 2 n1,ag a2 1 n2,ag a3 1 n3,ag a4 2 n4,ag a5 2 n5,ag a6 2 n6,ag a7 4 n7] 76));have hb:ah x.heap.size x x1:=by rw[←hx];exact aR x _
   have r4:x1.heap[x.heap.size]? =some (ap #[ag (some ⟨L,0,none⟩) 4 4,ag a1 2 n1,ag a2 1 n2,ag a3 1 n3,ag a4 2 n4,ag a5 2 n5,ag a6 2 n6,ag a7 4 n7] 76 (0,0)):=by rw[←hx];exact bR x _
   have BS:(cO 332 8 #[(0,ag (some ⟨L,0,none⟩) 4 4),(1,ag a1 2 n1),(2,ag a2 1 n2),(3,ag a3 1 n3),(4,ag a4 2 n4),(5,ag a5 2 n5),(6,ag a6 2 n6),(7,ag a7 4 n7)]).run aj x=.ok (ag (some ⟨x.heap.size,0,none⟩) 8 8) x1:=by rw[←hx];exact EH x (some ⟨L,0,none⟩) a1 a2 a3 a4 a5 a6 a7 4 2 1 1 2 2 2 4 4 n1 n2 n3 n4 n5 n6 n7
   have K1:=w9bt K hb;have S1:=ae (S.out.below hb);have SS:Hid (rx x1 (ag (some ⟨x.heap.size,0,none⟩) 8 8) [[82,86,84,49],aH g.b 2,aH g.s 1,aH g.y 1,aH g.a 2,aH g.r 2,aH a 2,aH q 4]):=by
    refine⟨x.heap.size,8,rfl,aJ _,by unfold aS;omega,by rw[←hx];simp,fun k hk=> ?_⟩;have hk':k<8:=hk
    match k,hk' with
     | 0,_=>exact⟨_,cl _ _ 0 _ _ _ r4,Z.out.below hb⟩
     | 1,_=>exact⟨_,cl _ _ 1 _ _ _ r4,S1.out (ag a1 2 n1,aH g.b 2) (by simp)⟩
     | 2,_=>exact⟨_,cl _ _ 2 _ _ _ r4,S1.out (ag a2 1 n2,aH g.s 1) (by simp)⟩
     | 3,_=>exact⟨_,cl _ _ 3 _ _ _ r4,S1.out (ag a3 1 n3,aH g.y 1) (by simp)⟩
     | 4,_=>exact⟨_,cl _ _ 4 _ _ _ r4,S1.out (ag a4 2 n4,aH g.a 2) (by simp)⟩
     | 5,_=>exact⟨_,cl _ _ 5 _ _ _ r4,S1.out (ag a5 2 n5,aH g.r 2) (by simp)⟩
     | 6,_=>exact⟨_,cl _ _ 6 _ _ _ r4,S1.out (ag a6 2 n6,aH a 2) (by simp)⟩
     | 7,_=>exact⟨_,cl _ _ 7 _ _ _ r4,S1.out (ag a7 4 n7,aH q 4) (by simp)⟩
   clear hb r4 hx S S1;refine dq _ _ _ rfl rfl _ _ rfl BS ?_;clear BS;go_wp2_with fail;refine aG ⟨⟨x1,K1.out⟩,rfl⟩ ?_;rw[aT];simp only[au,ay];go_wp2_with fail;go_at_call 173;have hfl: [[82,86,84,49],aH g.b 2,aH g.s 1,aH g.y 1,aH g.a 2,aH g.r 2,aH a 2,aH q 4].flatten=dh g a q:=by simp[dh]
   have hcc:=vB _ _ x1 SS.out (by rw[hfl,nI];omega);rw[hfl]at hcc;refine hcc.mono ?_;clear hcc hfl;rintro e y5 ⟨v5,rfl,hrow,hb⟩;have K5:=w9bt K1 hb;have S5':Sl aq y5 v5 (dh g a q):=Sl.of_owns (bs:=dh g a q) hrow;obtain⟨a5,c5,hv5, -⟩:=id S5';subst hv5;have hP:=R3.out.below K5.out;obtain⟨RC,LD⟩:=EB hP S5';obtain⟨y6,hy6⟩:=w9nm (y5.setCells B2 3 (an (dh g a q)));rw[hy6]at RC LD;rw[HPP.out]at LD;have B6:ah w.heap.size w y6:=by rw[←hy6];exact(HB0.out.trans (K5.out.mono HB0.out.size)).trans ((fi (N:=w.heap.size) H2.out _ _ _).mono (aJ _))
   have hne:B1≠B2:=HNE.out;have r6:y6.heap[B1]? =some (ap cm.toArray 304 (0,0)):=by
    rw[←hy6];exact(li _ _ _ _ (aU R1.out.lt K5.out.size) hne).trans (R1.out.below K5.out)
   obtain⟨y7,ST7,LD7,hb7⟩:=mr (w:=w) (x:=y6) (B:=B1) (u:=P.cells) r6 kN H1.out B6 (by rw[←HPP.out];exact Sct.cells_length (pN gen g a q)) (Sct.cells_one _);have HL7:=ae LD7;have HB7:=ae hb7;clear hrow hb S5' hP r6 B6 hy6 SS LD7 hb7 hne;go_wp2_with fail;refine aG ⟨⟨y5,K5.out⟩,rfl⟩ ?_;rw[cu];simp only[be,bf];go_wp2_with fail;exact bl (ff rfl rfl HL7.out) rfl ⟨rfl,HB7.out⟩
 intro T72;refine fE (ι:=Nat×Option aN×Nat×Option aN×Nat×Option aN×Nat×Option aN×Nat×Option aN×Nat×Option aN×Nat) (pP) (fun i=>cW gen g a q B0 B1 B2 (ag (some ⟨i.1,0,none⟩) 4 4) (ag (some ⟨i.1,0,none⟩) 4 4) (ag i.2.1 2 i.2.2.1) (ag i.2.2.2.1 1 i.2.2.2.2.1) (ag i.2.2.2.2.2.1 1 i.2.2.2.2.2.2.1) (ag i.2.2.2.2.2.2.2.1 2 i.2.2.2.2.2.2.2.2.1) (ag i.2.2.2.2.2.2.2.2.2.1 2 i.2.2.2.2.2.2.2.2.2.2.1) (ag i.2.2.2.2.2.2.2.2.2.2.2.1 2 i.2.2.2.2.2.2.2.2.2.2.2.2) aK) (fun i x=>w9h W x/\Hid (ei x [(ag i.2.2.2.2.2.2.2.2.2.2.2.1 2 i.2.2.2.2.2.2.2.2.2.2.2.2,aH a 2),(ag i.2.2.2.2.2.2.2.2.2.1 2 i.2.2.2.2.2.2.2.2.2.2.1,aH g.r 2),(ag i.2.2.2.2.2.2.2.1 2 i.2.2.2.2.2.2.2.2.1,aH g.a 2),(ag i.2.2.2.2.2.1 1 i.2.2.2.2.2.2.1,aH g.y 1),(ag i.2.2.2.1 1 i.2.2.2.2.1,aH g.s 1),(ag i.2.1 2 i.2.2.1,aH g.b 2)])/\Hid (Sl aq x (ag (some ⟨i.1,0,none⟩) 4 4) [82,86,84,49])) ?_ ?_
 ·rintro⟨L,a1,n1,a2,n2,a3,n3,a4,n4,a5,n5,a6,n6⟩ x ⟨K,S,Z⟩;try dsimp only
  try dsimp only at S Z
  unfold pP cW
  as_aux_lemma=>
   rw[aT];simp only[au,ay];go_wp2_with fail;go_at_call 174;refine(HP7.out _).mono ?_;rintro e x1 ⟨a7,n7,rfl,hs,hb⟩;have K1:=w9bt K hb;have S1:=ae (S.out.put hb hs);have Z1:=ae (Z.out.below hb);clear hs hb;go_wp2_with fail;refine aG ⟨⟨x1,K1.out⟩,rfl⟩ ?_;exact T72 (L,a1,n1,a2,n2,a3,n3,a4,n4,a5,n5,a6,n6,a7,n7) x1 ⟨K1,S1,Z1⟩
 intro T62;refine fE (ι:=Nat×Option aN×Nat×Option aN×Nat×Option aN×Nat×Option aN×Nat×Option aN×Nat) (pQ) (fun i=>cW gen g a q B0 B1 B2 (ag (some ⟨i.1,0,none⟩) 4 4) (ag (some ⟨i.1,0,none⟩) 4 4) (ag i.2.1 2 i.2.2.1) (ag i.2.2.2.1 1 i.2.2.2.2.1) (ag i.2.2.2.2.2.1 1 i.2.2.2.2.2.2.1) (ag i.2.2.2.2.2.2.2.1 2 i.2.2.2.2.2.2.2.2.1) (ag i.2.2.2.2.2.2.2.2.2.1 2 i.2.2.2.2.2.2.2.2.2.2) aK aK) (fun i x=>w9h W x/\Hid (ei x [(ag i.2.2.2.2.2.2.2.2.2.1 2 i.2.2.2.2.2.2.2.2.2.2,aH g.r 2),(ag i.2.2.2.2.2.2.2.1 2 i.2.2.2.2.2.2.2.2.1,aH g.a 2),(ag i.2.2.2.2.2.1 1 i.2.2.2.2.2.2.1,aH g.y 1),(ag i.2.2.2.1 1 i.2.2.2.2.1,aH g.s 1),(ag i.2.1 2 i.2.2.1,aH g.b 2)])/\Hid (Sl aq x (ag (some ⟨i.1,0,none⟩) 4 4) [82,86,84,49])) ?_ ?_
 ·rintro⟨L,a1,n1,a2,n2,a3,n3,a4,n4,a5,n5⟩ x ⟨K,S,Z⟩;try dsimp only
  try dsimp only at S Z
  unfold pQ cW
  as_aux_lemma=>
   rw[aT];simp only[au,ay];go_wp2_with fail;go_at_call 174;refine(HP6.out _).mono ?_;rintro e x1 ⟨a6,n6,rfl,hs,hb⟩;have K1:=w9bt K hb;have S1:=ae (S.out.put hb hs);have Z1:=ae (Z.out.below hb);clear hs hb;go_wp2_with fail;refine aG ⟨⟨x1,K1.out⟩,rfl⟩ ?_;exact T62 (L,a1,n1,a2,n2,a3,n3,a4,n4,a5,n5,a6,n6) x1 ⟨K1,S1,Z1⟩
 intro T52;refine fE (ι:=Nat×Option aN×Nat×Option aN×Nat×Option aN×Nat×Option aN×Nat) (pR) (fun i=>cW gen g a q B0 B1 B2 (ag (some ⟨i.1,0,none⟩) 4 4) (ag (some ⟨i.1,0,none⟩) 4 4) (ag i.2.1 2 i.2.2.1) (ag i.2.2.2.1 1 i.2.2.2.2.1) (ag i.2.2.2.2.2.1 1 i.2.2.2.2.2.2.1) (ag i.2.2.2.2.2.2.2.1 2 i.2.2.2.2.2.2.2.2) aK aK aK) (fun i x=>w9h W x/\Hid (ei x [(ag i.2.2.2.2.2.2.2.1 2 i.2.2.2.2.2.2.2.2,aH g.a 2),(ag i.2.2.2.2.2.1 1 i.2.2.2.2.2.2.1,aH g.y 1),(ag i.2.2.2.1 1 i.2.2.2.2.1,aH g.s 1),(ag i.2.1 2 i.2.2.1,aH g.b 2)])/\Hid (Sl aq x (ag (some ⟨i.1,0,none⟩) 4 4) [82,86,84,49])) ?_ ?_
 ·rintro⟨L,a1,n1,a2,n2,a3,n3,a4,n4⟩ x ⟨K,S,Z⟩;try dsimp only
  try dsimp only at S Z
  unfold pR cW
  as_aux_lemma=>
   rw[aT];simp only[au,ay];go_wp2_with fail;go_at_call 174;refine(HP5.out _).mono ?_;rintro e x1 ⟨a5,n5,rfl,hs,hb⟩;have K1:=w9bt K hb;have S1:=ae (S.out.put hb hs);have Z1:=ae (Z.out.below hb);clear hs hb;go_wp2_with fail;refine aG ⟨⟨x1,K1.out⟩,rfl⟩ ?_;exact T52 (L,a1,n1,a2,n2,a3,n3,a4,n4,a5,n5) x1 ⟨K1,S1,Z1⟩
 intro T42;refine fE (ι:=Nat×Option aN×Nat×Option aN×Nat×Option aN×Nat) (pS) (fun i=>cW gen g a q B0 B1 B2 (ag (some ⟨i.1,0,none⟩) 4 4) (ag (some ⟨i.1,0,none⟩) 4 4) (ag i.2.1 2 i.2.2.1) (ag i.2.2.2.1 1 i.2.2.2.2.1) (ag i.2.2.2.2.2.1 1 i.2.2.2.2.2.2) aK aK aK aK) (fun i x=>w9h W x/\Hid (ei x [(ag i.2.2.2.2.2.1 1 i.2.2.2.2.2.2,aH g.y 1),(ag i.2.2.2.1 1 i.2.2.2.2.1,aH g.s 1),(ag i.2.1 2 i.2.2.1,aH g.b 2)])/\Hid (Sl aq x (ag (some ⟨i.1,0,none⟩) 4 4) [82,86,84,49])) ?_ ?_
 ·rintro⟨L,a1,n1,a2,n2,a3,n3⟩ x ⟨K,S,Z⟩;try dsimp only
  try dsimp only at S Z
  unfold pS cW
  as_aux_lemma=>
   rw[aT];simp only[au,ay];go_wp2_with fail;go_at_call 174;refine(HP4.out _).mono ?_;rintro e x1 ⟨a4,n4,rfl,hs,hb⟩;have K1:=w9bt K hb;have S1:=ae (S.out.put hb hs);have Z1:=ae (Z.out.below hb);clear hs hb;go_wp2_with fail;refine aG ⟨⟨x1,K1.out⟩,rfl⟩ ?_;exact T42 (L,a1,n1,a2,n2,a3,n3,a4,n4) x1 ⟨K1,S1,Z1⟩
 intro T32;refine fE (ι:=Nat×Option aN×Nat×Option aN×Nat) (pT) (fun i=>cW gen g a q B0 B1 B2 (ag (some ⟨i.1,0,none⟩) 4 4) (ag (some ⟨i.1,0,none⟩) 4 4) (ag i.2.1 2 i.2.2.1) (ag i.2.2.2.1 1 i.2.2.2.2) aK aK aK aK aK) (fun i x=>w9h W x/\Hid (ei x [(ag i.2.2.2.1 1 i.2.2.2.2,aH g.s 1),(ag i.2.1 2 i.2.2.1,aH g.b 2)])/\Hid (Sl aq x (ag (some ⟨i.1,0,none⟩) 4 4) [82,86,84,49])) ?_ ?_
 ·rintro⟨L,a1,n1,a2,n2⟩ x ⟨K,S,Z⟩;try dsimp only
  try dsimp only at S Z
  unfold pT cW
  as_aux_lemma=>
   rw[aT];simp only[au,ay];go_wp2_with fail;go_at_call 174;refine(HP3.out _).mono ?_;rintro e x1 ⟨a3,n3,rfl,hs,hb⟩;have K1:=w9bt K hb;have S1:=ae (S.out.put hb hs);have Z1:=ae (Z.out.below hb);clear hs hb;go_wp2_with fail;refine aG ⟨⟨x1,K1.out⟩,rfl⟩ ?_;exact T32 (L,a1,n1,a2,n2,a3,n3) x1 ⟨K1,S1,Z1⟩
 intro T22;refine fE (ι:=Nat×Option aN×Nat) (pU) (fun i=>cW gen g a q B0 B1 B2 (ag (some ⟨i.1,0,none⟩) 4 4) (ag (some ⟨i.1,0,none⟩) 4 4) (ag i.2.1 2 i.2.2) aK aK aK aK aK aK) (fun i x=>w9h W x/\Hid (ei x [(ag i.2.1 2 i.2.2,aH g.b 2)])/\Hid (Sl aq x (ag (some ⟨i.1,0,none⟩) 4 4) [82,86,84,49])) ?_ ?_
 ·rintro⟨L,a1,n1⟩ x ⟨K,S,Z⟩;try dsimp only
  try dsimp only at S Z
  unfold pU cW
  as_aux_lemma=>
   rw[aT];simp only[au,ay];go_wp2_with fail;go_at_call 174;refine(HP2.out _).mono ?_;rintro e x1 ⟨a2,n2,rfl,hs,hb⟩;have K1:=w9bt K hb;have S1:=ae (S.out.put hb hs);have Z1:=ae (Z.out.below hb);clear hs hb;go_wp2_with fail;refine aG ⟨⟨x1,K1.out⟩,rfl⟩ ?_;exact T22 (L,a1,n1,a2,n2) x1 ⟨K1,S1,Z1⟩
 intro T12;refine fE (ι:=Nat) (sX) (fun i=>cW gen g a q B0 B1 B2 (ag (some ⟨i,0,none⟩) 4 4) (ag (some ⟨i,0,none⟩) 4 4) aK aK aK aK aK aK aK) (fun i x=>w9h W x/\Hid (ei x [])/\Hid (Sl aq x (ag (some ⟨i,0,none⟩) 4 4) [82,86,84,49])) ?_ ?_
 ·rintro L x ⟨K,S,Z⟩;try dsimp only
  try dsimp only at S Z
  unfold sX cW
  as_aux_lemma=>
   rw[aT];simp only[au,ay];go_wp2_with fail;go_at_call 174;refine(HP1.out _).mono ?_;rintro e x1 ⟨a1,n1,rfl,hs,hb⟩;have K1:=w9bt K hb;have S1:=ae (S.out.put hb hs);have Z1:=ae (Z.out.below hb);clear hs hb;go_wp2_with fail;refine aG ⟨⟨x1,K1.out⟩,rfl⟩ ?_;exact T12 (L,a1,n1) x1 ⟨K1,S1,Z1⟩
 intro T02;refine fE (ι:=Nat×Option aN×Nat×Option aN×Nat×Option aN×Nat×Option aN×Nat×Option aN×Nat×Option aN×Nat×Option aN×Nat) (pV) (fun i=>cW gen g a q B0 B1 B2 (ag (some ⟨i.1,0,none⟩) 4 4) aK (ag i.2.1 2 i.2.2.1) (ag i.2.2.2.1 1 i.2.2.2.2.1) (ag i.2.2.2.2.2.1 1 i.2.2.2.2.2.2.1) (ag i.2.2.2.2.2.2.2.1 2 i.2.2.2.2.2.2.2.2.1) (ag i.2.2.2.2.2.2.2.2.2.1 2 i.2.2.2.2.2.2.2.2.2.2.1) (ag i.2.2.2.2.2.2.2.2.2.2.2.1 2 i.2.2.2.2.2.2.2.2.2.2.2.2.1) (ag i.2.2.2.2.2.2.2.2.2.2.2.2.2.1 4 i.2.2.2.2.2.2.2.2.2.2.2.2.2.2)) (fun i x=>w9h W x/\Hid (ei x [(ag i.2.2.2.2.2.2.2.2.2.2.2.2.2.1 4 i.2.2.2.2.2.2.2.2.2.2.2.2.2.2,aH q 4),(ag i.2.2.2.2.2.2.2.2.2.2.2.1 2 i.2.2.2.2.2.2.2.2.2.2.2.2.1,aH a 2),(ag i.2.2.2.2.2.2.2.2.2.1 2 i.2.2.2.2.2.2.2.2.2.2.1,aH g.r 2),(ag i.2.2.2.2.2.2.2.1 2 i.2.2.2.2.2.2.2.2.1,aH g.a 2),(ag i.2.2.2.2.2.1 1 i.2.2.2.2.2.2.1,aH g.y 1),(ag i.2.2.2.1 1 i.2.2.2.2.1,aH g.s 1),(ag i.2.1 2 i.2.2.1,aH g.b 2)])/\Hid (W.heap.size<=i.1/\x.heap[i.1]? =some (ap (an [82,86,84,49]).toArray 5 (0,0)))) ?_ ?_
 ·rintro⟨L,a1,n1,a2,n2,a3,n3,a4,n4,a5,n5,a6,n6,a7,n7⟩ x ⟨K,S,Z⟩;try dsimp only
  try dsimp only at S Z
  unfold pV cW
  as_aux_lemma=>
   rw[aT];simp only[au,ay];obtain⟨x1,CV,hbl,hsz,hcs⟩:=kU x L (an [82,86,84,49]).toArray 4 4 Z.out.2;have K1:w9h W x1:=K.out.trans (hbl.mono Z.out.1);have S1:=ae (S.out.cells hsz hcs);have Z1:Hid (Sl aq x1 (ag (some ⟨L,0,none⟩) 4 4) [82,86,84,49]):=(kn (g:=L) (xs:= [82,86,84,49]) Z.out.2 (by simp[aS])).cells hsz hcs;clear hbl hsz hcs;go_wp2_with fail;refine aG ⟨⟨x1,K1.out⟩,rfl⟩ ?_;exact T72 (L,a1,n1,a2,n2,a3,n3,a4,n4,a5,n5,a6,n6,a7,n7) x1 ⟨K1,S1,Z1⟩
 intro T71;refine fE (ι:=Nat×Option aN×Nat×Option aN×Nat×Option aN×Nat×Option aN×Nat×Option aN×Nat×Option aN×Nat) (pW) (fun i=>cW gen g a q B0 B1 B2 (ag (some ⟨i.1,0,none⟩) 4 4) aK (ag i.2.1 2 i.2.2.1) (ag i.2.2.2.1 1 i.2.2.2.2.1) (ag i.2.2.2.2.2.1 1 i.2.2.2.2.2.2.1) (ag i.2.2.2.2.2.2.2.1 2 i.2.2.2.2.2.2.2.2.1) (ag i.2.2.2.2.2.2.2.2.2.1 2 i.2.2.2.2.2.2.2.2.2.2.1) (ag i.2.2.2.2.2.2.2.2.2.2.2.1 2 i.2.2.2.2.2.2.2.2.2.2.2.2) aK) (fun i x=>w9h W x/\Hid (ei x [(ag i.2.2.2.2.2.2.2.2.2.2.2.1 2 i.2.2.2.2.2.2.2.2.2.2.2.2,aH a 2),(ag i.2.2.2.2.2.2.2.2.2.1 2 i.2.2.2.2.2.2.2.2.2.2.1,aH g.r 2),(ag i.2.2.2.2.2.2.2.1 2 i.2.2.2.2.2.2.2.2.1,aH g.a 2),(ag i.2.2.2.2.2.1 1 i.2.2.2.2.2.2.1,aH g.y 1),(ag i.2.2.2.1 1 i.2.2.2.2.1,aH g.s 1),(ag i.2.1 2 i.2.2.1,aH g.b 2)])/\Hid (W.heap.size<=i.1/\x.heap[i.1]? =some (ap (an [82,86,84,49]).toArray 5 (0,0)))) ?_ ?_
 ·rintro⟨L,a1,n1,a2,n2,a3,n3,a4,n4,a5,n5,a6,n6⟩ x ⟨K,S,Z⟩;try dsimp only
  try dsimp only at S Z
  unfold pW cW
  as_aux_lemma=>
   rw[ii];refine⟨?_, ?_⟩
   ·skip
    simp only[au,ay];obtain⟨x1,CV,hbl,hsz,hcs⟩:=kU x L (an [82,86,84,49]).toArray 4 4 Z.out.2;have K1:w9h W x1:=K.out.trans (hbl.mono Z.out.1);have S1:=ae (S.out.cells hsz hcs);have Z1:Hid (Sl aq x1 (ag (some ⟨L,0,none⟩) 4 4) [82,86,84,49]):=(kn (g:=L) (xs:= [82,86,84,49]) Z.out.2 (by simp[aS])).cells hsz hcs;clear hbl hsz hcs;go_wp2_with fail;refine aG ⟨⟨x1,K1.out⟩,rfl⟩ ?_;exact T62 (L,a1,n1,a2,n2,a3,n3,a4,n4,a5,n5,a6,n6) x1 ⟨K1,S1,Z1⟩
   ·skip
    simp only[au,ay];go_wp2_with fail;go_at_call 174;refine(HP7.out _).mono ?_;rintro e x1 ⟨a7,n7,rfl,hs,hb⟩;have K1:=w9bt K hb;have S1:=ae (S.out.put hb hs);have Z1:Hid (W.heap.size<=L/\x1.heap[L]? =some (ap (an [82,86,84,49]).toArray 5 (0,0))):=⟨Z.out.1,(hb.block L (cj.1 Z.out.2).1).trans Z.out.2⟩;clear hs hb;go_wp2_with fail;refine aG ⟨⟨x1,K1.out⟩,rfl⟩ ?_;exact T71 (L,a1,n1,a2,n2,a3,n3,a4,n4,a5,n5,a6,n6,a7,n7) x1 ⟨K1,S1,Z1⟩
 intro T61;refine fE (ι:=Nat×Option aN×Nat×Option aN×Nat×Option aN×Nat×Option aN×Nat×Option aN×Nat) (pX) (fun i=>cW gen g a q B0 B1 B2 (ag (some ⟨i.1,0,none⟩) 4 4) aK (ag i.2.1 2 i.2.2.1) (ag i.2.2.2.1 1 i.2.2.2.2.1) (ag i.2.2.2.2.2.1 1 i.2.2.2.2.2.2.1) (ag i.2.2.2.2.2.2.2.1 2 i.2.2.2.2.2.2.2.2.1) (ag i.2.2.2.2.2.2.2.2.2.1 2 i.2.2.2.2.2.2.2.2.2.2) aK aK) (fun i x=>w9h W x/\Hid (ei x [(ag i.2.2.2.2.2.2.2.2.2.1 2 i.2.2.2.2.2.2.2.2.2.2,aH g.r 2),(ag i.2.2.2.2.2.2.2.1 2 i.2.2.2.2.2.2.2.2.1,aH g.a 2),(ag i.2.2.2.2.2.1 1 i.2.2.2.2.2.2.1,aH g.y 1),(ag i.2.2.2.1 1 i.2.2.2.2.1,aH g.s 1),(ag i.2.1 2 i.2.2.1,aH g.b 2)])/\Hid (W.heap.size<=i.1/\x.heap[i.1]? =some (ap (an [82,86,84,49]).toArray 5 (0,0)))) ?_ ?_
 ·rintro⟨L,a1,n1,a2,n2,a3,n3,a4,n4,a5,n5⟩ x ⟨K,S,Z⟩;try dsimp only
  try dsimp only at S Z
  unfold pX cW
  as_aux_lemma=>
   rw[ii];refine⟨?_, ?_⟩
   ·skip
    simp only[au,ay];obtain⟨x1,CV,hbl,hsz,hcs⟩:=kU x L (an [82,86,84,49]).toArray 4 4 Z.out.2;have K1:w9h W x1:=K.out.trans (hbl.mono Z.out.1);have S1:=ae (S.out.cells hsz hcs);have Z1:Hid (Sl aq x1 (ag (some ⟨L,0,none⟩) 4 4) [82,86,84,49]):=(kn (g:=L) (xs:= [82,86,84,49]) Z.out.2 (by simp[aS])).cells hsz hcs;clear hbl hsz hcs;go_wp2_with fail;refine aG ⟨⟨x1,K1.out⟩,rfl⟩ ?_;exact T52 (L,a1,n1,a2,n2,a3,n3,a4,n4,a5,n5) x1 ⟨K1,S1,Z1⟩
   ·skip
    simp only[au,ay];go_wp2_with fail;go_at_call 174;refine(HP6.out _).mono ?_;rintro e x1 ⟨a6,n6,rfl,hs,hb⟩;have K1:=w9bt K hb;have S1:=ae (S.out.put hb hs);have Z1:Hid (W.heap.size<=L/\x1.heap[L]? =some (ap (an [82,86,84,49]).toArray 5 (0,0))):=⟨Z.out.1,(hb.block L (cj.1 Z.out.2).1).trans Z.out.2⟩;clear hs hb;go_wp2_with fail;refine aG ⟨⟨x1,K1.out⟩,rfl⟩ ?_;exact T61 (L,a1,n1,a2,n2,a3,n3,a4,n4,a5,n5,a6,n6) x1 ⟨K1,S1,Z1⟩
 intro T51;refine fE (ι:=Nat×Option aN×Nat×Option aN×Nat×Option aN×Nat×Option aN×Nat) (pY) (fun i=>cW gen g a q B0 B1 B2 (ag (some ⟨i.1,0,none⟩) 4 4) aK (ag i.2.1 2 i.2.2.1) (ag i.2.2.2.1 1 i.2.2.2.2.1) (ag i.2.2.2.2.2.1 1 i.2.2.2.2.2.2.1) (ag i.2.2.2.2.2.2.2.1 2 i.2.2.2.2.2.2.2.2) aK aK aK) (fun i x=>w9h W x/\Hid (ei x [(ag i.2.2.2.2.2.2.2.1 2 i.2.2.2.2.2.2.2.2,aH g.a 2),(ag i.2.2.2.2.2.1 1 i.2.2.2.2.2.2.1,aH g.y 1),(ag i.2.2.2.1 1 i.2.2.2.2.1,aH g.s 1),(ag i.2.1 2 i.2.2.1,aH g.b 2)])/\Hid (W.heap.size<=i.1/\x.heap[i.1]? =some (ap (an [82,86,84,49]).toArray 5 (0,0)))) ?_ ?_
 ·rintro⟨L,a1,n1,a2,n2,a3,n3,a4,n4⟩ x ⟨K,S,Z⟩;try dsimp only
  try dsimp only at S Z
  unfold pY cW
  as_aux_lemma=>
   rw[ii];refine⟨?_, ?_⟩
   ·skip
    simp only[au,ay];obtain⟨x1,CV,hbl,hsz,hcs⟩:=kU x L (an [82,86,84,49]).toArray 4 4 Z.out.2;have K1:w9h W x1:=K.out.trans (hbl.mono Z.out.1);have S1:=ae (S.out.cells hsz hcs);have Z1:Hid (Sl aq x1 (ag (some ⟨L,0,none⟩) 4 4) [82,86,84,49]):=(kn (g:=L) (xs:= [82,86,84,49]) Z.out.2 (by simp[aS])).cells hsz hcs;clear hbl hsz hcs;go_wp2_with fail;refine aG ⟨⟨x1,K1.out⟩,rfl⟩ ?_;exact T42 (L,a1,n1,a2,n2,a3,n3,a4,n4) x1 ⟨K1,S1,Z1⟩
   ·skip
    simp only[au,ay];go_wp2_with fail;go_at_call 174;refine(HP5.out _).mono ?_;rintro e x1 ⟨a5,n5,rfl,hs,hb⟩;have K1:=w9bt K hb;have S1:=ae (S.out.put hb hs);have Z1:Hid (W.heap.size<=L/\x1.heap[L]? =some (ap (an [82,86,84,49]).toArray 5 (0,0))):=⟨Z.out.1,(hb.block L (cj.1 Z.out.2).1).trans Z.out.2⟩;clear hs hb;go_wp2_with fail;refine aG ⟨⟨x1,K1.out⟩,rfl⟩ ?_;exact T51 (L,a1,n1,a2,n2,a3,n3,a4,n4,a5,n5) x1 ⟨K1,S1,Z1⟩
 intro T41;refine fE (ι:=Nat×Option aN×Nat×Option aN×Nat×Option aN×Nat) (pZ) (fun i=>cW gen g a q B0 B1 B2 (ag (some ⟨i.1,0,none⟩) 4 4) aK (ag i.2.1 2 i.2.2.1) (ag i.2.2.2.1 1 i.2.2.2.2.1) (ag i.2.2.2.2.2.1 1 i.2.2.2.2.2.2) aK aK aK aK) (fun i x=>w9h W x/\Hid (ei x [(ag i.2.2.2.2.2.1 1 i.2.2.2.2.2.2,aH g.y 1),(ag i.2.2.2.1 1 i.2.2.2.2.1,aH g.s 1),(ag i.2.1 2 i.2.2.1,aH g.b 2)])/\Hid (W.heap.size<=i.1/\x.heap[i.1]? =some (ap (an [82,86,84,49]).toArray 5 (0,0)))) ?_ ?_
 ·rintro⟨L,a1,n1,a2,n2,a3,n3⟩ x ⟨K,S,Z⟩;try dsimp only
  try dsimp only at S Z
  unfold pZ cW
  as_aux_lemma=>
   rw[ii];refine⟨?_, ?_⟩
   ·skip
    simp only[au,ay];obtain⟨x1,CV,hbl,hsz,hcs⟩:=kU x L (an [82,86,84,49]).toArray 4 4 Z.out.2;have K1:w9h W x1:=K.out.trans (hbl.mono Z.out.1);have S1:=ae (S.out.cells hsz hcs);have Z1:Hid (Sl aq x1 (ag (some ⟨L,0,none⟩) 4 4) [82,86,84,49]):=(kn (g:=L) (xs:= [82,86,84,49]) Z.out.2 (by simp[aS])).cells hsz hcs;clear hbl hsz hcs;go_wp2_with fail;refine aG ⟨⟨x1,K1.out⟩,rfl⟩ ?_;exact T32 (L,a1,n1,a2,n2,a3,n3) x1 ⟨K1,S1,Z1⟩
   ·skip
    simp only[au,ay];go_wp2_with fail;go_at_call 174;refine(HP4.out _).mono ?_;rintro e x1 ⟨a4,n4,rfl,hs,hb⟩;have K1:=w9bt K hb;have S1:=ae (S.out.put hb hs);have Z1:Hid (W.heap.size<=L/\x1.heap[L]? =some (ap (an [82,86,84,49]).toArray 5 (0,0))):=⟨Z.out.1,(hb.block L (cj.1 Z.out.2).1).trans Z.out.2⟩;clear hs hb;go_wp2_with fail;refine aG ⟨⟨x1,K1.out⟩,rfl⟩ ?_;exact T41 (L,a1,n1,a2,n2,a3,n3,a4,n4) x1 ⟨K1,S1,Z1⟩
 intro T31;refine fE (ι:=Nat×Option aN×Nat×Option aN×Nat) (p7) (fun i=>cW gen g a q B0 B1 B2 (ag (some ⟨i.1,0,none⟩) 4 4) aK (ag i.2.1 2 i.2.2.1) (ag i.2.2.2.1 1 i.2.2.2.2) aK aK aK aK aK) (fun i x=>w9h W x/\Hid (ei x [(ag i.2.2.2.1 1 i.2.2.2.2,aH g.s 1),(ag i.2.1 2 i.2.2.1,aH g.b 2)])/\Hid (W.heap.size<=i.1/\x.heap[i.1]? =some (ap (an [82,86,84,49]).toArray 5 (0,0)))) ?_ ?_
 ·rintro⟨L,a1,n1,a2,n2⟩ x ⟨K,S,Z⟩;try dsimp only
  try dsimp only at S Z
  unfold p7 cW
  as_aux_lemma=>
   rw[ii];refine⟨?_, ?_⟩
   ·skip
    simp only[au,ay];obtain⟨x1,CV,hbl,hsz,hcs⟩:=kU x L (an [82,86,84,49]).toArray 4 4 Z.out.2;have K1:w9h W x1:=K.out.trans (hbl.mono Z.out.1);have S1:=ae (S.out.cells hsz hcs);have Z1:Hid (Sl aq x1 (ag (some ⟨L,0,none⟩) 4 4) [82,86,84,49]):=(kn (g:=L) (xs:= [82,86,84,49]) Z.out.2 (by simp[aS])).cells hsz hcs;clear hbl hsz hcs;go_wp2_with fail;refine aG ⟨⟨x1,K1.out⟩,rfl⟩ ?_;exact T22 (L,a1,n1,a2,n2) x1 ⟨K1,S1,Z1⟩
   ·skip
    simp only[au,ay];go_wp2_with fail;go_at_call 174;refine(HP3.out _).mono ?_;rintro e x1 ⟨a3,n3,rfl,hs,hb⟩;have K1:=w9bt K hb;have S1:=ae (S.out.put hb hs);have Z1:Hid (W.heap.size<=L/\x1.heap[L]? =some (ap (an [82,86,84,49]).toArray 5 (0,0))):=⟨Z.out.1,(hb.block L (cj.1 Z.out.2).1).trans Z.out.2⟩;clear hs hb;go_wp2_with fail;refine aG ⟨⟨x1,K1.out⟩,rfl⟩ ?_;exact T31 (L,a1,n1,a2,n2,a3,n3) x1 ⟨K1,S1,Z1⟩
 intro T21;refine fE (ι:=Nat×Option aN×Nat) (p8) (fun i=>cW gen g a q B0 B1 B2 (ag (some ⟨i.1,0,none⟩) 4 4) aK (ag i.2.1 2 i.2.2) aK aK aK aK aK aK) (fun i x=>w9h W x/\Hid (ei x [(ag i.2.1 2 i.2.2,aH g.b 2)])/\Hid (W.heap.size<=i.1/\x.heap[i.1]? =some (ap (an [82,86,84,49]).toArray 5 (0,0)))) ?_ ?_
 ·rintro⟨L,a1,n1⟩ x ⟨K,S,Z⟩;try dsimp only
  try dsimp only at S Z
  unfold p8 cW
  as_aux_lemma=>
   rw[ii];refine⟨?_, ?_⟩
   ·skip
    simp only[au,ay];obtain⟨x1,CV,hbl,hsz,hcs⟩:=kU x L (an [82,86,84,49]).toArray 4 4 Z.out.2;have K1:w9h W x1:=K.out.trans (hbl.mono Z.out.1);have S1:=ae (S.out.cells hsz hcs);have Z1:Hid (Sl aq x1 (ag (some ⟨L,0,none⟩) 4 4) [82,86,84,49]):=(kn (g:=L) (xs:= [82,86,84,49]) Z.out.2 (by simp[aS])).cells hsz hcs;clear hbl hsz hcs;go_wp2_with fail;refine aG ⟨⟨x1,K1.out⟩,rfl⟩ ?_;exact T12 (L,a1,n1) x1 ⟨K1,S1,Z1⟩
   ·skip
    simp only[au,ay];go_wp2_with fail;go_at_call 174;refine(HP2.out _).mono ?_;rintro e x1 ⟨a2,n2,rfl,hs,hb⟩;have K1:=w9bt K hb;have S1:=ae (S.out.put hb hs);have Z1:Hid (W.heap.size<=L/\x1.heap[L]? =some (ap (an [82,86,84,49]).toArray 5 (0,0))):=⟨Z.out.1,(hb.block L (cj.1 Z.out.2).1).trans Z.out.2⟩;clear hs hb;go_wp2_with fail;refine aG ⟨⟨x1,K1.out⟩,rfl⟩ ?_;exact T21 (L,a1,n1,a2,n2) x1 ⟨K1,S1,Z1⟩
 intro T11;refine fE (ι:=Nat) (sY) (fun i=>cW gen g a q B0 B1 B2 (ag (some ⟨i,0,none⟩) 4 4) aK aK aK aK aK aK aK aK) (fun i x=>w9h W x/\Hid (ei x [])/\Hid (W.heap.size<=i/\x.heap[i]? =some (ap (an [82,86,84,49]).toArray 5 (0,0)))) ?_ ?_
 ·rintro L x ⟨K,S,Z⟩;try dsimp only
  try dsimp only at S Z
  unfold sY cW
  as_aux_lemma=>
   rw[ii];refine⟨?_, ?_⟩
   ·skip
    simp only[au,ay];obtain⟨x1,CV,hbl,hsz,hcs⟩:=kU x L (an [82,86,84,49]).toArray 4 4 Z.out.2;have K1:w9h W x1:=K.out.trans (hbl.mono Z.out.1);have S1:=ae (S.out.cells hsz hcs);have Z1:Hid (Sl aq x1 (ag (some ⟨L,0,none⟩) 4 4) [82,86,84,49]):=(kn (g:=L) (xs:= [82,86,84,49]) Z.out.2 (by simp[aS])).cells hsz hcs;clear hbl hsz hcs;go_wp2_with fail;refine aG ⟨⟨x1,K1.out⟩,rfl⟩ ?_;exact T02 L x1 ⟨K1,S1,Z1⟩
   ·skip
    simp only[au,ay];go_wp2_with fail;go_at_call 174;refine(HP1.out _).mono ?_;rintro e x1 ⟨a1,n1,rfl,hs,hb⟩;have K1:=w9bt K hb;have S1:=ae (S.out.put hb hs);have Z1:Hid (W.heap.size<=L/\x1.heap[L]? =some (ap (an [82,86,84,49]).toArray 5 (0,0))):=⟨Z.out.1,(hb.block L (cj.1 Z.out.2).1).trans Z.out.2⟩;clear hs hb;go_wp2_with fail;refine aG ⟨⟨x1,K1.out⟩,rfl⟩ ?_;exact T11 (L,a1,n1) x1 ⟨K1,S1,Z1⟩
 intro T01;refine fE (ι:=Option aN×Nat×Option aN×Nat×Option aN×Nat×Option aN×Nat×Option aN×Nat×Option aN×Nat×Option aN×Nat) (sZ) (fun i=>cW gen g a q B0 B1 B2 aK aK (ag i.1 2 i.2.1) (ag i.2.2.1 1 i.2.2.2.1) (ag i.2.2.2.2.1 1 i.2.2.2.2.2.1) (ag i.2.2.2.2.2.2.1 2 i.2.2.2.2.2.2.2.1) (ag i.2.2.2.2.2.2.2.2.1 2 i.2.2.2.2.2.2.2.2.2.1) (ag i.2.2.2.2.2.2.2.2.2.2.1 2 i.2.2.2.2.2.2.2.2.2.2.2.1) (ag i.2.2.2.2.2.2.2.2.2.2.2.2.1 4 i.2.2.2.2.2.2.2.2.2.2.2.2.2)) (fun i x=>w9h W x/\Hid (ei x [(ag i.2.2.2.2.2.2.2.2.2.2.2.2.1 4 i.2.2.2.2.2.2.2.2.2.2.2.2.2,aH q 4),(ag i.2.2.2.2.2.2.2.2.2.2.1 2 i.2.2.2.2.2.2.2.2.2.2.2.1,aH a 2),(ag i.2.2.2.2.2.2.2.2.1 2 i.2.2.2.2.2.2.2.2.2.1,aH g.r 2),(ag i.2.2.2.2.2.2.1 2 i.2.2.2.2.2.2.2.1,aH g.a 2),(ag i.2.2.2.2.1 1 i.2.2.2.2.2.1,aH g.y 1),(ag i.2.2.1 1 i.2.2.2.1,aH g.s 1),(ag i.1 2 i.2.1,aH g.b 2)])) ?_ ?_
 ·rintro⟨a1,n1,a2,n2,a3,n3,a4,n4,a5,n5,a6,n6,a7,n7⟩ x ⟨K,S⟩;try dsimp only
  try dsimp only at S Z
  unfold sZ cW
  as_aux_lemma=>
   rw[aT];simp only[au,ay];obtain⟨x1,hx⟩:=w9nm (x.alloc (ap (an [82,86,84,49]).toArray 5));have SB:(cO 76 4 #[(0,ab aq 82),(1,ab aq 86),(2,ab aq 84),(3,ab aq 49)]).run aj x=.ok (ag (some ⟨x.heap.size,0,none⟩) 4 4) x1:=by rw[←hx];exact kV x
   have hb:ah x.heap.size x x1:=by rw[←hx];exact aR x _
   have hs:x1.heap[x.heap.size]? =some (ap (an [82,86,84,49]).toArray 5 (0,0)):=by rw[←hx];exact bR x _
   have K1:=w9bt K hb;obtain⟨L,hL⟩:=w9nm x.heap.size;have hWL:W.heap.size<=L:=by rw[←hL];exact K.out.size
   rw[hL]at SB hs;have S1:=ae (S.out.below hb);have Z1:Hid (W.heap.size<=L/\x1.heap[L]? =some (ap (an [82,86,84,49]).toArray 5 (0,0))):=⟨hWL,hs⟩;clear hs hb hx hL hWL;refine dq _ _ _ rfl rfl _ _ rfl SB ?_;clear SB;go_wp2_with fail;refine aG ⟨⟨x1,K1.out⟩,rfl⟩ ?_;exact T71 (L,a1,n1,a2,n2,a3,n3,a4,n4,a5,n5,a6,n6,a7,n7) x1 ⟨K1,S1,Z1⟩
 intro T70;refine fE (ι:=Option aN×Nat×Option aN×Nat×Option aN×Nat×Option aN×Nat×Option aN×Nat×Option aN×Nat) (s7) (fun i=>cW gen g a q B0 B1 B2 aK aK (ag i.1 2 i.2.1) (ag i.2.2.1 1 i.2.2.2.1) (ag i.2.2.2.2.1 1 i.2.2.2.2.2.1) (ag i.2.2.2.2.2.2.1 2 i.2.2.2.2.2.2.2.1) (ag i.2.2.2.2.2.2.2.2.1 2 i.2.2.2.2.2.2.2.2.2.1) (ag i.2.2.2.2.2.2.2.2.2.2.1 2 i.2.2.2.2.2.2.2.2.2.2.2) aK) (fun i x=>w9h W x/\Hid (ei x [(ag i.2.2.2.2.2.2.2.2.2.2.1 2 i.2.2.2.2.2.2.2.2.2.2.2,aH a 2),(ag i.2.2.2.2.2.2.2.2.1 2 i.2.2.2.2.2.2.2.2.2.1,aH g.r 2),(ag i.2.2.2.2.2.2.1 2 i.2.2.2.2.2.2.2.1,aH g.a 2),(ag i.2.2.2.2.1 1 i.2.2.2.2.2.1,aH g.y 1),(ag i.2.2.1 1 i.2.2.2.1,aH g.s 1),(ag i.1 2 i.2.1,aH g.b 2)])) ?_ ?_
 ·rintro⟨a1,n1,a2,n2,a3,n3,a4,n4,a5,n5,a6,n6⟩ x ⟨K,S⟩;try dsimp only
  try dsimp only at S Z
  unfold s7 cW
  as_aux_lemma=>
   rw[ii];refine⟨?_, ?_⟩
   ·skip
    simp only[au,ay];obtain⟨x1,hx⟩:=w9nm (x.alloc (ap (an [82,86,84,49]).toArray 5));have SB:(cO 76 4 #[(0,ab aq 82),(1,ab aq 86),(2,ab aq 84),(3,ab aq 49)]).run aj x=.ok (ag (some ⟨x.heap.size,0,none⟩) 4 4) x1:=by rw[←hx];exact kV x
    have hb:ah x.heap.size x x1:=by rw[←hx];exact aR x _
    have hs:x1.heap[x.heap.size]? =some (ap (an [82,86,84,49]).toArray 5 (0,0)):=by rw[←hx];exact bR x _
    have K1:=w9bt K hb;obtain⟨L,hL⟩:=w9nm x.heap.size;have hWL:W.heap.size<=L:=by rw[←hL];exact K.out.size
    rw[hL]at SB hs;have S1:=ae (S.out.below hb);have Z1:Hid (W.heap.size<=L/\x1.heap[L]? =some (ap (an [82,86,84,49]).toArray 5 (0,0))):=⟨hWL,hs⟩;clear hs hb hx hL hWL;refine dq _ _ _ rfl rfl _ _ rfl SB ?_;clear SB;go_wp2_with fail;refine aG ⟨⟨x1,K1.out⟩,rfl⟩ ?_;exact T61 (L,a1,n1,a2,n2,a3,n3,a4,n4,a5,n5,a6,n6) x1 ⟨K1,S1,Z1⟩
   ·skip
    simp only[au,ay];go_wp2_with fail;go_at_call 174;refine(HP7.out _).mono ?_;rintro e x1 ⟨a7,n7,rfl,hs,hb⟩;have K1:=w9bt K hb;have S1:=ae (S.out.put hb hs);clear hs hb;go_wp2_with fail;refine aG ⟨⟨x1,K1.out⟩,rfl⟩ ?_;exact T70 (a1,n1,a2,n2,a3,n3,a4,n4,a5,n5,a6,n6,a7,n7) x1 ⟨K1,S1⟩
 intro T60;refine fE (ι:=Option aN×Nat×Option aN×Nat×Option aN×Nat×Option aN×Nat×Option aN×Nat) (s9) (fun i=>cW gen g a q B0 B1 B2 aK aK (ag i.1 2 i.2.1) (ag i.2.2.1 1 i.2.2.2.1) (ag i.2.2.2.2.1 1 i.2.2.2.2.2.1) (ag i.2.2.2.2.2.2.1 2 i.2.2.2.2.2.2.2.1) (ag i.2.2.2.2.2.2.2.2.1 2 i.2.2.2.2.2.2.2.2.2) aK aK) (fun i x=>w9h W x/\Hid (ei x [(ag i.2.2.2.2.2.2.2.2.1 2 i.2.2.2.2.2.2.2.2.2,aH g.r 2),(ag i.2.2.2.2.2.2.1 2 i.2.2.2.2.2.2.2.1,aH g.a 2),(ag i.2.2.2.2.1 1 i.2.2.2.2.2.1,aH g.y 1),(ag i.2.2.1 1 i.2.2.2.1,aH g.s 1),(ag i.1 2 i.2.1,aH g.b 2)])) ?_ ?_
 ·rintro⟨a1,n1,a2,n2,a3,n3,a4,n4,a5,n5⟩ x ⟨K,S⟩;try dsimp only
  try dsimp only at S Z
  unfold s9 cW
  as_aux_lemma=>
   rw[ii];refine⟨?_, ?_⟩
   ·skip
    simp only[au,ay];obtain⟨x1,hx⟩:=w9nm (x.alloc (ap (an [82,86,84,49]).toArray 5));have SB:(cO 76 4 #[(0,ab aq 82),(1,ab aq 86),(2,ab aq 84),(3,ab aq 49)]).run aj x=.ok (ag (some ⟨x.heap.size,0,none⟩) 4 4) x1:=by rw[←hx];exact kV x
    have hb:ah x.heap.size x x1:=by rw[←hx];exact aR x _
    have hs:x1.heap[x.heap.size]? =some (ap (an [82,86,84,49]).toArray 5 (0,0)):=by rw[←hx];exact bR x _
    have K1:=w9bt K hb;obtain⟨L,hL⟩:=w9nm x.heap.size;have hWL:W.heap.size<=L:=by rw[←hL];exact K.out.size
    rw[hL]at SB hs;have S1:=ae (S.out.below hb);have Z1:Hid (W.heap.size<=L/\x1.heap[L]? =some (ap (an [82,86,84,49]).toArray 5 (0,0))):=⟨hWL,hs⟩;clear hs hb hx hL hWL;refine dq _ _ _ rfl rfl _ _ rfl SB ?_;clear SB;go_wp2_with fail;refine aG ⟨⟨x1,K1.out⟩,rfl⟩ ?_;exact T51 (L,a1,n1,a2,n2,a3,n3,a4,n4,a5,n5) x1 ⟨K1,S1,Z1⟩
   ·skip
    simp only[au,ay];go_wp2_with fail;go_at_call 174;refine(HP6.out _).mono ?_;rintro e x1 ⟨a6,n6,rfl,hs,hb⟩;have K1:=w9bt K hb;have S1:=ae (S.out.put hb hs);clear hs hb;go_wp2_with fail;refine aG ⟨⟨x1,K1.out⟩,rfl⟩ ?_;exact T60 (a1,n1,a2,n2,a3,n3,a4,n4,a5,n5,a6,n6) x1 ⟨K1,S1⟩
 intro T50;refine fE (ι:=Option aN×Nat×Option aN×Nat×Option aN×Nat×Option aN×Nat) (tc) (fun i=>cW gen g a q B0 B1 B2 aK aK (ag i.1 2 i.2.1) (ag i.2.2.1 1 i.2.2.2.1) (ag i.2.2.2.2.1 1 i.2.2.2.2.2.1) (ag i.2.2.2.2.2.2.1 2 i.2.2.2.2.2.2.2) aK aK aK) (fun i x=>w9h W x/\Hid (ei x [(ag i.2.2.2.2.2.2.1 2 i.2.2.2.2.2.2.2,aH g.a 2),(ag i.2.2.2.2.1 1 i.2.2.2.2.2.1,aH g.y 1),(ag i.2.2.1 1 i.2.2.2.1,aH g.s 1),(ag i.1 2 i.2.1,aH g.b 2)])) ?_ ?_
 ·rintro⟨a1,n1,a2,n2,a3,n3,a4,n4⟩ x ⟨K,S⟩;try dsimp only
  try dsimp only at S Z
  unfold tc cW
  as_aux_lemma=>
   rw[ii];refine⟨?_, ?_⟩
   ·skip
    simp only[au,ay];obtain⟨x1,hx⟩:=w9nm (x.alloc (ap (an [82,86,84,49]).toArray 5));have SB:(cO 76 4 #[(0,ab aq 82),(1,ab aq 86),(2,ab aq 84),(3,ab aq 49)]).run aj x=.ok (ag (some ⟨x.heap.size,0,none⟩) 4 4) x1:=by rw[←hx];exact kV x
    have hb:ah x.heap.size x x1:=by rw[←hx];exact aR x _
    have hs:x1.heap[x.heap.size]? =some (ap (an [82,86,84,49]).toArray 5 (0,0)):=by rw[←hx];exact bR x _
    have K1:=w9bt K hb;obtain⟨L,hL⟩:=w9nm x.heap.size;have hWL:W.heap.size<=L:=by rw[←hL];exact K.out.size
    rw[hL]at SB hs;have S1:=ae (S.out.below hb);have Z1:Hid (W.heap.size<=L/\x1.heap[L]? =some (ap (an [82,86,84,49]).toArray 5 (0,0))):=⟨hWL,hs⟩;clear hs hb hx hL hWL;refine dq _ _ _ rfl rfl _ _ rfl SB ?_;clear SB;go_wp2_with fail;refine aG ⟨⟨x1,K1.out⟩,rfl⟩ ?_;exact T41 (L,a1,n1,a2,n2,a3,n3,a4,n4) x1 ⟨K1,S1,Z1⟩
   ·skip
    simp only[au,ay];go_wp2_with fail;go_at_call 174;refine(HP5.out _).mono ?_;rintro e x1 ⟨a5,n5,rfl,hs,hb⟩;have K1:=w9bt K hb;have S1:=ae (S.out.put hb hs);clear hs hb;go_wp2_with fail;refine aG ⟨⟨x1,K1.out⟩,rfl⟩ ?_;exact T50 (a1,n1,a2,n2,a3,n3,a4,n4,a5,n5) x1 ⟨K1,S1⟩
 intro T40;refine fE (ι:=Option aN×Nat×Option aN×Nat×Option aN×Nat) (td) (fun i=>cW gen g a q B0 B1 B2 aK aK (ag i.1 2 i.2.1) (ag i.2.2.1 1 i.2.2.2.1) (ag i.2.2.2.2.1 1 i.2.2.2.2.2) aK aK aK aK) (fun i x=>w9h W x/\Hid (ei x [(ag i.2.2.2.2.1 1 i.2.2.2.2.2,aH g.y 1),(ag i.2.2.1 1 i.2.2.2.1,aH g.s 1),(ag i.1 2 i.2.1,aH g.b 2)])) ?_ ?_
 ·rintro⟨a1,n1,a2,n2,a3,n3⟩ x ⟨K,S⟩;try dsimp only
  try dsimp only at S Z
  unfold td cW
  as_aux_lemma=>
   rw[ii];refine⟨?_, ?_⟩
   ·skip
    simp only[au,ay];obtain⟨x1,hx⟩:=w9nm (x.alloc (ap (an [82,86,84,49]).toArray 5));have SB:(cO 76 4 #[(0,ab aq 82),(1,ab aq 86),(2,ab aq 84),(3,ab aq 49)]).run aj x=.ok (ag (some ⟨x.heap.size,0,none⟩) 4 4) x1:=by rw[←hx];exact kV x
    have hb:ah x.heap.size x x1:=by rw[←hx];exact aR x _
    have hs:x1.heap[x.heap.size]? =some (ap (an [82,86,84,49]).toArray 5 (0,0)):=by rw[←hx];exact bR x _
    have K1:=w9bt K hb;obtain⟨L,hL⟩:=w9nm x.heap.size;have hWL:W.heap.size<=L:=by rw[←hL];exact K.out.size
    rw[hL]at SB hs;have S1:=ae (S.out.below hb);have Z1:Hid (W.heap.size<=L/\x1.heap[L]? =some (ap (an [82,86,84,49]).toArray 5 (0,0))):=⟨hWL,hs⟩;clear hs hb hx hL hWL;refine dq _ _ _ rfl rfl _ _ rfl SB ?_;clear SB;go_wp2_with fail;refine aG ⟨⟨x1,K1.out⟩,rfl⟩ ?_;exact T31 (L,a1,n1,a2,n2,a3,n3) x1 ⟨K1,S1,Z1⟩
   ·skip
    simp only[au,ay];go_wp2_with fail;go_at_call 174;refine(HP4.out _).mono ?_;rintro e x1 ⟨a4,n4,rfl,hs,hb⟩;have K1:=w9bt K hb;have S1:=ae (S.out.put hb hs);clear hs hb;go_wp2_with fail;refine aG ⟨⟨x1,K1.out⟩,rfl⟩ ?_;exact T40 (a1,n1,a2,n2,a3,n3,a4,n4) x1 ⟨K1,S1⟩
 intro T30;refine fE (ι:=Option aN×Nat×Option aN×Nat) (te) (fun i=>cW gen g a q B0 B1 B2 aK aK (ag i.1 2 i.2.1) (ag i.2.2.1 1 i.2.2.2) aK aK aK aK aK) (fun i x=>w9h W x/\Hid (ei x [(ag i.2.2.1 1 i.2.2.2,aH g.s 1),(ag i.1 2 i.2.1,aH g.b 2)])) ?_ ?_
 ·rintro⟨a1,n1,a2,n2⟩ x ⟨K,S⟩;try dsimp only
  try dsimp only at S Z
  unfold te cW
  as_aux_lemma=>
   rw[ii];refine⟨?_, ?_⟩
   ·skip
    simp only[au,ay];obtain⟨x1,hx⟩:=w9nm (x.alloc (ap (an [82,86,84,49]).toArray 5));have SB:(cO 76 4 #[(0,ab aq 82),(1,ab aq 86),(2,ab aq 84),(3,ab aq 49)]).run aj x=.ok (ag (some ⟨x.heap.size,0,none⟩) 4 4) x1:=by rw[←hx];exact kV x
    have hb:ah x.heap.size x x1:=by rw[←hx];exact aR x _
    have hs:x1.heap[x.heap.size]? =some (ap (an [82,86,84,49]).toArray 5 (0,0)):=by rw[←hx];exact bR x _
    have K1:=w9bt K hb;obtain⟨L,hL⟩:=w9nm x.heap.size;have hWL:W.heap.size<=L:=by rw[←hL];exact K.out.size
    rw[hL]at SB hs;have S1:=ae (S.out.below hb);have Z1:Hid (W.heap.size<=L/\x1.heap[L]? =some (ap (an [82,86,84,49]).toArray 5 (0,0))):=⟨hWL,hs⟩;clear hs hb hx hL hWL;refine dq _ _ _ rfl rfl _ _ rfl SB ?_;clear SB;go_wp2_with fail;refine aG ⟨⟨x1,K1.out⟩,rfl⟩ ?_;exact T21 (L,a1,n1,a2,n2) x1 ⟨K1,S1,Z1⟩
   ·skip
    simp only[au,ay];go_wp2_with fail;go_at_call 174;refine(HP3.out _).mono ?_;rintro e x1 ⟨a3,n3,rfl,hs,hb⟩;have K1:=w9bt K hb;have S1:=ae (S.out.put hb hs);clear hs hb;go_wp2_with fail;refine aG ⟨⟨x1,K1.out⟩,rfl⟩ ?_;exact T30 (a1,n1,a2,n2,a3,n3) x1 ⟨K1,S1⟩
 intro T20;refine fE (ι:=Option aN×Nat) (tf) (fun i=>cW gen g a q B0 B1 B2 aK aK (ag i.1 2 i.2) aK aK aK aK aK aK) (fun i x=>w9h W x/\Hid (ei x [(ag i.1 2 i.2,aH g.b 2)])) ?_ ?_
 ·rintro⟨a1,n1⟩ x ⟨K,S⟩;try dsimp only
  try dsimp only at S Z
  unfold tf cW
  as_aux_lemma=>
   rw[ii];refine⟨?_, ?_⟩
   ·skip
    simp only[au,ay];obtain⟨x1,hx⟩:=w9nm (x.alloc (ap (an [82,86,84,49]).toArray 5));have SB:(cO 76 4 #[(0,ab aq 82),(1,ab aq 86),(2,ab aq 84),(3,ab aq 49)]).run aj x=.ok (ag (some ⟨x.heap.size,0,none⟩) 4 4) x1:=by rw[←hx];exact kV x
    have hb:ah x.heap.size x x1:=by rw[←hx];exact aR x _
    have hs:x1.heap[x.heap.size]? =some (ap (an [82,86,84,49]).toArray 5 (0,0)):=by rw[←hx];exact bR x _
    have K1:=w9bt K hb;obtain⟨L,hL⟩:=w9nm x.heap.size;have hWL:W.heap.size<=L:=by rw[←hL];exact K.out.size
    rw[hL]at SB hs;have S1:=ae (S.out.below hb);have Z1:Hid (W.heap.size<=L/\x1.heap[L]? =some (ap (an [82,86,84,49]).toArray 5 (0,0))):=⟨hWL,hs⟩;clear hs hb hx hL hWL;refine dq _ _ _ rfl rfl _ _ rfl SB ?_;clear SB;go_wp2_with fail;refine aG ⟨⟨x1,K1.out⟩,rfl⟩ ?_;exact T11 (L,a1,n1) x1 ⟨K1,S1,Z1⟩
   ·skip
    simp only[au,ay];go_wp2_with fail;go_at_call 174;refine(HP2.out _).mono ?_;rintro e x1 ⟨a2,n2,rfl,hs,hb⟩;have K1:=w9bt K hb;have S1:=ae (S.out.put hb hs);clear hs hb;go_wp2_with fail;refine aG ⟨⟨x1,K1.out⟩,rfl⟩ ?_;exact T20 (a1,n1,a2,n2) x1 ⟨K1,S1⟩
 intro T10;have S:Hid (ei x0 []):=ei.nil _;obtain⟨x,hx0⟩:=w9nm x0;rw[hx0]at S K0;try rw[hx0]
 clear hx0;have K:=K0;unfold xR;rw[ii];refine⟨?_, ?_⟩
 ·skip
  simp only[au,ay];obtain⟨x1,hx⟩:=w9nm (x.alloc (ap (an [82,86,84,49]).toArray 5));have SB:(cO 76 4 #[(0,ab aq 82),(1,ab aq 86),(2,ab aq 84),(3,ab aq 49)]).run aj x=.ok (ag (some ⟨x.heap.size,0,none⟩) 4 4) x1:=by rw[←hx];exact kV x
  have hb:ah x.heap.size x x1:=by rw[←hx];exact aR x _
  have hs:x1.heap[x.heap.size]? =some (ap (an [82,86,84,49]).toArray 5 (0,0)):=by rw[←hx];exact bR x _
  have K1:=w9bt K hb;obtain⟨L,hL⟩:=w9nm x.heap.size;have hWL:W.heap.size<=L:=by rw[←hL];exact K.out.size
  rw[hL]at SB hs;have S1:=ae (S.out.below hb);have Z1:Hid (W.heap.size<=L/\x1.heap[L]? =some (ap (an [82,86,84,49]).toArray 5 (0,0))):=⟨hWL,hs⟩;clear hs hb hx hL hWL;refine dq _ _ _ rfl rfl _ _ rfl SB ?_;clear SB;go_wp2_with fail;refine aG ⟨⟨x1,K1.out⟩,rfl⟩ ?_;exact T01 L x1 ⟨K1,S1,Z1⟩
 ·skip
  simp only[au,ay];go_wp2_with fail;go_at_call 174;refine(HP1.out _).mono ?_;rintro e x1 ⟨a1,n1,rfl,hs,hb⟩;have K1:=w9bt K hb;have S1:=ae (S.out.put hb hs);clear hs hb;go_wp2_with fail;refine aG ⟨⟨x1,K1.out⟩,rfl⟩ ?_;exact T10 (a1,n1) x1 ⟨K1,S1⟩
end
section
attribute [-simp] isAgg51 zeroValue51 isAgg205 zeroValue205 isAgg23 zeroValue23 isAgg29 zeroValue29
attribute [-go_sem] aE aL cZ
theorem mF (t:aV) (h:t≠ 51 /\t≠ 205 /\t≠ 23 /\t≠ 29 /\t≠ 112 /\t≠ 254) (a:aN):aE t a=(do if←isAgg t then pure (al (←loadCells a (←sizeOf t)))else load a):=rfl
theorem mG (t:aV) (h:t≠ 51 /\t≠ 205 /\t≠ 23 /\t≠ 29 /\t≠ 112 /\t≠ 254) (a:aN) (v:am):aL t a v=(do
  if v.cells.size≠(←sizeOf t)then stuck "storeVar: the value has not the size of the variable"
  storeCells a v.cells.toList):=rfl
attribute [local go_sem] bC bD cV iR jZ mF mG
section
variable {rq q0 q1:Nat} {S:RS} {w:ak} {f:Nat->Prop}
theorem bG.disk0 (h:bG rq q0 q1 S w f):∃ss,w.cell? ⟨q0,0,none⟩=some (ag (some ⟨ss,0,none⟩) S.n0 S.n0)/\q0<w.heap.size:=by
 obtain⟨g,⟨ss,vb,sv,h1,rfl⟩,h2⟩:=h.d0;exact⟨ss,by rw[cl _ _ _ _ _ _ h1.head];rfl,h1.lt h2 (aA rfl)⟩
theorem bG.disk1 (h:bG rq q0 q1 S w f):∃ss,w.cell? ⟨q1,0,none⟩=some (ag (some ⟨ss,0,none⟩) S.n1 S.n1)/\q1<w.heap.size:=by
 obtain⟨g,⟨ss,vb,sv,h1,rfl⟩,h2⟩:=h.d1;exact⟨ss,by rw[cl _ _ _ _ _ _ h1.head];rfl,h1.lt h2 (aA rfl)⟩
theorem EK (g:Geo):∃c d,g.szl=db g.oB g.oP c g.oR g.oH d g.oF g.oW:=by
 unfold Geo.szl Geo.oB Geo.oP Geo.oR Geo.oH Geo.oF Geo.oW;by_cases h:g.good
 ·exact⟨g.slots,2+g.r+g.pgs,by simp[h]⟩
 ·exact⟨0,0,by simp[h]⟩
theorem tg (h:bG rq q0 q1 S w f) (g:Geo):
  az aj 136 #[ao (some ⟨rq,0,none⟩),al g.v] w fun e w'=>e=ar (.bool (decide (g.oF<=S.n0/\g.oW<=S.n1)))/\ah w.heap.size w w':=by
 have hmx:=w9x
 obtain⟨V,hV⟩:=w9nm (w.alloc (ap g.v 23));have bV:ah w.heap.size w V:=by rw[←hV];exact aR w _
 have rV:aB V w.heap.size 23 g.cs:=by rw[←hV];exact aB.new w _ _
 have LG:=cF rV;have HOF:=fun x=>ae (mw g x);have HQ:=ae ((bG.isRes rq q0 q1 S).below h bV);have HB:=ae bV;clear h rV bV;obtain⟨sl,sd,hsl⟩:=EK g;rw[hsl]at HOF;obtain⟨oF,hoF⟩:=w9nm g.oF;obtain⟨oW,hoW⟩:=w9nm g.oW;rw[hoF,hoW]at HOF ⊢;obtain⟨rr,hrr⟩:=w9nm (decide (oF<=(S.n0:Int)/\oW<=(S.n1:Int)));rw[hrr];have HRR:=ae hrr;clear hsl hoF hoW hrr;go_enter func136,ntmps136;go_wp2_with fail;go_at_call 11;refine(HOF _).out.mono ?_;rintro e x ⟨rfl,hb⟩;obtain⟨y,ST,ry,by1⟩:=nt x g.oB g.oP sl g.oR g.oH sd oF oW;have hQ:=(bG.isRes rq q0 q1 S).below (w':=y) HQ.out (hb.trans (by1.mono hb.size));have HX:w9h w y:=HB.out.trans ((hb.trans (by1.mono hb.size)).mono HB.out.size);have p0:∀z:aI y,z.1.cell? ⟨rq,0,none⟩=some (ao (some ⟨q0,0,none⟩)):=fun z=>(((bG.isRes rq q0 q1 S).below hQ z.2).cell 0);have p1:∀z:aI y,z.1.cell? ⟨rq,1,none⟩=some (ao (some ⟨q1,0,none⟩)):=fun z=>(((bG.isRes rq q0 q1 S).below hQ z.2).cell 1);obtain⟨s0,hs0,hl0⟩:=hQ.disk0;obtain⟨s1,hs1,hl1⟩:=hQ.disk1;have d0:∀z:aI y,z.1.cell? ⟨q0,0,none⟩=some (ag (some ⟨s0,0,none⟩) S.n0 S.n0):=fun z=>(z.cell (p:=⟨q0,0,none⟩) hl0).trans hs0;have d1:∀z:aI y,z.1.cell? ⟨q1,0,none⟩=some (ag (some ⟨s1,0,none⟩) S.n1 S.n1):=fun z=>(z.cell (p:=⟨q1,0,none⟩) hl1).trans hs1;have e6:∀z:aI y,z.1.cell? ⟨x.heap.size,6,none⟩=some (ab af oF):=fun z=>(ry.below z.2).cell 6 _ rfl;have e7:∀z:aI y,z.1.cell? ⟨x.heap.size,7,none⟩=some (ab af oW):=fun z=>(ry.below z.2).cell 7 _ rfl;clear hb HOF HQ hQ hs0 hs1 hl0 hl1 ry by1 LG;by_cases h1:oF<=(S.n0:Int)
 ·have g1:decide (oF<=(S.n0:Int))=true:=decide_eq_true h1;obtain⟨b2,h2⟩:=w9nm (decide (oW<=(S.n1:Int)));go_wp2_with fail;refine cM (fun x=>∃z:aI y,x=z.1) 26 (.takes [0,1,2,3,4,5,6,7,8,9,10,11,12,13,14,15,16,17,18,19,20,21,22,23,24,25] .leaf) hmx (by kernel_rfl) (by intro c x v a w h;cases x<;>exact h) ⟨⟨y.drew,(aF _ y).drew⟩,rfl⟩ ?_;repeat(rw[bj];simp only[au,ay];go_big_quiet_step (fail);try(with_reducible refine aO ?_))
  rw[bo,cu];simp only[be,bf];go_wp2_with fail;go_ret;refine⟨congrArg (fun b=>Ending.returned (Value.bool b)) ?_,HX.out.drew⟩;rw[←HRR.out,←h2];simp[h1]
 ·have g1:decide (oF<=(S.n0:Int))=false:=decide_eq_false h1;go_wp2_with fail;refine cM (fun x=>∃z:aI y,x=z.1) 26 (.takes [0,1,2,3,4,5,6,7,8,9,10,11,12,13,14,15,16,17,18,19,20,21,22,23,24,25] .leaf) hmx (by kernel_rfl) (by intro c x v a w h;cases x<;>exact h) ⟨⟨y.drew,(aF _ y).drew⟩,rfl⟩ ?_;repeat(rw[bj];simp only[au,ay];go_big_quiet_step (fail);try(with_reducible refine aO ?_))
  rw[bo,cu];simp only[be,bf];go_wp2_with fail;go_ret;refine⟨congrArg (fun b=>Ending.returned (Value.bool b)) ?_,HX.out.drew⟩;rw[←HRR.out];simp;intro h;omega
end
theorem EL {w:ak} {base e n s:Nat} {v:am} {xs:List am} (h:w.ownsRow base e s v n xs):∀k,v.ownBlock=some k->base<=k:=by
 intro k hk;rcases h.2 with⟨rfl,_⟩ | ⟨g,cap,cur,rfl,h1,_⟩
 ·cases hk
 ·cases hk;exact h1
theorem iw {x x':ak} {N n s:Nat} {e:aV} {v:am} {xs:List am} (h:x.ownsRow N e s v n xs) (hb:w9b x x'):x'.ownsRow N e s v n xs:=
 ⟨h.1,h.2.imp id fun⟨g,cap,cur,h1,h2,h3,h4⟩=>⟨g,cap,cur,h1,h2,(hb.block _ (cj.1 h3).1).trans h3,h4⟩⟩
theorem ij {N:Nat} {x:ak} {v u:am} {xs bs:List Int} (ho:x.ownsRow N 5 1 v xs.length (xs.map (Value.int aq))) (hu:Sl aq x u bs) (hl:xs.length+bs.length<=100000) (hN:N<=x.heap.size):
  ∃v' x',Hid ((Builtin.append_ #[76, 76] 76 #[v,u]).run aj x=.ok v' x')/\Hid (x'.ownsRow N 5 1 v' (xs++bs).length ((xs++bs).map (Value.int aq)))/\Hid (ah N x x')/\Hid (x.grownBy x' v.ownBlock):=by
 obtain⟨v',x',h1,h2,h3⟩:=mO N x v xs ho u bs hu (by omega) hN;exact⟨v',x',h1,h2,(aF N x).grown h3 hN (EL ho),h3⟩
theorem xT {x:ak} {N s g n cap:Nat} {e:aV} {xs:List am} (h:x.ownsRow N e s (ag (some ⟨g,0,none⟩) n cap) n xs):g<x.heap.size:=by
 rcases h.2 with⟨h',_⟩ | ⟨g',cap',cur,h',hb,hg,_⟩
 ·simp at h'
 ·simp only[Value.slice.injEq,Option.some.injEq,Addr.mk.injEq,and_true,true_and]at h';obtain⟨rfl,_⟩:=h';exact(cj.1 hg).1
theorem th {x:ak} {B:Nat} {s y:Int} (h:aB x B 5 [ab aq s,ab aq y]) (hs:0<=s/\s<256) (hy:0<=y/\y<256):Sl aq x (ag (some ⟨B,0,none⟩) 2 2) (aH s 1++aH y 1):=by
 have e1:aH s 1++aH y 1= [s,y]:=by
  simp[aH];omega
 rw[e1];refine Sl.at (bs:= [s,y]) (off:=0) (aJ _) (by simp[aS]) h.lt fun j hj=> ?_
 match j,hj with
 | 0,_=>exact h.cell 0 _ rfl
 | 1,_=>exact h.cell 1 _ rfl
theorem EO {x:ak} {B:Nat} {old:List am} {b:List Int} (h:aB x B 205 old) (ho:old.length=48) (hb:b.length=48):
  ∃y,(aL 205 ⟨B,0,none⟩ (al (an b).toArray)).run aj x=.ok () y/\aB y B 205 (an b)/\x.grownBy y (some B):=by
 refine⟨_,run_storeVar_row x B _ _ old.toArray (an b).toArray h (by simpa [bi,hb]using vm) (by simp[ho,bi,hb]) (gD (iO b)),setRow_heap x B _ _ _ _ h, ?_⟩;exact⟨rfl,rfl,rfl,by rw[setRow_size];exact aJ _,fun k _ hk=>setRow_other x B k _ (fun e=>hk (by rw[e]))⟩
theorem ti {w V W p t:ak} {v:am} {xs:List Int} {g:Geo} {a q:Int} (ho:p.ownsRow W.heap.size 5 1 v xs.length (xs.map (Value.int aq))) (hb:w9b W p) (hx:xs=dh g a q)
  (ht:p.alloc (ap dR.toArray 205)=t) (rW:aB W V.heap.size 205 (an (bK 48 0))) (bV:w9b w V) (bW:w9b V W) (sV:V.heap.size=w.heap.size+1):
  ∃t2 z,∃c:List am,Hid (c=an (dh g a q++bK 30 0))/\(Builtin.copy_ #[76, 76] 3 #[ag (some ⟨p.heap.size,0,none⟩) 48 48,v]).run aj t=.ok (goInt 18) t2/\
   (aE 205 ⟨p.heap.size,0,none⟩).run aj t2=.ok (al c.toArray) t2/\
   (aL 205 ⟨w.heap.size+1,0,none⟩ (al c.toArray)).run aj t2=.ok () z/\
   Hid ((aE 205 ⟨w.heap.size+1,0,none⟩).run aj z=.ok (al c.toArray) z)/\Hid (ah w.heap.size w z):=by
 have hl:=nI g a q;have bt:ah p.heap.size p t:=by rw[←ht];exact aR p _
 have rt:aB t p.heap.size 205 (an (bK 48 0)):=by rw[←ht];exact aB.new p _ _
 have HS:Sl aq t v (dh g a q):=by have:=(Sl.of_owns ho).below bt;rwa [hx]at this
 have h48:t.there p.heap.size 0 48:=fy rt 0 48 (by simp[an]);have h18:t.there p.heap.size 0 18:=fun j hj=>h48 j (by omega);have rc:=jP (B:=p.heap.size) (o:=0) (dLen:=48) (dCap:=48) 3 HS (by omega) (by rw[hl];exact h18);rw[hl]at rc;have hv48:(dh g a q++bK 30 0).length=48:=by rw[cX,hl];simp
 have hr2:(t.setCells p.heap.size 0 (an (dh g a q))).rangeAt p.heap.size 0 (an (dh g a q++bK 30 0)):=by
  have e1:an (dh g a q++bK 30 0)=an (dh g a q)++an (bK 30 0):=by simp[an]
  rw[e1];refine kp (gE t _ 0 _ (by rw[bi,hl];exact h18)) ?_;rw[bi,hl];refine iM (fun j x hx=> ?_) _ 0 _ (aC (aC (by rw[bi,hl];simp)));have hj:j<30:=by have:=(dp.1 hx).1;simpa [an]using this
  have:=rt.range (18+j) x (by
   rw[←hx];unfold an;rw[du,du,jL,jL,if_pos (by omega),if_pos hj])
  simpa using this
 have hW48:V.heap.size<W.heap.size:=rW.lt;have b2:ah W.heap.size W (t.setCells p.heap.size 0 (an (dh g a q))):=(hb.trans (bt.mono hb.size)).trans (kJ (b:=p.heap.size) hb.size (an (dh g a q)) 0 t);have r2:aB (t.setCells p.heap.size 0 (an (dh g a q))) V.heap.size 205 (an (bK 48 0)):=(b2.block _ hW48).trans rW;obtain⟨z,ST,rz,gz⟩:=EO (b:=dh g a q++bK 30 0) r2 (by simp[an]) hv48;rw[sV]at ST rz;refine⟨_,z,_,rfl,rc,iH hr2 (by rw[bi,hv48]),ST,iH rz.range (by rw[bi,hv48]), ?_⟩;have b3:ah V.heap.size V (t.setCells p.heap.size 0 (an (dh g a q))):=bW.trans (b2.mono bW.size);exact bV.trans ((b3.grown gz b3.size (fun k e=>by cases e;exact aJ _)).mono bV.size)
section
theorem tj {gen:Int} {g:Geo} {a q:Int} (hi:SupIn gen g a q) (w:ak):
  az aj 141 #[al g.v,ab af a,ab aD q] w fun e w'=>e=ar (al (an (dh g a q++bK 30 0)).toArray)/\ah w.heap.size w w':=by
 have hmx:=w9x
 obtain⟨V,hV⟩:=w9nm (w.alloc (ap g.v 23));have bV:ah w.heap.size w V:=by rw[←hV];exact aR w _
 have rV:aB V w.heap.size 23 g.cs:=by rw[←hV];exact aB.new w _ _
 have sV:V.heap.size=w.heap.size+1:=by rw[←hV];simp
 obtain⟨W,hW⟩:=w9nm (V.alloc (ap dR.toArray 205));have bW:ah V.heap.size V W:=by rw[←hW];exact aR V _
 have rW:aB W V.heap.size 205 (an (bK 48 0)):=by rw[←hW];exact aB.new V _ _
 have sW:W.heap.size=w.heap.size+2:=by rw[←hW];simp[sV]
 obtain⟨X,hX⟩:=w9nm (W.alloc (ap #[ab aq 82,ab aq 86,ab aq 84,ab aq 49] 5));have bX:ah W.heap.size W X:=by rw[←hX];exact aR W _
 have oX:X.ownsRow W.heap.size 5 1 (ag (some ⟨W.heap.size,0,none⟩) 4 4) ([82,86,84,49]:List Int).length (([82,86,84,49]:List Int).map (Value.int aq)):=by
  rw[←hX];exact World.ownsRow_lit W _ 4 (aJ _) (by unfold aS;omega) rfl
 obtain⟨gb,gs,gy,ga,gr⟩:=g;obtain⟨hgen,hb,hs,hy,ha',hr,hat,hq⟩:=hi
 dsimp only at hb hs hy ha' hr
 have hq':0<=q/\q<4294967296:=hq;have rX:aB X w.heap.size 23 (Geo.mk gb gs gy ga gr).cs:=(rV.below bW).below bX;have HK:Hid (∀x,w9b W x->x.heap[w.heap.size]? =X.heap[w.heap.size]?):=fun x hx=>by rw[hx.block _ (by omega),bX.block _ (by omega)]
 have c0:∀z:jI w.heap.size X,z.1.cell? ⟨w.heap.size,0,none⟩=some (ab af gb):=fun z=>(z.row rX).cell 0 _ rfl;have c1:∀z:jI w.heap.size X,z.1.cell? ⟨w.heap.size,1,none⟩=some (ab af gs):=fun z=>(z.row rX).cell 1 _ rfl;have c2:∀z:jI w.heap.size X,z.1.cell? ⟨w.heap.size,2,none⟩=some (ab af gy):=fun z=>(z.row rX).cell 2 _ rfl;have c3:∀z:jI w.heap.size X,z.1.cell? ⟨w.heap.size,3,none⟩=some (ab af ga):=fun z=>(z.row rX).cell 3 _ rfl;have c4:∀z:jI w.heap.size X,z.1.cell? ⟨w.heap.size,4,none⟩=some (ab af gr):=fun z=>(z.row rX).cell 4 _ rfl;have SW:=ae sW;clear rX rV sW;go_enter func141,ntmps141;go_wp2_with fail;refine cM (fun x=>∃z:jI w.heap.size X,x=z.1) 14 (.takes [0,1,2,3,6,7,8,9,10,11] (.two 4 12 (.two 5 12 (.one 12 (.one 13 .leaf)) (.one 5 (.one 13 .leaf))) (.one 4 (.one 5 (.one 13 .leaf))))) hmx (by kernel_rfl) (by intro c x v a w h;cases x<;>exact h) ⟨⟨X.drew,rfl⟩,rfl⟩ ?_;repeat(rw[bj];simp only[au,ay];go_big_quiet_step (fail);refine aO ?_)
 rw[bo,ii];simp only[au,ay];refine⟨?_, ?_⟩
 ·go_wp2_with fail;go_at_call 219;refine(ia gb 2 _ (by omega) (by omega) (by omega) (by omega)).mono ?_;rintro e y1 ⟨u1,rfl,hu1,hy1⟩;have U1:Hid (Sl aq y1 u1 (aH gb 2)):=by have:=Sl.of_owns (bs:=aH gb 2) (by rw[bE];exact hu1);exact this
  have O1:=ae (iw (x:=X.drew) (show X.drew.ownsRow _ _ _ _ _ _ from oX) hy1);have Y1:w9h W y1:=(bX.drew).trans (hy1.mono (bX.drew).size);clear hu1 hy1;go_wp2_with fail;refine aG ⟨⟨y1,HK.out y1 Y1.out⟩,rfl⟩ ?_;rw[ii];simp only[au,ay];refine⟨?_, ?_⟩
  ·obtain⟨v2,z2,A2,P2,Q2,G2⟩:=ij (N:=W.heap.size) O1.out U1.out (by simp[bE]) Y1.out.size;have Z2:w9h W z2:=Y1.out.trans Q2.out;go_wp2_with (at_builtin;refine wpList_append_run (.tmp 10) (.tmp 14) 76 rfl rfl _ _ _ rfl rfl A2.out ?_);refine aG ⟨⟨z2,HK.out z2 Z2.out⟩,rfl⟩ ?_;rw[aT];simp only[au,ay];obtain⟨l3,hl3⟩:=w9nm (z2.alloc (ap #[ab aq gs,ab aq gy] 5));have bl3:ah z2.heap.size z2 l3:=by rw[←hl3];exact aR z2 _
   obtain⟨B3,hB3⟩:=w9nm z2.heap.size;have T3:Hid (aB l3 B3 5 [ab aq gs,ab aq gy]):=by show aB _ _ _ _;rw[←hl3,←hB3];exact aB.new _ _ _
   skip
   have O3:=ae (iw (x:=z2) P2.out bl3);have Y3:=w9bt Z2 bl3;go_wp2_with fail;clear hl3 bl3 hB3;refine aG ⟨⟨l3,HK.out l3 Y3.out⟩,rfl⟩ ?_;rw[aT];simp only[au,ay];obtain⟨v4,z4,A4,P4,Q4,G4⟩:=ij (N:=W.heap.size) O3.out (th T3.out hs hy) (by simp[bE]) Y3.out.size;have Z4:w9h W z4:=Y3.out.trans Q4.out;go_wp2_with (at_builtin;refine wpList_append_run (.tmp 15) (.tmp 22) 76 rfl rfl _ _ _ rfl rfl A4.out ?_);refine aG ⟨⟨z4,HK.out z4 Z4.out⟩,rfl⟩ ?_;rw[cu];simp only[be,bf];go_wp2_with fail;refine cM (fun x=>∃z:jI w.heap.size X,x=z.1) 11 (.takes [0,1,2,3,6,7,8] (.one 4 (.one 5 (.one 9 (.one 10 .leaf))))) hmx (by kernel_rfl) (by intro c x v a w h;cases x<;>exact h) ⟨⟨z4.drew,HK.out _ (Below.drew Z4.out)⟩,rfl⟩ ?_;repeat(rw[bj];simp only[au,ay];go_big_quiet_step (fail);refine aO ?_)
   rw[bo,aT];simp only[au,ay];go_wp2_with fail;go_at_call 219;refine(ia ga 2 _ (by omega) (by omega) (by omega) (by omega)).mono ?_;rintro e y5 ⟨u5,rfl,hu5,hy5⟩;have U5:Hid (Sl aq y5 u5 (aH ga 2)):=by have:=Sl.of_owns (bs:=aH ga 2) (by rw[bE];exact hu5);exact this
   have O5:=ae (iw (x:=(z4.drew)) (show(z4.drew).ownsRow _ _ _ _ _ _ from P4.out) hy5);have Y5:w9h W y5:=(Below.drew Z4.out).trans (hy5.mono (Below.drew Z4.out).size);clear hu5 hy5;go_wp2_with fail;refine aG ⟨⟨y5,HK.out y5 Y5.out⟩,rfl⟩ ?_;rw[aT];simp only[au,ay];obtain⟨v6,z6,A6,P6,Q6,G6⟩:=ij (N:=W.heap.size) O5.out U5.out (by simp[bE]) Y5.out.size;have Z6:w9h W z6:=Y5.out.trans Q6.out;go_wp2_with (at_builtin;refine wpList_append_run (.tmp 24) (.tmp 28) 76 rfl rfl _ _ _ rfl rfl A6.out ?_);refine aG ⟨⟨z6,HK.out z6 Z6.out⟩,rfl⟩ ?_;rw[aT];simp only[au,ay];go_wp2_with fail;go_at_call 219;refine(ia gr 2 _ (by omega) (by omega) (by omega) (by omega)).mono ?_;rintro e y7 ⟨u7,rfl,hu7,hy7⟩;have U7:Hid (Sl aq y7 u7 (aH gr 2)):=by have:=Sl.of_owns (bs:=aH gr 2) (by rw[bE];exact hu7);exact this
   have O7:=ae (iw (x:=z6) P6.out hy7);have Y7:=w9bt Z6 hy7;clear hu7 hy7;go_wp2_with fail;refine aG ⟨⟨y7,HK.out y7 Y7.out⟩,rfl⟩ ?_;rw[aT];simp only[au,ay];obtain⟨v8,z8,A8,P8,Q8,G8⟩:=ij (N:=W.heap.size) O7.out U7.out (by simp[bE]) Y7.out.size;have Z8:w9h W z8:=Y7.out.trans Q8.out;go_wp2_with (at_builtin;refine wpList_append_run (.tmp 29) (.tmp 33) 76 rfl rfl _ _ _ rfl rfl A8.out ?_);refine aG ⟨⟨z8,HK.out z8 Z8.out⟩,rfl⟩ ?_;rw[cu];simp only[be,bf];go_wp2_with fail;go_wp2_with fail;go_at_call 219;refine(ia a 2 _ (by omega) (by omega) (by omega) (by omega)).mono ?_;rintro e y9 ⟨u9,rfl,hu9,hy9⟩;have U9:Hid (Sl aq y9 u9 (aH a 2)):=by have:=Sl.of_owns (bs:=aH a 2) (by rw[bE];exact hu9);exact this
   have O9:=ae (iw (x:=z8) P8.out hy9);have Y9:=w9bt Z8 hy9;clear hu9 hy9;obtain⟨v10,z10,A10,P10,Q10,G10⟩:=ij (N:=W.heap.size) O9.out U9.out (by simp[bE]) Y9.out.size;have Z10:w9h W z10:=Y9.out.trans Q10.out;go_wp2_with (at_builtin;refine wpList_append_run (.tmp 35) (.tmp 38) 76 rfl rfl _ _ _ rfl rfl A10.out ?_);go_wp2_with fail;go_at_call 219;refine(ia q 4 _ (by omega) (by omega) (by omega) (by omega)).mono ?_;rintro e y11 ⟨u11,rfl,hu11,hy11⟩;have U11:Hid (Sl aq y11 u11 (aH q 4)):=by have:=Sl.of_owns (bs:=aH q 4) (by rw[bE];exact hu11);exact this
   have O11:=ae (iw (x:=z10) P10.out hy11);have Y11:=w9bt Z10 hy11;clear hu11 hy11;obtain⟨v12,z12,A12,P12,Q12,G12⟩:=ij (N:=W.heap.size) O11.out U11.out (by simp[bE]) Y11.out.size;have Z12:w9h W z12:=Y11.out.trans Q12.out;obtain⟨t,ht⟩:=w9nm (z12.alloc (ap dR.toArray 205));have hx:(((((([82,86,84,49]++(aH gb 2))++(aH gs 1++aH gy 1))++(aH ga 2))++(aH gr 2))++(aH a 2))++(aH q 4))=dh ⟨gb,gs,gy,ga,gr⟩ a q:=by simp[dh]
   obtain⟨t2,z,cv,HCV,rc,ld,st,HLZ,HBZ⟩:=ti P12.out Z12.out hx ht rW bV bW sV;clear hx c0 c1 c2 c3 c4;go_wp2_with (at_builtin;refine wpList_append_run (.tmp 39) (.tmp 42) 76 rfl rfl _ _ _ rfl rfl A12.out ?_);exact bl (ff rfl rfl HLZ.out) rfl ⟨by rw[HCV.out],HBZ.out⟩
  ·obtain⟨l13,hl13⟩:=w9nm (y1.alloc (ap #[ab aq gs,ab aq gy] 5));have bl13:ah y1.heap.size y1 l13:=by rw[←hl13];exact aR y1 _
   obtain⟨B13,hB13⟩:=w9nm y1.heap.size;have T13:Hid (aB l13 B13 5 [ab aq gs,ab aq gy]):=by show aB _ _ _ _;rw[←hl13,←hB13];exact aB.new _ _ _
   have H13:Hid (W.heap.size<B13):=by show _<_;rw[←hB13];exact xT O1.out
   have O13:=ae (iw (x:=y1) O1.out bl13);have Y13:=w9bt Y1 bl13;have U13:=ae (U1.out.below bl13);go_wp2_with fail;clear hl13 bl13 hB13;refine aG ⟨⟨l13,HK.out l13 Y13.out⟩,rfl⟩ ?_;rw[aT];simp only[au,ay];obtain⟨v14,z14,A14,P14,Q14,G14⟩:=ij (N:=W.heap.size) O13.out U13.out (by simp[bE]) Y13.out.size;have Z14:w9h W z14:=Y13.out.trans Q14.out;have M14:Hid (aB z14 B13 5 [ab aq gs,ab aq gy]):=(G14.out.block _ T13.out.lt (by intro e;cases e;exact absurd H13.out (gQ _))).trans T13.out;go_wp2_with (at_builtin;refine wpList_append_run (.tmp 10) (.tmp 14) 76 rfl rfl _ _ _ rfl rfl A14.out ?_);refine aG ⟨⟨z14,HK.out z14 Z14.out⟩,rfl⟩ ?_;rw[aT];simp only[au,ay];obtain⟨v15,z15,A15,P15,Q15,G15⟩:=ij (N:=W.heap.size) P14.out (th M14.out hs hy) (by simp[bE]) Z14.out.size;have Z15:w9h W z15:=Z14.out.trans Q15.out;go_wp2_with (at_builtin;refine wpList_append_run (.tmp 15) (.tmp 22) 76 rfl rfl _ _ _ rfl rfl A15.out ?_);refine aG ⟨⟨z15,HK.out z15 Z15.out⟩,rfl⟩ ?_;rw[cu];simp only[be,bf];go_wp2_with fail;refine cM (fun x=>∃z:jI w.heap.size X,x=z.1) 11 (.takes [0,1,2,3,6,7,8] (.one 4 (.one 5 (.one 9 (.one 10 .leaf))))) hmx (by kernel_rfl) (by intro c x v a w h;cases x<;>exact h) ⟨⟨z15.drew,HK.out _ (Below.drew Z15.out)⟩,rfl⟩ ?_;repeat(rw[bj];simp only[au,ay];go_big_quiet_step (fail);refine aO ?_)
   rw[bo,aT];simp only[au,ay];go_wp2_with fail;go_at_call 219;refine(ia ga 2 _ (by omega) (by omega) (by omega) (by omega)).mono ?_;rintro e y16 ⟨u16,rfl,hu16,hy16⟩;have U16:Hid (Sl aq y16 u16 (aH ga 2)):=by have:=Sl.of_owns (bs:=aH ga 2) (by rw[bE];exact hu16);exact this
   have O16:=ae (iw (x:=(z15.drew)) (show(z15.drew).ownsRow _ _ _ _ _ _ from P15.out) hy16);have Y16:w9h W y16:=(Below.drew Z15.out).trans (hy16.mono (Below.drew Z15.out).size);clear hu16 hy16;go_wp2_with fail;refine aG ⟨⟨y16,HK.out y16 Y16.out⟩,rfl⟩ ?_;rw[aT];simp only[au,ay];obtain⟨v17,z17,A17,P17,Q17,G17⟩:=ij (N:=W.heap.size) O16.out U16.out (by simp[bE]) Y16.out.size;have Z17:w9h W z17:=Y16.out.trans Q17.out;go_wp2_with (at_builtin;refine wpList_append_run (.tmp 24) (.tmp 28) 76 rfl rfl _ _ _ rfl rfl A17.out ?_);refine aG ⟨⟨z17,HK.out z17 Z17.out⟩,rfl⟩ ?_;rw[aT];simp only[au,ay];go_wp2_with fail;go_at_call 219;refine(ia gr 2 _ (by omega) (by omega) (by omega) (by omega)).mono ?_;rintro e y18 ⟨u18,rfl,hu18,hy18⟩;have U18:Hid (Sl aq y18 u18 (aH gr 2)):=by have:=Sl.of_owns (bs:=aH gr 2) (by rw[bE];exact hu18);exact this
   have O18:=ae (iw (x:=z17) P17.out hy18);have Y18:=w9bt Z17 hy18;clear hu18 hy18;go_wp2_with fail;refine aG ⟨⟨y18,HK.out y18 Y18.out⟩,rfl⟩ ?_;rw[aT];simp only[au,ay];obtain⟨v19,z19,A19,P19,Q19,G19⟩:=ij (N:=W.heap.size) O18.out U18.out (by simp[bE]) Y18.out.size;have Z19:w9h W z19:=Y18.out.trans Q19.out;go_wp2_with (at_builtin;refine wpList_append_run (.tmp 29) (.tmp 33) 76 rfl rfl _ _ _ rfl rfl A19.out ?_);refine aG ⟨⟨z19,HK.out z19 Z19.out⟩,rfl⟩ ?_;rw[cu];simp only[be,bf];go_wp2_with fail;go_wp2_with fail;go_at_call 219;refine(ia a 2 _ (by omega) (by omega) (by omega) (by omega)).mono ?_;rintro e y20 ⟨u20,rfl,hu20,hy20⟩;have U20:Hid (Sl aq y20 u20 (aH a 2)):=by have:=Sl.of_owns (bs:=aH a 2) (by rw[bE];exact hu20);exact this
   have O20:=ae (iw (x:=z19) P19.out hy20);have Y20:=w9bt Z19 hy20;clear hu20 hy20;obtain⟨v21,z21,A21,P21,Q21,G21⟩:=ij (N:=W.heap.size) O20.out U20.out (by simp[bE]) Y20.out.size;have Z21:w9h W z21:=Y20.out.trans Q21.out;go_wp2_with (at_builtin;refine wpList_append_run (.tmp 35) (.tmp 38) 76 rfl rfl _ _ _ rfl rfl A21.out ?_);go_wp2_with fail;go_at_call 219;refine(ia q 4 _ (by omega) (by omega) (by omega) (by omega)).mono ?_;rintro e y22 ⟨u22,rfl,hu22,hy22⟩;have U22:Hid (Sl aq y22 u22 (aH q 4)):=by have:=Sl.of_owns (bs:=aH q 4) (by rw[bE];exact hu22);exact this
   have O22:=ae (iw (x:=z21) P21.out hy22);have Y22:=w9bt Z21 hy22;clear hu22 hy22;obtain⟨v23,z23,A23,P23,Q23,G23⟩:=ij (N:=W.heap.size) O22.out U22.out (by simp[bE]) Y22.out.size;have Z23:w9h W z23:=Y22.out.trans Q23.out;obtain⟨t,ht⟩:=w9nm (z23.alloc (ap dR.toArray 205));have hx:(((((([82,86,84,49]++(aH gb 2))++(aH gs 1++aH gy 1))++(aH ga 2))++(aH gr 2))++(aH a 2))++(aH q 4))=dh ⟨gb,gs,gy,ga,gr⟩ a q:=by simp[dh]
   obtain⟨t2,z,cv,HCV,rc,ld,st,HLZ,HBZ⟩:=ti P23.out Z23.out hx ht rW bV bW sV;clear hx c0 c1 c2 c3 c4;go_wp2_with (at_builtin;refine wpList_append_run (.tmp 39) (.tmp 42) 76 rfl rfl _ _ _ rfl rfl A23.out ?_);exact bl (ff rfl rfl HLZ.out) rfl ⟨by rw[HCV.out],HBZ.out⟩
 ·obtain⟨l24,hl24⟩:=w9nm (X.drew.alloc (ap #[ab aq gs,ab aq gy] 5));have bl24:ah X.drew.heap.size X.drew l24:=by rw[←hl24];exact aR X.drew _
  obtain⟨B24,hB24⟩:=w9nm X.drew.heap.size;have T24:Hid (aB l24 B24 5 [ab aq gs,ab aq gy]):=by show aB _ _ _ _;rw[←hl24,←hB24];exact aB.new _ _ _
  have H24:Hid (W.heap.size<B24):=by show _<_;rw[←hB24];exact xT (show X.drew.ownsRow _ _ _ _ _ _ from oX)
  have O24:=ae (iw (x:=X.drew) (show X.drew.ownsRow _ _ _ _ _ _ from oX) bl24);have Y24:w9h W l24:=(bX.drew).trans (bl24.mono (bX.drew).size);go_wp2_with fail;clear hl24 bl24 hB24;refine aG ⟨⟨l24,HK.out l24 Y24.out⟩,rfl⟩ ?_;rw[aT];simp only[au,ay];go_wp2_with fail;go_at_call 219;refine(ia gb 2 _ (by omega) (by omega) (by omega) (by omega)).mono ?_;rintro e y25 ⟨u25,rfl,hu25,hy25⟩;have U25:Hid (Sl aq y25 u25 (aH gb 2)):=by have:=Sl.of_owns (bs:=aH gb 2) (by rw[bE];exact hu25);exact this
  have O25:=ae (iw (x:=l24) O24.out hy25);have Y25:=w9bt Y24 hy25;have L25:=ae (T24.out.below hy25);clear hu25 hy25;go_wp2_with fail;refine aG ⟨⟨y25,HK.out y25 Y25.out⟩,rfl⟩ ?_;rw[aT];simp only[au,ay];obtain⟨v26,z26,A26,P26,Q26,G26⟩:=ij (N:=W.heap.size) O25.out U25.out (by simp[bE]) Y25.out.size;have Z26:w9h W z26:=Y25.out.trans Q26.out;have M26:Hid (aB z26 B24 5 [ab aq gs,ab aq gy]):=(G26.out.block _ L25.out.lt (by intro e;cases e;exact absurd H24.out (gQ _))).trans L25.out;go_wp2_with (at_builtin;refine wpList_append_run (.tmp 10) (.tmp 14) 76 rfl rfl _ _ _ rfl rfl A26.out ?_);refine aG ⟨⟨z26,HK.out z26 Z26.out⟩,rfl⟩ ?_;rw[aT];simp only[au,ay];obtain⟨v27,z27,A27,P27,Q27,G27⟩:=ij (N:=W.heap.size) P26.out (th M26.out hs hy) (by simp[bE]) Z26.out.size;have Z27:w9h W z27:=Z26.out.trans Q27.out;go_wp2_with (at_builtin;refine wpList_append_run (.tmp 15) (.tmp 22) 76 rfl rfl _ _ _ rfl rfl A27.out ?_);refine aG ⟨⟨z27,HK.out z27 Z27.out⟩,rfl⟩ ?_;rw[cu];simp only[be,bf];go_wp2_with fail;refine cM (fun x=>∃z:jI w.heap.size X,x=z.1) 11 (.takes [0,1,2,3,6,7,8] (.one 4 (.one 5 (.one 9 (.one 10 .leaf))))) hmx (by kernel_rfl) (by intro c x v a w h;cases x<;>exact h) ⟨⟨z27.drew,HK.out _ (Below.drew Z27.out)⟩,rfl⟩ ?_;repeat(rw[bj];simp only[au,ay];go_big_quiet_step (fail);refine aO ?_)
  rw[bo,aT];simp only[au,ay];go_wp2_with fail;go_at_call 219;refine(ia ga 2 _ (by omega) (by omega) (by omega) (by omega)).mono ?_;rintro e y28 ⟨u28,rfl,hu28,hy28⟩;have U28:Hid (Sl aq y28 u28 (aH ga 2)):=by have:=Sl.of_owns (bs:=aH ga 2) (by rw[bE];exact hu28);exact this
  have O28:=ae (iw (x:=(z27.drew)) (show(z27.drew).ownsRow _ _ _ _ _ _ from P27.out) hy28);have Y28:w9h W y28:=(Below.drew Z27.out).trans (hy28.mono (Below.drew Z27.out).size);clear hu28 hy28;go_wp2_with fail;refine aG ⟨⟨y28,HK.out y28 Y28.out⟩,rfl⟩ ?_;rw[aT];simp only[au,ay];obtain⟨v29,z29,A29,P29,Q29,G29⟩:=ij (N:=W.heap.size) O28.out U28.out (by simp[bE]) Y28.out.size;have Z29:w9h W z29:=Y28.out.trans Q29.out;go_wp2_with (at_builtin;refine wpList_append_run (.tmp 24) (.tmp 28) 76 rfl rfl _ _ _ rfl rfl A29.out ?_);refine aG ⟨⟨z29,HK.out z29 Z29.out⟩,rfl⟩ ?_;rw[aT];simp only[au,ay];go_wp2_with fail;go_at_call 219;refine(ia gr 2 _ (by omega) (by omega) (by omega) (by omega)).mono ?_;rintro e y30 ⟨u30,rfl,hu30,hy30⟩;have U30:Hid (Sl aq y30 u30 (aH gr 2)):=by have:=Sl.of_owns (bs:=aH gr 2) (by rw[bE];exact hu30);exact this
  have O30:=ae (iw (x:=z29) P29.out hy30);have Y30:=w9bt Z29 hy30;clear hu30 hy30;go_wp2_with fail;refine aG ⟨⟨y30,HK.out y30 Y30.out⟩,rfl⟩ ?_;rw[aT];simp only[au,ay];obtain⟨v31,z31,A31,P31,Q31,G31⟩:=ij (N:=W.heap.size) O30.out U30.out (by simp[bE]) Y30.out.size;have Z31:w9h W z31:=Y30.out.trans Q31.out;go_wp2_with (at_builtin;refine wpList_append_run (.tmp 29) (.tmp 33) 76 rfl rfl _ _ _ rfl rfl A31.out ?_);refine aG ⟨⟨z31,HK.out z31 Z31.out⟩,rfl⟩ ?_;rw[cu];simp only[be,bf];go_wp2_with fail;go_wp2_with fail;go_at_call 219;refine(ia a 2 _ (by omega) (by omega) (by omega) (by omega)).mono ?_;rintro e y32 ⟨u32,rfl,hu32,hy32⟩;have U32:Hid (Sl aq y32 u32 (aH a 2)):=by have:=Sl.of_owns (bs:=aH a 2) (by rw[bE];exact hu32);exact this
  have O32:=ae (iw (x:=z31) P31.out hy32);have Y32:=w9bt Z31 hy32;clear hu32 hy32;obtain⟨v33,z33,A33,P33,Q33,G33⟩:=ij (N:=W.heap.size) O32.out U32.out (by simp[bE]) Y32.out.size;have Z33:w9h W z33:=Y32.out.trans Q33.out;go_wp2_with (at_builtin;refine wpList_append_run (.tmp 35) (.tmp 38) 76 rfl rfl _ _ _ rfl rfl A33.out ?_);go_wp2_with fail;go_at_call 219;refine(ia q 4 _ (by omega) (by omega) (by omega) (by omega)).mono ?_;rintro e y34 ⟨u34,rfl,hu34,hy34⟩;have U34:Hid (Sl aq y34 u34 (aH q 4)):=by have:=Sl.of_owns (bs:=aH q 4) (by rw[bE];exact hu34);exact this
  have O34:=ae (iw (x:=z33) P33.out hy34);have Y34:=w9bt Z33 hy34;clear hu34 hy34;obtain⟨v35,z35,A35,P35,Q35,G35⟩:=ij (N:=W.heap.size) O34.out U34.out (by simp[bE]) Y34.out.size;have Z35:w9h W z35:=Y34.out.trans Q35.out;obtain⟨t,ht⟩:=w9nm (z35.alloc (ap dR.toArray 205));have hx:(((((([82,86,84,49]++(aH gb 2))++(aH gs 1++aH gy 1))++(aH ga 2))++(aH gr 2))++(aH a 2))++(aH q 4))=dh ⟨gb,gs,gy,ga,gr⟩ a q:=by simp[dh]
  obtain⟨t2,z,cv,HCV,rc,ld,st,HLZ,HBZ⟩:=ti P35.out Z35.out hx ht rW bV bW sV;clear hx c0 c1 c2 c3 c4;go_wp2_with (at_builtin;refine wpList_append_run (.tmp 39) (.tmp 42) 76 rfl rfl _ _ _ rfl rfl A35.out ?_);exact bl (ff rfl rfl HLZ.out) rfl ⟨by rw[HCV.out],HBZ.out⟩
end
end
section
section
variable {P:Program} {ops:Array Oper} {Q:Exit->Act->ak->Prop} {md:Region.Mode} {S:ak->Prop} {m:Nat}
def ew:Exit->Act->ak->Prop:=fun _ _ _=>False
theorem EP {o:Oper} {a:Act} {w:ak} {K:Act->ak->Prop} (hd:∀c,o.op≠ .defer c) (h:o.wp P a w K ew):o.wpIn Fence.wide m P a w K Q:=by
 unfold Oper.wpIn;refine⟨fun _ _=>trivial, ?_⟩;rw[Oper.semAt_eq _ _ _ hd];unfold Oper.wp at h;generalize (execOp a.eval o).run P w=r at *;cases r with
 | ok x w'=>
  cases x<;>simp only[Oper.upon,Oper.uponIn]at h ⊢<;>
   first
    | exact h
    | exact⟨fun e=>by simp[Fence.wide]at e,callsIn_wide.2 (h.mono fun e w'' he=>by cases e<;>first | exact he | exact he.elim | (obtain⟨_,_,h'⟩:=he;exact h'.elim))⟩
    | exact⟨fun e=>by simp[Fence.wide]at e,fun c cs _=>let⟨v,w',r,s⟩:=h c cs;⟨v,w',r,stepsIn_wide.2 s⟩⟩
    | exact h.elim
 | halt x w'=>cases x<;>simp only[Oper.upon,Oper.uponIn]at h ⊢<;>first | exact h | exact h.elim
theorem ER {i:Nat} {a:Act} {w:ak} {K:Act->ak->Prop} (hd:jN ops=true) (h:wpOp P ops ew i K a w):wpOpIn Fence.wide m P ops Q i K a w:=by
 unfold wpOp at h;unfold wpOpIn;cases ho:ops[i]? with
 | none=>simpa [ho]using h
 | some o=>
  simp only[ho]at h ⊢;by_cases hw:Region.wanted o (yielded ops a.tmps)=true
  ·simp only[hw,if_true]at h ⊢;rcases h with h | h
   ·exact EP (qI hd ho) h
   ·obtain⟨_,_,_,h'⟩:=h;exact h'.elim
  ·simp only[hw]at h ⊢;exact⟨fun _ _=>trivial,h⟩
theorem xU {n g:Nat} {L:Array Bool->Act->ak->Prop} (hd:jN ops=true) (hL:∀listed a w,L listed a w->wpAnyIn Fence.wide m P md ops Q g listed a w):
  ∀(f:Nat) (listed:Array Bool) (a:Act) (w:ak),jh P md ops ew S n L f listed a w->wpAnyIn Fence.wide m P md ops Q (f+g) listed a w
 | 0,listed,a,w,h=>by rw[dC];exact hL _ _ _ h
 | f+1,listed,a,w,h=>by
  rw[show f+1+g=(f+g)+1 by omega];exact⟨fun h0=>absurd h0 h.1,fun i hi=>wpOpIn_mono (fun a' w' h'=>xU hd hL f _ a' w' h'.2) (ER hd (h.2 i hi).2)⟩
theorem xV:∀(l:List Oper) (k:Nat) (listed:Array Bool) (a:Act) (w:ak),(∀j,l[j]? =ops[k+j]?)->
  Region.seqB md ops l.length k listed=true->wpListIn Fence.wide m P ops Q l a w->wpAnyIn Fence.wide m P md ops Q l.length listed a w
 | [],_,_,_,_,_,hB,h=>⟨by simpa [Region.seqB]using hB,h⟩
 | o::l,k,listed,a,w,hl,hB,h=>by
  have h0:ops[k]? =some o:=by simpa using(hl 0).symm
  simp only[cK,Region.seqB,fN,decide_eq_true_eq]at hB;refine⟨fun h1=>(by rw[hB.1]at h1;cases h1),fun i hi=> ?_⟩;rw[hB.1]at hi;have hik:i=k:=by simpa using hi
  subst hik;have hw:wpOpIn Fence.wide m P ops Q i (wpListIn Fence.wide m P ops Q l) a w:=by unfold wpOpIn;simp only[h0];exact h
  exact wpOpIn_mono (fun a' w' h'=>xV l (i+1) _ a' w' (fun j=>by have:=hl (j+1);simpa [Nat.add_assoc,Nat.add_comm 1 j]using this) hB.2 h') hw
def lP (P:Program) (l:List Oper) (S:ak->Prop) (K:Act->Prop):List Nat->Act->Prop
 | [],a=>K a
 | i::is,a=>wpQuiet P l.toArray S (fun a'=>lP P l S K is a') [cQ l i] a
theorem xW {l:List Oper} {K:Act->Prop} {a:Act}:lP P l S K [] a=K a:=rfl
theorem xX {l:List Oper} {K:Act->Prop} {i:Nat} {is:List Nat} {a:Act}:lP P l S K (i::is) a=wpQuiet P l.toArray S (fun a'=>lP P l S K is a') [cQ l i] a:=rfl
theorem ET {l:List Oper} {n:Nat} (hsel:Region.noSelect l.toArray=true) (hs:Region.sinkB md l.toArray n=true) (hc:Region.chainB md l.toArray n=true) (hn:n<l.length) (K:Act->ak->Prop):
  ∀(is:List Nat) (f:Nat) (listed:Array Bool) (a:Act) (w:ak),HeadInv md l.toArray n listed->gl md l n (Plan.takes is .leaf) f listed=true->S w->lP P l S (fun a'=>K a' w) is a->
   jh P md l.toArray ew S n (fun listed' a' w'=>Region.seqB md l.toArray (l.length - n) n listed'=true/\K a' w') f listed a w:=by
 have hn':n<l.toArray.size:=by simpa using hn
 intro is
 induction is with
 | nil=>
  intro f listed a w inv hB hS h;have hB':gl md l n .leaf f listed=true:=hB;simp only[gl,fN,decide_eq_true_eq]at hB';obtain⟨rfl,hB'⟩:=hB';exact⟨hB',h⟩
 | cons i is ih=>
  intro f listed a w inv hB hS h;have hB':gl md l n (.take i (Plan.takes is .leaf)) f listed=true:=hB;simp only[gl,fN,decide_eq_true_eq]at hB';obtain⟨⟨⟨⟨⟨hf,hin⟩,hrd⟩,hr⟩,hfr⟩,hB'⟩:=hB';obtain⟨f,rfl⟩:∃g,f=g+1:=⟨f - 1,by omega⟩;have ho:l.toArray[i]? =some (cQ l i):=by simpa using mf l i (by omega)
  have hr':i ∈ Region.ready md l.toArray listed:=by simpa using hr
  simp only[lP,wpQuiet]at h;obtain⟨v,hy,hK⟩:=od (i:=i) hrd ⟨w,hS⟩ h;exact uh ho (Region.noSelect_spec hsel) (fun c a w h=>h) hs hc hn' hin (fun listed a w hL=>seqB_ready hL.1) f listed a w inv (Region.free_spec ho hfr) hr' hy hS
   (ih f _ _ w (inv.set hr' hin) (by simpa using hB') hS hK)
theorem xY {id:Nat} {a:Act} {w:ak} {l:List Oper} (S:ak->Prop) (n:Nat) (is:List Nat) (hm:P.follows .mixedOrders=true) (hd:jN l.toArray=true) (hB:mg l n (Plan.takes is .leaf)=true) (hS:S w.drew)
  (h:lP P l S (fun a'=>wpListIn Fence.wide m P l.toArray Q (l.drop n) a' w.drew) is a):(Code.region id l.toArray true).wpIn Fence.wide m P Q a w:=by
 simp only[mg,fN,decide_eq_true_eq]at hB;obtain⟨⟨⟨⟨hsel,hn⟩,hs⟩,hc⟩,hp⟩:=hB;have inv0:HeadInv .any l.toArray n (kg l.toArray.size false):=
  ⟨by simp,fun j oj _ hl=>(by rw[getD_replicate_false]at hl;cases hl),fun t _ ht=>getD_in (by simpa using ht) (getD_replicate_false _ _)⟩
 have H:=ET (md:=.any) hsel hs hc hn (fun a' w'=>wpListIn Fence.wide m P l.toArray Q (l.drop n) a' w') is n _ a w.drew inv0 (by simpa using hp) hS h;refine wpIn_region_any hm ?_;have:=xU (g:=l.length - n) hd (fun listed a' w' hL=>by
  have:=xV (m:=m) (md:=.any) (Q:=Q) (l.drop n) n listed a' w' (fun j=>by simp[kf]) (by rw[dx];exact hL.1) hL.2
  rwa [dx]at this) _ _ _ _ H
 rw[show n+(l.length - n)=l.toArray.size by simp;omega]at this;exact this
end
end
section
attribute [-simp] isAgg51 zeroValue51 isAgg205 zeroValue205 isAgg304 zeroValue304 isAgg226 zeroValue226 isAgg207 zeroValue207
attribute [-go_sem] aE aL cZ
attribute [local go_sem] bC bD cV eM eN eO ek gA gB gC Oper.semAt_some
def kA (now:List (List Int)) {m:Nat} (x:Fin m):Array am:=#[ab af (x.1:Int),al (an (aY now x.1)).toArray]
structure PgsR (W:ak) (v:am) (g:Nat) (now:List (List Int)):Prop where
 sl:∃a c,v=ag a now.length c/\(0<now.length->a=some ⟨g,0,none⟩)
 lt:g<W.heap.size
 at_:W.rangeAt g 0 (now.map an).flatten
 len:∀x ∈ now,x.length=48
 few:now.length<=1000
structure PgsB (W:ak) (Bs g:Nat) (now:List (List Int)):Prop where
 box:∃v,Boxed W Bs 109 v/\PgsR W v g now
 lt:Bs<W.heap.size
theorem PgsR.keep {W W':ak} {v:am} {g:Nat} {now:List (List Int)} (h:PgsR W v g now) (hs:W.heap.size<=W'.heap.size) (hg:W'.heap[g]? =W.heap[g]?):PgsR W' v g now:=
 ⟨h.sl,aU h.lt hs,da h.at_ hg,h.len,h.few⟩
theorem PgsR.below {W W':ak} {v:am} {g:Nat} {now:List (List Int)} (h:PgsR W v g now) (hb:w9b W W'):PgsR W' v g now:=h.keep hb.size (hb.block g h.lt)
theorem PgsB.below {W W':ak} {Bs g:Nat} {now:List (List Int)} (h:PgsB W Bs g now) (hb:w9b W W'):PgsB W' Bs g now:=by
 obtain⟨⟨v,h1,h2⟩,h3⟩:=h;exact⟨⟨v,(hb.block Bs h3).trans h1,h2.below hb⟩,aU h3 hb.size⟩
theorem PgsR.page {W:ak} {v:am} {g:Nat} {now:List (List Int)} (h:PgsR W v g now) {k:Nat} (hk:k<now.length):W.rangeAt g (k*48) (an (aY now k))/\(aY now k).length=48:=by
 have hx:now[k]? =some (aY now k):=by unfold aY;rw[bJ hk];rfl
 refine⟨?_,h.len _ (dI hx)⟩;have:=mE (s:=48) (L:=now.map an) (fun x hx=>by obtain⟨y,hy,rfl⟩:=dc.1 hx;rw[bi];exact h.len y hy) h.at_ (k:=k) (x:=an (aY now k)) (by rw[du,hx];rfl)
 rwa [dC]at this
theorem PgsR.load {W:ak} {v:am} {g:Nat} {now:List (List Int)} (h:PgsR W v g now) {k:Nat} (hk:k<now.length):(aE 205 ⟨g,k*48,none⟩).run aj W=.ok (al (an (aY now k)).toArray) W:=
 iH (h.page hk).1 (by rw[bi];exact(h.page hk).2)
def jK (m:Nat) (p:Nat->Bool) (k:Nat):List (Fin m):=(gZ m k).filter fun i=>p i.1
theorem xZ (m:Nat) (p:Nat->Bool):jK m p m=fK m p:=by unfold jK fK;rw[nc]
theorem ya {m:Nat} {p:Nat->Bool} {k:Nat} (hk:k<m) (h:p k=true):jK m p (k+1)=jK m p k++ [⟨k,hk⟩]:=by
 unfold jK;rw[ku m k hk,List.filter_append]
 congr 1
 simp[h]
theorem EU {m:Nat} {p:Nat->Bool} {k:Nat} (hk:k<m) (h:p k=false):jK m p (k+1)=jK m p k:=by
 unfold jK;rw[ku m k hk,List.filter_append];simp[h]
theorem yb {m:Nat} {p:Nat->Bool} {k:Nat} (hk:k<=m):(jK m p k).length<=k:=by
 have:=List.length_filter_le (fun i:Fin m=>p i.1) (gZ m k);rw[oK m k hk]at this;exact this
section
theorem EY (a:Option aN) (len cap:Nat) (w:ak):
  az aj 132 #[ag a len cap] w fun e w'=>e=ar (.func (.func 215) #[] #[ao (some ⟨w.heap.size,0,none⟩)])/\w'=w.alloc (ap #[ag a len cap] 109):=by
 go_enter func132,ntmps132;go_wp2;go_ret;exact⟨rfl,rfl⟩
theorem yc (a:Option aN) (len cap:Nat) (a':Option aN) (len' cap':Nat) (w:ak):
  az aj 143 #[ag a len cap,ag a' len' cap'] w fun e w'=>e=ar (.func (.func 220) #[] #[ao (some ⟨w.heap.size+1,0,none⟩),ao (some ⟨w.heap.size,0,none⟩)])/\w'=(w.alloc (ap #[ag a len cap] 109)).alloc (ap #[ag a' len' cap'] 109):=by
 go_enter func143,ntmps143;go_wp2;go_ret;exact⟨rfl,rfl⟩
theorem EZ (n:Nat) (hn:1<=n) (l Bs g m:Nat) (now:List (List Int)) (hm:now.length=m) (J Jx:List (Fin m)->ak->Prop)
  (hY:∀pre x W,J pre W->pre.length<m->YieldAt Fence.wide (n - 1) aj l (kA now x) W fun e W'=>
   (e=ar (.bool true)/\J (pre++ [x]) W'/\dH (fun k=>k=Bs\/k=g) W W')\/(e=ar (.bool false)/\Jx (pre++ [x]) W'))
  (hJb:∀pre W W',J pre W->ah W.heap.size W W'->J pre W')
  (W:ak) (hL:PgsB W Bs g now) (h0:J [] W):
  CallsIn Fence.wide n aj 215 #[.func (.yield l) #[] #[],ao (some ⟨Bs,0,none⟩)] W fun e W'=>(∃v,e=ar v)/\
   ((∃ys,ys=fK m (fun _=>true)/\J ys W')\/(∃pre,True/\Jx pre W')):=by
 refine callsIn_of_wp func215 rfl trivial ?_ rfl;simp only[ntmps215,dU,cK,dP,Nat.reduceAdd,Nat.reduceSub,ez,eA,eD,eF,dT,dX];obtain⟨⟨v,hbx,hR⟩,hlt⟩:=hL;obtain⟨a,c,rfl,ha⟩:=hR.sl;have c0:=hbx.cell;have HM:=ae hm;have HRR:=ae hR;have hmx:m<=1000:=by rw[←hm];exact hR.few
 have HA:=ae ha;have HLT:=ae hlt;rw[hm]at c0;clear hbx hlt hm hR ha
 gi_wp2
 gi_loopw [7] (fun i wr=>∃k:Nat,k<=m/\i=ab af k/\J (jK m (fun _=>true) k) wr/\Hid (dH (fun k=>k=Bs\/k=g) W wr)) (fun i _=>m - (aW i).toNat)
 case atStart=>exact⟨0,bq _,rfl,h0,dH.refl _ _⟩
 case round=>
  obtain⟨k,hk,rfl,hJs,HK⟩:=hrel;by_cases hlt:k<m
  ·have hkl:k<now.length:=by rw[HM.out];exact hlt
   obtain rfl:a=some ⟨g,0,none⟩:=HA.out (by omega);have hRr:=HRR.out.keep HK.out.1 (HK.out.2 g (aC rfl));have LD:=hRr.load hkl;have hpl:=(hRr.page hkl).2;obtain⟨y,ST,hr,hb⟩:=nG wr hpl;have LB:=hr.body hpl;obtain⟨fn,tmps,assign,body,hy,hRd⟩:=hY _ ⟨k,hlt⟩ y (hJb _ _ _ hJs hb) (by have:=yb (m:=m) (p:=fun _=>true) hk;omega);unfold kA at hy
   dsimp only at hy
   have HKY:Hid (dH (fun k=>k=Bs\/k=g) W y):=iW HK.out ⟨hb.size,fun j hj=>hb.block j (by
    have h1:=HRR.out.lt;have h2:=HK.out.1;rcases hj with rfl | rfl
    ·exact aU HLT.out h2
    ·omega)⟩
   obtain⟨pb,hpb⟩:=w9nm ((an (aY now k)).toArray);rw[hpb]at LD ST LB hy;clear hpb hr hb hRr hpl
   gi_wp2
   refine hRd.mono ?_;rintro e W3 (⟨rfl,hJ3,hk3⟩ | ⟨rfl,hJx3⟩)
   ·have HK3:Hid (dH (fun k=>k=Bs\/k=g) W W3):=iW HKY.out hk3;clear hk3
    gi_wp2
    go_roundw
    case rel=>exact⟨k+1,by omega,by simp,by rw[ya hlt rfl];exact hJ3,HK3⟩
    case measure=>simp[aW];omega
   ·gi_wp2
    refine bl (results_none rfl _ _ _) rfl ?_;exact⟨⟨_,rfl⟩,aC ⟨_,trivial,hJx3⟩⟩
  ·obtain rfl:k=m:=by omega
   gi_wp2
   go_end0
   exact⟨⟨_,rfl⟩,aA ⟨_,rfl,by rw[←xZ];exact hJs⟩⟩
theorem E6 (n:Nat) (hn:1<=n) (Bs g m:Nat) (now:List (List Int)) (hm:now.length=m) (w:ak) (hL:PgsB w Bs g now):
  SeqStopsK Fence.wide n aj 215 #[ao (some ⟨Bs,0,none⟩)] (kA now (m:=m)) (dH fun k=>k=Bs\/k=g) (fun ys=>ys=fK m (fun _=>true)) (fun _=>True) m w:=fun l J Jx W hW hJ _ hY h0=>
 EZ n hn l Bs g m now hm J Jx hY (fun pre W W' hj hb=>hJ pre W W' none hj (fS hb none) (fun r e=>by cases e)) W (hL.below hW) h0
def SD (Bn gn Bw gw:Nat) (k:Nat):Prop:=k=Bn\/k=gn\/k=Bw\/k=gw
theorem E7 (n:Nat) (hn:1<=n) (l Bn gn Bw gw m:Nat) (was now:List (List Int)) (hm:now.length=m) (hw:was.length=m) (J Jx:List (Fin m)->ak->Prop)
  (hY:∀pre x W,J pre W->pre.length<m->YieldAt Fence.wide (n - 1) aj l (kA now x) W fun e W'=>
   (e=ar (.bool true)/\J (pre++ [x]) W'/\dH (SD Bn gn Bw gw) W W')\/(e=ar (.bool false)/\Jx (pre++ [x]) W'))
  (hJb:∀pre W W',J pre W->ah W.heap.size W W'->J pre W')
  (W:ak) (hL:PgsB W Bn gn now) (hL2:PgsB W Bw gw was) (h0:J [] W):
  CallsIn Fence.wide n aj 220 #[.func (.yield l) #[] #[],ao (some ⟨Bn,0,none⟩),ao (some ⟨Bw,0,none⟩)] W fun e W'=>(∃v,e=ar v)/\
   ((∃ys,ys=fK m (iY was now)/\J ys W')\/(∃pre,True/\Jx pre W')):=by
 refine callsIn_of_wp func220 rfl trivial ?_ rfl;simp only[ntmps220,dU,cK,dP,Nat.reduceAdd,Nat.reduceSub,ez,eA,eD,eF,dT,dX];obtain⟨⟨v,hbx,hR⟩,hlt⟩:=hL;obtain⟨⟨v2,hbx2,hR2⟩,hlt2⟩:=hL2;obtain⟨a,c,rfl,ha⟩:=hR.sl;obtain⟨a2,c2,rfl,ha2⟩:=hR2.sl;have c0:=hbx.cell;have C2:Hid (W.cell? ⟨Bw,0,none⟩=some (ag a2 m c2)):=by show _=_;rw[←hw];exact hbx2.cell
 have HM:=ae hm;have HW:=ae hw;have HRR:=ae hR;have HRW:=ae hR2;have hmx:m<=1000:=by rw[←hm];exact hR.few
 have HA:=ae ha;have HA2:=ae ha2;have HLT:Hid (∀j,SD Bn gn Bw gw j->j<W.heap.size):=fun j hj=>by
  rcases hj with rfl | rfl | rfl | rfl
  ·exact hlt
  ·exact hR.lt
  ·exact hlt2
  ·exact hR2.lt
 have hmo:aj.follows .mixedOrders=true:=by kernel_rfl
 rw[hm]at c0;clear hbx hlt hm hR ha hbx2 hR2 hlt2 hw ha2
 gi_wp2
 gi_loopw [8] (fun i wr=>∃k:Nat,k<=m/\i=ab af k/\J (jK m (iY was now) k) wr/\Hid (dH (SD Bn gn Bw gw) W wr)) (fun i _=>m - (aW i).toNat)
 case atStart=>exact⟨0,bq _,rfl,h0,dH.refl _ _⟩
 case round=>
  obtain⟨k,hk,rfl,hJs,HK⟩:=hrel;by_cases hlt:k<m
  ·have hkl:k<now.length:=by rw[HM.out];exact hlt
   have hkw:k<was.length:=by rw[HW.out];exact hlt
   obtain rfl:a=some ⟨gn,0,none⟩:=HA.out (by omega);obtain rfl:a2=some ⟨gw,0,none⟩:=HA2.out (by omega);have hRr:=HRR.out.keep HK.out.1 (HK.out.2 gn (aC (aA rfl)));have LD:=hRr.load hkl;have hpl:=(hRr.page hkl).2;obtain⟨y,ST,hr,hb⟩:=nG wr hpl;have HKY:Hid (dH (SD Bn gn Bw gw) W y):=iW HK.out ⟨hb.size,fun j hj=>hb.block j (aU (HLT.out j hj) HK.out.1)⟩;have hRw:=HRW.out.keep HKY.out.1 (HKY.out.2 gw (aC (aC (aC rfl))));have hpw:=(hRw.page hkw).2;have LBz:∀z:aI y,(aE 205 ⟨wr.heap.size,0,none⟩).run aj z.1=.ok (al (an (aY now k)).toArray) z.1:=fun z=>(hr.below z.2).body hpl;have LWz:∀z:aI y,(aE 205 ⟨gw,k*48,none⟩).run aj z.1=.ok (al (an (aY was k)).toArray) z.1:=fun z=>(hRw.below z.2).load hkw;have c2z:∀z:aI y,z.1.cell? ⟨Bw,0,none⟩=some (ag (some ⟨gw,0,none⟩) m c2):=fun z=>
    ((z.2.cell (p:=⟨Bw,0,none⟩) (aU (HLT.out Bw (aC (aC (aA rfl)))) HKY.out.1)).trans (HKY.out.cell (p:=⟨Bw,0,none⟩) (aC (aC (aA rfl))))).trans C2.out
   have EQ:∀z:ak,(eG 10000 205 (al (an (aY now k)).toArray) (al (an (aY was k)).toArray)).run aj z=.ok (fg (an (aY now k)) (an (aY was k))) z:=fun z=>nh hpl hpw z;have hJy:=hJb _ _ _ hJs hb;have hdf:iY was now k= !fg (an (aY now k)) (an (aY was k)):=by
    have e1:now[k]? =some (aY now k):=by unfold aY;rw[bJ hkl];rfl
    have e2:was[k]? =some (aY was k):=by unfold aY;rw[bJ hkw];rfl
    unfold iY;rw[e1,e2];by_cases h:aY now k=aY was k
    ·rw[h,ll];simp
    ·rw[nY (fun e=>h (ni e))];simpa using h
   obtain⟨B,hB⟩:=w9nm wr.heap.size;rw[hB]at ST LBz;obtain⟨b,hbb⟩:=w9nm (fg (an (aY now k)) (an (aY was k)));rw[hbb]at EQ hdf;have HPB:Hid ((an (aY now k)).toArray=(an (aY now k)).toArray):=rfl;obtain⟨pb,hpb⟩:=w9nm ((an (aY now k)).toArray);obtain⟨qb,hqb⟩:=w9nm ((an (aY was k)).toArray);rw[hpb]at LD ST LBz EQ;rw[hqb]at LWz EQ;have HPB:=ae hpb;clear hr hb hRr hpl hRw hpw hbb hpb hqb hJs;cases b with
   | true=>
    have HDF:Hid (iY was now k=false):=hdf;have hJd:=hJb _ _ y.drew hJy ((aF _ y).drew);have HKD:Hid (dH (SD Bn gn Bw gw) W y.drew):=iW HKY.out ⟨aJ _,fun _ _=>rfl⟩;clear hdf
    gi_wp2_with fail
    refine xY (fun x=>∃z:aI y,x=z.1) 10 [0,1,2,3,4,5,6,7,8,9] hmo (by kernel_rfl) (by kernel_rfl) ⟨⟨y.drew,(aF _ y).drew⟩,rfl⟩ ?_;repeat(rw[xX];simp only[au,ay];go_big_quiet_step (fail);refine aO ?_)
    rw[xW];simp only[be,bf];clear LBz LWz c2z EQ LD ST
    gi_wp2_with fail
    refine⟨fun _ h=>(by cases h), ?_⟩
    gi_wp2_with fail
    go_roundw
    case rel=>exact⟨k+1,by omega,by simp,by rw[EU hlt HDF.out];exact hJd,HKD⟩
    case measure=>simp[aW];omega
   | false=>
    have HDF:Hid (iY was now k=true):=hdf;have hJd:=hJb _ _ y.drew hJy ((aF _ y).drew);have HKD:Hid (dH (SD Bn gn Bw gw) W y.drew):=iW HKY.out ⟨aJ _,fun _ _=>rfl⟩;obtain⟨fn,tmps,assign,body,hy,hRd⟩:=hY _ ⟨k,hlt⟩ y.drew hJd (by have:=yb (m:=m) (p:=iY was now) hk;omega);unfold kA at hy
    dsimp only at hy
    rw[HPB.out]at hy;clear hdf
    gi_wp2_with fail
    refine xY (fun x=>∃z:aI y,x=z.1) 10 [0,1,2,3,4,5,6,7,8,9] hmo (by kernel_rfl) (by kernel_rfl) ⟨⟨y.drew,(aF _ y).drew⟩,rfl⟩ ?_;repeat(rw[xX];simp only[au,ay];go_big_quiet_step (fail);refine aO ?_)
    rw[xW];simp only[be,bf];clear LBz LWz c2z EQ LD ST
    gi_wp2_with fail
    refine hRd.mono ?_;rintro e W3 (⟨rfl,hJ3,hk3⟩ | ⟨rfl,hJx3⟩)
    ·have HK3:Hid (dH (SD Bn gn Bw gw) W W3):=iW HKD.out hk3;clear hk3
     gi_wp2_with fail
     go_roundw
     case rel=>exact⟨k+1,by omega,by simp,by rw[ya hlt HDF.out];exact hJ3,HK3⟩
     case measure=>simp[aW];omega
    ·gi_wp2_with fail
     refine bl (results_none rfl _ _ _) rfl ?_;exact⟨⟨_,rfl⟩,aC ⟨_,trivial,hJx3⟩⟩
  ·obtain rfl:k=m:=by omega
   gi_wp2
   go_end0
   exact⟨⟨_,rfl⟩,aA ⟨_,rfl,by rw[←xZ];exact hJs⟩⟩
theorem yd (n:Nat) (hn:1<=n) (Bn gn Bw gw m:Nat) (was now:List (List Int)) (hm:now.length=m) (hw:was.length=m) (w:ak) (hL:PgsB w Bn gn now) (hL2:PgsB w Bw gw was):
  SeqStopsK Fence.wide n aj 220 #[ao (some ⟨Bn,0,none⟩),ao (some ⟨Bw,0,none⟩)] (kA now (m:=m)) (dH (SD Bn gn Bw gw)) (fun ys=>ys=fK m (iY was now)) (fun _=>True) m w:=fun l J Jx W hW hJ _ hY h0=>
 E7 n hn l Bn gn Bw gw m was now hm hw J Jx hY (fun pre W W' hj hb=>hJ pre W W' none hj (fS hb none) (fun r e=>by cases e)) W (hL.below hW) (hL2.below hW) h0
end
end
end Go.Proofs.YtbeeenembgplmaaGreat
