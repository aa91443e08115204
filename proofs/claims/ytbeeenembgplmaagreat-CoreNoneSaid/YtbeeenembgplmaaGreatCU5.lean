/- Made shorter by a tool: what the statements rest on. -/
import Derived.Test.YtbeeenembgplmaaGreatCU4
import Derived.RangeFuncNested
set_option maxRecDepth 100000
set_option maxHeartbeats 20000000
set_option linter.unusedVariables false
set_option linter.unusedSimpArgs false
open List renaming getElem?_eq_getElem -> aZ, replicate -> bg, length_cons -> bz, drop_zero -> bQ, drop_succ_cons -> bR, getElem?_eq_some_iff -> bZ, length_nil -> cx, nil_append -> cy, cons_append -> cC, length_append -> cE, range -> cI, size_toArray -> cJ, mem_map -> cM, push_toArray -> cQ, append_toArray -> cR, take_of_length_le -> de, length_take -> dj, length_drop -> dm, mem_of_getElem? -> dp, mem_cons -> dy, mem_cons_self -> dC, length_map -> dV, getElem?_map -> dY, mem_cons_of_mem -> ea, map_append -> ec, mem_singleton -> eF, getElem?_append_right -> fv, getElem?_append_left -> fS, mem_append -> gc, finRange -> iH, map_map -> iX, drop_drop -> ja, mem_of_mem_take -> jE, take_add_one -> jZ, eq_nil_of_length_eq_zero -> ka, flatten_cons -> kN, getElem?_replicate -> kO, filter_append -> lG, getElem?_drop -> lI, take_append_drop -> lK, flatten_append -> lL, not_mem_nil -> lM
open Nat renaming le_refl -> aG, zero_le -> bc, le_trans -> bm, lt_of_lt_of_le -> bq, zero_add -> dP, lt_irrefl -> iJ, le_of_lt -> jt, min_eq_left -> lJ
open Int renaming toNat_natCast -> iG, eq_ofNat_of_zero_le -> mO
open Array renaming getElem?_eq_some_iff -> bL, replicate_succ -> cO, replicate_zero -> cP
open Go.Lib renaming hid -> ae
open Go renaming World -> ah, Value -> ak, Calls -> ap, undef -> az, loadVar -> aE, Addr -> aF, storeVar -> aL, TypeId -> aR, wpQuiet_nil -> aV, maxLen -> aY, bodyPost_ret -> bo, heap_alloc_new -> cD, run_equalIn_agg -> cS, cell_of_row -> dq, run_takeDeferred -> eU, info_parts -> fy, callsIn_of_wp_marks -> gA, run_loadVar_mid -> jF, all_oneCell_toArray -> ky, run_storeVar_new -> kQ
open Go.Boxed renaming new -> dD
open Go.Instr renaming build -> df, buildSlice -> dh
open Go.KeepsOthers renaming setCell -> iK
open Go.Op renaming equalIn -> jG
open Go.RowKit renaming Below -> ag, intOf -> aS
open Go.RowKit.Below renaming refl -> aI, heap_setCell -> eG
open Go.Sem renaming run_bind -> gK
open Go.Value renaming ownBlock -> jb
open Go.World renaming size_alloc -> bO, cell?_of_block -> gj, ownsRow_nil -> jc, rangeAt_setCells_same -> kz, rangeAt_setCells_apart -> ml, heap_setCells_other -> rk
open Go.Ending renaming returned -> ao
open Go.IntKind renaming i64 -> ac, u8 -> ay, u32 -> aO
open Go.Obj renaming cells -> an
open Go.Value renaming int -> ab, slice -> af, agg -> al, pointer -> am, tuple -> aQ
open Or renaming inl -> aA, inr -> aD
open Go.Proofs.Tryz
open Go.Proofs.Tryz renaming prog -> aj
namespace Go.Proofs.YtbeeenembgplmaaGreat
open Go.RowKit Go.Shelf Go.Lib
section
theorem gI (t:aR) (h:t≠ 51 /\t≠ 304 /\t≠ 205 /\t≠ 226 /\t≠ 244 /\t≠ 207 /\t≠ 198 /\t≠ 23) (a:aF):aE t a=(do if←isAgg t then pure (al (←loadCells a (←sizeOf t)))else load a):=rfl
theorem gJ (t:aR) (h:t≠ 51 /\t≠ 304 /\t≠ 205 /\t≠ 226 /\t≠ 244 /\t≠ 207 /\t≠ 198 /\t≠ 23) (a:aF) (v:ak):aL t a v=(do
  if v.cells.size≠(←sizeOf t)then stuck "storeVar: the value has not the size of the variable"
  storeCells a v.cells.toList):=rfl
theorem Dc:(aj.info? 205).map (·.size)=some 48:=by kernel_rfl
theorem NH {w:ah} {c:Array ak} {c':List ak} (h:c.size=48) (h':c'.length=48) (h1:∀v ∈ c',v.oneCell'=true):(aL 205 ⟨w.heap.size,0,none⟩ (al c'.toArray)).run aj (w.alloc (an c 205))=.ok () (w.alloc (an c'.toArray 205)):=
 kQ w _ c c'.toArray (by simpa [h']using Dc) (by simpa [h']using h) (ky h1)
theorem qP (x:ah) {b:List Int} (hb:b.length=48):∃y,(aL 205 ⟨x.heap.size,0,none⟩ (al (aw b).toArray)).run aj (x.alloc (an gD.toArray 205))=.ok () y/\aq y x.heap.size 205 (aw b)/\ag x.heap.size x y:=
 ⟨_,NH (by simp[gD,aw]) (by rw[cw,hb]) (mV b),aq.new x _ _,aH x _⟩
theorem aq.body {x:ah} {B:Nat} {t:aR} {b:List Int} (h:aq x B t (aw b)) (hb:b.length=48):(aE 205 ⟨B,0,none⟩).run aj x=.ok (al (aw b).toArray) x:=nJ h.range (by rw[cw,hb])
attribute [-simp] isAgg51 zeroValue51 isAgg205 zeroValue205 isAgg304 zeroValue304 isAgg226 zeroValue226 isAgg207 zeroValue207
attribute [-go_sem] aE aL cS
attribute [local go_sem] bC bD dz eK eL eM ew gH gI gJ
section
theorem De (i:Int) {b:List Int} (hb:b.length=48) (w:ah):
  ap aj 214 #[ab ac i,al (aw b).toArray] w fun e w'=>e=ao (al (Value.int ay 72:: ab aO 0:: ab ac i::aw b).toArray)/\ag w.heap.size w w':=by
 obtain⟨W1,hW1⟩:=w9nm (w.alloc (an (aw b).toArray 205));have r1:aq W1 w.heap.size 205 (aw b):=by rw[←hW1];exact aq.new w _ _
 have b1:ag w.heap.size w W1:=by rw[←hW1];exact aH w _
 obtain⟨W,hW⟩:=w9nm (W1.alloc (an dF.toArray 304));have b2:ag W1.heap.size W1 W:=by rw[←hW];exact aH W1 _
 have r2:W.heap[W1.heap.size]? =some (an dF.toArray 304 (0,0)):=by rw[←hW];exact cD W1 _
 have L0:=(r1.below b2).body hb;have BI:Hid ((df 304 #[(0,ab ay 72),(1,ab aO 0),(2,ab ac i),(3,al (aw b).toArray)]).run aj W=.ok (al (Value.int ay 72:: ab aO 0:: ab ac i::aw b).toArray) W):=CN 72 0 i (aw b) (by rw[cw];exact hb) W;obtain⟨x,ST,ld,hbx⟩:=pf (w:=w) (x:=W) (B:=W1.heap.size) (u:=Value.int ay 72:: ab aO 0:: ab ac i::aw b) r2 nK b1.size (b1.trans (b2.mono b1.size)) (by simp[cw,hb]) (Sct.cells_one ⟨72,0,i,b⟩);have HL:=ae ld;have HX:=ae hbx;clear r1 b1 b2 r2 ld hbx;go_enter func214,ntmps214;go_wp2_with (first | ((with_reducible refine nA 304 ?_);refine nz _ _ rfl rfl [(0,ab ay 72),(1,ab aO 0),(2,ab ac i),(3,al (aw b).toArray)] _ rfl BI.out ?_));exact bo (ev rfl rfl HL.out) rfl ⟨rfl,HX.out⟩
theorem Df (p:Sct) (hp:p.Ok) (hf:p.fits=true) (w:ah):
  ap aj 213 #[al p.cells.toArray] w fun e w'=>e=ao (al (aw p.bytes).toArray)/\ag w.heap.size w w':=by
 obtain⟨W1,hW1⟩:=w9nm (w.alloc (an p.cells.toArray 304));have r1:aq W1 w.heap.size 304 p.cells:=by rw[←hW1];exact aq.new w _ _
 have b1:ag w.heap.size w W1:=by rw[←hW1];exact aH w _
 obtain⟨W,hW⟩:=w9nm (W1.alloc (an cF 51));have b2:ag W1.heap.size W1 W:=by rw[←hW];exact aH W1 _
 have r2:Hid (W.heap[W1.heap.size]? =some (an cF 51 (0,0))):=by show _=_;rw[←hW];exact cD W1 _
 have L0:=(r1.below b2).pg hp.len;have HB:w9h w W:=b1.trans (b2.mono b1.size);have HZ:Hid (W1.heap.size<W.heap.size):=by show _<_;rw[←hW];simp
 have HS1:=ae b1.size;have HP:=ae hp;have HC:Hid (p.code=aw p.bytes/\p.codeE=0):=by refine(?_:_/\_);unfold Sct.code Sct.codeE;rw[if_pos hf,if_pos hf];exact⟨rfl,rfl⟩
 clear r1 b1 b2 hp hf;go_enter func213,ntmps213;go_wp2_with fail;go_at_call 264;refine(sE p HP.out W).mono ?_;rintro e x1 ⟨rfl,hb⟩;rw[HC.out.1,HC.out.2];have hbk:cz (aw p.bytes):=gQ (Sct.bytes_length HP.out);obtain⟨x2,ST,hr,hb2⟩:=kE x1 hbk;have L2:=hr.blk hbk.length;have b3:w9b W x2:=hb.trans (hb2.mono hb.size);obtain⟨x3,st3,ld,hb3⟩:=vo (w:=w) (x:=x2) (B:=W1.heap.size) (u:=aw p.bytes) ((b3.block _ HZ.out).trans r2.out) gk HS1.out (HB.out.trans (b3.mono HB.out.size)) hbk;have HL:=ae ld;have HX:=ae hb3;clear hb hr hb2 b3 ld hb3 hW hW1 L0;go_wp2_with fail;exact bo (ev rfl rfl HL.out) rfl ⟨rfl,HX.out⟩
theorem wY (a:Option aF) (n c:Nat) (hn:n<=1000000) (w:ah):
  ap aj 144 #[af a n c] w fun e w'=>e=ao (ab ac ((n:Int)+1))/\w'=w:=by
 go_enter func144,ntmps144;go_wp2;go_ret;exact⟨rfl,rfl⟩
theorem iB.row {x:ah} {N:Nat} {v:ak} {ts:List (List Img)} {eS eI:aR} (h:iB eS eI x N v ts):∃a c,v=af a ts.length c/\∀(i:Nat) (t:List Img),ts[i]? =some t->∃g b d,a=some ⟨g,0,none⟩/\g<x.heap.size/\x.cell? ⟨g,i,none⟩=some (af b t.length d)/\x.ownsRow N eI 49 (af b t.length d) t.length (cL t).flatten:=by
 obtain⟨vs,h1,h2,h3⟩:=h;obtain⟨a,c,rfl,h4⟩:=ke h2;refine⟨a,c,by rw[h1],fun i t ht=> ?_⟩;have hi:i<ts.length:=(bZ.1 ht).1;obtain⟨g,rfl,h5,h6⟩:=h4 (by omega);obtain⟨u,hu⟩:∃u,vs[i]? =some u:=⟨_,aZ (by omega)⟩;have h7:=h3 i u t hu ht;obtain⟨b,d,rfl,_⟩:=ke h7;have h8:=h6 i _ hu;rw[dP]at h8;exact⟨g,b,d,rfl,h5,h8,h7⟩
theorem NI {ts:List (List Img)} {k:Nat} {t:List Img} (h:ts[k]? =some t):eP (ts.take (k+1))=eP (ts.take k)+(t.length+1):=by
 rw[jZ,h];exact MY _ _
theorem NJ (ts:List (List Img)) (k:Nat):eP (ts.take k)<=eP ts:=by
 conv=>rhs;rw[←lK k ts]
 unfold eP;rw[ec,List.sum_append];omega
theorem Dg:∀ts:List (List Img),ts.length<=eP ts
 | []=>bc _
 | t::ts=>by
  have:=Dg ts;unfold eP at this ⊢;rw[List.map_cons,List.sum_cons,bz];omega
theorem NK (v:ak) (ts:List (List Img)) (w:ah) {N:Nat} (h:iB 223 226 w N v ts) (hl:eP ts<=1000000):
  ap aj 160 #[v] w fun e w'=>e=ao (ab ac ((eP ts:Nat):Int))/\w'=w:=by
 obtain⟨a,c,rfl,h3⟩:=h.row;have H3:=ae h3;have HL:=ae hl;obtain⟨n,hn⟩:=w9nm ts.length;have HN:=ae hn;have hn6:n<=1000000:=by have:=Dg ts;omega
 rw[hn];clear h h3 hl hn;go_enter func160,ntmps160;go_wp2_with fail;go_loop [3,8] (fun s i=>∃k:Nat,k<=n/\i=ab ac (k:Int)/\s=ab ac (((eP (ts.take k):Nat)):Int)) (fun _ i=>n - (aS i).toNat)
 case atStart=>exact⟨0,bc _,rfl,rfl⟩
 case round=>
  obtain⟨k,hk,rfl,rfl⟩:=hrel;by_cases hlt:k<n
  ·have g3:decide ((k:Int)< (n:Int))=true:=by simpa using hlt
   obtain⟨t,ht⟩:∃t,ts[k]? =some t:=⟨_,aZ (by rw[HN.out];exact hlt)⟩;obtain⟨g,b,d,rfl,h5,c0,h7⟩:=H3.out k t ht;have hu:=NI ht;have hle:=bm (NJ ts (k+1)) HL.out;rw[hu]at hle;have HU:=ae hu;obtain⟨m,hm⟩:=w9nm (eP (ts.take k));obtain⟨q,hq⟩:=w9nm t.length;rw[hm,hq]at hle HU;rw[hq]at c0;rw[hm];have hb1:(m:Int)+(q:Int)<=1000000:=by omega
   have hq0:q<=1000000:=by omega
   clear h5 h7 ht hu hm hq;go_wp2_with fail;go_at_call 144;refine(wY b q d hq0 w).mono ?_;rintro e x ⟨rfl,hx⟩;obtain rfl:=hx.symm;clear hx;go_wp2_with fail;go_round
   case rel=>exact⟨k+1,hlt,by go_num,by rw[HU.out];simp⟩
   case measure=>simp[aS];omega
  ·have g3:decide ((k:Int)< (n:Int))=false:=by simpa using hlt
   obtain rfl:k=n:=by omega
   have e1:ts.take k=ts:=de (by rw[HN.out];exact aG _);rw[e1];go_wp2_with fail;go_ret;exact⟨rfl,rfl⟩
def fP (F n:Nat):cH:=(cI n).map fun i=>(F+i,bf 0)
theorem xb (F n:Nat):(fP F n).length=n:=by simp[fP]
theorem Dh {F n:Nat} (hF:F<=100000) (hn:n<=100000) (w:ah):
  ap aj 129 #[ab ac (F:Int),ab ac (n:Int)] w fun e w'=>∃v,e=ao v/\w'.ownsRow w.heap.size 207 65 v (bU (fP F n)).length (bU (fP F n)).flatten/\ag w.heap.size w w':=by
 go_enter func129,ntmps129;go_wp2_with fail;go_loopw [5,8] (fun l i wr=>∃k:Nat,k<=n/\i=ab ac (k:Int)/\Hid (wr.ownsRow w.heap.size 207 65 l (bU (fP F k)).length (bU (fP F k)).flatten)/\w9h w wr) (fun _ i _=>n - (aS i).toNat)
 case atStart=>exact⟨0,bc _,rfl,jc _ _ _ _,aI _ _⟩
 case round=>
  obtain⟨k,hk,rfl,HO,HB⟩:=hrel;by_cases hlt:k<n
  ·have g3:decide ((k:Int)< (n:Int))=true:=by simpa using hlt
   have hwr:(dW (F+k,bf 0)).length=65:=nb (by simp[bf]);have h1:∀v ∈ dW (F+k,bf 0),v.oneCell'=true:=qK (eV 0);have BI:Hid ((df 207 #[(0,ab ac ((F:Int)+(k:Int)))]).run aj wr=.ok (al (dW (F+k,bf 0)).toArray) wr):=by
    have:=Nb ((F:Int)+(k:Int)) wr;unfold dW;rw[Int.natCast_add];exact this
   obtain⟨x4,hx4⟩:=w9nm (wr.alloc (an (dW (F+k,bf 0)).toArray 207));have SB:Hid ((dh 199 1 #[(0,al (dW (F+k,bf 0)).toArray)]).run aj wr=.ok (af (some ⟨wr.heap.size,0,none⟩) 1 1) x4):=by show _=_;rw[←hx4];exact tt wr _ hwr
   have b4:ag wr.heap.size wr x4:=by rw[←hx4];exact aH wr _
   have B4:w9b w x4:=HB.out.trans (b4.mono HB.out.size);have O4:=jm HO.out b4;obtain⟨v6,x6,r6,o6,g6, -⟩:=CE w.heap.size x4 u5 (bU (fP F k)) (dW (F+k,bf 0)) wr.heap.size O4 hwr h1 (jg (t:= 207) (by rw[←hx4];exact cD wr _)) (by simp[bU,xb];omega) B4.size;have R6:=ae r6;have B6:w9h w x6:=B4.grown g6 B4.size (fun j e=>(O4.lt j e).1);have O6:Hid (x6.ownsRow w.heap.size 207 65 v6 (bU (fP F (k+1))).length (bU (fP F (k+1))).flatten):=by
    have e:bU (fP F (k+1))=bU (fP F k)++ [dW (F+k,bf 0)]:=by
     unfold bU fP;rw[MX,ec]
     rfl
    show World.ownsRow _ _ _ _ _ _ _;rw[e];exact o6
   obtain⟨bv,hbv⟩:=w9nm ((dW (F+k,bf 0)).toArray);rw[hbv]at BI SB;clear hwr h1 hx4 b4 B4 O4 r6 o6 g6 hbv;go_wp2_with (first | ((with_reducible refine nA 207 ?_);refine nz _ _ rfl rfl [(0,ab ac ((F:Int)+(k:Int)))] _ rfl BI.out ?_) | ((with_reducible refine iu ?_);refine dR _ _ _ rfl rfl [(0,al bv)] _ rfl SB.out ?_) | (at_builtin;refine wpList_append_run (.tmp 11) (.tmp 16) 199 rfl rfl _ _ _ rfl rfl R6.out ?_));go_roundw
   case rel=>exact⟨k+1,hlt,by go_num,O6,B6⟩
   case measure=>simp[aS];omega
  ·have g3:decide ((k:Int)< (n:Int))=false:=by simpa using hlt
   obtain rfl:k=n:=by omega
   go_wp2_with fail;go_ret;exact⟨_,rfl,HO.out,HB.out⟩
end
end
section
attribute [-simp] isAgg51 zeroValue51 isAgg205 zeroValue205 isAgg304 zeroValue304 isAgg226 zeroValue226 isAgg207 zeroValue207
attribute [-go_sem] aE aL cS
attribute [local go_sem] bC bD dz eK eL eM ew gH gI gJ
theorem NL (x:ah) {c:List ak} (hl:c.length=65) (h1:∀v ∈ c,v.oneCell'=true):∃y,(aL 207 ⟨x.heap.size,0,none⟩ (al c.toArray)).run aj (x.alloc (an gZ.toArray 207))=.ok () y/\aq y x.heap.size 207 c/\ag x.heap.size x y:=
 ⟨_,MZ tp hl h1,aq.new x _ c,aH x _⟩
theorem aq.wrB {x:ah} {B:Nat} {t:aR} {i:Nat} {b:List ak} (h:aq x B t (dW (i,b))) (hb:b.length=64):(aE 51 ⟨B,1,none⟩).run aj x=.ok (al b.toArray) x:=
 gl (oZ (a:= [ab ac (i:Int)]) (b:=b) h) hb
theorem xd {rb p0 p1:Nat} {S:RS} {w:ah} {f:Nat->Prop} (h:aU rb p0 p1 S w f) (hfu:S.fuse<=2000000) (hd:0<=S.done/\S.done<=950000) {m:Nat} (hf:S.Few m) (hm:m<=253) {l:cH} (hin:∀x ∈ l,x.1<S.n0) (hnd:(l.map (·.1)).Nodup) (hbk:∀x ∈ l,cz x.2) (hll:l.length<=1000) {v:ak} {N:Nat} (hv:w.ownsRow N 207 65 v (bU l).length (bU l).flatten) (hvf:∀g,v.ownBlock=some g->¬f g):
  ap aj 134 #[am (some ⟨rb,0,none⟩),v] w fun e w'=>e=ao (ab ac (S.st l).2)/\∃f',aU rb p0 p1 (S.st l).1 w' f'/\Turn f f' w w':=by
 obtain⟨T,hT⟩:∃T:Nat->RS×Bool,T=fun k=>S.wrs (l.take k):=⟨_,rfl⟩;have hT':∀k,T k=S.wrs (l.take k):=fun k=>by rw[hT]
 have HW:Hid (∀k,(T k).1.Fit/\(T k).1.Few 254/\(T k).1.n0=S.n0):=fun k=>by
  have h1:∀x ∈ l.take k,x.1<S.n0:=fun x hx=>hin x (jE hx);obtain⟨w1,w2,w3⟩:=RS.wrs_way (l.take k) S;have hll:(l.take k).length<=1000:=by rw[dj];omega
  rw[hT' k];exact⟨RS.fit (by omega) (by omega) (by omega),(RS.wrs_few hf (by omega) h1 (List.Nodup.sublist (List.Sublist.map _ (List.take_sublist k _)) hnd)).mono (by omega),(S.wrs_spec _ h1).1.n0⟩
 have HS:Hid (∀k i b,l[k]? =some (i,b)->(T k).2=true->T (k+1)=((T k).1.write 0 ((i:Nat):Int) b,decide ((T k).1.writeE 0 ((i:Nat):Int)=0))):=fun k i b hb ht=>by
  rw[hT']at ht;rw[hT',hT',jZ,hb];exact RS.wrs_last _ S _ _ ht
 have HF:Hid (∀k,(T k).2=false->(S.st l)=((T k).1,14)):=fun k hk=>by
  rw[hT']at hk ⊢;have e:=RS.wrs_stop (l.take k) (l.drop k) S hk;rw[lK]at e;unfold RS.st;rw[e,if_pos hk]
 have HE:Hid ((T l.length).2=true->(S.st l)=((T l.length).1.flush 0,(T l.length).1.flushE 0)):=fun hk=>by
  rw[hT',List.take_length]at hk ⊢;unfold RS.st;rw[if_neg (by rw[hk];simp)]
 have H0:Hid (aU rb p0 p1 (T 0).1 w f/\(T 0).2=true):=by
  refine(?_:_/\_);rw[hT'];exact⟨h,rfl⟩
 obtain⟨res,hres⟩:=w9nm (S.st l);rw[hres]at HF HE ⊢;have hwl:(bU l).length=l.length:=by simp[bU]
 rw[hwl]at hv;obtain⟨a,c,rfl,hrow⟩:=ke hv;obtain⟨n,hnn⟩:=w9nm l.length;rw[hnn]at HE hll hrow hvf ⊢;have HROW:=ae hrow;have HVF:=ae hvf;have HNN:=ae hnn;have HIN:=ae hin;have HBK:=ae hbk;clear h hT hT' hnd hfu hd hf hm hin hbk hres hnn hv hrow hvf hwl;go_enter func134,ntmps134;go_wp2_with fail;go_loopw [10] (fun i wr=>∃(k:Nat) (f':Nat->Prop),k<=n/\i=ab ac (k:Int)/\Hid ((T k).2=true)/\Hid (aU rb p0 p1 (T k).1 wr f')/\Hid (Turn f f' w wr)) (fun i _=>n - (aS i).toNat)
 case atStart=>exact⟨0,f,bc _,rfl,H0.out.2,H0.out.1,Turn.refl _ _⟩
 case round=>
  obtain⟨k,f1,hk,rfl,HK,HQ,HTU⟩:=hrel;by_cases hlt:k<n
  ·have g3:decide ((k:Int)< (n:Int))=true:=by simpa using hlt
   obtain⟨⟨i,b⟩,hb⟩:∃b,l[k]? =some b:=⟨_,aZ (by rw[HNN.out];exact hlt)⟩;have hbl:cz b:=HBK.out (i,b) (dp hb);have hb64:b.length=64:=hbl.length;have hi0:i<S.n0:=HIN.out (i,b) (dp hb);obtain⟨g,rfl,hgl,hg⟩:=HROW.out (by omega);have hgf:¬f g:=HVF.out g rfl;have hg':=ij hg (HTU.out.out g hgl hgf);have LD:(aE 207 ⟨g,0+k*65,none⟩).run aj wr=.ok (al (dW (i,b)).toArray) wr:=CC (qO (s:=65) (fun x hx=>by obtain⟨y,hy,rfl⟩:=cM.1 hx;exact nb (HBK.out y hy).length) hg' (by show(bU l)[k]? =_;unfold bU;rw[dY,hb];rfl)) (nb hb64);rw[dP]at LD;obtain⟨x2,ST2,hr2,hb2⟩:=NL wr (nb (x:=(i,b)) hb64) (qK hbl);have c0:x2.cell? ⟨wr.heap.size,0,none⟩=some (ab ac (i:Int)):=hr2.cell 0 _ rfl;have LB:=hr2.wrB hb64;have HSX:=HS.out k i b hb HK.out;obtain⟨T2,hT2⟩:=w9nm (T (k+1));rw[hT2]at HSX;have hway:=HW.out k;have HT2:Hid (Turn f f1 w x2):=HTU.out.trans (Turn.of_below hb2);have HT2':=ae hT2;have HWR:Hid (ap aj 63 #[am (some ⟨rb,0,none⟩),ab ac 0,ab ac (i:Int),al b.toArray] x2 fun e w'=>e=ao (ab ac ((T k).1.writeE 0 (i:Int)))/\∃f',aU rb p0 p1 T2.1 w' f'/\Turn f1 f' x2 w'):=by
    have:=(HQ.out.beside hb2).write hway.1 (hway.2.1.mono (by omega)) 0 (i:Int) hbl;rw[HSX];exact this
   have hE:(T k).1.writeE 0 (i:Int)=0\/(T k).1.writeE 0 (i:Int)=14:=by
    rcases((T k).1.write0 (by rw[hway.2.2];exact hi0) b).2 with⟨_,e,_⟩ | ⟨_,e,_⟩
    ·exact aA e
    ·exact aD e
   obtain⟨we,hwe⟩:=w9nm ((T k).1.writeE 0 (i:Int));rw[hwe]at HWR hE;have hsx2:T2.2=decide (we=0):=by rw[HSX,hwe]
   have HSX2:=ae hsx2;obtain⟨B,hB⟩:=w9nm wr.heap.size;rw[hB]at c0 LB ST2;obtain⟨bk,hbk⟩:=w9nm b.toArray;rw[hbk]at LB HWR;obtain⟨wc,hwc⟩:=w9nm ((dW (i,b)).toArray);rw[hwc]at LD ST2;clear hb hbl hb64 hg' hr2 HSX hway hb2 hT2 hwe hsx2 hgf hgl hg hwc hbk;go_wp2_with fail;clear LD ST2 c0 LB hB;go_at_call 63;refine HWR.out.mono ?_;rintro e x5 ⟨rfl,f5,g1,g2⟩;have Q5:=ae g1;have T5:=ae (HT2.out.trans g2);clear g1 g2 HWR HT2;by_cases h0:we=0
   ·subst h0;have HK2:Hid ((T (k+1)).2=true):=by show _=_;rw[HT2'.out,HSX2.out];rfl
    have Q6:Hid (aU rb p0 p1 (T (k+1)).1 x5 f5):=by show aU _ _ _ _ _ _;rw[HT2'.out];exact Q5.out
    go_wp2_with fail;go_roundw
    case rel=>exact⟨k+1,f5,hlt,by go_num,HK2,Q6,T5⟩
    case measure=>simp[aS];omega
   ·obtain rfl:we=14:=hE.resolve_left h0;have HR:Hid (res=(T2.1,14)):=by
     show _=_;rw[←HT2'.out];exact HF.out (k+1) (by rw[HT2'.out,HSX2.out];rfl)
    go_wp2_with fail;go_ret;rw[HR.out];exact⟨rfl,f5,Q5.out,T5.out⟩
  ·have g3:decide ((k:Int)< (n:Int))=false:=by simpa using hlt
   obtain rfl:k=n:=by omega
   have hway:=HW.out k;have HFL:=ae (HQ.out.flush hway.1 0);have HR:=ae (HE.out HK.out);clear hway;go_wp2_with fail;go_at_call 81;refine HFL.out.mono ?_;rintro e x5 ⟨rfl,f5,g1,g2⟩;have Q5:=ae g1;have T5:=ae (HTU.out.trans g2);clear g1 g2 HFL;go_wp2_with fail;go_ret;rw[HR.out];exact⟨rfl,f5,Q5.out,T5.out⟩
end
section
attribute [-simp] isAgg51 zeroValue51 isAgg205 zeroValue205 isAgg304 zeroValue304 isAgg226 zeroValue226 isAgg207 zeroValue207
attribute [-go_sem] aE aL cS
attribute [local go_sem] bC bD dz eK eL eM ew gH gI gJ Oper.semAt_some
def mK (now:List (List Int)) {m:Nat} (x:Fin m):Array ak:=#[ab ac (x.1:Int),al (aw (bE now x.1)).toArray]
structure PgsR (W:ah) (v:ak) (g:Nat) (now:List (List Int)):Prop where
 sl:∃a c,v=af a now.length c/\(0<now.length->a=some ⟨g,0,none⟩)
 lt:g<W.heap.size
 at_:W.rangeAt g 0 (now.map aw).flatten
 len:∀x ∈ now,x.length=48
 few:now.length<=1000
structure PgsB (W:ah) (Bs g:Nat) (now:List (List Int)):Prop where
 box:∃v,Boxed W Bs 109 v/\PgsR W v g now
 lt:Bs<W.heap.size
theorem PgsR.keep {W W':ah} {v:ak} {g:Nat} {now:List (List Int)} (h:PgsR W v g now) (hs:W.heap.size<=W'.heap.size) (hg:W'.heap[g]? =W.heap[g]?):PgsR W' v g now:=
 ⟨h.sl,bq h.lt hs,ij h.at_ hg,h.len,h.few⟩
theorem PgsR.below {W W':ah} {v:ak} {g:Nat} {now:List (List Int)} (h:PgsR W v g now) (hb:ag W.heap.size W W'):PgsR W' v g now:=h.keep hb.size (hb.block g h.lt)
theorem PgsB.below {W W':ah} {Bs g:Nat} {now:List (List Int)} (h:PgsB W Bs g now) (hb:ag W.heap.size W W'):PgsB W' Bs g now:=by
 obtain⟨⟨v,h1,h2⟩,h3⟩:=h;exact⟨⟨v,(hb.block Bs h3).trans h1,h2.below hb⟩,bq h3 hb.size⟩
theorem PgsR.page {W:ah} {v:ak} {g:Nat} {now:List (List Int)} (h:PgsR W v g now) {k:Nat} (hk:k<now.length):W.rangeAt g (k*48) (aw (bE now k))/\(bE now k).length=48:=by
 have hx:now[k]? =some (bE now k):=by unfold bE;rw[aZ hk];rfl
 refine⟨?_,h.len _ (dp hx)⟩;have:=qO (s:=48) (L:=now.map aw) (fun x hx=>by obtain⟨y,hy,rfl⟩:=cM.1 hx;rw[cw];exact h.len y hy) h.at_ (k:=k) (x:=aw (bE now k)) (by rw[dY,hx];rfl)
 rwa [dP]at this
theorem PgsR.load {W:ah} {v:ak} {g:Nat} {now:List (List Int)} (h:PgsR W v g now) {k:Nat} (hk:k<now.length):(aE 205 ⟨g,k*48,none⟩).run aj W=.ok (al (aw (bE now k)).toArray) W:=
 nJ (h.page hk).1 (by rw[cw];exact(h.page hk).2)
def lC (m:Nat) (p:Nat->Bool) (k:Nat):List (Fin m):=(iz m k).filter fun i=>p i.1
theorem Di (m:Nat) (p:Nat->Bool):lC m p m=fX m p:=by unfold lC fX;rw[qf]
theorem Dj {m:Nat} {p:Nat->Bool} {k:Nat} (hk:k<m) (h:p k=true):lC m p (k+1)=lC m p k++ [⟨k,hk⟩]:=by
 unfold lC;rw[mB m k hk,lG]
 congr 1
 simp[h]
theorem NM {m:Nat} {p:Nat->Bool} {k:Nat} (hk:k<m) (h:p k=false):lC m p (k+1)=lC m p k:=by
 unfold lC;rw[mB m k hk,lG];simp[h]
theorem Dk {m:Nat} {p:Nat->Bool} {k:Nat} (hk:k<=m):(lC m p k).length<=k:=by
 have:=List.length_filter_le (fun i:Fin m=>p i.1) (iz m k);rw[sk m k hk]at this;exact this
section
theorem NO (a:Option aF) (len cap:Nat) (w:ah):
  ap aj 132 #[af a len cap] w fun e w'=>e=ao (.func (.func 215) #[] #[am (some ⟨w.heap.size,0,none⟩)])/\w'=w.alloc (an #[af a len cap] 109):=by
 go_enter func132,ntmps132;go_wp2;go_ret;exact⟨rfl,rfl⟩
theorem Dl (a:Option aF) (len cap:Nat) (a':Option aF) (len' cap':Nat) (w:ah):
  ap aj 143 #[af a len cap,af a' len' cap'] w fun e w'=>e=ao (.func (.func 220) #[] #[am (some ⟨w.heap.size+1,0,none⟩),am (some ⟨w.heap.size,0,none⟩)])/\w'=(w.alloc (an #[af a len cap] 109)).alloc (an #[af a' len' cap'] 109):=by
 go_enter func143,ntmps143;go_wp2;go_ret;exact⟨rfl,rfl⟩
theorem NP (n:Nat) (hn:1<=n) (l Bs g m:Nat) (now:List (List Int)) (hm:now.length=m) (J Jx:List (Fin m)->ah->Prop)
  (hY:∀pre x W,J pre W->pre.length<m->YieldAt Fence.wide (n - 1) aj l (mK now x) W fun e W'=>
   (e=ao (.bool true)/\J (pre++ [x]) W'/\dG (fun k=>k=Bs\/k=g) W W')\/(e=ao (.bool false)/\Jx (pre++ [x]) W'))
  (hJb:∀pre W W',J pre W->ag W.heap.size W W'->J pre W')
  (W:ah) (hL:PgsB W Bs g now) (h0:J [] W):
  CallsIn Fence.wide n aj 215 #[.func (.yield l) #[] #[],am (some ⟨Bs,0,none⟩)] W fun e W'=>(∃v,e=ao v)/\
   ((∃ys,ys=fX m (fun _=>true)/\J ys W')\/(∃pre,True/\Jx pre W')):=by
 refine callsIn_of_wp func215 rfl trivial ?_ rfl;simp only[ntmps215,cJ,bz,cx,Nat.reduceAdd,Nat.reduceSub,cO,cP,cQ,cR,cy,cC];obtain⟨⟨v,hbx,hR⟩,hlt⟩:=hL;obtain⟨a,c,rfl,ha⟩:=hR.sl;have c0:=hbx.cell;have HM:=ae hm;have HRR:=ae hR;have hmx:m<=1000:=by rw[←hm];exact hR.few
 have HA:=ae ha;have HLT:=ae hlt;rw[hm]at c0;clear hbx hlt hm hR ha
 gi_wp2
 gi_loopw [7] (fun i wr=>∃k:Nat,k<=m/\i=ab ac k/\J (lC m (fun _=>true) k) wr/\Hid (dG (fun k=>k=Bs\/k=g) W wr)) (fun i _=>m - (aS i).toNat)
 case atStart=>exact⟨0,bc _,rfl,h0,dG.refl _ _⟩
 case round=>
  obtain⟨k,hk,rfl,hJs,HK⟩:=hrel;by_cases hlt:k<m
  ·have hkl:k<now.length:=by rw[HM.out];exact hlt
   obtain rfl:a=some ⟨g,0,none⟩:=HA.out (by omega);have hRr:=HRR.out.keep HK.out.1 (HK.out.2 g (aD rfl));have LD:=hRr.load hkl;have hpl:=(hRr.page hkl).2;obtain⟨y,ST,hr,hb⟩:=qP wr hpl;have LB:=hr.body hpl;obtain⟨fn,tmps,assign,body,hy,hRd⟩:=hY _ ⟨k,hlt⟩ y (hJb _ _ _ hJs hb) (by have:=Dk (m:=m) (p:=fun _=>true) hk;omega);unfold mK at hy
   dsimp only at hy
   have HKY:Hid (dG (fun k=>k=Bs\/k=g) W y):=jJ HK.out ⟨hb.size,fun j hj=>hb.block j (by
    have h1:=HRR.out.lt;have h2:=HK.out.1;rcases hj with rfl | rfl
    ·exact bq HLT.out h2
    ·omega)⟩
   obtain⟨pb,hpb⟩:=w9nm ((aw (bE now k)).toArray);rw[hpb]at LD ST LB hy;clear hpb hr hb hRr hpl
   gi_wp2
   refine hRd.mono ?_;rintro e W3 (⟨rfl,hJ3,hk3⟩ | ⟨rfl,hJx3⟩)
   ·have HK3:Hid (dG (fun k=>k=Bs\/k=g) W W3):=jJ HKY.out hk3;clear hk3
    gi_wp2
    go_roundw
    case rel=>exact⟨k+1,by omega,by simp,by rw[Dj hlt rfl];exact hJ3,HK3⟩
    case measure=>simp[aS];omega
   ·gi_wp2
    refine bo (results_none rfl _ _ _) rfl ?_;exact⟨⟨_,rfl⟩,aD ⟨_,trivial,hJx3⟩⟩
  ·obtain rfl:k=m:=by omega
   gi_wp2
   go_end0
   exact⟨⟨_,rfl⟩,aA ⟨_,rfl,by rw[←Di];exact hJs⟩⟩
theorem NQ (n:Nat) (hn:1<=n) (Bs g m:Nat) (now:List (List Int)) (hm:now.length=m) (w:ah) (hL:PgsB w Bs g now):
  SeqStopsK Fence.wide n aj 215 #[am (some ⟨Bs,0,none⟩)] (mK now (m:=m)) (dG fun k=>k=Bs\/k=g) (fun ys=>ys=fX m (fun _=>true)) (fun _=>True) m w:=fun l J Jx W hW hJ _ hY h0=>
 NP n hn l Bs g m now hm J Jx hY (fun pre W W' hj hb=>hJ pre W W' none hj (dS hb none) (fun r e=>by cases e)) W (hL.below hW) h0
def SD (Bn gn Bw gw:Nat) (k:Nat):Prop:=k=Bn\/k=gn\/k=Bw\/k=gw
theorem NR (n:Nat) (hn:1<=n) (l Bn gn Bw gw m:Nat) (was now:List (List Int)) (hm:now.length=m) (hw:was.length=m) (J Jx:List (Fin m)->ah->Prop)
  (hY:∀pre x W,J pre W->pre.length<m->YieldAt Fence.wide (n - 1) aj l (mK now x) W fun e W'=>
   (e=ao (.bool true)/\J (pre++ [x]) W'/\dG (SD Bn gn Bw gw) W W')\/(e=ao (.bool false)/\Jx (pre++ [x]) W'))
  (hJb:∀pre W W',J pre W->ag W.heap.size W W'->J pre W')
  (W:ah) (hL:PgsB W Bn gn now) (hL2:PgsB W Bw gw was) (h0:J [] W):
  CallsIn Fence.wide n aj 220 #[.func (.yield l) #[] #[],am (some ⟨Bn,0,none⟩),am (some ⟨Bw,0,none⟩)] W fun e W'=>(∃v,e=ao v)/\
   ((∃ys,ys=fX m (jT was now)/\J ys W')\/(∃pre,True/\Jx pre W')):=by
 refine callsIn_of_wp func220 rfl trivial ?_ rfl;simp only[ntmps220,cJ,bz,cx,Nat.reduceAdd,Nat.reduceSub,cO,cP,cQ,cR,cy,cC];obtain⟨⟨v,hbx,hR⟩,hlt⟩:=hL;obtain⟨⟨v2,hbx2,hR2⟩,hlt2⟩:=hL2;obtain⟨a,c,rfl,ha⟩:=hR.sl;obtain⟨a2,c2,rfl,ha2⟩:=hR2.sl;have c0:=hbx.cell;have C2:Hid (W.cell? ⟨Bw,0,none⟩=some (af a2 m c2)):=by show _=_;rw[←hw];exact hbx2.cell
 have HM:=ae hm;have HW:=ae hw;have HRR:=ae hR;have HRW:=ae hR2;have hmx:m<=1000:=by rw[←hm];exact hR.few
 have HA:=ae ha;have HA2:=ae ha2;have HLT:Hid (∀j,SD Bn gn Bw gw j->j<W.heap.size):=fun j hj=>by
  rcases hj with rfl | rfl | rfl | rfl
  ·exact hlt
  ·exact hR.lt
  ·exact hlt2
  ·exact hR2.lt
 have hmo:aj.follows .mixedOrders=true:=by kernel_rfl
 rw[hm]at c0;clear hbx hlt hm hR ha hbx2 hR2 hlt2 hw ha2
 gi_wp2
 gi_loopw [8] (fun i wr=>∃k:Nat,k<=m/\i=ab ac k/\J (lC m (jT was now) k) wr/\Hid (dG (SD Bn gn Bw gw) W wr)) (fun i _=>m - (aS i).toNat)
 case atStart=>exact⟨0,bc _,rfl,h0,dG.refl _ _⟩
 case round=>
  obtain⟨k,hk,rfl,hJs,HK⟩:=hrel;by_cases hlt:k<m
  ·have hkl:k<now.length:=by rw[HM.out];exact hlt
   have hkw:k<was.length:=by rw[HW.out];exact hlt
   obtain rfl:a=some ⟨gn,0,none⟩:=HA.out (by omega);obtain rfl:a2=some ⟨gw,0,none⟩:=HA2.out (by omega);have hRr:=HRR.out.keep HK.out.1 (HK.out.2 gn (aD (aA rfl)));have LD:=hRr.load hkl;have hpl:=(hRr.page hkl).2;obtain⟨y,ST,hr,hb⟩:=qP wr hpl;have HKY:Hid (dG (SD Bn gn Bw gw) W y):=jJ HK.out ⟨hb.size,fun j hj=>hb.block j (bq (HLT.out j hj) HK.out.1)⟩;have hRw:=HRW.out.keep HKY.out.1 (HKY.out.2 gw (aD (aD (aD rfl))));have hpw:=(hRw.page hkw).2;have LBz:∀z:aM y,(aE 205 ⟨wr.heap.size,0,none⟩).run aj z.1=.ok (al (aw (bE now k)).toArray) z.1:=fun z=>(hr.below z.2).body hpl;have LWz:∀z:aM y,(aE 205 ⟨gw,k*48,none⟩).run aj z.1=.ok (al (aw (bE was k)).toArray) z.1:=fun z=>(hRw.below z.2).load hkw;have c2z:∀z:aM y,z.1.cell? ⟨Bw,0,none⟩=some (af (some ⟨gw,0,none⟩) m c2):=fun z=>
    ((z.2.cell (p:=⟨Bw,0,none⟩) (bq (HLT.out Bw (aD (aD (aA rfl)))) HKY.out.1)).trans (HKY.out.cell (p:=⟨Bw,0,none⟩) (aD (aD (aA rfl))))).trans C2.out
   have EQ:∀z:ah,(jG 10000 205 (al (aw (bE now k)).toArray) (al (aw (bE was k)).toArray)).run aj z=.ok (jh (aw (bE now k)) (aw (bE was k))) z:=fun z=>IE hpl hpw z;have hJy:=hJb _ _ _ hJs hb;have hdf:jT was now k= !jh (aw (bE now k)) (aw (bE was k)):=by
    have e1:now[k]? =some (bE now k):=by unfold bE;rw[aZ hkl];rfl
    have e2:was[k]? =some (bE was k):=by unfold bE;rw[aZ hkw];rfl
    unfold jT;rw[e1,e2];by_cases h:bE now k=bE was k
    ·rw[h,FZ];simp
    ·rw[yh (fun e=>h (zG e))];simpa using h
   obtain⟨B,hB⟩:=w9nm wr.heap.size;rw[hB]at ST LBz;obtain⟨b,hbb⟩:=w9nm (jh (aw (bE now k)) (aw (bE was k)));rw[hbb]at EQ hdf;have HPB:Hid ((aw (bE now k)).toArray=(aw (bE now k)).toArray):=rfl;obtain⟨pb,hpb⟩:=w9nm ((aw (bE now k)).toArray);obtain⟨qb,hqb⟩:=w9nm ((aw (bE was k)).toArray);rw[hpb]at LD ST LBz EQ;rw[hqb]at LWz EQ;have HPB:=ae hpb;clear hr hb hRr hpl hRw hpw hbb hpb hqb hJs;cases b with
   | true=>
    have HDF:Hid (jT was now k=false):=hdf;have hJd:=hJb _ _ y.drew hJy ((aI _ y).drew);have HKD:Hid (dG (SD Bn gn Bw gw) W y.drew):=jJ HKY.out ⟨aG _,fun _ _=>rfl⟩;clear hdf
    gi_wp2_with fail
    refine Aw (fun x=>∃z:aM y,x=z.1) 10 [0,1,2,3,4,5,6,7,8,9] hmo (by kernel_rfl) (by kernel_rfl) ⟨⟨y.drew,(aI _ y).drew⟩,rfl⟩ ?_;repeat(rw[Av];simp only[aB,aC];go_big_quiet_step (fail);refine aV ?_)
    rw[Au];simp only[bR,bQ];clear LBz LWz c2z EQ LD ST
    gi_wp2_with fail
    refine⟨fun _ h=>(by cases h), ?_⟩
    gi_wp2_with fail
    go_roundw
    case rel=>exact⟨k+1,by omega,by simp,by rw[NM hlt HDF.out];exact hJd,HKD⟩
    case measure=>simp[aS];omega
   | false=>
    have HDF:Hid (jT was now k=true):=hdf;have hJd:=hJb _ _ y.drew hJy ((aI _ y).drew);have HKD:Hid (dG (SD Bn gn Bw gw) W y.drew):=jJ HKY.out ⟨aG _,fun _ _=>rfl⟩;obtain⟨fn,tmps,assign,body,hy,hRd⟩:=hY _ ⟨k,hlt⟩ y.drew hJd (by have:=Dk (m:=m) (p:=jT was now) hk;omega);unfold mK at hy
    dsimp only at hy
    rw[HPB.out]at hy;clear hdf
    gi_wp2_with fail
    refine Aw (fun x=>∃z:aM y,x=z.1) 10 [0,1,2,3,4,5,6,7,8,9] hmo (by kernel_rfl) (by kernel_rfl) ⟨⟨y.drew,(aI _ y).drew⟩,rfl⟩ ?_;repeat(rw[Av];simp only[aB,aC];go_big_quiet_step (fail);refine aV ?_)
    rw[Au];simp only[bR,bQ];clear LBz LWz c2z EQ LD ST
    gi_wp2_with fail
    refine hRd.mono ?_;rintro e W3 (⟨rfl,hJ3,hk3⟩ | ⟨rfl,hJx3⟩)
    ·have HK3:Hid (dG (SD Bn gn Bw gw) W W3):=jJ HKD.out hk3;clear hk3
     gi_wp2_with fail
     go_roundw
     case rel=>exact⟨k+1,by omega,by simp,by rw[Dj hlt HDF.out];exact hJ3,HK3⟩
     case measure=>simp[aS];omega
    ·gi_wp2_with fail
     refine bo (results_none rfl _ _ _) rfl ?_;exact⟨⟨_,rfl⟩,aD ⟨_,trivial,hJx3⟩⟩
  ·obtain rfl:k=m:=by omega
   gi_wp2
   go_end0
   exact⟨⟨_,rfl⟩,aA ⟨_,rfl,by rw[←Di];exact hJs⟩⟩
theorem Dm (n:Nat) (hn:1<=n) (Bn gn Bw gw m:Nat) (was now:List (List Int)) (hm:now.length=m) (hw:was.length=m) (w:ah) (hL:PgsB w Bn gn now) (hL2:PgsB w Bw gw was):
  SeqStopsK Fence.wide n aj 220 #[am (some ⟨Bn,0,none⟩),am (some ⟨Bw,0,none⟩)] (mK now (m:=m)) (dG (SD Bn gn Bw gw)) (fun ys=>ys=fX m (jT was now)) (fun _=>True) m w:=fun l J Jx W hW hJ _ hY h0=>
 NR n hn l Bn gn Bw gw m was now hm hw J Jx hY (fun pre W W' hj hb=>hJ pre W W' none hj (dS hb none) (fun r e=>by cases e)) W (hL.below hW) (hL2.below hW) h0
end
end
section
def cB (gen:Int) (g:Geo) (a q:Int):List ak:= [ab aO gen,ab ac g.b,ab ac g.s,ab ac g.y,ab ac g.a,ab ac g.r,ab ac a,ab aO q]
def fR:List ak:=cB 0 ⟨0,0,0,0,0⟩ 0 0
theorem jU (gen:Int) (g:Geo) (a q:Int):∀v ∈ cB gen g a q,v.oneCell'=true:=by
 intro v hv;simp only[cB,dy,lM,or_false]at hv;rcases hv with rfl | rfl | rfl | rfl | rfl | rfl | rfl | rfl<;>rfl
structure SupIn (gen:Int) (g:Geo) (a q:Int):Prop where
 gen:dx gen
 b:0<=g.b/\g.b<65536
 s:0<=g.s/\g.s<256
 y:0<=g.y/\g.y<256
 a':0<=g.a/\g.a<65536
 r:0<=g.r/\g.r<65536
 at0:0<=a/\a<65536
 seq:dx q
section
theorem tB:(aj.info? 198).map (·.size)=some 8:=by kernel_rfl
theorem iC (w:ah):(zeroValue 198).run aj w=.ok (al fR.toArray) w:=by kernel_rfl
set_option maxRecDepth 100000 in
theorem mL {w:ah} {b o:Nat} {c:List ak} (hc:w.rangeAt b o c) (h:c.length=8):(aE 198 ⟨b,o,none⟩).run aj w=.ok (al c.toArray) w:=
 jF w b o _ c _ hc Tryz.underlying198 rfl (by rw[h];exact tB)
theorem Dn {w:ah} {b o:Nat} {c:List ak} (ht:w.there b o 8) (h:c.length=8) (h1:∀v ∈ c,v.oneCell'=true):(aL 198 ⟨b,o,none⟩ (al c.toArray)).run aj w=.ok () (w.setCells b o c):=by
 have:=run_storeVar_mid (P:=aj) w b o 198 c.toArray (by simpa [h]using ht) (by simpa [h]using tB) (ky h1)
 simpa using this
theorem Do {w:ah} {c:Array ak} {c':List ak} (h:c.size=8) (h':c'.length=8) (h1:∀v ∈ c',v.oneCell'=true):(aL 198 ⟨w.heap.size,0,none⟩ (al c'.toArray)).run aj (w.alloc (an c 198))=.ok () (w.alloc (an c'.toArray 198)):=
 kQ w _ c c'.toArray (by simpa [h']using tB) (by simpa [h']using h) (ky h1)
theorem NS:(aj.info? 23).map (·.size)=some 5:=by kernel_rfl
set_option maxRecDepth 100000 in
theorem Dp {w:ah} {b o:Nat} {g:Geo} (hc:w.rangeAt b o [ab ac g.b,ab ac g.s,ab ac g.y,ab ac g.a,ab ac g.r]):(aE 23 ⟨b,o,none⟩).run aj w=.ok (al g.v) w:=
 jF w b o _ _ _ hc Tryz.underlying23 rfl (by exact NS)
theorem xe (a q:Int) (w:ah):(df 196 #[(0,ab ac a),(1,ab aO q)]).run aj w=.ok (al #[ab ac a,ab aO q]) w:=by kernel_rfl
theorem Dq (n:Int) (g:Geo) (a q:Int) (w:ah):(df 198 #[(0,ab aO n),(1,al g.v),(2,al #[ab ac a,ab aO q])]).run aj w=.ok (al (cB n g a q).toArray) w:=by kernel_rfl
theorem iD (m s:Int) (w:ah):(df 304 #[(0,ab ay m),(1,ab aO s)]).run aj w=.ok (al (Value.int ay m:: ab aO s:: ab ac 0::aw (bg 48 0)).toArray) w:=by kernel_rfl
end
theorem aq.sup {x:ah} {B:Nat} {t:aR} {gen:Int} {g:Geo} {a q:Int} (h:aq x B t (cB gen g a q)):(aE 198 ⟨B,0,none⟩).run aj x=.ok (al (cB gen g a q).toArray) x:=mL h.range rfl
theorem aq.supG {x:ah} {B:Nat} {t:aR} {gen:Int} {g:Geo} {a q:Int} (h:aq x B t (cB gen g a q)):(aE 23 ⟨B,1,none⟩).run aj x=.ok (al g.v) x:=
 Dp fun j v hj=>h.cell (1+j) v (by
  match j,hj with
  | 0,hj=>exact hj
  | 1,hj=>exact hj
  | 2,hj=>exact hj
  | 3,hj=>exact hj
  | 4,hj=>exact hj
  | j+5,hj=>simp at hj)
def jA (g:Geo) (a q:Int):List Int:= [82,86,84,49]++(aJ g.b 2++(aJ g.s 1++(aJ g.y 1++(aJ g.a 2++(aJ g.r 2++(aJ a 2++aJ q 4))))))
theorem xf (g:Geo) (a q:Int):(jA g a q).length=18:=by simp[jA,cu]
def eB (gen:Int) (g:Geo) (a q:Int):Sct:=⟨83,gen,0,jA g a q++bg 30 0⟩
theorem xh (gen:Int) (g:Geo) (a:Nat) (q:Int):eB gen g (a:Int) q=gG gen g a q:=by
 unfold eB gG ik jA;simp
theorem tC (gen:Int) (g:Geo) (a q:Int):(eB gen g a q).body.length=48:=by simp[eB,xf]
theorem NT {x:ah} {P:Nat} {v:ak} {gen:Int} {g:Geo} {a q:Int} (hP:aq x P 304 (Value.int ay 83:: ab aO gen:: ab ac 0::aw (bg 48 0))) (hv:Sl ay x v (jA g a q)):
  (Builtin.copy_ #[76, 76] 3 #[af (some ⟨P,3,none⟩) 48 48,v]).run aj x=.ok (goInt 18) (x.setCells P 3 (aw (jA g a q)))/\
  (aE 304 ⟨P,0,none⟩).run aj (x.setCells P 3 (aw (jA g a q)))=.ok (al (eB gen g a q).cells.toArray) (x.setCells P 3 (aw (jA g a q))):=by
 have ht:x.there P 3 48:=kD hP 3 48 (by simp[aw]);have hl:=xf g a q;have h18:x.there P 3 18:=fun j hj=>ht j (by omega);have rc:=qe (B:=P) (o:=3) (dLen:=48) (dCap:=48) 3 hv (by omega) (by rw[hl];exact h18);rw[hl]at rc;refine⟨rc,pd ?_ (Sct.cells_length (tC gen g a q))⟩;have e:(eB gen g a q).cells= [ab ay 83,ab aO gen,ab ac 0]++(aw (jA g a q)++aw (bg 30 0)):=by simp[Sct.cells,eB,aw]
 rw[e];have hr:x.rangeAt P 0 (Value.int ay 83:: ab aO gen:: ab ac 0::aw (bg 48 0)):=hP.range;refine sj (ml (fun j u hj=> ?_) _ 3 _ (aD (aA (by simp)))) (fun j u hj=> ?_)
 ·refine hr j u ?_
  match j,hj with
  | 0,hj=>exact hj
  | 1,hj=>exact hj
  | 2,hj=>exact hj
  | j+3,hj=>simp at hj
 ·by_cases hj2:j<18
  ·rw[fS (by rw[cw,hl];exact hj2)]at hj;exact kz x P 3 _ (by rw[cw,hl];exact h18) j u hj
  ·rw[fv (by rw[cw,hl];omega),cw,hl]at hj;have hz:x.rangeAt P 21 (aw (bg 30 0)):=fun i z hi=>by
    have h30:i<30:=by have:=(bZ.1 hi).1;simpa [aw]using this
    have:=hr (21+i) z (by
     rw[show 21+i=18+i+1+1+1 by omega,List.getElem?_cons_succ,List.getElem?_cons_succ,List.getElem?_cons_succ,←hi];unfold aw;rw[dY,dY,kO,kO,if_pos (by omega),if_pos h30])
    rwa [dP]at this
   have:=ml hz P 3 (aw (jA g a q)) (aD (aD (by rw[cw,hl];omega))) (j - 18) u hj
   rwa [show 21+(j - 18)= [Value.int ay 83,ab aO gen,ab ac 0].length+j by simp;omega]at this
def eo (w:ah) (L:List (ak×List Int)):Prop:=∀p ∈ L,Sl ay w p.1 p.2
theorem eo.nil (w:ah):eo w []:=fun p h=>by cases h
theorem eo.put {w w':ah} {L:List (ak×List Int)} (h:eo w L) (hb:ag w.heap.size w w') {v:ak} {bs:List Int} (hv:Sl ay w' v bs):eo w' ((v,bs)::L):=fun p hp=>by
 rcases dy.1 hp with rfl | hp
 ·exact hv
 ·exact(h p hp).below hb
theorem eo.below {w w':ah} {L:List (ak×List Int)} (h:eo w L) (hb:ag w.heap.size w w'):eo w' L:=fun p hp=>(h p hp).below hb
theorem jV {P:Program} {l:List Oper} {Q:Exit->Act->ah->Prop} {S:ah->Prop} {n i j:Nat} {p q:Plan} {a:Act} {w:ah}:em P l Q S n (.two i j p q) a w=(wpList P l.toArray (it S Q (em P l Q S n p)) [dL l i] a w/\wpList P l.toArray (it S Q (em P l Q S n q)) [dL l j] a w):=rfl
theorem oh {x:ah} (n:Int) (k:Nat) (h1:1<=k) (h2:k<=16) (h0:0<=n) (h3:n<18446744073709551616):ap aj 174 #[ab .u64 n,ab ac (k:Int)] x fun e w'=>∃a c,e=ao (af a k c)/\Sl ay w' (af a k c) (aJ n k)/\ag x.heap.size x w':=by
 refine(nI n k x h1 h2 h0 h3).mono ?_;rintro e w' ⟨v,rfl,hrow,hb⟩;have hs:=Sl.of_owns (bs:=aJ n k) (by rw[cu];exact hrow);obtain⟨a,c,hv, -⟩:=id hs;rw[cu]at hv;subst hv;exact⟨a,c,rfl,hs,hb⟩
set_option maxRecDepth 100000 in
theorem nc (w:ah) (L:Nat) (C:Array ak) (n c:Nat) (h:w.heap[L]? =some (an C 5 (0,0))):
  ∃w',(convert 76 76 (af (some ⟨L,0,none⟩) n c)).run aj w=.ok (af (some ⟨L,0,none⟩) n c) w'/\ag L w w'/\w'.heap.size=w.heap.size/\∀p,w'.cell? p=w.cell? p:=by
 have hsh:w.shape? L=some (5,C.size):=by unfold World.shape?;rw[h]
 have hlt:L<w.heap.size:=(bL.1 h).1;have hoth:∀k,k≠L->(w.freeze ⟨L,C.size,none⟩ 1).heap[k]? =w.heap[k]? :=fun k hk=>by
  unfold World.freeze;rw[if_neg (by decide)];show(w.heap.modify L _)[k]? =_;rw[Array.getElem?_modify,if_neg (fun e=>hk e.symm)]
 have hat:∃r,(w.freeze ⟨L,C.size,none⟩ 1).heap[L]? =some (an C 5 r):=by
  unfold World.freeze;rw[if_neg (by decide)];show∃r,(w.heap.modify L _)[L]? =_;rw[Array.getElem?_modify,if_pos rfl,h];exact⟨_,rfl⟩
 have hsz:(w.freeze ⟨L,C.size,none⟩ 1).heap.size=w.heap.size:=by
  unfold World.freeze;rw[if_neg (by decide)];exact Array.size_modify
 refine⟨w.freeze ⟨L,C.size,none⟩ 1, ?_,⟨rfl,rfl,rfl,by rw[hsz];exact aG _,fun k hk=>hoth k (by omega)⟩,hsz,fun p=> ?_⟩
 ·simp[convert,run_underlying Tryz.underlying76,run_underlying Tryz.underlying5,markStringish,hsh]
 ·by_cases hp:p.block=L
  ·obtain⟨r,hr⟩:=hat;unfold World.cell?;rw[hp,hr,h]
  ·exact gj (hoth _ hp)
theorem Sl.cells {w w':ah} {v:ak} {bs:List Int} (h:Sl ay w v bs) (hs:w'.heap.size=w.heap.size) (hc:∀p,w'.cell? p=w.cell? p):Sl ay w' v bs:=by
 obtain⟨a,cap,e,h1,h2,h3,hn⟩:=h;refine⟨a,cap,e,h1,h2, ?_,hn⟩;rcases h3 with h3 | ⟨b,off,e,h3,h4⟩
 ·exact aA h3
 ·exact aD ⟨b,off,e,by rw[hs];exact h3,fun j hj=>(hc _).trans (h4 j hj)⟩
theorem eo.cells {w w':ah} {L:List (ak×List Int)} (h:eo w L) (hs:w'.heap.size=w.heap.size) (hc:∀p,w'.cell? p=w.cell? p):eo w' L:=fun p hp=>(h p hp).cells hs hc
theorem fZ {ι:Type} {P:Program} {l:List Oper} {Q:Exit->Act->ah->Prop} {S:ah->Prop} {n:Nat} {p0:Plan} {a0:Act} {x0:ah} (p1:Plan) (F:ι->Act) (C:ι->ah->Prop) (h1:∀i x,C i x->em P l Q S n p1 (F i) x)
  (h0:(∀i x,C i x->em P l Q S n p1 (F i) x)->em P l Q S n p0 a0 x0):em P l Q S n p0 a0 x0:=h0 h1
end
section
attribute [-simp] isAgg51 zeroValue51 isAgg205 zeroValue205 isAgg304 zeroValue304 isAgg226 zeroValue226 isAgg207 zeroValue207 isAgg198 zeroValue198
attribute [-go_sem] aE aL cS
attribute [local go_sem] bC bD dz eK eL eM iD ew gH iC gI gJ
theorem nd (w:ah):(dh 76 4 #[(0,ab ay 82),(1,ab ay 86),(2,ab ay 84),(3,ab ay 49)]).run aj w=.ok (af (some ⟨w.heap.size,0,none⟩) 4 4) (w.alloc (an (aw [82,86,84,49]).toArray 5)):=by
 kernel_rfl
theorem NU (w:ah) (a b c d e f g h:Option aF) (la lb lc ld le lf lg lh ca cb cc cd ce cf cg ch:Nat):
  (dh 332 8 #[(0,af a la ca),(1,af b lb cb),(2,af c lc cc),(3,af d ld cd),(4,af e le ce),(5,af f lf cf),(6,af g lg cg),(7,af h lh ch)]).run aj w=.ok (af (some ⟨w.heap.size,0,none⟩) 8 8) (w.alloc (an #[af a la ca,af b lb cb,af c lc cc,af d ld cd,af e le ce,af f lf cf,af g lg cg,af h lh ch] 76)):=by
 kernel_rfl
theorem SupIn.of {gen:Int} {g:Geo} {a q:Int} (h:SupIn gen g a q):0<=g.b/\g.b<65536/\0<=g.s/\g.s<256/\0<=g.y/\g.y<256/\0<=g.a/\g.a<65536/\0<=g.r/\g.r<65536/\0<=a/\a<65536/\0<=q/\q<4294967296:=
 ⟨h.b.1,h.b.2,h.s.1,h.s.2,h.y.1,h.y.2,h.a'.1,h.a'.2,h.r.1,h.r.2,h.at0.1,h.at0.2,h.seq.1,h.seq.2⟩
theorem NV (x:ah) (gen:Int):∃y,(aL 304 ⟨x.heap.size,0,none⟩ (al (Value.int ay 83:: ab aO gen:: ab ac 0::aw (bg 48 0)).toArray)).run aj (x.alloc (an dF.toArray 304))=.ok () y/\aq y x.heap.size 304 (Value.int ay 83:: ab aO gen:: ab ac 0::aw (bg 48 0))/\ag x.heap.size x y:=
 ⟨_,sw nK (by simp[aw]) (Sct.cells_one ⟨83,gen,0,bg 48 0⟩),aq.new x _ _,aH x _⟩
def tD:Plan:=.one 39 (.one 40 .leaf)
def tE:Plan:=.one 38 tD
def tF:Plan:=.one 33 tE
def tG:Plan:=.one 28 tF
def tH:Plan:=.one 23 tG
def tI:Plan:=.one 18 tH
def tJ:Plan:=.one 13 tI
def xi:Plan:=.one 8 tJ
def tK:Plan:=.one 3 tD
def tL:Plan:=.two 3 38 tE tK
def tM:Plan:=.two 3 33 tF tL
def tN:Plan:=.two 3 28 tG tM
def tO:Plan:=.two 3 23 tH tN
def tQ:Plan:=.two 3 18 tI tO
def tR:Plan:=.two 3 13 tJ tQ
def xj:Plan:=.two 3 8 xi tR
def xk:Plan:=.one 2 tK
def xl:Plan:=.two 2 38 tL xk
def xm:Plan:=.two 2 33 tM xl
def xo:Plan:=.two 2 28 tN xm
def xp:Plan:=.two 2 23 tO xo
def xq:Plan:=.two 2 18 tQ xp
def xr:Plan:=.two 2 13 tR xq
def Dr:Plan:=.two 2 8 xj xr
def cY (gen:Int) (g:Geo) (a q:Int) (B0 B1 B2:Nat) (t9 t10 v1 v2 v3 v4 v5 v6 v7:ak):Act:={tmps:=#[al (cB gen g a q).toArray,am (some ⟨B0,0,none⟩),am (some ⟨B1,0,none⟩),am (some ⟨B2,0,none⟩),am (some ⟨B0,0,none⟩),ab aO gen,al ((dF.set 0 (ab ay 83)).set 1 (ab aO gen)).toArray,am (some ⟨B2,3,none⟩),af (some ⟨B2,3,none⟩) 48 48,t9,t10,am (some ⟨B0,1,none⟩),am (some ⟨B0,1,none⟩),ab ac g.b,ab .u64 g.b,v1,am (some ⟨B0,1,none⟩),am (some ⟨B0,2,none⟩),ab ac g.s,ab .u64 g.s,v2,am (some ⟨B0,1,none⟩),am (some ⟨B0,3,none⟩),ab ac g.y,ab .u64 g.y,v3,am (some ⟨B0,1,none⟩),am (some ⟨B0,4,none⟩),ab ac g.a,ab .u64 g.a,v4,am (some ⟨B0,1,none⟩),am (some ⟨B0,5,none⟩),ab ac g.r,ab .u64 g.r,v5,am (some ⟨B0,6,none⟩),am (some ⟨B0,6,none⟩),ab ac a,ab .u64 a,v6,am (some ⟨B0,6,none⟩),am (some ⟨B0,7,none⟩),ab aO q,ab .u64 q,v7,az,az,az,az],defers:= []}
theorem Ds {gen:Int} {g:Geo} {a q:Int} (hI:SupIn gen g a q) (w:ah):
  ap aj 216 #[al (cB gen g a q).toArray] w fun e w'=>e=ao (al (eB gen g a q).cells.toArray)/\ag w.heap.size w w':=by
 obtain⟨W1,hW1⟩:=w9nm (w.alloc (an (cB gen g a q).toArray 198));have r1:aq W1 w.heap.size 198 (cB gen g a q):=by rw[←hW1];exact aq.new w _ _
 have b1:ag w.heap.size w W1:=by rw[←hW1];exact aH w _
 obtain⟨W2,hW2⟩:=w9nm (W1.alloc (an dF.toArray 304));have b2:ag W1.heap.size W1 W2:=by rw[←hW2];exact aH W1 _
 have r2:aq W2 W1.heap.size 304 dF:=by rw[←hW2];exact aq.new W1 _ _
 obtain⟨W,ST,r3,b3⟩:=NV W2 gen;have rS:=(r1.below b2);have c0:W2.cell? ⟨w.heap.size,0,none⟩=some (ab aO gen):=rS.cell 0 _ rfl;have hb12:=b1.trans (b2.mono b1.size);have HB0:w9h w W:=hb12.trans (b3.mono hb12.size);have rS3:=rS.below b3;obtain⟨B0,hB0⟩:=w9nm w.heap.size;obtain⟨B1,hB1⟩:=w9nm W1.heap.size;obtain⟨B2,hB2⟩:=w9nm W2.heap.size;have r23:=r2.below b3;rw[hB1]at r23;rw[hB2]at ST r3;have ST:(aL 304 ⟨B2,0,none⟩ (al ((dF.set 0 (ab ay 83)).set 1 (ab aO gen)).toArray)).run aj (W2.alloc (an dF.toArray 304))=.ok () W:=ST;rw[hB0]at c0 rS3;have R1:=ae r23;have R3:=ae r3;have h01:w.heap.size<=B1:=by rw[←hB1];exact b1.size
 have h12:w.heap.size<=B2:=by rw[←hB2];exact hb12.size
 have H1:=ae h01;have HNE:Hid (B1≠B2):=by show _≠_;have:=r2.lt;omega
 have H2:=ae h12;have d1:∀z:aM W,z.1.cell? ⟨B0,1,none⟩=some (ab ac g.b):=fun z=>(rS3.below z.2).cell 1 _ rfl;have d2:∀z:aM W,z.1.cell? ⟨B0,2,none⟩=some (ab ac g.s):=fun z=>(rS3.below z.2).cell 2 _ rfl;have d3:∀z:aM W,z.1.cell? ⟨B0,3,none⟩=some (ab ac g.y):=fun z=>(rS3.below z.2).cell 3 _ rfl;have d4:∀z:aM W,z.1.cell? ⟨B0,4,none⟩=some (ab ac g.a):=fun z=>(rS3.below z.2).cell 4 _ rfl;have d5:∀z:aM W,z.1.cell? ⟨B0,5,none⟩=some (ab ac g.r):=fun z=>(rS3.below z.2).cell 5 _ rfl;have d6:∀z:aM W,z.1.cell? ⟨B0,6,none⟩=some (ab ac a):=fun z=>(rS3.below z.2).cell 6 _ rfl;have d7:∀z:aM W,z.1.cell? ⟨B0,7,none⟩=some (ab aO q):=fun z=>(rS3.below z.2).cell 7 _ rfl;obtain⟨i1,i2,i3,i4,i5,i6,i7,i8,i9,i10,i11,i12,i13,i14⟩:=hI.of;have HP1:Hid (∀x:ah,ap aj 174 #[ab .u64 g.b,ab ac 2] x fun e w'=>∃ad c,e=ao (af ad 2 c)/\Sl ay w' (af ad 2 c) (aJ g.b 2)/\ag x.heap.size x w'):=fun x=>oh (x:=x) g.b 2 (by omega) (by omega) (by omega) (by omega);have HP2:Hid (∀x:ah,ap aj 174 #[ab .u64 g.s,ab ac 1] x fun e w'=>∃ad c,e=ao (af ad 1 c)/\Sl ay w' (af ad 1 c) (aJ g.s 1)/\ag x.heap.size x w'):=fun x=>oh (x:=x) g.s 1 (by omega) (by omega) (by omega) (by omega);have HP3:Hid (∀x:ah,ap aj 174 #[ab .u64 g.y,ab ac 1] x fun e w'=>∃ad c,e=ao (af ad 1 c)/\Sl ay w' (af ad 1 c) (aJ g.y 1)/\ag x.heap.size x w'):=fun x=>oh (x:=x) g.y 1 (by omega) (by omega) (by omega) (by omega);have HP4:Hid (∀x:ah,ap aj 174 #[ab .u64 g.a,ab ac 2] x fun e w'=>∃ad c,e=ao (af ad 2 c)/\Sl ay w' (af ad 2 c) (aJ g.a 2)/\ag x.heap.size x w'):=fun x=>oh (x:=x) g.a 2 (by omega) (by omega) (by omega) (by omega);have HP5:Hid (∀x:ah,ap aj 174 #[ab .u64 g.r,ab ac 2] x fun e w'=>∃ad c,e=ao (af ad 2 c)/\Sl ay w' (af ad 2 c) (aJ g.r 2)/\ag x.heap.size x w'):=fun x=>oh (x:=x) g.r 2 (by omega) (by omega) (by omega) (by omega);have HP6:Hid (∀x:ah,ap aj 174 #[ab .u64 a,ab ac 2] x fun e w'=>∃ad c,e=ao (af ad 2 c)/\Sl ay w' (af ad 2 c) (aJ a 2)/\ag x.heap.size x w'):=fun x=>oh (x:=x) a 2 (by omega) (by omega) (by omega) (by omega);have HP7:Hid (∀x:ah,ap aj 174 #[ab .u64 q,ab ac 4] x fun e w'=>∃ad c,e=ao (af ad 4 c)/\Sl ay w' (af ad 4 c) (aJ q 4)/\ag x.heap.size x w'):=fun x=>oh (x:=x) q 4 (by omega) (by omega) (by omega) (by omega);obtain⟨P,hP⟩:=w9nm (eB gen g a q);have HPP:=ae hP;rw[hP];have hmx:=w9x
 clear r1 b1 b2 r2 r3 b3 rS hb12 rS3 r23 h01 h12 hI hP;go_enter func216,ntmps216;go_wp2_with fail;refine du (fun x=>∃y:aM W,x=y.1) 41 (.takes [0,1,4,5,6,7,9,10,11,12,14,15,16,17,19,20,21,22,24,25,26,27,29,30,31,32,34,35,36,37] Dr) hmx (by kernel_rfl) (by intro c x v a w h;cases x<;>exact h) ⟨⟨W.drew,(aI _ W).drew⟩,rfl⟩ ?_;repeat(rw[bu];simp only[aB,aC];go_big_quiet_step (fail);refine aV ?_)
 rw[bt];clear ST c0 d1 d2 d3 d4 d5 d6 d7 i1 i2 i3 i4 i5 i6 i7 i8 i9 i10 i11 i12 i13 i14 hW1 hW2 hB1 hB2;have K0:Hid (ag W.heap.size W W.drew):=(aI _ W).drew;obtain⟨x0,hx0⟩:=w9nm W.drew;rw[hx0]at K0;try rw[hx0]
 clear hx0;refine fZ (ι:=Nat×Option aF×Nat×Option aF×Nat×Option aF×Nat×Option aF×Nat×Option aF×Nat×Option aF×Nat×Option aF×Nat) (tD) (fun i=>cY gen g a q B0 B1 B2 (af (some ⟨i.1,0,none⟩) 4 4) (af (some ⟨i.1,0,none⟩) 4 4) (af i.2.1 2 i.2.2.1) (af i.2.2.2.1 1 i.2.2.2.2.1) (af i.2.2.2.2.2.1 1 i.2.2.2.2.2.2.1) (af i.2.2.2.2.2.2.2.1 2 i.2.2.2.2.2.2.2.2.1) (af i.2.2.2.2.2.2.2.2.2.1 2 i.2.2.2.2.2.2.2.2.2.2.1) (af i.2.2.2.2.2.2.2.2.2.2.2.1 2 i.2.2.2.2.2.2.2.2.2.2.2.2.1) (af i.2.2.2.2.2.2.2.2.2.2.2.2.2.1 4 i.2.2.2.2.2.2.2.2.2.2.2.2.2.2)) (fun i x=>w9h W x/\Hid (eo x [(af i.2.2.2.2.2.2.2.2.2.2.2.2.2.1 4 i.2.2.2.2.2.2.2.2.2.2.2.2.2.2,aJ q 4),(af i.2.2.2.2.2.2.2.2.2.2.2.1 2 i.2.2.2.2.2.2.2.2.2.2.2.2.1,aJ a 2),(af i.2.2.2.2.2.2.2.2.2.1 2 i.2.2.2.2.2.2.2.2.2.2.1,aJ g.r 2),(af i.2.2.2.2.2.2.2.1 2 i.2.2.2.2.2.2.2.2.1,aJ g.a 2),(af i.2.2.2.2.2.1 1 i.2.2.2.2.2.2.1,aJ g.y 1),(af i.2.2.2.1 1 i.2.2.2.2.1,aJ g.s 1),(af i.2.1 2 i.2.2.1,aJ g.b 2)])/\Hid (Sl ay x (af (some ⟨i.1,0,none⟩) 4 4) [82,86,84,49])) ?_ ?_
 ·rintro⟨L,a1,n1,a2,n2,a3,n3,a4,n4,a5,n5,a6,n6,a7,n7⟩ x ⟨K,S,Z⟩;try dsimp only
  try dsimp only at S Z
  unfold tD cY
  as_aux_lemma=>
   rw[aT];simp only[aB,aC];obtain⟨x1,hx⟩:=w9nm (x.alloc (an #[af (some ⟨L,0,none⟩) 4 4,af a1 2 n1,af a2 1 n2,af a3 1 n3,af a4 2 n4,af a5 2 n5,af a6 2 n6,af a7 4 n7] 76));have hb:ag x.heap.size x x1:=by rw[←hx];exact aH x _
   have r4:x1.heap[x.heap.size]? =some (an #[af (some ⟨L,0,none⟩) 4 4,af a1 2 n1,af a2 1 n2,af a3 1 n3,af a4 2 n4,af a5 2 n5,af a6 2 n6,af a7 4 n7] 76 (0,0)):=by rw[←hx];exact cD x _
   have BS:(dh 332 8 #[(0,af (some ⟨L,0,none⟩) 4 4),(1,af a1 2 n1),(2,af a2 1 n2),(3,af a3 1 n3),(4,af a4 2 n4),(5,af a5 2 n5),(6,af a6 2 n6),(7,af a7 4 n7)]).run aj x=.ok (af (some ⟨x.heap.size,0,none⟩) 8 8) x1:=by rw[←hx];exact NU x (some ⟨L,0,none⟩) a1 a2 a3 a4 a5 a6 a7 4 2 1 1 2 2 2 4 4 n1 n2 n3 n4 n5 n6 n7
   have K1:=w9bt K hb;have S1:=ae (S.out.below hb);have SS:Hid (ph x1 (af (some ⟨x.heap.size,0,none⟩) 8 8) [[82,86,84,49],aJ g.b 2,aJ g.s 1,aJ g.y 1,aJ g.a 2,aJ g.r 2,aJ a 2,aJ q 4]):=by
    refine⟨x.heap.size,8,rfl,aG _,by unfold aY;omega,by rw[←hx];simp,fun k hk=> ?_⟩;have hk':k<8:=hk
    match k,hk' with
     | 0,_=>exact⟨_,dq _ _ 0 _ _ _ r4,Z.out.below hb⟩
     | 1,_=>exact⟨_,dq _ _ 1 _ _ _ r4,S1.out (af a1 2 n1,aJ g.b 2) (by simp)⟩
     | 2,_=>exact⟨_,dq _ _ 2 _ _ _ r4,S1.out (af a2 1 n2,aJ g.s 1) (by simp)⟩
     | 3,_=>exact⟨_,dq _ _ 3 _ _ _ r4,S1.out (af a3 1 n3,aJ g.y 1) (by simp)⟩
     | 4,_=>exact⟨_,dq _ _ 4 _ _ _ r4,S1.out (af a4 2 n4,aJ g.a 2) (by simp)⟩
     | 5,_=>exact⟨_,dq _ _ 5 _ _ _ r4,S1.out (af a5 2 n5,aJ g.r 2) (by simp)⟩
     | 6,_=>exact⟨_,dq _ _ 6 _ _ _ r4,S1.out (af a6 2 n6,aJ a 2) (by simp)⟩
     | 7,_=>exact⟨_,dq _ _ 7 _ _ _ r4,S1.out (af a7 4 n7,aJ q 4) (by simp)⟩
   clear hb r4 hx S S1;refine dR _ _ _ rfl rfl _ _ rfl BS ?_;clear BS;go_wp2_with fail;refine aN ⟨⟨x1,K1.out⟩,rfl⟩ ?_;rw[aT];simp only[aB,aC];go_wp2_with fail;go_at_call 173;have hfl: [[82,86,84,49],aJ g.b 2,aJ g.s 1,aJ g.y 1,aJ g.a 2,aJ g.r 2,aJ a 2,aJ q 4].flatten=jA g a q:=by simp[jA]
   have hcc:=sD _ _ x1 SS.out (by rw[hfl,xf];omega);rw[hfl]at hcc;refine hcc.mono ?_;clear hcc hfl;rintro e y5 ⟨v5,rfl,hrow,hb⟩;have K5:=w9bt K1 hb;have S5':Sl ay y5 v5 (jA g a q):=Sl.of_owns (bs:=jA g a q) hrow;obtain⟨a5,c5,hv5, -⟩:=id S5';subst hv5;have hP:=R3.out.below K5.out;obtain⟨RC,LD⟩:=NT hP S5';obtain⟨y6,hy6⟩:=w9nm (y5.setCells B2 3 (aw (jA g a q)));rw[hy6]at RC LD;rw[HPP.out]at LD;have B6:ag w.heap.size w y6:=by rw[←hy6];exact(HB0.out.trans (K5.out.mono HB0.out.size)).trans ((kn (N:=w.heap.size) H2.out _ _ _).mono (aG _))
   have hne:B1≠B2:=HNE.out;have r6:y6.heap[B1]? =some (an dF.toArray 304 (0,0)):=by
    rw[←hy6];exact(rk _ _ _ _ (bq R1.out.lt K5.out.size) hne).trans (R1.out.below K5.out)
   obtain⟨y7,ST7,LD7,hb7⟩:=pf (w:=w) (x:=y6) (B:=B1) (u:=P.cells) r6 nK H1.out B6 (by rw[←HPP.out];exact Sct.cells_length (tC gen g a q)) (Sct.cells_one _);have HL7:=ae LD7;have HB7:=ae hb7;clear hrow hb S5' hP r6 B6 hy6 SS LD7 hb7 hne;go_wp2_with fail;refine aN ⟨⟨y5,K5.out⟩,rfl⟩ ?_;rw[cW];simp only[bR,bQ];go_wp2_with fail;exact bo (ev rfl rfl HL7.out) rfl ⟨rfl,HB7.out⟩
 intro T72;refine fZ (ι:=Nat×Option aF×Nat×Option aF×Nat×Option aF×Nat×Option aF×Nat×Option aF×Nat×Option aF×Nat) (tE) (fun i=>cY gen g a q B0 B1 B2 (af (some ⟨i.1,0,none⟩) 4 4) (af (some ⟨i.1,0,none⟩) 4 4) (af i.2.1 2 i.2.2.1) (af i.2.2.2.1 1 i.2.2.2.2.1) (af i.2.2.2.2.2.1 1 i.2.2.2.2.2.2.1) (af i.2.2.2.2.2.2.2.1 2 i.2.2.2.2.2.2.2.2.1) (af i.2.2.2.2.2.2.2.2.2.1 2 i.2.2.2.2.2.2.2.2.2.2.1) (af i.2.2.2.2.2.2.2.2.2.2.2.1 2 i.2.2.2.2.2.2.2.2.2.2.2.2) az) (fun i x=>w9h W x/\Hid (eo x [(af i.2.2.2.2.2.2.2.2.2.2.2.1 2 i.2.2.2.2.2.2.2.2.2.2.2.2,aJ a 2),(af i.2.2.2.2.2.2.2.2.2.1 2 i.2.2.2.2.2.2.2.2.2.2.1,aJ g.r 2),(af i.2.2.2.2.2.2.2.1 2 i.2.2.2.2.2.2.2.2.1,aJ g.a 2),(af i.2.2.2.2.2.1 1 i.2.2.2.2.2.2.1,aJ g.y 1),(af i.2.2.2.1 1 i.2.2.2.2.1,aJ g.s 1),(af i.2.1 2 i.2.2.1,aJ g.b 2)])/\Hid (Sl ay x (af (some ⟨i.1,0,none⟩) 4 4) [82,86,84,49])) ?_ ?_
 ·rintro⟨L,a1,n1,a2,n2,a3,n3,a4,n4,a5,n5,a6,n6⟩ x ⟨K,S,Z⟩;try dsimp only
  try dsimp only at S Z
  unfold tE cY
  as_aux_lemma=>
   rw[aT];simp only[aB,aC];go_wp2_with fail;go_at_call 174;refine(HP7.out _).mono ?_;rintro e x1 ⟨a7,n7,rfl,hs,hb⟩;have K1:=w9bt K hb;have S1:=ae (S.out.put hb hs);have Z1:=ae (Z.out.below hb);clear hs hb;go_wp2_with fail;refine aN ⟨⟨x1,K1.out⟩,rfl⟩ ?_;exact T72 (L,a1,n1,a2,n2,a3,n3,a4,n4,a5,n5,a6,n6,a7,n7) x1 ⟨K1,S1,Z1⟩
 intro T62;refine fZ (ι:=Nat×Option aF×Nat×Option aF×Nat×Option aF×Nat×Option aF×Nat×Option aF×Nat) (tF) (fun i=>cY gen g a q B0 B1 B2 (af (some ⟨i.1,0,none⟩) 4 4) (af (some ⟨i.1,0,none⟩) 4 4) (af i.2.1 2 i.2.2.1) (af i.2.2.2.1 1 i.2.2.2.2.1) (af i.2.2.2.2.2.1 1 i.2.2.2.2.2.2.1) (af i.2.2.2.2.2.2.2.1 2 i.2.2.2.2.2.2.2.2.1) (af i.2.2.2.2.2.2.2.2.2.1 2 i.2.2.2.2.2.2.2.2.2.2) az az) (fun i x=>w9h W x/\Hid (eo x [(af i.2.2.2.2.2.2.2.2.2.1 2 i.2.2.2.2.2.2.2.2.2.2,aJ g.r 2),(af i.2.2.2.2.2.2.2.1 2 i.2.2.2.2.2.2.2.2.1,aJ g.a 2),(af i.2.2.2.2.2.1 1 i.2.2.2.2.2.2.1,aJ g.y 1),(af i.2.2.2.1 1 i.2.2.2.2.1,aJ g.s 1),(af i.2.1 2 i.2.2.1,aJ g.b 2)])/\Hid (Sl ay x (af (some ⟨i.1,0,none⟩) 4 4) [82,86,84,49])) ?_ ?_
 ·rintro⟨L,a1,n1,a2,n2,a3,n3,a4,n4,a5,n5⟩ x ⟨K,S,Z⟩;try dsimp only
  try dsimp only at S Z
  unfold tF cY
  as_aux_lemma=>
   rw[aT];simp only[aB,aC];go_wp2_with fail;go_at_call 174;refine(HP6.out _).mono ?_;rintro e x1 ⟨a6,n6,rfl,hs,hb⟩;have K1:=w9bt K hb;have S1:=ae (S.out.put hb hs);have Z1:=ae (Z.out.below hb);clear hs hb;go_wp2_with fail;refine aN ⟨⟨x1,K1.out⟩,rfl⟩ ?_;exact T62 (L,a1,n1,a2,n2,a3,n3,a4,n4,a5,n5,a6,n6) x1 ⟨K1,S1,Z1⟩
 intro T52;refine fZ (ι:=Nat×Option aF×Nat×Option aF×Nat×Option aF×Nat×Option aF×Nat) (tG) (fun i=>cY gen g a q B0 B1 B2 (af (some ⟨i.1,0,none⟩) 4 4) (af (some ⟨i.1,0,none⟩) 4 4) (af i.2.1 2 i.2.2.1) (af i.2.2.2.1 1 i.2.2.2.2.1) (af i.2.2.2.2.2.1 1 i.2.2.2.2.2.2.1) (af i.2.2.2.2.2.2.2.1 2 i.2.2.2.2.2.2.2.2) az az az) (fun i x=>w9h W x/\Hid (eo x [(af i.2.2.2.2.2.2.2.1 2 i.2.2.2.2.2.2.2.2,aJ g.a 2),(af i.2.2.2.2.2.1 1 i.2.2.2.2.2.2.1,aJ g.y 1),(af i.2.2.2.1 1 i.2.2.2.2.1,aJ g.s 1),(af i.2.1 2 i.2.2.1,aJ g.b 2)])/\Hid (Sl ay x (af (some ⟨i.1,0,none⟩) 4 4) [82,86,84,49])) ?_ ?_
 ·rintro⟨L,a1,n1,a2,n2,a3,n3,a4,n4⟩ x ⟨K,S,Z⟩;try dsimp only
  try dsimp only at S Z
  unfold tG cY
  as_aux_lemma=>
   rw[aT];simp only[aB,aC];go_wp2_with fail;go_at_call 174;refine(HP5.out _).mono ?_;rintro e x1 ⟨a5,n5,rfl,hs,hb⟩;have K1:=w9bt K hb;have S1:=ae (S.out.put hb hs);have Z1:=ae (Z.out.below hb);clear hs hb;go_wp2_with fail;refine aN ⟨⟨x1,K1.out⟩,rfl⟩ ?_;exact T52 (L,a1,n1,a2,n2,a3,n3,a4,n4,a5,n5) x1 ⟨K1,S1,Z1⟩
 intro T42;refine fZ (ι:=Nat×Option aF×Nat×Option aF×Nat×Option aF×Nat) (tH) (fun i=>cY gen g a q B0 B1 B2 (af (some ⟨i.1,0,none⟩) 4 4) (af (some ⟨i.1,0,none⟩) 4 4) (af i.2.1 2 i.2.2.1) (af i.2.2.2.1 1 i.2.2.2.2.1) (af i.2.2.2.2.2.1 1 i.2.2.2.2.2.2) az az az az) (fun i x=>w9h W x/\Hid (eo x [(af i.2.2.2.2.2.1 1 i.2.2.2.2.2.2,aJ g.y 1),(af i.2.2.2.1 1 i.2.2.2.2.1,aJ g.s 1),(af i.2.1 2 i.2.2.1,aJ g.b 2)])/\Hid (Sl ay x (af (some ⟨i.1,0,none⟩) 4 4) [82,86,84,49])) ?_ ?_
 ·rintro⟨L,a1,n1,a2,n2,a3,n3⟩ x ⟨K,S,Z⟩;try dsimp only
  try dsimp only at S Z
  unfold tH cY
  as_aux_lemma=>
   rw[aT];simp only[aB,aC];go_wp2_with fail;go_at_call 174;refine(HP4.out _).mono ?_;rintro e x1 ⟨a4,n4,rfl,hs,hb⟩;have K1:=w9bt K hb;have S1:=ae (S.out.put hb hs);have Z1:=ae (Z.out.below hb);clear hs hb;go_wp2_with fail;refine aN ⟨⟨x1,K1.out⟩,rfl⟩ ?_;exact T42 (L,a1,n1,a2,n2,a3,n3,a4,n4) x1 ⟨K1,S1,Z1⟩
 intro T32;refine fZ (ι:=Nat×Option aF×Nat×Option aF×Nat) (tI) (fun i=>cY gen g a q B0 B1 B2 (af (some ⟨i.1,0,none⟩) 4 4) (af (some ⟨i.1,0,none⟩) 4 4) (af i.2.1 2 i.2.2.1) (af i.2.2.2.1 1 i.2.2.2.2) az az az az az) (fun i x=>w9h W x/\Hid (eo x [(af i.2.2.2.1 1 i.2.2.2.2,aJ g.s 1),(af i.2.1 2 i.2.2.1,aJ g.b 2)])/\Hid (Sl ay x (af (some ⟨i.1,0,none⟩) 4 4) [82,86,84,49])) ?_ ?_
 ·rintro⟨L,a1,n1,a2,n2⟩ x ⟨K,S,Z⟩;try dsimp only
  try dsimp only at S Z
  unfold tI cY
  as_aux_lemma=>
   rw[aT];simp only[aB,aC];go_wp2_with fail;go_at_call 174;refine(HP3.out _).mono ?_;rintro e x1 ⟨a3,n3,rfl,hs,hb⟩;have K1:=w9bt K hb;have S1:=ae (S.out.put hb hs);have Z1:=ae (Z.out.below hb);clear hs hb;go_wp2_with fail;refine aN ⟨⟨x1,K1.out⟩,rfl⟩ ?_;exact T32 (L,a1,n1,a2,n2,a3,n3) x1 ⟨K1,S1,Z1⟩
 intro T22;refine fZ (ι:=Nat×Option aF×Nat) (tJ) (fun i=>cY gen g a q B0 B1 B2 (af (some ⟨i.1,0,none⟩) 4 4) (af (some ⟨i.1,0,none⟩) 4 4) (af i.2.1 2 i.2.2) az az az az az az) (fun i x=>w9h W x/\Hid (eo x [(af i.2.1 2 i.2.2,aJ g.b 2)])/\Hid (Sl ay x (af (some ⟨i.1,0,none⟩) 4 4) [82,86,84,49])) ?_ ?_
 ·rintro⟨L,a1,n1⟩ x ⟨K,S,Z⟩;try dsimp only
  try dsimp only at S Z
  unfold tJ cY
  as_aux_lemma=>
   rw[aT];simp only[aB,aC];go_wp2_with fail;go_at_call 174;refine(HP2.out _).mono ?_;rintro e x1 ⟨a2,n2,rfl,hs,hb⟩;have K1:=w9bt K hb;have S1:=ae (S.out.put hb hs);have Z1:=ae (Z.out.below hb);clear hs hb;go_wp2_with fail;refine aN ⟨⟨x1,K1.out⟩,rfl⟩ ?_;exact T22 (L,a1,n1,a2,n2) x1 ⟨K1,S1,Z1⟩
 intro T12;refine fZ (ι:=Nat) (xi) (fun i=>cY gen g a q B0 B1 B2 (af (some ⟨i,0,none⟩) 4 4) (af (some ⟨i,0,none⟩) 4 4) az az az az az az az) (fun i x=>w9h W x/\Hid (eo x [])/\Hid (Sl ay x (af (some ⟨i,0,none⟩) 4 4) [82,86,84,49])) ?_ ?_
 ·rintro L x ⟨K,S,Z⟩;try dsimp only
  try dsimp only at S Z
  unfold xi cY
  as_aux_lemma=>
   rw[aT];simp only[aB,aC];go_wp2_with fail;go_at_call 174;refine(HP1.out _).mono ?_;rintro e x1 ⟨a1,n1,rfl,hs,hb⟩;have K1:=w9bt K hb;have S1:=ae (S.out.put hb hs);have Z1:=ae (Z.out.below hb);clear hs hb;go_wp2_with fail;refine aN ⟨⟨x1,K1.out⟩,rfl⟩ ?_;exact T12 (L,a1,n1) x1 ⟨K1,S1,Z1⟩
 intro T02;refine fZ (ι:=Nat×Option aF×Nat×Option aF×Nat×Option aF×Nat×Option aF×Nat×Option aF×Nat×Option aF×Nat×Option aF×Nat) (tK) (fun i=>cY gen g a q B0 B1 B2 (af (some ⟨i.1,0,none⟩) 4 4) az (af i.2.1 2 i.2.2.1) (af i.2.2.2.1 1 i.2.2.2.2.1) (af i.2.2.2.2.2.1 1 i.2.2.2.2.2.2.1) (af i.2.2.2.2.2.2.2.1 2 i.2.2.2.2.2.2.2.2.1) (af i.2.2.2.2.2.2.2.2.2.1 2 i.2.2.2.2.2.2.2.2.2.2.1) (af i.2.2.2.2.2.2.2.2.2.2.2.1 2 i.2.2.2.2.2.2.2.2.2.2.2.2.1) (af i.2.2.2.2.2.2.2.2.2.2.2.2.2.1 4 i.2.2.2.2.2.2.2.2.2.2.2.2.2.2)) (fun i x=>w9h W x/\Hid (eo x [(af i.2.2.2.2.2.2.2.2.2.2.2.2.2.1 4 i.2.2.2.2.2.2.2.2.2.2.2.2.2.2,aJ q 4),(af i.2.2.2.2.2.2.2.2.2.2.2.1 2 i.2.2.2.2.2.2.2.2.2.2.2.2.1,aJ a 2),(af i.2.2.2.2.2.2.2.2.2.1 2 i.2.2.2.2.2.2.2.2.2.2.1,aJ g.r 2),(af i.2.2.2.2.2.2.2.1 2 i.2.2.2.2.2.2.2.2.1,aJ g.a 2),(af i.2.2.2.2.2.1 1 i.2.2.2.2.2.2.1,aJ g.y 1),(af i.2.2.2.1 1 i.2.2.2.2.1,aJ g.s 1),(af i.2.1 2 i.2.2.1,aJ g.b 2)])/\Hid (W.heap.size<=i.1/\x.heap[i.1]? =some (an (aw [82,86,84,49]).toArray 5 (0,0)))) ?_ ?_
 ·rintro⟨L,a1,n1,a2,n2,a3,n3,a4,n4,a5,n5,a6,n6,a7,n7⟩ x ⟨K,S,Z⟩;try dsimp only
  try dsimp only at S Z
  unfold tK cY
  as_aux_lemma=>
   rw[aT];simp only[aB,aC];obtain⟨x1,CV,hbl,hsz,hcs⟩:=nc x L (aw [82,86,84,49]).toArray 4 4 Z.out.2;have K1:w9h W x1:=K.out.trans (hbl.mono Z.out.1);have S1:=ae (S.out.cells hsz hcs);have Z1:Hid (Sl ay x1 (af (some ⟨L,0,none⟩) 4 4) [82,86,84,49]):=(ms (g:=L) (xs:= [82,86,84,49]) Z.out.2 (by simp[aY])).cells hsz hcs;clear hbl hsz hcs;go_wp2_with fail;refine aN ⟨⟨x1,K1.out⟩,rfl⟩ ?_;exact T72 (L,a1,n1,a2,n2,a3,n3,a4,n4,a5,n5,a6,n6,a7,n7) x1 ⟨K1,S1,Z1⟩
 intro T71;refine fZ (ι:=Nat×Option aF×Nat×Option aF×Nat×Option aF×Nat×Option aF×Nat×Option aF×Nat×Option aF×Nat) (tL) (fun i=>cY gen g a q B0 B1 B2 (af (some ⟨i.1,0,none⟩) 4 4) az (af i.2.1 2 i.2.2.1) (af i.2.2.2.1 1 i.2.2.2.2.1) (af i.2.2.2.2.2.1 1 i.2.2.2.2.2.2.1) (af i.2.2.2.2.2.2.2.1 2 i.2.2.2.2.2.2.2.2.1) (af i.2.2.2.2.2.2.2.2.2.1 2 i.2.2.2.2.2.2.2.2.2.2.1) (af i.2.2.2.2.2.2.2.2.2.2.2.1 2 i.2.2.2.2.2.2.2.2.2.2.2.2) az) (fun i x=>w9h W x/\Hid (eo x [(af i.2.2.2.2.2.2.2.2.2.2.2.1 2 i.2.2.2.2.2.2.2.2.2.2.2.2,aJ a 2),(af i.2.2.2.2.2.2.2.2.2.1 2 i.2.2.2.2.2.2.2.2.2.2.1,aJ g.r 2),(af i.2.2.2.2.2.2.2.1 2 i.2.2.2.2.2.2.2.2.1,aJ g.a 2),(af i.2.2.2.2.2.1 1 i.2.2.2.2.2.2.1,aJ g.y 1),(af i.2.2.2.1 1 i.2.2.2.2.1,aJ g.s 1),(af i.2.1 2 i.2.2.1,aJ g.b 2)])/\Hid (W.heap.size<=i.1/\x.heap[i.1]? =some (an (aw [82,86,84,49]).toArray 5 (0,0)))) ?_ ?_
 ·rintro⟨L,a1,n1,a2,n2,a3,n3,a4,n4,a5,n5,a6,n6⟩ x ⟨K,S,Z⟩;try dsimp only
  try dsimp only at S Z
  unfold tL cY
  as_aux_lemma=>
   rw[jV];refine⟨?_, ?_⟩
   ·skip
    simp only[aB,aC];obtain⟨x1,CV,hbl,hsz,hcs⟩:=nc x L (aw [82,86,84,49]).toArray 4 4 Z.out.2;have K1:w9h W x1:=K.out.trans (hbl.mono Z.out.1);have S1:=ae (S.out.cells hsz hcs);have Z1:Hid (Sl ay x1 (af (some ⟨L,0,none⟩) 4 4) [82,86,84,49]):=(ms (g:=L) (xs:= [82,86,84,49]) Z.out.2 (by simp[aY])).cells hsz hcs;clear hbl hsz hcs;go_wp2_with fail;refine aN ⟨⟨x1,K1.out⟩,rfl⟩ ?_;exact T62 (L,a1,n1,a2,n2,a3,n3,a4,n4,a5,n5,a6,n6) x1 ⟨K1,S1,Z1⟩
   ·skip
    simp only[aB,aC];go_wp2_with fail;go_at_call 174;refine(HP7.out _).mono ?_;rintro e x1 ⟨a7,n7,rfl,hs,hb⟩;have K1:=w9bt K hb;have S1:=ae (S.out.put hb hs);have Z1:Hid (W.heap.size<=L/\x1.heap[L]? =some (an (aw [82,86,84,49]).toArray 5 (0,0))):=⟨Z.out.1,(hb.block L (bL.1 Z.out.2).1).trans Z.out.2⟩;clear hs hb;go_wp2_with fail;refine aN ⟨⟨x1,K1.out⟩,rfl⟩ ?_;exact T71 (L,a1,n1,a2,n2,a3,n3,a4,n4,a5,n5,a6,n6,a7,n7) x1 ⟨K1,S1,Z1⟩
 intro T61;refine fZ (ι:=Nat×Option aF×Nat×Option aF×Nat×Option aF×Nat×Option aF×Nat×Option aF×Nat) (tM) (fun i=>cY gen g a q B0 B1 B2 (af (some ⟨i.1,0,none⟩) 4 4) az (af i.2.1 2 i.2.2.1) (af i.2.2.2.1 1 i.2.2.2.2.1) (af i.2.2.2.2.2.1 1 i.2.2.2.2.2.2.1) (af i.2.2.2.2.2.2.2.1 2 i.2.2.2.2.2.2.2.2.1) (af i.2.2.2.2.2.2.2.2.2.1 2 i.2.2.2.2.2.2.2.2.2.2) az az) (fun i x=>w9h W x/\Hid (eo x [(af i.2.2.2.2.2.2.2.2.2.1 2 i.2.2.2.2.2.2.2.2.2.2,aJ g.r 2),(af i.2.2.2.2.2.2.2.1 2 i.2.2.2.2.2.2.2.2.1,aJ g.a 2),(af i.2.2.2.2.2.1 1 i.2.2.2.2.2.2.1,aJ g.y 1),(af i.2.2.2.1 1 i.2.2.2.2.1,aJ g.s 1),(af i.2.1 2 i.2.2.1,aJ g.b 2)])/\Hid (W.heap.size<=i.1/\x.heap[i.1]? =some (an (aw [82,86,84,49]).toArray 5 (0,0)))) ?_ ?_
 ·rintro⟨L,a1,n1,a2,n2,a3,n3,a4,n4,a5,n5⟩ x ⟨K,S,Z⟩;try dsimp only
  try dsimp only at S Z
  unfold tM cY
  as_aux_lemma=>
   rw[jV];refine⟨?_, ?_⟩
   ·skip
    simp only[aB,aC];obtain⟨x1,CV,hbl,hsz,hcs⟩:=nc x L (aw [82,86,84,49]).toArray 4 4 Z.out.2;have K1:w9h W x1:=K.out.trans (hbl.mono Z.out.1);have S1:=ae (S.out.cells hsz hcs);have Z1:Hid (Sl ay x1 (af (some ⟨L,0,none⟩) 4 4) [82,86,84,49]):=(ms (g:=L) (xs:= [82,86,84,49]) Z.out.2 (by simp[aY])).cells hsz hcs;clear hbl hsz hcs;go_wp2_with fail;refine aN ⟨⟨x1,K1.out⟩,rfl⟩ ?_;exact T52 (L,a1,n1,a2,n2,a3,n3,a4,n4,a5,n5) x1 ⟨K1,S1,Z1⟩
   ·skip
    simp only[aB,aC];go_wp2_with fail;go_at_call 174;refine(HP6.out _).mono ?_;rintro e x1 ⟨a6,n6,rfl,hs,hb⟩;have K1:=w9bt K hb;have S1:=ae (S.out.put hb hs);have Z1:Hid (W.heap.size<=L/\x1.heap[L]? =some (an (aw [82,86,84,49]).toArray 5 (0,0))):=⟨Z.out.1,(hb.block L (bL.1 Z.out.2).1).trans Z.out.2⟩;clear hs hb;go_wp2_with fail;refine aN ⟨⟨x1,K1.out⟩,rfl⟩ ?_;exact T61 (L,a1,n1,a2,n2,a3,n3,a4,n4,a5,n5,a6,n6) x1 ⟨K1,S1,Z1⟩
 intro T51;refine fZ (ι:=Nat×Option aF×Nat×Option aF×Nat×Option aF×Nat×Option aF×Nat) (tN) (fun i=>cY gen g a q B0 B1 B2 (af (some ⟨i.1,0,none⟩) 4 4) az (af i.2.1 2 i.2.2.1) (af i.2.2.2.1 1 i.2.2.2.2.1) (af i.2.2.2.2.2.1 1 i.2.2.2.2.2.2.1) (af i.2.2.2.2.2.2.2.1 2 i.2.2.2.2.2.2.2.2) az az az) (fun i x=>w9h W x/\Hid (eo x [(af i.2.2.2.2.2.2.2.1 2 i.2.2.2.2.2.2.2.2,aJ g.a 2),(af i.2.2.2.2.2.1 1 i.2.2.2.2.2.2.1,aJ g.y 1),(af i.2.2.2.1 1 i.2.2.2.2.1,aJ g.s 1),(af i.2.1 2 i.2.2.1,aJ g.b 2)])/\Hid (W.heap.size<=i.1/\x.heap[i.1]? =some (an (aw [82,86,84,49]).toArray 5 (0,0)))) ?_ ?_
 ·rintro⟨L,a1,n1,a2,n2,a3,n3,a4,n4⟩ x ⟨K,S,Z⟩;try dsimp only
  try dsimp only at S Z
  unfold tN cY
  as_aux_lemma=>
   rw[jV];refine⟨?_, ?_⟩
   ·skip
    simp only[aB,aC];obtain⟨x1,CV,hbl,hsz,hcs⟩:=nc x L (aw [82,86,84,49]).toArray 4 4 Z.out.2;have K1:w9h W x1:=K.out.trans (hbl.mono Z.out.1);have S1:=ae (S.out.cells hsz hcs);have Z1:Hid (Sl ay x1 (af (some ⟨L,0,none⟩) 4 4) [82,86,84,49]):=(ms (g:=L) (xs:= [82,86,84,49]) Z.out.2 (by simp[aY])).cells hsz hcs;clear hbl hsz hcs;go_wp2_with fail;refine aN ⟨⟨x1,K1.out⟩,rfl⟩ ?_;exact T42 (L,a1,n1,a2,n2,a3,n3,a4,n4) x1 ⟨K1,S1,Z1⟩
   ·skip
    simp only[aB,aC];go_wp2_with fail;go_at_call 174;refine(HP5.out _).mono ?_;rintro e x1 ⟨a5,n5,rfl,hs,hb⟩;have K1:=w9bt K hb;have S1:=ae (S.out.put hb hs);have Z1:Hid (W.heap.size<=L/\x1.heap[L]? =some (an (aw [82,86,84,49]).toArray 5 (0,0))):=⟨Z.out.1,(hb.block L (bL.1 Z.out.2).1).trans Z.out.2⟩;clear hs hb;go_wp2_with fail;refine aN ⟨⟨x1,K1.out⟩,rfl⟩ ?_;exact T51 (L,a1,n1,a2,n2,a3,n3,a4,n4,a5,n5) x1 ⟨K1,S1,Z1⟩
 intro T41;refine fZ (ι:=Nat×Option aF×Nat×Option aF×Nat×Option aF×Nat) (tO) (fun i=>cY gen g a q B0 B1 B2 (af (some ⟨i.1,0,none⟩) 4 4) az (af i.2.1 2 i.2.2.1) (af i.2.2.2.1 1 i.2.2.2.2.1) (af i.2.2.2.2.2.1 1 i.2.2.2.2.2.2) az az az az) (fun i x=>w9h W x/\Hid (eo x [(af i.2.2.2.2.2.1 1 i.2.2.2.2.2.2,aJ g.y 1),(af i.2.2.2.1 1 i.2.2.2.2.1,aJ g.s 1),(af i.2.1 2 i.2.2.1,aJ g.b 2)])/\Hid (W.heap.size<=i.1/\x.heap[i.1]? =some (an (aw [82,86,84,49]).toArray 5 (0,0)))) ?_ ?_
 ·rintro⟨L,a1,n1,a2,n2,a3,n3⟩ x ⟨K,S,Z⟩;try dsimp only
  try dsimp only at S Z
  unfold tO cY
  as_aux_lemma=>
   rw[jV];refine⟨?_, ?_⟩
   ·skip
    simp only[aB,aC];obtain⟨x1,CV,hbl,hsz,hcs⟩:=nc x L (aw [82,86,84,49]).toArray 4 4 Z.out.2;have K1:w9h W x1:=K.out.trans (hbl.mono Z.out.1);have S1:=ae (S.out.cells hsz hcs);have Z1:Hid (Sl ay x1 (af (some ⟨L,0,none⟩) 4 4) [82,86,84,49]):=(ms (g:=L) (xs:= [82,86,84,49]) Z.out.2 (by simp[aY])).cells hsz hcs;clear hbl hsz hcs;go_wp2_with fail;refine aN ⟨⟨x1,K1.out⟩,rfl⟩ ?_;exact T32 (L,a1,n1,a2,n2,a3,n3) x1 ⟨K1,S1,Z1⟩
   ·skip
    simp only[aB,aC];go_wp2_with fail;go_at_call 174;refine(HP4.out _).mono ?_;rintro e x1 ⟨a4,n4,rfl,hs,hb⟩;have K1:=w9bt K hb;have S1:=ae (S.out.put hb hs);have Z1:Hid (W.heap.size<=L/\x1.heap[L]? =some (an (aw [82,86,84,49]).toArray 5 (0,0))):=⟨Z.out.1,(hb.block L (bL.1 Z.out.2).1).trans Z.out.2⟩;clear hs hb;go_wp2_with fail;refine aN ⟨⟨x1,K1.out⟩,rfl⟩ ?_;exact T41 (L,a1,n1,a2,n2,a3,n3,a4,n4) x1 ⟨K1,S1,Z1⟩
 intro T31;refine fZ (ι:=Nat×Option aF×Nat×Option aF×Nat) (tQ) (fun i=>cY gen g a q B0 B1 B2 (af (some ⟨i.1,0,none⟩) 4 4) az (af i.2.1 2 i.2.2.1) (af i.2.2.2.1 1 i.2.2.2.2) az az az az az) (fun i x=>w9h W x/\Hid (eo x [(af i.2.2.2.1 1 i.2.2.2.2,aJ g.s 1),(af i.2.1 2 i.2.2.1,aJ g.b 2)])/\Hid (W.heap.size<=i.1/\x.heap[i.1]? =some (an (aw [82,86,84,49]).toArray 5 (0,0)))) ?_ ?_
 ·rintro⟨L,a1,n1,a2,n2⟩ x ⟨K,S,Z⟩;try dsimp only
  try dsimp only at S Z
  unfold tQ cY
  as_aux_lemma=>
   rw[jV];refine⟨?_, ?_⟩
   ·skip
    simp only[aB,aC];obtain⟨x1,CV,hbl,hsz,hcs⟩:=nc x L (aw [82,86,84,49]).toArray 4 4 Z.out.2;have K1:w9h W x1:=K.out.trans (hbl.mono Z.out.1);have S1:=ae (S.out.cells hsz hcs);have Z1:Hid (Sl ay x1 (af (some ⟨L,0,none⟩) 4 4) [82,86,84,49]):=(ms (g:=L) (xs:= [82,86,84,49]) Z.out.2 (by simp[aY])).cells hsz hcs;clear hbl hsz hcs;go_wp2_with fail;refine aN ⟨⟨x1,K1.out⟩,rfl⟩ ?_;exact T22 (L,a1,n1,a2,n2) x1 ⟨K1,S1,Z1⟩
   ·skip
    simp only[aB,aC];go_wp2_with fail;go_at_call 174;refine(HP3.out _).mono ?_;rintro e x1 ⟨a3,n3,rfl,hs,hb⟩;have K1:=w9bt K hb;have S1:=ae (S.out.put hb hs);have Z1:Hid (W.heap.size<=L/\x1.heap[L]? =some (an (aw [82,86,84,49]).toArray 5 (0,0))):=⟨Z.out.1,(hb.block L (bL.1 Z.out.2).1).trans Z.out.2⟩;clear hs hb;go_wp2_with fail;refine aN ⟨⟨x1,K1.out⟩,rfl⟩ ?_;exact T31 (L,a1,n1,a2,n2,a3,n3) x1 ⟨K1,S1,Z1⟩
 intro T21;refine fZ (ι:=Nat×Option aF×Nat) (tR) (fun i=>cY gen g a q B0 B1 B2 (af (some ⟨i.1,0,none⟩) 4 4) az (af i.2.1 2 i.2.2) az az az az az az) (fun i x=>w9h W x/\Hid (eo x [(af i.2.1 2 i.2.2,aJ g.b 2)])/\Hid (W.heap.size<=i.1/\x.heap[i.1]? =some (an (aw [82,86,84,49]).toArray 5 (0,0)))) ?_ ?_
 ·rintro⟨L,a1,n1⟩ x ⟨K,S,Z⟩;try dsimp only
  try dsimp only at S Z
  unfold tR cY
  as_aux_lemma=>
   rw[jV];refine⟨?_, ?_⟩
   ·skip
    simp only[aB,aC];obtain⟨x1,CV,hbl,hsz,hcs⟩:=nc x L (aw [82,86,84,49]).toArray 4 4 Z.out.2;have K1:w9h W x1:=K.out.trans (hbl.mono Z.out.1);have S1:=ae (S.out.cells hsz hcs);have Z1:Hid (Sl ay x1 (af (some ⟨L,0,none⟩) 4 4) [82,86,84,49]):=(ms (g:=L) (xs:= [82,86,84,49]) Z.out.2 (by simp[aY])).cells hsz hcs;clear hbl hsz hcs;go_wp2_with fail;refine aN ⟨⟨x1,K1.out⟩,rfl⟩ ?_;exact T12 (L,a1,n1) x1 ⟨K1,S1,Z1⟩
   ·skip
    simp only[aB,aC];go_wp2_with fail;go_at_call 174;refine(HP2.out _).mono ?_;rintro e x1 ⟨a2,n2,rfl,hs,hb⟩;have K1:=w9bt K hb;have S1:=ae (S.out.put hb hs);have Z1:Hid (W.heap.size<=L/\x1.heap[L]? =some (an (aw [82,86,84,49]).toArray 5 (0,0))):=⟨Z.out.1,(hb.block L (bL.1 Z.out.2).1).trans Z.out.2⟩;clear hs hb;go_wp2_with fail;refine aN ⟨⟨x1,K1.out⟩,rfl⟩ ?_;exact T21 (L,a1,n1,a2,n2) x1 ⟨K1,S1,Z1⟩
 intro T11;refine fZ (ι:=Nat) (xj) (fun i=>cY gen g a q B0 B1 B2 (af (some ⟨i,0,none⟩) 4 4) az az az az az az az az) (fun i x=>w9h W x/\Hid (eo x [])/\Hid (W.heap.size<=i/\x.heap[i]? =some (an (aw [82,86,84,49]).toArray 5 (0,0)))) ?_ ?_
 ·rintro L x ⟨K,S,Z⟩;try dsimp only
  try dsimp only at S Z
  unfold xj cY
  as_aux_lemma=>
   rw[jV];refine⟨?_, ?_⟩
   ·skip
    simp only[aB,aC];obtain⟨x1,CV,hbl,hsz,hcs⟩:=nc x L (aw [82,86,84,49]).toArray 4 4 Z.out.2;have K1:w9h W x1:=K.out.trans (hbl.mono Z.out.1);have S1:=ae (S.out.cells hsz hcs);have Z1:Hid (Sl ay x1 (af (some ⟨L,0,none⟩) 4 4) [82,86,84,49]):=(ms (g:=L) (xs:= [82,86,84,49]) Z.out.2 (by simp[aY])).cells hsz hcs;clear hbl hsz hcs;go_wp2_with fail;refine aN ⟨⟨x1,K1.out⟩,rfl⟩ ?_;exact T02 L x1 ⟨K1,S1,Z1⟩
   ·skip
    simp only[aB,aC];go_wp2_with fail;go_at_call 174;refine(HP1.out _).mono ?_;rintro e x1 ⟨a1,n1,rfl,hs,hb⟩;have K1:=w9bt K hb;have S1:=ae (S.out.put hb hs);have Z1:Hid (W.heap.size<=L/\x1.heap[L]? =some (an (aw [82,86,84,49]).toArray 5 (0,0))):=⟨Z.out.1,(hb.block L (bL.1 Z.out.2).1).trans Z.out.2⟩;clear hs hb;go_wp2_with fail;refine aN ⟨⟨x1,K1.out⟩,rfl⟩ ?_;exact T11 (L,a1,n1) x1 ⟨K1,S1,Z1⟩
 intro T01;refine fZ (ι:=Option aF×Nat×Option aF×Nat×Option aF×Nat×Option aF×Nat×Option aF×Nat×Option aF×Nat×Option aF×Nat) (xk) (fun i=>cY gen g a q B0 B1 B2 az az (af i.1 2 i.2.1) (af i.2.2.1 1 i.2.2.2.1) (af i.2.2.2.2.1 1 i.2.2.2.2.2.1) (af i.2.2.2.2.2.2.1 2 i.2.2.2.2.2.2.2.1) (af i.2.2.2.2.2.2.2.2.1 2 i.2.2.2.2.2.2.2.2.2.1) (af i.2.2.2.2.2.2.2.2.2.2.1 2 i.2.2.2.2.2.2.2.2.2.2.2.1) (af i.2.2.2.2.2.2.2.2.2.2.2.2.1 4 i.2.2.2.2.2.2.2.2.2.2.2.2.2)) (fun i x=>w9h W x/\Hid (eo x [(af i.2.2.2.2.2.2.2.2.2.2.2.2.1 4 i.2.2.2.2.2.2.2.2.2.2.2.2.2,aJ q 4),(af i.2.2.2.2.2.2.2.2.2.2.1 2 i.2.2.2.2.2.2.2.2.2.2.2.1,aJ a 2),(af i.2.2.2.2.2.2.2.2.1 2 i.2.2.2.2.2.2.2.2.2.1,aJ g.r 2),(af i.2.2.2.2.2.2.1 2 i.2.2.2.2.2.2.2.1,aJ g.a 2),(af i.2.2.2.2.1 1 i.2.2.2.2.2.1,aJ g.y 1),(af i.2.2.1 1 i.2.2.2.1,aJ g.s 1),(af i.1 2 i.2.1,aJ g.b 2)])) ?_ ?_
 ·rintro⟨a1,n1,a2,n2,a3,n3,a4,n4,a5,n5,a6,n6,a7,n7⟩ x ⟨K,S⟩;try dsimp only
  try dsimp only at S Z
  unfold xk cY
  as_aux_lemma=>
   rw[aT];simp only[aB,aC];obtain⟨x1,hx⟩:=w9nm (x.alloc (an (aw [82,86,84,49]).toArray 5));have SB:(dh 76 4 #[(0,ab ay 82),(1,ab ay 86),(2,ab ay 84),(3,ab ay 49)]).run aj x=.ok (af (some ⟨x.heap.size,0,none⟩) 4 4) x1:=by rw[←hx];exact nd x
   have hb:ag x.heap.size x x1:=by rw[←hx];exact aH x _
   have hs:x1.heap[x.heap.size]? =some (an (aw [82,86,84,49]).toArray 5 (0,0)):=by rw[←hx];exact cD x _
   have K1:=w9bt K hb;obtain⟨L,hL⟩:=w9nm x.heap.size;have hWL:W.heap.size<=L:=by rw[←hL];exact K.out.size
   rw[hL]at SB hs;have S1:=ae (S.out.below hb);have Z1:Hid (W.heap.size<=L/\x1.heap[L]? =some (an (aw [82,86,84,49]).toArray 5 (0,0))):=⟨hWL,hs⟩;clear hs hb hx hL hWL;refine dR _ _ _ rfl rfl _ _ rfl SB ?_;clear SB;go_wp2_with fail;refine aN ⟨⟨x1,K1.out⟩,rfl⟩ ?_;exact T71 (L,a1,n1,a2,n2,a3,n3,a4,n4,a5,n5,a6,n6,a7,n7) x1 ⟨K1,S1,Z1⟩
 intro T70;refine fZ (ι:=Option aF×Nat×Option aF×Nat×Option aF×Nat×Option aF×Nat×Option aF×Nat×Option aF×Nat) (xl) (fun i=>cY gen g a q B0 B1 B2 az az (af i.1 2 i.2.1) (af i.2.2.1 1 i.2.2.2.1) (af i.2.2.2.2.1 1 i.2.2.2.2.2.1) (af i.2.2.2.2.2.2.1 2 i.2.2.2.2.2.2.2.1) (af i.2.2.2.2.2.2.2.2.1 2 i.2.2.2.2.2.2.2.2.2.1) (af i.2.2.2.2.2.2.2.2.2.2.1 2 i.2.2.2.2.2.2.2.2.2.2.2) az) (fun i x=>w9h W x/\Hid (eo x [(af i.2.2.2.2.2.2.2.2.2.2.1 2 i.2.2.2.2.2.2.2.2.2.2.2,aJ a 2),(af i.2.2.2.2.2.2.2.2.1 2 i.2.2.2.2.2.2.2.2.2.1,aJ g.r 2),(af i.2.2.2.2.2.2.1 2 i.2.2.2.2.2.2.2.1,aJ g.a 2),(af i.2.2.2.2.1 1 i.2.2.2.2.2.1,aJ g.y 1),(af i.2.2.1 1 i.2.2.2.1,aJ g.s 1),(af i.1 2 i.2.1,aJ g.b 2)])) ?_ ?_
 ·rintro⟨a1,n1,a2,n2,a3,n3,a4,n4,a5,n5,a6,n6⟩ x ⟨K,S⟩;try dsimp only
  try dsimp only at S Z
  unfold xl cY
  as_aux_lemma=>
   rw[jV];refine⟨?_, ?_⟩
   ·skip
    simp only[aB,aC];obtain⟨x1,hx⟩:=w9nm (x.alloc (an (aw [82,86,84,49]).toArray 5));have SB:(dh 76 4 #[(0,ab ay 82),(1,ab ay 86),(2,ab ay 84),(3,ab ay 49)]).run aj x=.ok (af (some ⟨x.heap.size,0,none⟩) 4 4) x1:=by rw[←hx];exact nd x
    have hb:ag x.heap.size x x1:=by rw[←hx];exact aH x _
    have hs:x1.heap[x.heap.size]? =some (an (aw [82,86,84,49]).toArray 5 (0,0)):=by rw[←hx];exact cD x _
    have K1:=w9bt K hb;obtain⟨L,hL⟩:=w9nm x.heap.size;have hWL:W.heap.size<=L:=by rw[←hL];exact K.out.size
    rw[hL]at SB hs;have S1:=ae (S.out.below hb);have Z1:Hid (W.heap.size<=L/\x1.heap[L]? =some (an (aw [82,86,84,49]).toArray 5 (0,0))):=⟨hWL,hs⟩;clear hs hb hx hL hWL;refine dR _ _ _ rfl rfl _ _ rfl SB ?_;clear SB;go_wp2_with fail;refine aN ⟨⟨x1,K1.out⟩,rfl⟩ ?_;exact T61 (L,a1,n1,a2,n2,a3,n3,a4,n4,a5,n5,a6,n6) x1 ⟨K1,S1,Z1⟩
   ·skip
    simp only[aB,aC];go_wp2_with fail;go_at_call 174;refine(HP7.out _).mono ?_;rintro e x1 ⟨a7,n7,rfl,hs,hb⟩;have K1:=w9bt K hb;have S1:=ae (S.out.put hb hs);clear hs hb;go_wp2_with fail;refine aN ⟨⟨x1,K1.out⟩,rfl⟩ ?_;exact T70 (a1,n1,a2,n2,a3,n3,a4,n4,a5,n5,a6,n6,a7,n7) x1 ⟨K1,S1⟩
 intro T60;refine fZ (ι:=Option aF×Nat×Option aF×Nat×Option aF×Nat×Option aF×Nat×Option aF×Nat) (xm) (fun i=>cY gen g a q B0 B1 B2 az az (af i.1 2 i.2.1) (af i.2.2.1 1 i.2.2.2.1) (af i.2.2.2.2.1 1 i.2.2.2.2.2.1) (af i.2.2.2.2.2.2.1 2 i.2.2.2.2.2.2.2.1) (af i.2.2.2.2.2.2.2.2.1 2 i.2.2.2.2.2.2.2.2.2) az az) (fun i x=>w9h W x/\Hid (eo x [(af i.2.2.2.2.2.2.2.2.1 2 i.2.2.2.2.2.2.2.2.2,aJ g.r 2),(af i.2.2.2.2.2.2.1 2 i.2.2.2.2.2.2.2.1,aJ g.a 2),(af i.2.2.2.2.1 1 i.2.2.2.2.2.1,aJ g.y 1),(af i.2.2.1 1 i.2.2.2.1,aJ g.s 1),(af i.1 2 i.2.1,aJ g.b 2)])) ?_ ?_
 ·rintro⟨a1,n1,a2,n2,a3,n3,a4,n4,a5,n5⟩ x ⟨K,S⟩;try dsimp only
  try dsimp only at S Z
  unfold xm cY
  as_aux_lemma=>
   rw[jV];refine⟨?_, ?_⟩
   ·skip
    simp only[aB,aC];obtain⟨x1,hx⟩:=w9nm (x.alloc (an (aw [82,86,84,49]).toArray 5));have SB:(dh 76 4 #[(0,ab ay 82),(1,ab ay 86),(2,ab ay 84),(3,ab ay 49)]).run aj x=.ok (af (some ⟨x.heap.size,0,none⟩) 4 4) x1:=by rw[←hx];exact nd x
    have hb:ag x.heap.size x x1:=by rw[←hx];exact aH x _
    have hs:x1.heap[x.heap.size]? =some (an (aw [82,86,84,49]).toArray 5 (0,0)):=by rw[←hx];exact cD x _
    have K1:=w9bt K hb;obtain⟨L,hL⟩:=w9nm x.heap.size;have hWL:W.heap.size<=L:=by rw[←hL];exact K.out.size
    rw[hL]at SB hs;have S1:=ae (S.out.below hb);have Z1:Hid (W.heap.size<=L/\x1.heap[L]? =some (an (aw [82,86,84,49]).toArray 5 (0,0))):=⟨hWL,hs⟩;clear hs hb hx hL hWL;refine dR _ _ _ rfl rfl _ _ rfl SB ?_;clear SB;go_wp2_with fail;refine aN ⟨⟨x1,K1.out⟩,rfl⟩ ?_;exact T51 (L,a1,n1,a2,n2,a3,n3,a4,n4,a5,n5) x1 ⟨K1,S1,Z1⟩
   ·skip
    simp only[aB,aC];go_wp2_with fail;go_at_call 174;refine(HP6.out _).mono ?_;rintro e x1 ⟨a6,n6,rfl,hs,hb⟩;have K1:=w9bt K hb;have S1:=ae (S.out.put hb hs);clear hs hb;go_wp2_with fail;refine aN ⟨⟨x1,K1.out⟩,rfl⟩ ?_;exact T60 (a1,n1,a2,n2,a3,n3,a4,n4,a5,n5,a6,n6) x1 ⟨K1,S1⟩
 intro T50;refine fZ (ι:=Option aF×Nat×Option aF×Nat×Option aF×Nat×Option aF×Nat) (xo) (fun i=>cY gen g a q B0 B1 B2 az az (af i.1 2 i.2.1) (af i.2.2.1 1 i.2.2.2.1) (af i.2.2.2.2.1 1 i.2.2.2.2.2.1) (af i.2.2.2.2.2.2.1 2 i.2.2.2.2.2.2.2) az az az) (fun i x=>w9h W x/\Hid (eo x [(af i.2.2.2.2.2.2.1 2 i.2.2.2.2.2.2.2,aJ g.a 2),(af i.2.2.2.2.1 1 i.2.2.2.2.2.1,aJ g.y 1),(af i.2.2.1 1 i.2.2.2.1,aJ g.s 1),(af i.1 2 i.2.1,aJ g.b 2)])) ?_ ?_
 ·rintro⟨a1,n1,a2,n2,a3,n3,a4,n4⟩ x ⟨K,S⟩;try dsimp only
  try dsimp only at S Z
  unfold xo cY
  as_aux_lemma=>
   rw[jV];refine⟨?_, ?_⟩
   ·skip
    simp only[aB,aC];obtain⟨x1,hx⟩:=w9nm (x.alloc (an (aw [82,86,84,49]).toArray 5));have SB:(dh 76 4 #[(0,ab ay 82),(1,ab ay 86),(2,ab ay 84),(3,ab ay 49)]).run aj x=.ok (af (some ⟨x.heap.size,0,none⟩) 4 4) x1:=by rw[←hx];exact nd x
    have hb:ag x.heap.size x x1:=by rw[←hx];exact aH x _
    have hs:x1.heap[x.heap.size]? =some (an (aw [82,86,84,49]).toArray 5 (0,0)):=by rw[←hx];exact cD x _
    have K1:=w9bt K hb;obtain⟨L,hL⟩:=w9nm x.heap.size;have hWL:W.heap.size<=L:=by rw[←hL];exact K.out.size
    rw[hL]at SB hs;have S1:=ae (S.out.below hb);have Z1:Hid (W.heap.size<=L/\x1.heap[L]? =some (an (aw [82,86,84,49]).toArray 5 (0,0))):=⟨hWL,hs⟩;clear hs hb hx hL hWL;refine dR _ _ _ rfl rfl _ _ rfl SB ?_;clear SB;go_wp2_with fail;refine aN ⟨⟨x1,K1.out⟩,rfl⟩ ?_;exact T41 (L,a1,n1,a2,n2,a3,n3,a4,n4) x1 ⟨K1,S1,Z1⟩
   ·skip
    simp only[aB,aC];go_wp2_with fail;go_at_call 174;refine(HP5.out _).mono ?_;rintro e x1 ⟨a5,n5,rfl,hs,hb⟩;have K1:=w9bt K hb;have S1:=ae (S.out.put hb hs);clear hs hb;go_wp2_with fail;refine aN ⟨⟨x1,K1.out⟩,rfl⟩ ?_;exact T50 (a1,n1,a2,n2,a3,n3,a4,n4,a5,n5) x1 ⟨K1,S1⟩
 intro T40;refine fZ (ι:=Option aF×Nat×Option aF×Nat×Option aF×Nat) (xp) (fun i=>cY gen g a q B0 B1 B2 az az (af i.1 2 i.2.1) (af i.2.2.1 1 i.2.2.2.1) (af i.2.2.2.2.1 1 i.2.2.2.2.2) az az az az) (fun i x=>w9h W x/\Hid (eo x [(af i.2.2.2.2.1 1 i.2.2.2.2.2,aJ g.y 1),(af i.2.2.1 1 i.2.2.2.1,aJ g.s 1),(af i.1 2 i.2.1,aJ g.b 2)])) ?_ ?_
 ·rintro⟨a1,n1,a2,n2,a3,n3⟩ x ⟨K,S⟩;try dsimp only
  try dsimp only at S Z
  unfold xp cY
  as_aux_lemma=>
   rw[jV];refine⟨?_, ?_⟩
   ·skip
    simp only[aB,aC];obtain⟨x1,hx⟩:=w9nm (x.alloc (an (aw [82,86,84,49]).toArray 5));have SB:(dh 76 4 #[(0,ab ay 82),(1,ab ay 86),(2,ab ay 84),(3,ab ay 49)]).run aj x=.ok (af (some ⟨x.heap.size,0,none⟩) 4 4) x1:=by rw[←hx];exact nd x
    have hb:ag x.heap.size x x1:=by rw[←hx];exact aH x _
    have hs:x1.heap[x.heap.size]? =some (an (aw [82,86,84,49]).toArray 5 (0,0)):=by rw[←hx];exact cD x _
    have K1:=w9bt K hb;obtain⟨L,hL⟩:=w9nm x.heap.size;have hWL:W.heap.size<=L:=by rw[←hL];exact K.out.size
    rw[hL]at SB hs;have S1:=ae (S.out.below hb);have Z1:Hid (W.heap.size<=L/\x1.heap[L]? =some (an (aw [82,86,84,49]).toArray 5 (0,0))):=⟨hWL,hs⟩;clear hs hb hx hL hWL;refine dR _ _ _ rfl rfl _ _ rfl SB ?_;clear SB;go_wp2_with fail;refine aN ⟨⟨x1,K1.out⟩,rfl⟩ ?_;exact T31 (L,a1,n1,a2,n2,a3,n3) x1 ⟨K1,S1,Z1⟩
   ·skip
    simp only[aB,aC];go_wp2_with fail;go_at_call 174;refine(HP4.out _).mono ?_;rintro e x1 ⟨a4,n4,rfl,hs,hb⟩;have K1:=w9bt K hb;have S1:=ae (S.out.put hb hs);clear hs hb;go_wp2_with fail;refine aN ⟨⟨x1,K1.out⟩,rfl⟩ ?_;exact T40 (a1,n1,a2,n2,a3,n3,a4,n4) x1 ⟨K1,S1⟩
 intro T30;refine fZ (ι:=Option aF×Nat×Option aF×Nat) (xq) (fun i=>cY gen g a q B0 B1 B2 az az (af i.1 2 i.2.1) (af i.2.2.1 1 i.2.2.2) az az az az az) (fun i x=>w9h W x/\Hid (eo x [(af i.2.2.1 1 i.2.2.2,aJ g.s 1),(af i.1 2 i.2.1,aJ g.b 2)])) ?_ ?_
 ·rintro⟨a1,n1,a2,n2⟩ x ⟨K,S⟩;try dsimp only
  try dsimp only at S Z
  unfold xq cY
  as_aux_lemma=>
   rw[jV];refine⟨?_, ?_⟩
   ·skip
    simp only[aB,aC];obtain⟨x1,hx⟩:=w9nm (x.alloc (an (aw [82,86,84,49]).toArray 5));have SB:(dh 76 4 #[(0,ab ay 82),(1,ab ay 86),(2,ab ay 84),(3,ab ay 49)]).run aj x=.ok (af (some ⟨x.heap.size,0,none⟩) 4 4) x1:=by rw[←hx];exact nd x
    have hb:ag x.heap.size x x1:=by rw[←hx];exact aH x _
    have hs:x1.heap[x.heap.size]? =some (an (aw [82,86,84,49]).toArray 5 (0,0)):=by rw[←hx];exact cD x _
    have K1:=w9bt K hb;obtain⟨L,hL⟩:=w9nm x.heap.size;have hWL:W.heap.size<=L:=by rw[←hL];exact K.out.size
    rw[hL]at SB hs;have S1:=ae (S.out.below hb);have Z1:Hid (W.heap.size<=L/\x1.heap[L]? =some (an (aw [82,86,84,49]).toArray 5 (0,0))):=⟨hWL,hs⟩;clear hs hb hx hL hWL;refine dR _ _ _ rfl rfl _ _ rfl SB ?_;clear SB;go_wp2_with fail;refine aN ⟨⟨x1,K1.out⟩,rfl⟩ ?_;exact T21 (L,a1,n1,a2,n2) x1 ⟨K1,S1,Z1⟩
   ·skip
    simp only[aB,aC];go_wp2_with fail;go_at_call 174;refine(HP3.out _).mono ?_;rintro e x1 ⟨a3,n3,rfl,hs,hb⟩;have K1:=w9bt K hb;have S1:=ae (S.out.put hb hs);clear hs hb;go_wp2_with fail;refine aN ⟨⟨x1,K1.out⟩,rfl⟩ ?_;exact T30 (a1,n1,a2,n2,a3,n3) x1 ⟨K1,S1⟩
 intro T20;refine fZ (ι:=Option aF×Nat) (xr) (fun i=>cY gen g a q B0 B1 B2 az az (af i.1 2 i.2) az az az az az az) (fun i x=>w9h W x/\Hid (eo x [(af i.1 2 i.2,aJ g.b 2)])) ?_ ?_
 ·rintro⟨a1,n1⟩ x ⟨K,S⟩;try dsimp only
  try dsimp only at S Z
  unfold xr cY
  as_aux_lemma=>
   rw[jV];refine⟨?_, ?_⟩
   ·skip
    simp only[aB,aC];obtain⟨x1,hx⟩:=w9nm (x.alloc (an (aw [82,86,84,49]).toArray 5));have SB:(dh 76 4 #[(0,ab ay 82),(1,ab ay 86),(2,ab ay 84),(3,ab ay 49)]).run aj x=.ok (af (some ⟨x.heap.size,0,none⟩) 4 4) x1:=by rw[←hx];exact nd x
    have hb:ag x.heap.size x x1:=by rw[←hx];exact aH x _
    have hs:x1.heap[x.heap.size]? =some (an (aw [82,86,84,49]).toArray 5 (0,0)):=by rw[←hx];exact cD x _
    have K1:=w9bt K hb;obtain⟨L,hL⟩:=w9nm x.heap.size;have hWL:W.heap.size<=L:=by rw[←hL];exact K.out.size
    rw[hL]at SB hs;have S1:=ae (S.out.below hb);have Z1:Hid (W.heap.size<=L/\x1.heap[L]? =some (an (aw [82,86,84,49]).toArray 5 (0,0))):=⟨hWL,hs⟩;clear hs hb hx hL hWL;refine dR _ _ _ rfl rfl _ _ rfl SB ?_;clear SB;go_wp2_with fail;refine aN ⟨⟨x1,K1.out⟩,rfl⟩ ?_;exact T11 (L,a1,n1) x1 ⟨K1,S1,Z1⟩
   ·skip
    simp only[aB,aC];go_wp2_with fail;go_at_call 174;refine(HP2.out _).mono ?_;rintro e x1 ⟨a2,n2,rfl,hs,hb⟩;have K1:=w9bt K hb;have S1:=ae (S.out.put hb hs);clear hs hb;go_wp2_with fail;refine aN ⟨⟨x1,K1.out⟩,rfl⟩ ?_;exact T20 (a1,n1,a2,n2) x1 ⟨K1,S1⟩
 intro T10;have S:Hid (eo x0 []):=eo.nil _;obtain⟨x,hx0⟩:=w9nm x0;rw[hx0]at S K0;try rw[hx0]
 clear hx0;have K:=K0;unfold Dr;rw[jV];refine⟨?_, ?_⟩
 ·skip
  simp only[aB,aC];obtain⟨x1,hx⟩:=w9nm (x.alloc (an (aw [82,86,84,49]).toArray 5));have SB:(dh 76 4 #[(0,ab ay 82),(1,ab ay 86),(2,ab ay 84),(3,ab ay 49)]).run aj x=.ok (af (some ⟨x.heap.size,0,none⟩) 4 4) x1:=by rw[←hx];exact nd x
  have hb:ag x.heap.size x x1:=by rw[←hx];exact aH x _
  have hs:x1.heap[x.heap.size]? =some (an (aw [82,86,84,49]).toArray 5 (0,0)):=by rw[←hx];exact cD x _
  have K1:=w9bt K hb;obtain⟨L,hL⟩:=w9nm x.heap.size;have hWL:W.heap.size<=L:=by rw[←hL];exact K.out.size
  rw[hL]at SB hs;have S1:=ae (S.out.below hb);have Z1:Hid (W.heap.size<=L/\x1.heap[L]? =some (an (aw [82,86,84,49]).toArray 5 (0,0))):=⟨hWL,hs⟩;clear hs hb hx hL hWL;refine dR _ _ _ rfl rfl _ _ rfl SB ?_;clear SB;go_wp2_with fail;refine aN ⟨⟨x1,K1.out⟩,rfl⟩ ?_;exact T01 L x1 ⟨K1,S1,Z1⟩
 ·skip
  simp only[aB,aC];go_wp2_with fail;go_at_call 174;refine(HP1.out _).mono ?_;rintro e x1 ⟨a1,n1,rfl,hs,hb⟩;have K1:=w9bt K hb;have S1:=ae (S.out.put hb hs);clear hs hb;go_wp2_with fail;refine aN ⟨⟨x1,K1.out⟩,rfl⟩ ?_;exact T10 (a1,n1) x1 ⟨K1,S1⟩
end
section
attribute [-go_sem] aE aL
attribute [local go_sem] nL nM
attribute [local go_sem] Oper.semAt_some
def ei (cs:List Int) (k:Nat):Int:=cs[k]?.getD 0
def dA (cs:List Int) (k:Nat):Int:=(cs.take k).sum
theorem xt (cs:List Int) {k:Nat} (h:k<cs.length):dA cs (k+1)=dA cs k+ei cs k:=by
 unfold dA;unfold ei;rw[List.take_succ_eq_append_getElem h,aZ h,List.sum_append];simp
theorem tT (cs:List Int) (h:∀k:Nat,0<=ei cs k/\ei cs k<=1000):∀k,0<=dA cs k/\dA cs k<=1000*k
 | 0=>by simp[dA]
 | k+1=>by
  have:=tT cs h k;by_cases hk:k<cs.length
  ·rw[xt cs hk];have:=h k;omega
  ·have e:dA cs (k+1)=dA cs k:=by unfold dA;rw[de (by omega),de (by omega)]
   rw[e];omega
def qQ (cs:List Int) {m:Nat} (x:Fin m):Array ak:=#[ab ac (x.1:Int),al #[ab ac (dA cs x.1),ab ac (ei cs x.1)]]
structure Cnts (cs:List Int):Prop where
 len:cs.length<=4
 bd:∀k:Nat,0<=ei cs k/\ei cs k<=1000
structure LaidR (W:ah) (Bs:Nat) (cs:List Int) (a:Option aF) (b:Nat):Prop where
 box:Boxed W Bs 41 (af a cs.length cs.length)
 lt:Bs<W.heap.size
 blt:b<W.heap.size
 row:cs.length=0\/(a=some ⟨b,0,none⟩/\∀j,j<cs.length->W.cell? ⟨b,0+j,none⟩=some (ab ac (ei cs j)))
theorem LaidR.below {W W':ah} {Bs b:Nat} {cs:List Int} {a:Option aF} (h:LaidR W Bs cs a b) (hb:ag W.heap.size W W'):LaidR W' Bs cs a b:=
 ⟨(hb.block Bs h.lt).trans h.box,bq h.lt hb.size,bq h.blt hb.size,h.row.imp id fun⟨e,h2⟩=>⟨e,fun j hj=>(hb.cell (p:=⟨b,0+j,none⟩) h.blt).trans (h2 j hj)⟩⟩
section
theorem NW (f c:Int) (w:ah):(df 284 #[(0,ab ac f),(1,ab ac c)]).run aj w=.ok (al #[ab ac f,ab ac c]) w:=by kernel_rfl
theorem NX (F:Fence) (n:Nat) (hf:F.fn 194) (hro:F.round=none) (a:Option aF) (len cap:Nat) (w:ah):
  CallsIn F n aj 194 #[af a len cap] w fun e w'=>e=ao (.func (.func 260) #[] #[am (some ⟨w.heap.size,0,none⟩)])/\w'=w.alloc (an #[af a len cap] 41):=by
 refine callsIn_of_wp func194 rfl hf ?_ hro;simp only[ntmps194,cJ,bz,cx,Nat.reduceAdd,Nat.reduceSub,cO,cP,cQ,cR,cy,cC]
 gi_wp2
 go_ret;exact⟨rfl,rfl⟩
attribute [local go_sem] NW
theorem NY (n:Nat) (hn:1<=n) (l Bs b:Nat) (cs:List Int) (a:Option aF) (hcs:Cnts cs)
  (J Jx:List (Fin cs.length)->ah->Prop)
  (hY:∀pre x W,J pre W->pre.length<cs.length->YieldAt Fence.wide (n - 1) aj l (qQ cs x) W fun e W'=>
   (e=ao (.bool true)/\J (pre++ [x]) W'/\dG (fun k=>k=Bs\/k=b) W W')\/(e=ao (.bool false)/\Jx (pre++ [x]) W'))
  (W:ah) (hL:LaidR W Bs cs a b) (h0:J [] W):
  CallsIn Fence.wide n aj 260 #[.func (.yield l) #[] #[],am (some ⟨Bs,0,none⟩)] W fun e W'=>(∃v,e=ao v)/\
   ((∃ys,ys=iH cs.length/\J ys W')\/(∃pre,(∃k,k<=cs.length/\pre=iz cs.length k)/\Jx pre W')):=by
 refine callsIn_of_wp func260 rfl trivial ?_ rfl;simp only[ntmps260,cJ,bz,cx,Nat.reduceAdd,Nat.reduceSub,cO,cP,cQ,cR,cy,cC];have c0:=hL.box.cell;have HL:=ae hL;have HCS:=ae hcs;obtain⟨m,hm⟩:=w9nm cs.length;have HM:=ae hm;have hmx:m<=4:=by rw[←hm];exact hcs.len
 rw[hm]at c0;clear hL hcs hm
 gi_wp2
 gi_loopw [3,8] (fun f i wr=>∃k:Nat,k<=m/\i=ab ac k/\f=ab ac (dA cs k)/\J (iz cs.length k) wr/\Hid (dG (fun k=>k=Bs\/k=b) W wr)) (fun f i _=>m - (aS i).toNat)
 case atStart=>exact⟨0,bc _,rfl,rfl,h0,dG.refl _ _⟩
 case round=>
  obtain⟨k,hk,rfl,rfl,hJs,HK⟩:=hrel;by_cases hlt:k<m
  ·have hlt':k<cs.length:=by rw[HM.out];exact hlt
   obtain⟨rfl,hc⟩:a=some ⟨b,0,none⟩/\∀j,j<cs.length->W.cell? ⟨b,0+j,none⟩=some (ab ac (ei cs j)):=by
    rcases HL.out.row with h | h
    ·omega
    ·exact h
   have c2:wr.cell? ⟨b,k,none⟩=some (ab ac (ei cs k)):=by have:=(HK.out.cell (p:=⟨b,0+k,none⟩) (aD rfl)).trans (hc k hlt');rwa [dP]at this
   obtain⟨fn,tmps,assign,body,hy,hR⟩:=hY _ ⟨k,hlt'⟩ wr hJs (by rw[sk _ k (by omega)];exact hlt');unfold qQ at hy
   dsimp only at hy
   have HSU:=ae (xt cs hlt');obtain⟨s1,s2⟩:=tT cs HCS.out.bd k;obtain⟨q1,q2⟩:=HCS.out.bd k;obtain⟨y,hY'⟩:∃y,ei cs k=y:=⟨_,rfl⟩;obtain⟨s,hS⟩:=w9nm (dA cs k);rw[hY']at c2 hy q1 q2 HSU;rw[hS]at hy s1 s2 HSU ⊢;have hkm:(k:Int)< (m:Int):=by omega
   have s3:s<=4000:=by omega
   clear hc hY' hS
   gi_wp2
   refine hR.mono ?_;rintro e W3 (⟨rfl,hJ3,hk3⟩ | ⟨rfl,hJx3⟩)
   ·have HK3:Hid (dG (fun k=>k=Bs\/k=b) W W3):=jJ HK.out hk3;clear hk3
    gi_wp2
    go_roundw
    case rel=>exact⟨k+1,by omega,by simp,by rw[HSU.out],by rw[mB cs.length k hlt'];exact hJ3,HK3⟩
    case measure=>simp[aS];omega
   ·gi_wp2
    refine bo (results_none rfl _ _ _) rfl ?_;exact⟨⟨_,rfl⟩,aD ⟨_,⟨k+1,by omega,(mB cs.length k hlt').symm⟩,hJx3⟩⟩
  ·have hJe:J (iz cs.length cs.length) wr:=by
    have e:k=cs.length:=by have:=HM.out;omega
    rw[e]at hJs;exact hJs
   obtain rfl:k=m:=by omega
   gi_wp2
   go_end0
   exact⟨⟨_,rfl⟩,aA ⟨_,rfl,by rw[←qf];exact hJe⟩⟩
theorem Dt (n:Nat) (hn:1<=n) (Bs b:Nat) (cs:List Int) (a:Option aF) (hcs:Cnts cs) (w:ah) (hL:LaidR w Bs cs a b):
  SeqStopsK Fence.wide n aj 260 #[am (some ⟨Bs,0,none⟩)] (qQ cs (m:=cs.length)) (dG fun k=>k=Bs\/k=b) (fun ys=>ys=iH cs.length) (fun _=>True) cs.length w:=fun l J Jx W hW hJ _ hY h0=>
 (NY n hn l Bs b cs a hcs J Jx hY W (hL.below hW) h0).mono fun e W' ⟨he,h⟩=>⟨he,h.imp id fun⟨pre,_,hj⟩=>⟨pre,trivial,hj⟩⟩
end
end
section
attribute [-simp] isAgg284 zeroValue284
attribute [-go_sem] aE aL
attribute [local go_sem] Oper.semAt_some
def jB (f c:Int):List ak:= [ab ac f,ab ac c]
theorem NZ (t:aR) (h:t≠ 284) (a:aF):aE t a=(do if←isAgg t then pure (al (←loadCells a (←sizeOf t)))else load a):=rfl
theorem Oa (t:aR) (h:t≠ 284) (a:aF) (v:ak):aL t a v=(do
  if v.cells.size≠(←sizeOf t)then stuck "storeVar: the value has not the size of the variable"
  storeCells a v.cells.toList):=rfl
theorem Ob (w:ah):(zeroValue 284).run aj w=.ok (al #[ab ac 0,ab ac 0]) w:=by kernel_rfl
theorem Oc (w:ah):(df 284 #[]).run aj w=.ok (al #[ab ac 0,ab ac 0]) w:=by kernel_rfl
theorem Du:(aj.info? 284).map (·.size)=some 2:=by kernel_rfl
set_option maxRecDepth 100000 in
theorem xu {x:ah} {B:Nat} {t:aR} {f c:Int} (hr:aq x B t (jB f c)):(aE 284 ⟨B,0,none⟩).run aj x=.ok (al #[ab ac f,ab ac c]) x:=
 jF x B 0 _ (jB f c) _ hr.range Tryz.underlying284 rfl (by kernel_rfl)
theorem Dv {x:ah} {B:Nat} {old:List ak} {f c:Int} (hr:aq x B 284 old) (ho:old.length=2):
  ∃y,(aL 284 ⟨B,0,none⟩ (al #[ab ac f,ab ac c])).run aj x=.ok () y/\aq y B 284 (jB f c)/\x.grownBy y (some B):=by
 refine⟨_,run_storeVar_row x B _ _ old.toArray (jB f c).toArray hr Du (by simpa [jB]using ho) (by kernel_rfl),setRow_heap x B _ _ _ _ hr, ?_⟩;exact⟨rfl,rfl,rfl,by rw[setRow_size];exact aG _,fun k _ hk=>setRow_other x B k _ (fun e=>hk (by rw[e]))⟩
theorem Dw (x:ah) (f c:Int):(aL 284 ⟨x.heap.size,0,none⟩ (al #[ab ac f,ab ac c])).run aj (x.alloc (an #[ab ac 0,ab ac 0] 284))=.ok () (x.alloc (an #[ab ac f,ab ac c] 284)):=
 kQ x _ _ (jB f c).toArray Du rfl (by kernel_rfl)
theorem mM {x y:ah} {B N:Nat} {t:aR} {C:List ak} {row:Option Nat} (h:aq x B t C) (hg:x.grownBy y row) (hr:∀r,row=some r->N<=r/\∃o:Obj,x.heap[r]? =some o/\o.isCells=false):aq y B t C:=
 (hg.block B h.lt (fun e=>by
  obtain⟨-,o,ho,hc⟩:=hr B e.symm;rw[show x.heap[B]? =_ from h]at ho;cases ho;cases hc)).trans h
def io (cs:List Int) (p:Nat):Int:=if p<cs.length then dA cs p else 0
def iV (cs:List Int) (p:Nat):Int:=if p<cs.length then ei cs p else 0
attribute [local go_sem] NZ Oa Ob Oc
theorem Dx {B:Nat} {x y:ah} {b:Nat} {C:List ak} {t:aR} (h:aq x b t C) (hg:x.grownBy y (some b)):KeepsFrom B x y:=⟨hg.size,fun k o hk ho hc=>by
 refine(hg.block k (bL.1 ho).1 (fun e=> ?_)).trans ho;obtain rfl:b=k:=by cases e;rfl
 rw[show x.heap[b]? =_ from h]at ho;cases ho;cases hc⟩
section
theorem tU (cs:List Int) (hcs:Cnts cs) (Bs b p:Nat) (a:Option aF) (w:ah) (hL:LaidR w Bs cs a b):
  ap aj 211 #[.func (.func 260) #[] #[am (some ⟨Bs,0,none⟩)],ab ac (p:Int)] w fun e w'=>e=ao (al #[ab ac (io cs p),ab ac (iV cs p)])/\ag w.heap.size w w':=by
 refine(callsIn_wide (n:=3)).1 ?_;refine gA func211 rfl trivial ?_ rfl;simp only[ntmps211,cJ,bz,cx,Nat.reduceAdd,Nat.reduceSub,cO,cP,cQ,cR,cy,cC];have HL:=ae hL;have HCS:=ae hcs;obtain⟨B,hB⟩:=w9nm w.heap.size;have HSZ:=ae hB;have hltB:Hid (Bs<B):=by show _<_;rw[←hB];exact hL.lt
 have hbB:Hid (b<B):=by show _<_;rw[←hB];exact hL.blt
 clear hL hcs
 gi_wp2
 obtain⟨W0,hW0⟩:=w9nm ((w.alloc (an #[ab ac (p:Int)] 3)).alloc (an #[ab ac 0,ab ac 0] 284));have bv:Boxed W0 B 3 (ab ac (p:Int)):=by rw[←hW0,←hB];exact(dD w _ _).alloc _
 have br:aq W0 (B+1) 284 (jB 0 0):=by
  rw[←hW0,←hB];have:=aq.new (w.alloc (an #[ab ac (p:Int)] 3)) 284 (jB 0 0)
  rwa [bO]at this
 have hB0:ag B w W0:=by rw[←hW0,←hB];exact((aI _ w).alloc (aG _) _).alloc (by simp) _
 have hsz0:W0.heap.size=B+2:=by rw[←hW0,←hB];simp
 have hL0:LaidR W0 Bs cs a b:=HL.out.below (by show ag _ _ _;rw[hB];exact hB0);try rw[hW0]
 clear hW0;have hS:∀k,(k=Bs\/k=b)->k<B:=by rintro k (rfl | rfl);exact hltB.out;exact hbB.out
 have HS:=ae hS;have HL0:=ae hL0;have HB:Hid (∀W,ag B w W->w.heap.size<=W.heap.size):=fun W h=>h.size;have HKA:Hid (∀(W:ah) (o:Obj),ag B w W->dG (fun k=>k=Bs\/k=b) W (W.alloc o)):=fun W o h=>⟨by simp,fun k hk=>Below.heap_alloc _ _ _ (by have:=hS k hk;have:=h.size;omega)⟩;clear hS hL0;refine wpIn_rangeFunc_ownH (n:=3) rfl (by omega) (gf:= 260) (lb:=#[am (some ⟨Bs,0,none⟩)]) rfl trivial (enters_of func260 (by kernel_rfl) rfl)
  (Dt 2 (by omega) Bs b cs a HCS.out W0 HL0.out) jJ (qi (fun k hk=>by have:=HS.out k hk;omega)) (aI _ _) (fun _=>rfl)
  (fun pre W=>Boxed W B 3 (ab ac (p:Int))/\aq W (B+1) 284 (jB 0 0)/\ag B w W/\∀y ∈ pre,y.1≠p)
  (fun c pre W=>c=.ret/\aq W (B+1) 284 (jB (io cs p) (iV cs p))/\ag B w W)
  ?hI ?hIx ⟨bv,br,hB0,fun y hy=>by cases hy⟩
  (fun x a' W=>∃C,B+1<C/\aq W C 284 (jB (dA cs x.1) (ei cs x.1))/\a'={tmps:=#[.func (.func 260) #[] #[am (some ⟨Bs,0,none⟩)],ab ac (p:Int),az,am (some ⟨B,0,none⟩),am (some ⟨B+1,0,none⟩),ab ac (x.1:Int),am (some ⟨C,0,none⟩),.func (.func 260) #[] #[am (some ⟨Bs,0,none⟩)],ab ac (x.1:Int),al #[ab ac (dA cs x.1),ab ac (ei cs x.1)],az,az,az,az,az],defers:= []})
  ?hAx ?assign ?body ?done ?stop
 case hI=>
  intro s X Y row ⟨h1,h2,h3,h4⟩ hg hr;exact⟨boxed_own _ _ (fun _:Unit=>_) () X Y row h1 hg (fun r e=>(hr r e).2),mM h2 hg hr,ownFrom_below (β:=Unit) (by omega) (by omega) () X Y row h3 hg hr,h4⟩
 case hIx=>
  intro c s X Y row ⟨h1,h2,h3⟩ hg hr;exact⟨h1,mM h2 hg hr,ownFrom_below (β:=Unit) (by omega) (by omega) () X Y row h3 hg hr⟩
 case hAx=>
  rintro x a' _ X Y row ⟨C,h1,h2,h3⟩ hg hr;exact⟨C,h1,mM h2 hg hr,h3⟩
 case assign=>
  rintro l pre x W K ⟨h1,h2,h3,h4⟩ hK;have ST:=Dw W (dA cs x.1) (ei cs x.1);have HZ:Hid (B+1<W.heap.size):=h2.lt;have H3:=ae h3;have hK:=hK _ _ ((KeepsOthers.alloc W (an #[ab ac (dA cs x.1),ab ac (ei cs x.1)] 284)).from _) (HKA.out W _ h3) ⟨h1.alloc _,h2.belowN (aH W _) HZ.out,h3.alloc (by have:=HZ.out;omega) _,h4⟩ ⟨W.heap.size,HZ.out,aq.new W _ _,rfl⟩;clear h1 h2 h3 h4
  dsimp only[qQ]
  gi_wp2
  exact hK
 case body=>
  rintro l pre x a' W _ _ ⟨h1,h2,h3,h4⟩ ⟨C,hC,hx,rfl⟩ hlen;have d1:=h1.cell;have d2:=xu hx;have hxl:=x.2;obtain⟨y,ST,hy,hgy⟩:=Dv (f:=dA cs x.1) (c:=ei cs x.1) h2 rfl;have HKF:Hid (KeepsFrom W0.heap.size W y):=Dx h2 hgy;have H1:=ae h1;have H2:=ae h2;have H3:=ae h3;have H4:=ae h4;have HY:=ae hy;have HGY:Hid (ag B w y):=h3.grown hgy (by have:=h3.size;omega) (fun j e=>by cases e;omega);clear h1 h2 h3 h4 hx hy hgy;by_cases q:(x.1:Int)=(p:Int)
  ·have q1:((x.1:Int)==(p:Int))=true:=by simpa using q
   have HQ:Hid (x.1=p):=by show _=_;omega
   have HXL:=ae hxl;clear q hxl
   gi_wp2
   refine⟨HKF.out,rfl, ?_,HGY.out⟩;have e1:io cs p=dA cs x.1:=by unfold io;rw[←HQ.out,if_pos HXL.out]
   have e2:iV cs p=ei cs x.1:=by unfold iV;rw[←HQ.out,if_pos HXL.out]
   rw[e1,e2];exact HY.out
  ·have q1:((x.1:Int)==(p:Int))=false:=by simpa using q
   have HQ:Hid (x.1≠p):=by show _≠_;omega
   clear q hxl
   gi_wp2
   refine⟨KeepsFrom.refl _ _,dG.refl _ _,H1.out,H2.out,H3.out,fun y hy=> ?_⟩;rcases gc.1 hy with hy | hy
   ·exact H4.out y hy
   ·rw[eF.1 hy];exact HQ.out
 case done=>
  rintro D xs W hD rfl ⟨h1,h2,h3,h4⟩ hK;have hp:¬p<cs.length:=fun h=>h4 ⟨p,h⟩ (List.mem_finRange _) rfl;have HE:Hid (io cs p=0/\iV cs p=0):=⟨if_neg hp,if_neg hp⟩;obtain⟨y,ST,hy,hgy⟩:=Dv (f:=0) (c:=0) h2 rfl;have hKy:=(Dx (B:=0) h2 hgy).same D _ (bc _) hK rfl;have HKY:=ae hKy;have HY:=ae hy;have HGY:Hid (ag B w y):=h3.grown hgy (by have:=h3.size;omega) (fun j e=>by cases e;omega);clear h1 h2 h3 h4 hp hy hgy hKy hK
  gi_wp2
  refine⟨by simp,aA ⟨_,_,rfl,eU HKY.out, ?_⟩⟩;have hg2:=grownBy_putObj' y D (.deferred none);have hy2:aq _ (B+1) 284 (jB 0 0):=mM (N:=0) HY.out hg2 (fun r e=>by cases e;exact⟨bc _,_,HKY.out,rfl⟩);refine⟨_,ev rfl rfl (xu hy2),by rw[HE.out.1,HE.out.2], ?_⟩;rw[HSZ.out];exact HGY.out.trans (belowK_b (w:=w) (by omega) y D _ _ (by omega) HKY.out rfl rfl)
 case stop=>
  rintro D c pre W hD _ ⟨rfl,h2,h3⟩ hK;have HR:=ae h2;have H3:=ae h3;have HK:=ae hK;clear h2 h3 hK
  gi_wp2
  refine⟨by simp,aA ⟨_,_,rfl,eU HK.out, ?_⟩⟩;have hg2:=grownBy_putObj' W D (.deferred none);have hy2:aq _ (B+1) 284 (jB (io cs p) (iV cs p)):=mM (N:=0) HR.out hg2 (fun r e=>by cases e;exact⟨bc _,_,HK.out,rfl⟩);refine⟨_,ev rfl rfl (xu hy2),rfl, ?_⟩;rw[HSZ.out];exact H3.out.trans (belowK_b (w:=w) (by omega) W D _ _ (by omega) HK.out rfl rfl)
def py (cs:List Int) {m:Nat} (xs:List (Fin m)):Int:=(xs.getLast?.map fun y=>dA cs y.1+ei cs y.1).getD 0
theorem Dy (cs:List Int) {m:Nat} (xs:List (Fin m)) (x:Fin m):py cs (xs++ [x])=dA cs x.1+ei cs x.1:=by
 unfold py;rw[List.getLast?_concat]
 rfl
theorem Od (cs:List Int):py cs (iH cs.length)=dA cs cs.length:=by
 have key:∀(n:Nat) (h:n<=cs.length),py cs (iz cs.length n)=dA cs n:=by
  intro n h;cases n with
  | zero=>rfl
  | succ n=>rw[mB cs.length n h,Dy,xt cs h]
 rw[←qf];exact key _ (aG _)
theorem Dz (cs:List Int) (hcs:Cnts cs) (Bs b:Nat) (a:Option aF) (w:ah) (hL:LaidR w Bs cs a b):
  ap aj 112 #[.func (.func 260) #[] #[am (some ⟨Bs,0,none⟩)]] w fun e w'=>e=ao (ab ac (dA cs cs.length))/\ag w.heap.size w w':=by
 refine(callsIn_wide (n:=3)).1 ?_;refine gA func112 rfl trivial ?_ rfl;simp only[ntmps112,cJ,bz,cx,Nat.reduceAdd,Nat.reduceSub,cO,cP,cQ,cR,cy,cC];have HL:=ae hL;have HCS:=ae hcs;obtain⟨B,hB⟩:=w9nm w.heap.size;have HSZ:=ae hB;have hltB:Hid (Bs<B):=by show _<_;rw[←hB];exact hL.lt
 have hbB:Hid (b<B):=by show _<_;rw[←hB];exact hL.blt
 clear hL hcs
 gi_wp2
 obtain⟨W0,hW0⟩:=w9nm (w.alloc (an #[ab ac 0] 3));have bv:Boxed W0 B 3 (ab ac 0):=by rw[←hW0,←hB];exact dD w _ _
 have hB0:ag B w W0:=by rw[←hW0,←hB];exact(aI _ w).alloc (aG _) _
 have hsz0:W0.heap.size=B+1:=by rw[←hW0,←hB];simp
 have hL0:LaidR W0 Bs cs a b:=HL.out.below (by show ag _ _ _;rw[hB];exact hB0);try rw[hW0]
 clear hW0;have hS:∀k,(k=Bs\/k=b)->k<B:=by rintro k (rfl | rfl);exact hltB.out;exact hbB.out
 have HS:=ae hS;have HL0:=ae hL0;have HKA:Hid (∀(W:ah) (o:Obj),ag B w W->dG (fun k=>k=Bs\/k=b) W (W.alloc o)):=fun W o h=>⟨by simp,fun k hk=>Below.heap_alloc _ _ _ (by have:=hS k hk;have:=h.size;omega)⟩;clear hS hL0;refine wpIn_rangeFunc_ownH (n:=3) rfl (by omega) (gf:= 260) (lb:=#[am (some ⟨Bs,0,none⟩)]) rfl trivial (enters_of func260 (by kernel_rfl) rfl)
  (Dt 2 (by omega) Bs b cs a HCS.out W0 HL0.out) jJ (qi (fun k hk=>by have:=HS.out k hk;omega)) (aI _ _) (fun _=>rfl)
  (fun pre W=>Boxed W B 3 (ab ac (py cs pre))/\ag B w W)
  (fun _ _ _=>False)
  ?hI (fun _ _ _ _ _ h _ _=>h.elim) ⟨bv,hB0⟩
  (fun x a' W=>∃C,B<C/\aq W C 284 (jB (dA cs x.1) (ei cs x.1))/\a'={tmps:=#[.func (.func 260) #[] #[am (some ⟨Bs,0,none⟩)],az,ab ac 0,am (some ⟨B,0,none⟩),az,am (some ⟨C,0,none⟩),.func (.func 260) #[] #[am (some ⟨Bs,0,none⟩)],ab ac (x.1:Int),al #[ab ac (dA cs x.1),ab ac (ei cs x.1)],az,az,az,az,az,az],defers:= []})
  ?hAx ?assign ?body ?done ?stop
 case hI=>
  intro s X Y row ⟨h1,h3⟩ hg hr;exact⟨boxed_own _ _ (fun _:Unit=>_) () X Y row h1 hg (fun r e=>(hr r e).2),ownFrom_below (β:=Unit) (by omega) (by omega) () X Y row h3 hg hr⟩
 case hAx=>
  rintro x a' _ X Y row ⟨C,h1,h2,h3⟩ hg hr;exact⟨C,h1,mM h2 hg hr,h3⟩
 case assign=>
  rintro l pre x W K ⟨h1,h3⟩ hK;have ST:=Dw W (dA cs x.1) (ei cs x.1);have HZ:Hid (B<W.heap.size):=h1.lt;have hK:=hK _ _ ((KeepsOthers.alloc W (an #[ab ac (dA cs x.1),ab ac (ei cs x.1)] 284)).from _) (HKA.out W _ h3) ⟨h1.alloc _,h3.alloc (by have:=HZ.out;omega) _⟩ ⟨W.heap.size,HZ.out,aq.new W _ _,rfl⟩;clear h1 h3
  dsimp only[qQ]
  gi_wp2
  exact hK
 case body=>
  rintro l pre x a' W _ _ ⟨h1,h3⟩ ⟨C,hC,hx,rfl⟩ hlen;have d1:=h1.cell;have d2:=h1.frozen;have k0:W.cell? ⟨C,0,none⟩=some (ab ac (dA cs x.1)):=hx.cell 0 _ rfl;have k1:W.cell? ⟨C,1,none⟩=some (ab ac (ei cs x.1)):=hx.cell 1 _ rfl;have hxl:=x.2;have hc4:=HCS.out.len;obtain⟨s1,s2⟩:=tT cs HCS.out.bd x.1;obtain⟨q1,q2⟩:=HCS.out.bd x.1;have HV:=ae (Dy cs pre x);obtain⟨s,hs⟩:=w9nm (dA cs x.1);obtain⟨c,hcc⟩:=w9nm (ei cs x.1);obtain⟨e,he⟩:=w9nm (py cs pre);rw[hs]at k0 s1 s2 HV ⊢;rw[hcc]at k1 q1 q2 HV ⊢;rw[he]at h1 d1;have s3:s<=4000:=by omega
  have H1:=ae h1;have H3:=ae h3;have HBL:Hid (∀k,(k=Bs\/k=b)->k≠B):=fun k hk=>by have:=HS.out k hk;omega
  clear h1 h3 hx hs hcc he hxl hc4 s2
  gi_wp2
  refine⟨(iK _ _ _).from _,⟨(KeepsWalks.setCell W _ _).size,fun k hk=>eG _ _ _ k (HBL.out k hk)⟩, ?_,H3.out.setCell (p:=⟨B,0,none⟩) (aG _) _⟩;rw[HV.out];exact H1.out.set _
 case done=>
  rintro D xs W hD rfl ⟨h1,h3⟩ hK;have d1:=h1.cell;have HV:=ae (Od cs);have H3:=ae h3;have HK:=ae hK;clear h1 h3 hK
  gi_wp2
  refine⟨by simp,aA ⟨_,_,rfl,eU HK.out, ?_⟩⟩;refine⟨_,results_tmp rfl _ _ _,by rw[←HV.out];rfl, ?_⟩;rw[HSZ.out];exact H3.out.trans (belowK_b (w:=w) (by omega) W D _ _ (by omega) HK.out rfl rfl)
 case stop=>
  rintro D c pre W hD _ h _;exact h.elim
end
end
section
attribute [-simp] isAgg284 zeroValue284
attribute [-go_sem] aE aL
theorem xv (t:aR) (h:t≠ 284 /\t≠ 23) (a:aF):aE t a=(do if←isAgg t then pure (al (←loadCells a (←sizeOf t)))else load a):=rfl
theorem xw (t:aR) (h:t≠ 284 /\t≠ 23) (a:aF) (v:ak):aL t a v=(do
  if v.cells.size≠(←sizeOf t)then stuck "storeVar: the value has not the size of the variable"
  storeCells a v.cells.toList):=rfl
attribute [local go_sem] xv xw
def Geo.fcs (g:Geo):List Int:=if g.good then [2,g.r,g.pgs,g.slots]else []
def Geo.wcs (g:Geo):List Int:=if g.good then [g.b,g.a]else []
theorem Oe {a b c d:Int} (h1:0<=a/\a<=1000) (h2:0<=b/\b<=1000) (h3:0<=c/\c<=1000) (h4:0<=d/\d<=1000):Cnts [a,b,c,d]:=⟨by simp,fun k=>by
 unfold ei
 match k with
 | 0=>exact h1
 | 1=>exact h2
 | 2=>exact h3
 | 3=>exact h4
 | k+4=>simp⟩
theorem Of {a b:Int} (h1:0<=a/\a<=1000) (h2:0<=b/\b<=1000):Cnts [a,b]:=⟨by simp,fun k=>by
 unfold ei
 match k with
 | 0=>exact h1
 | 1=>exact h2
 | k+2=>simp⟩
theorem DA:Cnts []:=⟨by simp,fun k=>by unfold ei;simp⟩
theorem Geo.fcs_ok (g:Geo):Cnts g.fcs:=by
 unfold Geo.fcs;by_cases hg:g.good
 ·rw[if_pos hg];obtain⟨b1,b2,b3,b4,b5,b6⟩:=Geo.bounds hg.1;have h9:=hg.2.1;have h10:=hg.2.2;exact Oe (by omega) (by omega) (by omega) (by omega)
 ·rw[if_neg hg];exact DA
theorem Geo.wcs_ok (g:Geo):Cnts g.wcs:=by
 unfold Geo.wcs;by_cases hg:g.good
 ·rw[if_pos hg];obtain⟨h1,h2,h3,h4,h5,h6,h7,h8⟩:=hg.1;exact Of (by omega) (by omega)
 ·rw[if_neg hg];exact DA
theorem Og (x y z t:Int) (w:ah):(dh 41 4 #[(0,ab ac x),(1,ab ac y),(2,ab ac z),(3,ab ac t)]).run aj w=.ok (af (some ⟨w.heap.size,0,none⟩) 4 4) (w.alloc (an [ab ac x,ab ac y,ab ac z,ab ac t].toArray 3)):=by kernel_rfl
theorem Oh (x y:Int) (w:ah):(dh 41 2 #[(0,ab ac x),(1,ab ac y)]).run aj w=.ok (af (some ⟨w.heap.size,0,none⟩) 2 2) (w.alloc (an [ab ac x,ab ac y].toArray 3)):=by kernel_rfl
theorem tV (a:Option aF) (len cap:Nat) (w:ah):ap aj 194 #[af a len cap] w fun e w'=>e=ao (.func (.func 260) #[] #[am (some ⟨w.heap.size,0,none⟩)])/\w'=w.alloc (an #[af a len cap] 41):=
 (callsIn_wide (n:=3)).1 (NX Fence.wide 3 trivial rfl a len cap w)
theorem DB (w:ah) (cs:List Int):LaidR ((w.alloc (an (cs.map (Value.int ac)).toArray 3)).alloc (an #[af (some ⟨w.heap.size,0,none⟩) cs.length cs.length] 41)) (w.alloc (an (cs.map (Value.int ac)).toArray 3)).heap.size cs (some ⟨w.heap.size,0,none⟩) w.heap.size:=by
 obtain⟨V,hV⟩:=w9nm (w.alloc (an (cs.map (Value.int ac)).toArray 3));have r:aq V w.heap.size 3 (cs.map (Value.int ac)):=by rw[←hV];exact aq.new w _ _
 rw[hV];have r2:=r.below (aH V (an #[af (some ⟨w.heap.size,0,none⟩) cs.length cs.length] 41));refine⟨dD V _ _,by simp,r2.lt,aD ⟨rfl,fun j hj=> ?_⟩⟩;rw[dP];refine r2.cell j _ ?_;unfold ei;rw[dY,aZ hj]
 rfl
theorem DC (w:ah):LaidR (w.alloc (an #[af none 0 0] 41)) w.heap.size [] none w.heap.size:=⟨dD w _ _,by simp,by simp,aA rfl⟩
section
theorem tW (g:Geo) (hi:g.In) (w:ah):ap aj 113 #[al g.v] w fun e w'=>∃Bs a b,e=ao (.func (.func 260) #[] #[am (some ⟨Bs,0,none⟩)])/\LaidR w' Bs g.fcs a b/\ag w.heap.size w w':=by
 have hmx:=w9x
 obtain⟨W,hW⟩:=w9nm (w.alloc (an g.v 23));have r:aq W w.heap.size 23 g.cs:=by rw[←hW];exact aq.new w _ _
 have HB:Hid (ag w.heap.size w W):=by show ag _ _ _;rw[←hW];exact aH w _
 obtain⟨B,hB⟩:=w9nm w.heap.size;rw[hB]at r;have L0:=cG r;have HR:=ae r;have HG:=ae (kG g hi W);have HP:=ae (fun x=>AJ g hi x);have HI:=ae hi;clear r hi;by_cases hg:g.good
 ·have e:g.fcs= [2,g.r,g.pgs,g.slots]:=if_pos hg;have e2:g.oP=g.pgs:=if_pos hg;have HS:=ae (fun x=>AH g hg.1 x);rw[decide_eq_true hg]at HG;rw[e2]at HP;rw[e];obtain⟨rr,hrr⟩:=w9nm g.r;obtain⟨P,hP⟩:=w9nm g.pgs;obtain⟨M,hM⟩:=w9nm g.slots;rw[hP]at HP;rw[hM]at HS;rw[hrr,hP,hM];have HRR:=ae hrr;clear e e2 hg hrr hP hM;go_enter func113,ntmps113;go_wp2_with fail;refine HG.out.mono ?_;rintro e x ⟨rfl,hb⟩;have HBX:=w9bt HB hb;have LG:∀z:aM x,(aE 23 ⟨B,0,none⟩).run aj z.1=.ok (al g.v) z.1:=fun z=>cG ((HR.out.below hb).below z.2);have C4:∀z:aM x,z.1.cell? ⟨B,4,none⟩=some (ab ac rr):=fun z=>by rw[←HRR.out];exact((HR.out.below hb).below z.2).cell 4 _ rfl
  clear hb L0;go_wp2_with fail;refine du (fun u=>∃y:aM x,u=y.1) 8 (.takes [0,1,2,4] (.one 3 (.one 5 (.one 6 (.one 7 .leaf))))) hmx (by kernel_rfl) (by intro c x v a w h;cases x<;>exact h) ⟨⟨x.drew,(aI _ x).drew⟩,rfl⟩ ?_;repeat(rw[bu];simp only[aB,aC];go_big_quiet_step (fail);refine aV ?_)
  rw[bt,aT];simp only[aB,aC];have HXD:Hid (ag x.heap.size x x.drew):=(aI _ x).drew;clear LG C4;obtain⟨X,hX⟩:=w9nm x.drew;rw[hX]at HXD ⊢;clear hX;go_wp2_with fail;refine(HP.out _).mono ?_;rintro e x1 ⟨rfl,hb1⟩;have HX1:=w9bt HXD hb1;clear hb1;go_wp2_with fail;refine aN ⟨⟨x1,HX1.out⟩,rfl⟩ ?_;rw[aT];simp only[aB,aC];go_wp2_with fail;refine(HS.out _).mono ?_;rintro e x2 ⟨rfl,hb2⟩;have HX2:=w9bt HX1 hb2;clear hb2;go_wp2_with fail;refine aN ⟨⟨x2,HX2.out⟩,rfl⟩ ?_;rw[aT];simp only[aB,aC];have HL:=ae (DB x2 [2,rr,P,M]);have HBL:=ae (Og 2 rr P M x2);obtain⟨x3,hx3⟩:=w9nm (x2.alloc (an [ab ac 2,ab ac rr,ab ac P,ab ac M].toArray 3));have HX3:Hid (ag x.heap.size x x3):=by show ag _ _ _;rw[←hx3];exact HX2.out.alloc HX2.out.size _
  obtain⟨N,hN⟩:=w9nm x2.heap.size;have HL:Hid (LaidR (x3.alloc (an #[af (some ⟨N,0,none⟩) 4 4] 41)) x3.heap.size [2,rr,P,M] (some ⟨N,0,none⟩) N):=by show LaidR _ _ _ _ _;rw[←hN,←hx3];exact HL.out
  rw[hx3,hN]at HBL;clear hx3;refine dR _ _ _ rfl rfl [(0,ab ac 2),(1,ab ac rr),(2,ab ac P),(3,ab ac M)] _ rfl HBL.out ?_;refine wpList_nil ?_;refine aN ⟨⟨x3,HX3.out⟩,rfl⟩ ?_;rw[aT];simp only[aB,aC];clear hN;go_wp2_with fail;refine(tV _ _ _ _).mono ?_;rintro e x4 ⟨rfl,hx4⟩;rw[←hx4]at HL;have HX4:Hid (ag x.heap.size x x4):=by show ag _ _ _;rw[hx4];exact HX3.out.alloc HX3.out.size _
  clear hx4;go_wp2_with fail;refine aN ⟨⟨x4,HX4.out⟩,rfl⟩ ?_;rw[cW];simp only[bR,bQ];go_wp2_with fail;go_ret;exact⟨_,_,_,rfl,HL.out,HBX.out.trans (HX4.out.mono HBX.out.size)⟩
 ·have e:g.fcs= []:=if_neg hg;rw[decide_eq_false hg]at HG;rw[e];clear e hg;go_enter func113,ntmps113;go_wp2_with fail;refine HG.out.mono ?_;rintro e x ⟨rfl,hb⟩;have HBX:=w9bt HB hb;clear hb L0;go_wp2_with fail;refine(tV _ _ _ _).mono ?_;rintro e x4 ⟨rfl,hx4⟩;have HL:=ae (DC x);rw[←hx4]at HL;have HX4:Hid (ag w.heap.size w x4):=by show ag _ _ _;rw[hx4];exact HBX.out.alloc HBX.out.size _
  clear hx4;go_wp2_with fail;go_ret;exact⟨_,_,_,rfl,HL.out,HX4.out⟩
theorem DD (g:Geo) (hi:g.In) (w:ah):ap aj 114 #[al g.v] w fun e w'=>∃Bs a b,e=ao (.func (.func 260) #[] #[am (some ⟨Bs,0,none⟩)])/\LaidR w' Bs g.wcs a b/\ag w.heap.size w w':=by
 obtain⟨W,hW⟩:=w9nm (w.alloc (an g.v 23));have r:aq W w.heap.size 23 g.cs:=by rw[←hW];exact aq.new w _ _
 have HB:Hid (ag w.heap.size w W):=by show ag _ _ _;rw[←hW];exact aH w _
 obtain⟨B,hB⟩:=w9nm w.heap.size;rw[hB]at r;have L0:=cG r;have HR:=ae r;have HG:=ae (kG g hi W);clear r hi;by_cases hg:g.good
 ·have e:g.wcs= [g.b,g.a]:=if_pos hg;rw[decide_eq_true hg]at HG;rw[e];obtain⟨bb,hbb⟩:=w9nm g.b;obtain⟨aa,haa⟩:=w9nm g.a;rw[hbb,haa];have HBB:=ae hbb;have HAA:=ae haa;clear e hg hbb haa;go_enter func114,ntmps114;go_wp2_with fail;refine HG.out.mono ?_;rintro e x2 ⟨rfl,hb⟩;have HX2:=w9bt HB hb;have C0:x2.cell? ⟨B,0,none⟩=some (ab ac bb):=by rw[←HBB.out];exact(HR.out.below hb).cell 0 _ rfl
  have C3:x2.cell? ⟨B,3,none⟩=some (ab ac aa):=by rw[←HAA.out];exact(HR.out.below hb).cell 3 _ rfl
  clear hb L0;have HL:=ae (DB x2 [bb,aa]);have HBL:=ae (Oh bb aa x2);obtain⟨x3,hx3⟩:=w9nm (x2.alloc (an [ab ac bb,ab ac aa].toArray 3));have HX3:Hid (ag w.heap.size w x3):=by show ag _ _ _;rw[←hx3];exact HX2.out.alloc HX2.out.size _
  obtain⟨N,hN⟩:=w9nm x2.heap.size;have HL:Hid (LaidR (x3.alloc (an #[af (some ⟨N,0,none⟩) 2 2] 41)) x3.heap.size [bb,aa] (some ⟨N,0,none⟩) N):=by show LaidR _ _ _ _ _;rw[←hN,←hx3];exact HL.out
  rw[hx3,hN]at HBL;clear hx3 hN;go_wp2_with (first | ((with_reducible refine iu ?_);refine dR _ _ _ rfl rfl [(0,ab ac bb),(1,ab ac aa)] _ rfl HBL.out ?_));refine(tV _ _ _ _).mono ?_;rintro e x4 ⟨rfl,hx4⟩;rw[←hx4]at HL;have HX4:Hid (ag w.heap.size w x4):=by show ag _ _ _;rw[hx4];exact HX3.out.alloc HX3.out.size _
  clear hx4;go_wp2_with fail;go_ret;exact⟨_,_,_,rfl,HL.out,HX4.out⟩
 ·have e:g.wcs= []:=if_neg hg;rw[decide_eq_false hg]at HG;rw[e];clear e hg;go_enter func114,ntmps114;go_wp2_with fail;refine HG.out.mono ?_;rintro e x ⟨rfl,hb⟩;have HBX:=w9bt HB hb;clear hb L0;go_wp2_with fail;refine(tV _ _ _ _).mono ?_;rintro e x4 ⟨rfl,hx4⟩;have HL:=ae (DC x);rw[←hx4]at HL;have HX4:Hid (ag w.heap.size w x4):=by show ag _ _ _;rw[hx4];exact HBX.out.alloc HBX.out.size _
  clear hx4;go_wp2_with fail;go_ret;exact⟨_,_,_,rfl,HL.out,HX4.out⟩
end
end
section
attribute [-simp] isAgg284 zeroValue284
attribute [-go_sem] aE aL
attribute [local go_sem] xv xw
theorem DE (f c:Int) (w:ah):(Instr.field 284 (al #[ab ac f,ab ac c]) 0).run aj w=.ok (ab ac f) w:=by kernel_rfl
attribute [local go_sem] DE
theorem Geo.fcs_ring (g:Geo):io g.fcs 1=g.oR:=by
 unfold Geo.fcs Geo.oR;by_cases hg:g.good
 ·rw[if_pos hg,if_pos hg];simp[io,dA]
 ·rw[if_neg hg,if_neg hg];rfl
theorem Geo.fcs_home (g:Geo):io g.fcs 2=g.oH:=by
 unfold Geo.fcs Geo.oH;by_cases hg:g.good
 ·rw[if_pos hg,if_pos hg];simp[io,dA]
 ·rw[if_neg hg,if_neg hg];rfl
theorem Geo.fcs_slot (g:Geo) (i:Int):(if 0<=i/\i<iV g.fcs 3 then io g.fcs 3+i else 0)=g.oS i:=by
 unfold Geo.fcs Geo.oS;by_cases hg:g.good
 ·rw[if_pos hg];have e1:io [2,g.r,g.pgs,g.slots] 3=2+g.r+g.pgs:=by simp[io,dA];omega
  have e2:iV [2,g.r,g.pgs,g.slots] 3=g.slots:=by simp[iV,ei]
  rw[e1,e2];simp only[hg,true_and]
 ·have e2:iV [] 3=0:=rfl;rw[if_neg hg,e2,if_neg (by omega),if_neg (fun h=>hg h.1)]
theorem Geo.wcs_area (g:Geo) (i:Int):(if 0<=i/\i<iV g.wcs 1 then io g.wcs 1+i else 0)=g.oA i:=by
 unfold Geo.wcs Geo.oA;by_cases hg:g.good
 ·rw[if_pos hg];have e1:io [g.b,g.a] 1=g.b:=by simp[io,dA]
  have e2:iV [g.b,g.a] 1=g.a:=by simp[iV,ei]
  rw[e1,e2];simp only[hg,true_and]
 ·have e2:iV [] 1=0:=rfl;rw[if_neg hg,e2,if_neg (by omega),if_neg (fun h=>hg h.1)]
theorem Geo.fcs_all (g:Geo):dA g.fcs g.fcs.length=g.oF:=by
 unfold Geo.fcs Geo.oF;by_cases hg:g.good
 ·rw[if_pos hg,if_pos hg];simp[dA];omega
 ·rw[if_neg hg,if_neg hg];rfl
theorem Geo.wcs_all (g:Geo):dA g.wcs g.wcs.length=g.oW:=by
 unfold Geo.wcs Geo.oW;by_cases hg:g.good
 ·rw[if_pos hg,if_pos hg];simp[dA]
 ·rw[if_neg hg,if_neg hg];rfl
theorem DG {cs:List Int} (h:Cnts cs) (p:Nat) (hp:p<=4):(0<=io cs p/\io cs p<=4000)/\(0<=iV cs p/\iV cs p<=1000):=by
 have:=tT cs h.bd p;have:=h.bd p;constructor
 ·unfold io;split<;>omega
 ·unfold iV;split<;>omega
section
theorem tX (g:Geo) (hi:g.In) (w:ah):ap aj 130 #[al g.v] w fun e w'=>e=ao (ab ac g.oR)/\ag w.heap.size w w':=by
 obtain⟨W,hW⟩:=w9nm (w.alloc (an g.v 23));have r:aq W w.heap.size 23 g.cs:=by rw[←hW];exact aq.new w _ _
 have HB:Hid (ag w.heap.size w W):=by show ag _ _ _;rw[←hW];exact aH w _
 obtain⟨B,hB⟩:=w9nm w.heap.size;rw[hB]at r;have HSZ:=ae hB;have L0:=cG r;have HP:=ae (tW g hi W);have HO:=ae g.fcs_ok;have HV:=ae (g.fcs_ring);clear r hi;go_enter func130,ntmps130;go_wp2_with fail;refine HP.out.mono ?_;rintro e x ⟨Bs,a,b,rfl,hL,hb⟩;have HBX:=w9bt HB hb;have HL:=ae hL;clear hb hL L0;go_wp2_with fail;refine(tU _ HO.out _ _ 1 _ _ HL.out).mono ?_;rintro e y ⟨rfl,hb⟩;have HBY:=w9bt HBX hb;clear hb;go_wp2_with fail;go_ret;rw[HV.out];first | exact⟨rfl,HBY.out⟩ | exact⟨rfl,by rw[←hB];exact HBY.out⟩
theorem DH (g:Geo) (hi:g.In) (w:ah):ap aj 212 #[al g.v] w fun e w'=>e=ao (ab ac g.oH)/\ag w.heap.size w w':=by
 obtain⟨W,hW⟩:=w9nm (w.alloc (an g.v 23));have r:aq W w.heap.size 23 g.cs:=by rw[←hW];exact aq.new w _ _
 have HB:Hid (ag w.heap.size w W):=by show ag _ _ _;rw[←hW];exact aH w _
 obtain⟨B,hB⟩:=w9nm w.heap.size;rw[hB]at r;have HSZ:=ae hB;have L0:=cG r;have HP:=ae (tW g hi W);have HO:=ae g.fcs_ok;have HV:=ae (g.fcs_home);clear r hi;go_enter func212,ntmps212;go_wp2_with fail;refine HP.out.mono ?_;rintro e x ⟨Bs,a,b,rfl,hL,hb⟩;have HBX:=w9bt HB hb;have HL:=ae hL;clear hb hL L0;go_wp2_with fail;refine(tU _ HO.out _ _ 2 _ _ HL.out).mono ?_;rintro e y ⟨rfl,hb⟩;have HBY:=w9bt HBX hb;clear hb;go_wp2_with fail;go_ret;rw[HV.out];first | exact⟨rfl,HBY.out⟩ | exact⟨rfl,by rw[←hB];exact HBY.out⟩
theorem tY (g:Geo) (hi:g.In) (w:ah):ap aj 40 #[al g.v] w fun e w'=>e=ao (ab ac g.oF)/\ag w.heap.size w w':=by
 obtain⟨W,hW⟩:=w9nm (w.alloc (an g.v 23));have r:aq W w.heap.size 23 g.cs:=by rw[←hW];exact aq.new w _ _
 have HB:Hid (ag w.heap.size w W):=by show ag _ _ _;rw[←hW];exact aH w _
 obtain⟨B,hB⟩:=w9nm w.heap.size;rw[hB]at r;have HSZ:=ae hB;have L0:=cG r;have HP:=ae (tW g hi W);have HO:=ae g.fcs_ok;have HV:=ae (g.fcs_all);clear r hi;go_enter func40,ntmps40;go_wp2_with fail;refine HP.out.mono ?_;rintro e x ⟨Bs,a,b,rfl,hL,hb⟩;have HBX:=w9bt HB hb;have HL:=ae hL;clear hb hL L0;go_wp2_with fail;refine(Dz _ HO.out _ _ _ _ HL.out).mono ?_;rintro e y ⟨rfl,hb⟩;have HBY:=w9bt HBX hb;clear hb;go_wp2_with fail;go_ret;rw[HV.out];first | exact⟨rfl,HBY.out⟩ | exact⟨rfl,by rw[←hB];exact HBY.out⟩
theorem xy (g:Geo) (hi:g.In) (w:ah):ap aj 41 #[al g.v] w fun e w'=>e=ao (ab ac g.oW)/\ag w.heap.size w w':=by
 obtain⟨W,hW⟩:=w9nm (w.alloc (an g.v 23));have r:aq W w.heap.size 23 g.cs:=by rw[←hW];exact aq.new w _ _
 have HB:Hid (ag w.heap.size w W):=by show ag _ _ _;rw[←hW];exact aH w _
 obtain⟨B,hB⟩:=w9nm w.heap.size;rw[hB]at r;have HSZ:=ae hB;have L0:=cG r;have HP:=ae (DD g hi W);have HO:=ae g.wcs_ok;have HV:=ae (g.wcs_all);clear r hi;go_enter func41,ntmps41;go_wp2_with fail;refine HP.out.mono ?_;rintro e x ⟨Bs,a,b,rfl,hL,hb⟩;have HBX:=w9bt HB hb;have HL:=ae hL;clear hb hL L0;go_wp2_with fail;refine(Dz _ HO.out _ _ _ _ HL.out).mono ?_;rintro e y ⟨rfl,hb⟩;have HBY:=w9bt HBX hb;clear hb;go_wp2_with fail;go_ret;rw[HV.out];first | exact⟨rfl,HBY.out⟩ | exact⟨rfl,by rw[←hB];exact HBY.out⟩
end
end
section
attribute [-simp] isAgg51 zeroValue51 isAgg205 zeroValue205 isAgg304 zeroValue304 isAgg226 zeroValue226 isAgg207 zeroValue207 isAgg198 zeroValue198
attribute [-go_sem] aE aL cS
attribute [local go_sem] bC bD dz eK eL eM iD ew gH iC gI gJ
theorem xz {gen:Int} (hn:dx gen) (g:Geo) (a q:Int):(eB gen g a q).Ok:=
 ⟨by show(0:Int)<=83/\(83:Int)<256;omega,hn,tC gen g a q,(aP.app (by intro j;match j with | 0=>decide | 1=>decide | 2=>decide | 3=>decide | j+4=>simp) ((gL _ _).app ((gL _ _).app ((gL _ _).app ((gL _ _).app ((gL _ _).app ((gL _ _).app (gL _ _)))))))).app (sU 30)⟩
theorem Oi (gen:Int) (g:Geo) (a q:Int):(eB gen g a q).fits=true:=decide_eq_true ⟨by show(83:Int)≠0;omega,by show(0:Int)<=0/\(0:Int)<=65535;omega⟩
theorem Oj {w x:ah} {B:Nat} {u:List ak} {z:Array ak} (hw:x.heap[B]? =some (an z 207 (0,0))) (hz:z.size=65) (hB:w.heap.size<=B) (hb:ag w.heap.size w x) (hu:u.length=65) (h1:∀v ∈ u,v.oneCell'=true):
  ∃x',(aL 207 ⟨B,0,none⟩ (al u.toArray)).run aj x=.ok () x'/\(aE 207 ⟨B,0,none⟩).run aj x'=.ok (al u.toArray) x'/\ag w.heap.size w x':=by
 have ht:x.there B 0 65:=kD hw 0 65 (by rw[hz];exact aG _);have hs:(aL 207 ⟨B,0,none⟩ (al u.toArray)).run aj x=.ok () (x.setCells B 0 u):=by
  have:=run_storeVar_mid (P:=aj) x B 0 207 u.toArray (by simpa [hu]using ht) (by simpa [hu]using wS) (ky h1)
  simpa using this
 exact⟨_,hs,CC (kz x _ 0 u (by rw[hu];exact ht)) hu,hb.trans (kn hB _ _ _)⟩
section
theorem DI (i:Nat) {gen:Int} {g:Geo} {a q:Int} (hI:SupIn gen g a q) (w:ah):
  ap aj 133 #[ab ac (i:Int),al (cB gen g a q).toArray] w fun e w'=>e=ao (al (dW (i,aw (eB gen g a q).bytes)).toArray)/\ag w.heap.size w w':=by
 obtain⟨W1,hW1⟩:=w9nm (w.alloc (an (cB gen g a q).toArray 198));have r1:aq W1 w.heap.size 198 (cB gen g a q):=by rw[←hW1];exact aq.new w _ _
 have b1:ag w.heap.size w W1:=by rw[←hW1];exact aH w _
 obtain⟨W,hW⟩:=w9nm (W1.alloc (an gZ.toArray 207));have b2:ag W1.heap.size W1 W:=by rw[←hW];exact aH W1 _
 have r2:Hid (aq W W1.heap.size 207 gZ):=by show aq _ _ _ _;rw[←hW];exact aq.new W1 _ _
 have L0:=(r1.below b2).sup;have HB:w9h w W:=b1.trans (b2.mono b1.size);have HZ:Hid (w.heap.size<=W1.heap.size):=b1.size;have HS:=ae (Ds hI);have HO:=ae (xz hI.gen g a q);have HF:=ae (Oi gen g a q);clear r1 b1 b2 hI;obtain⟨P,hP⟩:=w9nm (eB gen g a q);rw[hP]at HS HO HF ⊢;obtain⟨sc,hsc⟩:=w9nm ((cB gen g a q).toArray);rw[hsc]at L0 HS hW1;rw[hsc];clear hP hsc;go_enter func133,ntmps133;go_wp2_with fail;go_at_call 216;refine(HS.out W).mono ?_;rintro e x1 ⟨rfl,hb⟩;have K1:=ae hb;clear hb L0;go_wp2_with fail;go_at_call 213;refine(Df P HO.out HF.out x1).mono ?_;rintro e x2 ⟨rfl,hb⟩;have K2:=w9bt K1 hb;have hbk:cz (aw P.bytes):=gQ (Sct.bytes_length HO.out);have BI:=CD (i:Int) (aw P.bytes) hbk.length x2;obtain⟨y7,ST7,LD7,hb7⟩:=Oj (w:=w) (x:=x2) (B:=W1.heap.size) (u:=dW (i,aw P.bytes)) ((K2.out.block _ r2.out.lt).trans r2.out) tp HZ.out (HB.out.trans (K2.out.mono HB.out.size)) (nb (x:=(i,aw P.bytes)) hbk.length) (qK (x:=(i,aw P.bytes)) hbk);have HL7:=ae LD7;have HB7:=ae hb7;have BI:Hid ((df 207 #[(0,ab ac (i:Int)),(1,al (aw P.bytes).toArray)]).run aj x2=.ok (al (dW (i,aw P.bytes)).toArray) x2):=BI;clear hb hbk LD7 hb7;go_wp2_with (first | ((with_reducible refine nA 207 ?_);refine nz _ _ rfl rfl [(0,ab ac (i:Int)),(1,al (aw P.bytes).toArray)] _ rfl BI.out ?_));exact bo (ev rfl rfl HL7.out) rfl ⟨rfl,HB7.out⟩
def Geo.fitsR (g:Geo) (n0 n1:Nat):Prop:=g.good/\g.oF<=n0/\g.oW<=n1
noncomputable instance (g:Geo) (n0 n1:Nat):Decidable (g.fitsR n0 n1):=by unfold Geo.fitsR;infer_instance
theorem DJ {v:ak} {n0 n1:Nat} (g:Geo) (hg:g.In) (w:ah)
  (H0:∀x,ag w.heap.size w x->ap aj 167 #[v,ab ac 0] x fun e w'=>e=ao (ab ac (n0:Int))/\ag x.heap.size x w')
  (H1:∀x,ag w.heap.size w x->ap aj 167 #[v,ab ac 1] x fun e w'=>e=ao (ab ac (n1:Int))/\ag x.heap.size x w'):
  ap aj 126 #[v,al g.v] w fun e w'=>e=ao (.bool (decide (g.fitsR n0 n1)))/\ag w.heap.size w w':=by
 obtain⟨W,hW⟩:=w9nm (w.alloc (an g.v 23));have r1:aq W w.heap.size 23 g.cs:=by rw[←hW];exact aq.new w _ _
 have b1:ag w.heap.size w W:=by rw[←hW];exact aH w _
 have HBW:=ae b1;have HR:=ae r1;have L0:=cG r1;have HG:=ae hg;have HH0:=ae H0;have HH1:=ae H1;have HD:Hid (g.fitsR n0 n1↔(g.good/\g.oF<=n0/\g.oW<=n1)):=Iff.rfl;obtain⟨B,hB⟩:=w9nm w.heap.size;have HBB:=ae hB;rw[hB]at L0 HR;clear r1 b1 hg H0 H1;by_cases h1:g.good
 ·have hd1:decide g.good=true:=decide_eq_true h1;by_cases h2:g.oF<=n0
  ·have hd2:decide (g.oF<=(n0:Int))=true:=decide_eq_true h2;have HV:Hid (decide (g.fitsR n0 n1)=decide (g.oW<=(n1:Int))):=by
    refine decide_eq_decide.2 ?_;rw[HD.out];exact⟨fun h=>h.2.2,fun h=>⟨h1,h2,h⟩⟩
   rw[HV.out];clear h1 h2;go_enter func126,ntmps126;go_wp2_with fail;go_at_call 166;refine(kG g HG.out W).mono ?_;rintro e x1 ⟨rfl,hb⟩;rw[hd1];have L1:=cG (HR.out.below hb);have K1:=w9bt HBW hb;have R1:=ae (HR.out.below hb);clear hb L0;go_wp2_with fail;go_at_call 40;refine(tY g HG.out x1).mono ?_;rintro e x2 ⟨rfl,hb⟩;have K2:=w9bt K1 hb;have R2:=ae (R1.out.below hb);clear hb L1 R1;go_wp2_with fail;go_at_call 167;refine(HH0.out x2 K2.out).mono ?_;rintro e x3 ⟨rfl,hb⟩;have K3:=w9bt K2 hb;have R3:=ae (R2.out.below hb);have L3:=cG R3.out;clear hb R2;go_wp2_with fail;go_at_call 41;refine(xy g HG.out x3).mono ?_;rintro e x4 ⟨rfl,hb⟩;have K4:=w9bt K3 hb;clear hb L3;go_wp2_with fail;go_at_call 167;refine(HH1.out x4 K4.out).mono ?_;rintro e x5 ⟨rfl,hb⟩;have K5:=w9bt K4 hb;clear hb;go_wp2_with fail;go_ret;exact⟨rfl,K5.out⟩
  ·have hd2:decide (g.oF<=(n0:Int))=false:=decide_eq_false h2;have HV:Hid (decide (g.fitsR n0 n1)=false):=decide_eq_false fun h=>h2 (HD.out.1 h).2.1;rw[HV.out];clear h1 h2;go_enter func126,ntmps126;go_wp2_with fail;go_at_call 166;refine(kG g HG.out W).mono ?_;rintro e x1 ⟨rfl,hb⟩;rw[hd1];have L1:=cG (HR.out.below hb);have K1:=w9bt HBW hb;clear hb L0;go_wp2_with fail;go_at_call 40;refine(tY g HG.out x1).mono ?_;rintro e x2 ⟨rfl,hb⟩;have K2:=w9bt K1 hb;clear hb L1;go_wp2_with fail;go_at_call 167;refine(HH0.out x2 K2.out).mono ?_;rintro e x3 ⟨rfl,hb⟩;have K3:=w9bt K2 hb;clear hb;go_wp2_with fail;go_ret;exact⟨rfl,K3.out⟩
 ·have hd1:decide g.good=false:=decide_eq_false h1;have HV:Hid (decide (g.fitsR n0 n1)=false):=decide_eq_false fun h=>h1 (HD.out.1 h).1;rw[HV.out];clear h1;go_enter func126,ntmps126;go_wp2_with fail;go_at_call 166;refine(kG g HG.out W).mono ?_;rintro e x1 ⟨rfl,hb⟩;rw[hd1];have K1:=w9bt HBW hb;clear hb L0;go_wp2_with fail;go_ret;exact⟨rfl,K1.out⟩
end
theorem DK (bs:List Int) (h:aP bs) {k:Nat} (hl:bs.length=k) (hk:k<=4):0<=bM bs/\bM bs<2^(8*k):=by
 have e:ey (bs.length:Int)=k:=by rw[hl];unfold ey;rw[if_pos (by omega)];omega
 unfold bM;rw[e];exact oy bs h k
theorem tZ (x:List Int) (hx:aP x) (hl:x.length=48) (o k:Nat) (ho:o+k<=48) (hk:k<=4):0<=bM ((x.drop o).take k)/\bM ((x.drop o).take k)<2^(8*k):=
 DK _ ((hx.drop o).take k) (by rw[dj,dm];omega) hk
theorem DL (x:List Int) (o:Nat) (ho:o<x.length):bM ((x.drop o).take 1)=x[o]?.getD 0:=by
 rw[zu (by rw[dm];omega),sC,lI]
 rfl
theorem om {N:Nat} (C rb:Nat) (bs:List Int) (k:Nat) (w:ah) (hC:w.cell? ⟨C,0,none⟩=some (am (some ⟨rb,0,none⟩))) (hr:dU w N rb bs) (hB:aP bs) (hk:k<=bs.length) (hk4:k<=4):
  ap aj 293 #[ab ac (k:Int),am (some ⟨C,0,none⟩)] w fun e w'=>e=ao (ab ac (bM (bs.take k)))/\dU w' N rb (bs.drop k)/\w.grownBy w' (some rb):=by
 have H:=ae (qh rb bs k w hr hB hk);obtain⟨q1,q2⟩:=DK (bs.take k) (hB.take k) (k:=k) (by rw[dj];omega) hk4;have q3:bM (bs.take k)<4294967296:=Int.lt_of_lt_of_le q2 (by
  have:(2:Int)^(8*k)<=2^32:=by
   match k,hk4 with
   | 0,_=>decide
   | 1,_=>decide
   | 2,_=>decide
   | 3,_=>decide
   | 4,_=>decide
  simpa using this)
 obtain⟨n,hn⟩:=w9nm (bM (bs.take k));rw[hn]at H q1 q3 ⊢;clear hr hB hk q2 hn;go_enter func293,ntmps293;go_wp2_with fail;go_at_call 287;refine H.out.mono ?_;rintro e w' ⟨rfl,hR,hg⟩;have R1:=ae hR;have G1:=ae hg;clear hR hg;go_wp2_with fail;go_ret;exact⟨rfl,R1.out,G1.out⟩
theorem Ol {w x:ah} {B:Nat} {u:List ak} {z:Array ak} (hw:x.heap[B]? =some (an z 198 (0,0))) (hz:z.size=8) (hB:w.heap.size<=B) (hb:ag w.heap.size w x) (hu:u.length=8) (h1:∀v ∈ u,v.oneCell'=true):
  ∃x',(aL 198 ⟨B,0,none⟩ (al u.toArray)).run aj x=.ok () x'/\(aE 198 ⟨B,0,none⟩).run aj x'=.ok (al u.toArray) x'/\ag w.heap.size w x':=by
 have ht:x.there B 0 8:=kD hw 0 8 (by rw[hz];exact aG _);exact⟨_,Dn ht hu h1,mL (kz x _ 0 u (by rw[hu];exact ht)) hu,hb.trans (kn hB _ _ _)⟩
theorem Om (x:ah) (gen:Int):∃y,(aL 198 ⟨x.heap.size,0,none⟩ (al (cB gen ⟨0,0,0,0,0⟩ 0 0).toArray)).run aj (x.alloc (an fR.toArray 198))=.ok () y/\aq y x.heap.size 198 (cB gen ⟨0,0,0,0,0⟩ 0 0)/\ag x.heap.size x y:=
 ⟨_,Do rfl rfl (jU _ _ _ _),aq.new x _ _,aH x _⟩
theorem oo (w:ah) (B j:Nat) (v:ak):w.grownBy (w.setCell ⟨B,j,none⟩ v) (some B):=
 ⟨rfl,rfl,rfl,by rw[lS];exact aG _,fun k _ hk=>eG _ _ _ k (fun e=>hk (by rw[e]))⟩
theorem On (p:Sct) (hp:p.Ok) (w:ah):
  ap aj 267 #[al p.cells.toArray] w fun e w'=>e=ao (al (cB p.seq (gV p.body) (gv p.body) (jq p.body)).toArray)/\ag w.heap.size w w':=by
 obtain⟨W1,hW1⟩:=w9nm (w.alloc (an p.cells.toArray 304));have r1:aq W1 w.heap.size 304 p.cells:=by rw[←hW1];exact aq.new w _ _
 have b1:ag w.heap.size w W1:=by rw[←hW1];exact aH w _
 obtain⟨W,hW⟩:=w9nm (W1.alloc (an fR.toArray 198));have b2:ag W1.heap.size W1 W:=by rw[←hW];exact aH W1 _
 have r2:Hid (aq W W1.heap.size 198 fR):=by show aq _ _ _ _;rw[←hW];exact aq.new W1 _ _
 have HB:w9h w W:=b1.trans (b2.mono b1.size);have HZ:Hid (w.heap.size<=W1.heap.size):=b1.size;have rP:=r1.below b2;have RP:=ae rP;have HS:Hid (Sl ay W (af (some ⟨w.heap.size,3,none⟩) 48 48) p.body):=by
  have:=si (bs:=p.body) (oZ (a:= [ab ay p.mark,ab aO p.seq,ab ac p.index]) (b:=aw p.body) rP) rP.lt (by rw[hp.len];simp[aY]);rw[hp.len]at this;exact this
 obtain⟨x,hx⟩:=w9nm p.body;rw[hx]at HS ⊢;have hxb:aP x:=by rw[←hx];exact hp.bytes
 have hxl:x.length=48:=by rw[←hx];exact hp.len
 have HXB:=ae hxb;have HXL:=ae hxl;obtain⟨gb,hgb⟩:=w9nm (bM ((x.drop 4).take 2));have Egb:=ae hgb;obtain⟨gs,hgs⟩:=w9nm (bM ((x.drop 6).take 1));have Egs:=ae hgs;obtain⟨gy,hgy⟩:=w9nm (bM ((x.drop 7).take 1));have Egy:=ae hgy;obtain⟨ga,hga⟩:=w9nm (bM ((x.drop 8).take 2));have Ega:=ae hga;obtain⟨gr,hgr⟩:=w9nm (bM ((x.drop 10).take 2));have Egr:=ae hgr;obtain⟨na,hna⟩:=w9nm (bM ((x.drop 12).take 2));have Ena:=ae hna;obtain⟨nq,hnq⟩:=w9nm (bM ((x.drop 14).take 4));have Enq:=ae hnq;have q0:0<=nq:=by rw[←hnq];exact(tZ x hxb hxl 14 4 (by omega) (by omega)).1
 have q1:nq<4294967296:=by rw[←hnq];have:=(tZ x hxb hxl 14 4 (by omega) (by omega)).2;simpa using this
 have EV:Hid (gV x=⟨gb,gs,gy,ga,gr⟩/\gv x=na/\jq x=nq):=by
  refine⟨?_,hna,hnq⟩;rw[←hgb,←hgs,←hgy,←hga,←hgr,DL x 6 (by omega),DL x 7 (by omega)]
  rfl
 rw[EV.out.1,EV.out.2.1,EV.out.2.2];obtain⟨gen,hgen⟩:=w9nm p.seq;have c1:W.cell? ⟨w.heap.size,1,none⟩=some (ab aO gen):=by rw[←hgen];exact rP.cell 1 _ rfl
 have C1:=ae c1;have HPB:Hid (w.heap.size<W.heap.size):=rP.lt;rw[hgen];clear r1 b1 b2 rP hp hx hxb hxl hgen c1 hgb hgs hgy hga hgr hna hnq;obtain⟨B0,hB0⟩:=w9nm w.heap.size;rw[hB0]at HS C1 HPB;go_enter func267,ntmps267;go_wp2_with fail;go_at_call 253;refine(vw _ x W HS.out (by rw[HXL.out];omega)).mono ?_;rintro e x1 ⟨rb,rfl,hrb,hR,hb⟩;obtain⟨N,hN⟩:=w9nm x1.heap.size;obtain⟨x2,hx2⟩:=w9nm (x1.alloc (an #[am (some ⟨rb,0,none⟩)] 337));have b2:ag x1.heap.size x1 x2:=by rw[←hx2];exact aH x1 _
 have hC:aq x2 x1.heap.size 337 [am (some ⟨rb,0,none⟩)]:=by rw[←hx2];exact aq.new x1 _ _
 rw[hN]at hR hC;have K2:w9h W x2:=hb.trans (b2.mono hb.size);have HW:Hid (W.heap.size<=rb):=jt hrb;have R2:=ae (hR.below (dS b2 none));have cc:x2.cell? ⟨N,0,none⟩=some (am (some ⟨rb,0,none⟩)):=hC.cell 0 _ rfl;have HC2:=ae hC;have HrbN:Hid (rb<N/\N<x2.heap.size):=by
  obtain⟨b,off,cap,h0,h1,h2,h3,h4,h5⟩:=hR;exact⟨h5.1,hC.lt⟩
 have hrx:rb<x1.heap.size:=by rw[hN];exact HrbN.out.1
 clear hR hb hrb b2;go_wp2_with fail;go_at_call 288;refine(vy rb x 4 x2 R2.out (by rw[HXL.out];omega) (by rw[HXL.out];omega)).mono ?_;rintro e x3 ⟨g,rfl, -,hrow,hR,hg⟩;have K3:w9h W x3:=K2.out.grown hg K2.out.size (fun k e=>by cases e;exact HW.out);have hC3:=HC2.out.grown hg (fun e=>by cases e;exact iJ _ HrbN.out.1);have c1:x3.cell? ⟨B0,1,none⟩=some (ab aO gen):=(K3.out.cell (p:=⟨B0,1,none⟩) HPB.out).trans C1.out;obtain⟨y0,ST0,hD,hb⟩:=Om x3 gen;have ST:(aL 198 ⟨x3.heap.size,0,none⟩ (al (fR.set 0 (ab aO gen)).toArray)).run aj (x3.alloc (an fR.toArray 198))=.ok () y0:=ST0;obtain⟨D,hDD⟩:=w9nm x3.heap.size;have HND:Hid (N<D):=by show _<_;rw[←hDD];exact hC3.lt
 rw[hDD]at ST hD;have HWD:Hid (W.heap.size<=D):=by show _<=_;rw[←hDD];exact K3.out.size
 have KY0:=w9bt K3 hb;have CY0:=ae (hC3.below hb);have RY0:Hid (dU y0 N rb (x.drop 4)):=hR.below (dS hb none);have DY0:=ae hD;have cc:y0.cell? ⟨N,0,none⟩=some (am (some ⟨rb,0,none⟩)):=CY0.out.cell 0 _ rfl;clear hrow hR hg hC3 hb hD ST0;go_wp2_with fail;clear ST c1;go_at_call 293;refine(om N rb (x.drop 4) 2 y0 cc RY0.out (HXB.out.drop 4) (by rw[dm,HXL.out];omega) (by omega)).mono ?_;rintro e z1 ⟨rfl,hR,hg⟩;rw[Egb.out];rw[ja]at hR;have hD:=DY0.out.grown hg (fun e=>by cases e;exact absurd HND.out (by have:=HrbN.out.1;omega));have hC:=CY0.out.grown hg (fun e=>by cases e;exact iJ _ HrbN.out.1);have KZ:=KY0.out.grown hg KY0.out.size (fun k e=>by cases e;exact HW.out);obtain⟨y1,hy⟩:=w9nm (z1.setCell ⟨D,1,none⟩ (ab ac gb));have hgs:z1.grownBy y1 (some D):=by rw[←hy];exact oo z1 D 1 _
 have DY1:=ae (show aq y1 D _ _ from by rw[←hy];exact hD.set 1 (ab ac gb));have CY1:=ae (hC.grown hgs (fun e=>by cases e;exact iJ _ HND.out));have RY1:Hid (dU y1 N rb (x.drop 6)):=hR.kept hgs (fun r e=>by cases e;exact jt HND.out);have KY1:w9h W y1:=KZ.grown hgs KZ.size (fun k e=>by cases e;exact HWD.out);have d0:z1.cell? ⟨D,1,none⟩=some (ab ac 0):=hD.cell 1 _ rfl;have d0':=hD.frozen 1;have cc:y1.cell? ⟨N,0,none⟩=some (am (some ⟨rb,0,none⟩)):=CY1.out.cell 0 _ rfl;clear hR hg hD hC KZ hgs;go_wp2_with fail;clear d0 d0' hy;go_at_call 293;refine(om N rb (x.drop 6) 1 y1 cc RY1.out (HXB.out.drop 6) (by rw[dm,HXL.out];omega) (by omega)).mono ?_;rintro e z2 ⟨rfl,hR,hg⟩;rw[Egs.out];rw[ja]at hR;have hD:=DY1.out.grown hg (fun e=>by cases e;exact absurd HND.out (by have:=HrbN.out.1;omega));have hC:=CY1.out.grown hg (fun e=>by cases e;exact iJ _ HrbN.out.1);have KZ:=KY1.out.grown hg KY1.out.size (fun k e=>by cases e;exact HW.out);obtain⟨y2,hy⟩:=w9nm (z2.setCell ⟨D,2,none⟩ (ab ac gs));have hgs:z2.grownBy y2 (some D):=by rw[←hy];exact oo z2 D 2 _
 have DY2:=ae (show aq y2 D _ _ from by rw[←hy];exact hD.set 2 (ab ac gs));have CY2:=ae (hC.grown hgs (fun e=>by cases e;exact iJ _ HND.out));have RY2:Hid (dU y2 N rb (x.drop 7)):=hR.kept hgs (fun r e=>by cases e;exact jt HND.out);have KY2:w9h W y2:=KZ.grown hgs KZ.size (fun k e=>by cases e;exact HWD.out);have d0:z2.cell? ⟨D,2,none⟩=some (ab ac 0):=hD.cell 2 _ rfl;have d0':=hD.frozen 2;have cc:y2.cell? ⟨N,0,none⟩=some (am (some ⟨rb,0,none⟩)):=CY2.out.cell 0 _ rfl;clear hR hg hD hC KZ hgs;go_wp2_with fail;clear d0 d0' hy;go_at_call 293;refine(om N rb (x.drop 7) 1 y2 cc RY2.out (HXB.out.drop 7) (by rw[dm,HXL.out];omega) (by omega)).mono ?_;rintro e z3 ⟨rfl,hR,hg⟩;rw[Egy.out];rw[ja]at hR;have hD:=DY2.out.grown hg (fun e=>by cases e;exact absurd HND.out (by have:=HrbN.out.1;omega));have hC:=CY2.out.grown hg (fun e=>by cases e;exact iJ _ HrbN.out.1);have KZ:=KY2.out.grown hg KY2.out.size (fun k e=>by cases e;exact HW.out);obtain⟨y3,hy⟩:=w9nm (z3.setCell ⟨D,3,none⟩ (ab ac gy));have hgs:z3.grownBy y3 (some D):=by rw[←hy];exact oo z3 D 3 _
 have DY3:=ae (show aq y3 D _ _ from by rw[←hy];exact hD.set 3 (ab ac gy));have CY3:=ae (hC.grown hgs (fun e=>by cases e;exact iJ _ HND.out));have RY3:Hid (dU y3 N rb (x.drop 8)):=hR.kept hgs (fun r e=>by cases e;exact jt HND.out);have KY3:w9h W y3:=KZ.grown hgs KZ.size (fun k e=>by cases e;exact HWD.out);have d0:z3.cell? ⟨D,3,none⟩=some (ab ac 0):=hD.cell 3 _ rfl;have d0':=hD.frozen 3;have cc:y3.cell? ⟨N,0,none⟩=some (am (some ⟨rb,0,none⟩)):=CY3.out.cell 0 _ rfl;clear hR hg hD hC KZ hgs;go_wp2_with fail;clear d0 d0' hy;go_at_call 293;refine(om N rb (x.drop 8) 2 y3 cc RY3.out (HXB.out.drop 8) (by rw[dm,HXL.out];omega) (by omega)).mono ?_;rintro e z4 ⟨rfl,hR,hg⟩;rw[Ega.out];rw[ja]at hR;have hD:=DY3.out.grown hg (fun e=>by cases e;exact absurd HND.out (by have:=HrbN.out.1;omega));have hC:=CY3.out.grown hg (fun e=>by cases e;exact iJ _ HrbN.out.1);have KZ:=KY3.out.grown hg KY3.out.size (fun k e=>by cases e;exact HW.out);obtain⟨y4,hy⟩:=w9nm (z4.setCell ⟨D,4,none⟩ (ab ac ga));have hgs:z4.grownBy y4 (some D):=by rw[←hy];exact oo z4 D 4 _
 have DY4:=ae (show aq y4 D _ _ from by rw[←hy];exact hD.set 4 (ab ac ga));have CY4:=ae (hC.grown hgs (fun e=>by cases e;exact iJ _ HND.out));have RY4:Hid (dU y4 N rb (x.drop 10)):=hR.kept hgs (fun r e=>by cases e;exact jt HND.out);have KY4:w9h W y4:=KZ.grown hgs KZ.size (fun k e=>by cases e;exact HWD.out);have d0:z4.cell? ⟨D,4,none⟩=some (ab ac 0):=hD.cell 4 _ rfl;have d0':=hD.frozen 4;have cc:y4.cell? ⟨N,0,none⟩=some (am (some ⟨rb,0,none⟩)):=CY4.out.cell 0 _ rfl;clear hR hg hD hC KZ hgs;go_wp2_with fail;clear d0 d0' hy;go_at_call 293;refine(om N rb (x.drop 10) 2 y4 cc RY4.out (HXB.out.drop 10) (by rw[dm,HXL.out];omega) (by omega)).mono ?_;rintro e z5 ⟨rfl,hR,hg⟩;rw[Egr.out];rw[ja]at hR;have hD:=DY4.out.grown hg (fun e=>by cases e;exact absurd HND.out (by have:=HrbN.out.1;omega));have hC:=CY4.out.grown hg (fun e=>by cases e;exact iJ _ HrbN.out.1);have KZ:=KY4.out.grown hg KY4.out.size (fun k e=>by cases e;exact HW.out);obtain⟨y5,hy⟩:=w9nm (z5.setCell ⟨D,5,none⟩ (ab ac gr));have hgs:z5.grownBy y5 (some D):=by rw[←hy];exact oo z5 D 5 _
 have DY5:=ae (show aq y5 D _ _ from by rw[←hy];exact hD.set 5 (ab ac gr));have CY5:=ae (hC.grown hgs (fun e=>by cases e;exact iJ _ HND.out));have RY5:Hid (dU y5 N rb (x.drop 12)):=hR.kept hgs (fun r e=>by cases e;exact jt HND.out);have KY5:w9h W y5:=KZ.grown hgs KZ.size (fun k e=>by cases e;exact HWD.out);have d0:z5.cell? ⟨D,5,none⟩=some (ab ac 0):=hD.cell 5 _ rfl;have d0':=hD.frozen 5;have cc:y5.cell? ⟨N,0,none⟩=some (am (some ⟨rb,0,none⟩)):=CY5.out.cell 0 _ rfl;clear hR hg hD hC KZ hgs;go_wp2_with fail;clear d0 d0' hy;go_at_call 293;refine(om N rb (x.drop 12) 2 y5 cc RY5.out (HXB.out.drop 12) (by rw[dm,HXL.out];omega) (by omega)).mono ?_;rintro e z6 ⟨rfl,hR,hg⟩;rw[Ena.out];rw[ja]at hR;have hD:=DY5.out.grown hg (fun e=>by cases e;exact absurd HND.out (by have:=HrbN.out.1;omega));have hC:=CY5.out.grown hg (fun e=>by cases e;exact iJ _ HrbN.out.1);have KZ:=KY5.out.grown hg KY5.out.size (fun k e=>by cases e;exact HW.out);obtain⟨y6,hy⟩:=w9nm (z6.setCell ⟨D,6,none⟩ (ab ac na));have hgs:z6.grownBy y6 (some D):=by rw[←hy];exact oo z6 D 6 _
 have DY6:=ae (show aq y6 D _ _ from by rw[←hy];exact hD.set 6 (ab ac na));have CY6:=ae (hC.grown hgs (fun e=>by cases e;exact iJ _ HND.out));have RY6:Hid (dU y6 N rb (x.drop 14)):=hR.kept hgs (fun r e=>by cases e;exact jt HND.out);have KY6:w9h W y6:=KZ.grown hgs KZ.size (fun k e=>by cases e;exact HWD.out);have d0:z6.cell? ⟨D,6,none⟩=some (ab ac 0):=hD.cell 6 _ rfl;have d0':=hD.frozen 6;have cc:y6.cell? ⟨N,0,none⟩=some (am (some ⟨rb,0,none⟩)):=CY6.out.cell 0 _ rfl;clear hR hg hD hC KZ hgs;go_wp2_with fail;clear d0 d0' hy;go_at_call 293;refine(om N rb (x.drop 14) 4 y6 cc RY6.out (HXB.out.drop 14) (by rw[dm,HXL.out];omega) (by omega)).mono ?_;rintro e z7 ⟨rfl,hR,hg⟩;rw[Enq.out];rw[ja]at hR;have hD:=DY6.out.grown hg (fun e=>by cases e;exact absurd HND.out (by have:=HrbN.out.1;omega));have hC:=CY6.out.grown hg (fun e=>by cases e;exact iJ _ HrbN.out.1);have KZ:=KY6.out.grown hg KY6.out.size (fun k e=>by cases e;exact HW.out);obtain⟨y7,hy⟩:=w9nm (z7.setCell ⟨D,7,none⟩ (ab aO nq));have hgs:z7.grownBy y7 (some D):=by rw[←hy];exact oo z7 D 7 _
 have DY7:=ae (show aq y7 D _ _ from by rw[←hy];exact hD.set 7 (ab aO nq));have CY7:=ae (hC.grown hgs (fun e=>by cases e;exact iJ _ HND.out));have RY7:Hid (dU y7 N rb (x.drop 18)):=hR.kept hgs (fun r e=>by cases e;exact jt HND.out);have KY7:w9h W y7:=KZ.grown hgs KZ.size (fun k e=>by cases e;exact HWD.out);have d0:z7.cell? ⟨D,7,none⟩=some (ab aO 0):=hD.cell 7 _ rfl;have d0':=hD.frozen 7;have cc:y7.cell? ⟨N,0,none⟩=some (am (some ⟨rb,0,none⟩)):=CY7.out.cell 0 _ rfl;have DF:aq y7 D 198 (cB gen ⟨gb,gs,gy,ga,gr⟩ na nq):=DY7.out;have LD:=DF.sup;obtain⟨y8,ST8,LD8,hb8⟩:=Ol (w:=w) (x:=y7) (B:=W1.heap.size) (u:=cB gen ⟨gb,gs,gy,ga,gr⟩ na nq) ((KY7.out.block _ r2.out.lt).trans r2.out) rfl HZ.out (HB.out.trans (KY7.out.mono HB.out.size)) rfl (jU _ _ _ _);have HL8:=ae LD8;have HB8:=ae hb8;clear LD8 hb8 DF;clear hR hg hD hC KZ hgs;go_wp2_with fail;exact bo (ev rfl rfl HL8.out) rfl ⟨rfl,HB8.out⟩
theorem DM {gen:Int} (hs:dx gen) {x:List Int} (hx:aP x) (hl:x.length=48):SupIn gen (gV x) (gv x) (jq x):=by
 have b2:∀o,o+2<=48->0<=bM ((x.drop o).take 2)/\bM ((x.drop o).take 2)<65536:=fun o ho=>by simpa using tZ x hx hl o 2 ho (by omega)
 have e6:=hx 6;have e7:=hx 7;have q:0<=bM ((x.drop 14).take 4)/\bM ((x.drop 14).take 4)<4294967296:=by simpa using tZ x hx hl 14 4 (by omega) (by omega)
 exact⟨hs,b2 4 (by omega),e6,e7,b2 8 (by omega),b2 10 (by omega),b2 12 (by omega),q⟩
def jW (bs:List Int):List ak:=if fi bs=true then cB (Sct.of bs).seq (gV (Sct.of bs).body) (gv (Sct.of bs).body) (jq (Sct.of bs).body)else fR
noncomputable def kp (bs:List Int):Bool:=if fi bs=true then jI (eB (Sct.of bs).seq (gV (Sct.of bs).body) (gv (Sct.of bs).body) (jq (Sct.of bs).body)) (Sct.of bs)else false
theorem pz {x:ah} {B:Nat} {old C:List ak} (h:aq x B 198 old) (ho:old.length=8) (hC:C.length=8) (h1:∀v ∈ C,v.oneCell'=true):
  ∃y,(aL 198 ⟨B,0,none⟩ (al C.toArray)).run aj x=.ok () y/\aq y B 198 C/\x.grownBy y (some B):=by
 refine⟨_,run_storeVar_row x B _ _ old.toArray C.toArray h (by simpa [hC]using tB) (by simp[ho,hC]) (ky h1),setRow_heap x B _ _ _ _ h, ?_⟩;exact⟨rfl,rfl,rfl,by rw[setRow_size];exact aG _,fun k _ hk=>setRow_other x B k _ (fun e=>hk (by rw[e]))⟩
theorem Oo (bs:List Int) (hb:aP bs) (hl:bs.length=64) (w:ah):
  ap aj 230 #[al (aw bs).toArray] w fun e w'=>e=ao (aQ #[al (jW bs).toArray,.bool (kp bs)])/\ag w.heap.size w w':=by
 obtain⟨W1,hW1⟩:=w9nm (w.alloc (an (aw bs).toArray 51));have r1:aq W1 w.heap.size 51 (aw bs):=by rw[←hW1];exact aq.new w _ _
 have b1:ag w.heap.size w W1:=by rw[←hW1];exact aH w _
 obtain⟨W,hW⟩:=w9nm (W1.alloc (an fR.toArray 198));have b2:ag W1.heap.size W1 W:=by rw[←hW];exact aH W1 _
 have r2:aq W W1.heap.size 198 fR:=by rw[←hW];exact aq.new W1 _ _
 have HB:w9h w W:=b1.trans (b2.mono b1.size);have HZ:Hid (w.heap.size<=W1.heap.size):=b1.size;have L0:=(r1.below b2).blk (by rw[cw];exact hl);have HDE:=ae (vD bs hb hl W);have HPO:=ae (vI hb hl);obtain⟨B1,hB1⟩:=w9nm W1.heap.size;rw[hB1]at r2 HZ;have R2:=ae r2;clear r1 b1 b2 r2 hb hl;by_cases hd:fi bs=true
 ·have e1:lk bs=0:=by unfold lk;rw[if_pos hd]
  have e2:ed bs=Sct.of bs:=by unfold ed;rw[if_pos hd]
  rw[e1,e2]at HDE;rw[e2]at HPO;have e3:jW bs=cB (Sct.of bs).seq (gV (Sct.of bs).body) (gv (Sct.of bs).body) (jq (Sct.of bs).body):=by unfold jW;rw[if_pos hd]
  have e4:kp bs=jI (eB (Sct.of bs).seq (gV (Sct.of bs).body) (gv (Sct.of bs).body) (jq (Sct.of bs).body)) (Sct.of bs):=by unfold kp;rw[if_pos hd]
  rw[e3,e4];obtain⟨p,hp⟩:=w9nm (Sct.of bs);rw[hp]at HDE HPO ⊢;clear e1 e2 e3 e4 hd hp;have HIN:=ae (DM HPO.out.seq HPO.out.bytes HPO.out.len);have HFD:=ae (On p HPO.out);obtain⟨C,hC⟩:=w9nm (cB p.seq (gV p.body) (gv p.body) (jq p.body));obtain⟨q,hq⟩:=w9nm (eB p.seq (gV p.body) (gv p.body) (jq p.body));have HSE:Hid (∀x,ap aj 216 #[al C.toArray] x fun e w'=>e=ao (al q.cells.toArray)/\ag x.heap.size x w'):=fun x=>by
   have:=Ds HIN.out x;rw[hC,hq]at this;exact this
  have hCl:C.length=8:=by rw[←hC];rfl
  have hC1:∀v ∈ C,v.oneCell'=true:=by rw[←hC];exact jU _ _ _ _
  have hql:q.body.length=48:=by rw[←hq];exact tC _ _ _ _
  rw[hC]at HFD;rw[hC,hq];have HCL:=ae hCl;have HC1:=ae hC1;have EQ:Hid (∀z:ah,(jG 10000 304 (al q.cells.toArray) (al p.cells.toArray)).run aj z=.ok (jI q p) z):=fun z=>vu hql HPO.out.len z;obtain⟨ok,hok⟩:=w9nm (jI q p);rw[hok]at EQ ⊢;have hmx:=w9x
  clear hC hq hCl hC1 hql HIN hok;go_enter func230,ntmps230;go_wp2_with fail;go_at_call 232;refine HDE.out.mono ?_;rintro e x1 ⟨rfl,hb⟩;obtain⟨x2,ST2,r2,hb2⟩:=qj x1 p HPO.out.len;have K2:w9h W x2:=hb.trans (hb2.mono hb.size);have L2:=r2.pg HPO.out.len;obtain⟨Bp,hBp⟩:=w9nm x1.heap.size;rw[hBp]at ST2 r2 L2;have RP2:=ae r2;clear hb hb2 r2 L0;go_wp2_with fail;clear ST2 hBp;go_at_call 267;refine(HFD.out x2).mono ?_;rintro e x3 ⟨rfl,hb⟩;have K3:=K2.out.trans (hb.mono K2.out.size);have r3:=RP2.out.below hb;obtain⟨x4,ST4,r4,g4⟩:=pz (C:=C) ((R2.out.below K3)) rfl HCL.out HC1.out;have hpb:Bp≠B1:=fun e=>by
   have h1:aq x3 Bp _ _:=r3;have h2:=R2.out.below K3;rw[e]at h1;have:=h1.symm.trans h2;simp at this
  have RP4:=ae (r3.grown g4 (fun e=>hpb (by cases e;rfl)));have RS4:=ae r4;have K4:w9h w x4:=(HB.out.trans (K3.mono HB.out.size)).grown g4 (HB.out.trans (K3.mono HB.out.size)).size (fun k e=>by cases e;exact HZ.out);clear hb K3 r3 r4 g4 hpb L2;go_wp2_with fail;clear ST4;have LSz:∀z:aM x4,(aE 198 ⟨B1,0,none⟩).run aj z.1=.ok (al C.toArray) z.1:=fun z=>mL (RS4.out.below z.2).range HCL.out;have LPz:∀z:aM x4,(aE 304 ⟨Bp,0,none⟩).run aj z.1=.ok (al p.cells.toArray) z.1:=fun z=>(RP4.out.below z.2).pg HPO.out.len;refine du (fun x=>∃y:aM x4,x=y.1) 6 (.takes [0,1,3] (.one 2 (.take 4 (.one 5 .leaf)))) hmx (by kernel_rfl) (by intro c x v a w h;cases x<;>exact h) ⟨⟨x4.drew,(aI _ x4).drew⟩,rfl⟩ ?_;repeat(rw[bu];simp only[aB,aC];go_big_quiet_step (fail);refine aV ?_)
  rw[bt,aT];simp only[aB,aC];clear LSz LPz;go_wp2_with fail;go_at_call 216;refine(HSE.out _).mono ?_;rintro e x5 ⟨rfl,hb⟩;have K5:w9h x4 x5:=((aI _ x4).drew).trans hb;clear hb;go_wp2_with fail;refine aN ⟨⟨x5,K5.out⟩,rfl⟩ ?_;rw[rz];simp only[aB,aC];have EQ5:=EQ.out
  go_big_quiet_step (fail)
  refine aV ?_;clear EQ5;rw[aT];simp only[aB,aC];obtain⟨x6,ST6,r6,g6⟩:=pz (C:=C) (RS4.out.below K5.out) HCL.out HCL.out HC1.out;have K6:Hid (ag x4.heap.size x4 x6):=by
   refine⟨g6.os.trans K5.out.os,g6.tape.trans K5.out.tape,g6.output.trans K5.out.output,bm K5.out.size g6.size,fun k hk=> ?_⟩;by_cases hkb:k=B1
   ·subst hkb;exact(show x6.heap[k]? =_ from r6).trans (show x4.heap[k]? =_ from RS4.out).symm
   ·exact(g6.block k (bq hk K5.out.size) (fun e=>hkb (by cases e;rfl))).trans (K5.out.block k hk)
  have LD:=ae (mL (r6.range) HCL.out);have HB6:w9h w x6:=K4.out.trans (K6.out.mono K4.out.size);clear r6 g6;go_wp2_with fail;refine aN ⟨⟨x6,K6.out⟩,rfl⟩ ?_;rw[cW];simp only[bR,bQ];clear ST6;go_wp2_with fail;exact bo (eH rfl rfl LD.out) rfl ⟨rfl,HB6.out⟩
 ·have e1:lk bs=11:=by unfold lk;rw[if_neg hd]
  rw[e1]at HDE;have e3:jW bs=fR:=by unfold jW;rw[if_neg hd]
  have e4:kp bs=false:=by unfold kp;rw[if_neg hd]
  rw[e3,e4];obtain⟨p,hp⟩:=w9nm (ed bs);rw[hp]at HDE HPO;clear e1 e3 e4 hd hp;go_enter func230,ntmps230;go_wp2_with fail;go_at_call 232;refine HDE.out.mono ?_;rintro e x1 ⟨rfl,hb⟩;obtain⟨x2,ST2,r2,hb2⟩:=qj x1 p HPO.out.len;have K2:w9b W x2:=hb.trans (hb2.mono hb.size);obtain⟨Bp,hBp⟩:=w9nm x1.heap.size;rw[hBp]at ST2;obtain⟨x4,ST4,r4,g4⟩:=pz (C:=fR) ((R2.out.below K2)) rfl rfl (jU _ _ _ _);have LD:=ae (mL (r4.range) rfl);have K4:w9h w x4:=(HB.out.trans (K2.mono HB.out.size)).grown g4 (HB.out.trans (K2.mono HB.out.size)).size (fun k e=>by cases e;exact HZ.out);clear hb hb2 r2 L0 K2 r4 g4;go_wp2_with fail;exact bo (eH rfl rfl LD.out) rfl ⟨rfl,K4.out⟩
end
section
structure MetaRes where
 Mem:Nat->Nat->MS->ef
 isRes:∀m rb M,IsRes (Mem m rb M)
def ub (v:ak) (f:Nat->Prop):Prop:=∀b off len cap,v=af (some ⟨b,off,none⟩) len cap->¬f b
def DN (v:ak) (w w':ah):Prop:=∀b off len cap,v=af (some ⟨b,off,none⟩) len cap->w.heap.size<=b
abbrev MetaRes.Both (R:MetaRes) (rb p0 p1 m:Nat) (S:RS) (M:MS):ef:=dr (aU rb p0 p1 S) (R.Mem m rb M)
structure MetaOk (R:MetaRes):Prop where
 format:∀{rb p0 p1:Nat} {S:RS} {w:ah} {f:Nat->Prop},aU rb p0 p1 S w f->S.Rdy->S.Up->∀{g:Geo},g.In->g.good->g.oF<=S.n0->g.oW<=S.n1->∀{v:ak} {bs:List Int},Sl ay w v bs->aP bs->bs.length=g.bts.toNat->(bs≠ []->ub v f)->
  ap aj 57 #[am (some ⟨rb,0,none⟩),al g.v,v] w fun e w'=>∃m,e=ao (aQ #[am (some ⟨m,0,none⟩),ab ac 0])/\∃f',R.Both rb p0 p1 m (S.bat (cU g bs)).1 (MS.new g bs) w' f'/\Turn f f' w w'
 format_no:∀{rb p0 p1:Nat} {S:RS} {w:ah} {f:Nat->Prop},aU rb p0 p1 S w f->S.Rdy->∀{g:Geo},g.In->∀{v:ak} {bs:List Int},Sl ay w v bs->¬(g.good/\g.oF<=S.n0/\g.oW<=S.n1/\bs.length=g.bts.toNat)->
  ap aj 57 #[am (some ⟨rb,0,none⟩),al g.v,v] w fun e w'=>e=ao (aQ #[am none,ab ac 1])/\ag w.heap.size w w'
 open_:∀{rb p0 p1:Nat} {S:RS} {w:ah} {f:Nat->Prop},aU rb p0 p1 S w f->S.Rdy->S.Up->∀{M:MS},S.opn=some M->
  ap aj 65 #[am (some ⟨rb,0,none⟩)] w fun e w'=>∃m,e=ao (aQ #[am (some ⟨m,0,none⟩),ab ac 0])/\∃f',R.Both rb p0 p1 m S M w' f'/\Turn f f' w w'
 open_no:∀{rb p0 p1:Nat} {S:RS} {w:ah} {f:Nat->Prop},aU rb p0 p1 S w f->S.Rdy->S.Up->2<=S.n0->S.opn=none->
  ap aj 65 #[am (some ⟨rb,0,none⟩)] w fun e w'=>e=ao (aQ #[am none,ab ac 11])/\ag w.heap.size w w'
 open_nil:∀w:ah,ap aj 65 #[am none] w fun e w'=>e=ao (aQ #[am none,ab ac 1])/\ag w.heap.size w w'
 bytes:∀{m rb:Nat} {M:MS} {w:ah} {f:Nat->Prop},R.Mem m rb M w f->M.b.length<=100000->aP M.b->ap aj 68 #[am (some ⟨m,0,none⟩)] w fun e w'=>∃v,e=ao v/\Sl ay w' v M.b/\DN v w w'/\ag w.heap.size w w'
 bytes_nil:∀w:ah,ap aj 68 #[am none] w fun e w'=>∃v,e=ao v/\Sl ay w' v []/\ag w.heap.size w w'
 room:∀{m rb:Nat} {M:MS} {w:ah} {f:Nat->Prop},R.Mem m rb M w f->M.g.good->M.used<=M.g.C->ap aj 69 #[am (some ⟨m,0,none⟩)] w fun e w'=>e=ao (ab ac M.room)/\ag w.heap.size w w'
 room_nil:∀w:ah,ap aj 69 #[am none] w fun e w'=>e=ao (ab ac 0)/\ag w.heap.size w w'
 geom:∀{m rb:Nat} {M:MS} {w:ah} {f:Nat->Prop},R.Mem m rb M w f->ap aj 71 #[am (some ⟨m,0,none⟩)] w fun e w'=>e=ao (al M.g.v)/\ag w.heap.size w w'
 geom_nil:∀w:ah,ap aj 71 #[am none] w fun e w'=>e=ao (al (Geo.mk 0 0 0 0 0).v)/\ag w.heap.size w w'
 commit:∀{rb p0 p1 m:Nat} {S:RS} {M:MS} {w:ah} {f:Nat->Prop},R.Both rb p0 p1 m S M w f->S.Rdy->S.down=false->M.Ok S->∀{v:ak} {bs:List Int},Sl ay w v bs->aP bs->bs.length=M.b.length->(bs≠ []->ub v f)->
  ap aj 60 #[am (some ⟨m,0,none⟩),v] w fun e w'=>e=ao (ab ac (S.cmt M bs).2)/\∃f',(if(S.cmt M bs).2=0 then R.Both rb p0 p1 m (S.cmt M bs).1 (M.next bs)else aU rb p0 p1 (S.cmt M bs).1) w' f'/\Turn f f' w w'
 commit_no:∀{m rb:Nat} {M:MS} {w:ah} {f:Nat->Prop},R.Mem m rb M w f->∀{v:ak} {bs:List Int},Sl ay w v bs->bs.length≠M.b.length->
  ap aj 60 #[am (some ⟨m,0,none⟩),v] w fun e w'=>e=ao (ab ac 1)/\ag w.heap.size w w'
 commit_nil:∀(w:ah) {v:ak} {bs:List Int},Sl ay w v bs->ap aj 60 #[am none,v] w fun e w'=>e=ao (ab ac 1)/\ag w.heap.size w w'
theorem gT.split {P Q:ef} {w0 W:ah} {own:Nat->Prop} (hQ:IsRes Q) (h:gT (dr P Q) w0 W own):∃fQ,Q W fQ/\(∀k,fQ k->w0.heap.size<=k/\¬own k)/\gT P w0 W (fun k=>own k\/fQ k):=by
 obtain⟨f,⟨f1,f2,h1,h2,h3,rfl⟩,h4,h5,h6⟩:=h;exact⟨f2,h2,fun k hk=>h4 k (aD hk),f1,h1,fun k hk=>⟨(h4 k (aA hk)).1,fun ho=>ho.elim (h4 k (aA hk)).2 (h3 k hk)⟩,fun k hk=>hk.elim (h5 k) (hQ.lt h2 k),h6⟩
end
section
attribute [-simp] isAgg51 zeroValue51 isAgg205 zeroValue205 isAgg304 zeroValue304 isAgg226 zeroValue226 isAgg207 zeroValue207 isAgg198 zeroValue198
attribute [-go_sem] aE aL cS
attribute [local go_sem] bC bD dz eK eL eM iD ew gH iC gI gJ
theorem SupIn.inG {gen:Int} {g:Geo} {a q:Int} (h:SupIn gen g a q):g.In:=by
 obtain⟨h1,h2,h3,h4,h5,h6,h7,h8,h9,h10, -⟩:=h.of;intro n hn;simp only[dy,lM,or_false]at hn;rcases hn with rfl | rfl | rfl | rfl | rfl<;>omega
theorem Oq {gen:Int} {g:Geo} {a:Nat} {q:Int} {p:Sct}:gG gen g a q=p↔p.mark=83/\p.seq=gen/\p.index=0/\p.body=ik g a q:=by
 obtain⟨m,s,i,b⟩:=p;unfold gG;simp only[Sct.mk.injEq];constructor
 ·rintro⟨rfl,rfl,rfl,rfl⟩;exact⟨rfl,rfl,rfl,rfl⟩
 ·rintro⟨rfl,rfl,rfl,rfl⟩;exact⟨rfl,rfl,rfl,rfl⟩
theorem DO (n0 n1:Nat) {bs:List Int} (hb:aP bs) (hl:bs.length=64):
  (∃x,jQ n0 n1 bs=some x/\kp bs=true/\jW bs=cB x.gen x.g x.a x.q/\(x.g.fitsR n0 n1/\(x.a:Int)<x.g.r)/\SupIn x.gen x.g x.a x.q)\/
  (jQ n0 n1 bs=none/\(kp bs=false\/∃gen g a q,kp bs=true/\jW bs=cB gen g a q/\SupIn gen g a q/\¬(g.fitsR n0 n1/\a<g.r))):=by
 have hp:=mU hb hl;by_cases hd:fi bs=true
 ·have hin:=DM hp.seq hp.bytes hp.len;have hA:((gv (Sct.of bs).body).toNat:Int)=gv (Sct.of bs).body:=Int.toNat_of_nonneg hin.at0.1;have hv:jW bs=cB (Sct.of bs).seq (gV (Sct.of bs).body) (gv (Sct.of bs).body) (jq (Sct.of bs).body):=by unfold jW;rw[if_pos hd]
  have ht:kp bs=jI (eB (Sct.of bs).seq (gV (Sct.of bs).body) (gv (Sct.of bs).body) (jq (Sct.of bs).body)) (Sct.of bs):=by unfold kp;rw[if_pos hd]
  have hiff:kp bs=true↔(Sct.of bs).mark=83/\(Sct.of bs).seq=(Sct.of bs).seq/\(Sct.of bs).index=0/\(Sct.of bs).body=ik (gV (Sct.of bs).body) (gv (Sct.of bs).body).toNat (jq (Sct.of bs).body):=by
   rw[ht,su,←hA,xh,Oq,iG]
  by_cases hP:pu n0 n1 bs
  ·left
   refine⟨_,by unfold jQ;exact if_pos hP, ?_, ?_, ?_, ?_⟩
   ·obtain⟨_,h2,h3,_,_,_,_,h8⟩:=hP;exact hiff.2 ⟨h2,rfl,h3,h8⟩
   ·show _=cB _ _ ((gv (Sct.of bs).body).toNat:Int) _;rw[hA];exact hv
   ·obtain⟨_,_,_,h4,h5,h6,h7,_⟩:=hP;exact⟨⟨h4,h5,h6⟩,by show((gv (Sct.of bs).body).toNat:Int)<_;rw[hA];exact h7⟩
   ·show SupIn _ _ ((gv (Sct.of bs).body).toNat:Int) _;rw[hA];exact hin
  ·right
   refine⟨by unfold jQ;exact if_neg hP, ?_⟩;by_cases hT:kp bs=true
   ·right
    refine⟨_,_,_,_,hT,hv,hin,fun h=>hP ?_⟩;obtain⟨h2,_,h3,h8⟩:=hiff.1 hT;exact⟨hd,h2,h3,h.1.1,h.1.2.1,h.1.2.2,h.2,h8⟩
   ·left;simpa using hT
 ·right
  refine⟨by unfold jQ;exact if_neg (fun h=>hd h.1),aA (by unfold kp;exact if_neg hd)⟩
section
theorem DP {v:ak} {n0 n1:Nat} {gen:Int} {g:Geo} {a q:Int} (hI:SupIn gen g a q) (w:ah)
  (H0:∀x,ag w.heap.size w x->ap aj 167 #[v,ab ac 0] x fun e w'=>e=ao (ab ac (n0:Int))/\ag x.heap.size x w')
  (H1:∀x,ag w.heap.size w x->ap aj 167 #[v,ab ac 1] x fun e w'=>e=ao (ab ac (n1:Int))/\ag x.heap.size x w'):
  ap aj 231 #[al (cB gen g a q).toArray,v] w fun e w'=>e=ao (.bool (decide (g.fitsR n0 n1)&&decide (a<g.r)))/\ag w.heap.size w w':=by
 obtain⟨W,hW⟩:=w9nm (w.alloc (an (cB gen g a q).toArray 198));have r1:aq W w.heap.size 198 (cB gen g a q):=by rw[←hW];exact aq.new w _ _
 have b1:ag w.heap.size w W:=by rw[←hW];exact aH w _
 have HBW:=ae b1;have HR:=ae r1;have L0:=r1.supG;have HF:=ae (DJ g hI.inG W (fun x hx=>H0 x (b1.trans (hx.mono b1.size))) (fun x hx=>H1 x (b1.trans (hx.mono b1.size))));obtain⟨B,hB⟩:=w9nm w.heap.size;rw[hB]at L0 HR;obtain⟨sc,hsc⟩:=w9nm ((cB gen g a q).toArray);rw[hsc]at hW;rw[hsc];obtain⟨z,hz⟩:=w9nm (decide (g.fitsR n0 n1));rw[hz]at HF ⊢;clear r1 b1 H0 H1 hsc hz;go_enter func231,ntmps231;go_wp2_with fail;go_at_call 126;refine HF.out.mono ?_;rintro e x1 ⟨rfl,hb⟩;have K1:=w9bt HBW hb;have r1:=HR.out.below hb;have c6:x1.cell? ⟨B,6,none⟩=some (ab ac a):=r1.cell 6 _ rfl;have c5:x1.cell? ⟨B,5,none⟩=some (ab ac g.r):=r1.cell 5 _ rfl;clear hb L0 r1;cases z with
 | true=>
  go_wp2_with fail;go_ret;exact⟨by simp,K1.out⟩
 | false=>
  go_wp2_with fail;go_ret;exact⟨by simp,K1.out⟩
end
def ma (i:Nat) (s:Option Sup) (cur:Option (Nat×Sup)):Option (Nat×Sup):=
 match s with
 | none=>cur
 | some y=>match cur with
  | none=>some (i,y)
  | some (j,x)=>if x.gen<y.gen then some (i,y)else some (j,x)
def iW (s:Nat->Option Sup):Nat->Option (Nat×Sup)
 | 0=>none
 | k+1=>ma k (s k) (iW s k)
theorem Ot (s:Nat->Option Sup):iW s 2=newer (s 0) (s 1):=by
 show ma 1 (s 1) (ma 0 (s 0) none)=_;unfold newer ma;cases s 0<;>cases s 1<;>rfl
def qR:Option (Nat×Sup)->List ak
 | none=>fR
 | some (_,x)=>cB x.gen x.g x.a x.q
def pA:Option (Nat×Sup)->Int
 | none=> -1
 | some (j,_)=>j
theorem ud (c:Option (Nat×Sup)):(qR c).length=8:=by cases c<;>rfl
theorem DQ (c:Option (Nat×Sup)):∀v ∈ qR c,v.oneCell'=true:=by
 cases c with
 | none=>exact jU _ _ _ _
 | some p=>exact jU _ _ _ _
theorem xA (s:Nat->Option Sup):∀k,(iW s k=none)\/∃j x,iW s k=some (j,x)/\j<k
 | 0=>aA rfl
 | k+1=>by
  show(ma k (s k) (iW s k)=none)\/∃j x,ma k (s k) (iW s k)=some (j,x)/\j<k+1;rcases xA s k with h | ⟨j,x,h,hj⟩
  ·rw[h];cases hs:s k with
   | none=>exact aA rfl
   | some y=>exact aD ⟨k,y,rfl,Nat.lt_succ_self k⟩
  ·rw[h];cases hs:s k with
   | none=>exact aD ⟨j,x,rfl,by omega⟩
   | some y=>
    right
    show∃j' x',(if x.gen<y.gen then some (k,y)else some (j,x))=some (j',x')/\j'<k+1;by_cases hg:x.gen<y.gen
    ·rw[if_pos hg];exact⟨k,y,rfl,Nat.lt_succ_self k⟩
    ·rw[if_neg hg];exact⟨j,x,rfl,by omega⟩
def xB:Option (Nat×Sup)->Array ak
 | none=>#[al fR.toArray,ab ac 0,ab ac 11]
 | some (j,x)=>#[al (cB x.gen x.g x.a x.q).toArray,ab ac (j:Int),ab ac 0]
theorem DR {P:Program} {fn:Func} {p u v':Tmp} {ty:aR} {tmps:Array ak} {w:ah} {ad:aF} {v:ak} (h:fn.results=#[.cell p ty,.tmp u,.tmp v']) (ha:tmps.getD p az=am (some ad)) (hl:(aE ty ad).run P w=.ok v w):
  (results fn tmps).run P w=.ok (aQ #[v,tmps.getD u az,tmps.getD v' az]) w:=by
 have e:(asAddr (am (some ad))).run P w=.ok ad w:=by simp[asAddr]
 have ha':tmps[p]?.getD az=am (some ad):=by simpa using ha
 simp[results,h,gK,Result.andThen,ha',e,hl]
theorem qS (x:ah) {C:List ak} (hl:C.length=8) (h1:∀v ∈ C,v.oneCell'=true):∃y,(aL 198 ⟨x.heap.size,0,none⟩ (al C.toArray)).run aj (x.alloc (an fR.toArray 198))=.ok () y/\aq y x.heap.size 198 C/\ag x.heap.size x y:=
 ⟨_,Do rfl hl h1,aq.new x _ _,aH x _⟩
theorem DS {bs:List Int}:(jW bs).length=8/\∀v ∈ jW bs,v.oneCell'=true:=by
 unfold jW;split
 ·exact⟨rfl,jU _ _ _ _⟩
 ·exact⟨rfl,jU _ _ _ _⟩
theorem aU.rd0 {rb p0 p1:Nat} {S:RS} {w:ah} {f:Nat->Prop} (h:aU rb p0 p1 S w f) (hby:S.Byt) (hup:S.down=false) {i:Nat} (hi:i<S.n0):
  ap aj 72 #[am (some ⟨rb,0,none⟩),ab ac 0,ab ac (i:Int)] w fun e w'=>e=ao (aQ #[al (aw (S.rd i)).toArray,ab ac 0])/\ag w.heap.size w w':=by
 have hh:=h.read 0 (i:Int);have e1:S.read 0 (i:Int)=aw (S.rd i):=by
  unfold RS.read;rw[if_pos ⟨RS.has0 hi,hup⟩];unfold RS.look;rw[if_pos rfl];exact(hby i hi).2.2
 have e2:S.readE 0 (i:Int)=0:=by
  unfold RS.readE;rw[if_pos (RS.has0 hi),if_neg (by rw[hup];simp)]
 rw[e1,e2]at hh;exact hh
section
theorem Ou {rb p0 p1:Nat} {S:RS} {w:ah} {f:Nat->Prop} (h:aU rb p0 p1 S w f) (hby:S.Byt) (hup:S.down=false) (hn:2<=S.n0):
  ap aj 156 #[am (some ⟨rb,0,none⟩)] w fun e w'=>e=ao (aQ (xB (newer (S.supAt 0) (S.supAt 1))))/\ag w.heap.size w w':=by
 rw[←Ot];obtain⟨s,hs⟩:∃s:Nat->Option Sup,s=S.supAt:=⟨_,rfl⟩;have HSS:Hid (∀i,i<2->s i=jQ S.n0 S.n1 (S.rd i)):=fun i hi=>by rw[hs];unfold RS.supAt;rw[if_pos (by omega)]
 rw[←hs];have HRD:Hid (∀(x:ah) (i:Nat),ag w.heap.size w x->i<2->ap aj 72 #[am (some ⟨rb,0,none⟩),ab ac 0,ab ac (i:Int)] x fun e w'=>e=ao (aQ #[al (aw (S.rd i)).toArray,ab ac 0])/\ag x.heap.size x w'):=fun x i hx hin=>(h.beside hx).rd0 hby hup (by omega);have HLN:Hid (∀(x:ah) (dev:Int),ag w.heap.size w x->ap aj 167 #[am (some ⟨rb,0,none⟩),ab ac dev] x fun e w'=>e=ao (ab ac (S.len dev:Int))/\ag x.heap.size x w'):=fun x dev hx=>(h.beside hx).len dev;have HBY:Hid (∀i,i<2->aP (S.rd i)/\(S.rd i).length=64):=fun i hi=>⟨(hby i (by omega)).1,(hby i (by omega)).2.1⟩;have hl0:S.len 0=S.n0:=rfl;have hl1:S.len 1=S.n1:=rfl;have HL0:=ae hl0;have HL1:=ae hl1;obtain⟨W1,hW1⟩:=w9nm (w.alloc (an fR.toArray 198));have r1:aq W1 w.heap.size 198 fR:=by rw[←hW1];exact aq.new w _ _
 have b1:ag w.heap.size w W1:=by rw[←hW1];exact aH w _
 obtain⟨W,hW⟩:=w9nm (W1.alloc (an fR.toArray 198));have b2:ag W1.heap.size W1 W:=by rw[←hW];exact aH W1 _
 have r2:aq W W1.heap.size 198 fR:=by rw[←hW];exact aq.new W1 _ _
 have HB:w9h w W:=b1.trans (b2.mono b1.size);have HNE:Hid (w.heap.size<W1.heap.size):=r1.lt;have R1:=ae (r1.below b2);obtain⟨B2,hB2⟩:=w9nm w.heap.size;obtain⟨B5,hB5⟩:=w9nm W1.heap.size;rw[hB5]at r2;rw[hB2,hB5]at HNE;rw[hB2]at R1;have HB2:=ae hB2;have R2:=ae r2;clear h hby hup hn hs r1 b1 b2 r2 hl0 hl1;go_enter func156,ntmps156;go_wp2_with fail;go_loopw [6,12] (fun wh i wr=>∃k:Nat,k<=2/\i=ab ac (k:Int)/\wh=ab ac (pA (iW s k))/\Hid (aq wr B2 198 fR)/\Hid (aq wr B5 198 (qR (iW s k)))/\w9h w wr) (fun _ i _=>2 - (aS i).toNat)
 case atStart=>exact⟨0,bc _,rfl,rfl,R1,R2,HB⟩
 case round=>
  obtain⟨k,hk,rfl,rfl,H1,H5,HBw⟩:=hrel;by_cases hlt:k<2
  ·have g3:decide ((k:Int)<2)=true:=by simp;omega
   have HR:=ae (HRD.out wr k HBw.out hlt);obtain⟨hbb,hbl⟩:=HBY.out k hlt;have hsk:=HSS.out k hlt;obtain⟨bs,hbs⟩:=w9nm (S.rd k);rw[hbs]at HR hbb hbl hsk;have HBB:=ae hbb;have HBL:=ae hbl;have HSK:=ae hsk;clear hbb hbl hsk hbs;go_wp2_with fail;go_at_call 72;refine HR.out.mono ?_;rintro e x1 ⟨rfl,hb⟩;obtain⟨x2,ST2,hr2,hb2⟩:=kE x1 (gQ HBL.out);have L2:=hr2.blk (by rw[cw];exact HBL.out);have K2:w9h wr x2:=hb.trans (hb2.mono hb.size);clear hb hr2 hb2 HR;go_wp2_with fail;clear ST2;go_at_call 230;refine(Oo bs HBB.out HBL.out x2).mono ?_;rintro e x3 ⟨rfl,hb⟩;obtain⟨x4,ST4,r4,hb4⟩:=qS x3 (C:=jW bs) DS.1 DS.2;have K4:w9h wr x4:=K2.out.trans ((hb.trans (hb4.mono hb.size)).mono K2.out.size);obtain⟨B10,hB10⟩:=w9nm x3.heap.size;rw[hB10]at ST4 r4;have R4:=ae r4;have H14:=ae (H1.out.below K4.out);have H54:=ae (H5.out.below K4.out);have B4:w9h w x4:=HBw.out.trans (K4.out.mono HBw.out.size);clear hb hb4 r4 L2;rcases DO S.n0 S.n1 HBB.out HBL.out with⟨y,hy1,hy2,hy3,hy4,hy5⟩ | ⟨hn1,hn2⟩
   ·rw[hy3]at ST4 R4;rw[hy2,hy3];have HY:Hid (s k=some y):=HSK.out.trans hy1;have HCO:Hid (∀x,ag w.heap.size w x->ap aj 231 #[al (cB y.gen y.g y.a y.q).toArray,am (some ⟨rb,0,none⟩)] x fun e w'=>e=ao (.bool true)/\ag x.heap.size x w'):=fun x hx=>by
     have:=DP (n0:=S.n0) (n1:=S.n1) (v:=am (some ⟨rb,0,none⟩)) hy5 x (fun z hz=>by have:=HLN.out z 0 (hx.trans (hz.mono hx.size));rwa [HL0.out]at this) (fun z hz=>by have:=HLN.out z 1 (hx.trans (hz.mono hx.size));rwa [HL1.out]at this);rw[decide_eq_true hy4.1,decide_eq_true hy4.2]at this;exact this
    have L4:=R4.out.sup;have HCX:=ae (HCO.out x4 B4.out);obtain⟨C,hC⟩:=w9nm (cB y.gen y.g y.a y.q);obtain⟨yg,hyg⟩:=w9nm y.gen;have HC8:Hid (C.length=8/\∀v ∈ C,v.oneCell'=true):=by refine(?_:_/\_);rw[←hC];exact⟨rfl,jU _ _ _ _⟩
    have HCC:=ae hC;have HC0:Hid (C[0]? =some (ab aO yg)):=by show _=_;rw[←hC,←hyg];rfl
    rw[hC]at ST4 R4 L4 HCX ⊢;have HYG:=ae hyg;clear hy1 hy2 hy3 hy4 hy5 HCO hC hyg;go_wp2_with fail;clear ST4;go_at_call 231;refine HCX.out.mono ?_;rintro e x5 ⟨rfl,hb⟩;have R5:=ae (R4.out.below hb);have H15:=ae (H14.out.below hb);have H55:=ae (H54.out.below hb);have B5':w9h w x5:=B4.out.trans (hb.mono B4.out.size);have c10:x5.cell? ⟨B10,0,none⟩=some (ab aO yg):=R5.out.cell 0 _ HC0.out;have L5:(aE 198 ⟨B10,0,none⟩).run aj x5=.ok (al C.toArray) x5:=mL R5.out.range HC8.out.1;obtain⟨x6,ST6,r6,g6⟩:=pz (C:=C) H55.out (ud _) HC8.out.1 HC8.out.2;have H16:=ae (H15.out.grown g6 (fun e=>by cases e;exact iJ _ HNE.out));have B6:w9h w x6:=B5'.out.grown g6 B5'.out.size (fun j e=>by cases e;have:=HNE.out;have:=HB2.out;omega);have R6:=ae r6;clear hb r6 g6 L4;rcases xA s k with hc | ⟨j,x,hc,hj⟩
    ·rw[hc];have g5:decide (pA none<0)=true:=rfl;have HST:Hid (iW s (k+1)=some (k,y)):=by show ma k (s k) (iW s k)=_;rw[HY.out,hc];rfl
     have hw:pA none= -1:=rfl;rw[hw];go_wp2_with fail;go_roundw
     case rel=>exact⟨k+1,by omega,by go_num,by rw[HST.out];rfl,H16,by rw[HST.out];show Hid (aq x6 B5 _ (cB _ _ _ _));rw[HCC.out];exact R6,B6⟩
     case measure=>simp[aS];omega
    ·rw[hc];have hw:pA (some (j,x))=(j:Int):=rfl;rw[hw];have c5:x5.cell? ⟨B5,0,none⟩=some (ab aO x.gen):=by have:=H55.out;rw[hc]at this;exact this.cell 0 _ rfl
     obtain⟨xg,hxg⟩:=w9nm x.gen;rw[hxg]at c5;by_cases hg:xg<yg
     ·have g5:decide (yg>xg)=true:=by simpa using hg
      have g5':decide (xg<yg)=true:=g5;have HST:Hid (iW s (k+1)=some (k,y)):=by show ma k (s k) (iW s k)=_;rw[HY.out,hc];exact if_pos (by rw[hxg,HYG.out];exact hg)
      clear hg hxg;go_wp2_with fail;go_roundw
      case rel=>exact⟨k+1,by omega,by go_num,by rw[HST.out];rfl,H16,by rw[HST.out];show Hid (aq x6 B5 _ (cB _ _ _ _));rw[HCC.out];exact R6,B6⟩
      case measure=>simp[aS];omega
     ·have g5:decide (yg>xg)=false:=by simpa using hg
      have g5':decide (xg<yg)=false:=g5;have HST:Hid (iW s (k+1)=some (j,x)):=by show ma k (s k) (iW s k)=_;rw[HY.out,hc];exact if_neg (by rw[hxg,HYG.out];exact hg)
      rw[hc]at H55;clear hg hxg ST6;go_wp2_with fail;go_roundw
      case rel=>exact⟨k+1,by omega,by go_num,by rw[HST.out];rfl,H15,by rw[HST.out];exact H55,B5'⟩
      case measure=>simp[aS];omega
   ·have HY:Hid (s k=none):=HSK.out.trans hn1;have HST:Hid (iW s (k+1)=iW s k):=by show ma k (s k) (iW s k)=_;rw[HY.out];rfl
    rcases hn2 with hn2 | ⟨gen,g,a,q,hn2,hv,hin,hnf⟩
    ·rw[hn2];obtain⟨C,hC⟩:=w9nm (jW bs);rw[hC]at ST4 ⊢;clear hn1 hn2;go_wp2_with fail;go_roundw
     case rel=>exact⟨k+1,by omega,by go_num,by rw[HST.out],H14,by rw[HST.out];exact H54,B4⟩
     case measure=>simp[aS];omega
    ·rw[hv]at ST4 R4;rw[hn2,hv];have HCX:Hid (ap aj 231 #[al (cB gen g a q).toArray,am (some ⟨rb,0,none⟩)] x4 fun e w'=>e=ao (.bool false)/\ag x4.heap.size x4 w'):=by
      have:=DP (n0:=S.n0) (n1:=S.n1) (v:=am (some ⟨rb,0,none⟩)) hin x4 (fun z hz=>by have:=HLN.out z 0 (B4.out.trans (hz.mono B4.out.size));rwa [HL0.out]at this) (fun z hz=>by have:=HLN.out z 1 (B4.out.trans (hz.mono B4.out.size));rwa [HL1.out]at this);have e:(decide (g.fitsR S.n0 S.n1)&&decide (a<g.r))=false:=by
       by_cases h1:g.fitsR S.n0 S.n1
       ·rw[decide_eq_false (fun h2=>hnf ⟨h1,h2⟩),Bool.and_false]
       ·rw[decide_eq_false h1,Bool.false_and]
      rw[e]at this;exact this
     have L4:=R4.out.sup;obtain⟨C,hC⟩:=w9nm (cB gen g a q);rw[hC]at ST4 L4 HCX ⊢;clear hn1 hn2 hv hin hnf;go_wp2_with fail;clear ST4;go_at_call 231;refine HCX.out.mono ?_;rintro e x5 ⟨rfl,hb⟩;have H15:=ae (H14.out.below hb);have H55:=ae (H54.out.below hb);have B5':w9h w x5:=B4.out.trans (hb.mono B4.out.size);clear hb L4;go_wp2_with fail;go_roundw
     case rel=>exact⟨k+1,by omega,by go_num,by rw[HST.out],H15,by rw[HST.out];exact H55,B5'⟩
     case measure=>simp[aS];omega
  ·have g3:decide ((k:Int)<2)=false:=by simp;omega
   obtain rfl:k=2:=by omega
   rcases xA s 2 with hc | ⟨j,x,hc,hj⟩
   ·rw[hc];have hw:pA none= -1:=rfl;rw[hw];obtain⟨x6,ST6,r6,g6⟩:=pz (C:=fR) H1.out rfl rfl (jU _ _ _ _);have B6:w9h w x6:=HBw.out.grown g6 HBw.out.size (fun j e=>by cases e;exact Nat.le_of_eq HB2.out);have LD:=mL r6.range rfl;clear r6 g6;go_wp2_with fail;exact bo (DR rfl rfl LD) rfl ⟨by rw[hc];rfl,B6.out⟩
   ·rw[hc];have hw:pA (some (j,x))=(j:Int):=rfl;rw[hw];rw[hc]at H5;have L5:=mL H5.out.range (ud (some (j,x)));obtain⟨x6,ST6,r6,g6⟩:=pz (C:=qR (some (j,x))) H1.out rfl (ud _) (DQ _);have B6:w9h w x6:=HBw.out.grown g6 HBw.out.size (fun j e=>by cases e;exact Nat.le_of_eq HB2.out);have LD:=mL r6.range (ud (some (j,x)));obtain⟨C,hC⟩:=w9nm (qR (some (j,x)));have HC:=ae hC;rw[hC]at L5 ST6 LD;clear r6 g6 hC;go_wp2_with fail;refine bo (DR rfl rfl LD) rfl ⟨?_,B6.out⟩;rw[←HC.out,hc]
    rfl
end
end
section
attribute [-simp] isAgg51 zeroValue51 isAgg205 zeroValue205 isAgg304 zeroValue304 isAgg226 zeroValue226 isAgg207 zeroValue207 isAgg198 zeroValue198
attribute [-go_sem] aE aL cS
attribute [local go_sem] bC bD dz eK eL eM iD ew gH iC gI gJ Oper.semAt_some
theorem Ov (H:Nat) (now:List (List Int)) {m:Nat} (pre:List (Fin m)) (x:Fin m):bU (fY H now (pre++ [x]))=bU (fY H now pre)++ [dW (H+x.1,aw (ex x.1 (bE now x.1)).bytes)]:=by
 unfold bU fY;rw[ec,ec]
 rfl
theorem DT {n₀ e size B:Nat} {v:ak} {k:Nat} {xs:List ak} {X Y:ah} {row:Option Nat} (h:X.ownsRow n₀ e size v k xs) (hg:X.grownBy Y row) (hr:∀r,row=some r->B<=r/\∃o:Obj,X.heap[r]? =some o/\o.isCells=false):Y.ownsRow n₀ e size v k xs:=
 uN n₀ e size v (fun _:Unit=>k) (fun _=>xs) () X Y row h hg (fun r e=>(hr r e).2)
section
theorem DU {g:Geo} (hg:g.In) {H:Nat} (hH:g.oH=(H:Int)) (hHb:H<=100000) {now:List (List Int)} {m:Nat} (hm:now.length=m) (hm2:m<=1000) (hn:∀x ∈ now,x.length=48/\aP x) (pr:Nat->Bool) (gf:FuncId) (lb:Array ak)
  (eg:∀args w,(callFunc gf args).run aj w=.ok (.enter gf args) w) (Sx:Nat->Prop) (w:ah) (hS:∀k,Sx k->k<w.heap.size)
  (hit:SeqStopsK Fence.wide 2 aj gf lb (mK now (m:=m)) (dG Sx) (fun ys=>ys=fX m pr) (fun _=>True) m w):
  ap aj 131 #[al g.v,.func (.func gf) #[] lb] w fun e w'=>∃v,e=ao v/\w'.ownsRow w.heap.size 207 65 v (bU (fY H now (fX m pr))).length (bU (fY H now (fX m pr))).flatten/\ag w.heap.size w w':=by
 refine(callsIn_wide (n:=3)).1 ?_;refine gA func131 rfl trivial ?_ rfl;simp only[ntmps131,cJ,bz,cx,Nat.reduceAdd,Nat.reduceSub,cO,cP,cQ,cR,cy,cC];have HIT:=ae hit;have HG:=ae hg;have HH:=ae hH;have HN:=ae hn;have HM:=ae hm;have HS:=ae hS;obtain⟨B,hB⟩:=w9nm w.heap.size;have HSZ:=ae hB;have HEG:=ae eg;clear hit hg hH hn hm hS eg
 gi_wp2
 obtain⟨W0,hW0⟩:=w9nm ((w.alloc (an g.v 23)).alloc (an #[af none 0 0] 199));have bv:Boxed W0 (B+1) 199 (af none 0 0):=by
  rw[←hW0,←hB];have:=dD (w.alloc (an g.v 23)) 199 (af none 0 0)
  rwa [bO]at this
 have br:aq W0 B 23 g.cs:=by
  rw[←hW0,←hB];exact(aq.new w 23 g.cs).below (aH _ _)
 have hB0:ag B w W0:=by rw[←hW0,←hB];exact((aI _ w).alloc (aG _) _).alloc (by simp) _
 have hsz0:W0.heap.size=B+2:=by rw[←hW0,←hB];simp
 try rw[hW0]
 clear hW0;have HB:Hid (∀W,ag B w W->w.heap.size<=W.heap.size):=fun W h=>h.size;have HKA:Hid (∀(W W':ah),ag B w W->ag W.heap.size W W'->dG Sx W W'):=fun W W' h h'=>⟨h'.size,fun k hk=>h'.block k (bq (HS.out k hk) h.size)⟩;refine wpIn_rangeFunc_ownH (n:=3) rfl (by omega) (gf:=gf) (lb:=lb) rfl trivial HEG.out
  HIT.out jJ (qi (fun k hk=>by have:=HS.out k hk;omega)) (by rw[hB];exact hB0) (fun _=>rfl)
  (fun pre W=>(∃v,Boxed W (B+1) 199 v/\W.ownsRow B 207 65 v (bU (fY H now pre)).length (bU (fY H now pre)).flatten)/\aq W B 23 g.cs/\ag B w W)
  (fun _ _ _=>False)
  ?hI ?hIx ⟨⟨_,bv,jc _ _ _ _⟩,br,hB0⟩
  (fun x a' W=>∃C,B+1<C/\aq W C 205 (aw (bE now x.1))/\a'={tmps:=#[al g.v,.func (.func gf) #[] lb,am (some ⟨B,0,none⟩),az,af none 0 0,am (some ⟨B+1,0,none⟩),ab ac (x.1:Int),am (some ⟨C,0,none⟩),.func (.func gf) #[] lb,ab ac (x.1:Int),al (aw (bE now x.1)).toArray,az,az,az,az,az,az,az,az,az,az,az,az,az],defers:= []})
  ?hAx ?assign ?body ?done ?stop
 case hI=>
  rintro s X Y row ⟨⟨v,h1,h2⟩,h3,h4⟩ hg hr;exact⟨⟨v,boxed_own _ _ (fun _:Unit=>_) () X Y row h1 hg (fun r e=>(hr r e).2),DT h2 hg hr⟩,mM h3 hg hr,ownFrom_below (β:=Unit) (by omega) (by omega) () X Y row h4 hg hr⟩
 case hIx=>exact fun _ _ _ _ _ h _ _=>h.elim
 case hAx=>
  rintro x a' _ X Y row ⟨C,h1,h2,h3⟩ hg hr;exact⟨C,h1,mM h2 hg hr,h3⟩
 case assign=>
  rintro l pre x W K ⟨⟨v,h1,h2⟩,h3,h4⟩ hK;have hxn:(bE now x.1).length=48:=by
   have hx:x.1<now.length:=by rw[HM.out];exact x.2
   have e:now[x.1]? =some (bE now x.1):=by unfold bE;rw[aZ hx];rfl
   exact(HN.out _ (dp e)).1
  obtain⟨y,ST,hr,hb⟩:=qP W hxn;have hlt:B+1<W.heap.size:=h1.lt;have hK:=hK _ y ((KeepsOthers.of_grownBy (dS hb none) (fun j o e=>by cases e)).from _) (HKA.out W y h4 hb) ⟨⟨v,(hb.block _ hlt).trans h1,jm h2 hb⟩,h3.below hb,h4.trans (hb.mono (by have:=h4.size;omega))⟩ ⟨W.heap.size,hlt,hr,rfl⟩;clear h1 h2 h3 h4 hr hb hxn
  dsimp only[mK]
  gi_wp2
  exact hK
 case body=>
  rintro l pre x a' W _ _ ⟨⟨v,h1,h2⟩,h3,h4⟩ ⟨C,hC,hx,rfl⟩ hlen;have hxm:=x.2;have hxl:x.1<now.length:=by rw[HM.out];exact x.2
  have hpx:now[x.1]? =some (bE now x.1):=by unfold bE;rw[aZ hxl];rfl
  obtain⟨hp48,hpb⟩:=HN.out _ (dp hpx);obtain⟨ra,nv,cv,hv⟩:=pi h2;subst hv;have c0:∀z:aM W,z.1.cell? ⟨B+1,0,none⟩=some (af ra nv cv):=fun z=>(z.2.cell (p:=⟨B+1,0,none⟩) h1.lt).trans h1.cell;have c1:∀z:aM W,(aE 23 ⟨B,0,none⟩).run aj z.1=.ok (al g.v) z.1:=fun z=>cG (h3.below z.2);have c2:∀z:aM W,(aE 205 ⟨C,0,none⟩).run aj z.1=.ok (al (aw (bE now x.1)).toArray) z.1:=fun z=>(hx.below z.2).body hp48;have HSO:=ae (qI (i:=x.1) hp48 hpb);have HSF:Hid ((ex x.1 (bE now x.1)).fits=true):=Cj (by omega) _;have HHM:=ae (De (x.1:Int) hp48);have HCE:Hid ((ex x.1 (bE now x.1)).cells=Value.int ay 72:: ab aO 0:: ab ac (x.1:Int)::aw (bE now x.1)):=rfl;have HWC:=ae (Ov H now pre x);obtain⟨q,hq⟩:=w9nm (ex x.1 (bE now x.1));rw[hq]at HSO HSF HCE HWC;obtain⟨k,hk⟩:=w9nm x.1;rw[hk]at hxm HHM HCE HWC c2 ⊢;have HEN:Hid (∀z,ap aj 213 #[al (Value.int ay 72:: ab aO 0:: ab ac (k:Int)::aw (bE now k)).toArray] z fun e w'=>e=ao (al (aw q.bytes).toArray)/\ag z.heap.size z w'):=fun z=>by
   have:=Df q HSO.out HSF.out z;rw[HCE.out]at this;exact this
  have hbk:cz (aw q.bytes):=gQ (Sct.bytes_length HSO.out);have HBK:=ae hbk;have hkm:(k:Int)<=1000:=by omega
  obtain⟨hs,hhs⟩:=w9nm ((Value.int ay 72:: ab aO 0:: ab ac (k:Int)::aw (bE now k)).toArray);rw[hhs]at HHM HEN;obtain⟨pb,hpb'⟩:∃l,(aw (bE now k)).toArray=l:=⟨_,rfl⟩;rw[hpb']at HHM c2;try rw[hpb']
  have H1:=ae h1;have H2:=ae h2;have H3:=ae h3;have H4:=ae h4;have hmx:=w9x
  clear hpx hp48 hpb hq hk hhs hpb' hbk h1 h2 h3 h4 hx hxl
  gi_wp2_with fail
  refine uR (fun x=>∃y:aM W,x=y.1) 11 (.takes [0,1,3,5,6] (.one 2 (.take 4 (.one 7 (.one 8 (.take 9 (.one 10 .leaf))))))) (iL By) (by kernel_rfl) hmx (by kernel_rfl) (by intro c x v a w h;cases x<;>exact h) ⟨⟨W.drew,(aI _ W).drew⟩,rfl⟩ ?_;repeat(rw[bu];simp only[aB,aC];go_big_quiet_step (fail);refine aV ?_)
  rw[bt,aT];simp only[aB,aC];clear c0 c1 c2;go_wp2_with fail;go_at_call 212;refine(DH g HG.out _).mono ?_;rintro e x1 ⟨rfl,hb⟩;rw[HH.out];have K1:w9h W x1:=((aI _ W).drew).trans hb;clear hb;go_wp2_with fail;refine aN ⟨⟨x1,K1.out⟩,rfl⟩ ?_;rw[rz];simp only[aB,aC]
  go_big_quiet_step (fail)
  refine aV ?_;rw[aT];simp only[aB,aC];go_wp2_with fail;go_at_call 214;refine(HHM.out x1).mono ?_;rintro e x2 ⟨rfl,hb⟩;have K2:=w9bt K1 hb;clear hb;go_wp2_with fail;refine aN ⟨⟨x2,K2.out⟩,rfl⟩ ?_;rw[aT];simp only[aB,aC];go_wp2_with fail;go_at_call 213;refine(HEN.out x2).mono ?_;rintro e x3 ⟨rfl,hb⟩;have K3:=w9bt K2 hb;clear hb;go_wp2_with fail;refine aN ⟨⟨x3,K3.out⟩,rfl⟩ ?_;rw[rz];simp only[aB,aC];have BI:Hid (∀z,(df 207 #[(0,ab ac ((H:Int)+(k:Int))),(1,al (aw q.bytes).toArray)]).run aj z=.ok (al (dW (H+k,aw q.bytes)).toArray) z):=fun z=>by
   have:=CD ((H:Int)+(k:Int)) (aw q.bytes) HBK.out.length z;unfold dW;rw[Int.natCast_add];exact this
  refine tw _ _ rfl rfl [(0,ab ac ((H:Int)+(k:Int))),(1,al (aw q.bytes).toArray)] (al (dW (H+k,aw q.bytes)).toArray) rfl (fun z _=>BI.out z) ?_;refine aV ?_;have hwl:=nb (x:=(H+k,aw q.bytes)) HBK.out.length;have hw1:=qK (x:=(H+k,aw q.bytes)) HBK.out;obtain⟨x4,hx4⟩:=w9nm (x3.alloc (an (dW (H+k,aw q.bytes)).toArray 207));have SB:(dh 199 1 #[(0,al (dW (H+k,aw q.bytes)).toArray)]).run aj x3=.ok (af (some ⟨x3.heap.size,0,none⟩) 1 1) x4:=by rw[←hx4];exact tt x3 _ hwl
  have b4:ag x3.heap.size x3 x4:=by rw[←hx4];exact aH x3 _
  have K4:=w9bt K3 b4;have O4:=jm H2.out K4.out;have B4:ag B w x4:=H4.out.trans (K4.out.mono (by have:=H4.out.size;omega));obtain⟨v5,x5,r5,o5,g5, -⟩:=CE B x4 (af ra nv cv) (bU (fY H now pre)) (dW (H+k,aw q.bytes)) x3.heap.size O4 hwl hw1 (jg (t:= 207) (by rw[←hx4];exact cD x3 _)) (by simp[bU,fY];omega) (by have:=B4.size;omega);rw[←HWC.out]at o5;obtain⟨ra5,n5,c5,hv5⟩:=pi o5;subst hv5;have R5:=ae r5;have h14:Boxed x4 (B+1) 199 (af ra nv cv):=H1.out.kept (dS K4.out none) (by simp);have h15:=h14.kept g5 (h14.not_row (by decide) O4);have h34:aq x4 B 23 g.cs:=H3.out.below K4.out;have h35:aq x5 B 23 g.cs:=h34.grown g5 (fz O4 h34 (by decide));have B5:ag B w x5:=B4.grown g5 (by have:=B4.size;omega) (fun j e=>(O4.lt j e).1);obtain⟨y,hy⟩:=w9nm (x5.setCell ⟨B+1,0,none⟩ (af ra5 n5 c5));have gy:x5.grownBy y (some (B+1)):=by rw[←hy];exact grownBy_setCell' x5 (B+1) _
  have h1y:Boxed y (B+1) 199 (af ra5 n5 c5):=by rw[←hy];exact h15.set _
  have h2y:=o5.kept gy (aD (fun e=>h15.not_row (by decide) o5 e.symm));have h3y:aq y B 23 g.cs:=h35.grown gy (fun e=>by simp at e);have h4y:ag B w y:=B5.grown gy (by have:=B5.size;omega) (fun j e=>by cases e;omega);have KF:KeepsFrom W0.heap.size W y:=(((KeepsOthers.of_grownBy (dS K4.out none) (fun j o e=>by cases e)).trans (KeepsOthers.of_grownBy g5 (fun j o hj hoj=>vG O4 hj hoj))).trans (by rw[←hy];exact iK _ _ _)).from _;have KS:dG Sx W y:=⟨bm K4.out.size (bm g5.size gy.size),fun j hj=>by
   have hjB:j<B:=by rw[←HSZ.out];exact HS.out j hj
   rw[h4y.block j hjB,H4.out.block j hjB]⟩
  have POST:Hid (KeepsFrom W0.heap.size W y/\dG Sx W y/\(∃v,Boxed y (B+1) 199 v/\y.ownsRow B 207 65 v (bU (fY H now (pre++ [x]))).length (bU (fY H now (pre++ [x]))).flatten)/\aq y B 23 g.cs/\ag B w y):=⟨KF,KS,⟨_,h1y,h2y⟩,h3y,h4y⟩;have c5:=h15.cell;have f5:=h15.frozen;obtain⟨bv,hbv⟩:=w9nm ((dW (H+k,aw q.bytes)).toArray);rw[hbv]at SB ⊢;clear hwl hw1 hx4 b4 O4 B4 r5 o5 g5 h14 h15 h34 h35 B5 gy h1y h2y h3y h4y KF KS hbv BI;rw[aT];simp only[aB,aC];refine dR _ _ _ rfl rfl [(0,al bv)] _ rfl SB ?_;clear SB;go_wp2_with fail;refine aN ⟨⟨x4,K4.out⟩,rfl⟩ ?_;rw[cW];simp only[bR,bQ];go_wp2_with (at_builtin;refine wpList_append_run (.tmp 11) (.tmp 21) 199 rfl rfl _ _ _ rfl rfl R5.out ?_);exact POST.out
 case done=>
  rintro D xs W hD rfl ⟨⟨v,h1,h2⟩,h3,h4⟩ hK;have d1:=h1.cell;have H2:=ae h2;have H4:=ae h4;have HK:=ae hK;clear h1 h2 h3 h4 hK
  gi_wp2
  refine⟨by simp,aA ⟨_,_,rfl,eU HK.out, ?_⟩⟩;refine⟨_,results_tmp rfl _ _ _,_,rfl, ?_, ?_⟩
  ·rw[HSZ.out];exact ownsRow_putObj H2.out _ HK.out rfl
  ·rw[HSZ.out];exact H4.out.trans (belowK_b (w:=w) (by omega) W D _ _ (by omega) HK.out rfl rfl)
 case stop=>
  rintro D c pre W hD _ h _;exact h.elim
end
end
section
attribute [-simp] isAgg51 zeroValue51 isAgg205 zeroValue205 isAgg304 zeroValue304 isAgg226 zeroValue226 isAgg207 zeroValue207 isAgg198 zeroValue198
attribute [-go_sem] aE aL cS
attribute [local go_sem] bC bD dz eK eL eM iD ew gH iC gI gJ
set_option maxRecDepth 100000 in
theorem Ow (N:Nat) (w:ah) (v:ak) (vs us:List (List ak)) (g c:Nat) (hown:w.ownsRow N 205 48 v vs.length vs.flatten) (hl:us.flatten.length=us.length*48) (hu:w.rangeAt g 0 us.flatten) (hok:∀x ∈ us,∀y ∈ x,y.oneCell'=true) (hlen:vs.length+us.length<=1000000) (hN:N<=w.heap.size):
  ∃v' w',(Builtin.append_ #[109, 109] 109 #[v,af (some ⟨g,0,none⟩) us.length c]).run aj w=.ok v' w'/\w'.ownsRow N 205 48 v' (vs++us).length (vs++us).flatten/\w.grownBy w' v.ownBlock:=by
 obtain⟨i0,hi,hz0,hz1,hz2⟩:=fy sr;obtain⟨v',w',hr,h1,h2,_,h3⟩:=run_append_own_at (P:=aj) w N 109 109 205 i0 (al gD.toArray) 48 48 Tryz.underlying109 hi hz0 hz1 hz2 vp (by omega) v vs.length vs.flatten hown
  ⟨g,0,none⟩ us.length c us.flatten hl (fun j u hj=>by have:=hu j u hj;rwa [Addr.add_mid]) (fun x hx=>by obtain⟨y,hy,hxy⟩:=List.mem_flatten.1 hx;exact hok y hy x hxy) (by unfold aY;omega) (by omega) hN
 exact⟨v',w',hr,by simpa using h1,h2⟩
set_option maxRecDepth 100000 in
theorem Ox (N:Nat) (w:ah) (v:ak) (vs us:List (List ak)) (u:ak) (hown:w.ownsRow N 226 49 v vs.length vs.flatten) (hu:w.ownsRow 0 226 49 u us.length us.flatten) (hok:∀x ∈ us,∀y ∈ x,y.oneCell'=true) (hlen:vs.length+us.length<=1000000) (hN:N<=w.heap.size):
  ∃v' w',(Builtin.append_ #[223, 223] 223 #[v,u]).run aj w=.ok v' w'/\w'.ownsRow N 226 49 v' (vs++us).length (vs++us).flatten/\w.grownBy w' v.ownBlock:=by
 obtain⟨i0,hi,hz0,hz1,hz2⟩:=fy tg;rcases hu.2 with⟨rfl,h0⟩ | ⟨g,cap,cur,rfl,_⟩
 ·obtain rfl:=ka h0;exact⟨v,w,run_append_owned_none (P:=aj) (w:=w) N 223 223 226 i0 49 Tryz.underlying223 hi v vs.length _ hown,by simpa using hown,World.grownBy.refl _ _⟩
 ·obtain⟨v',w',hr,h1,h2,_,h3⟩:=run_append_own_at (P:=aj) w N 223 223 226 i0 (al fF.toArray) 49 56 Tryz.underlying223 hi hz0 hz1 hz2 qH (by omega) v vs.length vs.flatten hown
   ⟨g,0,none⟩ us.length cap us.flatten hu.1 (hu.cells rfl) (fun x hx=>by obtain⟨y,hy,hxy⟩:=List.mem_flatten.1 hx;exact hok y hy x hxy) (by unfold aY;omega) (by omega) hN
  exact⟨v',w',hr,by simpa using h1,h2⟩
section
theorem Oy (p:aF) (n c:Nat) (w:ah):(binOp .eql 76 (af (some p) n c) (af none 0 0)).run aj w=.ok (.bool false) w:=by kernel_rfl
theorem Oz (p:aF) (n c:Nat) (w:ah):(binOp .eql 109 (af (some p) n c) (af none 0 0)).run aj w=.ok (.bool false) w:=by kernel_rfl
attribute [local go_sem] Oy Oz
theorem xC {v:ak} {bs:List Int} (w:ah) (hv:Sl ay w v bs) (hne:bs≠ []) (hl:bs.length<=1000000):
  ap aj 135 #[v] w fun e w'=>∃v',e=ao v'/\w'.ownsRow w.heap.size 5 1 v' bs.length (aw bs)/\ag w.heap.size w w':=by
 obtain⟨v',w',h1,h2,h3⟩:=yu w v bs hv (by omega);obtain⟨a,c,rfl,hc1,hc2,hla,hn⟩:=hv;obtain⟨b,off,rfl⟩:∃b off,a=some ⟨b,off,none⟩:=by
  rcases hla with h | ⟨b,off,e,_⟩
  ·exact absurd h hne
  ·exact⟨b,off,e⟩
 obtain⟨n,hnn⟩:=w9nm bs.length;rw[hnn]at h1;rw[hnn];clear hla hn hc1 hc2 hl;go_enter func135,ntmps135;go_wp2_with (at_builtin;refine wpList_append_run (.tmp 5) (.tmp 6) 76 rfl rfl _ _ _ rfl rfl h1.out ?_);go_ret;exact⟨_,rfl,by rw[←hnn];exact h2.out,h3.out⟩
theorem OA {v:ak} {g:Nat} {now:List (List Int)} (w:ah) (hv:PgsR w v g now) (hne:now≠ []):
  ap aj 236 #[v] w fun e w'=>∃v',e=ao v'/\w'.ownsRow w.heap.size 205 48 v' now.length (now.map aw).flatten/\ag w.heap.size w w':=by
 obtain⟨a,c,rfl,ha⟩:=hv.sl;obtain rfl:=ha (by cases now with | nil=>exact absurd rfl hne | cons _ _=>simp);have ho0:(w.alloc (an #[] 205)).ownsRow w.heap.size 205 48 (af (some ⟨w.heap.size,0,none⟩) 0 0) ([]:List (List ak)).length ([]:List (List ak)).flatten:=World.ownsRow_lit w #[] 0 (aG _) (by unfold aY;omega) rfl;have hb0:=aH w (an #[] 205);have hv1:=hv.below hb0;obtain⟨v',w',h1,h2,h3⟩:=Ow w.heap.size (w.alloc (an #[] 205)) _ [] (now.map aw) g c ho0
  (by rw[qN (s:=48) (fun x hx=>by obtain⟨y,hy,rfl⟩:=cM.1 hx;rw[cw];exact hv.len y hy)]) hv1.at_ (fun x hx=>by obtain⟨y,_,rfl⟩:=cM.1 hx;exact mV y) (by have:=hv.few;simp;omega) (by simp)
 have hB:w9h w w':=hb0.grown h3 hb0.size (fun k e=>by simp[jb]at e;omega);have H1:=ae h1;have H2:Hid (w'.ownsRow w.heap.size 205 48 v' now.length (now.map aw).flatten):=ae (by simpa using h2);obtain⟨n,hnn⟩:=w9nm now.length;rw[dV,hnn]at H1;rw[hnn]at H2 ⊢;clear ho0 hb0 hv1 h1 h2 h3 hv ha;go_enter func236,ntmps236;go_wp2_with (at_builtin;refine wpList_append_run (.tmp 5) (.tmp 6) 109 rfl rfl _ _ _ rfl rfl H1.out ?_);go_ret;exact⟨_,rfl,H2.out,hB.out⟩
set_option maxRecDepth 100000 in
theorem OB (n:Nat) (hn:n<=100000) (w:ah):
  ap aj 269 #[af none 0 0,ab ac (n:Int)] w fun e w'=>∃v,e=ao v/\w'.ownsRow w.heap.size 226 49 v 0 []/\ag w.heap.size w w':=by
 obtain⟨i0,hi,hz0,hz1,hz2⟩:=fy tg;have g0:¬((n:Int)<0):=by omega
 have g1:decide ((n:Int)<0)=false:=by simp
 by_cases h:0<n
 ·have g2:decide ((n:Int)>0)=true:=by simp;omega
  have hr:=fun ty=>Lib.run_append_grow_zeros (P:=aj) w 223 3 ty 226 i0 (al fF.toArray) ac ac Tryz.underlying223 Tryz.underlying3 hi hz0 none 0 0 [] (run_firstCells_none w.drew i0.size 0 0 0) n h (by omega) (by omega) (by omega) (by rw[hz2];omega)
   (by rw[hz2];exact growslice_fits (by omega) (by omega))
  have hc1:=grownCap_ge w (0+n) 0 226;have hc2:=grownCap_le_maxLen w (0+n) 0 226 (by unfold aY;omega);obtain⟨G,hG⟩:=w9nm (grownCap w (0+n) 0 226);rw[hG]at hr hc1 hc2;obtain⟨W,hW⟩:=w9nm (w.drew.alloc (an (([]:List ak).toArray++Builtin.zeroCells (Value.agg fF.toArray).cells n++Builtin.zeroCells (Value.agg fF.toArray).cells (G - (0+n))) 226));rw[hW]at hr;have HO:Hid (W.ownsRow w.heap.size 226 49 (af (some ⟨w.heap.size,0,none⟩) 0 G) 0 []):=by
   refine⟨by simp,aD ⟨w.heap.size,G,_,rfl,aG _,by rw[←hW];exact cD w.drew _,bc _,hc2, ?_,by simp⟩⟩;have hzc:(Value.agg fF.toArray).cells.size=49:=qH;simp only[Array.size_append,size_zeroCells,hzc,cJ,cx];omega
  have HB:Hid (ag w.heap.size w W):=by rw[←hW];exact((aI _ w).drew).alloc (aG _) _
  have HR:=ae hr;have g3:G<=9223372036854775807:=by unfold aY at hc2;omega
  clear hr hW hc2 hG hz0 hz1 hz2 hi;go_enter func269,ntmps269;go_wp2_with (at_builtin;refine Lib.wpList_append_run _ rfl _ _ _ _ rfl _ _ rfl rfl _ _ (HR.out _) ?_);go_ret;exact⟨_,rfl,HO.out,HB.out⟩
 ·obtain rfl:n=0:=by omega
  go_enter func269,ntmps269;go_wp2;go_ret;exact⟨_,rfl,jc _ _ _ _,aI _ _⟩
theorem xD (ts:List (List Img)) {k:Nat} {t:List Img} (h:ts[k]? =some t):(ts.take (k+1)).flatten=(ts.take k).flatten++t:=by
 rw[jZ,h];simp
theorem xE (ts:List (List Img)) (k:Nat):(ts.take k).flatten.length<=ts.flatten.length:=by
 conv=>rhs;rw[←lK k ts]
 rw[lL,cE];omega
theorem OC (v:ak) (ts:List (List Img)) (w:ah) {N:Nat} (h:iB 223 226 w N v ts) (hl:ts.flatten.length<=100000) (hl2:ts.length<=100000):
  ap aj 237 #[v] w fun e w'=>∃v,e=ao v/\w'.ownsRow w.heap.size 226 49 v ts.flatten.length (cL ts.flatten).flatten/\ag w.heap.size w w':=by
 obtain⟨a,c,rfl,h3⟩:=h.row;have H3:=ae h3;have HL:=ae hl;obtain⟨n,hn⟩:=w9nm ts.length;have HN:=ae hn;rw[hn]at hl2;rw[hn];clear h h3 hl hn;go_enter func237,ntmps237;go_wp2_with fail;go_loop [3,11] (fun s i=>∃k:Nat,k<=n/\i=ab ac (k:Int)/\s=ab ac (((ts.take k).flatten.length:Nat):Int)) (fun _ i=>n - (aS i).toNat)
 case atStart=>exact⟨0,bc _,rfl,rfl⟩
 case round=>
  obtain⟨k,hk,rfl,rfl⟩:=hrel;obtain⟨m,hm0⟩:=w9nm ((ts.take k).flatten.length);rw[hm0];by_cases hlt:k<n
  ·have hlt':decide ((k:Int)< (n:Int))=true:=by simp;omega
   obtain⟨t,ht⟩:∃t,ts[k]? =some t:=⟨_,aZ (by rw[HN.out];exact hlt)⟩;obtain⟨g,b,d,rfl,h5,c0,h7⟩:=H3.out k t ht;have hs:(ts.take (k+1)).flatten.length=m+t.length:=by rw[xD ts ht,cE,hm0]
   have hb:=xE ts (k+1);have hb2:=HL.out;obtain⟨q,hq⟩:=w9nm t.length;rw[hq]at hs c0;have g5:(m:Int)+(q:Int)<=100000:=by omega
   have g6:decide ((m:Int)+(q:Int)<0)=false:=by simp;omega
   have HS:=ae hs;clear hs hb hb2 hq hm0 h5 h7 ht;go_wp2_with fail;go_round
   case rel=>exact⟨k+1,by omega,by go_num,by rw[HS.out];simp⟩
   case measure=>simp[aS];omega
  ·have hlt':decide ((k:Int)< (n:Int))=false:=by simp;omega
   obtain rfl:k=n:=by omega
   have hmb:m<=100000:=by rw[←hm0];exact bm (xE ts k) HL.out
   clear hm0;go_wp2_with fail;go_at_call 269;refine(OB m hmb w).mono ?_;rintro e w1 ⟨v1,rfl,hO,hB⟩;have HO:Hid (w1.ownsRow w.heap.size 226 49 v1 (cL (ts.take 0).flatten).length (cL (ts.take 0).flatten).flatten):=hO;have HB:=ae hB;clear hO hB;go_wp2_with fail;go_loopw [6,27] (fun v i wr=>∃j:Nat,j<=k/\i=ab ac (j:Int)/\Hid (wr.ownsRow w.heap.size 226 49 v (cL (ts.take j).flatten).length (cL (ts.take j).flatten).flatten)/\w9h w wr) (fun _ i _=>k - (aS i).toNat)
   case atStart=>exact⟨0,bc _,rfl,HO,HB⟩
   case round=>
    obtain⟨j,hj,rfl,HO,HB⟩:=hrel;by_cases hlt:j<k
    ·have hlt':decide ((j:Int)< (k:Int))=true:=by simp;omega
     obtain⟨t,ht⟩:∃t,ts[j]? =some t:=⟨_,aZ (by rw[HN.out];exact hlt)⟩;obtain⟨g,b,d,rfl,h5,c0,h7⟩:=H3.out j t ht;have c1:wr.cell? ⟨g,j,none⟩=some (af b t.length d):=(HB.out.cell (p:=⟨g,j,none⟩) h5).trans c0;have h7':wr.ownsRow 0 226 49 (af b t.length d) (cL t).length (cL t).flatten:=by rw[nY];exact wU (dQ h7 HB.out) (bc _)
     obtain⟨v5,x3,R3,O3,G3⟩:=Ox w.heap.size wr _ (cL (ts.take j).flatten) (cL t) (af b t.length d) HO.out h7' (fun x hx=>by obtain⟨y,_,rfl⟩:=cM.1 hx;exact Img.cells_one y) (by
      rw[nY,nY];have h1:=xE ts (j+1);have h2:=HL.out;rw[xD ts ht,cE]at h1;omega) HB.out.size
     have e7:cL (ts.take j).flatten++cL t=cL (ts.take (j+1)).flatten:=by unfold cL;rw[xD ts ht,ec]
     rw[e7]at O3;have K3:w9h w x3:=HB.out.grown G3 HB.out.size (fun i e=>(HO.out.lt i e).1);have R3:=ae R3;have O3:=ae O3;obtain⟨q,hq⟩:=w9nm t.length;rw[hq]at c1 R3;clear c0 h5 h7 h7' ht G3 e7 hq;go_wp2_with (at_builtin;refine wpList_append_run (.tmp 31) (.tmp 32) 223 rfl rfl _ _ _ rfl rfl R3.out ?_);go_roundw
     case rel=>exact⟨j+1,by omega,by go_num,O3,K3⟩
     case measure=>simp[aS];omega
    ·have hlt':decide ((j:Int)< (k:Int))=false:=by simp;omega
     obtain rfl:j=k:=by omega
     have e1:ts.take j=ts:=de (by rw[HN.out];exact aG _);rw[e1,nY]at HO;clear e1;go_wp2_with fail;go_ret;exact⟨_,rfl,HO.out,HB.out⟩
end
end
section
attribute [-simp] isAgg51 zeroValue51 isAgg205 zeroValue205 isAgg304 zeroValue304 isAgg226 zeroValue226 isAgg207 zeroValue207 isAgg198 zeroValue198
attribute [-go_sem] aE aL cS
attribute [local go_sem] bC bD dz eK eL eM iD ew gH iC gI gJ
theorem OD {s:Nat} {L:List (List ak)} (hl:∀x ∈ L,x.length=s) {j:Nat} (hj:j<L.length) {c:List ak} (hc:c.length=s) (i:Nat):(L.set j c).flatten[i]? =if j*s<=i/\i<j*s+s then c[i - j*s]? else L.flatten[i]? :=by
 have e1:L.flatten=(L.take j).flatten++(L[j]++(L.drop (j+1)).flatten):=by
  conv=>lhs;rw[←lK j L,List.drop_eq_getElem_cons hj]
  rw[lL,kN]
 have e2:(L.set j c).flatten=(L.take j).flatten++(c++(L.drop (j+1)).flatten):=by
  rw[List.set_eq_take_append_cons_drop,if_pos hj,lL,kN]
 have hA:(L.take j).flatten.length=j*s:=by
  rw[qN (s:=s) (fun x hx=>hl x (jE hx)),dj,lJ (jt hj)]
 have hlj:L[j].length=s:=hl _ (List.getElem_mem hj);rw[e1,e2];by_cases h1:i<j*s
 ·rw[fS (by omega),fS (by omega),if_neg (by omega)]
 ·have r1:∀X:List ak,((L.take j).flatten++X)[i]? =X[i - j*s]? :=fun X=>by rw[fv (by omega),hA]
  rw[r1,r1];by_cases h2:i<j*s+s
  ·rw[fS (by omega),if_pos ⟨by omega,h2⟩]
  ·rw[fv (by omega),fv (by omega),hc,hlj,if_neg (by omega)]
structure PgsW (W:ah) (g n:Nat) (now:List (List Int)):Prop where
 at_:W.rangeAt g 0 (now.map aw).flatten
 there:W.there g 0 (n*48)
 len:∀x ∈ now,x.length=48
 cnt:now.length=n
theorem PgsW.below {W W':ah} {N g n:Nat} {now:List (List Int)} (h:PgsW W g n now) (hb:ag N W W') (hg:g<N):PgsW W' g n now:=
 ⟨ij h.at_ (hb.block g hg),fun j hj=>by
  have e:=hb.block g hg;refine⟨?_, ?_⟩
  ·rw[gj (a:=⟨g,0+j,none⟩) e];exact(h.there j hj).1
  ·have:=(h.there j hj).2;unfold World.frozen? at this ⊢;rw[show(Addr.mk g (0+j) none).block=g from rfl]at this ⊢;rw[e];exact this,h.len,h.cnt⟩
theorem PgsW.put {W:ah} {g n:Nat} {now:List (List Int)} (h:PgsW W g n now) {j:Nat} (hj:j<n) {b:List Int} (hb:b.length=48):PgsW (W.setCells g (j*48) (aw b)) g n (now.set j b)/\W.there g (j*48) 48:=by
 have ht:W.there g (j*48) 48:=fun i hi=>by
  have:=h.there (j*48+i) (by have:(j+1)*48<=n*48:=Nat.mul_le_mul_right _ hj;omega)
  rwa [dP]at this
 have hjl:j<now.length:=by rw[h.cnt];exact hj
 refine⟨⟨?_,World.there_setCells h.there _ _ _,fun x hx=> ?_,by rw[List.length_set];exact h.cnt⟩,ht⟩
 ·intro i u hi;rw[List.map_set,OD (s:=48) (fun x hx=>by obtain⟨y,hy,rfl⟩:=cM.1 hx;rw[cw];exact h.len y hy) (by rw[dV];exact hjl) (by rw[cw];exact hb)]at hi;by_cases hc:j*48<=i/\i<j*48+48
  ·rw[if_pos hc]at hi;have:=kz W g (j*48) (aw b) (by rw[cw,hb];exact ht) (i - j*48) u hi
   rwa [show j*48+(i - j*48)=0+i by omega]at this
  ·rw[if_neg hc]at hi;have h0:=h.at_ i u hi;have h1:W.rangeAt g i [u]:=fun k v hv=>by
    match k,hv with
    | 0,hv=>simp at hv;rw[←hv];rw[dP]at h0;exact h0
    | k+1,hv=>simp at hv
   have:=ml h1 g (j*48) (aw b) (by rw[cw,hb];simp;omega) 0 u rfl
   rwa [Nat.add_zero,←dP i]at this
 ·rcases List.mem_or_eq_of_mem_set hx with hx | rfl
  ·exact h.len x hx
  ·exact hb
theorem PgsW.page {W:ah} {g n:Nat} {now:List (List Int)} (h:PgsW W g n now) {k:Nat} (hk:k<n):W.rangeAt g (k*48) (aw (bE now k))/\(bE now k).length=48:=by
 have hk':k<now.length:=by rw[h.cnt];exact hk
 have hx:now[k]? =some (bE now k):=by unfold bE;rw[aZ hk'];rfl
 refine⟨?_,h.len _ (dp hx)⟩;have:=qO (s:=48) (L:=now.map aw) (fun x hx=>by obtain⟨y,hy,rfl⟩:=cM.1 hx;rw[cw];exact h.len y hy) h.at_ (k:=k) (x:=aw (bE now k)) (by rw[dY,hx];rfl)
 rwa [dP]at this
theorem OE {w:ah} {b o:Nat} {c:List ak} (ht:w.there b o 48) (h:c.length=48) (h1:∀v ∈ c,v.oneCell'=true):(aL 205 ⟨b,o,none⟩ (al c.toArray)).run aj w=.ok () (w.setCells b o c):=by
 have:=run_storeVar_mid (P:=aj) w b o 205 c.toArray (by simpa [h]using ht) (by simpa [h]using Dc) (ky h1)
 simpa using this
theorem OG (now:List (List Int)) {k:Nat} (hk:k<now.length):(now.take (k+1)).flatten=(now.take k).flatten++bE now k:=by
 rw[List.take_succ_eq_append_getElem hk];unfold bE;rw[aZ hk,lL];simp
theorem OH {now:List (List Int)} (h:∀x ∈ now,x.length=48) {k:Nat} (hk:k<=now.length):(now.take k).flatten.length=k*48:=by
 have hm:∀l:List (List Int),(∀x ∈ l,x.length=48)->l.flatten.length=l.length*48:=fun l=>by
  induction l with
  | nil=>intro _;rfl
  | cons a l ih=>
   intro h;rw[kN,cE,ih (fun x hx=>h x (ea _ hx)),h a dC,bz,Nat.succ_mul];omega
 rw[hm _ (fun x hx=>h x (jE hx)),dj,lJ hk]
theorem OI (home:List (List Int)) (fl:List Img) {k:Nat} {x:Img} (h:fl[k]? =some x):(fl.take (k+1)).foldl eO home=eO ((fl.take k).foldl eO home) x:=by
 rw[jZ,h];simp[List.foldl_append]
section
theorem OJ {v vt:ak} {gh:Nat} {home:List (List Int)} {ts:List (List Img)} {N:Nat} (w:ah) (hv:PgsR w v gh home) (hne:home≠ []) (ht:iB 223 226 w N vt ts)
  (hi:∀x ∈ ts.flatten,0<=x.index/\x.body.length=48) (hl:ts.flatten.length<=100000) (hl2:ts.length<=100000):
  ap aj 159 #[v,vt] w fun e w'=>∃v',e=ao v'/\w'.ownsRow w.heap.size 5 1 v' (fo home ts).flatten.length (aw (fo home ts).flatten)/\ag w.heap.size w w':=by
 obtain⟨P,hP⟩:=w9nm home.length;have hP0:0<P:=by rw[←hP];cases home with | nil=>exact absurd rfl hne | cons _ _=>simp
 have hP1:P<=1000:=by rw[←hP];exact hv.few
 have HCP:=ae (OA w hv hne);rw[hP]at HCP;have HLEN:=ae hv.len;have HPP:=ae hP;have HT:=ae ht;have HI:=ae hi;have HL:=ae hl;have HL2:=ae hl2;rw[CA];obtain⟨fl,hfl⟩:=w9nm ts.flatten;rw[hfl]at HI HL;rw[hfl];have HFL:=ae hfl;obtain⟨a,c,rfl, -⟩:=hv.sl;obtain⟨a2,c2,rfl, -⟩:=ht.row;rw[hP]at HCP ⊢;clear hv hne ht hi hl hl2 hP hfl;go_enter func159,ntmps159;go_wp2_with fail;go_at_call 236;refine HCP.out.mono ?_;rintro e x1 ⟨v1,rfl,hO,hb⟩;have HB1:=ae hb;obtain⟨gp,cp,rfl,hgp⟩:∃gp cp,v1=af (some ⟨gp,0,none⟩) P cp/\(w.heap.size<=gp/\gp<x1.heap.size/\PgsW x1 gp P home):=by
  rcases hO.2 with⟨rfl,h0⟩ | ⟨g,cap,cur,rfl,hg1,hg2,hg3,hg4,hg5,hg6⟩
  ·omega
  ·exact⟨g,cap,rfl,hg1,(bL.1 hg2).1,fun j u hj=>by have:=hO.cells (g:=g) rfl j u hj;rwa [Addr.add_mid]at this,kD hg2 0 (P*48) (by have:P*48<=cap*48:=Nat.mul_le_mul_right _ hg3;omega),HLEN.out,HPP.out⟩
 have HGP:=ae hgp;have HT1:Hid (iB 223 226 x1 N (af a2 ts.length c2) ts):=by
  obtain⟨vs,g1,g2,g3⟩:=HT.out;exact⟨vs,g1,dQ g2 hb,fun i u t hu ht=>dQ (g3 i u t hu ht) hb⟩
 clear hO hb hgp HCP;go_wp2_with fail;go_at_call 237;have hcc:=OC (af a2 ts.length c2) ts x1 HT1.out (by rw[HFL.out];exact HL.out) HL2.out;rw[HFL.out]at hcc;refine hcc.mono ?_;clear hcc;rintro e x2 ⟨v2,rfl,hO,hb⟩;obtain⟨ai,ci,rfl,hrow⟩:=ke hO;have HROW:=ae hrow;have HB2:=w9bt HB1 hb;have HGI:Hid (∀g,ai=some ⟨g,0,none⟩->0<fl.length->x1.heap.size<=g):=fun g e h0=>by
  obtain⟨g',c',e',hN,_⟩:=px hO h0;rw[e]at e';cases e';exact hN
 have HPG:Hid (PgsW x2 gp P ((fl.take 0).foldl eO home)):=HGP.out.2.2.below hb HGP.out.2.1;have HGP2:Hid (w.heap.size<=gp/\gp<x1.heap.size/\x1.heap.size<=x2.heap.size):=⟨HGP.out.1,HGP.out.2.1,hb.size⟩;obtain⟨n,hn⟩:=w9nm fl.length;have HN:=ae hn;have hn1:n<=100000:=by rw[←hn];exact HL.out
 rw[hn]at HROW HGI;rw[hn];clear hO hb hrow hn HT1;go_wp2_with fail;go_loopw [16] (fun i wr=>∃k:Nat,k<=n/\i=ab ac (k:Int)/\Hid (PgsW wr gp P ((fl.take k).foldl eO home))/\w9h w wr/\Hid (x2.heap.size<=wr.heap.size/\∀j,j<x2.heap.size->j≠gp->wr.heap[j]? =x2.heap[j]?)) (fun i _=>n - (aS i).toNat)
 case atStart=>exact⟨0,bc _,rfl,HPG,HB2,⟨aG _,fun _ _ _=>rfl⟩⟩
 case round=>
  obtain⟨k,hk,rfl,HP,HB,HX⟩:=hrel;by_cases hlt:k<n
  ·have g3:decide ((k:Int)< (n:Int))=true:=by simp;omega
   obtain⟨x,hx⟩:∃x,fl[k]? =some x:=⟨_,aZ (by rw[HN.out];exact hlt)⟩;obtain⟨gi,rfl,hgl,hgr⟩:=HROW.out (by omega);have hgi:=HGI.out gi rfl (by omega);obtain⟨hx0,hxb⟩:=HI.out x (dp hx);have hng:gi≠gp:=by have:=HGP2.out.2.1;omega
   have hgr':=ij hgr (HX.out.2 gi hgl hng);have LD:(aE 226 ⟨gi,k*49,none⟩).run aj wr=.ok (al x.cells.toArray) wr:=by
    have:=qO (s:=49) (L:=cL fl) (fun y hy=>by obtain⟨z,hz,rfl⟩:=cM.1 hy;exact Img.cells_length (HI.out z hz).2) hgr' (k:=k) (x:=x.cells) (by unfold cL;rw[dY,hx];rfl);rw[dP]at this;exact Ce this (Img.cells_length hxb)
   obtain⟨y,ST,hr,hb⟩:=CO wr x hxb;have c0:y.cell? ⟨wr.heap.size,0,none⟩=some (ab ac x.index):=hr.cell 0 _ rfl;have LB:(aE 205 ⟨wr.heap.size,1,none⟩).run aj y=.ok (al (aw x.body).toArray) y:=nJ (oZ (a:= [ab ac x.index]) (b:=aw x.body) hr) (by rw[cw];exact hxb);obtain⟨B,hB⟩:=w9nm wr.heap.size;have hgpw:gp<wr.heap.size:=by have h1:=HGP2.out;have h2:=HX.out.1;omega
   have hPy:=HP.out.below hb hgpw;have HBY:=w9bt HB hb;have HXY:Hid (x2.heap.size<=y.heap.size/\∀j,j<x2.heap.size->j≠gp->y.heap[j]? =x2.heap[j]?):=⟨bm HX.out.1 hb.size,fun j h1 h2=>(hb.block j (bq h1 HX.out.1)).trans (HX.out.2 j h1 h2)⟩;have HSN:=ae (OI home fl hx);rw[hB]at ST c0 LB;obtain⟨ic,hic⟩:=w9nm x.cells.toArray;rw[hic]at LD ST;obtain⟨ix,hix⟩:=w9nm x.index;rw[hix]at hx0 c0;have hcnt:=hPy.cnt;by_cases hxp:ix<P
   ·have g4:decide (ix< (P:Int))=true:=by simpa using hxp
    obtain⟨j,rfl⟩:=mO hx0;have hjP:j<P:=by omega
    obtain⟨hput,hth⟩:=hPy.put hjP hxb;have STP:=OE hth (c:=aw x.body) (by rw[cw];exact hxb) (mV _);obtain⟨z,hz⟩:=w9nm (y.setCells gp (j*48) (aw x.body));rw[hz]at STP hput;have HPZ:Hid (PgsW z gp P ((fl.take (k+1)).foldl eO home)):=by
     show PgsW _ _ _ _;rw[HSN.out];have el:eO ((fl.take k).foldl eO home) x=((fl.take k).foldl eO home).set j x.body:=by
      rw[eO.eq_1,hix,if_pos (by rw[hcnt];omega),iG]
     rw[el];exact hput
    have HBZ:Hid (ag w.heap.size w z):=by show ag _ _ _;rw[←hz];exact HBY.out.trans ((kn (N:=w.heap.size) HGP2.out.1 _ _ _).mono (aG _))
    have HXZ:Hid (x2.heap.size<=z.heap.size/\∀j,j<x2.heap.size->j≠gp->z.heap[j]? =x2.heap[j]?):=by
     refine(?_:_/\_);rw[←hz];exact⟨by rw[AS];exact HXY.out.1,fun j' h1 h2=>(rk _ _ _ _ (bq h1 HXY.out.1) h2).trans (HXY.out.2 j' h1 h2)⟩
    obtain⟨pb,hpb⟩:=w9nm ((aw x.body).toArray);rw[hpb]at LB STP;clear hx hgr hgr' hr hb hPy hput hth hxb hic hgi hgl hng hpb hz hcnt hix;go_wp2_with fail;go_roundw
    case rel=>exact⟨k+1,hlt,by go_num,HPZ,HBZ,HXZ⟩
    case measure=>simp[aS];omega
   ·have g4:decide (ix< (P:Int))=false:=by simpa using hxp
    have HPZ:Hid (PgsW y gp P ((fl.take (k+1)).foldl eO home)):=by
     show PgsW _ _ _ _;rw[HSN.out];have el:eO ((fl.take k).foldl eO home) x=(fl.take k).foldl eO home:=by
      rw[eO.eq_1,hix,if_neg (by rw[hcnt];omega)]
     rw[el];exact hPy
    clear hx hgr hgr' hr hb hPy hxb hic hgi hgl hng hcnt hix;go_wp2_with fail;go_roundw
    case rel=>exact⟨k+1,hlt,by go_num,HPZ,HBY,HXY⟩
    case measure=>simp[aS];omega
  ·have g3:decide ((k:Int)< (n:Int))=false:=by simp;omega
   obtain rfl:k=n:=by omega
   have e1:fl.take k=fl:=de (by rw[HN.out];exact aG _);rw[e1]at HP;obtain⟨now,hnow⟩:=w9nm (fl.foldl eO home);rw[hnow]at HP;have HNOW:=ae hnow;have HCN:Hid (now.length=P):=HP.out.cnt;have HNL:Hid (∀x ∈ now,x.length=48):=HP.out.len;have HGW:Hid (w.heap.size<=gp/\gp<wr.heap.size):=⟨HGP2.out.1,by have h1:=HGP2.out;have h2:=HX.out.1;omega⟩;clear e1 hnow;obtain⟨wo,rfl⟩:∃y,y=wr:=⟨_,rfl⟩;go_wp2_with fail;go_loopw [8,34] (fun b i wr=>∃j:Nat,j<=P/\i=ab ac (j:Int)/\Hid (wr.ownsRow wo.heap.size 5 1 b (now.take j).flatten.length (aw (now.take j).flatten))/\w9h wo wr) (fun _ i _=>P - (aS i).toNat)
   case atStart=>exact⟨0,bc _,rfl,jc _ _ _ _,aI _ _⟩
   case round=>
    obtain⟨j,hj,rfl,HO,HBQ⟩:=hrel;by_cases hlt:j<P
    ·have g3:decide ((j:Int)< (P:Int))=true:=by simp;omega
     have hPq:=HP.out.below HBQ.out HGW.out.2;obtain⟨hpg,hp48⟩:=hPq.page hlt;have LD:=nJ hpg (by rw[cw];exact hp48);obtain⟨y,ST,hr,hb⟩:=qP wr hp48;have hsl:Sl ay y (af (some ⟨wr.heap.size,0,none⟩) 48 48) (bE now j):=by
      have:=si hr.range hr.lt (by rw[hp48];simp[aY])
      rwa [hp48]at this
     obtain⟨B,hB⟩:=w9nm wr.heap.size;have hOy:=dQ HO.out hb;have hBy:w9b wo y:=HBQ.out.trans (hb.mono HBQ.out.size);have hfl:=OH HNL.out (k:=j) (by rw[HCN.out];omega);obtain⟨v5,x5,r5,o5,g5⟩:=rC wo.heap.size y _ (now.take j).flatten hOy (af (some ⟨wr.heap.size,0,none⟩) 48 48) (bE now j) hsl (by rw[hfl,hp48];omega) hBy.size;have e5:(now.take j).flatten++bE now j=(now.take (j+1)).flatten:=(OG now (by rw[HCN.out];exact hlt)).symm;rw[e5]at o5;have K5:w9h wo x5:=hBy.grown g5 hBy.size (fun i e=>(hOy.lt i e).1);have O5:Hid (x5.ownsRow wo.heap.size 5 1 v5 (now.take (j+1)).flatten.length (aw (now.take (j+1)).flatten)):=o5;rw[hB]at ST r5;have R5:=ae r5;obtain⟨pb,hpb⟩:=w9nm ((aw (bE now j)).toArray);rw[hpb]at LD ST;clear hPq hpg hp48 hr hb hsl hOy hBy hfl r5 o5 g5 e5 hpb;go_wp2_with (at_builtin;refine wpList_append_run (.tmp 38) (.tmp 39) 76 rfl rfl _ _ _ rfl rfl R5.out ?_);go_roundw
     case rel=>exact⟨j+1,hlt,by go_num,O5,K5⟩
     case measure=>simp[aS];omega
    ·have g3:decide ((j:Int)< (P:Int))=false:=by simp;omega
     obtain rfl:j=P:=by omega
     have e2:now.take j=now:=de (by rw[HCN.out];exact aG _);rw[e2]at HO;have HF:Hid (wr.ownsRow w.heap.size 5 1 u8 now.flatten.length (aw now.flatten)):=wU HO.out HB.out.size;have HBF:w9h w wr:=HB.out.trans (HBQ.out.mono HB.out.size);clear e2;go_wp2_with fail;go_ret;rw[HNOW.out];exact⟨_,rfl,HF.out,HBF.out⟩
end
theorem OK {bs:List Int} {i:Nat}:jI (ed bs) (ex i (ed bs).body)=true↔il bs i:=by
 rw[su];unfold il ed;by_cases hd:fi bs=true
 ·rw[if_pos hd];constructor
  ·intro h;rw[h];exact⟨hd,rfl,rfl,rfl⟩
  ·rintro⟨_,h1,h2,h3⟩;generalize Sct.of bs=p at *;obtain⟨m,s,x,b⟩:=p;simp only at h1 h2 h3;subst h1 h2 h3
   rfl
 ·rw[if_neg hd];constructor
  ·intro h;have:(oY).mark=72:=by rw[h];rfl
   cases this
  ·rintro⟨h,_⟩;exact absurd h hd
theorem OL (S:RS) (H k:Nat):S.homes H (k+1)=S.homes H k++ [(Sct.of (S.rd (H+k))).body]:=by
 unfold RS.homes;rw[List.range_succ,ec]
 rfl
theorem DV (S:RS) (H k:Nat):(S.homes H k).length=k:=by simp[RS.homes]
section
theorem OM {rb p0 p1:Nat} {S:RS} {w:ah} {f:Nat->Prop} (h:aU rb p0 p1 S w f) (hby:S.Byt) (hup:S.down=false) {g:Geo} (hg:g.In) {H P:Nat} (hH:g.oH=(H:Int)) (hP:g.oP=(P:Int)) (hHP:H+P<=S.n0) (hn:S.n0<=4096):
  ap aj 157 #[am (some ⟨rb,0,none⟩),al g.v] w fun e w'=>
   (((∀i,i<P->il (S.rd (H+i)) i)/\∃v,e=ao (aQ #[v,ab ac 0])/\w'.ownsRow w.heap.size 205 48 v P ((S.homes H P).map aw).flatten)\/((¬∀i,i<P->il (S.rd (H+i)) i)/\e=ao (aQ #[af none 0 0,ab ac 11])))/\ag w.heap.size w w':=by
 obtain⟨W,hW⟩:=w9nm (w.alloc (an g.v 23));have r1:aq W w.heap.size 23 g.cs:=by rw[←hW];exact aq.new w _ _
 have b1:ag w.heap.size w W:=by rw[←hW];exact aH w _
 have HBW:=ae b1;have HR:=ae r1;have L0:=cG r1;have HG:=ae hg;have HH:=ae hH;have HPP:=ae hP;have HN:=ae hHP;have hb2:H+P<=4096:=by omega
 have HRD:Hid (∀(x:ah) (i:Nat),ag w.heap.size w x->i<S.n0->ap aj 72 #[am (some ⟨rb,0,none⟩),ab ac 0,ab ac (i:Int)] x fun e w'=>e=ao (aQ #[al (aw (S.rd i)).toArray,ab ac 0])/\ag x.heap.size x w'):=fun x i hx hin=>(h.beside hx).rd0 hby hup hin;have HBY:Hid (∀i,i<S.n0->aP (S.rd i)/\(S.rd i).length=64):=fun i hi=>⟨(hby i hi).1,(hby i hi).2.1⟩;obtain⟨B,hB⟩:=w9nm w.heap.size;have HBB:=ae hB;rw[hB]at L0 HR;have hmx:=w9x
 clear r1 b1 h hby hup hg hH hP hHP hn;go_enter func157,ntmps157;go_wp2_with fail;go_at_call 195;refine(AJ g HG.out W).mono ?_;rintro e x1 ⟨rfl,hb⟩;rw[HPP.out];have K1:=w9bt HBW hb;have R1:=ae (HR.out.below hb);clear hb L0;go_wp2_with fail;go_loopw [6,14] (fun l i wr=>∃k:Nat,k<=P/\i=ab ac (k:Int)/\Hid (∀j,j<k->il (S.rd (H+j)) j)/\Hid (wr.ownsRow w.heap.size 205 48 l ((S.homes H k).map aw).length ((S.homes H k).map aw).flatten)/\Hid (aq wr B 23 g.cs)/\w9h w wr) (fun _ i _=>P - (aS i).toNat)
 case atStart=>exact⟨0,bc _,rfl,fun j hj=>absurd hj (by omega),jc _ _ _ _,R1,K1⟩
 case round=>
  obtain⟨k,hk,rfl,HA,HO,HGR,HBx⟩:=hrel;by_cases hlt:k<P
  ·have g3:decide ((k:Int)< (P:Int))=true:=by simp;omega
   obtain⟨ra,nv,cv,hv⟩:=pi HO.out;subst hv;have hiN:H+k<S.n0:=by have:=HN.out;omega
   have LG:=cG HGR.out;obtain⟨hbb,hbl⟩:=HBY.out (H+k) hiN;have HR0:Hid (∀x,ag w.heap.size w x->ap aj 72 #[am (some ⟨rb,0,none⟩),ab ac 0,ab ac ((H:Int)+(k:Int))] x fun e w'=>e=ao (aQ #[al (aw (S.rd (H+k))).toArray,ab ac 0])/\ag x.heap.size x w'):=fun x hx=>by
    have:=HRD.out x (H+k) hx hiN
    rwa [Int.natCast_add]at this
   have HSN:=ae (OL S H k);have HHS:=ae (OK (bs:=S.rd (H+k)) (i:=k));have HDE:Hid (∀y,ap aj 232 #[al (aw (S.rd (H+k))).toArray] y fun e w'=>e=ao (aQ #[al (ed (S.rd (H+k))).cells.toArray,ab ac (lk (S.rd (H+k)))])/\ag y.heap.size y w'):=fun y=>vD _ hbb hbl y;have HPO:=ae (vI hbb hbl);have HOF:Hid (fi (S.rd (H+k))=true->ed (S.rd (H+k))=Sct.of (S.rd (H+k))):=fun hd=>if_pos hd;have HPD:Hid (il (S.rd (H+k)) k->fi (S.rd (H+k))=true):=fun h=>h.1;have HBL:=ae hbl;obtain⟨bs,hbs⟩:=w9nm (S.rd (H+k));rw[hbs]at HR0 HSN HHS HDE HPO HOF HPD HBL;have HBS:=ae hbs;obtain⟨p,hp⟩:=w9nm (ed bs);rw[hp]at HHS HDE HPO HOF;obtain⟨er,her⟩:=w9nm (lk bs);rw[her]at HDE;clear hbb hbl hiN hbs hp her;go_wp2_with fail;go_at_call 212;refine(DH g HG.out wr).mono ?_;rintro e x2 ⟨rfl,hb⟩;rw[HH.out];have K2:=ae hb;clear hb LG;go_wp2_with fail;go_at_call 72;refine(HR0.out x2 (HBx.out.trans (K2.out.mono HBx.out.size))).mono ?_;rintro e x3 ⟨rfl,hb⟩;obtain⟨x4,ST4,r4,hb4⟩:=kE x3 (gQ HBL.out);have L4:=r4.blk (by rw[cw];exact HBL.out);have K4:w9h wr x4:=K2.out.trans ((hb.trans (hb4.mono hb.size)).mono K2.out.size);clear hb hb4 r4;go_wp2_with fail;clear ST4;go_at_call 232;refine(HDE.out x4).mono ?_;rintro e x5 ⟨rfl,hb⟩;obtain⟨x6,ST6,r6,hb6⟩:=qj x5 p HPO.out.len;obtain⟨Bp,hBp⟩:=w9nm x5.heap.size;rw[hBp]at ST6 r6;have K6:w9h wr x6:=K4.out.trans ((hb.trans (hb6.mono hb.size)).mono K4.out.size);have LPz:∀z:aM x6,(aE 304 ⟨Bp,0,none⟩).run aj z.1=.ok (al p.cells.toArray) z.1:=fun z=>(r6.below z.2).pg HPO.out.len;have LBz:∀z:aM x6,(aE 205 ⟨Bp,3,none⟩).run aj z.1=.ok (al (aw p.body).toArray) z.1:=fun z=>(r6.below z.2).bod HPO.out.len;have LBy:∀y,ag x6.heap.size x6 y->(aE 205 ⟨Bp,3,none⟩).run aj y=.ok (al (aw p.body).toArray) y:=fun y hy=>(r6.below hy).bod HPO.out.len;have HLB:=ae LBy;have HHM:=ae (fun z=>De (k:Int) HPO.out.len z);have hcs:(Value.int ay 72:: ab aO 0:: ab ac (k:Int)::aw p.body)=(ex k p.body).cells:=rfl;rw[hcs]at HHM;have EQ:Hid (∀z:ah,(jG 10000 304 (al p.cells.toArray) (al (ex k p.body).cells.toArray)).run aj z=.ok (jI p (ex k p.body)) z):=fun z=>vu (p:=p) (q:=ex k p.body) HPO.out.len HPO.out.len z;obtain⟨b,hbb⟩:=w9nm (jI p (ex k p.body));rw[hbb]at EQ HHS;obtain⟨hc,hhc⟩:=w9nm ((ex k p.body).cells.toArray);rw[hhc]at EQ HHM;obtain⟨pc,hpc⟩:=w9nm p.cells.toArray;rw[hpc]at EQ LPz ST6;have HPB:Hid ((aw p.body).length=48):=by show _=_;rw[cw];exact HPO.out.len
   clear hb hb6 r6 L4 LBy hcs hbb hhc;rw[hpc];clear hpc;go_wp2_with fail;clear ST6 hBp;refine du (fun x=>∃y:aM x6,x=y.1) 5 (.takes [0,1,2,3] (.one 4 .leaf)) hmx (by kernel_rfl) (by intro c x v a w h;cases x<;>exact h) ⟨⟨x6.drew,(aI _ x6).drew⟩,rfl⟩ ?_;repeat(rw[bu];simp only[aB,aC];go_big_quiet_step (fail);refine aV ?_)
   rw[bt,aT];simp only[aB,aC];clear LPz LBz;go_wp2_with fail;go_at_call 214;refine(HHM.out _).mono ?_;rintro e x7 ⟨rfl,hb⟩;have K7:w9h x6 x7:=((aI _ x6).drew).trans hb;have K7':w9h wr x7:=K6.out.trans (K7.out.mono K6.out.size);clear hb;go_wp2_with fail;refine aN ⟨⟨x7,K7.out⟩,rfl⟩ ?_;rw[cW];simp only[bR,bQ];have EQ7:=EQ.out x7;cases b with
   | true=>
    have hPk:il bs k:=HHS.out.1 rfl;have HA':Hid (∀j,j<k+1->il (S.rd (H+j)) j):=fun j hj=>by
     rcases Nat.lt_succ_iff_lt_or_eq.1 hj with h | rfl
     ·exact HA.out j h
     ·rw[HBS.out];exact hPk
    have hpo:p=Sct.of bs:=HOF.out (HPD.out hPk);have LB:=HLB.out x7 K7.out;obtain⟨x8,hx8⟩:=w9nm (x7.alloc (an (aw p.body).toArray 205));have SB:(dh 109 1 #[(0,al (aw p.body).toArray)]).run aj x7=.ok (af (some ⟨x7.heap.size,0,none⟩) 1 1) x8:=by rw[←hx8];exact zA x7 _ HPB.out
    have b8:ag x7.heap.size x7 x8:=by rw[←hx8];exact aH x7 _
    have K8:w9h wr x8:=K7'.out.trans (b8.mono K7'.out.size);have O8:=dQ HO.out K8.out;have B8:=HBx.out.trans (K8.out.mono HBx.out.size);obtain⟨v9,x9,r9,o9,g9, -⟩:=zB w.heap.size x8 (af ra nv cv) ((S.homes H k).map aw) (aw p.body) x7.heap.size O8 HPB.out (mV _) (jg (t:= 205) (by rw[←hx8];exact cD x7 _)) (by rw[dV,DV];omega) B8.size;have e9:(S.homes H k).map aw++ [aw p.body]=(S.homes H (k+1)).map aw:=by rw[HSN.out,ec,hpo];rfl
    rw[e9]at o9;have R9:=ae r9;have O9:=ae o9;have B9:w9h w x9:=B8.grown g9 B8.size (fun j e=>(O8.lt j e).1);have G8:=HGR.out.below K8.out;have G9:Hid (aq x9 B 23 g.cs):=G8.grown g9 (fz O8 G8 (by decide));obtain⟨pb,hpb⟩:=w9nm ((aw p.body).toArray);rw[hpb]at LB SB;clear hPk hpo hx8 b8 O8 B8 r9 o9 g9 e9 G8 hpb;go_wp2_with (first | ((with_reducible refine iu ?_);refine dR _ _ _ rfl rfl [(0,al pb)] _ rfl SB ?_) | (at_builtin;refine wpList_append_run (.tmp 40) (.tmp 43) 109 rfl rfl _ _ _ rfl rfl R9.out ?_));go_roundw
    case rel=>exact⟨k+1,hlt,by go_num,HA',O9,G9,B9⟩
    case measure=>simp[aS];omega
   | false=>
    have HNO:Hid (¬∀i,i<P->il (S.rd (H+i)) i):=fun h=>by
     have:=h k hlt;rw[HBS.out]at this;have:=HHS.out.2 this;cases this
    have B7:w9h w x7:=HBx.out.trans (K7'.out.mono HBx.out.size);go_wp2_with fail;go_ret2;exact⟨aD ⟨HNO.out,rfl⟩,B7.out⟩
  ·have g3:decide ((k:Int)< (P:Int))=false:=by simp;omega
   obtain rfl:k=P:=by omega
   have HO':Hid (wr.ownsRow w.heap.size 205 48 u6 k ((S.homes H k).map aw).flatten):=by
    have:=HO.out;rw[dV,DV]at this;exact this
   go_wp2_with fail;go_ret2;exact⟨aA ⟨HA.out,_,rfl,HO'.out⟩,HBx.out⟩
end
end
section
attribute [-simp] isAgg51 zeroValue51 isAgg205 zeroValue205 isAgg304 zeroValue304 isAgg226 zeroValue226 isAgg207 zeroValue207 isAgg198 zeroValue198
attribute [-go_sem] aE aL cS
attribute [local go_sem] bC bD dz eK eL eM iD ew gH iC gI gJ
def kq (rb:Nat) (bv hv:ak) (gen:Int) (g:Geo) (a q wh at0 sq room:Int):List ak:= [am (some ⟨rb,0,none⟩),bv,hv]++cB gen g a q++ [ab ac wh,ab ac at0,ab aO sq,ab ac room]
structure MemAt (m rb Bb cb Bh ch:Nat) (a q:Int) (M:MS) (w:ah):Prop where
 row:aq w m 213 (kq rb (af (some ⟨Bb,0,none⟩) M.b.length cb) (af (some ⟨Bh,0,none⟩) M.home.length ch) M.gen M.g a q M.sup M.at0 M.seq M.room)
 mb:m≠Bb
 mh:m≠Bh
 bh:Bb≠Bh
 b0:0<M.b.length
 h0:0<M.home.length
 cbl:M.b.length<=cb/\cb<=aY
 cb':∃cur t,w.heap[Bb]? =some (an cur t (0,0))
 bat:w.rangeAt Bb 0 (aw M.b)
 ch':∃cur t,w.heap[Bh]? =some (an cur t (0,0))
 hat:w.rangeAt Bh 0 (M.home.map aw).flatten
def eR (m rb:Nat) (M:MS):ef:=fun w f=>∃Bb cb Bh ch a q,MemAt m rb Bb cb Bh ch a q M w/\f=fun k=>k=m\/k=Bb\/k=Bh
theorem MemAt.keep {m rb Bb cb Bh ch:Nat} {a q:Int} {M:MS} {w w':ah} (h:MemAt m rb Bb cb Bh ch a q M w) (hm:w'.heap[m]? =w.heap[m]?) (hb:w'.heap[Bb]? =w.heap[Bb]?) (hh:w'.heap[Bh]? =w.heap[Bh]?):MemAt m rb Bb cb Bh ch a q M w':=
 ⟨hm.trans h.row,h.mb,h.mh,h.bh,h.b0,h.h0,h.cbl,by obtain⟨c,t,e⟩:=h.cb';exact⟨c,t,hb.trans e⟩,ij h.bat hb,by obtain⟨c,t,e⟩:=h.ch';exact⟨c,t,hh.trans e⟩,ij h.hat hh⟩
theorem eR.isRes (m rb:Nat) (M:MS):IsRes (eR m rb M) where
 out:=by
  rintro w w' f ⟨Bb,cb,Bh,ch,a,q,h,rfl⟩ hk;exact⟨Bb,cb,Bh,ch,a,q,h.keep (hk m (aA rfl)) (hk Bb (aD (aA rfl))) (hk Bh (aD (aD rfl))),rfl⟩
 lt:=by
  rintro w f ⟨Bb,cb,Bh,ch,a,q,h,rfl⟩ k hk;rcases hk with rfl | rfl | rfl
  ·exact h.row.lt
  ·obtain⟨c,t,e⟩:=h.cb';exact(bL.1 e).1
  ·obtain⟨c,t,e⟩:=h.ch';exact(bL.1 e).1
 cells:=by
  rintro w f ⟨Bb,cb,Bh,ch,a,q,h,rfl⟩ k hk ob ho;rcases hk with rfl | rfl | rfl
  ·rw[show w.heap[k]? =_ from h.row]at ho;cases ho;rfl
  ·obtain⟨c,t,e⟩:=h.cb';rw[e]at ho;cases ho;rfl
  ·obtain⟨c,t,e⟩:=h.ch';rw[e]at ho;cases ho;rfl
def DW:MetaRes:=⟨eR,eR.isRes⟩
section
variable {m rb Bb cb Bh ch:Nat} {a q:Int} {M:MS} {w w':ah}
theorem MemAt.lt (h:MemAt m rb Bb cb Bh ch a q M w):m<w.heap.size/\Bb<w.heap.size/\Bh<w.heap.size:=
 ⟨h.row.lt,by obtain⟨c,t,e⟩:=h.cb';exact(bL.1 e).1,by obtain⟨c,t,e⟩:=h.ch';exact(bL.1 e).1⟩
theorem MemAt.below (h:MemAt m rb Bb cb Bh ch a q M w) (hb:ag w.heap.size w w'):MemAt m rb Bb cb Bh ch a q M w':=h.keep (hb.block _ h.lt.1) (hb.block _ h.lt.2.1) (hb.block _ h.lt.2.2)
theorem MemAt.sl (h:MemAt m rb Bb cb Bh ch a q M w):Sl ay w (af (some ⟨Bb,0,none⟩) M.b.length cb) M.b:=
 Sl.at (off:=0) h.cbl.1 h.cbl.2 h.lt.2.1 fun j hj=>by
  rw[h.bat j (ab ay M.b[j]) (by simp[aw,hj])];simp[hj]
theorem MemAt.pgs (h:MemAt m rb Bb cb Bh ch a q M w) (hl:∀x ∈ M.home,x.length=48) (hf:M.home.length<=1000):PgsR w (af (some ⟨Bh,0,none⟩) M.home.length ch) Bh M.home:=⟨⟨_,_,rfl,fun _=>rfl⟩,h.lt.2.2,h.hat,hl,hf⟩
end
section
theorem DX:(aj.info? 23).map (·.size)=some 5:=by kernel_rfl
theorem hU (w:ah):(zeroValue 23).run aj w=.ok (al (Geo.mk 0 0 0 0 0).v) w:=by kernel_rfl
theorem ia (w:ah):(df 23 #[]).run aj w=.ok (al (Geo.mk 0 0 0 0 0).v) w:=by kernel_rfl
theorem Geo.cs_one (g:Geo):∀v ∈ g.cs,v.oneCell'=true:=by
 intro v hv;simp only[Geo.cs,dy,lM,or_false]at hv;rcases hv with rfl | rfl | rfl | rfl | rfl<;>rfl
theorem ue {x:ah} {B:Nat} {old:List ak} {g:Geo} (h:aq x B 23 old) (ho:old.length=5):
  ∃y,(aL 23 ⟨B,0,none⟩ (al g.v)).run aj x=.ok () y/\aq y B 23 g.cs/\x.grownBy y (some B):=by
 refine⟨_,run_storeVar_row x B _ _ old.toArray g.cs.toArray h (by simpa [Geo.cs]using DX) (by simp[ho,Geo.cs]) (ky g.cs_one),setRow_heap x B _ _ _ _ h, ?_⟩;exact⟨rfl,rfl,rfl,by rw[setRow_size];exact aG _,fun k _ hk=>setRow_other x B k _ (fun e=>hk (by rw[e]))⟩
theorem xF (x:ah) (g:Geo):∃y,(aL 23 ⟨x.heap.size,0,none⟩ (al g.v)).run aj (x.alloc (an (Geo.mk 0 0 0 0 0).v 23))=.ok () y/\aq y x.heap.size 23 g.cs/\ag x.heap.size x y:=
 ⟨_,kQ x _ _ g.cs.toArray DX rfl (ky g.cs_one),aq.new x _ _,aH x _⟩
theorem aq.geoAt {x:ah} {B:Nat} {t:aR} {C pre post:List ak} {g:Geo} (h:aq x B t C) (e:C=pre++(g.cs++post)):(aE 23 ⟨B,pre.length,none⟩).run aj x=.ok (al g.v) x:=
 Dp fun j v hj=>h.range (pre.length+j) v (by
  have hjl:j<g.cs.length:=(bZ.1 hj).1;rw[e,fv (by omega),Nat.add_sub_cancel_left,fS hjl];exact hj)|> fun h=>by rwa [dP]at h
end
end
section
attribute [-simp] isAgg51 zeroValue51 isAgg205 zeroValue205 isAgg304 zeroValue304 isAgg226 zeroValue226 isAgg207 zeroValue207 isAgg198 zeroValue198 isAgg23 zeroValue23
attribute [-go_sem] aE aL cS
attribute [local go_sem] bC bD dz eK eL eM iD ew gH iC hU ia gI gJ
section
theorem ON {m rb:Nat} {M:MS} {w:ah} {f:Nat->Prop} (h:eR m rb M w f):ap aj 69 #[am (some ⟨m,0,none⟩)] w fun e w'=>e=ao (ab ac M.room)/\ag w.heap.size w w':=by
 obtain⟨Bb,cb,Bh,ch,a,q,h,rfl⟩:=h;have c0:w.cell? ⟨m,14,none⟩=some (ab ac M.room):=h.row.cell 14 _ rfl;clear h;go_enter func69,ntmps69;go_wp2_with fail;go_ret;exact⟨rfl,aI _ _⟩
theorem OO (w:ah):ap aj 69 #[am none] w fun e w'=>e=ao (ab ac 0)/\ag w.heap.size w w':=by
 go_enter func69,ntmps69;go_wp2_with fail;go_ret;exact⟨rfl,aI _ _⟩
theorem DY {m rb:Nat} {M:MS} {w:ah} {f:Nat->Prop} (h:eR m rb M w f) (hl:M.b.length<=100000):ap aj 68 #[am (some ⟨m,0,none⟩)] w fun e w'=>∃v,e=ao v/\Sl ay w' v M.b/\DN v w w'/\ag w.heap.size w w':=by
 obtain⟨Bb,cb,Bh,ch,a,q,h,rfl⟩:=h;have c0:w.cell? ⟨m,1,none⟩=some (af (some ⟨Bb,0,none⟩) M.b.length cb):=h.row.cell 1 _ rfl;have HC:=ae (xC w h.sl (fun e=>by have:=h.b0;rw[e]at this;simp at this) (by omega));clear h;go_enter func68,ntmps68;go_wp2_with fail;go_at_call 135;refine HC.out.mono ?_;rintro e x ⟨v,rfl,hO,hb⟩;have HO:=ae hO;have HB:=ae hb;clear hO hb;go_wp2_with fail;go_ret;exact⟨v,rfl,Sl.of_owns HO.out,fun b off len cap e=>(HO.out.lt b (by rw[e];rfl)).1,HB.out⟩
theorem OP (w:ah):ap aj 68 #[am none] w fun e w'=>∃v,e=ao v/\Sl ay w' v []/\ag w.heap.size w w':=by
 go_enter func68,ntmps68;go_wp2_with fail;go_ret;exact⟨_,rfl,Sl.nil _ _,aI _ _⟩
theorem uf {m rb:Nat} {M:MS} {w:ah} {f:Nat->Prop} (h:eR m rb M w f):ap aj 71 #[am (some ⟨m,0,none⟩)] w fun e w'=>e=ao (al M.g.v)/\ag w.heap.size w w':=by
 obtain⟨Bb,cb,Bh,ch,a,q,h,rfl⟩:=h;obtain⟨W,hW⟩:=w9nm (w.alloc (an (Geo.mk 0 0 0 0 0).v 23));have b1:ag w.heap.size w W:=by rw[←hW];exact aH w _
 have r1:aq W w.heap.size 23 (Geo.mk 0 0 0 0 0).cs:=by rw[←hW];exact aq.new w _ _
 have L0:=(h.row.below b1).geoAt (g:=M.g) (pre:= [am (some ⟨rb,0,none⟩),af (some ⟨Bb,0,none⟩) M.b.length cb,af (some ⟨Bh,0,none⟩) M.home.length ch,ab aO M.gen]) (post:= [ab ac a,ab aO q,ab ac M.sup,ab ac M.at0,ab aO M.seq,ab ac M.room]) rfl;have L0':(aE 23 ⟨m,4,none⟩).run aj W=.ok (al M.g.v) W:=L0;obtain⟨y,ST,ry,gy⟩:=ue (g:=M.g) r1 rfl;have LD:=ae (cG ry);have HB:w9h w y:=b1.grown gy b1.size (fun k e=>by cases e;exact aG _);obtain⟨B,hB⟩:=w9nm w.heap.size;rw[hB]at ST LD;clear h b1 r1 L0 ry gy;go_enter func71,ntmps71;go_wp2_with fail;exact bo (ev rfl rfl LD.out) rfl ⟨rfl,HB.out⟩
theorem OQ (w:ah):ap aj 71 #[am none] w fun e w'=>e=ao (al (Geo.mk 0 0 0 0 0).v)/\ag w.heap.size w w':=by
 obtain⟨W,hW⟩:=w9nm (w.alloc (an (Geo.mk 0 0 0 0 0).v 23));have b1:ag w.heap.size w W:=by rw[←hW];exact aH w _
 have r1:aq W w.heap.size 23 (Geo.mk 0 0 0 0 0).cs:=by rw[←hW];exact aq.new w _ _
 obtain⟨y,ST,ry,gy⟩:=ue (g:=Geo.mk 0 0 0 0 0) r1 rfl;have LD:=ae (cG ry);have HB:w9h w y:=b1.grown gy b1.size (fun k e=>by cases e;exact aG _);obtain⟨B,hB⟩:=w9nm w.heap.size;rw[hB]at ST LD;clear b1 r1 ry gy;go_enter func71,ntmps71;go_wp2_with fail;exact bo (ev rfl rfl LD.out) rfl ⟨rfl,HB.out⟩
theorem aU.fits {rb p0 p1:Nat} {S:RS} {w:ah} {f:Nat->Prop} (h:aU rb p0 p1 S w f) (g:Geo) (hg:g.In):ap aj 126 #[am (some ⟨rb,0,none⟩),al g.v] w fun e w'=>e=ao (.bool (decide (g.fitsR S.n0 S.n1)))/\ag w.heap.size w w':=
 DJ g hg w (fun x hx=>(h.beside hx).len 0) (fun x hx=>(h.beside hx).len 1)
end
end
section
theorem Geo.goodIn {g:Geo} (h:g.good):g.In:=by
 obtain⟨⟨h1,h2,h3,h4,h5,h6,h7,h8⟩,h9,h10⟩:=h;have hb:=Geo.bounds ⟨h1,h2,h3,h4,h5,h6,h7,h8⟩;intro n hn;simp only[dy,lM,or_false]at hn;rcases hn with rfl | rfl | rfl | rfl | rfl<;>omega
theorem Geo.goodNums {g:Geo} (h:g.good):g.oH=(g.H:Int)/\g.oP=(g.P:Int)/\g.oR=((2:Nat):Int)/\g.oB=g.bts/\g.r=(g.C:Int):=by
 have hN:=Geo.nats h;refine⟨?_, ?_, ?_, ?_,hN.c.symm⟩
 ·unfold Geo.oH Geo.H;rw[if_pos h];have:=hN.c;omega
 ·unfold Geo.oP;rw[if_pos h];exact hN.p.symm
 ·unfold Geo.oR;rw[if_pos h];rfl
 ·unfold Geo.oB;rw[if_pos h]
theorem Geo.supIn {g:Geo} (h:g.good) {gen a q:Int} (h1:dx gen) (h2:0<=a/\a<g.r) (h3:dx q):SupIn gen g a q:=by
 obtain⟨⟨g1,g2,g3,g4,g5,g6,g7,g8⟩,h9,h10⟩:=h;have hb:=Geo.bounds ⟨g1,g2,g3,g4,g5,g6,g7,g8⟩;exact⟨h1,by omega,by omega,by omega,by omega,by omega,by omega,h3⟩
section
variable {S:RS} {M:MS} {b:List Int}
theorem MS.Ok.pcs (h:M.Ok S):dt M.b=M.g.P:=by unfold dt;rw[h.len,(Geo.nats h.good).bp]
theorem MS.Ok.pcs' (h:M.Ok S) (hl:b.length=M.b.length):dt b=M.g.P:=by unfold dt;rw[hl,h.len,(Geo.nats h.good).bp]
theorem MS.Ok.room (h:M.Ok S):2+M.g.C+M.g.P<S.n0:=by
 have hN:=Geo.nats h.good;have:=h.n0;have:=hN.f;have:=hN.s1;omega
theorem MS.Ok.homB (h:M.Ok S):(∀x ∈ M.homW,x.1<S.n0)/\(M.homW.map (·.1)).Nodup/\(∀x ∈ M.homW,cz x.2)/\M.homW.length<=15:=by
 have hr:=h.room;refine⟨fun x hx=> ?_, ?_,fun x hx=> ?_, ?_⟩
 ·obtain⟨j,hj,e,_⟩:=mJ (i:=x.1) (v:=x.2) hx;rw[e];unfold Geo.H;omega
 ·unfold MS.homW;rw[iX];refine List.pairwise_map.2 ((List.nodup_range.filter _).imp fun{i j} hne e=>hne ?_);have e:M.g.H+i=M.g.H+j:=e;omega
 ·obtain⟨j,hj,_,_,e⟩:=mJ (i:=x.1) (v:=x.2) hx;rw[e];exact gQ (Sct.bytes_length (qI (ll _ _) (mH h.bytes j)))
 ·unfold MS.homW;rw[dV];have:=(Geo.nats h.good).p2;exact bm (List.length_filter_le _ _) (by simpa using this)
theorem MS.Ok.supB (h:M.Ok S):(∀x ∈ M.supW,x.1<S.n0)/\(M.supW.map (·.1)).Nodup/\(∀x ∈ M.supW,cz x.2)/\M.supW.length=1:=by
 have hr:=h.room;have hg:=h.gen;refine⟨fun x hx=> ?_,by simp[MS.supW],fun x hx=> ?_,rfl⟩
 ·rw[eF.1 hx];show 1 - M.sup<_;omega
 ·rw[eF.1 hx];exact gQ (Sct.bytes_length (ti ⟨by omega,by omega⟩ _ _ _))
theorem MS.Ok.txn (h:M.Ok S) (hl:b.length=M.b.length) (hb:aP b) (hd:M.dif b≠ []):TxnOk M.g.C (M.dif b):=by
 have hN:=Geo.nats h.good;have hp:dt b=M.g.P:=h.pcs' hl;have hle:(M.dif b).length<=M.g.P:=by
  have:=wJ (aX M.b) (aX b)
  rwa [jR b,hp]at this
 have hx:∀x ∈ M.dif b,∃i:Nat,i<M.g.P/\x=⟨(i:Int),cT b i⟩:=fun x hx=>by
  obtain⟨i,rfl,hi,_⟩:=wI _ _ x hx;rw[jR,hp]at hi;refine⟨i,hi, ?_⟩;rw[qJ b (by rw[hp];exact hi)]
  rfl
 refine⟨?_,by have:=hN.c1;omega,fun x hxm=> ?_,fun x hxm=> ?_⟩
 ·rcases Nat.eq_zero_or_pos (M.dif b).length with h0 | h0
  ·exact absurd (ka h0) hd
  ·exact h0
 ·obtain⟨i,hi,rfl⟩:=hx x hxm;exact⟨ll _ _,mH hb i⟩
 ·obtain⟨i,hi,rfl⟩:=hx x hxm;have:=hN.p2;exact⟨Int.natCast_nonneg i,by show(i:Int)<=65535;omega⟩
end
theorem RS.Rdy.st {S:RS} {l:cH} {m d:Nat} (hf:S.Few m) (hd:0<=S.done/\S.done<=500000+d) (hfu:S.fuse<=1000000) (hm:m<=200) (hin:∀x ∈ l,x.1<S.n0) (hnd:(l.map (·.1)).Nodup):
  (S.st l).1.n0=S.n0/\(S.st l).1.Few (m+1)/\(0<=(S.st l).1.done/\(S.st l).1.done<=500000+(d+l.length+1:Nat))/\(S.st l).1.fuse<=1000000/\((S.st l).2=0\/(S.st l).2=14):=by
 obtain⟨h1,h2,h3,h4,h5,h6⟩:=RS.st_spec hin hnd hf (by omega);exact⟨h1,h5,⟨by omega,by omega⟩,by omega,h6⟩
end
end Go.Proofs.YtbeeenembgplmaaGreat
