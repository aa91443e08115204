/- Made shorter by a tool: what the statements rest on. -/
import Derived.Test.YtbeeenembgplmaaGreatCU1
import Derived.Maps.AppendAt
import Derived.Laws.StructEq
import Derived.RangeFuncBox
import Derived.Lib.AppendZerosOnto
import Derived.LoopTactic
import Derived.Shelf.Slices.In.SortNone
set_option maxRecDepth 100000
set_option maxHeartbeats 20000000
set_option linter.unusedVariables false
set_option linter.unusedSimpArgs false
open List renaming getElem?_eq_getElem -> aZ, replicate -> bg, length_cons -> bz, drop_zero -> bQ, drop_succ_cons -> bR, getElem?_eq_some_iff -> bZ, length_nil -> cx, nil_append -> cy, cons_append -> cC, length_append -> cE, range -> cI, size_toArray -> cJ, mem_map -> cM, push_toArray -> cQ, append_toArray -> cR, take_of_length_le -> de, length_take -> dj, length_drop -> dm, mem_of_getElem? -> dp, mem_cons -> dy, mem_cons_self -> dC, mem_range -> dJ, length_map -> dV, getElem?_map -> dY, mem_cons_of_mem -> ea, map_append -> ec, mem_singleton -> eF, getElem?_append_right -> fv, getElem?_append_left -> fS, mem_append -> gc, length_replicate -> iq, finRange -> iH, map_map -> iX, all_eq_true -> iZ, drop_drop -> ja, mem_of_mem_take -> jE, getElem?_of_mem -> jY, take_add_one -> jZ, eq_nil_of_length_eq_zero -> ka, append_assoc -> kb, getElem?_take -> kx, getElem?_replicate -> kO, filter_append -> lG, mem_filter -> lH, getElem?_drop -> lI, take_append_drop -> lK, flatten_append -> lL, not_mem_nil -> lM, getElem?_range -> mj
open Nat renaming le_refl -> aG, zero_le -> bc, le_trans -> bm, lt_of_lt_of_le -> bq, zero_add -> dP, le_of_lt -> jt, mul_le_mul -> kP, min_eq_left -> lJ
open Array renaming getElem?_eq_some_iff -> bL, replicate_succ -> cO, replicate_zero -> cP
open Bool renaming and_eq_true -> cm, eq_iff_iff -> iY, true_and -> jX
open Go.Lib renaming hid -> ae
open Go renaming World -> ah, Value -> ak, Calls -> ap, undef -> az, loadVar -> aE, Addr -> aF, storeVar -> aL, TypeId -> aR, wpQuiet_nil -> aV, maxLen -> aY, bodyPost_ret -> bo, heap_alloc_new -> cD, cell_of_row -> dq, run_takeDeferred -> eU, info_parts -> fy, callsIn_of_wp_marks -> gA, run_loadVar_mid -> jF, all_oneCell_toArray -> ky, run_storeVar_new -> kQ
open Go.Boxed renaming new -> dD
open Go.Instr renaming build -> df, buildSlice -> dh, fill -> ir
open Go.IntWalk renaming wrap64_in -> kR
open Go.KeepsOthers renaming setCell -> iK
open Go.Op renaming equalIn -> jG
open Go.Result renaming andThen_ok -> ek
open Go.RowKit renaming Below -> ag, intOf -> aS
open Go.RowKit.Below renaming refl -> aI
open Go.Sem renaming run_bind -> gK
open Go.Value renaming ownBlock -> jb
open Go.World renaming size_alloc -> bO, cell?_of_block -> gj, ownsRow_nil -> jc, rangeAt_setCells_same -> kz, rangeAt_setCells_apart -> ml
open Go.Ending renaming returned -> ao
open Go.IntKind renaming i64 -> ac, u8 -> ay, u32 -> aO
open Go.Obj renaming cells -> an
open Go.Value renaming int -> ab, slice -> af, agg -> al, pointer -> am, tuple -> aQ
open Or renaming inl -> aA, inr -> aD
open Go.Proofs.Tryz
open Go.Proofs.Tryz renaming prog -> aj
namespace Go.Proofs.YtbeeenembgplmaaGreat
open Go.RowKit Go.Shelf Go.Lib
section
def gD:List ak:=aw (bg 48 0)
theorem vp:gD.toArray.size=48:=by simp[gD,aw]
theorem vq:aj.underlying 205 =some (.array 48 5):=by kernel_rfl
theorem sr:(aj.info? 205).map (fun i=>(i.zero,i.size,i.bytes))=some (some (al gD.toArray),48,48):=by kernel_rfl
theorem Iz:(aj.info? 205).map (·.size)=some 48:=by kernel_rfl
theorem dz (w:ah):(zeroValue 205).run aj w=.ok (al gD.toArray) w:=by kernel_rfl
theorem nJ {w:ah} {b o:Nat} {c:List ak} (hc:w.rangeAt b o c) (h:c.length=48):(aE 205 ⟨b,o,none⟩).run aj w=.ok (al c.toArray) w:=
 jF w b o _ c _ hc vq rfl (by rw[h];exact Iz)
theorem vr (t:aR) (h:t≠ 51 /\t≠ 205) (a:aF):aE t a=(do if←isAgg t then pure (al (←loadCells a (←sizeOf t)))else load a):=rfl
theorem zA (w:ah) (b:List ak) (h:b.length=48):(dh 109 1 #[(0,al b.toArray)]).run aj w=.ok (af (some ⟨w.heap.size,0,none⟩) 1 1) (w.alloc (an b.toArray 205)):=by
 have e:(b.zipIdx.foldl (fun cs (x:ak×Nat)=>cs.setIfInBounds (0+x.2) x.1) ((Array.range 48).map (gD.toArray[·%gD.toArray.size]!)))=b.toArray:=sp b _ (by simp[h]);have e2:b.toArray.zipIdx.foldl (fun cs (x:ak×Nat)=>cs.setIfInBounds (0+x.2) x.1) ((Array.range 48).map (gD.toArray[·%gD.toArray.size]!))=b.toArray:=by
  rw[←Array.foldl_toList,Array.toList_zipIdx];exact e
 obtain⟨i0,hi,hz0,hz1,hz2⟩:=fy sr;refine run_buildSlice (P:=aj) w 109 205 1 _ b.toArray i0 (al gD.toArray) (by kernel_rfl) hi hz0 (by rw[hz1];decide) (by rw[hz1];decide) ?_;rw[hz1];show ir _ _ [(0,Value.agg b.toArray)]=_;simp only[ir];rw[if_neg (by simp[Value.cells,h])]
 congr 1
set_option maxRecDepth 100000 in
theorem zB (N:Nat) (w:ah) (v:ak) (vs:List (List ak)) (b:List ak) (B:Nat) (hown:w.ownsRow N 205 48 v vs.length vs.flatten) (hb:b.length=48) (h1:∀u ∈ b,u.oneCell'=true) (hB:w.rangeAt B 0 b) (hlen:vs.length<=1000000) (hN:N<=w.heap.size):
  ∃v' w',(Builtin.append_ #[109, 109] 109 #[v,af (some ⟨B,0,none⟩) 1 1]).run aj w=.ok v' w'/\w'.ownsRow N 205 48 v' (vs++ [b]).length (vs++ [b]).flatten/\w.grownBy w' v.ownBlock/\(v'.ownBlock=v.ownBlock\/v'.ownBlock=some w.heap.size):=by
 obtain⟨i0,hi,hz0,hz1,hz2⟩:=fy sr;obtain⟨v',w',hr,h1,h2,_,h3⟩:=run_append_own_at (P:=aj) w N 109 109 205 i0 (al gD.toArray) 48 48 Tryz.underlying109 hi hz0 hz1 hz2 vp (by omega) v vs.length vs.flatten hown
  ⟨B,0,none⟩ 1 1 b (by rw[hb]) (fun j u hj=>by have:=hB j u hj;rwa [Addr.add_mid]) h1 (by unfold aY;omega) (by omega) hN
 exact⟨v',w',hr,by simpa using h1,h2,h3⟩
def dt (bs:List Int):Nat:=(bs.length+47) / 48
def cT (bs:List Int) (k:Nat):List Int:=(bs.drop (48*k)).take 48++bg (48 - ((bs.drop (48*k)).take 48).length) 0
theorem ll (bs:List Int) (k:Nat):(cT bs k).length=48:=by simp[cT];omega
def rows (bs:List Int) (k:Nat):List (List ak):=(cI k).map fun i=>aw (cT bs i)
theorem IB (bs:List Int) (k:Nat):(rows bs k).length=k:=by simp[rows]
end
section
attribute [-simp] isAgg51 zeroValue51 isAgg205 zeroValue205
attribute [-go_sem] aE aL
attribute [local go_sem] bC bD dz vr ez
theorem zC (d:Nat) {xs ys:List Int} (hx:xs.length=48) (hy:ys.length=48) (w:ah):(jG (d+2) 205 (al (aw xs).toArray) (al (aw ys).toArray)).run aj w=.ok (jh (aw xs) (aw ys)) w:=by
 obtain⟨i0,hi⟩:∃i,aj.info? 5 =some i:=Option.isSome_iff_exists.1 (show(aj.info? 5).isSome=true by kernel_rfl);unfold aw;rw[run_equalIn_array w (d+1) (xs.map (Value.int ay)).toArray (ys.map (Value.int ay)).toArray vq hi,show aj.cellsOf 5 =1 from by kernel_rfl,
  uH (d:=d) (by kernel_rfl) (by kernel_rfl) xs ys w (cI 48) (fun i hi=>by have:=dJ.1 hi;omega)]
 congr 1
 rw[iY,ns,iZ];constructor
 ·intro h
  congr 1
  apply List.ext_getElem (by omega);intro i h1 h2;have:=h i (dJ.2 (by omega))
  simpa [h1,h2]using this
 ·intro h i hi;have hxy:xs=ys:=by
   have e:=congrArg (List.map aS) h;rw[iX,iX,show aS ∘ Value.int ay=id from by funext x;rfl]at e
   simpa using e
  simp[hxy]
theorem IE {xs ys:List Int} (hx:xs.length=48) (hy:ys.length=48) (w:ah):(jG 10000 205 (al (aw xs).toArray) (al (aw ys).toArray)).run aj w=.ok (jh (aw xs) (aw ys)) w:=zC 9998 hx hy w
noncomputable def jI (p q:Sct):Bool:=p.mark==q.mark&&(p.seq==q.seq&&(p.index==q.index&&jh (aw p.body) (aw q.body)))
theorem su {p q:Sct}:jI p q=true↔p=q:=by
 unfold jI;rw[cm,cm,cm,ns];constructor
 ·rintro⟨a,b,c,d⟩;have e:=congrArg (List.map aS) d;unfold aw at e;rw[iX,iX,show aS ∘ Value.int ay=id from by funext x;rfl]at e;cases p;cases q;simp at a b c e;simp[a,b,c,e]
 ·rintro rfl;simp
end
section
theorem jl {t:aR} {k k':IntKind} (hu:aj.underlying t=some (.int k)) {xs:Array ak} {off:Nat} {n:Int} (hx:xs[off]? =some (ab k' n)) (w:ah):(part t xs off).run aj w=.ok (ab k' n) w:=
 run_part_plain w (by unfold Program.plainKey;rw[hu]) hx
theorem zD {xs:Array ak} {off:Nat} (w:ah):(part 205 xs off).run aj w=.ok (al (xs.extract off (off+48))) w:=by
 obtain⟨i0,hi⟩:∃i,aj.info? 205 =some i:=Option.isSome_iff_exists.1 (show(aj.info? 205).isSome=true by kernel_rfl);have hs:aj.cellsOf 205 =48:=by kernel_rfl
 simp[part,isAgg,run_underlying vq,run_sizeOf w hi,hs,Result.andThen]
theorem zE (p:Sct) (hp:p.body.length=48):p.cells.toArray.extract 3 (3+48)=(aw p.body).toArray:=by
 rw[show p.cells= [ab ay p.mark,ab aO p.seq,ab ac p.index]++aw p.body from rfl];apply Array.toList_inj.1;simp only[aw,cC,cy,Array.toList_extract,List.extract_eq_take_drop,bR,bQ];exact de (by simp[hp])
set_option maxRecDepth 100000 in
theorem vu {p q:Sct} (hp:p.body.length=48) (hq:q.body.length=48) (w:ah):(jG 10000 304 (al p.cells.toArray) (al q.cells.toArray)).run aj w=.ok (jI p q) w:=by
 rw[run_equalIn_struct w 9999 304 _ _ (by kernel_rfl) (by kernel_rfl)];have h0:∃f0 f1 f2 f3:Field,aj.fieldsOf 304 =#[f0,f1,f2,f3]/\(f0.name≠ "_" /\f0.type= 5 /\f0.offset=0)/\(f1.name≠ "_" /\f1.type= 110 /\f1.offset=1)/\(f2.name≠ "_" /\f2.type= 3 /\f2.offset=2)/\(f3.name≠ "_" /\f3.type= 205 /\f3.offset=3):=
  ⟨_,_,_,_,rfl,⟨by decide,rfl,rfl⟩,⟨by decide,rfl,rfl⟩,⟨by decide,rfl,rfl⟩,⟨by decide,rfl,rfl⟩⟩
 obtain⟨f0,f1,f2,f3,h0,⟨n0,t0,o0⟩,⟨n1,t1,o1⟩,⟨n2,t2,o2⟩,⟨n3,t3,o3⟩⟩:=h0;rw[h0];simp only[Op.eqFields,gK,if_pos n0,if_pos n1,if_pos n2,if_pos n3,t0,t1,t2,t3,o0,o1,o2,o3];have a0:p.cells.toArray[0]? =some (ab ay p.mark):=rfl;have b0:q.cells.toArray[0]? =some (ab ay q.mark):=rfl;have a1:p.cells.toArray[1]? =some (ab aO p.seq):=rfl;have b1:q.cells.toArray[1]? =some (ab aO q.seq):=rfl;have a2:p.cells.toArray[2]? =some (ab ac p.index):=rfl;have b2:q.cells.toArray[2]? =some (ab ac q.index):=rfl;have s0:jI p q=(p.mark==q.mark&&(p.seq==q.seq&&(p.index==q.index&&jh (aw p.body) (aw q.body)))):=rfl;rw[s0,jl Tryz.underlying5 a0,ek,jl Tryz.underlying5 b0,ek,run_equalIn_int w 9998 5 ay ay _ _ Tryz.underlying5,ek];cases p.mark==q.mark
 ·rfl
 simp only[Bool.not_true,Bool.false_eq_true,if_false,jX,gK];rw[jl Tryz.underlying110 a1,ek,jl Tryz.underlying110 b1,ek,run_equalIn_int w 9998 110 aO aO _ _ Tryz.underlying110,ek];cases p.seq==q.seq
 ·rfl
 simp only[Bool.not_true,Bool.false_eq_true,if_false,jX,gK];rw[jl Tryz.underlying3 a2,ek,jl Tryz.underlying3 b2,ek,run_equalIn_int w 9998 3 ac ac _ _ Tryz.underlying3,ek];cases p.index==q.index
 ·rfl
 simp only[Bool.not_true,Bool.false_eq_true,if_false,jX,gK];rw[zD,ek,zD,ek,zE p hp,zE q hq,zC 9997 hp hq,ek];cases jh (aw p.body) (aw q.body)<;>rfl
theorem vv:(aj.info? 304).map (·.size)=some 51:=by kernel_rfl
set_option maxRecDepth 100000 in
theorem pd {w:ah} {b o:Nat} {c:List ak} (hc:w.rangeAt b o c) (h:c.length=51):(aE 304 ⟨b,o,none⟩).run aj w=.ok (al c.toArray) w:=
 jF w b o _ c _ hc Tryz.underlying304 rfl (by rw[h];exact vv)
theorem IF {w:ah} {b o:Nat} {c:List ak} (ht:w.there b o 51) (h:c.length=51) (h1:∀v ∈ c,v.oneCell'=true):(aL 304 ⟨b,o,none⟩ (al c.toArray)).run aj w=.ok () (w.setCells b o c):=by
 have:=run_storeVar_mid (P:=aj) w b o 304 c.toArray (by simpa [h]using ht) (by simpa [h]using vv) (ky h1)
 simpa using this
theorem sw {w:ah} {c:Array ak} {c':List ak} (h:c.size=51) (h':c'.length=51) (h1:∀v ∈ c',v.oneCell'=true):(aL 304 ⟨w.heap.size,0,none⟩ (al c'.toArray)).run aj (w.alloc (an c 304))=.ok () (w.alloc (an c'.toArray 304)):=
 kQ w _ c c'.toArray (by simpa [h']using vv) (by simpa [h']using h) (ky h1)
theorem eK (w:ah):(zeroValue 304).run aj w=.ok (al dF.toArray) w:=by kernel_rfl
theorem eL (m s i:Int) (w:ah):(df 304 #[(0,ab ay m),(1,ab aO s),(2,ab ac i)]).run aj w=.ok (al (Value.int ay m:: ab aO s:: ab ac i::aw (bg 48 0)).toArray) w:=by kernel_rfl
theorem eM (w:ah):(df 304 #[]).run aj w=.ok (al dF.toArray) w:=by kernel_rfl
theorem nK:dF.toArray.size=51:=by simp[dF,aw]
theorem sy (t:aR) (h:t≠ 51 /\t≠ 304 /\t≠ 205) (a:aF):aE t a=(do if←isAgg t then pure (al (←loadCells a (←sizeOf t)))else load a):=rfl
theorem sB (t:aR) (h:t≠ 51 /\t≠ 304) (a:aF) (v:ak):aL t a v=(do
  if v.cells.size≠(←sizeOf t)then stuck "storeVar: the value has not the size of the variable"
  storeCells a v.cells.toList):=rfl
def dU (w:ah) (N rb:Nat) (bs:List Int):Prop:=
 ∃b off cap,Boxed w rb 370 (af (some ⟨b,off,none⟩) bs.length cap)/\bs.length<=cap/\cap<=aY/\b<N/\
  (∀j,j<bs.length->w.cell? ⟨b,off+j,none⟩=some (ab ay (bs[j]?.getD 0)))/\rb<N/\N<=w.heap.size
theorem zF (rb b off len cap k:Nat) (w:ah) (hb:Boxed w rb 370 (af (some ⟨b,off,none⟩) len cap)) (hk:k<=len) (hlen:len<=cap) (hcap:cap<=aY):
  ap aj 300 #[am (some ⟨rb,0,none⟩),ab ac (k:Int)] w fun e w'=>
   e=ao (aQ #[af (some ⟨b,off,none⟩) k cap,.bool true])/\w'=w.setCell ⟨rb,0,none⟩ (af (some ⟨b,if k=cap then off else off+k,none⟩) (len - k) (cap - k)):=by
 unfold aY at hcap;have c1:=hb.cell;have f1:=hb.frozen;have g1:decide ((k:Int)<0)=false:=by simp
 have g2:decide (len<k)=false:=by simp;omega
 go_enter func300,ntmps300;go_wp2;all_goals
  go_ret2;exact⟨rfl,rfl⟩
set_option maxRecDepth 100000 in
theorem IG (a:Option aF) (len cap:Nat) (bs:List Int) (hlen:bs.length=len) (hcap:len<=140737488351232) (w:ah) (hA:pR w a len bs):
  ap aj 253 #[af a len cap] w fun e w'=>∃rb,e=ao (am (some ⟨rb,0,none⟩))/\w.heap.size<rb/\dU w' w'.heap.size rb bs/\ag w.heap.size w w':=by
 obtain⟨i0,hi,hz0,hz1,hz2⟩:=fy nu;have hA:=ae hA;have HL:=ae hlen;clear hlen;have HN:=yr HL;have H1:=yt (bs:=bs);go_enter func253,ntmps253;go_wp2_with (first | (at_make;refine wpList_make_full _ rfl _ _ 76 rfl w.heap.size 5 i0 (ab ay 0) 1 Tryz.underlying76 hi hz0 hz1 ac ac _ _ len rfl rfl rfl rfl (by rw[hz2];omega) (by unfold aY;omega) (by simp) ?_;intro w1 hown1 hgrow1;obtain⟨HB,HR,HP⟩:=yq HL hA hown1 hgrow1;clear hown1 hgrow1) | (with_reducible refine wpList_copy_splice rfl (.tmp 7) (.tmp 8) 76 76 rfl 5 Tryz.underlying76 rA _ _ len len len cap rfl rfl w.heap.size 0 (bg len (Value.int ay 0)) 5 HR.out (bs.map (Value.int ay)) HN.out HP.out (by rw[HN.out];simp) H1.out w.heap.size w HB.out (aG _) ?_;intro w2 hg2 hB2));have hsz:w.heap.size<w2.heap.size:=(bL.1 hg2.out).1;have hcells:∀j,j<bs.length->w2.cell? ⟨w.heap.size,0+j,none⟩=some (ab ay (bs[j]?.getD 0)):=by
  intro j hj;rw[dq _ _ _ _ _ _ hg2.out,yj _ _ (by rw[iq,dV,HL.out])];simp[hj]
 have HZ:=ae hsz;have HC:=ae hcells;clear hsz hcells;go_ret;refine⟨_,rfl,HZ.out, ?_,hB2.alloc (jt HZ.out) _⟩;have e:=HL.out;subst e;exact⟨w.heap.size,0,_,dD _ _ _,aG _,by unfold aY;omega,by have:=HZ.out;simp;omega,fun j hj=>((gj (Below.heap_alloc w2 _ _ HZ.out)).trans (HC.out j hj)),by simp,aG _⟩
theorem vw (v:ak) (bs:List Int) (w:ah) (hv:Sl ay w v bs) (hcap:bs.length<=140737488351232):
  ap aj 253 #[v] w fun e w'=>∃rb,e=ao (am (some ⟨rb,0,none⟩))/\w.heap.size<rb/\dU w' w'.heap.size rb bs/\ag w.heap.size w w':=by
 obtain⟨a,cap,rfl,hl,_⟩:=pR.of_sl hv;exact IG a bs.length cap bs rfl hcap w hl
theorem dU.next {w:ah} {N rb b off cap:Nat} {bs:List Int} {k:Nat} (hb:Boxed w rb 370 (af (some ⟨b,off,none⟩) bs.length cap)) (h1:bs.length<=cap) (h2:cap<=aY) (h3:b<N)
  (h4:∀j,j<bs.length->w.cell? ⟨b,off+j,none⟩=some (ab ay (bs[j]?.getD 0))) (hk:k<=bs.length) (h5:rb<N/\N<=w.heap.size):
  (dU (w.setCell ⟨rb,0,none⟩ (af (some ⟨b,if k=cap then off else off+k,none⟩) (bs.length - k) (cap - k))) N rb (bs.drop k))/\
  (∀j,j<bs.length->(w.setCell ⟨rb,0,none⟩ (af (some ⟨b,if k=cap then off else off+k,none⟩) (bs.length - k) (cap - k))).cell? ⟨b,off+j,none⟩=some (ab ay (bs[j]?.getD 0)))/\
  w.grownBy (w.setCell ⟨rb,0,none⟩ (af (some ⟨b,if k=cap then off else off+k,none⟩) (bs.length - k) (cap - k))) (some rb):=by
 have hg:=grownBy_setCell' w rb (af (some ⟨b,if k=cap then off else off+k,none⟩) (bs.length - k) (cap - k));have hcells:∀j,j<bs.length->(w.setCell ⟨rb,0,none⟩ (af (some ⟨b,if k=cap then off else off+k,none⟩) (bs.length - k) (cap - k))).cell? ⟨b,off+j,none⟩=some (ab ay (bs[j]?.getD 0)):=by
  intro j hj;have hne:b≠rb:=by
   rintro rfl;have h5:=h4 j hj;rw[dq _ _ _ _ _ _ hb]at h5;by_cases e:off+j=0
   ·rw[e]at h5;simp at h5
   ·rw[Array.getElem?_eq_none (by simp;omega)]at h5;cases h5
  exact(gj (hg.block b (bq h3 h5.2) (fun e=>hne (by cases e;rfl)))).trans (h4 j hj)
 refine⟨⟨b,if k=cap then off else off+k,cap - k, ?_,by rw[dm];omega,by omega,h3, ?_,h5.1,bm h5.2 hg.size⟩,hcells,hg⟩
 ·rw[dm];exact hb.set _
 ·intro j hj;rw[dm]at hj;have e:(if k=cap then off else off+k)+j=off+(k+j):=by rw[if_neg (by omega)];omega
  rw[e,uS];exact hcells (k+j) (by omega)
theorem dU.kept {w w':ah} {N rb:Nat} {bs:List Int} {row:Option Nat} (h:dU w N rb bs) (hg:w.grownBy w' row) (hr:∀r,row=some r->N<=r):dU w' N rb bs:=by
 obtain⟨b,off,cap,h0,h1,h2,h3,h4,h5,h6⟩:=h;exact⟨b,off,cap,h0.kept hg (fun e=>by have:=hr _ e.symm;omega),h1,h2,h3,fun j hj=>(gj (hg.block b (by omega) (fun e=>by have:=hr _ e.symm;omega))).trans (h4 j hj),h5,bm h6 hg.size⟩
theorem dU.below {w w':ah} {N rb:Nat} {bs:List Int} (h:dU w N rb bs) (hg:w.grownBy w' none):dU w' N rb bs:=h.kept hg (fun r e=>by cases e)
theorem qh {N:Nat} (rb:Nat) (bs:List Int) (k:Nat) (w:ah) (hr:dU w N rb bs) (hB:aP bs) (hk:k<=bs.length):
  ap aj 287 #[am (some ⟨rb,0,none⟩),ab ac (k:Int)] w fun e w'=>
   e=ao (aQ #[ab .u64 (bM (bs.take k)),.bool true])/\dU w' N rb (bs.drop k)/\w.grownBy w' (some rb):=by
 obtain⟨b,off,cap,h0,h1,h2,h3,h4,h5⟩:=hr;obtain⟨r1,r2,r3⟩:=dU.next h0 h1 h2 h3 h4 hk h5;obtain⟨W,hW⟩:∃W,w.setCell ⟨rb,0,none⟩ (af (some ⟨b,if k=cap then off else off+k,none⟩) (bs.length - k) (cap - k))=W:=⟨_,rfl⟩;have hl:pR W (some ⟨b,off,none⟩) k (bs.take k):=by
  rw[←hW];exact aD ⟨b,off,rfl,bq h3 (bm h5.2 r3.size),fun j hj=>by rw[rB bs k j hj];exact r2 j (by omega)⟩
 have hn:ap aj 300 #[am (some ⟨rb,0,none⟩),ab ac (k:Int)] w fun e w'=>e=ao (aQ #[af (some ⟨b,off,none⟩) k cap,.bool true])/\w'=W:=by
  rw[←hW];exact zF rb b off bs.length cap k w h0 hk h1 h2
 rw[hW]at r1 r3;have hg:=Ip (some ⟨b,off,none⟩) k cap (bs.take k) (by rw[dj];omega) (by unfold aY at h2;omega) W hl (hB.take k);have HG:=ae hg;have HC:=ae hn;have R1:=ae r1;have R3:=ae r3;clear h0 h1 h2 h3 h4 h5 hk hB hl r1 r2 r3 hW hn hg;go_enter func287,ntmps287;go_wp2_with fail;refine HC.out.mono ?_;rintro e w' ⟨rfl,rfl⟩;go_wp2_with fail;refine HG.out.mono ?_;rintro e w' ⟨rfl,hb⟩;have HB:=ae hb;clear hb;go_wp2;go_ret2;exact⟨rfl,R1.out.below (dS HB.out none),lN R3.out (dS HB.out _)⟩
set_option maxRecDepth 100000 in
theorem vy {N:Nat} (rb:Nat) (bs:List Int) (k:Nat) (w:ah) (hr:dU w N rb bs) (hk:k<=bs.length) (hcap:bs.length<=140737488351232):
  ap aj 288 #[am (some ⟨rb,0,none⟩),ab ac (k:Int)] w fun e w'=>
   ∃g,e=ao (aQ #[af (some ⟨g,0,none⟩) k k,.bool true])/\w.heap.size<=g/\w'.heap[g]? =some (an ((bs.take k).map (Value.int ay)).toArray 5 (0,0))/\dU w' N rb (bs.drop k)/\w.grownBy w' (some rb):=by
 obtain⟨b,off,cap,h0,h1,h2,h3,h4,h5⟩:=hr;obtain⟨r1,r2,r3⟩:=dU.next h0 h1 h2 h3 h4 hk h5;obtain⟨W,hW⟩:∃W,w.setCell ⟨rb,0,none⟩ (af (some ⟨b,if k=cap then off else off+k,none⟩) (bs.length - k) (cap - k))=W:=⟨_,rfl⟩;have hl:pR W (some ⟨b,off,none⟩) k (bs.take k):=by
  rw[←hW];exact aD ⟨b,off,rfl,bq h3 (bm h5.2 r3.size),fun j hj=>by rw[rB bs k j hj];exact r2 j (by omega)⟩
 have hsz:W.heap.size=w.heap.size:=by rw[←hW];simp
 have hn:ap aj 300 #[am (some ⟨rb,0,none⟩),ab ac (k:Int)] w fun e w'=>e=ao (aQ #[af (some ⟨b,off,none⟩) k cap,.bool true])/\w'=W:=by
  rw[←hW];exact zF rb b off bs.length cap k w h0 hk h1 h2
 rw[hW]at r1 r3;obtain⟨i0,hi,hz0,hz1,hz2⟩:=fy nu;have HL0:Hid ((bs.take k).length=k):=by show _=_;rw[dj];omega
 have hA:=ae hl;have HN:=yr HL0;have H1:=yt (bs:=bs.take k);have HC:=ae hn;have R1:=ae r1;have R3:=ae r3;have HS:=ae hsz;have hk1:k<=140737488351232:=by omega
 clear h0 h1 h2 h3 h4 h5 hk hl r1 r2 r3 hW hn hsz hcap;go_enter func288,ntmps288;go_wp2_with fail;refine HC.out.mono ?_;rintro e w' ⟨rfl,rfl⟩;go_wp2_with (first | (at_make;refine wpList_make_full _ rfl _ _ 76 rfl w'.heap.size 5 i0 (ab ay 0) 1 Tryz.underlying76 hi hz0 hz1 ac ac _ _ k rfl rfl rfl rfl (by rw[hz2];omega) (by unfold aY;omega) (by simp) ?_;intro w1 hown1 hgrow1;obtain⟨HB,HR,HP⟩:=yq HL0 hA hown1 hgrow1;clear hown1 hgrow1) | (with_reducible refine wpList_copy_splice rfl (.tmp 19) (.tmp 20) 76 76 rfl 5 Tryz.underlying76 rA _ _ k k k cap rfl rfl w'.heap.size 0 (bg k (Value.int ay 0)) 5 HR.out ((bs.take k).map (Value.int ay)) HN.out HP.out (by rw[HN.out];simp) H1.out w'.heap.size w' HB.out (aG _) ?_;intro w2 hg2 hB2));go_ret2;have hB2':=hB2;have e2:splice (bg k (Value.int ay 0)) 0 ((bs.take k).map (Value.int ay))=(bs.take k).map (Value.int ay):=yj _ _ (by rw[iq,dV,HL0.out]);have h2:=hg2.out;rw[e2]at h2;exact⟨_,rfl,Nat.le_of_eq HS.out.symm,by rw[←List.map_take];exact h2,R1.out.below (dS hB2 none),lN R3.out (dS hB2 _)⟩
theorem dU.not_row {w:ah} {N rb:Nat} {bs:List Int} (h:dU w N rb bs) {base n:Nat} {v:ak} {xs:List ak} (hr:w.ownsRow base 5 1 v n xs):v.ownBlock≠some rb:=by
 obtain⟨b,off,cap,h0,_⟩:=h;exact(h0.not_row (by decide) hr).symm
end
section
attribute [-simp] isAgg51 zeroValue51 isAgg205 zeroValue205 isAgg304 zeroValue304
attribute [-go_sem] aE aL
attribute [local go_sem] bC bD dz eK eL eM sy sB
theorem pf {w x:ah} {B:Nat} {u:List ak} {z:Array ak} (hw:x.heap[B]? =some (an z 304 (0,0))) (hz:z.size=51) (hB:w.heap.size<=B) (hb:ag w.heap.size w x) (hu:u.length=51) (h1:∀v ∈ u,v.oneCell'=true):
  ∃x',(aL 304 ⟨B,0,none⟩ (al u.toArray)).run aj x=.ok () x'/\(aE 304 ⟨B,0,none⟩).run aj x'=.ok (al u.toArray) x'/\ag w.heap.size w x':=by
 have ht:x.there B 0 51:=kD hw 0 51 (by rw[hz];exact aG _);have hs:=IF ht hu h1;exact⟨_,hs,pd (kz x _ 0 u (by rw[hu];exact ht)) hu,hb.trans (kn hB _ _ _)⟩
theorem sC {y:Int}:bM [y]=y:=by
 show ju [y] 1=y;simp[ju]
theorem IH (bs:List Int) (hb:aP bs) (hl:bs.length=64) (w:ah):
  ap aj 268 #[al (aw bs).toArray] w fun e w'=>e=ao (al (Sct.of bs).cells.toArray)/\ag w.heap.size w w':=by
 obtain⟨W1,hW1⟩:=w9nm (w.alloc (an (aw bs).toArray 51));have hB1:ag w.heap.size w W1:=by rw[←hW1];exact(aI _ _).alloc (aG _) _
 have hz1:W1.heap.size=w.heap.size+1:=by rw[←hW1];simp
 have hr1:W1.heap[w.heap.size]? =some (an (aw bs).toArray 51 (0,0)):=by rw[←hW1];exact cD w _
 obtain⟨W,hW⟩:=w9nm (W1.alloc (an dF.toArray 304));have hB2:ag W1.heap.size W1 W:=by rw[←hW];exact(aI _ _).alloc (aG _) _
 have HB:w9h w W:=hB1.trans (hB2.mono hB1.size);have hr:=(hB2.block _ (by omega)).trans hr1;have HR2:Hid (W.heap[w.heap.size+1]? =some (an dF.toArray 304 (0,0))):=by
  have:=cD W1 (an dF.toArray 304);rw[hW,hz1]at this;exact this
 have HZ:Hid (W.heap.size=w.heap.size+2):=by show _=_;rw[←hW,bO,hz1]
 have HS:Hid (Sl ay W (af (some ⟨w.heap.size,0,none⟩) 64 64) bs):=by
  have:=si (jg hr) (by have:=HZ.out;omega) (by rw[hl];simp[aY]);rw[hl]at this;exact this
 have HOK:=ae (mU hb hl);have HIX:=ae (zv hb hl);have HBS:=ae hb;have HL:=ae hl;have e0:bM (bs.take 1)=(Sct.of bs).mark:=by rw[zu (by omega),sC];rfl
 have e1:bM ((bs.drop 1).take 4)=(Sct.of bs).seq:=rfl;have e2:bM ((bs.drop 5).take 2)=(Sct.of bs).index:=rfl;obtain⟨p,hp⟩:=w9nm (Sct.of bs);have e3:(bs.drop 7).take 48=p.body:=by rw[←hp];rfl
 rw[hp]at e0 e1 e2 HOK HIX ⊢;obtain⟨mk,hmk⟩:=w9nm p.mark;obtain⟨sq,hsq⟩:=w9nm p.seq;obtain⟨ix,hix⟩:=w9nm p.index;rw[hmk]at e0;rw[hsq]at e1;rw[hix]at e2;have E0:=ae e0;have E1:=ae e1;have E2:=ae e2;have E3:=ae e3;have EC:Hid (p.cells=ab ay mk:: ab aO sq:: ab ac ix::aw p.body):=by show _=_;rw[←hmk,←hsq,←hix];rfl
 have m0:0<=mk:=by rw[←hmk];exact HOK.out.mark.1
 have m1:mk<256:=by rw[←hmk];exact HOK.out.mark.2
 have s0:0<=sq:=by rw[←hsq];exact HOK.out.seq.1
 have s1:sq<4294967296:=by rw[←hsq];exact HOK.out.seq.2
 have i0:0<=ix:=by rw[←hix];exact HIX.out.1
 have i1:ix<=65535:=by rw[←hix];exact HIX.out.2
 clear hr hr1 hB1 hB2 hb hl e0 e1 e2 e3 hmk hsq hix hp HIX;go_enter func268,ntmps268;go_wp2_with fail;go_at_call 253;refine(vw _ bs W HS.out (by rw[HL.out];omega)).mono ?_;rintro e x1 ⟨rb,rfl,hrb,hR,hb⟩;obtain⟨N,hN⟩:=w9nm x1.heap.size;rw[hN]at hR;have HRB:Hid (w.heap.size<=rb):=bm HB.out.size (jt hrb);have R1:=ae hR;have K1:w9h W x1:=hb;have HW:Hid (W.heap.size<=rb):=jt hrb;clear hR hb hrb hW hW1 hN HRB;go_wp2_with fail;go_at_call 287;refine(qh rb bs 1 x1 R1.out HBS.out (by rw[HL.out];omega)).mono ?_;rintro e x2 ⟨rfl,hR,hg⟩;rw[E0.out];have R2:=ae hR;have K2:w9h W x2:=K1.out.grown hg K1.out.size (fun k e=>by cases e;exact HW.out);clear hR hg;go_wp2_with fail;go_at_call 287;refine(qh rb (bs.drop 1) 4 x2 R2.out (HBS.out.drop 1) (by rw[dm,HL.out];omega)).mono ?_;rintro e x3 ⟨rfl,hR,hg⟩;rw[E1.out];rw[ja]at hR;have R3:=ae hR;have K3:w9h W x3:=K2.out.grown hg K2.out.size (fun k e=>by cases e;exact HW.out);clear hR hg;go_wp2_with fail;go_at_call 287;refine(qh rb (bs.drop 5) 2 x3 R3.out (HBS.out.drop 5) (by rw[dm,HL.out];omega)).mono ?_;rintro e x4 ⟨rfl,hR,hg⟩;rw[E2.out];rw[ja]at hR;have R4:=ae hR;have K4:w9h W x4:=K3.out.grown hg K3.out.size (fun k e=>by cases e;exact HW.out);clear hR hg;go_wp2_with fail;go_at_call 288;refine(vy rb (bs.drop 7) 48 x4 R4.out (by rw[dm,HL.out];omega) (by rw[dm,HL.out];omega)).mono ?_;rintro e x5 ⟨g,rfl, -,hrow,hR,hg⟩;rw[E3.out]at hrow;have K5:w9h W x5:=K4.out.grown hg K4.out.size (fun k e=>by cases e;exact HW.out);have S5:Hid (Sl ay x5 (af (some ⟨g,0,none⟩) 48 48) p.body):=by
  have:=ms hrow (by rw[HOK.out.len];simp[aY]);rw[HOK.out.len]at this;exact this
 clear hrow hR hg
 obtain⟨x6,hx6⟩:=w9nm (x5.alloc (an (Value.int ay mk:: ab aO sq:: ab ac ix::aw (bg 48 0)).toArray 304));have ST1:(aL 304 ⟨x5.heap.size,0,none⟩ (al (Value.int ay mk:: ab aO sq:: ab ac ix::aw (bg 48 0)).toArray)).run aj (x5.alloc (an dF.toArray 304))=.ok () x6:=by
  rw[←hx6];exact sw nK (by simp[aw]) (Sct.cells_one ⟨mk,sq,ix,bg 48 0⟩)
 have ST:(aL 304 ⟨x5.heap.size,0,none⟩ (al (((dF.set 0 (ab ay mk)).set 1 (ab aO sq)).set 2 (ab ac ix)).toArray)).run aj (x5.alloc (an dF.toArray 304))=.ok () x6:=ST1;have r6:x6.heap[x5.heap.size]? =some (an (Value.int ay mk:: ab aO sq:: ab ac ix::aw (bg 48 0)).toArray 304 (0,0)):=by rw[←hx6];exact cD x5 _
 have b6:ag x5.heap.size x5 x6:=by rw[←hx6];exact(aI _ _).alloc (aG _) _
 have K6:=w9bt K5 b6;have t6:x6.there x5.heap.size 3 48:=kD r6 3 48 (by simp[aw]);have RC0:=qe (B:=x5.heap.size) (o:=3) (dLen:=48) (dCap:=48) 3 (S5.out.below b6) (by rw[HOK.out.len];omega) (by rw[HOK.out.len];exact t6);obtain⟨x7,hx7⟩:=w9nm (x6.setCells x5.heap.size 3 (aw p.body));rw[hx7,HOK.out.len]at RC0;have K7:Hid (ag W.heap.size W x7):=by rw[←hx7];exact K6.out.trans ((kn (N:=W.heap.size) K5.out.size _ _ _).mono (aG _))
 have ra7:x7.rangeAt x5.heap.size 0 p.cells:=by
  rw[EC.out,show(Value.int ay mk:: ab aO sq:: ab ac ix::aw p.body)= [ab ay mk,ab aO sq,ab ac ix]++aw p.body from rfl,←hx7];refine sj ?_ (kz x6 _ 3 _ (by rw[cw,HOK.out.len];exact t6));refine ml (fun j x hx=> ?_) _ 3 _ (aD (aA (by simp)));rw[dq _ _ _ _ _ _ r6]
  match j,hx with
  | 0,hx=>simpa using hx
  | 1,hx=>simpa using hx
  | 2,hx=>simpa using hx
  | j+3,hx=>simp at hx
 have L7:=ae (pd ra7 (Sct.cells_length HOK.out.len));obtain⟨x8,st,ld,hb8⟩:=pf (w:=w) (x:=x7) (B:=w.heap.size+1) (u:=p.cells) ((K7.out.block _ (by have:=HZ.out;omega)).trans HR2.out) nK (Nat.le_succ _) (HB.out.trans (K7.out.mono HB.out.size)) (Sct.cells_length HOK.out.len) (Sct.cells_one _);have HB8:=ae hb8;have HLD:=ae ld;clear hb8 ld ra7 t6 r6 b6 ST1 hx6 hx7;go_wp2_with fail;clear ST RC0;rw[L7.out];go_wp2_with fail;exact bo (ev rfl rfl HLD.out) rfl ⟨rfl,HB8.out⟩
end
section
set_option maxRecDepth 100000 in
theorem II (n:Nat) (hn:n<=1000000) (w:ah):
  ap aj 247 #[af none 0 0,ab ac (n:Int)] w fun e w'=>∃v,e=ao v/\w'.ownsRow w.heap.size 5 1 v 0 []/\ag w.heap.size w w':=by
 obtain⟨i0,hi,hz0,hz1,hz2⟩:=fy nu;have g0:¬((n:Int)<0):=by omega
 have g1:decide ((n:Int)<0)=false:=by simp
 by_cases h:0<n
 ·have g2:decide ((n:Int)>0)=true:=by simp;omega
  have hr:=fun ty=>Lib.run_append_grow_zeros (P:=aj) w 76 3 ty 5 i0 (ab ay 0) ac ac Tryz.underlying76 Tryz.underlying3 hi hz0 none 0 0 [] (run_firstCells_none w.drew i0.size 0 0 0) n h (by omega) (by omega) (by omega) (by rw[hz2];omega)
   (by rw[hz2];exact growslice_fits (by omega) (by omega))
  have hc1:=grownCap_ge w (0+n) 0 5;have hc2:=grownCap_le_maxLen w (0+n) 0 5 (by unfold aY;omega);obtain⟨G,hG⟩:=w9nm (grownCap w (0+n) 0 5);rw[hG]at hr hc1 hc2;obtain⟨W,hW⟩:=w9nm (w.drew.alloc (an (([]:List ak).toArray++Builtin.zeroCells (Value.int ay 0).cells n++Builtin.zeroCells (Value.int ay 0).cells (G - (0+n))) 5));rw[hW]at hr;have HO:Hid (W.ownsRow w.heap.size 5 1 (af (some ⟨w.heap.size,0,none⟩) 0 G) 0 []):=by
   refine⟨by simp,aD ⟨w.heap.size,G,_,rfl,aG _,by rw[←hW];exact cD w.drew _,bc _,hc2, ?_,by simp⟩⟩;simp[size_zeroCells,Value.cells];omega
  have HB:Hid (ag w.heap.size w W):=by rw[←hW];exact((aI _ w).drew).alloc (aG _) _
  have HR:=ae hr;have g3:G<=9223372036854775807:=by unfold aY at hc2;omega
  clear hr hW hc2 hG hz0 hz1 hz2 hi;go_enter func247,ntmps247;go_wp2_with (at_builtin;refine Lib.wpList_append_run _ rfl _ _ _ _ rfl _ _ rfl rfl _ _ (HR.out _) ?_);go_ret;exact⟨_,rfl,HO.out,HB.out⟩
 ·obtain rfl:n=0:=by omega
  go_enter func247,ntmps247;go_wp2;go_ret;exact⟨_,rfl,jc _ _ _ _,aI _ _⟩
def ph (w:ah) (v:ak) (bss:List (List Int)):Prop:=
 ∃B cap,v=af (some ⟨B,0,none⟩) bss.length cap/\bss.length<=cap/\cap<=aY/\B<w.heap.size/\∀k,k<bss.length->∃u,w.cell? ⟨B,k,none⟩=some u/\Sl ay w u (bss[k]?.getD [])
theorem IJ (bss:List (List Int)) {k:Nat} (h:k<bss.length):bss.take (k+1)=bss.take k++ [bss[k]?.getD []]:=by
 rw[List.take_succ_eq_append_getElem h,aZ h]
 rfl
theorem vz (bss:List (List Int)) {k:Nat} (h:k<bss.length):(bss.take (k+1)).flatten=(bss.take k).flatten++bss[k]?.getD []:=by
 rw[IJ bss h];simp
theorem vA (bss:List (List Int)) (k:Nat):(bss.take k).flatten.length<=bss.flatten.length:=by
 conv=>rhs;rw[←lK k bss]
 rw[lL,cE];omega
theorem sD (v:ak) (bss:List (List Int)) (w:ah) (hv:ph w v bss) (hl:bss.flatten.length<=1000000):
  ap aj 173 #[v] w fun e w'=>∃v,e=ao v/\w'.ownsRow w.heap.size 5 1 v bss.flatten.length (aw bss.flatten)/\ag w.heap.size w w':=by
 obtain⟨B,cap,rfl,h1,h2,h3,h4⟩:=hv;obtain⟨n,hn⟩:=w9nm bss.length;have HN:=ae hn;have HL:=ae hl;rw[hn]at h1 h4 ⊢;have H4:=ae h4;have hm:(n:Int)<=9223372036854775807:=by unfold aY at h2;omega
 clear hn hl h4 h2;go_enter func173,ntmps173;go_wp2_with fail;go_loop [3,11] (fun s i=>∃k:Nat,k<=n/\i=ab ac k/\s=ab ac (((bss.take k).flatten.length:Nat):Int)) (fun _ i=>n - (aS i).toNat)
 case atStart=>exact⟨0,bc _,rfl,rfl⟩
 case round=>
  obtain⟨k,hk,rfl,rfl⟩:=hrel;obtain⟨m,hm0⟩:=w9nm ((bss.take k).flatten.length);rw[hm0];by_cases hlt:k<n
  ·have hlt':decide ((k:Int)< (n:Int))=true:=by simp;omega
   obtain⟨u,c0,⟨a,cp,rfl, -⟩⟩:=H4.out k hlt;obtain⟨q,hq⟩:=w9nm ((bss[k]?.getD []).length);rw[hq]at c0;have hs:(bss.take (k+1)).flatten.length=m+q:=by rw[vz bss (by rw[HN.out];exact hlt),cE,hm0,hq]
   have hb:=vA bss (k+1);have hb2:=HL.out;have g5:(m:Int)+(q:Int)<=1000000:=by omega
   have g6:decide ((m:Int)+(q:Int)<0)=false:=by simp;omega
   have HS:=ae hs;clear hs hb hb2 hq hm0;go_wp2_with fail;go_round
   case rel=>exact⟨k+1,by omega,by go_num,by rw[HS.out];simp⟩
   case measure=>simp[aS];omega
  ·have hlt':decide ((k:Int)< (n:Int))=false:=by simp;omega
   obtain rfl:k=n:=by omega
   have hmb:m<=1000000:=by rw[←hm0];exact bm (vA bss k) HL.out
   clear hm0;go_wp2_with fail;go_at_call 247;refine(II m hmb w).mono ?_;rintro e w1 ⟨v1,rfl,hO,hB⟩;have HO:=ae hO;have HB:=ae hB;clear hO hB;go_wp2_with fail;go_loopw [6,27] (fun v i wr=>∃j:Nat,j<=k/\i=ab ac j/\Hid (fM w wr v (bss.take j).flatten)/\w9h w wr) (fun _ i _=>k - (aS i).toNat)
   case atStart=>exact⟨0,bc _,rfl,HO,HB⟩
   case round=>
    obtain⟨j,hj,rfl,HO,HB⟩:=hrel;by_cases hlt:j<k
    ·have hlt':decide ((j:Int)< (k:Int))=true:=by simp;omega
     obtain⟨u,c0,hu⟩:=H4.out j hlt;have c1:wr.cell? ⟨B,j,none⟩=some u:=(HB.out.cell (p:=⟨B,j,none⟩) h3).trans c0;obtain⟨v5,x3,R3,O3,K3⟩:=HO.out.app HB.out (hu.below HB.out) (by
      rw[←cE,←vz bss (by rw[HN.out];exact hlt)];exact bm (vA bss _) HL.out)
     clear c0 hu;go_wp2_with (at_builtin;refine wpList_append_run (.tmp 31) (.tmp 32) 76 rfl rfl _ _ _ rfl rfl R3.out ?_);go_roundw
     case rel=>exact⟨j+1,by omega,by go_num,by rw[vz bss (by rw[HN.out];exact hlt)];exact O3,K3⟩
     case measure=>simp[aS];omega
    ·have hlt':decide ((j:Int)< (k:Int))=false:=by simp;omega
     obtain rfl:j=k:=by omega
     have e1:bss.take j=bss:=de (by rw[HN.out];exact aG _);rw[e1]at HO;clear e1;go_wp2_with fail;go_ret;exact⟨_,rfl,HO.out,HB.out⟩
end
section
attribute [-simp] isAgg51 zeroValue51
attribute [-go_sem] aE aL
attribute [local go_sem] bC bD fe ez
theorem vB (w:ah) (a b c d:Option aF) (la lb lc ld ca cb cc cd:Nat):
  (dh 332 4 #[(0,af a la ca),(1,af b lb cb),(2,af c lc cc),(3,af d ld cd)]).run aj w=.ok (af (some ⟨w.heap.size,0,none⟩) 4 4) (w.alloc (an #[af a la ca,af b lb cb,af c lc cc,af d ld cd] 76)):=by
 kernel_rfl
theorem vC {n:Int} (h0:0<=n) (h1:n<256):aJ n 1= [n]:=by
 show [_]=_;simp;omega
theorem sE (p:Sct) (hp:p.Ok) (w:ah):
  ap aj 264 #[al p.cells.toArray] w fun e w'=>e=ao (aQ #[al p.code.toArray,ab ac p.codeE])/\ag w.heap.size w w':=by
 obtain⟨W1,hW1⟩:=w9nm (w.alloc (an p.cells.toArray 304));have hB1:ag w.heap.size w W1:=by rw[←hW1];exact(aI _ _).alloc (aG _) _
 have hz1:W1.heap.size=w.heap.size+1:=by rw[←hW1];simp
 have hr1:W1.heap[w.heap.size]? =some (an p.cells.toArray 304 (0,0)):=by rw[←hW1];exact cD w _
 obtain⟨W,hW⟩:=w9nm (W1.alloc (an cF 51));have hB2:ag W1.heap.size W1 W:=by rw[←hW];exact(aI _ _).alloc (aG _) _
 have HB:w9h w W:=hB1.trans (hB2.mono hB1.size);have HR:Hid (W.heap[w.heap.size]? =some (an p.cells.toArray 304 (0,0))):=(hB2.block _ (by omega)).trans hr1;have HR2:Hid (W.heap[w.heap.size+1]? =some (an cF 51 (0,0))):=by
  have:=cD W1 (an cF 51);rw[hW,hz1]at this;exact this
 have HZ:Hid (W.heap.size=w.heap.size+2):=by show _=_;rw[←hW,bO,hz1]
 have HP:=ae hp;have c0:W.cell? ⟨w.heap.size,0,none⟩=some (ab ay p.mark):=dq W _ 0 _ _ _ HR.out;have c2:W.cell? ⟨w.heap.size,2,none⟩=some (ab ac p.index):=dq W _ 2 _ _ _ HR.out;have HC1:Hid (∀y:ah,ag W.heap.size W y->y.cell? ⟨w.heap.size,1,none⟩=some (ab aO p.seq)):=fun y hy=>(hy.cell (p:=⟨w.heap.size,1,none⟩) (by have:=HZ.out;show w.heap.size<_;omega)).trans (dq W _ 1 _ _ _ HR.out);have HC2:Hid (∀y:ah,ag W.heap.size W y->y.cell? ⟨w.heap.size,2,none⟩=some (ab ac p.index)):=fun y hy=>(hy.cell (p:=⟨w.heap.size,2,none⟩) (by have:=HZ.out;show w.heap.size<_;omega)).trans (dq W _ 2 _ _ _ HR.out);clear hB1 hB2 hr1 hp;obtain⟨mk,hmk⟩:=w9nm p.mark;obtain⟨sq,hsq⟩:=w9nm p.seq;obtain⟨ix,hix⟩:=w9nm p.index;have EM:=ae hmk;have ES:=ae hsq;have EI:=ae hix;rw[hmk]at c0;rw[hix]at c2 HC2;rw[hsq]at HC1;clear hmk hsq hix;by_cases hf:p.fits=true
 ·have hfx:=of_decide_eq_true hf;rw[EM.out,EI.out]at hfx;obtain⟨m1,m2,m3⟩:=hfx;have q0:(mk==0)=false:=by simpa using m1
  have q1:decide (ix<0)=false:=by simp;omega
  have q2:decide (65535<ix)=false:=by simp;omega
  have HF:=ae hf;clear hf;have hmx:=w9x
  have HI0:Hid (0<=ix):=m2;have HI1:Hid (ix<=65535):=m3;have HSB:Hid (Sl ay W (af (some ⟨w.heap.size,3,none⟩) 48 48) p.body):=by
   have:=si (bs:=p.body) (oZ (a:= [ab ay p.mark,ab aO p.seq,ab ac p.index]) (b:=aw p.body) HR.out) (by have:=HZ.out;omega) (by rw[HP.out.len];simp[aY]);rw[HP.out.len]at this;exact this
  have m0:0<=mk:=by rw[←EM.out];exact HP.out.mark.1
  have m9:mk<256:=by rw[←EM.out];exact HP.out.mark.2
  have HS0:Hid (0<=sq):=by show _<=_;rw[←ES.out];exact HP.out.seq.1
  have HS1:Hid (sq<4294967296):=by show _<_;rw[←ES.out];exact HP.out.seq.2
  have HM0:=ae m0;have HM1:=ae m9;clear m1 m2 m3;go_enter func264,ntmps264;have d0:∀y:aM W,y.1.cell? ⟨w.heap.size,0,none⟩=some (ab ay mk):=fun y=>(y.2.cell (p:=⟨w.heap.size,0,none⟩) (by have:=HZ.out;show w.heap.size<_;omega)).trans c0;have d1:∀y:aM W,y.1.cell? ⟨w.heap.size,1,none⟩=some (ab aO sq):=fun y=>HC1.out y.1 y.2;have d2:∀y:aM W,y.1.cell? ⟨w.heap.size,2,none⟩=some (ab ac ix):=fun y=>HC2.out y.1 y.2;have s0:=HS0.out;have s1:=HS1.out;have i0:=HI0.out;have i1:=HI1.out;have HPut0:Hid (∀x:ah,ap aj 174 #[ab .u64 mk,ab ac 1] x fun e w'=>∃v,e=ao v/\w'.ownsRow x.heap.size 5 1 v 1 ((aJ mk 1).map (Value.int ay))/\ag x.heap.size x w'):=fun x=>nI mk 1 x (by omega) (by omega) m0 (by omega);have HPut1:Hid (∀x:ah,ap aj 174 #[ab .u64 sq,ab ac 4] x fun e w'=>∃v,e=ao v/\w'.ownsRow x.heap.size 5 1 v 4 ((aJ sq 4).map (Value.int ay))/\ag x.heap.size x w'):=fun x=>nI sq 4 x (by omega) (by omega) s0 (by omega);have HPut2:Hid (∀x:ah,ap aj 174 #[ab .u64 ix,ab ac 2] x fun e w'=>∃v,e=ao v/\w'.ownsRow x.heap.size 5 1 v 2 ((aJ ix 2).map (Value.int ay))/\ag x.heap.size x w'):=fun x=>nI ix 2 x (by omega) (by omega) i0 (by omega);go_wp2_with fail;clear q0 q1 q2 c2 c0 hW1 hW;refine du (fun x=>∃y:aM W,x=y.1) 16 (.takes [0,1,2,4,5,6,8,9,10,12,13] (.one 3 (.one 7 (.one 11 (.one 14 (.one 15 .leaf)))))) hmx (by kernel_rfl) (by intro c x v a w h;cases x<;>exact h) ⟨⟨W.drew,(aI _ W).drew⟩,rfl⟩ ?_;repeat(rw[bu];simp only[aB,aC];go_big_quiet_step (fail);refine aV ?_)
  rw[bt];clear s0 s1 i0 i1 d0 d1 d2 m0 m9;have KD:Hid (ag W.heap.size W W.drew):=(aI _ W).drew;rw[aT];simp only[aB,aC];go_wp2_with fail;go_at_call 174;refine(HPut0.out W.drew).mono ?_;rintro e x1 ⟨v1,rfl,hrow,hb⟩;have K1:w9h W x1:=KD.out.trans hb;have hs:=Sl.of_owns (bs:=aJ mk 1) (by rw[cu];exact hrow);obtain⟨a1,n1,hv, -⟩:=id hs;rw[cu]at hv;subst hv;have S1:=ae hs;clear hrow hb hs;go_wp2_with fail;refine aN ⟨⟨x1,K1.out⟩,rfl⟩ ?_;rw[aT];simp only[aB,aC];go_wp2_with fail;go_at_call 174;refine(HPut1.out x1).mono ?_;rintro e x2 ⟨v2,rfl,hrow,hb⟩;have K2:=w9bt K1 hb;have T1:=ae (S1.out.below hb);have hs:=Sl.of_owns (bs:=aJ sq 4) (by rw[cu];exact hrow);obtain⟨a2,n2,hv, -⟩:=id hs;rw[cu]at hv;subst hv;have S2:=ae hs;clear hrow hb hs S1;go_wp2_with fail;refine aN ⟨⟨x2,K2.out⟩,rfl⟩ ?_;rw[aT];simp only[aB,aC];go_wp2_with fail;go_at_call 174;refine(HPut2.out x2).mono ?_;rintro e x3 ⟨v3,rfl,hrow,hb⟩;have K3:=w9bt K2 hb;have U1:=ae (T1.out.below hb);have U2:=ae (S2.out.below hb);have hs:=Sl.of_owns (bs:=aJ ix 2) (by rw[cu];exact hrow);obtain⟨a3,n3,hv, -⟩:=id hs;rw[cu]at hv;subst hv;have U3:=ae hs;clear hrow hb hs T1 S2;go_wp2_with fail;refine aN ⟨⟨x3,K3.out⟩,rfl⟩ ?_;rw[aT];simp only[aB,aC];obtain⟨x4,hx4⟩:=w9nm (x3.alloc (an #[af a1 1 n1,af a2 4 n2,af a3 2 n3,af (some ⟨w.heap.size,3,none⟩) 48 48] 76));have b34:ag x3.heap.size x3 x4:=by rw[←hx4];exact(aI _ _).alloc (aG _) _
  have K4:=w9bt K3 b34;have r4:x4.heap[x3.heap.size]? =some (an #[af a1 1 n1,af a2 4 n2,af a3 2 n3,af (some ⟨w.heap.size,3,none⟩) 48 48] 76 (0,0)):=by rw[←hx4];exact cD x3 _
  have BS:(dh 332 4 #[(0,af a1 1 n1),(1,af a2 4 n2),(2,af a3 2 n3),(3,af (some ⟨w.heap.size,3,none⟩) 48 48)]).run aj x3=.ok (af (some ⟨x3.heap.size,0,none⟩) 4 4) x4:=by rw[←hx4];exact vB x3 a1 a2 a3 (some ⟨w.heap.size,3,none⟩) 1 4 2 48 n1 n2 n3 48
  have SS:Hid (ph x4 (af (some ⟨x3.heap.size,0,none⟩) 4 4) [aJ mk 1,aJ sq 4,aJ ix 2,p.body]):=by
   refine⟨x3.heap.size,4,rfl,aG _,by unfold aY;omega,by rw[←hx4];simp,fun k hk=> ?_⟩;have hk':k<4:=hk
   match k,hk' with
   | 0,_=>exact⟨_,dq _ _ 0 _ _ _ r4,U1.out.below b34⟩
   | 1,_=>exact⟨_,dq _ _ 1 _ _ _ r4,U2.out.below b34⟩
   | 2,_=>exact⟨_,dq _ _ 2 _ _ _ r4,U3.out.below b34⟩
   | 3,_=>exact⟨_,dq _ _ 3 _ _ _ r4,HSB.out.below K4.out⟩
  clear b34 r4 hx4;refine dR _ _ _ rfl rfl _ _ rfl BS ?_;clear BS;go_wp2_with fail;refine aN ⟨⟨x4,K4.out⟩,rfl⟩ ?_;rw[aT];simp only[aB,aC];go_wp2_with fail;go_at_call 173;have hfl: [aJ mk 1,aJ sq 4,aJ ix 2,p.body].flatten=p.head:=by
   simp[Sct.head,EM.out,ES.out,EI.out,vC HM0.out HM1.out]
  have hcc:=sD _ _ x4 SS.out (by rw[hfl,Sct.head_length HP.out];omega);rw[hfl]at hcc;refine hcc.mono ?_;clear hcc hfl;rintro e x5 ⟨v5,rfl,hrow,hb⟩;have K5:=w9bt K4 hb;have S5:Hid (Sl ay x5 v5 p.head):=Sl.of_owns (bs:=p.head) hrow;clear hrow hb SS U1 U2 U3;go_wp2_with fail;refine aN ⟨⟨x5,K5.out⟩,rfl⟩ ?_;rw[cW];simp only[bR,bQ]
  obtain⟨x6,hx6⟩:=w9nm (x5.alloc (an cF 51));have K6:Hid (ag W.heap.size W x6):=by rw[←hx6];exact K5.out.alloc K5.out.size _
  have r6:x6.heap[x5.heap.size]? =some (an cF 51 (0,0)):=by rw[←hx6];exact cD x5 _
  have S6:Hid (Sl ay x6 v5 p.head):=by rw[←hx6];exact S5.out.below ((aI _ x5).alloc (aG _) _)
  have z6:x5.heap.size<x6.heap.size:=by rw[←hx6];simp
  have RC0:=qe (B:=x5.heap.size) (o:=0) (dLen:=64) (dCap:=64) 3 S6.out (by rw[Sct.head_length HP.out];omega) (kD r6 0 _ (by rw[Sct.head_length HP.out,gk];omega));obtain⟨x7,hx7⟩:=w9nm (x6.setCells x5.heap.size 0 (aw p.head));have K7:Hid (ag W.heap.size W x7):=by rw[←hx7];exact K6.out.trans ((kn (N:=W.heap.size) K5.out.size _ _ _).mono (aG _))
  have b57:ag x5.heap.size x5 x7:=by rw[←hx7,←hx6];exact((aI _ x5).alloc (aG _) _).trans ((kn (N:=x5.heap.size) (aG _) _ _ _).mono (aG _))
  have S7:Hid (Sl ay x7 v5 p.head):=S5.out.below b57;have z7:Hid (x5.heap.size<x7.heap.size):=by show _<_;rw[←hx7];exact bq z6 (kn (N:=0) (bc _) _ _ _).size
  have h7:Hid (x7.rangeAt x5.heap.size 0 (aw p.head)):=by
   show World.rangeAt _ _ _ _;rw[←hx7];exact kz x6 _ 0 _ (by rw[cw,Sct.head_length HP.out];exact kD r6 0 55 (by rw[gk];omega))
  have l7:Hid (x7.rangeAt x5.heap.size 63 [ab ay 0]):=by
   show World.rangeAt _ _ _ _;rw[←hx7];refine ml (fun j x hx=> ?_) _ 0 _ (by rw[cw,Sct.head_length HP.out];simp);rw[dq _ _ _ _ _ _ r6]
   match j,hx with
   | 0,hx=>simp at hx;subst hx;rfl
   | j+1,hx=>simp at hx
  have t7:Hid (x7.there x5.heap.size 55 8):=by
   show World.there _ _ _ _;rw[←hx7];exact World.there_setCells (kD r6 55 8 (by rw[gk];omega)) _ _ _
  rw[hx7,Sct.head_length HP.out]at RC0;clear hx7 z6 b57 r6 S6 K6 S5;go_wp2_with fail;have KD7:ag x7.heap.size x7 x7.drew:=(aI _ x7).drew;refine du (fun x=>∃y:aM x7,x=y.1) 5 (.takes [0,1,2] (.one 3 (.one 4 .leaf))) hmx (by kernel_rfl) (by intro c x v a w h;cases x<;>exact h) ⟨⟨x7.drew,KD7⟩,rfl⟩ ?_;repeat(rw[bu];simp only[aB,aC];go_big_quiet_step (fail);refine aV ?_)
  rw[bt,aT];simp only[aB,aC];go_wp2_with fail;go_at_call 291;refine(It v5 p.head x7.drew (S7.out.below KD7) (Sct.head_bytes HP.out)).mono ?_;rintro e x8 ⟨rfl,hb⟩;have B8:w9h x7 x8:=KD7.trans hb;obtain⟨ck,hck⟩:=w9nm (jy nG p.head);have HCK:=ae hck;have HU:=ae (Ig p.head);rw[hck];clear hck hb KD7;go_wp2_with fail;refine aN ⟨⟨x8,B8.out⟩,rfl⟩ ?_;rw[aT];simp only[aB,aC];go_wp2_with fail;go_at_call 174;refine(nI ck 8 x8 (by omega) (by omega) (by rw[←HCK.out];exact HU.out.1) (by rw[←HCK.out];exact HU.out.2)).mono ?_;rintro e x9 ⟨v9,rfl,hrow,hb⟩;have B9:=w9bt B8 hb;have K9:w9h W x9:=K7.out.trans (B9.out.mono K7.out.size);have S9:Hid (Sl ay x9 v9 (aJ ck 8)):=Sl.of_owns (bs:=aJ ck 8) (by rw[cu];exact hrow);clear hrow hb;go_wp2_with fail;refine aN ⟨⟨x9,B9.out⟩,rfl⟩ ?_;rw[cW];simp only[bR,bQ];have t9:x9.there x5.heap.size 55 8:=Ii B9.out z7.out t7.out;have RC1:=qe (B:=x5.heap.size) (o:=55) (dLen:=9) (dCap:=9) 3 S9.out (by rw[cu];omega) (by rw[cu];exact t9);obtain⟨x10,hx10⟩:=w9nm (x9.setCells x5.heap.size 55 (aw (aJ ck 8)));have K10:Hid (ag W.heap.size W x10):=by rw[←hx10];exact K9.out.trans ((kn (N:=W.heap.size) K5.out.size _ _ _).mono (aG _))
  have rb:x10.rangeAt x5.heap.size 0 (aw p.bytes):=by
   have e1:aw p.bytes=aw p.head++(aw (aJ ck 8)++ [ab ay 0]):=by
    rw[←HCK.out];simp[aw,Sct.bytes,sh]
   rw[e1];refine sj ?_ ?_
   ·rw[←hx10];exact ml (mA B9.out z7.out h7.out) _ 55 _ (aD (aA (by rw[cw,Sct.head_length HP.out];omega)))
   ·rw[cw,Sct.head_length HP.out];intro j x hx;by_cases hj:j<8
    ·rw[fS (by rw[cw,cu];exact hj)]at hx;rw[←hx10];exact kz x9 _ 55 _ (by rw[cw,cu];exact t9) j x hx
    ·rw[fv (by rw[cw,cu];omega),cw,cu]at hx;have:=ml (mA B9.out z7.out l7.out) x5.heap.size 55 (aw (aJ ck 8)) (aD (aD (by rw[cw,cu];omega))) (j - 8) x hx;rw[hx10,show 63+(j - 8)=55+j by omega]at this;exact this
  rw[hx10,cu]at RC1;have L10:(aE 51 ⟨x5.heap.size,0,none⟩).run aj x10=.ok (al (aw p.bytes).toArray) x10:=gl rb (by rw[cw];exact Sct.bytes_length HP.out);obtain⟨x11,st,ld,hb11⟩:=vo (w:=w) (x:=x10) (B:=w.heap.size+1) (u:=aw p.bytes) ((K10.out.block _ (by have:=HZ.out;omega)).trans HR2.out) gk (Nat.le_succ _) (HB.out.trans (K10.out.mono HB.out.size)) (gQ (Sct.bytes_length HP.out));have HB11:=ae hb11;have HLD:=ae ld;clear hx10 rb hb11 ld t9;go_wp2_with fail;have hE:p.code=aw p.bytes/\p.codeE=0:=by unfold Sct.code Sct.codeE;rw[if_pos HF.out,if_pos HF.out];exact⟨rfl,rfl⟩
  rw[hE.1,hE.2];exact bo (eH rfl rfl HLD.out) rfl ⟨rfl,HB11.out⟩
 ·have hE:Hid (p.code=bf 0/\p.codeE=11):=by refine(?_:_/\_);unfold Sct.code Sct.codeE;rw[if_neg hf,if_neg hf];exact⟨rfl,rfl⟩
  have hq:(mk==0)=true\/((mk==0)=false/\decide (ix<0)=true)\/((mk==0)=false/\decide (ix<0)=false/\decide (65535<ix)=true):=by
   have hfx:¬(p.mark≠0/\0<=p.index/\p.index<=65535):=fun h=>hf (decide_eq_true h);rw[EM.out,EI.out]at hfx;by_cases h0:mk=0
   ·exact aA (by simpa using h0)
   ·by_cases h1:ix<0
    ·exact aD (aA ⟨by simpa using h0,by simpa using h1⟩)
    ·exact aD (aD ⟨by simpa using h0,by simpa using h1,by simp;omega⟩)
  obtain⟨x2,st,ld,hb2⟩:=vo HR2.out gk (Nat.le_succ _) HB.out (eV 0);have st':(aL 51 ⟨w.heap.size+1,0,none⟩ (al cF)).run aj W=.ok () x2:=st;have HB2:=ae hb2;clear hf st hb2;rcases hq with q0 | ⟨q0,q1⟩ | ⟨q0,q1,q2⟩;all_goals
   go_enter func264,ntmps264;go_wp2_with fail;rw[hE.out.1,hE.out.2];exact bo (eH rfl rfl ld) rfl ⟨rfl,HB2.out⟩
end
section
attribute [-simp] isAgg51 zeroValue51 isAgg254 zeroValue254
attribute [-go_sem] aE aL
attribute [local go_sem] bC bD mW Iu Iv Iw Iy
theorem zG {a b:List Int} (h:aw a=aw b):a=b:=by
 have e:=congrArg (List.map aS) h;unfold aw at e;rw[iX,iX,show aS ∘ Value.int ay=id from by funext x;rfl]at e
 simpa using e
theorem zH:∀v ∈ dF,v.oneCell'=true:=Sct.cells_one oY
theorem IK {bs:List Int} (hb:aP bs) (hl:bs.length=64):
  ((Sct.of bs).code=bf 0/\(Sct.of bs).codeE=11/\ed bs=oY/\lk bs=11)\/
  (∃c,(Sct.of bs).code=c/\cz c/\jh c (aw bs)=false/\(Sct.of bs).codeE=0/\ed bs=oY/\lk bs=11)\/
  (∃c,(Sct.of bs).code=c/\cz c/\jh c (aw bs)=true/\(Sct.of bs).codeE=0/\ed bs=Sct.of bs/\lk bs=0):=by
 unfold Sct.code Sct.codeE ed lk fi;by_cases hf:(Sct.of bs).fits=true
 ·by_cases hq:(Sct.of bs).bytes=bs
  ·refine aD (aD ⟨_,rfl, ?_, ?_, ?_⟩)
   ·rw[if_pos hf];exact gQ (Sct.bytes_length (mU hb hl))
   ·rw[if_pos hf,hq];exact ns.2 rfl
   ·simp[hf,hq]
  ·refine aD (aA ⟨_,rfl, ?_, ?_, ?_⟩)
   ·rw[if_pos hf];exact gQ (Sct.bytes_length (mU hb hl))
   ·rw[if_pos hf];exact yh (fun h=>hq (zG h))
   ·simp[hf,hq]
 ·exact aA (by simp[hf])
end
section
attribute [-simp] isAgg51 zeroValue51 isAgg205 zeroValue205 isAgg304 zeroValue304
attribute [-go_sem] aE aL
attribute [local go_sem] bC bD dz eK eL eM sy sB
theorem vD (bs:List Int) (hb:aP bs) (hl:bs.length=64) (w:ah):
  ap aj 232 #[al (aw bs).toArray] w fun e w'=>e=ao (aQ #[al (ed bs).cells.toArray,ab ac (lk bs)])/\ag w.heap.size w w':=by
 obtain⟨W1,hW1⟩:=w9nm (w.alloc (an (aw bs).toArray 51));have hB1:ag w.heap.size w W1:=by rw[←hW1];exact(aI _ _).alloc (aG _) _
 have hz1:W1.heap.size=w.heap.size+1:=by rw[←hW1];simp
 have hr1:W1.heap[w.heap.size]? =some (an (aw bs).toArray 51 (0,0)):=by rw[←hW1];exact cD w _
 obtain⟨W,hW⟩:=w9nm (W1.alloc (an dF.toArray 304));have hB2:ag W1.heap.size W1 W:=by rw[←hW];exact(aI _ _).alloc (aG _) _
 have HB:w9h w W:=hB1.trans (hB2.mono hB1.size);have HR:Hid (W.heap[w.heap.size]? =some (an (aw bs).toArray 51 (0,0))):=(hB2.block _ (by omega)).trans hr1;have HR2:Hid (W.heap[w.heap.size+1]? =some (an dF.toArray 304 (0,0))):=by
  have:=cD W1 (an dF.toArray 304);rw[hW,hz1]at this;exact this
 have HZ:Hid (W.heap.size=w.heap.size+2):=by show _=_;rw[←hW,bO,hz1]
 have HL:=ae hl;have HOK:=ae (mU hb hl);have HWY:=ae (IK hb hl);have HF:=ae (IH bs hb hl W);have ZZ:Hid (dF.length=51):=rfl;have CL:Hid ((Sct.of bs).cells.length=51):=Sct.cells_length HOK.out.len;have L0:(aE 51 ⟨w.heap.size,0,none⟩).run aj W=.ok (al (aw bs).toArray) W:=gl (jg HR.out) (by rw[cw];exact hl);have H0:Hid (w.heap.size<W.heap.size):=by show _<_;have:=HZ.out;omega
 clear hr1 hB1 hB2 hb hl;go_enter func232,ntmps232;go_wp2_with fail;clear L0 hW hW1;go_at_call 268;refine HF.out.mono ?_;rintro e x1 ⟨rfl,hb⟩;have K1:w9h W x1:=hb;obtain⟨x2,hx2⟩:=w9nm (x1.alloc (an (Sct.of bs).cells.toArray 304));have ST2:(aL 304 ⟨x1.heap.size,0,none⟩ (al (Sct.of bs).cells.toArray)).run aj (x1.alloc (an dF.toArray 304))=.ok () x2:=by
  rw[←hx2];exact sw nK CL.out (Sct.cells_one _)
 have r2:x2.heap[x1.heap.size]? =some (an (Sct.of bs).cells.toArray 304 (0,0)):=by rw[←hx2];exact cD x1 _
 have RA2:=ae (jg r2);have H2:Hid (x1.heap.size<x2.heap.size):=by show _<_;rw[←hx2];simp
 have K2:Hid (ag W.heap.size W x2):=by rw[←hx2];exact K1.out.alloc K1.out.size _
 have L2:(aE 304 ⟨x1.heap.size,0,none⟩).run aj x2=.ok (al (Sct.of bs).cells.toArray) x2:=pd RA2.out CL.out;clear hb r2 hx2;go_wp2_with fail;try rw[L2]
 try go_wp2_with fail
 clear ST2 L2;go_at_call 264;refine(sE (Sct.of bs) HOK.out x2).mono ?_;rintro e x4 ⟨rfl,hb⟩;have K4:=w9bt K2 hb;have H4:Hid (x1.heap.size<x4.heap.size):=bq H2.out hb.size;have RA4:Hid (x4.rangeAt x1.heap.size 0 (Sct.of bs).cells):=mA hb H2.out RA2.out;clear hb;obtain⟨x5,hx5⟩:=w9nm (x4.alloc (an cF 51));rcases HWY.out with⟨hc,he,hS,hE⟩ | ⟨c,hc,hC,hA,he,hS,hE⟩ | ⟨c,hc,hC,hA,he,hS,hE⟩
 ·rw[hc,he];obtain⟨x6,hx6⟩:=w9nm (x4.alloc (an (bf 0).toArray 51));have ST5:(aL 51 ⟨x4.heap.size,0,none⟩ (al (bf 0).toArray)).run aj x5=.ok () x6:=by rw[←hx5,←hx6];exact oD gk (eV 0)
  have K6:Hid (ag W.heap.size W x6):=by rw[←hx6];exact K4.out.alloc K4.out.size _
  obtain⟨x7,ST7,ld,hb7⟩:=pf (w:=w) (x:=x6) (B:=w.heap.size+1) (u:=dF) ((K6.out.block _ (by have:=HZ.out;omega)).trans HR2.out) ZZ.out (Nat.le_succ _) (HB.out.trans (K6.out.mono HB.out.size)) ZZ.out zH;have HB7:=ae hb7;have HS:=ae (And.intro hS hE);clear hb7 hc he hS hE hx6;go_wp2_with fail;rw[HS.out.1,HS.out.2];exact bo (eH rfl rfl ld) rfl ⟨rfl,HB7.out⟩
 ·rw[hc,he];obtain⟨x6,hx6⟩:=w9nm (x4.alloc (an c.toArray 51));have ST5:(aL 51 ⟨x4.heap.size,0,none⟩ (al c.toArray)).run aj x5=.ok () x6:=by rw[←hx5,←hx6];exact oD gk hC
  have K6:Hid (ag W.heap.size W x6):=by rw[←hx6];exact K4.out.alloc K4.out.size _
  have L5:(aE 51 ⟨x4.heap.size,0,none⟩).run aj x6=.ok (al c.toArray) x6:=gl (jg (t:= 51) (by rw[←hx6];exact cD x4 _)) hC.length;have L1:(aE 51 ⟨w.heap.size,0,none⟩).run aj x6=.ok (al (aw bs).toArray) x6:=gl (mA K6.out H0.out (jg HR.out)) (by rw[cw];exact HL.out);have EQ:(jG 10000 51 (al c.toArray) (al (aw bs).toArray)).run aj x6=.ok false x6:=by rw[←hA];exact uI hC (gQ HL.out) x6
  obtain⟨x7,ST7,ld,hb7⟩:=pf (w:=w) (x:=x6) (B:=w.heap.size+1) (u:=dF) ((K6.out.block _ (by have:=HZ.out;omega)).trans HR2.out) ZZ.out (Nat.le_succ _) (HB.out.trans (K6.out.mono HB.out.size)) ZZ.out zH;have HB7:=ae hb7;have HS:=ae (And.intro hS hE);clear hb7 hc he hS hE hA hC hx6;go_wp2_with fail;rw[HS.out.1,HS.out.2];exact bo (eH rfl rfl ld) rfl ⟨rfl,HB7.out⟩
 ·rw[hc,he];obtain⟨x6,hx6⟩:=w9nm (x4.alloc (an c.toArray 51));have ST5:(aL 51 ⟨x4.heap.size,0,none⟩ (al c.toArray)).run aj x5=.ok () x6:=by rw[←hx5,←hx6];exact oD gk hC
  have B6:ag x4.heap.size x4 x6:=by rw[←hx6];exact(aI _ x4).alloc (aG _) _
  have K6:=w9bt K4 B6;have L5:(aE 51 ⟨x4.heap.size,0,none⟩).run aj x6=.ok (al c.toArray) x6:=gl (jg (t:= 51) (by rw[←hx6];exact cD x4 _)) hC.length;have L1:(aE 51 ⟨w.heap.size,0,none⟩).run aj x6=.ok (al (aw bs).toArray) x6:=gl (mA K6.out H0.out (jg HR.out)) (by rw[cw];exact HL.out);have EQ:(jG 10000 51 (al c.toArray) (al (aw bs).toArray)).run aj x6=.ok true x6:=by rw[←hA];exact uI hC (gQ HL.out) x6
  have L4:(aE 304 ⟨x1.heap.size,0,none⟩).run aj x6=.ok (al (Sct.of bs).cells.toArray) x6:=pd (mA B6 H4.out RA4.out) CL.out;obtain⟨x7,ST7,ld,hb7⟩:=pf (w:=w) (x:=x6) (B:=w.heap.size+1) (u:=(Sct.of bs).cells) ((K6.out.block _ (by have:=HZ.out;omega)).trans HR2.out) ZZ.out (Nat.le_succ _) (HB.out.trans (K6.out.mono HB.out.size)) CL.out (Sct.cells_one _);have HB7:=ae hb7;have HS:=ae (And.intro hS hE);clear hb7 hc he hS hE hA hC hx6 B6;go_wp2_with fail;try rw[L4]
  try go_wp2_with fail
  rw[HS.out.1,HS.out.2];exact bo (eH rfl rfl ld) rfl ⟨rfl,HB7.out⟩
end
section
attribute [local go_sem] Oper.semAt_some
def dG (S:Nat->Prop) (A B:ah):Prop:=A.heap.size<=B.heap.size/\∀k,S k->B.heap[k]? =A.heap[k]?
theorem dG.refl (S:Nat->Prop) (A:ah):dG S A A:=⟨aG _,fun _ _=>rfl⟩
theorem jJ {S:Nat->Prop} {A B C:ah} (h:dG S A B) (k:dG S B C):dG S A C:=⟨bm h.1 k.1,fun j hj=>(k.2 j hj).trans (h.2 j hj)⟩
theorem dG.cell {S:Nat->Prop} {A B:ah} (h:dG S A B) {p:aF} (hp:S p.block):B.cell? p=A.cell? p:=gj (h.2 _ hp)
theorem qi {S:Nat->Prop} {w:ah} (hS:∀k,S k->k<w.heap.size) (W:ah) (l:Nat) (o o':Obj) (hl:w.heap.size<=l) (_:W.heap[l]? =some o) (_:o.isCells=false) (_:o.isWalk=false):dG S W (W.putObj l o'):=⟨by simp,fun k hk=>by
 refine World.putObj_heap_other ?_;have:=hS k hk;omega⟩
def sF (b off len:Nat) {m:Nat} (x:Fin m):Array ak:=#[af (some ⟨b,off+48*x.1,none⟩) (min 48 (len - 48*x.1)) (min 48 (len - 48*x.1))]
theorem IL (F:Fence) (n:Nat) (hf:F.fn 210) (hro:F.round=none) (a:Option aF) (len cap:Nat) (w:ah):
  CallsIn F n aj 210 #[af a len cap,ab ac 48] w fun e w'=>e=ao (.func (.func 263) #[] #[am (some ⟨w.heap.size,0,none⟩),am (some ⟨w.heap.size+1,0,none⟩)])/\w'=(w.alloc (an #[af a len cap] 76)).alloc (an #[ab ac 48] 3):=by
 refine callsIn_of_wp func210 rfl hf ?_ hro;simp only[ntmps210,cJ,bz,cx,Nat.reduceAdd,Nat.reduceSub,cO,cP,cQ,cR,cy,cC]
 gi_wp2
 go_ret;exact⟨rfl,rfl⟩
theorem IM (n:Nat) (hn:1<=n) (l Bs Bn b off len cap m:Nat) (a:Option aF) (ha:len=0\/a=some ⟨b,off,none⟩) (hlc:len<=cap) (hc:cap<=aY) (hmx:len<=1000000) (hm:m=(len+47) / 48) (S:Nat->Prop) (hs:S Bs) (hs':S Bn)
  (J Jx:List (Fin m)->ah->Prop)
  (hY:∀pre x W,J pre W->pre.length<m->YieldAt Fence.wide (n - 1) aj l (sF b off len x) W fun e W'=>
   (e=ao (.bool true)/\J (pre++ [x]) W'/\dG S W W')\/(e=ao (.bool false)/\Jx (pre++ [x]) W'))
  (hJd:∀pre W,J pre W->J pre W.drew)
  (W:ah) (hBs:W.cell? ⟨Bs,0,none⟩=some (af a len cap)) (hBn:W.cell? ⟨Bn,0,none⟩=some (ab ac 48)) (h0:J [] W) (hlt:Bs<W.heap.size) (hlt':Bn<W.heap.size):
  CallsIn Fence.wide n aj 263 #[.func (.yield l) #[] #[],am (some ⟨Bs,0,none⟩),am (some ⟨Bn,0,none⟩)] W fun e W'=>(∃v,e=ao v)/\
   ((∃ys,ys=iH m/\J ys W')\/(∃pre,(∃k,k<=m/\pre=iz m k)/\Jx pre W')):=by
 refine callsIn_of_wp func263 rfl trivial ?_ rfl;simp only[ntmps263,cJ,bz,cx,Nat.reduceAdd,Nat.reduceSub,cO,cP,cQ,cR,cy,cC];have HM:=ae hm;have HS:=ae hs;have HS':=ae hs';have HA:=ae ha;have HLT:=ae hlt;have HLT':=ae hlt';have hcap:cap<=9223372036854775807:=by unfold aY at hc;omega
 have hmo:aj.follows .mixedOrders=true:=by kernel_rfl
 clear hm hs hs' ha hc hlt hlt'
 gi_wp2
 gi_loopw [4] (fun i wr=>∃k:Nat,k<=m/\i=ab ac ((48*k:Nat):Int)/\J (iz m k) wr/\Hid (dG S W wr)) (fun i _=>48*m - (aS i).toNat)
 case atStart=>exact⟨0,bc _,rfl,h0,dG.refl _ _⟩
 case round=>
  obtain⟨k,hk,rfl,hJs,HK⟩:=hrel;obtain⟨K,hK⟩:=w9nm (48*k);rw[hK];have c1:wr.cell? ⟨Bs,0,none⟩=some (af a len cap):=(HK.out.cell HS.out).trans hBs;have c2:wr.cell? ⟨Bn,0,none⟩=some (ab ac 48):=(HK.out.cell HS'.out).trans hBn;by_cases hlt:K<len
  ·have hkm:k<m:=by have:=HM.out;omega
   have hlt':decide ((K:Int)< (len:Int))=true:=by simp;omega
   obtain rfl:a=some ⟨b,off,none⟩:=by rcases HA.out with h | h;omega;exact h
   have hKK:=ae hK;obtain⟨H,hH⟩:=w9nm (min 48 (len - K));have hHH:=ae hH;have d1:∀y:aM wr,y.1.cell? ⟨Bs,0,none⟩=some (af (some ⟨b,off,none⟩) len cap):=fun y=>(y.2.cell (p:=⟨Bs,0,none⟩) (bq HLT.out HK.out.1)).trans c1;have d2:∀y:aM wr,y.1.cell? ⟨Bn,0,none⟩=some (ab ac 48):=fun y=>(y.2.cell (p:=⟨Bn,0,none⟩) (bq HLT'.out HK.out.1)).trans c2;have g1:(K:Int)<=len:=by omega
   have g2:(len:Int)<=cap:=by omega
   have hq:(len:Int) - (K:Int)=((len - K:Nat):Int):=by omega
   have hmin:∀(ts:Array aR) (t:aR) (W:ah),(Builtin.min_ ts t #[ab ac 48,ab ac ((len - K:Nat):Int)]).run aj W=.ok (ab ac (H:Int)) W:=fun ts t W=>by
    rw[run_min_int2,←hH]
    congr 2
    split<;>omega
   have hH1:H<=48:=by omega
   have hH2:K+H<=len:=by omega
   have hH0:0<H:=by omega
   have hKc:K<cap:=by omega
   clear hH hBn hBs h0
   gi_wp2_with fail
   refine wpIn_wide.2 ?_;refine du (fun x=>∃y:aM wr,x=y.1) 6 (.takes [0,1,2,3,4] (.one 5 .leaf)) hmo (by kernel_rfl) (by intro c x v a w h;cases x<;>exact h) ⟨⟨wr.drew,(aI _ wr).drew⟩,rfl⟩ ?_;repeat(rw[bu];simp only[aB,aC];go_big_quiet_step (fail);refine aV ?_)
   rw[bt,aT];simp only[aB,aC];go_wp2_with fail;refine aN ⟨⟨wr.drew,(aI _ wr).drew⟩,rfl⟩ ?_;rw[cW];simp only[bR,bQ];clear hmin d1 d2;have c1':wr.drew.cell? ⟨Bs,0,none⟩=some (af (some ⟨b,off,none⟩) len cap):=c1;have c2':wr.drew.cell? ⟨Bn,0,none⟩=some (ab ac 48):=c2;have HJ:J (iz m k) wr.drew:=hJd _ _ hJs;obtain⟨fn,tmps,assign,body,hy,hR⟩:=hY _ ⟨k,hkm⟩ wr.drew HJ (by rw[sk m k hk];exact hkm);unfold sF at hy
   dsimp only at hy
   rw[hKK.out,hHH.out]at hy;go_wp2_with fail
   gi_wp2_with fail
   refine hR.mono ?_;rintro e W3 (⟨rfl,hJ3,hk3⟩ | ⟨rfl,hJx3⟩)
   ·have c3:W3.cell? ⟨Bn,0,none⟩=some (ab ac 48):=(hk3.cell HS'.out).trans c2';have HK3:Hid (dG S W W3):=jJ (jJ HK.out (⟨aG _,fun _ _=>rfl⟩:dG S wr wr.drew)) hk3;clear hk3
    gi_wp2_with fail
    go_roundw
    case rel=>exact⟨k+1,by omega,by have:=hKK.out;go_num,by rw[mB m k hkm];exact hJ3,HK3⟩
    case measure=>have:=hKK.out;simp[aS];omega
   ·gi_wp2_with fail
    refine bo (results_none rfl _ _ _) rfl ?_;exact⟨⟨_,rfl⟩,aD ⟨_,⟨k+1,by omega,(mB m k hkm).symm⟩,hJx3⟩⟩
  ·have hlt':decide ((K:Int)< (len:Int))=false:=by simp;omega
   obtain rfl:k=m:=by have:=HM.out;omega
   clear hK
   gi_wp2_with fail
   go_end0
   exact⟨⟨_,rfl⟩,aA ⟨_,rfl,by rw[←qf];exact hJs⟩⟩
end
section
attribute [-simp] isAgg51 zeroValue51 isAgg205 zeroValue205
attribute [-go_sem] aE aL
attribute [local go_sem] bC bD dz vr ez
theorem jm {x x':ah} {N e sz n:Nat} {v:ak} {xs:List ak} (h:x.ownsRow N e sz v n xs) (hb:ag x.heap.size x x'):x'.ownsRow N e sz v n xs:=by
 refine⟨h.1, ?_⟩;rcases h.2 with h' | ⟨g,cap,cur,rfl,a1,a2,a3⟩
 ·exact aA h'
 ·exact aD ⟨g,cap,cur,rfl,a1,(hb.block g (bL.1 a2).1).trans a2,a3⟩
end
section
theorem vE (n:Int) (w:ah) (h0: -9223372036854775808<=n) (h1:n<9223372036854775808):
  ap aj 209 #[ab ac n] w fun e w'=>e=ao (ab ac (cnt n))/\w'=w:=by
 by_cases hn:n<1
 ·have hc:cnt n=0:=if_pos hn;rw[hc];go_enter func209,ntmps209;go_wp2_with fail;all_goals(go_ret;exact⟨rfl,rfl⟩)
 ·have hc:cnt n=(n - 1) / 48+1:=if_neg hn;have hq:Int.tdiv (n - 1) 48=(n - 1) / 48:=Int.tdiv_eq_ediv_of_nonneg (by omega);rw[hc];go_enter func209,ntmps209;go_wp2_with fail;all_goals(go_ret;exact⟨rfl,rfl⟩)
end
section
theorem vF {l₀ n:Nat} {P:Program} {ops:Array Oper} {Q:Exit->Act->ah->Prop} (hL:¬LetsOut Q):∀(l:List Oper) (a:Act) (w:ah),(∀o ∈ l,∀c,o.op≠ .defer c)->wpList P ops Q l a w->wpListIn (Fence.wide.inRound l₀) n P ops Q l a w
 | [],_,_,_,h=>h
 | o::rest,a,w,hd,h=>by
  have hd':∀o ∈ rest,∀c,o.op≠ .defer c:=fun o ho=>hd o (ea _ ho);unfold wpList at h;unfold wpListIn;by_cases hw:Region.wanted o (yielded ops a.tmps)=true
  ·rw[if_pos hw]at h ⊢;rcases h with h | h
   ·exact uL (hd o dC) (Oper.wp_mono (fun a' w'=>vF hL rest a' w' hd') h)
   ·exact absurd h.2 hL
  ·rw[if_neg hw]at h ⊢;exact⟨fun _ _=>trivial,vF hL rest _ _ hd' h⟩
theorem sG {l₀ n id:Nat} {P:Program} {l:List Oper} {Q:Exit->Act->ah->Prop} {a:Act} {w:ah} (hL:¬LetsOut Q) (hd:kY l.toArray=true) (h:wpList P l.toArray Q l a w):(Code.region id l.toArray false).wpIn (Fence.wide.inRound l₀) n P Q a w:=
 wpIn_region_lit (vF hL l a w (fun o ho=>by
  obtain⟨i,hi⟩:=jY ho;exact ru hd (i:=i) (by simpa using hi)) h)
theorem zI {K:Act->ah->Prop} {Q:Exit->Act->ah->Prop} (h:¬LetsOut Q):¬LetsOut (Exit.then K Q):=fun⟨a,w,e⟩=>h ⟨a,w,e⟩
theorem IN (n:Nat) (hn:1<=n) (Bs Bn b off len cap m:Nat) (a:Option aF) (ha:len=0\/a=some ⟨b,off,none⟩) (hlc:len<=cap) (hc:cap<=aY) (hmx:len<=1000000) (hm:m=(len+47) / 48) (w:ah)
  (h1:Bs<w.heap.size) (h2:Bn<w.heap.size) (hBs:w.cell? ⟨Bs,0,none⟩=some (af a len cap)) (hBn:w.cell? ⟨Bn,0,none⟩=some (ab ac 48)):
  SeqStopsK Fence.wide n aj 263 #[am (some ⟨Bs,0,none⟩),am (some ⟨Bn,0,none⟩)] (sF b off len (m:=m)) (dG fun k=>k=Bs\/k=Bn) (fun ys=>ys=iH m) (fun _=>True) m w:=fun l J Jx W hW hJ _ hY h0=>
 (IM n hn l Bs Bn b off len cap m a ha hlc hc hmx hm _ (aA rfl) (aD rfl) J Jx hY
  (fun pre W hj=>hJ pre W W.drew none hj (dS (aI _ W).drew none) (fun r e=>by cases e))
  W ((hW.cell (p:=⟨Bs,0,none⟩) h1).trans hBs) ((hW.cell (p:=⟨Bn,0,none⟩) h2).trans hBn) h0 (bq h1 hW.size) (bq h2 hW.size)).mono fun e W' ⟨he,h⟩=>⟨he,h.imp id fun⟨pre,_,hj⟩=>⟨pre,trivial,hj⟩⟩
theorem pi {W:ah} {base sz n:Nat} {e:aR} {v:ak} {xs:List ak} (h:W.ownsRow base e sz v n xs):∃ra n c,v=af ra n c:=by
 rcases h.2 with⟨rfl,_⟩ | ⟨g,cap,cur,rfl,_⟩
 ·exact⟨_,_,_,rfl⟩
 ·exact⟨_,_,_,rfl⟩
theorem vG {W:ah} {base sz n j:Nat} {e:aR} {v:ak} {xs:List ak} {o:Obj} (h:W.ownsRow base e sz v n xs) (hj:v.ownBlock=some j) (ho:W.heap[j]? =some o):o.isCells=true:=by
 rcases h.2 with⟨rfl,_⟩ | ⟨g,cap,cur,rfl,_,hg,_⟩
 ·simp[jb]at hj
 ·obtain rfl:g=j:=by simpa [jb]using hj
  rw[hg]at ho;cases ho
  rfl
attribute [-simp] isAgg51 zeroValue51 isAgg205 zeroValue205
attribute [-go_sem] aE aL
attribute [local go_sem] bC bD dz vr ez Oper.semAt_some
set_option maxRecDepth 100000 in
theorem IQ (v:ak) (bs:List Int) (w:ah) (hv:Sl ay w v bs) (hl:bs.length<=100000):
  ap aj 128 #[v] w fun e w'=>∃v',e=ao v'/\w'.ownsRow w.heap.size 205 48 v' (dt bs) (rows bs (dt bs)).flatten/\ag w.heap.size w w':=by
 have HS:=ae hv;obtain⟨a,cap,rfl,hm1,hm2,hla, -⟩:=hv;obtain⟨len,hlen⟩:=w9nm bs.length;have HL:=ae hlen;obtain⟨m,hm⟩:=w9nm (dt bs);have HN:Hid (m=(len+47) / 48):=by show _=_;rw[←hm,←hlen];rfl
 obtain⟨b,off,hab,hcs⟩:∃b off,(len=0\/a=some ⟨b,off,none⟩)/\(0<len->b<w.heap.size/\∀j,j<len->w.cell? ⟨b,off+j,none⟩=some (ab ay (bs[j]?.getD 0))):=by
  rcases hla with h | ⟨b,off,e,h1,h2⟩
  ·refine⟨0,0,aA (by rw[←hlen,h];rfl),fun h0=> ?_⟩;rw[←hlen,h]at h0;simp at h0
  ·exact⟨b,off,aD e,fun _=>⟨h1,fun j hj=>h2 j (by omega)⟩⟩
 have HA:=ae hab;have HC:=ae hcs;rw[hlen]at hl hm1 HS ⊢;rw[hm];have HM2:=ae hm2;clear hlen hm hla hab hcs hm2;have hcn:cnt (len:Int)=(m:Int):=by rw[zw,HN.out]
 have hmm:m<=100000:=by have:=HN.out;omega
 refine(callsIn_wide (n:=3)).1 ?_;refine gA func128 rfl trivial ?_ rfl;simp only[ntmps128,cJ,bz,cx,Nat.reduceAdd,Nat.reduceSub,cO,cP,cQ,cR,cy,cC];obtain⟨i0,hi,hz0,hz1,hz2⟩:=fy sr
 gi_wp2_with (first | (refine⟨trivial, ?_⟩;gi_at_call 209;refine(callsIn_wide.2 (vE (len:Int) _ (by omega) (by omega))).mono ?_;rintro e w' ⟨rfl,rfl⟩;rw[hcn]) | (gi_at_make;refine wpListIn_make_own _ rfl _ _ 109 rfl w'.heap.size 205 i0 (al gD.toArray) 48 Tryz.underlying109 hi hz0 hz1 ac ac _ m rfl rfl rfl (by rw[hz2];omega) (by unfold aY;omega) (aG _) ?_;intro w1 hown1 hgrow1) | (refine⟨trivial, ?_⟩;gi_at_call 210;refine(IL _ _ trivial rfl _ _ _ _).mono ?_;rintro e w2 ⟨rfl,rfl⟩))
 obtain⟨W2,hW2⟩:=w9nm (w1.alloc (an #[af (some ⟨w'.heap.size,0,none⟩) 0 m] 109));obtain⟨W3,hW3⟩:=w9nm (W2.alloc (an #[af a len cap] 76));obtain⟨W4,hW4⟩:=w9nm (W3.alloc (an #[ab ac 48] 3));obtain⟨B3,hB3⟩:=w9nm w1.heap.size;have z2:W2.heap.size=B3+1:=by rw[←hW2,bO,hB3]
 have z3:W3.heap.size=B3+2:=by rw[←hW3,bO,z2]
 have z4:W4.heap.size=B3+3:=by rw[←hW4,bO,z3]
 have hw1:w9b w' w1:=(aI _ w').grown hgrow1 (aG _) (fun k e=>by cases e);have HB4:Hid (ag w'.heap.size w' W4):=by
  have a2:ag w'.heap.size w' W2:=by rw[←hW2];exact hw1.alloc hw1.size _
  have a3:ag w'.heap.size w' W3:=by rw[←hW3];exact a2.alloc a2.size _
  show ag _ _ _;rw[←hW4];exact a3.alloc a3.size _
 have HBX:Hid (Boxed W4 B3 109 (af (some ⟨w'.heap.size,0,none⟩) 0 m)):=by
  show Boxed _ _ _ _;rw[←hW4,←hW3,←hW2,←hB3];exact((dD w1 _ _).alloc _).alloc _
 have HBS:Hid (Boxed W4 (B3+1) 76 (af a len cap)):=by
  have:=(dD W2 76 (af a len cap)).alloc (an #[ab ac 48] 3);rw[hW3,hW4,z2]at this;exact this
 have HBN:Hid (Boxed W4 (B3+1+1) 3 (ab ac 48)):=by
  have:=dD W3 3 (ab ac 48);rw[hW4,z3]at this;exact this
 have HRW:Hid (W4.ownsRow w'.heap.size 205 48 (af (some ⟨w'.heap.size,0,none⟩) 0 m) 0 []):=by
  show World.ownsRow _ _ _ _ _ _ _;rw[←hW4,←hW3,←hW2];exact((hown1.alloc _).alloc _).alloc _
 have HZ3:Hid (w'.heap.size<=B3):=by show _<=_;rw[←hB3];exact hw1.size
 rw[hW2,hW3,hW4,hB3];clear hW2 hW3 hW4 hown1 hgrow1 hw1 hB3 z2 z3 hz0 hz1 hz2 hi;refine wpIn_rangeFunc_ownF (n:=3) rfl (by omega) (gf:= 263) (lb:=#[am (some ⟨B3+1,0,none⟩),am (some ⟨B3+1+1,0,none⟩)]) rfl trivial (enters_of func263 (by kernel_rfl) rfl)
  (IN 2 (by omega) (B3+1) (B3+1+1) b off len cap m a HA.out hm1 HM2.out (by omega) HN.out W4 (by omega) (by omega) HBS.out.cell HBN.out.cell) jJ (qi (by rintro k (rfl | rfl)<;>omega)) (aI _ _) (fun _=>rfl)
  (fun pre W=>(∃v,Boxed W B3 109 v/\W.ownsRow w'.heap.size 205 48 v (pre.map fun x:Fin m=>aw (cT bs x.1)).length (pre.map fun x:Fin m=>aw (cT bs x.1)).flatten/\Boxed W (B3+1) 76 (af a len cap)/\Boxed W (B3+1+1) 3 (ab ac 48))/\ag w'.heap.size w' W)
  (fun _ _ _=>False)
  ?hI (fun _ _ _ _ _ h _ _=>h.elim) ?h0 ?a1 ?assign ?body ?done ?stop
 case hI=>
  intro s W W' row ⟨⟨v,hv,ho,h1,h2⟩,hB⟩ hg hrow;have hr':∀r,row=some r->∃o:Obj,W.heap[r]? =some o/\o.isCells=false:=fun r e=>(hrow r e).2;exact⟨⟨v,boxed_own _ _ (fun _:Unit=>_) () W W' row hv hg hr',uN _ _ _ _ (fun _:Unit=>_) (fun _=>_) () W W' row ho hg hr',boxed_own _ _ (fun _:Unit=>_) () W W' row h1 hg hr',boxed_own _ _ (fun _:Unit=>_) () W W' row h2 hg hr'⟩,ownFrom_below (β:=Unit) (aG _) (by have:=HZ3.out;omega) () W W' row hB hg hrow⟩
 case h0=>exact⟨⟨_,HBX.out,HRW.out,HBS.out,HBN.out⟩,HB4.out⟩
 case assign=>
  intro l x W K hK
  dsimp only[sF]
  gi_wp2
  exact hK
 case body=>
  rintro l pre x W ⟨⟨v,hv,ho,hbs,hbn⟩,hB⟩ hlen;have hx:=x.2;obtain⟨k,hk⟩:=w9nm x.1;obtain⟨K,hK⟩:=w9nm (48*k);obtain⟨H,hH⟩:=w9nm (min 48 (len - K));rw[hk]at hx ⊢;rw[hK,hH];have hlt:K<len:=by have:=HN.out;omega
  have hcl:((bs.drop K).take H).length=H:=by rw[dj,dm,HL.out];omega
  have HSP:∀y,ag w'.heap.size w' y->Sl ay y (af (some ⟨b,off+K,none⟩) H H) ((bs.drop K).take H):=fun y hy=>by
   obtain⟨h1,h2⟩:=HC.out (by omega);have:=Sl.at (k:=ay) (w:=y) (b:=b) (off:=off+K) (cap:=H) (bs:=(bs.drop K).take H) (by omega) (by unfold aY;omega) (bq h1 hy.size) (fun j hj=>by
    rw[hcl]at hj;rw[hy.cell (p:=⟨b,off+K+j,none⟩) h1,rB _ _ _ hj,uS,Nat.add_assoc];exact h2 (K+j) (by omega))
   rwa [hcl]at this
  obtain⟨x1,hx1⟩:=w9nm (W.alloc (an gD.toArray 205));have k1:x1.heap[W.heap.size]? =some (an gD.toArray 205 (0,0)):=by rw[←hx1];exact cD W _
  have b1:ag W.heap.size W x1:=by rw[←hx1];exact(aI _ _).alloc (aG _) _
  have t1:x1.there W.heap.size 0 H:=kD k1 0 _ (by rw[vp];omega);have rc0:=qe (w:=x1) (B:=W.heap.size) (o:=0) (dLen:=48) (dCap:=48) 3 (HSP _ (hB.trans (b1.mono hB.size))) (by rw[hcl];omega) (by rw[hcl];exact t1);obtain⟨x2,hx2⟩:=w9nm (x1.setCells W.heap.size 0 (aw ((bs.drop K).take H)));rw[hx2,hcl]at rc0;have RC0:=ae rc0;have hp:aw (cT bs k)=aw ((bs.drop K).take H)++aw (bg (48 - H) 0):=by
   have e1:(bs.drop K).take 48=(bs.drop K).take H:=by
    by_cases h:K+48<=len
    ·rw[show H=48 by omega]
    ·rw[de (by rw[dm,HL.out];omega),de (by rw[dm,HL.out];omega)]
   unfold cT;rw[hK,e1,hcl];simp[aw]
  have ra2:x2.rangeAt W.heap.size 0 (aw (cT bs k)):=by
   rw[hp];refine sj ?_ ?_
   ·rw[←hx2];exact kz x1 _ 0 _ (by rw[cw,hcl];exact t1)
   ·rw[cw,hcl,←hx2];refine ml (w:=x1) (fun j x hx=> ?_) _ 0 _ (aD (aD (by rw[cw,hcl];omega)));refine(dq x1 _ _ _ _ _ k1).trans ?_;have hj:j<48 - H:=by have:=(bZ.1 hx).1;simpa [aw]using this
    rw[←hx,List.getElem?_toArray];unfold gD aw;rw[dY,dY,kO,kO,if_pos (by omega),if_pos hj]
  have b2:ag W.heap.size W x2:=by rw[←hx2];exact b1.trans ((kn (aG W.heap.size) _ _ x1).mono (aG _))
  have hpl:(aw (cT bs k)).length=48:=by rw[cw,ll]
  have L20:=ae (nJ ra2 hpl);obtain⟨x3,hx3⟩:=w9nm (x2.alloc (an (aw (cT bs k)).toArray 205));have SB0:Hid ((dh 109 1 #[(0,al (aw (cT bs k)).toArray)]).run aj x2=.ok (af (some ⟨x2.heap.size,0,none⟩) 1 1) x3):=by rw[←hx3];exact zA x2 _ hpl
  have b3:ag W.heap.size W x3:=by rw[←hx3];exact b2.alloc b2.size _
  have B3':w9b w' x3:=hB.trans (b3.mono hB.size);have O3:=jm ho b3;obtain⟨v4,x4,r4,o4,g4, -⟩:=zB w'.heap.size x3 v (pre.map fun x:Fin m=>aw (cT bs x.1)) (aw (cT bs k)) x2.heap.size O3 hpl (mV _) (jg (t:= 205) (by rw[←hx3];exact cD x2 _)) (by rw[dV];omega) B3'.size;obtain⟨ra4,n4,p4,hv4⟩:=pi o4;subst hv4;have R4:=ae r4;have hv3:Boxed x3 B3 109 v:=hv.kept (dS b3 none) (by simp);have hs3:Boxed x3 (B3+1) 76 (af a len cap):=hbs.kept (dS b3 none) (by simp);have hn3:Boxed x3 (B3+1+1) 3 (ab ac 48):=hbn.kept (dS b3 none) (by simp);have hv4:Boxed x4 B3 109 v:=hv3.kept g4 (hv3.not_row (by decide) O3);have hs4:Boxed x4 (B3+1) 76 (af a len cap):=hs3.kept g4 (hs3.not_row (by decide) O3);have hn4:Boxed x4 (B3+1+1) 3 (ab ac 48):=hn3.kept g4 (hn3.not_row (by decide) O3);have hv5:=hv4.set (af ra4 n4 p4);have hs5:Boxed (x4.setCell ⟨B3,0,none⟩ (af ra4 n4 p4)) (B3+1) 76 (af a len cap):=hs4.other (by omega) _;have hn5:Boxed (x4.setCell ⟨B3,0,none⟩ (af ra4 n4 p4)) (B3+1+1) 3 (ab ac 48):=hn4.other (by omega) _;have o5:(x4.setCell ⟨B3,0,none⟩ (af ra4 n4 p4)).ownsRow w'.heap.size 205 48 (af ra4 n4 p4) ((pre++ [x]).map fun x:Fin m=>aw (cT bs x.1)).length ((pre++ [x]).map fun x:Fin m=>aw (cT bs x.1)).flatten:=by
   have:=o4.kept (grownBy_setCell' x4 B3 (af ra4 n4 p4)) (aD (fun e=>hv4.not_row (by decide) o4 e.symm));rw[ec,List.map_cons,List.map_nil,hk];exact this
  have POST:Hid (ownPostK (dG fun k=>k=B3+1\/k=B3+1+1) (fun pre W=>(∃v,Boxed W B3 109 v/\W.ownsRow w'.heap.size 205 48 v (pre.map fun x:Fin m=>aw (cT bs x.1)).length (pre.map fun x:Fin m=>aw (cT bs x.1)).flatten/\Boxed W (B3+1) 76 (af a len cap)/\Boxed W (B3+1+1) 3 (ab ac 48))/\ag w'.heap.size w' W) (fun(_:Code) (_:List (Fin m)) (_:ah)=>False) (pre++ [x]) W .normal {tmps:=#[],defers:= []} (x4.setCell ⟨B3,0,none⟩ (af ra4 n4 p4))):=by
   refine⟨((KeepsOthers.of_grownBy (dS b3 none) (fun j o e=>by cases e)).trans (KeepsOthers.of_grownBy g4 (fun j o hj hoj=>vG O3 hj hoj))).trans (iK _ _ _),⟨?_, ?_⟩,⟨_,hv5,o5,hs5,hn5⟩,(B3'.grown g4 B3'.size (fun j e=>(O3.lt j e).1)).setCell (p:=⟨B3,0,none⟩) HZ3.out _⟩
   ·exact bm b3.size (bm g4.size (grownBy_setCell' x4 B3 (af ra4 n4 p4)).size)
   ·rintro k (rfl | rfl)
    ·exact hs5.trans hbs.symm
    ·exact hn5.trans hbn.symm
  have c2:x2.cell? ⟨B3,0,none⟩=some v:=(b2.cell (p:=⟨B3,0,none⟩) hv.lt).trans hv.cell;have c4:=hv4.cell;have f4:=hv4.frozen;clear hs5 hn5 hv5 o5 hv4 hs4 hn4 hv3 hs3 hn3 r4 o4 g4 O3 B3' b3 b2 b1 hpl ra2 hp rc0 t1 k1 HSP hcl hv ho hbs hbn hB hx3 hx2 hH hK;have RC:=RC0.out;gi_step
  gi_step
  gi_step
  refine sG (zI (iL rx)) (by kernel_rfl) ?_;go_wp2_with fail;gi_step
  refine sG (zI (iL rx)) (by kernel_rfl) ?_;go_wp2_with fail;clear RC;refine sG (iL rx) (by kernel_rfl) ?_;go_wp2_with fail;rw[L20.out];clear c2;go_wp2_with (first | ((with_reducible refine iu ?_);refine dR _ _ _ rfl rfl [(0,al (aw (cT bs k)).toArray)] _ rfl SB0.out ?_) | (at_builtin;refine wpList_append_run (.tmp 16) (.tmp 18) 109 rfl rfl _ _ _ rfl rfl R4.out ?_));exact POST.out
 case done=>
  rintro D xs W hD rfl ⟨⟨v,hv,ho,hbs,hbn⟩,hB⟩ hK;have c2:=hv.cell;have hrw:W.ownsRow w'.heap.size 205 48 v m (rows bs m).flatten:=by
   have e:(iH m).map (fun x:Fin m=>aw (cT bs x.1))=rows bs m:=by
    unfold rows;apply List.ext_getElem
    ·simp
    ·intro i h1 h2;simp
   rw[e,IB]at ho;exact ho
  gi_wp2
  refine⟨by simp,aA ⟨_,_,rfl,eU hK, ?_⟩⟩;refine⟨_,results_tmp rfl _ _ _,_,rfl,ownsRow_putObj hrw _ hK rfl,hB.trans (belowK_b (w:=w') (aG _) W D _ _ (by have:=HB4.out.size;omega) hK rfl rfl)⟩
 case stop=>
  rintro D c pre W _ _ h _;exact h.elim
end
section
theorem kE (x:ah) {C:List ak} (hC:cz C):∃y,(aL 51 ⟨x.heap.size,0,none⟩ (al C.toArray)).run aj (x.alloc (an cF 51))=.ok () y/\aq y x.heap.size 51 C/\ag x.heap.size x y:=
 ⟨_,oD gk hC,aq.new x _ C,aH x _⟩
theorem qj (x:ah) (p:Sct) (hp:p.body.length=48):∃y,(aL 304 ⟨x.heap.size,0,none⟩ (al p.cells.toArray)).run aj (x.alloc (an dF.toArray 304))=.ok () y/\aq y x.heap.size 304 p.cells/\ag x.heap.size x y:=
 ⟨_,sw nK (Sct.cells_length hp) (Sct.cells_one p),aq.new x _ _,aH x _⟩
theorem aq.blk {x:ah} {B:Nat} {C:List ak} {t:aR} (h:aq x B t C) (hC:C.length=64):(aE 51 ⟨B,0,none⟩).run aj x=.ok (al C.toArray) x:=gl h.range hC
theorem aq.pg {x:ah} {B:Nat} {p:Sct} {t:aR} (h:aq x B t p.cells) (hp:p.body.length=48):(aE 304 ⟨B,0,none⟩).run aj x=.ok (al p.cells.toArray) x:=pd h.range (Sct.cells_length hp)
theorem aq.bod {x:ah} {B:Nat} {p:Sct} {t:aR} (h:aq x B t p.cells) (hp:p.body.length=48):(aE 205 ⟨B,3,none⟩).run aj x=.ok (al (aw p.body).toArray) x:=
 nJ (oZ (a:= [ab ay p.mark,ab aO p.seq,ab ac p.index]) (b:=aw p.body) h) (by rw[cw,hp])
theorem vH (l:List ak) (k:Nat) (A:Array ak):l.zipIdx.foldl (fun cs (x:ak×Nat)=>cs.setIfInBounds (k+x.2) x.1) A=(l.zipIdx k).foldl (fun cs (x:ak×Nat)=>cs.setIfInBounds (0+x.2) x.1) A:=by
 rw[List.zipIdx_eq_map_add (l:=l) (i:=k),List.foldl_map]
 congr 1
 funext cs x
 obtain⟨a,j⟩:=x;show cs.setIfInBounds (k+j) a=cs.setIfInBounds (0+(k+j)) a;rw[dP]
def sH:Nat->Option (Nat×Nat):=fun i=>(#[(0,1),(1,1),(2,1),(3,48)]:Array (Nat×Nat))[i]?
theorem zJ (t:aR) (h:t≠ 51 /\t≠ 304 /\t≠ 205 /\t≠ 254) (a:aF):aE t a=(do if←isAgg t then pure (al (←loadCells a (←sizeOf t)))else load a):=rfl
theorem zK (t:aR) (h:t≠ 51 /\t≠ 304 /\t≠ 254) (a:aF) (v:ak):aL t a v=(do
  if v.cells.size≠(←sizeOf t)then stuck "storeVar: the value has not the size of the variable"
  storeCells a v.cells.toList):=rfl
theorem zL {p:Sct} (hp:p.Ok):cz p.code:=by
 unfold Sct.code;split
 ·exact gQ (Sct.bytes_length hp)
 ·exact eV 0
theorem vI {bs:List Int} (hb:aP bs) (hl:bs.length=64):(ed bs).Ok:=by
 unfold ed;split
 ·exact mU hb hl
 ·exact⟨by decide,by decide,by simp[oY],fun j=>by
   show 0<=((bg 48 (0:Int))[j]?).getD 0/\((bg 48 (0:Int))[j]?).getD 0<256;rw[kO];split<;>decide⟩
end
section
theorem nL (t:aR) (h:t≠ 23 /\t≠ 29) (a:aF):aE t a=(do if←isAgg t then pure (al (←loadCells a (←sizeOf t)))else load a):=rfl
theorem nM (t:aR) (h:t≠ 23 /\t≠ 29) (a:aF) (v:ak):aL t a v=(do
  if v.cells.size≠(←sizeOf t)then stuck "storeVar: the value has not the size of the variable"
  storeCells a v.cells.toList):=rfl
attribute [-go_sem] aE aL
attribute [local go_sem] nL nM
def Geo.cs (g:Geo):List ak:= [ab ac g.b,ab ac g.s,ab ac g.y,ab ac g.a,ab ac g.r]
set_option maxRecDepth 100000 in
theorem cG {x:ah} {B:Nat} {t:aR} {g:Geo} (h:aq x B t g.cs):(aE 23 ⟨B,0,none⟩).run aj x=.ok (al g.v) x:=
 jF x B 0 _ g.cs _ h.range Tryz.underlying23 rfl (by kernel_rfl)
def zM (a b c d e f h i:Int):List ak:= [ab ac a,ab ac b,ab ac c,ab ac d,ab ac e,ab ac f,ab ac h,ab ac i]
section
theorem IR (g:Geo) (hs:g.shape) (w:ah):ap aj 76 #[al g.v] w fun e w'=>e=ao (ab ac g.bts)/\ag w.heap.size w w':=by
 obtain⟨b1,b2,b3,b4,b5,b6⟩:=Geo.bounds hs;have HBT:Hid (g.bts=10+g.s*g.y+g.b+8*(4+(g.b+7) / 8+g.b)):=rfl;obtain⟨W,hW⟩:=w9nm (w.alloc (an g.v 23));have r:aq W w.heap.size 23 g.cs:=by rw[←hW];exact aq.new w _ _
 have HB:Hid (ag w.heap.size w W):=by show ag _ _ _;rw[←hW];exact aH w _
 have c0:=r.cell 0 _ rfl;have c1:=r.cell 1 _ rfl;have c2:=r.cell 2 _ rfl;obtain⟨h1,h2,h3,h4,h5,h6,h7,h8⟩:=hs;have m1:1<=g.s*g.y:=b1;have m2:g.s*g.y<=32:=b2;obtain⟨b,hb⟩:=w9nm g.b;obtain⟨s,hs⟩:=w9nm g.s;obtain⟨y,hy⟩:=w9nm g.y;obtain⟨m,hm⟩:=w9nm (s*y);obtain⟨k,hk⟩:=w9nm ((b+7).tdiv 8);rw[hb]at c0 h1 h2 HBT;rw[hs,hy]at m1 m2 HBT;rw[hs]at c1 h3 h4;rw[hy]at c2 h5 h6;rw[hm]at m1 m2 HBT;have hk2:(b+7) / 8=k:=by rw[←hk,Int.tdiv_eq_ediv_of_nonneg (by omega)]
 have hk3:1<=k/\k<=8:=by omega
 have HK2:=ae hk2;obtain⟨k1,k2⟩:=hk3;clear r b1 b2 b3 b4 b5 b6 h7 h8 hb hs hy hk2;go_enter func76,ntmps76;go_wp2_with fail;go_ret;refine⟨?_,HB.out⟩;rw[HBT.out,HK2.out];first
  | rfl
  | exact congrArg (fun x=>Ending.returned (Value.int ac x)) (by omega)
theorem IS (g:Geo) (w:ah):ap aj 39 #[al g.v] w fun e w'=>e=ao (.bool (decide g.good))/\ag w.heap.size w w':=by
 obtain⟨W,hW⟩:=w9nm (w.alloc (an g.v 23));have r:aq W w.heap.size 23 g.cs:=by rw[←hW];exact aq.new w _ _
 have HB:Hid (ag w.heap.size w W):=by show ag _ _ _;rw[←hW];exact aH w _
 obtain⟨B,hB⟩:=w9nm w.heap.size;rw[hB]at r;have LG:∀x:aM W,(aE 23 ⟨B,0,none⟩).run aj x.1=.ok (al g.v) x.1:=fun x=>cG (r.below x.2);have c4:∀x:aM W,x.1.cell? ⟨B,4,none⟩=some (ab ac g.r):=fun x=>(r.below x.2).cell 4 _ rfl;obtain⟨z,hz⟩:=w9nm (decide g.shape);have C1:Hid (∀x:aM W,ap aj 111 #[al g.v] x.1 fun e w''=>e=ao (.bool z)/\∃y:aM W,w''=y.1):=fun x=>ny x (by have:=Im g x.1;rwa [hz]at this);cases z with
 | false=>
  have hg:Hid (decide g.good=false):=decide_eq_false (fun h=>of_decide_eq_false hz h.1);clear r hz;go_enter func39,ntmps39;go_wp2_with fail;refine ig (by kernel_rfl) (by kernel_rfl) ?_;repeat(go_big_quiet_step (with_reducible (first | exact C1.out _)))
  refine aV ?_;intro x;have HX:Hid (ag w.heap.size w x.1):=HB.out.trans (x.2.mono HB.out.size);clear LG c4;go_wp2_with fail;go_ret;rw[hg.out];exact⟨rfl,HX.out⟩
 | true=>
  have hs:g.shape:=of_decide_eq_true hz;obtain⟨b1,b2,b3,b4,b5,b6⟩:=Geo.bounds hs;have C2:Hid (∀x:aM W,ap aj 76 #[al g.v] x.1 fun e w''=>e=ao (ab ac g.bts)/\∃y:aM W,w''=y.1):=fun x=>ny x (IR g hs x.1);have C3:Hid (∀x:aM W,ap aj 77 #[ab ac g.bts] x.1 fun e w''=>e=ao (ab ac g.pgs)/\∃y:aM W,w''=y.1):=fun x=>(Ij g.bts x.1 (by omega) (by omega)).mono fun e w'' ⟨h1,h2⟩=>⟨h1,x,h2⟩;have hg:Hid (decide g.good=decide (g.pgs+2<=g.r/\g.r<=256)):=by
   show _=_;rw[decide_eq_decide];exact⟨fun h=>h.2,fun h=>⟨hs,h⟩⟩
  obtain⟨P,hP⟩:=w9nm g.pgs;obtain⟨T,hT⟩:=w9nm g.bts;obtain⟨R,hR⟩:=w9nm g.r;rw[hP,hT]at C3;rw[hT]at C2;rw[hR]at c4;rw[hP,hR]at hg;rw[hP]at b5 b6;clear r hz hs b1 b2 b3 b4 hP hT hR;by_cases q1:P+2<=R
  ·have g1:decide (P+2<=R)=true:=by simpa using q1
   have g1':decide (R≥P+2)=true:=g1;by_cases q2:R<=256
   ·have g2:decide (R<=256)=true:=by simpa using q2
    have hgd:Hid (decide g.good=true):=by show _=_;rw[hg.out];exact decide_eq_true ⟨q1,q2⟩
    go_enter func39,ntmps39;go_wp2_with fail;refine ig (by kernel_rfl) (by kernel_rfl) ?_;repeat(go_big_quiet_step (with_reducible (first | exact C1.out _ | exact C2.out _ | exact C3.out _)))
    refine aV ?_;intro x;have HX:Hid (ag w.heap.size w x.1):=HB.out.trans (x.2.mono HB.out.size);clear LG c4;go_wp2_with fail;go_ret;rw[hgd.out];exact⟨rfl,HX.out⟩
   ·have g2:decide (R<=256)=false:=by simpa using q2
    have hgd:Hid (decide g.good=false):=by show _=_;rw[hg.out];exact decide_eq_false (fun h=>q2 h.2)
    go_enter func39,ntmps39;go_wp2_with fail;refine ig (by kernel_rfl) (by kernel_rfl) ?_;repeat(go_big_quiet_step (with_reducible (first | exact C1.out _ | exact C2.out _ | exact C3.out _)))
    refine aV ?_;intro x;have HX:Hid (ag w.heap.size w x.1):=HB.out.trans (x.2.mono HB.out.size);clear LG c4;go_wp2_with fail;go_ret;rw[hgd.out];exact⟨rfl,HX.out⟩
  ·have g1:decide (P+2<=R)=false:=by simpa using q1
   have g1':decide (R≥P+2)=false:=g1;have hgd:Hid (decide g.good=false):=by show _=_;rw[hg.out];exact decide_eq_false (fun h=>q1 h.1)
   go_enter func39,ntmps39;go_wp2_with fail;refine ig (by kernel_rfl) (by kernel_rfl) ?_;repeat(go_big_quiet_step (with_reducible (first | exact C1.out _ | exact C2.out _ | exact C3.out _)))
   refine aV ?_;intro x;have HX:Hid (ag w.heap.size w x.1):=HB.out.trans (x.2.mono HB.out.size);clear LG c4;go_wp2_with fail;go_ret;rw[hgd.out];exact⟨rfl,HX.out⟩
end
end
section
attribute [-simp] isAgg90 zeroValue90 isAgg191 zeroValue191 isAgg47 zeroValue47
attribute [-go_sem] aE aL
attribute [local go_sem] iQ iR fB eJ en
def SG.geo (g:SG) (r:Int):Geo:=⟨g.b,g.s,g.y,g.a,r⟩
theorem SG.geo_v (g:SG) (r:Int):(g.geo r).v=g.v r:=rfl
end
section
theorem zN (bl ar:Int):∀(l:List SN) (last:Int),jx bl ar last l=true↔(∀s ∈ l,last<s.id/\s.id<=1000000/\jw s bl ar=true)/\l.Pairwise (fun s t=>s.id<t.id)/\(∀s ∈ l.dropLast,jf s=true)
 | [],last=>by simp[jx]
 | s::l,last=>by
  rw[ye];simp only[cm,decide_eq_true_eq,Bool.or_eq_true];rw[zN bl ar l s.id,List.pairwise_cons];cases l with
  | nil=>simp
  | cons t l=>
   rw[show(s::t::l).dropLast=s::(t::l).dropLast from rfl];constructor
   ·rintro⟨h1,h2,h3,h4,h5,h6,h7⟩;refine⟨fun u hu=> ?_,⟨fun u hu=>(h5 u hu).1,h6⟩,fun u hu=> ?_⟩
    ·rcases dy.1 hu with rfl | hu
     ·exact⟨h1,h2,h3⟩
     ·have:=h5 u hu;exact⟨by omega,this.2⟩
    ·rcases dy.1 hu with rfl | hu
     ·rcases h4 with h4 | h4
      ·simp at h4
      ·exact h4
     ·exact h7 u hu
   ·rintro⟨h1,⟨h2,h3⟩,h4⟩;have h0:=h1 s (dC ..);exact⟨h0.1,h0.2.1,h0.2.2,aD (h4 s (dC ..)),fun u hu=>⟨h2 u hu,(h1 u (ea _ hu)).2⟩,h3,fun u hu=>h4 u (ea _ hu)⟩
theorem sI (l:List SN) (bl ar:Int):eu l bl ar=true↔l.length<=8/\(∀s ∈ l,0<s.id/\s.id<=1000000/\jw s bl ar=true)/\l.Pairwise (fun s t=>s.id<t.id)/\(∀s ∈ l.dropLast,jf s=true)/\(dK l).Nodup:=by
 unfold eu;rw[cm,cm,zN,decide_eq_true_eq,decide_eq_true_eq];constructor
 ·rintro⟨h1,⟨h2,h3,h4⟩,h5⟩;exact⟨h1,h2,h3,h4,h5⟩
 ·rintro⟨h1,h2,h3,h4,h5⟩;exact⟨h1,⟨h2,h3,h4⟩,h5⟩
theorem sJ (s:SN) (bl ar:Int):jw s bl ar=true↔kA s.ch bl=true/\gB s.tb bl ar=true/\∀p ∈ s.tb,dE s.ch p.1=true:=by
 unfold jw;rw[cm,cm,iZ]
theorem IT {l:List SN} {id:Int}:∀{k:Nat},0<=mq l id k->∃s ∈ l,s.id=id:=by
 induction l with
 | nil=>intro k h;exact absurd h (by unfold mq;decide)
 | cons s l ih=>
  intro k h;unfold mq at h;by_cases e:s.id=id
  ·exact⟨s,dC ..,e⟩
  ·rw[if_neg e]at h;obtain⟨t,ht,e2⟩:=ih h;exact⟨t,ea _ ht,e2⟩
theorem zO {l:List SN} {a:Int}:li l a=true↔∃s ∈ l,∃p ∈ s.tb,p.2=a:=by
 unfold li dK;rw[List.contains_iff_mem,List.mem_flatten];constructor
 ·rintro⟨x,hx,ha⟩;obtain⟨s,hs,rfl⟩:=cM.1 hx;obtain⟨p,hp,e⟩:=cM.1 ha;exact⟨s,hs,p,hp,e⟩
 ·rintro⟨s,hs,p,hp,e⟩;exact⟨_,cM.2 ⟨s,hs,rfl⟩,cM.2 ⟨p,hp,e⟩⟩
theorem IU {pr:List (Int×Int)} (h:∀i,i<pr.length->i=0\/(pr[i - 1]?.getD (0,0)).1< (pr[i]?.getD (0,0)).1):gP pr:=by
 refine List.pairwise_iff_getElem.2 fun i j hi hj hij=> ?_;have key:∀n,∀(hi:i<pr.length) (hj:i+n+1<pr.length),pr[i].1<pr[i+n+1].1:=by
  intro n
  induction n with
  | zero=>
   intro hi hj;rcases h (i+1) hj with e | e
   ·omega
   ·rw[Nat.add_sub_cancel,aZ hi,aZ hj]at e;exact e
  | succ n ih=>
   intro hi hj;have h1:=ih hi (by omega);rcases h (i+(n+1)+1) hj with e | e
   ·omega
   ·rw[Nat.add_sub_cancel,aZ (by omega),aZ hj]at e;have e2:pr[i+(n+1)].1<pr[i+(n+1)+1].1:=e;exact Int.lt_trans h1 e2
 have:=key (j - i - 1) hi (by omega);have e:i+(j - i - 1)+1=j:=by omega
 simp only[e]at this;exact this
theorem IV {g:SG} (hg:g.Ok) {tb:List (Int×Int)} (h:gB tb (g.b:Int) (g.a:Int)=true):PrIn g tb:=by
 obtain⟨h1,h2,h3⟩:=(vb _ _ _).1 h;have:=hg.a200;exact⟨h2,fun p hp=>⟨(h1 p hp).1,(h1 p hp).2.1⟩,fun p hp=>by have:=h1 p hp;omega⟩
theorem zP {g:SG} (hg:g.Ok) {l:List SN} (h:eu l (g.b:Int) (g.a:Int)=true):l.length<=8/\∀t ∈ l,SnIn g t:=by
 obtain⟨h1,h2, -⟩:=(sI _ _ _).1 h;refine⟨h1,fun t ht=> ?_⟩;obtain⟨a1,a2,a3⟩:=h2 t ht;obtain⟨b1,b2,b3⟩:=(sJ _ _ _).1 a3;refine⟨by omega,a2, ?_,IV hg b2⟩;unfold kA at b1;rw[cm,decide_eq_true_eq]at b1;exact b1.1
theorem zQ {g:SG} (hg:g.Ok) {kd:Int} {l:List SN} (hl:eu l (g.b:Int) (g.a:Int)=true) {pr:List (Int×Int)} (h:oV g kd l pr=true):PrIn g pr:=by
 unfold oV at h;rw[iZ]at h;have hi:∀i,i<pr.length->nF g kd l pr i=true:=fun i hi=>h i (dJ.2 hi);have ha:=hg.a200;have hat:∀i (h:i<pr.length),pr[i]?.getD (0,0)=pr[i]:=fun i h=>by rw[aZ h];rfl
 refine⟨IU fun i hlt=> ?_,fun p hp=> ?_,fun p hp=> ?_⟩
 ·have:=hi i hlt;unfold nF at this;simp only[cm,Bool.or_eq_true,decide_eq_true_eq]at this;exact this.1.2
 ·obtain⟨i,hlt,rfl⟩:=List.getElem_of_mem hp;have:=hi i hlt;unfold nF at this;simp only[cm,Bool.or_eq_true,decide_eq_true_eq,hat i hlt]at this;exact this.1.1
 ·obtain⟨i,hlt,rfl⟩:=List.getElem_of_mem hp;have:=hi i hlt;unfold nF at this;rw[cm]at this;have h2:=this.2;rw[hat i hlt]at h2;by_cases e:kd=1
  ·rw[if_pos e]at h2;obtain⟨s,hs,q,hq,e2⟩:=zO.1 h2;have hq2:=((zP hg hl).2 s hs).tb;obtain⟨-,k2, -⟩:=(sI _ _ _).1 hl;obtain⟨-, -,a3⟩:=k2 s hs;obtain⟨-,b2, -⟩:=(sJ _ _ _).1 a3;obtain⟨c1, -, -⟩:=(vb _ _ _).1 b2;have:=c1 q hq;rw[←e2];omega
  ·rw[if_neg e]at h2;simp only[Bool.or_eq_true,cm,beq_iff_eq,decide_eq_true_eq]at h2;rcases h2 with h2 | h2
   ·omega
   ·have:=h2.1.1;omega
theorem pj {g:SG} (hg:g.Ok) {s:ST} (h:fE g s=true):StIn g s:=by
 unfold fE at h;simp only[cm,decide_eq_true_eq]at h;obtain⟨⟨⟨⟨⟨h1,h2⟩,h3⟩,h4⟩,h5⟩,h6⟩:=h;obtain⟨l1,l2⟩:=zP hg h2;have hd:s.d.length=g.slots:=by
  unfold fV at h1;rw[cm,decide_eq_true_eq]at h1;exact h1.1
 have hp:(s.kd=0/\s.id=0/\s.pr= [])\/(s.kd=1/\0<=kV s.sn s.id/\PrIn g s.pr)\/(s.kd=2/\s.nx<=s.id/\s.id<=1000000/\PrIn g s.pr):=by
  unfold iP at h6;by_cases k0:s.kd=0
  ·rw[if_pos k0,cm,decide_eq_true_eq,beq_iff_eq]at h6;exact aA ⟨k0,h6.1,List.length_eq_zero_iff.1 h6.2⟩
  ·rw[if_neg k0]at h6;by_cases k1:s.kd=1
   ·rw[if_pos k1,cm,decide_eq_true_eq]at h6;exact aD (aA ⟨k1,h6.1,zQ hg h2 h6.2⟩)
   ·rw[if_neg k1]at h6;by_cases k2:s.kd=2
    ·rw[if_pos k2]at h6;simp only[cm,decide_eq_true_eq]at h6;exact aD (aD ⟨k2,h6.1.1.1.1,h6.1.1.1.2,zQ hg h2 h6.2⟩)
    ·rw[if_neg k2]at h6;cases h6
 have hid:0<=s.id/\s.id<=1000000/\0<=s.kd/\PrIn g s.pr:=by
  rcases hp with⟨a,b,c⟩ | ⟨a,b,c⟩ | ⟨a,b,c,d⟩
  ·exact⟨by omega,by omega,by omega,by rw[c];exact⟨List.Pairwise.nil,(fun p hp=>absurd hp lM),(fun p hp=>absurd hp lM)⟩⟩
  ·obtain⟨t,ht,e⟩:=IT b;have:=l2 t ht;exact⟨by rw[←e];exact this.id0,by rw[←e];exact this.id1,by omega,c⟩
  ·exact⟨by omega,c,by omega,d⟩
 exact⟨hd,l1,l2,by omega,by omega,hid.2.2.1,hid.1,hid.2.1,hid.2.2.2⟩
theorem zR {g:SG} (hg:g.Ok) {s:ST} (h:fE g s=true):iy g (bK g s)=some s:=by
 have hi:=pj hg h;obtain⟨e1,e2⟩:=Hv hi;unfold iy;rw[e1,if_pos ⟨vh hi.dl (fun t ht=>(hi.sn t ht).ch),by rw[e2];have:=hi.sl;omega,h,rfl⟩]
theorem zS {g:SG} {bs:List Int} {s:ST} (h:iy g bs=some s):fE g s=true/\bK g s=bs:=by
 unfold iy at h;split at h
 ·rename_i c;cases h;exact⟨c.2.2.1,c.2.2.2⟩
 ·cases h
theorem vJ (n:Nat):aP (bg n 0):=fun j=>by
 by_cases h:j<n
 ·simp[h]
 ·simp[h]
theorem IW (n i:Nat):gM (bg n 0) i=false:=by
 unfold gM;by_cases h:i / 8<n
 ·simp[h]
 ·simp[h]
def gE (bs xs:List Int):List Int:=xs.foldl gO bs
theorem vK (bs xs:List Int) (x:Int):gE bs (xs++ [x])=gO (gE bs xs) x:=by unfold gE;rw[List.foldl_append];rfl
theorem qk:∀(xs bs:List Int),(gE bs xs).length=bs.length
 | [],bs=>rfl
 | x::xs,bs=>by
  show(gE (gO bs x) xs).length=_;rw[qk xs,yc]
theorem ql:∀(xs bs:List Int),aP bs->aP (gE bs xs)
 | [],bs,h=>h
 | x::xs,bs,h=>ql xs (gO bs x) (FI h x)
theorem IX (bs:List Int) (i a:Int):dE (gO bs i) a=(dE bs a||(decide (i=a)&&decide (0<=a/\a / 8<bs.length))):=by
 unfold dE;rw[FJ];rw[iY];simp only[cm,Bool.or_eq_true,decide_eq_true_eq,beq_iff_eq];constructor
 ·rintro⟨h0,h | ⟨h1,h2⟩⟩
  ·exact aA ⟨h0,h⟩
  ·exact aD ⟨by omega,by omega⟩
 ·rintro(⟨h0,h⟩ | ⟨rfl,h1⟩)
  ·exact⟨h0,aA h⟩
  ·exact⟨h1.1,aD ⟨h1,rfl⟩⟩
theorem sK:∀(xs bs:List Int) (a:Int),dE (gE bs xs) a=(dE bs a||(xs.contains a&&decide (0<=a/\a / 8<bs.length)))
 | [],bs,a=>by simp[gE]
 | x::xs,bs,a=>by
  show dE (gE (gO bs x) xs) a=_;rw[sK xs,IX,yc,List.contains_cons];rw[iY];simp only[cm,Bool.or_eq_true,decide_eq_true_eq,beq_iff_eq];constructor
  ·rintro((h | ⟨rfl,h⟩) | ⟨h1,h2⟩)
   ·exact aA h
   ·exact aD ⟨aA rfl,h⟩
   ·exact aD ⟨aD h1,h2⟩
  ·rintro(h | ⟨rfl | h1,h2⟩)
   ·exact aA (aA h)
   ·exact aA (aD ⟨rfl,h2⟩)
   ·exact aD ⟨h1,h2⟩
theorem zT (n:Nat) (a:Int):dE (bg n 0) a=false:=by
 unfold dE;rw[IW,Bool.and_false]
theorem vL {n a:Int} (h1:n<=4096) (h2:0<=a) (h3:a<n):a / 8< (fa n:Int):=by
 unfold fa;rw[if_neg (by omega)];omega
def ii (g:SG) (d:List Int) (k:Nat):List Int:=gE (bg g.n9 0) ((d.take k).filter fun x=> !(x== -1))
theorem IZ (g:SG) (d:List Int):ii g d 0=bg g.n9 0:=by unfold ii;simp[gE]
theorem Ja (g:SG) (d:List Int) (k:Nat):(ii g d k).length=g.n9:=by unfold ii;rw[qk,iq]
theorem zU (g:SG) (d:List Int) (k:Nat):aP (ii g d k):=ql _ _ (vJ _)
theorem zW {d:List Int} {k:Nat} (h:k<d.length):d.take (k+1)=d.take k++ [d[k]?.getD 0]:=by
 rw[jZ,aZ h];rfl
theorem Jb (g:SG) {d:List Int} {k:Nat} (h:k<d.length) (hx:d[k]?.getD 0= -1):ii g d (k+1)=ii g d k:=by
 unfold ii;rw[zW h,lG,hx];simp
theorem Jc (g:SG) {d:List Int} {k:Nat} (h:k<d.length) (hx:d[k]?.getD 0≠ -1):ii g d (k+1)=gO (ii g d k) (d[k]?.getD 0):=by
 unfold ii;rw[zW h,lG,←vK]
 congr 1
 have:(!(d[k]?.getD 0== -1))=true:=by simpa using hx
 rw[List.filter_cons,if_pos this,List.filter_nil]
theorem Jd {g:SG} (hg:g.Ok) (d:List Int) (k:Nat) {x:Int} (h0:0<=x) (h1:x< (g.b:Int)):dE (ii g d k) x=(d.take k).contains x:=by
 unfold ii;have:=hg.b64;have hs:decide (0<=x/\x / 8< ((bg g.n9 (0:Int)).length:Int))=true:=by
  rw[decide_eq_true_eq,iq];exact⟨h0,vL (by omega) h0 h1⟩
 rw[sK,zT,hs,Bool.false_or,Bool.and_true,iY,List.contains_iff_mem,List.contains_iff_mem,lH];constructor
 ·exact fun h=>h.1
 ·exact fun h=>⟨h,by simp;omega⟩
theorem Je {g:SG} (hg:g.Ok) {d:List Int} {k:Nat} {x:Int} (hx:d[k]?.getD 0=x) (hm:x≠ -1):
  km g d k=(decide (0<=x/\x<=(g.b:Int) - 1)&&((x%(g.s:Int)==(k:Int) / (g.y:Int))&& !(dE (ii g d k) x))):=by
 unfold km;rw[hx];have e1:(x== -1)=false:=by simpa using hm
 rw[e1,Bool.false_or];by_cases h0:0<=x/\x< (g.b:Int)
 ·rw[Jd hg d k h0.1 h0.2];have a1:decide (0<=x)=true:=by simpa using h0.1
  have a2:decide (x< (g.b:Int))=true:=by simpa using h0.2
  have a3:decide (0<=x/\x<=(g.b:Int) - 1)=true:=by rw[decide_eq_true_eq];omega
  rw[a1,a2,a3,jX,jX,jX]
 ·have a3:decide (0<=x/\x<=(g.b:Int) - 1)=false:=by rw[decide_eq_false_iff_not];omega
  have a4:(decide (0<=x)&&decide (x< (g.b:Int)))=false:=by
   rw[Bool.eq_false_iff,ne_eq,cm,decide_eq_true_eq,decide_eq_true_eq];exact h0
  rw[a3,a4];simp
def lm (b:Nat) (pr:List (Int×Int)) (i:Nat):Bool:=decide (0<=(pr[i]?.getD (0,0)).1)&&decide ((pr[i]?.getD (0,0)).1< (b:Int))&&(decide (i=0)||decide ((pr[i - 1]?.getD (0,0)).1< (pr[i]?.getD (0,0)).1))
def jn (b:Nat) (pr:List (Int×Int)):Bool:=(cI pr.length).all (lm b pr)
def pk (pr:List (Int×Int)) (k:Nat):Int:=if k=0 then 0 else(pr[k - 1]?.getD (0,0)).1+1
theorem Jf {pr:List (Int×Int)} {k:Nat} {p:Int×Int} (h:pr[k]? =some p):pk pr (k+1)=p.1+1:=by
 unfold pk;rw[if_neg (by omega),Nat.add_sub_cancel,h];rfl
theorem Jg {b:Nat} {pr:List (Int×Int)} {k:Nat} {p:Int×Int} (h:pr[k]? =some p) (hr:∀i,i<k->lm b pr i=true):
  lm b pr k=decide (pk pr k<=p.1/\p.1<=(b:Int) - 1):=by
 unfold lm pk;rw[h];simp only[Option.getD_some];cases k with
 | zero=>
  simp;rw[iY];simp only[cm,decide_eq_true_eq];omega
 | succ k=>
  have h1:=hr k (Nat.lt_succ_self _);unfold lm at h1;simp only[cm,decide_eq_true_eq]at h1;rw[if_neg (by omega),Nat.add_sub_cancel];rw[iY];simp only[cm,Bool.or_eq_true,decide_eq_true_eq];omega
theorem Jh {b:Nat} {pr:List (Int×Int)} {k:Nat} (hk:k<pr.length) (h:lm b pr k=false):jn b pr=false:=by
 unfold jn;rw[List.all_eq_false];exact⟨k,dJ.2 hk,by rw[h];decide⟩
theorem Ji {b:Nat} {pr:List (Int×Int)} (h:∀k,k<pr.length->lm b pr k=true):jn b pr=true:=by
 unfold jn;rw[iZ];exact fun k hk=>h k (dJ.1 hk)
def fN (g:SG) (l:List SN):List Int:=gE (bg (fa (g.a:Int)) 0) (dK l)
theorem zX (g:SG) (l:List SN):(fN g l).length=fa (g.a:Int):=by unfold fN;rw[qk,iq]
theorem zY (g:SG) (l:List SN):aP (fN g l):=ql _ _ (vJ _)
theorem vM {g:SG} (hg:g.Ok) {l:List SN} (hl:eu l (g.b:Int) (g.a:Int)=true) (x:Int):dE (fN g l) x=li l x:=by
 unfold fN;rw[sK,zT,Bool.false_or,iq];show _=(dK l).contains x;cases h:(dK l).contains x with
 | false=>rfl
 | true=>
  have h2:li l x=true:=h;obtain⟨s,hs,p,hp,e⟩:=zO.1 h2;obtain⟨-,k2, -⟩:=(sI _ _ _).1 hl;obtain⟨-, -,a3⟩:=k2 s hs;obtain⟨-,b2, -⟩:=(sJ _ _ _).1 a3;obtain⟨c1, -, -⟩:=(vb _ _ _).1 b2;have:=c1 p hp;have ha:=hg.a200;rw[jX,decide_eq_true_eq];exact⟨by omega,vL (by omega) (by omega) (by omega)⟩
def ln (set:List Int) (pr:List (Int×Int)):Bool:=pr.all fun p=>dE set p.2
def fj (set:List Int) (pr:List (Int×Int)) (k:Nat):List Int:=gE set (((pr.take k).map (·.2)).filter fun x=> !(x==255))
theorem Jj (set:List Int) (pr:List (Int×Int)):fj set pr 0=set:=by unfold fj;simp[gE]
theorem Jk (set:List Int) (pr:List (Int×Int)) (k:Nat):(fj set pr k).length=set.length:=by unfold fj;rw[qk]
theorem zZ {set:List Int} (h:aP set) (pr:List (Int×Int)) (k:Nat):aP (fj set pr k):=ql _ _ h
theorem Jl (set:List Int) {pr:List (Int×Int)} {k:Nat} {p:Int×Int} (h:pr[k]? =some p) (hx:p.2=255):fj set pr (k+1)=fj set pr k:=by
 unfold fj;rw[je h,ec,lG];simp[hx]
theorem Jm (set:List Int) {pr:List (Int×Int)} {k:Nat} {p:Int×Int} (h:pr[k]? =some p) (hx:p.2≠255):fj set pr (k+1)=gO (fj set pr k) p.2:=by
 unfold fj;rw[je h,ec,lG,←vK]
 congr 1
 have:(!(p.2==255))=true:=by simpa using hx
 rw[List.map_cons,List.map_nil,List.filter_cons,if_pos this,List.filter_nil]
def lQ (g:SG) (set:List Int) (pr:List (Int×Int)) (i:Nat):Bool:=((pr[i]?.getD (0,0)).2==255)||(decide (0<=(pr[i]?.getD (0,0)).2/\(pr[i]?.getD (0,0)).2<=(g.a:Int) - 1)&& !(dE (fj set pr i) (pr[i]?.getD (0,0)).2))
def jK (g:SG) (set:List Int) (pr:List (Int×Int)):Bool:=(cI pr.length).all (lQ g set pr)
theorem Aa {g:SG} {set:List Int} {pr:List (Int×Int)} {k:Nat} (hk:k<pr.length) (h:lQ g set pr k=false):jK g set pr=false:=by
 unfold jK;rw[List.all_eq_false];exact⟨k,dJ.2 hk,by rw[h];decide⟩
theorem Jn {g:SG} {set:List Int} {pr:List (Int×Int)} (h:∀k,k<pr.length->lQ g set pr k=true):jK g set pr=true:=by
 unfold jK;rw[iZ];exact fun k hk=>h k (dJ.1 hk)
theorem Jo {g:SG} {set:List Int} {pr:List (Int×Int)} {k:Nat} {p:Int×Int} (h:pr[k]? =some p):lQ g set pr k=((p.2==255)||(decide (0<=p.2/\p.2<=(g.a:Int) - 1)&& !(dE (fj set pr k) p.2))):=by
 unfold lQ;rw[h];rfl
def mC (l:List SN):Bool:=match l.getLast? with
 | none=>true
 | some s=>jf s
theorem Jp {l:List SN} {bl ar:Int} (h:eu l bl ar=true):mC l=vd l:=by
 unfold mC vd;cases e:l.getLast? with
 | none=>rfl
 | some s=>
  obtain⟨-,k2, -⟩:=(sI _ _ _).1 h;obtain⟨-, -,a3⟩:=k2 s (List.mem_of_getLast? e);obtain⟨b1,b2,b3⟩:=(sJ _ _ _).1 a3;show jf s=_;rw[Hr b2 b3];unfold rF
  congr 1
  funext c
  unfold mP;rw[List.findIdx?_isSome]
def vN (g:SG) (s:ST):Bool:=
 if s.kd=0 then(s.id==0)&&decide (s.pr.length=0)
 else if s.kd=1 then decide (0<=kV s.sn s.id)&&(jn g.b s.pr&&ln (fN g s.sn) s.pr)
 else if s.kd=2 then decide (s.sn.length<8)&&(mC s.sn&&(decide (s.nx<=s.id/\s.id<=1000000)&&(jn g.b s.pr&&jK g (fN g s.sn) s.pr)))
 else false
theorem Ab {g:SG} (hg:g.Ok) {l:List SN} (hl:eu l (g.b:Int) (g.a:Int)=true) (kd:Int) (pr:List (Int×Int)):
  oV g kd l pr=(jn g.b pr&&(if kd=1 then ln (fN g l) pr else jK g (fN g l) pr)):=by
 rw[iY];unfold oV jn;simp only[cm,iZ,dJ];have hp:∀i,nF g kd l pr i=(lm g.b pr i&&(if kd=1 then li l (pr[i]?.getD (0,0)).2 else((pr[i]?.getD (0,0)).2==255)||(decide (0<=(pr[i]?.getD (0,0)).2)&&decide ((pr[i]?.getD (0,0)).2< (g.a:Int))&& !(li l (pr[i]?.getD (0,0)).2)&& !((pr.take i).any fun p=>p.2==(pr[i]?.getD (0,0)).2)))):=fun i=>rfl;have hsplit:(∀i,i<pr.length->nF g kd l pr i=true)↔(∀i,i<pr.length->lm g.b pr i=true)/\(∀i,i<pr.length->(if kd=1 then li l (pr[i]?.getD (0,0)).2 else((pr[i]?.getD (0,0)).2==255)||(decide (0<=(pr[i]?.getD (0,0)).2)&&decide ((pr[i]?.getD (0,0)).2< (g.a:Int))&& !(li l (pr[i]?.getD (0,0)).2)&& !((pr.take i).any fun p=>p.2==(pr[i]?.getD (0,0)).2)))=true):=by
  constructor
  ·intro h;exact⟨fun i hi=>by have:=h i hi;rw[hp,cm]at this;exact this.1,fun i hi=>by have:=h i hi;rw[hp,cm]at this;exact this.2⟩
  ·intro h i hi;rw[hp,cm];exact⟨h.1 i hi,h.2 i hi⟩
 rw[hsplit];refine and_congr_right fun _=> ?_;by_cases k1:kd=1
 ·simp only[if_pos k1];unfold ln;rw[iZ];constructor
  ·intro h p hp;obtain⟨i,hi⟩:=jY hp;have:=h i (bZ.1 hi).1;rw[hi]at this;rw[vM hg hl];exact this
  ·intro h i hi;have:=h pr[i] (List.getElem_mem hi);rw[vM hg hl]at this;rw[aZ hi];exact this
 ·simp only[if_neg k1];unfold jK;rw[iZ];have key:∀i,i<pr.length->lQ g (fN g l) pr i=(((pr[i]?.getD (0,0)).2==255)||(decide (0<=(pr[i]?.getD (0,0)).2)&&decide ((pr[i]?.getD (0,0)).2< (g.a:Int))&& !(li l (pr[i]?.getD (0,0)).2)&& !((pr.take i).any fun p=>p.2==(pr[i]?.getD (0,0)).2))):=by
   intro i hi;unfold lQ;obtain⟨b,hb⟩:=w9nm ((pr[i]?.getD (0,0)).2);rw[hb];by_cases h5:b=255
   ·rw[h5];rfl
   ·have e5:(b==255)=false:=by simpa using h5
    rw[e5,Bool.false_or,Bool.false_or];by_cases hr:0<=b/\b< (g.a:Int)
    ·have a1:decide (0<=b/\b<=(g.a:Int) - 1)=true:=by rw[decide_eq_true_eq];omega
     have a2:decide (0<=b)=true:=by simpa using hr.1
     have a3:decide (b< (g.a:Int))=true:=by simpa using hr.2
     have ha:=hg.a200;rw[a1,a2,a3,jX,jX,jX];unfold fj;rw[sK,vM hg hl,Bool.not_or]
     congr 2
     have a4:decide (0<=b/\b / 8< ((fN g l).length:Int))=true:=by
      rw[decide_eq_true_eq,zX];exact⟨hr.1,vL (by omega) hr.1 hr.2⟩
     rw[a4,Bool.and_true,iY,List.contains_iff_mem,lH,cM,List.any_eq_true];constructor
     ·rintro⟨⟨p,hp,e⟩, -⟩;exact⟨p,hp,by simpa using e⟩
     ·rintro⟨p,hp,e⟩;exact⟨⟨p,hp,by simpa using e⟩,by simpa using h5⟩
    ·have a1:decide (0<=b/\b<=(g.a:Int) - 1)=false:=by rw[decide_eq_false_iff_not];omega
     have a4:(decide (0<=b)&&decide (b< (g.a:Int)))=false:=by
      rw[Bool.eq_false_iff,ne_eq,cm,decide_eq_true_eq,decide_eq_true_eq];exact hr
     rw[a1,a4];simp
  constructor
  ·intro h i hi;have hi:=dJ.1 hi;rw[key i hi];exact h i hi
  ·intro h i hi;rw[←key i hi];exact h i (dJ.2 hi)
theorem Jq {g:SG} (hg:g.Ok) {s:ST} (hl:eu s.sn (g.b:Int) (g.a:Int)=true):vN g s=iP g s:=by
 unfold vN iP;by_cases k0:s.kd=0
 ·rw[if_pos k0,if_pos k0]
 ·rw[if_neg k0,if_neg k0];by_cases k1:s.kd=1
  ·rw[if_pos k1,if_pos k1,Ab hg hl,if_pos k1]
  ·rw[if_neg k1,if_neg k1];by_cases k2:s.kd=2
   ·rw[if_pos k2,if_pos k2,Ab hg hl,if_neg k1,Jp hl];rw[iY];simp only[cm,decide_eq_true_eq];constructor
    ·rintro⟨a,b,⟨c,c'⟩,d⟩;exact⟨⟨⟨⟨c,c'⟩,a⟩,b⟩,d⟩
    ·rintro⟨⟨⟨⟨c,c'⟩,a⟩,b⟩,d⟩;exact⟨a,b,⟨c,c'⟩,d⟩
   ·rw[if_neg k2,if_neg k2]
theorem qm {g:SG} (hg:g.Ok):fa (g.b:Int)<=8:=by
 have:=hg.b1;have:=hg.b64;unfold fa;rw[if_neg (by omega)];omega
section
theorem qn (n lo hi:Int) (w:ah):ap aj 272 #[ab ac n,ab ac lo,ab ac hi] w fun e w'=>e=ao (.bool (decide (lo<=n/\n<=hi)))/\w'=w:=by
 obtain⟨z,hz⟩:=w9nm (decide (lo<=n/\n<=hi));by_cases h1:lo<=n
 ·have g1:decide (lo<=n)=true:=by simpa using h1
  have g1':decide (n≥lo)=true:=g1;have g2:decide (n<=hi)=z:=by rw[←hz];simp[h1]
  rw[hz];clear hz;go_enter func272,ntmps272;go_wp2_with fail;go_ret;first | exact⟨rfl,rfl⟩ | exact⟨by rw[←g2],rfl⟩ | exact⟨by rw[g2],rfl⟩
 ·have g1:decide (lo<=n)=false:=by simpa using h1
  have g1':decide (n≥lo)=false:=g1;have hzz:z=false:=by rw[←hz];simp[h1]
  rw[hz,hzz];clear hz hzz;go_enter func272,ntmps272;go_wp2_with fail;go_ret;exact⟨rfl,rfl⟩
theorem Ac (n:Int) (h0: -1<=n) (h1:n<=255) (h2:n≠254) (w:ah):ap aj 175 #[ab ac n] w fun e w'=>e=ao (ab ay (fK n))/\w'=w:=by
 obtain⟨z,hz⟩:=w9nm (fK n);rw[hz];by_cases h:n=255
 ·subst h;have:z=255:=by rw[←hz];rfl
  subst this;clear hz;go_enter func175,ntmps175;go_wp2_with fail;go_ret;exact⟨rfl,rfl⟩
 ·have e1:(n==255)=false:=by simpa using h
  have e2:z=n+1:=by rw[←hz];unfold fK;rw[if_neg h]
  have e3:0<=n+1:=by omega
  have e4:n+1<256:=by omega
  have HZ:=ae e2;clear hz e2 h;go_enter func175,ntmps175;go_wp2_with fail;go_ret;rw[HZ.out];exact⟨by first | rfl | (congr 2;omega),rfl⟩
theorem Ad (c:Nat) (h1:c<256) (w:ah):ap aj 256 #[ab ay (c:Int)] w fun e w'=>e=ao (ab ac (ff (c:Int)))/\w'=w:=by
 obtain⟨z,hz⟩:=w9nm (ff (c:Int));rw[hz];by_cases h:c=255
 ·subst h;have:z=255:=by rw[←hz];rfl
  subst this;clear hz;go_enter func256,ntmps256;go_wp2_with fail;go_ret;exact⟨rfl,rfl⟩
 ·have e1:((c:Int)==255)=false:=by simp;omega
  have e2:z=(c:Int) - 1:=by rw[←hz];unfold ff;rw[if_neg (by omega)]
  have HZ:=ae e2;clear hz e2 h;go_enter func256,ntmps256;go_wp2_with fail;go_ret;rw[HZ.out];exact⟨rfl,rfl⟩
theorem vO (g:SG) (hg:g.Ok) (r:Int) (w:ah):ap aj 171 #[al (g.v r)] w fun e w'=>e=ao (ab ac (g.slots:Int))/\ag w.heap.size w w':=by
 obtain⟨W,hW⟩:=w9nm (w.alloc (an (g.v r) 23));have hr:aq W w.heap.size 23 [ab ac (g.b:Int),ab ac (g.s:Int),ab ac (g.y:Int),ab ac (g.a:Int),ab ac r]:=by rw[←hW];exact aq.new w _ _
 have HB:Hid (ag w.heap.size w W):=by show ag _ _ _;rw[←hW];exact aH w _
 have c1:=hr.cell 1 _ rfl;have c2:=hr.cell 2 _ rfl;have h4:=hg.s8;have h6:=hg.y4;obtain⟨z,hz⟩:=w9nm (g.s*g.y);have hzi:(g.s:Int)*(g.y:Int)=(z:Int):=by rw[←hz];simp
 have hz32:z<=32:=by rw[←hz];exact bm (kP h4 h6) (by decide)
 have HZ:Hid (g.slots=z):=hz;rw[HZ.out];clear hr hz;unfold SG.v at *;go_enter func171,ntmps171;go_wp2_with fail;go_ret;exact⟨rfl,HB.out⟩
end
theorem Jr {w:ah} {v:ak} {d:List Int} (g:SG) (hg:g.Ok) (r:Int) (hv:Sl ac w v d) (hd:∀x ∈ d,fG x):
  ap aj 243 #[al (g.v r),v] w fun e w'=>e=ao (.bool (fV g d))/\ag w.heap.size w w':=by
 obtain⟨a,c,rfl, -⟩:=id hv;obtain⟨hn,hm,hcell⟩:=hv.cellI;obtain⟨n,hnn⟩:=w9nm d.length;rw[hnn]at hn hm hcell ⊢;clear hn hv;obtain⟨B,hB⟩:=w9nm w.heap.size;obtain⟨W,hW⟩:=w9nm (w.alloc (an (g.v r) 23));have hrow:aq W B 23 [ab ac (g.b:Int),ab ac (g.s:Int),ab ac (g.y:Int),ab ac (g.a:Int),ab ac r]:=by rw[←hW,←hB];exact aq.new _ _ _
 have HB:Hid (ag B w W):=by show ag B w W;rw[←hW,←hB];exact aH _ _
 have HSZ:=ae hB;have KG:Hid (∀x:ah,ag W.heap.size W x->x.cell? ⟨B,0,none⟩=some (ab ac (g.b:Int))/\x.cell? ⟨B,1,none⟩=some (ab ac (g.s:Int))/\x.cell? ⟨B,2,none⟩=some (ab ac (g.y:Int))):=fun x hx=>
  ⟨(hrow.below hx).cell 0 _ rfl,(hrow.below hx).cell 1 _ rfl,(hrow.below hx).cell 2 _ rfl⟩
 have c3:=hrow.cell 3 _ rfl;have c4:=hrow.cell 4 _ rfl;have KD:Hid (0<n->∃b o,a=some ⟨b,o,none⟩/\∀x:ah,ag W.heap.size W x->∀j,j<n->x.cell? ⟨b,o+j,none⟩=some (ab ac (d[j]?.getD 0))):=fun h0=>by
  obtain⟨b,o,e1,e2⟩:=hcell h0;exact⟨b,o,e1,fun x hx j hj=>e2 x (by have h1:=HB.out;have h2:=HSZ.out;rw[h2];exact h1.trans (hx.mono (by have:=h1.size;omega))) j hj⟩
 have h1:=hg.b1;have h2:=hg.b64;have h3:=hg.s1;have h4:=hg.s8;have h5:=hg.y1;have h6:=hg.y4;have HNN:=ae hnn;have HM:Hid (n<=aY):=hm;obtain⟨z,hz⟩:=w9nm g.slots;have hz32:z<=32:=by rw[←hz];exact bm (kP h4 h6) (by decide)
 have HZ:=ae hz;have HSC:=ae (vO g hg r W);have HNW:Hid (∀x:ah,ap aj 176 #[ab ac (g.b:Int)] x fun e w'=>∃v,e=ao v/\Sl ay w' v (bg g.n9 0)/\ag x.heap.size x w'):=fun x=>rJ (g.b:Int) x;rw[hz]at HSC;obtain⟨c0,c1,c2⟩:=KG.out W (aI _ _);have HWB:Hid (B<=W.heap.size):=by show B<=W.heap.size;have:=HB.out.size;have:=HSZ.out;omega
 have HDI:Hid (∀x ∈ d,fG x):=hd;clear hrow hcell hnn hm hz hd;by_cases hlen:n=z
 ·subst hlen;have g0:((n:Int)==(n:Int))=true:=by simp
  have g00:((n:Int) !=(n:Int))=false:=by simp
  unfold SG.v at *;go_enter func243,ntmps243;go_wp2_with fail;refine HSC.out.mono ?_;rintro e x1 ⟨rfl,hx1⟩;have H1:w9h W x1:=hx1;clear hx1 c0 c1 c2 c3 c4 HSC;obtain⟨c0, -, -⟩:=KG.out x1 H1.out;go_wp2_with fail;refine(HNW.out x1).mono ?_;rintro e x2 ⟨v0,rfl,hv0,hx2⟩;have HV0:=ae hv0;have H2:=w9bt H1 hx2;clear hv0 hx2 c0 H1 HNW;go_wp2_with fail;have HLen:Hid (d.length=g.slots):=by show _=_;rw[HNN.out,HZ.out]
  go_loopw [5,18] (fun sv iv wr=>∃k:Nat,k<=n/\iv=ab ac (k:Int)/\Hid (Sl ay wr sv (ii g d k))/\w9h W wr/\Hid (∀j,j<k->km g d j=true)) (fun _ iv _=>n - (aS iv).toNat)
  case atStart=>exact⟨0,bc _,rfl,by rw[IZ];exact HV0,H2,fun j hj=>absurd hj (Nat.not_lt_zero _)⟩
  case round=>
   obtain⟨k,hk,rfl,HSV,HBw,HP⟩:=hrel;by_cases hlt:k<n
   ·have q1:(k:Int)< (n:Int):=by omega
    have HLT:=ae hlt;obtain⟨ba,oa,rfl,HC⟩:=KD.out (by omega);have d0:=HC _ HBw.out k hlt;obtain⟨x,hx⟩:=w9nm (d[k]?.getD 0);rw[hx]at d0;have hxm:fG x:=by
     rw[←hx];exact HDI.out _ (by rw[aZ (show k<d.length by rw[HNN.out];exact hlt)];exact List.getElem_mem _)
    have HX:=ae hx;have HX6:=ae hxm;have hkd:Hid (k<d.length):=by show k<_;rw[HNN.out];exact hlt
    clear hx hxm;by_cases hm1:x= -1
    ·have q2:(x== -1)=true:=by simpa using hm1
     have HY:Hid (km g d k=true):=by show _=_;unfold km;rw[HX.out,q2];rfl
     have HS2:Hid (Sl ay wr u5 (ii g d (k+1))):=by show Sl _ _ _ _;rw[Jb g hkd.out (by rw[HX.out];exact hm1)];exact HSV.out
     clear hm1 hlt HSV;go_wp2_with fail;exact⟨⟨k+1,HLT.out,by simp,HS2,HBw,fun j hj=>by
      by_cases e:j=k
      ·subst e;exact HY.out
      ·exact HP.out j (by omega)⟩,by have:=HLT.out;simp[aS];omega⟩
    ·have q2:(x== -1)=false:=by simpa using hm1
     have e0:∀y:aM wr,y.1.cell? ⟨B,0,none⟩=some (ab ac (g.b:Int)):=fun y=>(KG.out _ (HBw.out.trans (y.2.mono HBw.out.size))).1;have e1:∀y:aM wr,y.1.cell? ⟨B,1,none⟩=some (ab ac (g.s:Int)):=fun y=>(KG.out _ (HBw.out.trans (y.2.mono HBw.out.size))).2.1;have e2:∀y:aM wr,y.1.cell? ⟨B,2,none⟩=some (ab ac (g.y:Int)):=fun y=>(KG.out _ (HBw.out.trans (y.2.mono HBw.out.size))).2.2;have HDT:=ae (Je hg HX.out hm1);obtain⟨tv,htv⟩:=w9nm (decide (0<=x/\x<=(g.b:Int) - 1));obtain⟨hv,hhv⟩:=w9nm (dE (ii g d k) x);have HWI:Hid (∀y:aM wr,ap aj 272 #[ab ac x,ab ac 0,ab ac ((g.b:Int) - 1)] y.1 fun e w''=>e=ao (.bool tv)/\∃z:aM wr,w''=z.1):=fun y=>(qn x 0 ((g.b:Int) - 1) y.1).mono fun e w' h=>⟨by rw[h.1,htv],y,h.2⟩;have HHS:Hid (∀y:aM wr,ap aj 273 #[u5,ab ac x] y.1 fun e w''=>e=ao (.bool hv)/\∃z:aM wr,w''=z.1):=fun y=>ny y (by rw[←hhv];exact rK _ _ x (nE HX6.out.1 HX6.out.2) y.1 (HSV.out.below y.2) (zU g d k));rw[htv,hhv]at HDT;cases tv with
     | false=>
      have HY:Hid (fV g d=false):=vk (k:=k) hkd.out (by rw[HDT.out];rfl);clear hm1 hlt htv hhv;go_wp2_with fail;refine ig (by kernel_rfl) (by kernel_rfl) ?_;repeat(go_big_quiet_step (with_reducible (first | exact HWI.out _ | exact HHS.out _)))
      try(with_reducible refine aV ?_)
      intro y;have HYB:Hid (ag W.heap.size W y.1):=HBw.out.trans (y.2.mono HBw.out.size);go_wp2_with fail;go_ret;rw[HY.out];exact⟨rfl,by rw[HSZ.out];exact HB.out.trans (HYB.out.mono HWB.out)⟩
     | true=>
      have hxr:0<=x/\x<=(g.b:Int) - 1:=of_decide_eq_true htv;obtain⟨xn,rfl⟩:∃xn:Nat,x=(xn:Int):=⟨x.toNat,by omega⟩;obtain⟨rm,hrm⟩:=w9nm (xn%g.s);obtain⟨qt,hqt⟩:=w9nm (k / g.y);have hrmi:(xn:Int)%(g.s:Int)=(rm:Int):=by rw[←hrm];simp
      have hqti:(k:Int) / (g.y:Int)=(qt:Int):=by rw[←hqt];simp
      have hqk:qt<=k:=by rw[←hqt];exact Nat.div_le_self _ _
      have hxn:xn<64:=by omega
      by_cases hC:rm=qt
      ·have q6:((rm:Int) !=(qt:Int))=false:=by simp;omega
       have HDT2:Hid (km g d k= !hv):=by
        show _=_;rw[HDT.out,hrmi,hqti,hC];simp
       cases hv with
       | true=>
        have HY:Hid (fV g d=false):=vk (k:=k) hkd.out (by rw[HDT2.out];rfl);clear hm1 hlt htv hhv hxr hrm hqt hC;go_wp2_with fail;refine ig (by kernel_rfl) (by kernel_rfl) ?_;repeat(go_big_quiet_step (with_reducible (first | exact HWI.out _ | exact HHS.out _)))
        try(with_reducible refine aV ?_)
        intro y;have HYB:Hid (ag W.heap.size W y.1):=HBw.out.trans (y.2.mono HBw.out.size);go_wp2_with fail;go_ret;rw[HY.out];exact⟨rfl,by rw[HSZ.out];exact HB.out.trans (HYB.out.mono HWB.out)⟩
       | false=>
        have HY:Hid (km g d k=true):=HDT2.out;have HWT:Hid (∀x:ah,ag wr.heap.size wr x->ap aj 92 #[u5,ab ac (xn:Int)] x fun e w'=>∃v',e=ao v'/\Sl ay w' v' (ii g d (k+1))/\ag x.heap.size x w'):=fun y hy=>by
         rw[Jc g hkd.out (by rw[HX.out];exact hm1),HX.out];exact uV _ _ _ (nE HX6.out.1 HX6.out.2) y (HSV.out.below hy) (zU g d k) (by rw[Ja];unfold SG.n9;have:=qm hg;omega)
        clear hm1 hlt htv hhv hxr hrm hqt hC;go_wp2_with fail;refine ig (by kernel_rfl) (by kernel_rfl) ?_;repeat(go_big_quiet_step (with_reducible (first | exact HWI.out _ | exact HHS.out _)))
        try(with_reducible refine aV ?_)
        intro y;have HYB:Hid (ag W.heap.size W y.1):=HBw.out.trans (y.2.mono HBw.out.size);have HW1:=ae (HWT.out y.1 y.2);clear e0 e1 e2 HWI HHS HWT d0;go_wp2_with fail;refine HW1.out.mono ?_;rintro e x3 ⟨v3,rfl,hv3,hx3⟩;have HS3:Hid (Sl ay x3 v3 (ii g d (k+1))):=hv3;have HB3:=w9bt HYB hx3;clear hv3 hx3 HW1;go_wp2_with fail;exact⟨⟨k+1,HLT.out,by simp,HS3,HB3,fun j hj=>by
         by_cases e:j=k
         ·subst e;exact HY.out
         ·exact HP.out j (by omega)⟩,by have:=HLT.out;simp[aS];omega⟩
      ·have q6:((rm:Int) !=(qt:Int))=true:=by simp;omega
       have HY:Hid (fV g d=false):=vk (k:=k) hkd.out (by
        rw[HDT.out,hrmi,hqti];have:((rm:Int)==(qt:Int))=false:=by simp;omega
        rw[this];simp)
       clear hm1 hlt htv hhv hxr hrm hqt hC;go_wp2_with fail;refine ig (by kernel_rfl) (by kernel_rfl) ?_;repeat(go_big_quiet_step (with_reducible (first | exact HWI.out _ | exact HHS.out _)))
       try(with_reducible refine aV ?_)
       intro y;have HYB:Hid (ag W.heap.size W y.1):=HBw.out.trans (y.2.mono HBw.out.size);go_wp2_with fail;go_ret;rw[HY.out];exact⟨rfl,by rw[HSZ.out];exact HB.out.trans (HYB.out.mono HWB.out)⟩
   ·obtain rfl:k=n:=by omega
    have HY:Hid (fV g d=true):=Hw HLen.out fun j hj=>HP.out j (by rw[HNN.out]at hj;exact hj);clear hlt;go_wp2_with fail;go_ret;rw[HY.out];exact⟨rfl,by rw[HSZ.out];exact HB.out.trans (HBw.out.mono HWB.out)⟩
 ·have g0:((n:Int) !=(z:Int))=true:=by simp;omega
  have HY:Hid (fV g d=false):=by
   show _=_;unfold fV;rw[HNN.out,HZ.out,decide_eq_false hlen]
   rfl
  unfold SG.v at *;clear hlen;go_enter func243,ntmps243;go_wp2_with fail;refine HSC.out.mono ?_;rintro e x1 ⟨rfl,hx1⟩;have H1:w9h W x1:=hx1;clear hx1 c0 c1 c2 c3 c4 HSC;go_wp2_with fail;go_ret;rw[HY.out];exact⟨rfl,by rw[HSZ.out];exact HB.out.trans (H1.out.mono HWB.out)⟩
end
section
attribute [-simp] isAgg90 zeroValue90 isAgg191 zeroValue191 isAgg47 zeroValue47
attribute [-go_sem] aE aL
attribute [local go_sem] iQ iR fB eJ en
def vP (b:Nat) (ps:List (Int×Int)):Prop:=∀p ∈ ps,0<=p.1/\p.1< (b:Int)/\0<=p.2/\(p.2=255\/p.2<254)
end
section
attribute [-simp] isAgg90 zeroValue90 isAgg191 zeroValue191 isAgg47 zeroValue47
attribute [-go_sem] aE aL
attribute [local go_sem] iQ iR fB eJ en nw
theorem vQ:∀(l m:List Int) (k:Nat),cK k (l++m)=cK k l++cK (k+l.length) m
 | [],m,k=>by simp[cK]
 | x::l,m,k=>by
  have ih:=vQ l m (k+1);rw[cC,qc,qc,ih,bz,show k+1+l.length=k+(l.length+1) by omega];by_cases h:0<x<;>simp[h]
theorem sL:∀(l:List Int) (k:Nat),(cK k l).length<=l.length
 | [],k=>by simp[cK]
 | x::l,k=>by
  have ih:=sL l (k+1);rw[qc];by_cases h:0<x<;>simp[h]<;>omega
theorem Js {bs:List Int} {k:Nat} (h:k<bs.length):cK 0 (bs.take (k+1))=cK 0 (bs.take k)++(if 0<bs[k]?.getD 0 then [((k:Int),ff (bs[k]?.getD 0))]else []):=by
 have e:bs[k]? =some bs[k]:=aZ h;rw[je e,vQ,dj,lJ (by omega),dP,qc,e]
 rfl
end
section
attribute [-simp] isAgg191 zeroValue191
attribute [-go_sem] aE aL
attribute [local go_sem] pT pU eJ nw
attribute [local go_sem] Oper.semAt_some
def vR (l:List (Int×Int)) (j:Nat):Array ak:=#[al #[ab ac (l[j]?.getD (0,0)).1,ab ac (l[j]?.getD (0,0)).2]]
structure PdB (Bb:Nat) (v:ak) (bs:List Int) (W:ah):Prop where
 cl:W.cell? ⟨Bb,0,none⟩=some v
 sl:Sl ay W v bs
theorem Jt (F:Fence) (n:Nat) (hf:F.fn 259) (hro:F.round=none) (a:Option aF) (len cap:Nat) (w:ah):
  CallsIn F n aj 259 #[af a len cap] w fun e w'=>e=ao (.func (.func 290) #[] #[am (some ⟨w.heap.size,0,none⟩)])/\
   w'=w.alloc (an #[af a len cap] 76):=by
 refine callsIn_of_wp func259 rfl hf ?_ hro;simp only[ntmps259,cJ,bz,cx,Nat.reduceAdd,Nat.reduceSub,cO,cP,cQ,cR,cy,cC]
 gi_wp2
 go_ret;exact⟨rfl,rfl⟩
theorem Ju (bs:List Int) {k:Nat} (h:k<=bs.length):∃R,cK 0 bs=cK 0 (bs.take k)++R:=by
 have:=vQ (bs.take k) (bs.drop k) 0;rw[lK]at this;exact⟨_,this⟩
theorem Jv (n:Nat) (hn:1<=n) (Bb:Nat) (v:ak) (bs:List Int) (hb:aP bs) (hl:bs.length<=1000) (w:ah):
  oO Fence.wide n aj 290 #[am (some ⟨Bb,0,none⟩)] (vR (cK 0 bs)) (PdB Bb v bs) (cK 0 bs).length w:=by
 intro lp J Jx W hW hJR _ _ hY h0;have hR0:=hJR 0 W h0;have HJR:=ae hJR;have HY:=ae hY;have HB:=ae hb;obtain⟨a,cap,rfl, -⟩:=id hR0.sl;obtain⟨len,hle⟩:=w9nm bs.length;rw[hle]at hl HJR;have HL:=ae hle;have hcl:=hR0.cl;rw[hle]at hcl;have H0:Hid (J (cK 0 (bs.take 0)).length W):=h0;clear hR0 hY hJR hW hle h0 hb;refine callsIn_of_wp func290 rfl trivial ?_ rfl;simp only[ntmps290,cJ,bz,cx,Nat.reduceAdd,Nat.reduceSub,cO,cP,cQ,cR,cy,cC]
 gi_wp2
 clear hcl
 gi_loopw [8] (fun iv wr=>∃k:Nat,k<=len/\iv=ab ac (k:Int)/\Hid (J (cK 0 (bs.take k)).length wr)) (fun iv _=>len - (aS iv).toNat)
 case atStart=>exact⟨0,bc _,rfl,H0⟩
 case round=>
  obtain⟨k,hk,rfl,HJ⟩:=hrel;by_cases hkm:k<len
  ·have g1:(k:Int)< (len:Int):=by omega
   have HKM:=ae hkm;obtain⟨y,hy,hy8⟩:=oz bs HB.out k;have hkl:k<bs.length:=by rw[HL.out];exact hkm
   obtain⟨ba,oa,rfl,hbb,hcs⟩:∃b o,a=some ⟨b,o,none⟩/\b<wr.heap.size/\wr.cell? ⟨b,o+k,none⟩=some (ab ay (y:Int)):=by
    obtain⟨a',cap',e,h1,h2,h3,h4⟩:=(HJR.out _ wr HJ.out).sl;cases e;rcases h3 with h3 | ⟨b,o,rfl,h5,h6⟩
    ·rw[h3]at hkl;exact absurd hkl (Nat.not_lt_zero _)
    ·exact⟨b,o,rfl,h5,by rw[←hy];exact h6 k hkl⟩
   have HPS:=ae (Js hkl);obtain⟨R,hR⟩:=Ju bs (show k+1<=bs.length by omega);rw[hy]at HPS;have HRR:=ae hR;have HME:Hid (∀x:ah,ap aj 256 #[ab ay (y:Int)] x fun e w'=>e=ao (ab ac (ff (y:Int)))/\w'=x):=fun x=>Ad y hy8 x;by_cases h0:y=0
   ·subst h0;have HJ2:Hid (J (cK 0 (bs.take (k+1))).length wr):=by
     show J _ _;rw[HPS.out,if_neg (by omega),List.append_nil];exact HJ.out
    have e0:ff ((0:Nat):Int)= -1:=rfl;rw[e0]at HME;clear hkm hkl hR hy e0 hbb
    gi_wp2_with (refine⟨trivial, ?_⟩;gi_at_call 256;refine(callsIn_wide.2 (HME.out _)).mono ?_;rintro e W5 ⟨rfl,rfl⟩;gi_wp2;refine⟨fun _ h=>(by cases h), ?_⟩)
    exact⟨⟨k+1,HKM.out,by simp,HJ2⟩,by have:=HKM.out;simp[aS];omega⟩
   ·have hN:(cK 0 (bs.take k)).length< (cK 0 bs).length:=by
     rw[hR,HPS.out,if_pos (by omega)];simp only[cE,bz,cx];omega
    have hat:(cK 0 bs)[(cK 0 (bs.take k)).length]? =some ((k:Int),ff (y:Int)):=by
     rw[hR,HPS.out,if_pos (by omega),kb,fv (aG _),Nat.sub_self]
     rfl
    have HLN:Hid ((cK 0 (bs.take (k+1))).length=(cK 0 (bs.take k)).length+1):=by
     show _=_;rw[HPS.out,if_pos (by omega),cE];rfl
    have HNL:=ae hN;have hy0:=HY.out _ wr hN HJ.out;unfold vR at hy0;rw[hat]at hy0;simp only[Option.getD_some]at hy0;obtain⟨z,hz⟩:=w9nm (ff (y:Int));have hz1:z≠ -1:=by rw[←hz];unfold ff;split<;>omega
    have q1:(z != -1)=true:=by simpa using hz1
    have q2:(z== -1)=false:=by simpa using hz1
    rw[hz]at HME hy0;obtain⟨fn,tmps,assign,body,hyy,hRR⟩:=hy0;clear hkm hkl hR hy hN hat hz hz1 hbb
    gi_wp2_with (refine⟨trivial, ?_⟩;gi_at_call 256;refine(callsIn_wide.2 (HME.out _)).mono ?_;rintro e W5 ⟨rfl,rfl⟩)
    refine hRR.mono ?_;rintro e W3 (⟨rfl,hJ3⟩ | ⟨rfl,hJx3⟩)
    ·have HJ3:Hid (J (cK 0 (bs.take (k+1))).length W3):=by show J _ _;rw[HLN.out];exact hJ3
     clear hJ3
     gi_wp2
     go_roundw
     case rel=>exact⟨k+1,HKM.out,by simp,HJ3⟩
     case measure=>have:=HKM.out;simp[aS];omega
    ·have HJ3:=ae hJx3;clear hJx3
     gi_wp2
     refine bo (results_none rfl _ _ _) rfl ?_;exact⟨⟨_,rfl⟩,aD ⟨_,HNL.out,HJ3.out⟩⟩
  ·obtain rfl:k=len:=by omega
   have g1:¬(k:Int)< (k:Int):=by omega
   have HJ2:Hid (J (cK 0 bs).length wr):=by
    have:=HJ.out;rw[de (by rw[HL.out];exact aG _)]at this;exact this
   clear hkm
   gi_wp2
   go_end0
   exact⟨⟨_,rfl⟩,aA HJ2.out⟩
theorem Jw {w:ah} {v:ak} {bs:List Int} (Bb:Nat) (hbb:Bb<w.heap.size) (hP:PdB Bb v bs w) (hb:aP bs) (hl:bs.length<=1000):
  ap aj 289 #[af none 0 0,.func (.func 290) #[] #[am (some ⟨Bb,0,none⟩)]] w fun e w'=>∃u,e=ao u/\dT w.heap.size w' u (cK 0 bs)/\ag w.heap.size w w':=by
 obtain⟨B,hB⟩:=w9nm w.heap.size;have HSZ:=ae hB;have HPP:=ae hP;have HBB:=ae hbb;obtain⟨L,hL⟩:=w9nm (cK 0 bs);have HLL:=ae hL;have HLn:Hid (L.length<=1000):=by show _<=_;rw[←hL];have:=sL bs 0;omega
 have HIS:Hid (∀p ∈ L,fG p.1/\fG p.2):=fun p hp=>by
  rw[←hL]at hp;obtain⟨j,x,hj,hx,rfl⟩:=(vf bs 0 p).1 hp;have hjl:=(bZ.1 hj).1;have hx8:=hb j;rw[hj]at hx8;simp only[Option.getD_some]at hx8;unfold fG ff;simp only;split<;>omega
 obtain⟨W0,hW0⟩:=w9nm (w.alloc (an #[af none 0 0] 43));have hWs:W0.heap.size=B+1:=by rw[←hW0,←hB];simp
 have bW:ag B w W0:=by rw[←hW0,←hB];exact aH _ _
 have r1:aq W0 B 43 [aK (none,0,0)]:=by rw[←hW0,←hB];exact aq.new _ _ _
 have HW:=ae hWs;have I0:Hid (aq W0 B 43 [aK (none,0,0)]/\dT B W0 (aK (none,0,0)) (L.take 0)/\ag B w W0):=⟨r1,dT.nil _ _,bW⟩;have hseq:=Jv 2 (by omega) Bb v bs hb hl W0;rw[hL]at hseq ⊢;clear r1 bW hP hL hbb;refine(callsIn_wide (n:=3)).1 ?_;refine gA func289 rfl trivial ?_ rfl;simp only[ntmps289,cJ,bz,cx,Nat.reduceAdd,Nat.reduceSub,cO,cP,cQ,cR,cy,cC]
 gi_wp2_with fail
 try rw[hW0]
 try rw[hB]
 clear hW0;refine oQ (n:=3) rfl (by omega) (gf:= 290) (lb:=#[am (some ⟨Bb,0,none⟩)]) rfl trivial (enters_of func290 (by kernel_rfl) rfl)
  hseq (aI _ _) (fun _=>rfl)
  (fun k W=>∃u:jj,aq W B 43 [aK u]/\dT B W (aK u) (L.take k)/\ag B w W)
  (fun c k W=>False)
  ?hR ?hI (fun c s Y Z row h=>h.elim) ⟨_,I0.out⟩
  (fun k a' W=>∃C p,B<C/\L[k]? =some p/\aq W C 191 [ab ac p.1,ab ac p.2]/\a'={tmps:=#[af none 0 0,.func (.func 290) #[] #[am (some ⟨Bb,0,none⟩)],am (some ⟨B,0,none⟩),az,af none 0 0,am (some ⟨C,0,none⟩),.func (.func 290) #[] #[am (some ⟨Bb,0,none⟩)],al #[ab ac p.1,ab ac p.2],az,az,az,az,az],defers:= []})
  ?hAx ?assign ?body ?done ?stop
 case hR=>
  rintro k W ⟨u,g1,g2,g3⟩;exact⟨(g3.cell (p:=⟨Bb,0,none⟩) (by rw[←HSZ.out];exact HBB.out)).trans HPP.out.cl,HPP.out.sl.below (by show ag _ _ _;rw[HSZ.out];exact g3)⟩
 case hI=>
  intro s Y Z row ⟨u,g1,g2,g3⟩ hg hr;refine⟨u,fI g1 hg hr,⟨pZ g2.1 hg hr,g2.2⟩,oT g3 (by omega) hg (fun r e=>⟨by have:=(hr r e).1;have:=HW.out;have:=HSZ.out;omega,(hr r e).2⟩)⟩
 case hAx=>
  rintro k a' _ Y Z row ⟨C,p,f1,f2,f3,f4⟩ hg hr;exact⟨C,p,f1,f2,fI f3 hg hr,f4⟩
 case assign=>
  rintro lp k W K hkm ⟨u,g1,g2,g3⟩ hK;obtain⟨p,hp⟩:∃p,L[k]? =some p:=⟨_,aZ hkm⟩;have ST:=mu W p.1 p.2;have hK:=hK _ _ (kj (aH W (an #[ab ac p.1,ab ac p.2] 191))) ⟨u,g1.below (aH W _),g2.below (aH W _),g3.trans ((aH W _).mono (by have:=g3.size;omega))⟩ ⟨W.heap.size,p,g1.lt,hp,aq.new W _ _,rfl⟩;unfold vR;rw[hp];simp only[Option.getD_some];clear g1 g2 g3 hp
  gi_wp2
  exact hK
 case body=>
  rintro lp k a' W _ _ hkm ⟨u,g1,g2,g3⟩ ⟨C,p,hC,hp,hx,rfl⟩;obtain⟨p1,p2⟩:=p;have HTK:=ae (je hp);have d2:=g1.cell 0 _ rfl;have LD:=mt (hx.cell 0 _ rfl) (hx.cell 1 _ rfl);have hpi:=HIS.out _ (dp hp);have bY:=aH W (an #[ab ac p1,ab ac p2] 191);have SB:=ae (Gt W p1 p2);obtain⟨v3,y3,hA,O3,hg3, -⟩:=yz (g2.below bY) (dT.one W (p1,p2) hpi).prt (by have:=g3.size;have:=bY.size;omega) (by rw[dj];have:=HLn.out;simp;omega);obtain⟨⟨xx,nn,cc⟩,rfl, -⟩:=iO O3.1
  skip
  obtain⟨Y2,hY2⟩:=w9nm (W.alloc (an #[ab ac p1,ab ac p2] 191));rw[hY2]at SB hA hg3 bY;have o1:dT B Y2 (aK u) (L.take k):=g2.below bY;have K1:aq y3 B 43 [aK u]:=(g1.below bY).grown hg3 (fz o1.1 (g1.below bY) (by decide));have HK1:=ae K1;have f0:=K1.frozen 0;have e0:=K1.cell 0 _ rfl;have HKF:Hid (KeepsFrom W0.heap.size W y3):=jH (kj bY) (oU o1.1 hg3);have HO3:Hid (dT B y3 (aK (xx,nn,cc)) (L.take (k+1))):=by show dT _ _ _ _;rw[HTK.out];exact O3
  have HB3:Hid (ag B w y3):=(g3.trans (bY.mono (by have:=g3.size;omega))).grown hg3 (by have:=g3.size;have:=bY.size;omega) (Hj o1.1);have HA:=ae hA;simp only[aK]at HA e0 d2;clear g1 g2 g3 hx bY hA O3 hg3 o1 K1 hp hpi hY2;gi_step
  gi_step
  refine mT (iL kZ) (by kernel_rfl) ?_;go_wp2_with (first | (with_reducible refine iu ?_;refine dR 43 1 #[(0,.tmp 9)] rfl rfl [(0,al #[ab ac p1,ab ac p2])] _ rfl SB.out ?_) | (at_builtin;refine wpList_append_run (.tmp 8) (.tmp 10) 43 rfl rfl _ _ _ rfl rfl (HA.out _) ?_));have HKQ:KeepsFrom (B+1) W y3:=by have:=HKF.out;rwa [HW.out]at this
  exact⟨jH HKQ (lO HK1.out (fH y3 B 0 _)),xx,nn,cc,HK1.out.set 0 _,⟨kC HO3.out.1 HK1.out (by decide) 0 _,HO3.out.2⟩,kk HB3.out (aG _) 0 _⟩
 case done=>
  rintro D W hD ⟨u,g1,g2,g3⟩ hK;have d3:=g1.cell 0 _ rfl;have G2:=ae g2;have G3:=ae g3;have HK:=ae hK;clear g1 g2 g3 hK
  gi_wp2
  refine⟨by simp,aA ⟨_,_,rfl,eU HK.out, ?_⟩⟩;have hg2:=grownBy_putObj' W D (.deferred none);refine⟨_,results_tmp rfl _ _ _,_,rfl, ?_, ?_⟩
  ·have:=pZ (M:=0) G2.out.1 hg2 (fun r e=>by cases e;exact⟨bc _,_,HK.out,rfl⟩);have h2:=G2.out.2;rw[List.take_length]at this h2;rw[HSZ.out];exact⟨this,h2⟩
  ·rw[HSZ.out];exact G3.out.trans (belowK_b (w:=w) (by omega) W D _ _ (by have:=HW.out;have:=HSZ.out;omega) HK.out rfl rfl)
 case stop=>
  rintro D c k W hD _ h hK;exact h.elim
theorem Ae {w:ah} {v:ak} {bs:List Int} (Bb:Nat) (hbb:Bb<w.heap.size) (hP:PdB Bb v bs w) (hb:aP bs) (hl:bs.length<=1000):
  ap aj 258 #[.func (.func 290) #[] #[am (some ⟨Bb,0,none⟩)]] w fun e w'=>∃u,e=ao u/\dT w.heap.size w' u (cK 0 bs)/\ag w.heap.size w w':=by
 have HP:=ae (Jw Bb hbb hP hb hl);clear hP hb hl hbb;go_enter func258,ntmps258;go_wp2_with fail;refine HP.out.mono ?_;rintro e w1 ⟨v',rfl,ho,hB⟩;have HO:=ae ho;have HB:=ae hB;clear ho hB HP;go_wp2_with fail;go_ret;exact⟨_,rfl,HO.out,HB.out⟩
theorem Af (a:Option aF) (len cap:Nat) (w:ah):ap aj 259 #[af a len cap] w fun e w'=>e=ao (.func (.func 290) #[] #[am (some ⟨w.heap.size,0,none⟩)])/\w'=w.alloc (an #[af a len cap] 76):=
 callsIn_wide.1 (Jt Fence.wide 3 trivial rfl a len cap w)
end
section
attribute [-simp] isAgg90 zeroValue90 isAgg191 zeroValue191 isAgg47 zeroValue47
attribute [-go_sem] aE aL
attribute [local go_sem] iQ iR fB eJ en nD uW
theorem Ag {W x:ah} {v:ak} {bs:List Int} {N:Nat} (h:x.ownsRow N 5 1 v bs.length (aw bs)) (hN:W.heap.size<=N):fM W x v bs:=by
 refine⟨h.1, ?_⟩;rcases h.2 with h' | ⟨g,cap,cur,e,h1,h2⟩
 ·exact aA h'
 ·exact aD ⟨g,cap,cur,e,bm hN h1,h2⟩
theorem PrIn.plOk {g:SG} {ps:List (Int×Int)} (h:PrIn g ps):vP g.b ps:=fun p hp=>by
 have a:=h.rng p hp;have b:=h.val p hp;exact⟨a.1,a.2,b.1,by omega⟩
theorem Ah {g:SG} (hg:g.Ok) {d:List Int} (h:fV g d=true):∀x ∈ d, -1<=x/\x<64:=fun x hx=>by
 have hb:=hg.b64;unfold fV at h;rw[cm,iZ]at h;obtain⟨i,hi,rfl⟩:=List.getElem_of_mem hx;have:=h.2 i (dJ.2 hi);unfold km at this;rw[aZ hi]at this;simp at this;omega
theorem Ai {g:SG} {s:ST} (h:fE g s=true):0<=s.kd/\s.kd<=2:=by
 unfold fE at h;rw[cm]at h;have:=h.2;unfold iP at this;by_cases a:s.kd=0
 ·omega
 ·by_cases b:s.kd=1
  ·omega
  ·by_cases c:s.kd=2
   ·omega
   ·rw[if_neg a,if_neg b,if_neg c]at this;cases this
theorem fM.appG {W x:ah} {v u:ak} {xs bs:List Int} (h:fM W x v xs) (hb:ag W.heap.size W x) (hu:Sl ay x u bs) (hl:xs.length+bs.length<=1000000):
  ∃v' x',Hid ((Builtin.append_ #[76, 76] 76 #[v,u]).run aj x=.ok v' x')/\Hid (fM W x' v' (xs++bs))/\w9h W x'/\x.grownBy x' v.ownBlock:=by
 obtain⟨v',x',r1,r2,r3⟩:=rC W.heap.size x v xs h u bs hu (by omega) hb.size;exact⟨v',x',r1,r2,hb.grown r3 hb.size (fun k e=>(h.lt k e).1),r3⟩
theorem Jy (g:SG) (d:List Int) (l:List SN) (nx kd id:Int) (ps:List (Int×Int)):bK g ⟨d,l,nx,kd,id,ps⟩=((aJ nx 4++ [(l.length:Int),kd]++aJ id 4)++d.map (·+1))++(dM g l).flatten++eA g.b ps:=by
 simp[bK,kb]
theorem Jz (g:SG) (l:List SN) {k:Nat} (hk:k<8):((dM g l).take (k+1)).flatten=((dM g l).take k).flatten++jk g (l[k]?.getD (my g)):=by
 have h:(dM g l)[k]? =some (jk g (l[k]?.getD (my g))):=by
  unfold dM;rw[dY,mj hk]
  rfl
 rw[je h,lL];simp
theorem Aj (g:SG) (l:List SN):(dM g l).take 8=dM g l:=de (by unfold dM;simp)
theorem Ak (x:Option aF) (n c:Nat) (w:ah):(df 90 #[(1,af x n c)]).run aj w=.ok (dZ (0,(x,n,c),(none,0,0))) w:=by kernel_rfl
def mD (C:Nat) (t:aR) (L:List ak):Type:={x:ah // aq x C t L}
attribute [local go_sem] Ak
def Al (g:SG) (s:ST) (N:Nat) (w':ah) (u:ak) (c:Int):Prop:=(fE g s=true->c=0/\w'.ownsRow N 5 1 u (bK g s).length (aw (bK g s)))/\(fE g s=false->c=11/\u=af none 0 0)
theorem Am (x:ah) (a:Int):Sl ay (x.alloc (an #[ab ay a] 5)) (af (some ⟨x.heap.size,0,none⟩) 1 1) [a]:=
 Sl.of_owns (World.ownsRow_lit (base:=x.heap.size) x #[ab ay a] 1 (aG _) (by simp[aY]) rfl)
end
section
attribute [-simp] isAgg90 zeroValue90 isAgg191 zeroValue191 isAgg47 zeroValue47
attribute [-go_sem] aE aL
theorem qo (w:ah):(df 47 #[]).run aj w=.ok (al #[af none 0 0,af none 0 0,ab ac 0,ab ac 0,ab ac 0,af none 0 0]) w:=by kernel_rfl
theorem JA (a:Int) (w:ah):(df 47 #[(2,ab ac a)]).run aj w=.ok (al #[af none 0 0,af none 0 0,ab ac a,ab ac 0,ab ac 0,af none 0 0]) w:=by kernel_rfl
attribute [local go_sem] iQ iR fB eJ en qo JA
theorem lq {x:ah} {B:Nat} {old:List ak} (q:PS) (hr:aq x B 47 old) (ho:old.length=6):
  ∃y,(aL 47 ⟨B,0,none⟩ (bI q)).run aj x=.ok () y/\aq y B 47 (aW q)/\x.grownBy y (some B):=by
 refine⟨_,run_storeVar_row x B _ _ old.toArray (aW q).toArray hr vm (by simpa [aW]using ho) (by kernel_rfl),setRow_heap x B _ _ _ _ hr, ?_⟩;exact⟨rfl,rfl,rfl,by rw[setRow_size];exact aG _,fun k _ hk=>setRow_other x B k _ (fun e=>hk (by rw[e]))⟩
def dH:PS:=⟨(none,0,0),(none,0,0),0,0,0,(none,0,0)⟩
end
section
theorem JB {bs:List Int} {a n:Nat} (h:a+n<=bs.length):(bx bs a n).length=n:=by
 unfold bx;rw[dj,dm];omega
theorem JC {bs:List Int} {a n k:Nat} (h:k<n):(bx bs a n)[k]? =bs[a+k]? :=by
 unfold bx;rw[kx,if_pos h,lI]
theorem An {bs:List Int} {a n:Nat} (h:bs.length=a+n):bx bs a n=bs.drop a:=by
 unfold bx;exact de (by rw[dm];omega)
theorem SG.at_zero (g:SG):g.at 0=10+g.slots:=by unfold SG.at;omega
theorem SG.at_succ (g:SG) (i:Nat):g.at (i+1)=g.at i+(4+g.n9+g.b):=by unfold SG.at SG.step;rw[Nat.add_mul];omega
theorem SG.at_end (g:SG):g.at 8+g.b=g.bts:=by unfold SG.at SG.bts;omega
theorem SG.at_le (g:SG) {i:Nat} (h:i<8):g.at i+(4+g.n9+g.b)+g.b<=g.bts:=by
 have h1:=g.at_succ i;have h2:g.at (i+1)<=g.at 8:=by
  unfold SG.at
  have:=Nat.mul_le_mul_right g.step (show i+1<=8 by omega);omega
 have:=g.at_end;omega
def nN (g:SG) (bs:List Int) (k:Nat):List Int:=((bx bs 10 g.slots).take k).map (·- 1)
theorem JD (g:SG) {bs:List Int} (hl:10+g.slots<=bs.length):nN g bs g.slots=(bx bs 10 g.slots).map (·- 1):=by
 unfold nN;rw[de (by rw[JB hl];exact aG _)]
def eX (g:SG) (bs:List Int) (i:Nat):List SN:=(cI (min i (bs[4]?.getD 0).toNat)).map fun i=>iw g (bx bs (g.at i) g.step)
theorem JE (g:SG) (bs:List Int):eX g bs 0= []:=by unfold eX;simp
theorem JF (g:SG) {bs:List Int} {i:Nat} (h:i< (bs[4]?.getD 0).toNat):eX g bs (i+1)=eX g bs i++ [iw g (bx bs (g.at i) g.step)]:=by
 unfold eX;rw[lJ (by omega),lJ (by omega),List.range_succ,ec]
 rfl
theorem JG (g:SG) {bs:List Int} {i:Nat} (h:(bs[4]?.getD 0).toNat<=i):eX g bs (i+1)=eX g bs i:=by
 unfold eX;rw[Nat.min_eq_right (by omega),Nat.min_eq_right (by omega)]
theorem JH (g:SG) {bs:List Int} (h:(bs[4]?.getD 0).toNat<=8):eX g bs 8=(cI (bs[4]?.getD 0).toNat).map fun i=>iw g (bx bs (g.at i) g.step):=by
 unfold eX;rw[Nat.min_eq_right h]
theorem JI (g:SG) {bs:List Int} (hl:bs.length=g.bts) (h4:(bs[4]?.getD 0).toNat<=8):mz g bs=⟨nN g bs g.slots,eX g bs 8,bM (bx bs 0 4),bs[5]?.getD 0,bM (bx bs 6 4),cK 0 (bs.drop (g.at 8))⟩:=by
 unfold mz;rw[JD g (by have:=g.at_end;have:=g.at_zero;rw[hl];unfold SG.bts;omega),JH g h4,An (a:=g.at 8) (n:=g.b) (by rw[hl];exact g.at_end.symm)]
end
section
theorem Ao {bs:List Int} (h:aP bs) {k:Nat} (hk:k<=4) (hl:bs.length=k):0<=bM bs/\bM bs<4294967296:=by
 have h1:=oy bs h (ey (bs.length:Int));unfold bM;have h2:ey (bs.length:Int)<=4:=by unfold ey;rw[hl];split<;>omega
 refine⟨h1.1,Int.lt_of_lt_of_le h1.2 ?_⟩;generalize ey (bs.length:Int)=m at h2
 match m,h2 with
 | 0,_=>decide
 | 1,_=>decide
 | 2,_=>decide
 | 3,_=>decide
 | 4,_=>decide
 | m+5,h=>omega
theorem pm {bs:List Int} (h:aP bs) (k:Nat):aP (bs.take k):=fun j=>by
 rw[kx];split
 ·exact h j
 ·exact⟨by simp,by simp⟩
theorem mE {bs:List Int} (h:aP bs) (k:Nat):aP (bs.drop k):=fun j=>by
 rw[lI];exact h (k+j)
theorem qq {N:Nat} (rb:Nat) (bs:List Int) (k:Nat) (w:ah) (hr:dU w N rb bs) (hB:aP bs) (hk:k<=bs.length) (hk4:k<=4):
  ap aj 254 #[am (some ⟨rb,0,none⟩),ab ac (k:Int)] w fun e w'=>e=ao (ab ac (bM (bs.take k)))/\dU w' N rb (bs.drop k)/\w.grownBy w' (some rb):=by
 have HN:=ae (qh rb bs k w hr hB hk);obtain⟨z,hz⟩:=w9nm (bM (bs.take k));obtain⟨z0,z1⟩:=Ao (pm hB k) hk4 (by rw[dj];omega);rw[hz]at HN z0 z1 ⊢;clear hr hB hz;go_enter func254,ntmps254;go_wp2_with fail;refine HN.out.mono ?_;rintro e w1 ⟨rfl,h1,h2⟩;have H1:=ae h1;have H2:=ae h2;clear h1 h2 HN;go_wp2_with fail;go_ret;exact⟨rfl,H1.out,H2.out⟩
theorem sM {N:Nat} (rb:Nat) (bs:List Int) (k:Nat) (w:ah) (hr:dU w N rb bs) (hk:k<=bs.length) (hcap:bs.length<=100000):
  ap aj 255 #[am (some ⟨rb,0,none⟩),ab ac (k:Int)] w fun e w'=>
   ∃g,e=ao (af (some ⟨g,0,none⟩) k k)/\w'.ownsRow w.heap.size 5 1 (af (some ⟨g,0,none⟩) k k) (bs.take k).length ((bs.take k).map (Value.int ay))/\dU w' N rb (bs.drop k)/\w.grownBy w' (some rb):=by
 have HN:=ae (vy rb bs k w hr hk (by omega));have hlk:(bs.take k).length=k:=by rw[dj];omega
 have HLK:=ae hlk;have hkm:k<=aY:=by unfold aY;omega
 have HKM:=ae hkm;clear hr hlk hkm;go_enter func255,ntmps255;go_wp2_with fail;refine HN.out.mono ?_;rintro e w1 ⟨g,rfl,hg,hrow,h1,h2⟩;have H1:=ae h1;have H2:=ae h2;have HO:Hid (w1.ownsRow w.heap.size 5 1 (af (some ⟨g,0,none⟩) k k) (bs.take k).length ((bs.take k).map (Value.int ay))):=by
  have:=GO hrow hg (by rw[HLK.out];exact HKM.out);rw[HLK.out]at this ⊢;exact this
 clear hg hrow h1 h2 HN;go_wp2_with fail;go_ret;exact⟨_,rfl,HO.out,H1.out,H2.out⟩
attribute [-simp] isAgg90 zeroValue90 isAgg191 zeroValue191 isAgg47 zeroValue47
attribute [-go_sem] aE aL
attribute [local go_sem] iQ iR fB eJ en nD
theorem JJ {bs:List Int} (h:aP bs) (a n:Nat):aP (bx bs a n):=pm (mE h a) n
theorem JK (g:SG) (bs:List Int):iw g (bx bs 0 g.step)=⟨bM (bs.take 4),(bs.drop 4).take g.n9,cK 0 (((bs.drop 4).drop g.n9).take g.b)⟩:=by
 unfold iw;have e:∀o n,o+n<=g.step->bx (bx bs 0 g.step) o n=bx bs o n:=fun o n h=>by rw[Hs bs h,dP]
 rw[e 0 4 (by unfold SG.step;omega),e 4 g.n9 (by unfold SG.step;omega),e (4+g.n9) g.b (by unfold SG.step;omega)];unfold bx;rw[bQ,ja]
theorem JL {N:Nat} (rb:Nat) (bs:List Int) (w:ah) (g:SG) (hg:g.Ok) (r0:Int) (hr:dU w N rb bs) (hB:aP bs) (hl:g.step<=bs.length) (hcap:bs.length<=1000):
  ap aj 257 #[am (some ⟨rb,0,none⟩),al (g.v r0)] w fun e w'=>
   ∃q:SV,e=ao (dZ q)/\SnF w.heap.size w' q (iw g (bx bs 0 g.step))/\dU w' N rb (bs.drop g.step)/\w.grownBy w' (some rb):=by
 have hmx:=w9x
 have hrb:rb<N/\N<=w.heap.size:=by obtain⟨b,off,cap,h0,h1,h2,h3,h4,h5⟩:=hr;exact h5
 obtain⟨B,hBB⟩:=w9nm w.heap.size;obtain⟨W1,hW1⟩:=w9nm (w.alloc (an (g.v r0) 23));obtain⟨W2,hW2⟩:=w9nm (W1.alloc (an #[ab ac 0,af none 0 0,af none 0 0] 90));have s1:W1.heap.size=B+1:=by rw[←hW1,←hBB];simp
 have r1:aq W1 B 23 [ab ac (g.b:Int),ab ac (g.s:Int),ab ac (g.y:Int),ab ac (g.a:Int),ab ac r0]:=by rw[←hW1,←hBB];exact aq.new _ _ _
 have r2:aq W2 (B+1) 90 [ab ac 0,af none 0 0,af none 0 0]:=by rw[←hW2,←s1];exact aq.new _ _ _
 have b1:ag B w W1:=by rw[←hW1,←hBB];exact aH _ _
 have b2:ag W1.heap.size W1 W2:=by rw[←hW2];exact aH _ _
 have hBF:ag w.heap.size w W2:=by rw[hBB];exact b1.trans (b2.mono (by omega))
 have gd:ag w.heap.size w W2.drew:=hBF.drew;have HG0:Hid (w.grownBy W2.drew (some rb)):=dS gd _;have R0:Hid (dU W2.drew N rb bs):=hr.kept (dS gd none) (fun r e=>by cases e);have HR1:Hid (aq W2.drew B 23 [ab ac (g.b:Int),ab ac (g.s:Int),ab ac (g.y:Int),ab ac (g.a:Int),ab ac r0]):=(r1.below b2).below (aI _ W2).drew;have HR2:Hid (aq W2.drew (B+1) 90 [ab ac 0,af none 0 0,af none 0 0]):=r2.below (aI _ W2).drew;have HRB:Hid (rb<B):=by show _<_;omega
 have HNB:Hid (N<=B):=by show _<=_;omega
 have HZ0:Hid (B+2<=W2.drew.heap.size):=by show _<=W2.heap.size;rw[←hW2];simp[s1]
 have d0:∀y:mD B 23 [ab ac (g.b:Int),ab ac (g.s:Int),ab ac (g.y:Int),ab ac (g.a:Int),ab ac r0],y.1.cell? ⟨B,0,none⟩=some (ab ac (g.b:Int)):=fun y=>y.2.cell 0 _ rfl
 haveI:Nonempty (mD B 23 [ab ac (g.b:Int),ab ac (g.s:Int),ab ac (g.y:Int),ab ac (g.a:Int),ab ac r0]):=⟨⟨W2.drew,HR1.out⟩⟩
 have HSZ:=ae hBB;have HBY:=ae hB;have HLL:Hid (4+g.n9+g.b<=bs.length):=hl;have HCAP:=ae hcap;have hn9:=qm hg;have hgb:=hg.b64;have HNW:Hid (∀x:ah,ap aj 176 #[ab ac (g.b:Int)] x fun e w'=>∃v,e=ao v/\Sl ay w' v (bg g.n9 0)/\ag x.heap.size x w'):=fun x=>rJ (g.b:Int) x;obtain⟨n9,hn9e⟩:=w9nm g.n9;have HN9:=ae hn9e;have hn98:n9<=8:=by rw[←hn9e];exact hn9
 rw[hn9e]at HNW HLL;have HSR:Hid (iw g (bx bs 0 g.step)=⟨bM (bs.take 4),(bs.drop 4).take n9,cK 0 (((bs.drop 4).drop n9).take g.b)⟩):=by show _=_;rw[JK,hn9e]
 have HST:Hid (bs.drop g.step=((bs.drop 4).drop n9).drop g.b):=by show _=_;unfold SG.step;rw[ja,ja,hn9e,Nat.add_assoc]
 clear hr hB hl hcap r1 r2 b1 b2 hBF gd hn9 hn9e hg hrb;unfold SG.v at *;go_enter func257,ntmps257;go_wp2_with fail;refine du (fun x=>∃z:mD B 23 [ab ac (g.b:Int),ab ac (g.s:Int),ab ac (g.y:Int),ab ac (g.a:Int),ab ac r0],x=z.1) 14 (.takes [0,2,3,4,8,9,10] (.one 1 (.one 5 (.takes [6] (.one 7 (.one 11 (.one 12 (.one 13 .leaf)))))))) hmx (by kernel_rfl) (by intro c x v a w h;cases x<;>exact h) ⟨⟨W2.drew,HR1.out⟩,rfl⟩ ?_;repeat(rw[bu];simp only[aB,aC];go_big_quiet_step (fail);refine aV ?_)
 clear d0;rw[bt,aT];simp only[aB,aC];go_wp2_with fail;go_at_call 254;refine(qq rb bs 4 W2.drew R0.out HBY.out (by have:=HLL.out;omega) (aG _)).mono ?_;rintro e x1 ⟨rfl,hr1,hg1⟩;have G1:Hid (w.grownBy x1 (some rb)):=lN HG0.out hg1;have A1:Hid (aq x1 B 23 [ab ac (g.b:Int),ab ac (g.s:Int),ab ac (g.y:Int),ab ac (g.a:Int),ab ac r0]):=HR1.out.grown hg1 (by have:=HRB.out;simp;omega);have C1:Hid (aq x1 (B+1) 90 [ab ac 0,af none 0 0,af none 0 0]):=HR2.out.grown hg1 (by have:=HRB.out;simp;omega);have R1:=ae hr1;have Z1:Hid (B+2<=x1.heap.size):=by have:=HZ0.out;have:=hg1.size;show _<=_;omega
 obtain⟨z,hz⟩:=w9nm (bM (bs.take 4));have HZZ:=ae hz;have HZB:Hid (0<=z/\z<4294967296):=by rw[←hz];exact Ao (pm HBY.out 4) (aG _) (by rw[dj];have:=HLL.out;omega)
 rw[hz];clear hr1 hg1 hz;go_wp2_with fail;refine aN ⟨⟨x1,A1.out⟩,rfl⟩ ?_;rw[aT];simp only[aB,aC];go_wp2_with fail;go_at_call 176;refine(HNW.out x1).mono ?_;rintro e x2 ⟨v2,rfl,hv2,hb2⟩;obtain⟨z2,c2,rfl⟩:∃a c,v2=af a n9 c:=by obtain⟨a,c,e, -⟩:=hv2;rw[iq]at e;exact⟨a,c,e⟩
 have hg2:=dS hb2 (some rb);have G2:Hid (w.grownBy x2 (some rb)):=lN G1.out hg2;have A2:Hid (aq x2 B 23 [ab ac (g.b:Int),ab ac (g.s:Int),ab ac (g.y:Int),ab ac (g.a:Int),ab ac r0]):=A1.out.below hb2;have C2:Hid (aq x2 (B+1) 90 [ab ac 0,af none 0 0,af none 0 0]):=C1.out.below hb2;have R2:Hid (dU x2 N rb (bs.drop 4)):=R1.out.below (dS hb2 none);have Z2:Hid (B+2<=x2.heap.size):=by have:=Z1.out;have:=hb2.size;show _<=_;omega
 clear hv2 hb2 hg2;go_wp2_with fail;refine aN ⟨⟨x2,A2.out⟩,rfl⟩ ?_;repeat(rw[bu];simp only[aB,aC];go_big_quiet_step (fail);refine aV ?_)
 rw[bt,aT];simp only[aB,aC];go_wp2_with fail;go_at_call 255;refine(sM rb (bs.drop 4) n9 x2 R2.out (by have:=HLL.out;rw[dm];omega) (by have:=HCAP.out;rw[dm];omega)).mono ?_;rintro e x3 ⟨q3,rfl,ho3,hr3,hg3⟩;have G3:Hid (w.grownBy x3 (some rb)):=lN G2.out hg3;have A3:Hid (aq x3 B 23 [ab ac (g.b:Int),ab ac (g.s:Int),ab ac (g.y:Int),ab ac (g.a:Int),ab ac r0]):=A2.out.grown hg3 (by have:=HRB.out;simp;omega);have C3:Hid (aq x3 (B+1) 90 [ab ac 0,af none 0 0,af none 0 0]):=C2.out.grown hg3 (by have:=HRB.out;simp;omega);have R3:=ae hr3;have Z3:Hid (B+2<=x3.heap.size):=by have:=Z2.out;have:=hg3.size;show _<=_;omega
 have O3:Hid (x3.ownsRow B 5 1 (af (some ⟨q3,0,none⟩) n9 n9) ((bs.drop 4).take n9).length (((bs.drop 4).take n9).map (Value.int ay))):=iN ho3 (by have:=Z2.out;omega);clear hr3 hg3 ho3;go_wp2_with fail;refine aN ⟨⟨x3,A3.out⟩,rfl⟩ ?_;rw[aT];simp only[aB,aC];go_wp2_with fail;go_at_call 255;refine(sM rb ((bs.drop 4).drop n9) g.b x3 R3.out (by have:=HLL.out;rw[dm,dm];omega) (by have:=HCAP.out;rw[dm,dm];omega)).mono ?_;rintro e x4 ⟨q4,rfl,ho4,hr4,hg4⟩;have G4:Hid (w.grownBy x4 (some rb)):=lN G3.out hg4;have A4:Hid (aq x4 B 23 [ab ac (g.b:Int),ab ac (g.s:Int),ab ac (g.y:Int),ab ac (g.a:Int),ab ac r0]):=A3.out.grown hg4 (by have:=HRB.out;simp;omega);have C4:Hid (aq x4 (B+1) 90 [ab ac 0,af none 0 0,af none 0 0]):=C3.out.grown hg4 (by have:=HRB.out;simp;omega);have R4:=ae hr4;have Z4:Hid (B+2<=x4.heap.size):=by have:=Z3.out;have:=hg4.size;show _<=_;omega
 have O4:Hid (x4.ownsRow B 5 1 (af (some ⟨q3,0,none⟩) n9 n9) ((bs.drop 4).take n9).length (((bs.drop 4).take n9).map (Value.int ay))):=O3.out.kept hg4 (aD (R3.out.not_row O3.out));have S4:Hid (Sl ay x4 (af (some ⟨q4,0,none⟩) g.b g.b) (((bs.drop 4).drop n9).take g.b)):=Sl.of_owns ho4;clear hr4 hg4 ho4;go_wp2_with fail;refine aN ⟨⟨x4,A4.out⟩,rfl⟩ ?_;rw[aT];simp only[aB,aC];go_wp2_with fail;go_at_call 259;refine(Af _ _ _ x4).mono ?_;obtain⟨x5,hx5⟩:=w9nm (x4.alloc (an #[af (some ⟨q4,0,none⟩) g.b g.b] 76));rintro e x5' ⟨rfl,h5'⟩;obtain rfl:x5'=x5:=h5'.trans hx5;have b5:ag x4.heap.size x4 x5':=by rw[←hx5];exact aH _ _
 have hP:PdB x4.heap.size (af (some ⟨q4,0,none⟩) g.b g.b) (((bs.drop 4).drop n9).take g.b) x5':=⟨by rw[←hx5];exact(aq.new x4 76 [af (some ⟨q4,0,none⟩) g.b g.b]).cell 0 _ rfl,S4.out.below b5⟩;have h5s:x4.heap.size<x5'.heap.size:=by rw[←hx5];simp
 have HCL:=ae (Ae x4.heap.size h5s hP (pm (mE (mE HBY.out 4) n9) g.b) (by rw[dj];omega));have G5:Hid (w.grownBy x5' (some rb)):=lN G4.out (dS b5 _);have A5:Hid (aq x5' B 23 [ab ac (g.b:Int),ab ac (g.s:Int),ab ac (g.y:Int),ab ac (g.a:Int),ab ac r0]):=A4.out.below b5;have C5:Hid (aq x5' (B+1) 90 [ab ac 0,af none 0 0,af none 0 0]):=C4.out.below b5;have R5:=ae (R4.out.below (dS b5 none));have Z5:Hid (B+2<=x5'.heap.size):=by have:=Z4.out;have:=b5.size;show _<=_;omega
 have O5:=ae (dQ O4.out b5);clear h5' hx5 b5 hP h5s;go_wp2_with fail;refine aN ⟨⟨x5',A5.out⟩,rfl⟩ ?_;rw[aT];simp only[aB,aC];go_wp2_with fail;go_at_call 258;refine HCL.out.mono ?_;rintro e x6 ⟨v6,rfl,ho6,hb6⟩;obtain⟨⟨pa,pn,pc⟩,rfl, -⟩:=iO ho6.1;have G6:Hid (w.grownBy x6 (some rb)):=lN G5.out (dS hb6 _);have A6:Hid (aq x6 B 23 [ab ac (g.b:Int),ab ac (g.s:Int),ab ac (g.y:Int),ab ac (g.a:Int),ab ac r0]):=A5.out.below hb6;have C6:Hid (aq x6 (B+1) 90 [ab ac 0,af none 0 0,af none 0 0]):=C5.out.below hb6;have R6:=ae (R5.out.below (dS hb6 none));have Z6:Hid (B+2<=x6.heap.size):=by have:=Z5.out;have:=hb6.size;show _<=_;omega
 have O6:=ae (dQ O5.out hb6);have P6:Hid (dT B x6 (aK (pa,pn,pc)) (cK 0 (((bs.drop 4).drop n9).take g.b))):=ho6.weak (by have:=Z5.out;omega);clear ho6 hb6 HCL;simp only[aK];go_wp2_with fail;refine aN ⟨⟨x6,A6.out⟩,rfl⟩ ?_;rw[cW];simp only[bR,bQ];obtain⟨y,hST,hRy,hgy⟩:=yS (z,(some ⟨q3,0,none⟩,n9,n9),(pa,pn,pc)) C6.out rfl;have HLD:=ae (pY hRy);have G7:Hid (w.grownBy y (some rb)):=G6.out.andThen hgy (fun j e=>by cases e;left;have:=HSZ.out;omega);have R7:Hid (dU y N rb (bs.drop g.step)):=by
  show dU _ _ _ _;rw[HST.out];exact R6.out.kept hgy (fun r e=>by
   cases e;obtain⟨b,off,cap,h0,h1,h2,h3,h4,h5⟩:=R0.out;have h6:=HRB.out;have h7:N<=B:=HNB.out;omega)
 have F7:Hid (SnF B y (z,(some ⟨q3,0,none⟩,n9,n9),(pa,pn,pc)) (iw g (bx bs 0 g.step))):=by
  show SnF _ _ _ _;rw[HSR.out];refine⟨HZZ.out.symm,O6.out.kept hgy (aD (fz O6.out C6.out (by decide))),⟨P6.out.1.kept hgy (aD (fz P6.out.1 C6.out (by decide))),P6.out.2⟩,⟨?_,pm (mE HBY.out 4) n9,P6.out.2⟩⟩;show fG (bM (bs.take 4));rw[HZZ.out];have:=HZB.out;constructor<;>omega
 simp only[dZ,aK]at hST HLD;clear hRy hgy;go_wp2_with fail;refine bo (ev rfl rfl HLD.out) rfl ?_;exact⟨_,rfl,by rw[HSZ.out];exact F7.out,R7.out,G7.out⟩
end
section
attribute [-simp] isAgg29 zeroValue29
attribute [-go_sem] aE aL
theorem vS (w:ah):(zeroValue 29).run aj w=.ok (al (zM 0 0 0 0 0 0 0 0).toArray) w:=by kernel_rfl
theorem Ap (w:ah):(df 29 #[]).run aj w=.ok (al (zM 0 0 0 0 0 0 0 0).toArray) w:=by kernel_rfl
attribute [local go_sem] nL nM vS Ap
end
section
attribute [-simp] isAgg90 zeroValue90 isAgg191 zeroValue191 isAgg47 zeroValue47 isAgg29 zeroValue29
attribute [-go_sem] aE aL
theorem JM (t:aR) (h:t≠ 90) (h':t≠ 191) (h'':t≠ 47) (h3:t≠ 29) (a:aF):aE t a=(do if←isAgg t then pure (al (←loadCells a (←sizeOf t)))else load a):=rfl
theorem JN (t:aR) (h:t≠ 90) (h':t≠ 191) (h'':t≠ 47) (h3:t≠ 29) (a:aF) (v:ak):aL t a v=(do
  if v.cells.size≠(←sizeOf t)then stuck "storeVar: the value has not the size of the variable"
  storeCells a v.cells.toList):=rfl
theorem JO (a b:Int) (w:ah):(df 45 #[(0,ab ac a),(1,ab ac b)]).run aj w=.ok (al #[ab ac a,ab ac b,af none 0 0]) w:=by kernel_rfl
theorem JP (a b c:Int) (w:ah):(df 47 #[(2,ab ac a),(3,al #[ab ac b,ab ac c,af none 0 0])]).run aj w=.ok (al #[af none 0 0,af none 0 0,ab ac a,ab ac b,ab ac c,af none 0 0]) w:=by kernel_rfl
attribute [local go_sem] JM JN fB eJ en vS qo JO JP nD
def mF (g:SG) (bs:List Int) (N:Nat) (w':ah) (q:PS) (c:Int):Prop:=match iy g bs with
 | some s=>c=0/\q.nx=s.nx/\q.kd=s.kd/\q.id=s.id/\bT N w' (aK q.d) s.d/\fD N w' (aK q.sn) s.sn/\dT N w' (aK q.pr) s.pr
 | none=>c=11/\q=dH
theorem vT {g:SG} {bs:List Int} (h:iy g bs=none) (N:Nat) (w':ah):mF g bs N w' dH 11:=by
 unfold mF;rw[h];exact⟨rfl,rfl⟩
theorem Aq {g:SG} (hg:g.Ok) (r:Int):(g.geo r).bts=(g.bts:Int):=by
 unfold Geo.bts SG.geo SG.bts SG.step SG.n9 SG.slots fa;have h1:=hg.b1;have h2:=hg.b64;rw[if_neg (by omega)];simp only;rw[←Int.natCast_mul];omega
end
section
attribute [-simp] isAgg90 zeroValue90 isAgg191 zeroValue191
attribute [-go_sem] aE aL
attribute [local go_sem] pW pX fB eJ
theorem JQ {w:ah} {q:SV} {s:SN} (h:SnIs w q s) (hl1:s.ch.length<=100000):
  ap aj 276 #[dZ q] w fun e w'=>e=ao (.bool (jf s))/\ag w.heap.size w w':=by
 have hmx:=w9x
 obtain⟨i,⟨x,n,c⟩,⟨y,m,d⟩⟩:=q;obtain rfl:m=s.tb.length:=by obtain⟨a,ca,e, -⟩:=h.tb;simp only[aK,Value.slice.injEq]at e;omega
 obtain⟨tl,htl⟩:=w9nm s.tb.length;rw[htl]at h ⊢;obtain⟨B,hB⟩:=w9nm w.heap.size;have HSZ:=ae hB;obtain⟨W,hW⟩:=w9nm (w.alloc (an #[ab ac i,af x n c,af y tl d] 90));have bW:ag B w W:=by rw[←hW,←hB];exact(aI _ w).alloc (aG _) _
 have r1:aq W B 90 [ab ac i,af x n c,af y tl d]:=by rw[←hW,←hB];exact aq.new w _ _
 have hs:W.heap.size=B+1:=by rw[←hW,←hB];simp
 have c1:∀z:aM W,z.1.cell? ⟨B,1,none⟩=some (af x n c):=fun z=>(r1.below z.2).cell 1 _ rfl;have c2:∀z:aM W,z.1.cell? ⟨B,2,none⟩=some (af y tl d):=fun z=>(r1.below z.2).cell 2 _ rfl;have HBW:=ae bW;have HS:=ae hs;obtain⟨cn,hcn⟩:=w9nm ((cV s.ch).length);have HE:Hid (jf s=((cn:Int)==(tl:Int))):=by
  show _=_;unfold jf;rw[hcn,htl,iY];simp;omega
 have HC:Hid (∀z:ah,ag W.heap.size W z->ap aj 297 #[af x n c] z fun e w'=>e=ao (ab ac (cn:Int))/\ag z.heap.size z w'):=fun z hz=>by
  rw[←hcn];exact zh _ s.ch z ((h.ch.below (by show ag _ _ _;rw[hB];exact bW)).below hz) h.ok.ch (by omega)
 rw[HE.out];clear h bW r1 hs hcn;go_enter func276,ntmps276;simp only[dZ,aK];go_wp2_with fail;try rw[hW]
 clear hW;refine du (fun x=>∃y:aM W,x=y.1) 7 (.takes [0,1,3,4,5] (.one 2 (.takes [6] .leaf))) hmx (by kernel_rfl) (by intro c x v a w h;cases x<;>exact h) ⟨⟨W.drew,(aI _ W).drew⟩,rfl⟩ ?_;repeat(rw[bu];simp only[aB,aC];go_big_quiet_step (fail);refine aV ?_)
 rw[bt,aT];simp only[aB,aC];go_wp2_with fail;go_at_call 297;refine(HC.out W.drew (aI _ W).drew).mono ?_;rintro e y1 ⟨rfl,hb1⟩;have KB1:w9h W y1:=(aI _ W).drew.trans hb1;clear hb1 HC;go_wp2_with fail;refine aN ⟨⟨y1,KB1.out⟩,rfl⟩ ?_;repeat(rw[bu];simp only[aB,aC];go_big_quiet_step (fail);refine aV ?_)
 rw[bt,cW];simp only[bR,bQ];go_wp2_with fail;go_ret;refine⟨by first | rfl | simp, ?_⟩;rw[HSZ.out];exact HBW.out.trans (KB1.out.mono (by have:=HS.out;omega))
theorem JR {w:ah} {q:SV} {s:SN} (h:SnIs w q s) (hl1:s.ch.length<=100000) (hl2:s.tb.length<=100000) (bl ar:Int):
  ap aj 275 #[dZ q,ab ac bl,ab ac ar] w fun e w'=>e=ao (.bool (jw s bl ar))/\ag w.heap.size w w':=by
 obtain⟨i,⟨x,n,c⟩,⟨y,m,d⟩⟩:=q;obtain rfl:m=s.tb.length:=by obtain⟨a,ca,e, -⟩:=h.tb;simp only[aK,Value.slice.injEq]at e;omega
 obtain⟨tl,htl⟩:=w9nm s.tb.length;rw[htl]at h hl2 ⊢;obtain⟨B,hB⟩:=w9nm w.heap.size;have HSZ:=ae hB;have HTL:=ae htl;obtain⟨W,hW⟩:=w9nm (w.alloc (an #[ab ac i,af x n c,af y tl d] 90));have bW:ag B w W:=by rw[←hW,←hB];exact(aI _ w).alloc (aG _) _
 have r1:aq W B 90 [ab ac i,af x n c,af y tl d]:=by rw[←hW,←hB];exact aq.new w _ _
 have hs:W.heap.size=B+1:=by rw[←hW,←hB];simp
 have c1:=r1.cell 1 _ rfl;have c2:=r1.cell 2 _ rfl;have HR:=ae r1;have HBW:=ae bW;have HS:=ae hs;have HSN:=ae (h.below (W':=W) (by rw[hB];exact bW));have HG:=ae (Hi _ s.ch bl W HSN.out.ch h.ok.ch (by omega));have hok:=ae h.ok;have htbl:Hid (s.tb.length<=800000):=by show _<=_;omega
 have hch:Hid (s.ch.length<=100000):=hl1;clear h bW r1 hs htl hl1;go_enter func275,ntmps275;simp only[dZ,aK];cases hgc:kA s.ch bl with
 | false=>
  rw[hgc]at HG;have HE:Hid (jw s bl ar=false):=by show _=_;unfold jw;rw[hgc];rfl
  rw[HE.out];clear hgc;go_wp2_with fail;refine HG.out.mono ?_;rintro e y1 ⟨rfl,hb1⟩;have HB1:=ae hb1;clear hb1;go_wp2_with fail;go_ret;refine⟨rfl, ?_⟩;rw[HSZ.out];exact HBW.out.trans (HB1.out.mono (by have:=HS.out;omega))
 | true=>
  rw[hgc]at HG;have HGC:=ae hgc;clear hgc;go_wp2_with fail;refine HG.out.mono ?_;rintro e y1 ⟨rfl,hb1⟩;have HR1:=ae (HR.out.below hb1);have c3:=HR1.out.cell 2 _ rfl;have HT:=ae (GG (HSN.out.tb.below hb1) bl ar htbl.out);have HB1:Hid (ag B w y1):=HBW.out.trans (hb1.mono (by have:=HS.out;omega));have hy1s:=hb1.size;have HSN1:=ae (HSN.out.below hb1);have HYS:Hid (B+1<=y1.heap.size):=by have:=HS.out;show _<=_;omega
  clear hb1 hy1s HG HSN c1 c2;cases htg:gB s.tb bl ar with
  | false=>
   rw[htg]at HT;have HE:Hid (jw s bl ar=false):=by show _=_;unfold jw;rw[HGC.out,htg];rfl
   clear htg;go_wp2_with fail;refine HT.out.mono ?_;rintro e y2 ⟨rfl,hb2⟩;have HB2:=ae hb2;clear hb2;go_wp2_with fail;go_ret;refine⟨by rw[HE.out];try rfl, ?_⟩;rw[HSZ.out];exact HB1.out.trans (HB2.out.mono (by have:=HYS.out;omega))
  | true=>
   rw[htg]at HT;have HE0:Hid (jw s bl ar=s.tb.all fun p=>dE s.ch p.1):=by show _=_;unfold jw;rw[HGC.out,htg];rfl
   clear htg;go_wp2_with fail;refine HT.out.mono ?_;rintro e y2 ⟨rfl,hb2⟩;have HR2:=ae (HR1.out.below hb2);have c4:=HR2.out.cell 2 _ rfl;have HB2:Hid (ag B w y2):=HB1.out.trans (hb2.mono (by have:=HYS.out;omega));have HSN2:=ae (HSN1.out.below hb2);have HYS2:Hid (B+1<=y2.heap.size):=by have:=HYS.out;have:=hb2.size;show _<=_;omega
   clear hb2 HT HSN1 c3 HR1 HB1;go_wp2_with fail;go_loopw [25] (fun iv wr=>∃k:Nat,k<=tl/\iv=ab ac (k:Int)/\Hid (∀p ∈ s.tb.take k,dE s.ch p.1=true)/\w9h y2 wr) (fun iv _=>tl - (aS iv).toNat)
   case atStart=>exact⟨0,bc _,rfl,(fun p hp=>by cases hp),aI _ _⟩
   case round=>
    obtain⟨k,hk,rfl,HP,HB3⟩:=hrel;by_cases hlt:k<tl
    ·obtain⟨p,hp⟩:∃p,s.tb[k]? =some p:=⟨_,aZ (by rw[HTL.out];exact hlt)⟩;have hsn:s.tb.take (k+1)=s.tb.take k++ [p]:=je hp;have hpm:=dp hp;obtain⟨bb,off,rfl,hbb,d1,d2⟩:=(HSN2.out.tb.below HB3.out).at hp;obtain⟨x0,y0⟩:=p;simp only at d1 d2;have hx0:(Lit.int ac x0).wf=true:=nE (hok.out.tb _ hpm).1.1 (hok.out.tb _ hpm).1.2;have HSN':=ae hsn;have g1:(k:Int)< (tl:Int):=by omega
     have HW:Hid (wrap64 ((k:Int)+1)=(k:Int)+1):=kR _ (by omega);have LD:=mt d1 d2;have ST:=mu wr x0 y0;obtain⟨W2,hW2⟩:=w9nm (wr.alloc (an #[ab ac x0,ab ac y0] 191));rw[hW2]at ST;have hb2:ag wr.heap.size wr W2:=by rw[←hW2];exact aH wr _
     have e1:W2.cell? ⟨wr.heap.size,0,none⟩=some (ab ac x0):=by rw[←hW2];exact(aq.new wr 191 [ab ac x0,ab ac y0]).cell 0 _ rfl
     have e2:W2.cell? ⟨B,1,none⟩=some (af x n c):=((HR2.out.below HB3.out).below hb2).cell 1 _ rfl;have HH:=ae (rK _ s.ch x0 hx0 W2 ((HSN2.out.ch.below HB3.out).below hb2) hok.out.ch);have HB4:=w9bt HB3 hb2;obtain⟨N,hN⟩:=w9nm wr.heap.size;rw[hN]at ST e1;have HLT:=ae hlt;cases hhb:dE s.ch x0 with
     | false=>
      rw[hhb]at HH;have HE:Hid ((s.tb.all fun p=>dE s.ch p.1)=false):=by
       show _=_;rw[List.all_eq_false];exact⟨_,hpm,by simp[hhb]⟩
      clear hhb hp hsn hpm hbb d1 d2 hx0 hW2 hb2 HB3 HP hlt;go_wp2_with fail;refine HH.out.mono ?_;rintro e y3 ⟨rfl,hb3⟩;have HB5:Hid (ag B w y3):=HB2.out.trans ((HB4.out.trans (hb3.mono HB4.out.size)).mono (by have:=HYS2.out;omega));clear hb3;go_wp2_with fail;refine bo (results_tmp rfl _ _ _) rfl ?_;refine⟨by rw[HE0.out,HE.out];try rfl, ?_⟩;rw[HSZ.out];exact HB5.out
     | true=>
      rw[hhb]at HH;have HHB:Hid (∀p ∈ s.tb.take (k+1),dE s.ch p.1=true):=fun p hp=>by
       rw[HSN'.out]at hp;rcases gc.1 hp with hp | hp
       ·exact HP.out p hp
       ·rw[eF.1 hp];exact hhb
      clear hhb hp hsn hpm hbb d1 d2 hx0 hW2 hb2 HB3 HP hlt;go_wp2_with fail;refine HH.out.mono ?_;rintro e y3 ⟨rfl,hb3⟩;have HB5:=w9bt HB4 hb3;clear hb3;go_wp2_with fail;exact⟨⟨k+1,HLT.out,by simp,HHB,HB5⟩,by have:=HLT.out;simp[aS];omega⟩
    ·obtain rfl:k=tl:=by omega
     have HE:Hid ((s.tb.all fun p=>dE s.ch p.1)=true):=by
      have:=HP.out;rw[de (by rw[HTL.out];exact aG _)]at this;show _=_;rw[iZ];exact this
     have HB5:Hid (ag B w wr):=HB2.out.trans (HB3.out.mono (by have:=HYS2.out;omega));clear HP HB3;go_wp2_with fail;refine bo (results_tmp rfl _ _ _) rfl ?_;refine⟨by rw[HE0.out,HE.out];try rfl, ?_⟩;rw[HSZ.out];exact HB5.out
end
section
section
variable {P:Program} {ops:Array Oper} {Q:Exit->Act->ah->Prop} {md:Region.Mode} {S:ah->Prop} {m:Nat}
def jo:Exit->Act->ah->Prop:=fun _ _ _=>False
theorem JS {o:Oper} {a:Act} {w:ah} {K:Act->ah->Prop} (hd:∀c,o.op≠ .defer c) (h:o.wp P a w K jo):o.wpIn Fence.wide m P a w K Q:=by
 unfold Oper.wpIn;refine⟨fun _ _=>trivial, ?_⟩;rw[Oper.semAt_eq _ _ _ hd];unfold Oper.wp at h;generalize (execOp a.eval o).run P w=r at *;cases r with
 | ok x w'=>
  cases x<;>simp only[Oper.upon,Oper.uponIn]at h ⊢<;>
   first
    | exact h
    | exact⟨fun e=>by simp[Fence.wide]at e,callsIn_wide.2 (h.mono fun e w'' he=>by cases e<;>first | exact he | exact he.elim | (obtain⟨_,_,h'⟩:=he;exact h'.elim))⟩
    | exact⟨fun e=>by simp[Fence.wide]at e,fun c cs _=>let⟨v,w',r,s⟩:=h c cs;⟨v,w',r,stepsIn_wide.2 s⟩⟩
    | exact h.elim
 | halt x w'=>cases x<;>simp only[Oper.upon,Oper.uponIn]at h ⊢<;>first | exact h | exact h.elim
theorem JT {i:Nat} {a:Act} {w:ah} {K:Act->ah->Prop} (hd:kY ops=true) (h:wpOp P ops jo i K a w):wpOpIn Fence.wide m P ops Q i K a w:=by
 unfold wpOp at h;unfold wpOpIn;cases ho:ops[i]? with
 | none=>simpa [ho]using h
 | some o=>
  simp only[ho]at h ⊢;by_cases hw:Region.wanted o (yielded ops a.tmps)=true
  ·simp only[hw,if_true]at h ⊢;rcases h with h | h
   ·exact JS (ru hd ho) h
   ·obtain⟨_,_,_,h'⟩:=h;exact h'.elim
  ·simp only[hw]at h ⊢;exact⟨fun _ _=>trivial,h⟩
theorem Ar {n g:Nat} {L:Array Bool->Act->ah->Prop} (hd:kY ops=true) (hL:∀listed a w,L listed a w->wpAnyIn Fence.wide m P md ops Q g listed a w):
  ∀(f:Nat) (listed:Array Bool) (a:Act) (w:ah),kB P md ops jo S n L f listed a w->wpAnyIn Fence.wide m P md ops Q (f+g) listed a w
 | 0,listed,a,w,h=>by rw[dP];exact hL _ _ _ h
 | f+1,listed,a,w,h=>by
  rw[show f+1+g=(f+g)+1 by omega];exact⟨fun h0=>absurd h0 h.1,fun i hi=>wpOpIn_mono (fun a' w' h'=>Ar hd hL f _ a' w' h'.2) (JT hd (h.2 i hi).2)⟩
theorem As:∀(l:List Oper) (k:Nat) (listed:Array Bool) (a:Act) (w:ah),(∀j,l[j]? =ops[k+j]?)->
  Region.seqB md ops l.length k listed=true->wpListIn Fence.wide m P ops Q l a w->wpAnyIn Fence.wide m P md ops Q l.length listed a w
 | [],_,_,_,_,_,hB,h=>⟨by simpa [Region.seqB]using hB,h⟩
 | o::l,k,listed,a,w,hl,hB,h=>by
  have h0:ops[k]? =some o:=by simpa using(hl 0).symm
  simp only[bz,Region.seqB,cm,decide_eq_true_eq]at hB;refine⟨fun h1=>(by rw[hB.1]at h1;cases h1),fun i hi=> ?_⟩;rw[hB.1]at hi;have hik:i=k:=by simpa using hi
  subst hik;have hw:wpOpIn Fence.wide m P ops Q i (wpListIn Fence.wide m P ops Q l) a w:=by unfold wpOpIn;simp only[h0];exact h
  exact wpOpIn_mono (fun a' w' h'=>As l (i+1) _ a' w' (fun j=>by have:=hl (j+1);simpa [Nat.add_assoc,Nat.add_comm 1 j]using this) hB.2 h') hw
def nO (P:Program) (l:List Oper) (S:ah->Prop) (K:Act->Prop):List Nat->Act->Prop
 | [],a=>K a
 | i::is,a=>wpQuiet P l.toArray S (fun a'=>nO P l S K is a') [dL l i] a
theorem Au {l:List Oper} {K:Act->Prop} {a:Act}:nO P l S K [] a=K a:=rfl
theorem Av {l:List Oper} {K:Act->Prop} {i:Nat} {is:List Nat} {a:Act}:nO P l S K (i::is) a=wpQuiet P l.toArray S (fun a'=>nO P l S K is a') [dL l i] a:=rfl
theorem JU {l:List Oper} {n:Nat} (hsel:Region.noSelect l.toArray=true) (hs:Region.sinkB md l.toArray n=true) (hc:Region.chainB md l.toArray n=true) (hn:n<l.length) (K:Act->ah->Prop):
  ∀(is:List Nat) (f:Nat) (listed:Array Bool) (a:Act) (w:ah),HeadInv md l.toArray n listed->gC md l n (Plan.takes is .leaf) f listed=true->S w->nO P l S (fun a'=>K a' w) is a->
   kB P md l.toArray jo S n (fun listed' a' w'=>Region.seqB md l.toArray (l.length - n) n listed'=true/\K a' w') f listed a w:=by
 have hn':n<l.toArray.size:=by simpa using hn
 intro is
 induction is with
 | nil=>
  intro f listed a w inv hB hS h;have hB':gC md l n .leaf f listed=true:=hB;simp only[gC,cm,decide_eq_true_eq]at hB';obtain⟨rfl,hB'⟩:=hB';exact⟨hB',h⟩
 | cons i is ih=>
  intro f listed a w inv hB hS h;have hB':gC md l n (.take i (Plan.takes is .leaf)) f listed=true:=hB;simp only[gC,cm,decide_eq_true_eq]at hB';obtain⟨⟨⟨⟨⟨hf,hin⟩,hrd⟩,hr⟩,hfr⟩,hB'⟩:=hB';obtain⟨f,rfl⟩:∃g,f=g+1:=⟨f - 1,by omega⟩;have ho:l.toArray[i]? =some (dL l i):=by simpa using pP l i (by omega)
  have hr':i ∈ Region.ready md l.toArray listed:=by simpa using hr
  simp only[nO,wpQuiet]at h;obtain⟨v,hy,hK⟩:=uP (i:=i) hrd ⟨w,hS⟩ h;exact yn ho (Region.noSelect_spec hsel) (fun c a w h=>h) hs hc hn' hin (fun listed a w hL=>seqB_ready hL.1) f listed a w inv (Region.free_spec ho hfr) hr' hy hS
   (ih f _ _ w (inv.set hr' hin) (by simpa using hB') hS hK)
theorem Aw {id:Nat} {a:Act} {w:ah} {l:List Oper} (S:ah->Prop) (n:Nat) (is:List Nat) (hm:P.follows .mixedOrders=true) (hd:kY l.toArray=true) (hB:oG l n (Plan.takes is .leaf)=true) (hS:S w.drew)
  (h:nO P l S (fun a'=>wpListIn Fence.wide m P l.toArray Q (l.drop n) a' w.drew) is a):(Code.region id l.toArray true).wpIn Fence.wide m P Q a w:=by
 simp only[oG,cm,decide_eq_true_eq]at hB;obtain⟨⟨⟨⟨hsel,hn⟩,hs⟩,hc⟩,hp⟩:=hB;have inv0:HeadInv .any l.toArray n (Array.replicate l.toArray.size false):=
  ⟨by simp,fun j oj _ hl=>(by rw[getD_replicate_false]at hl;cases hl),fun t _ ht=>getD_in (by simpa using ht) (getD_replicate_false _ _)⟩
 have H:=JU (md:=.any) hsel hs hc hn (fun a' w'=>wpListIn Fence.wide m P l.toArray Q (l.drop n) a' w') is n _ a w.drew inv0 (by simpa using hp) hS h;refine wpIn_region_any hm ?_;have:=Ar (g:=l.length - n) hd (fun listed a' w' hL=>by
  have:=As (m:=m) (md:=.any) (Q:=Q) (l.drop n) n listed a' w' (fun j=>by simp[lI]) (by rw[dm];exact hL.1) hL.2
  rwa [dm]at this) _ _ _ _ H
 rw[show n+(l.length - n)=l.toArray.size by simp;omega]at this;exact this
end
end
section
section
variable {P:Program} {ops:Array Oper} {Q:Exit->Act->ah->Prop} {md:Region.Mode} {S:ah->Prop}
theorem JV {o:Oper} {a:Act} {w:ah} {K:Act->ah->Prop} (h:o.wp P a w K jo):o.wp P a w K Q:=by
 unfold Oper.wp at *;generalize (execOp a.eval o).run P w=r at *;cases r with
 | ok n w'=>
  cases n<;>simp only[Oper.upon]at h ⊢<;>
   first
    | exact h
    | exact Calls.mono h (fun e w'' he=>by cases e<;>first | exact he | exact he.elim | (obtain⟨a',w',h'⟩:=he;exact h'.elim))
 | halt x w'=>cases x<;>simp only[Oper.upon]at h ⊢<;>first | exact h | exact h.elim
theorem JW {i:Nat} {K:Act->ah->Prop} {a:Act} {w:ah} (h:wpOp P ops jo i K a w):wpOp P ops Q i K a w:=by
 unfold wpOp at *;cases ho:ops[i]? with
 | none=>simpa [ho]using h
 | some o=>
  simp only[ho]at h ⊢;by_cases hw:Region.wanted o (yielded ops a.tmps)=true
  ·simp only[hw,if_true]at h ⊢;rcases h with h | ⟨_,_,_,h'⟩
   ·exact aA (JV h)
   ·exact h'.elim
  ·simp only[hw]at h ⊢;exact h
theorem Ay {n:Nat} {L:Array Bool->Act->ah->Prop}:∀(f:Nat) (listed:Array Bool) (a:Act) (w:ah),kB P md ops jo S n L f listed a w->kB P md ops Q S n L f listed a w
 | 0,_,_,_,h=>h
 | f+1,_,_,_,h=>⟨h.1,fun i hi=>⟨(h.2 i hi).1,wpOp_mono (fun a' w' h'=>⟨h'.1,Ay f _ a' w' h'.2⟩) (JW (h.2 i hi).2)⟩⟩
def qr (md:Region.Mode) (ops:Array Oper) (n:Nat):Prop:=∀(listed:Array Bool) (i:Nat),HeadInv md ops n listed->i<n->listed.getD i true=false->∀j ∈ Region.ready md ops listed,j<n
theorem JX {n:Nat} (hs:Region.sinkB md ops n=true) (hc:Region.chainB md ops n=true) (hn:n<ops.size):qr md ops n:=fun listed i inv hin hun j hj=>by
 rcases Nat.lt_or_ge j n with h | h
 ·exact h
 ·exact absurd hj (tail_waits hs hc hn inv _ i rfl hin hun j h)
theorem JY:qr md ops ops.size:=fun listed i _ _ _ j hj=>by
 obtain⟨_,oj,hoj,_⟩:=mem_ready.1 hj;exact(bL.1 hoj).1
theorem JZ {n i:Nat} {oi:Oper} {v:ak} {L:Array Bool->Act->ah->Prop} (hi:ops[i]? =some oi) (hsel:∀(j:Nat) (o:Oper) cs b,ops[j]? =some o->o.op≠ .select cs b)
  (hT:qr md ops n) (hin:i<n)
  (hdone:∀listed a w,L listed a w->∀j ∈ Region.ready md ops listed,n<=j):
  ∀(f:Nat) (listed:Array Bool) (a:Act) (w:ah),HeadInv md ops n listed->
   (∀j oj,ops[j]? =some oj->j≠i->listed.getD j true=false->(∀e ∈ oj.after,Region.binds md e=true->e.on≠i)->oi.apart ops oj=true)->
   i ∈ Region.ready md ops listed->YieldsIf P ops S oi v a->S w->
   kB P md ops jo S n L f (listed.setIfInBounds i true) (a.put oi.dst v) w->kB P md ops jo S n L (f+1) listed a w:=by
 intro f
 induction f with
 | zero=>
  intro listed a w inv _ hr hy hS H;have hun:=(mem_ready.1 hr).1;refine⟨fun h=>(by rw[h]at hr;cases hr),fun j hj=> ?_⟩;have hjn:j<n:=hT listed i inv hin hun j hj;refine⟨hjn, ?_⟩;by_cases hji:j=i
  ·subst hji;exact hy.wpOp hi hS ⟨hS,H⟩
  ·have:=hdone _ _ _ H j (ready_mono hj hji);omega
 | succ f ih=>
  intro listed a w inv hfree hr hy hS H;have hun:=(mem_ready.1 hr).1;refine⟨fun h=>(by rw[h]at hr;cases hr),fun j hj=> ?_⟩;have hjn:j<n:=hT listed i inv hin hun j hj;refine⟨hjn, ?_⟩;by_cases hji:j=i
  ·subst hji;exact hy.wpOp hi hS ⟨hS,H⟩
  ·have h1:=(H.2 j (ready_mono hj hji)).2;obtain⟨hjun,oj,hoj,hall⟩:=mem_ready.1 hj;have hnot:∀e ∈ oj.after,Region.binds md e=true->e.on≠i:=fun e he hb heq=>by
    have h1:=hall e he hb;rw[heq,getD_both hun]at h1;cases h1
   have h2:=wpOp_putIf hoj (hfree j oj hoj hji hjun hnot) (fun cs b=>hsel i oi cs b hi) (fun cs b=>hsel j oj cs b hoj) (fun c a w h=>h) hy h1;have hfree':∀k ok,ops[k]? =some ok->k≠i->(listed.setIfInBounds j true).getD k true=false->
     (∀e ∈ ok.after,Region.binds md e=true->e.on≠i)->oi.apart ops ok=true:=fun k ok hk hki hun hno=>by
    refine hfree k ok hk hki ?_ hno;by_cases hjk:j=k
    ·subst hjk;exact hjun
    ·rw[getD_set_ne true hjk]at hun;exact hun
   refine wpOp_mono (fun a' w' h3=>⟨h3.2.1,ih (listed.setIfInBounds j true) a' w' (inv.set hj hjn) hfree' (ready_mono hr (Ne.symm hji)) h3.1 h3.2.1 ?_⟩) h2;rw[Array.setIfInBounds_comm _ _ hji];exact h3.2.2
def gR (P:Program) (l:List Oper) (Q:Exit->Act->ah->Prop) (S:ah->Prop) (n:Nat):Plan->Act->ah->Prop
 | .leaf,a,w=>wpList P l.toArray Q (l.drop n) a w
 | .take i next,a,w=>wpQuiet P l.toArray S (fun a'=>gR P l Q S n next a' w) [dL l i] a
 | .one i next,a,w=>wpList P l.toArray (it S jo (gR P l Q S n next)) [dL l i] a w
 | .two i j n1 n2,a,w=>wpList P l.toArray (it S jo (gR P l Q S n n1)) [dL l i] a w/\wpList P l.toArray (it S jo (gR P l Q S n n2)) [dL l j] a w
theorem lR {l:List Oper} {n:Nat} {a:Act} {w:ah}:gR P l Q S n .leaf a w=wpList P l.toArray Q (l.drop n) a w:=rfl
theorem eY {l:List Oper} {n i:Nat} {p:Plan} {a:Act} {w:ah}:gR P l Q S n (.one i p) a w=wpList P l.toArray (it S jo (gR P l Q S n p)) [dL l i] a w:=rfl
theorem Az {l:List Oper} {n i j:Nat} {p q:Plan} {a:Act} {w:ah}:gR P l Q S n (.two i j p q) a w=(wpList P l.toArray (it S jo (gR P l Q S n p)) [dL l i] a w/\wpList P l.toArray (it S jo (gR P l Q S n q)) [dL l j] a w):=rfl
theorem jL {l:List Oper} {n:Nat} {p:Plan} {a:Act} {w:ah}:gR P l Q S n (.takes [] p) a w=gR P l Q S n p a w:=rfl
theorem jM {l:List Oper} {n i:Nat} {is:List Nat} {p:Plan} {a:Act} {w:ah}:gR P l Q S n (.takes (i::is) p) a w=wpQuiet P l.toArray S (fun a'=>gR P l Q S n (.takes is p) a' w) [dL l i] a:=rfl
theorem Ka {l:List Oper} {n:Nat} (hsel:Region.noSelect l.toArray=true) (hT:qr md l.toArray n) (hn:n<=l.length):
  ∀(p:Plan) (f:Nat) (listed:Array Bool) (a:Act) (w:ah),HeadInv md l.toArray n listed->gC md l n p f listed=true->S w->gR P l Q S n p a w->
   kB P md l.toArray jo S n (fun listed' a' w'=>Region.seqB md l.toArray (l.length - n) n listed'=true/\wpList P l.toArray Q (l.drop n) a' w') f listed a w:=by
 intro p
 induction p with
 | leaf=>
  intro f listed a w inv hB hS h;simp only[gC,cm,decide_eq_true_eq]at hB;obtain⟨rfl,hB⟩:=hB;exact⟨hB,h⟩
 | take i next ih=>
  intro f listed a w inv hB hS h;simp only[gC,cm,decide_eq_true_eq]at hB;obtain⟨⟨⟨⟨⟨hf,hin⟩,hrd⟩,hr⟩,hfr⟩,hB⟩:=hB;obtain⟨f,rfl⟩:∃g,f=g+1:=⟨f - 1,by omega⟩;have ho:l.toArray[i]? =some (dL l i):=by simpa using pP l i (by omega)
  have hr':i ∈ Region.ready md l.toArray listed:=by simpa using hr
  simp only[gR,wpQuiet]at h;obtain⟨v,hy,hK⟩:=uP (i:=i) hrd ⟨w,hS⟩ h;exact JZ ho (Region.noSelect_spec hsel) hT hin (fun listed a w hL=>seqB_ready hL.1) f listed a w inv (Region.free_spec ho hfr) hr' hy hS
   (ih f _ _ w (inv.set hr' hin) (by simpa using hB) hS hK)
 | one i next ih=>
  intro f listed a w inv hB hS h;simp only[gC,cm,decide_eq_true_eq]at hB;obtain⟨⟨⟨hf,hin⟩,hr⟩,hB⟩:=hB;obtain⟨f,rfl⟩:∃g,f=g+1:=⟨f - 1,by omega⟩;refine⟨by rw[hr];simp,fun j hj=> ?_⟩;have hj':=hj;rw[hr]at hj;obtain rfl:j=i:=by simpa using hj
  exact⟨hin,wpOp_mono (fun a' w' h'=>⟨h'.1,ih f _ _ w' (inv.set hj' hin) (by simpa using hB) h'.1 h'.2⟩) (oE (by omega) h)⟩
 | two i k n1 n2 ih1 ih2=>
  intro f listed a w inv hB hS h;simp only[gC,cm,decide_eq_true_eq]at hB;obtain⟨⟨⟨⟨⟨hf,hin⟩,hkn⟩,hr⟩,hB1⟩,hB2⟩:=hB;obtain⟨f,rfl⟩:∃g,f=g+1:=⟨f - 1,by omega⟩;obtain⟨g1,g2⟩:=h;refine⟨by rw[hr];simp,fun j hj=> ?_⟩;have hj':=hj;rw[hr]at hj;rcases(by simpa using hj:j=i\/j=k)with rfl | rfl
  ·exact⟨hin,wpOp_mono (fun a' w' h'=>⟨h'.1,ih1 f _ _ w' (inv.set hj' hin) (by simpa using hB1) h'.1 h'.2⟩) (oE (by omega) g1)⟩
  ·exact⟨hkn,wpOp_mono (fun a' w' h'=>⟨h'.1,ih2 f _ _ w' (inv.set hj' hkn) (by simpa using hB2) h'.1 h'.2⟩) (oE (by omega) g2)⟩
def vU (l:List Oper) (n:Nat) (p:Plan):Bool:=
 Region.noSelect l.toArray&&(decide (n=l.length)||(decide (n<l.length)&&Region.sinkB .any l.toArray n&&Region.chainB .any l.toArray n))&&gC .any l n p n (Array.replicate l.length false)
theorem Kb {l:List Oper} {a:Act} {w:ah} (S:ah->Prop) (n:Nat) (p:Plan) (hB:vU l n p=true) (hS:S w)
  (h:gR P l Q S n p a w):wpAny P .any l.toArray Q l.toArray.size (Array.replicate l.toArray.size false) a w:=by
 simp only[vU,cm,Bool.or_eq_true,decide_eq_true_eq]at hB;obtain⟨⟨hsel,hnn⟩,hp⟩:=hB;have hn:n<=l.length:=by omega
 have hT:qr .any l.toArray n:=by
  rcases hnn with rfl | ⟨⟨hn,hs⟩,hc⟩
  ·have:=JY (md:=.any) (ops:=l.toArray)
   simpa using this
  ·exact JX hs hc (by simpa using hn)
 have inv0:HeadInv .any l.toArray n (Array.replicate l.toArray.size false):=
  ⟨by simp,fun j oj _ hl=>(by rw[getD_replicate_false]at hl;cases hl),fun t _ ht=>getD_in (by simpa using ht) (getD_replicate_false _ _)⟩
 have H:=Ka (md:=.any) hsel hT hn p n _ a w inv0 (by simpa using hp) hS h;have:=uQ (g:=l.length - n) (fun listed a' w' hL=>by
  have:=wpAny_of_seq (md:=.any) (Q':=Q) (l.drop n) n listed a' w' (fun j=>by simp[lI]) (by rw[dm];exact hL.1) hL.2
  rwa [dm]at this) _ _ _ _ (Ay (Q:=Q) _ _ _ _ H)
 rw[show n+(l.length - n)=l.toArray.size by simp;omega]at this;exact this
theorem mX {id:Nat} {a:Act} {w:ah} {l:List Oper} (S:ah->Prop) (n:Nat) (p:Plan) (hm:P.follows .mixedOrders=true) (hB:vU l n p=true) (hS:S w.drew)
  (h:gR P l Q S n p a w.drew):(Code.region id l.toArray true).wp P Q a w:=
 wp_region_any hm (Kb S n p hB hS h)
end
end
section
attribute [-simp] isAgg90 zeroValue90 isAgg191 zeroValue191
attribute [-go_sem] aE aL
attribute [local go_sem] pW pX fB eJ
attribute [local go_sem] Oper.semAt_some
theorem bT.setLow {N B':Nat} {x:ah} {v:ak} {zs:List Int} (h:bT N x v zs) (hB:B'<N) (j:Nat) (u:ak):bT N (x.setCell ⟨B',j,none⟩ u) v zs:=h.kept (fH x B' j u) (aD fun e=>by have:=(h.base _ e).1;omega)
theorem bT.own {N M:Nat} {x y:ah} {v:ak} {zs:List Int} {row:Option Nat} (h:bT N x v zs) (hg:x.grownBy y row) (hr:∀r,row=some r->M<=r/\∃o:Obj,x.heap[r]? =some o/\o.isCells=false):bT N y v zs:=pZ h hg hr
theorem Kc {N:Nat} {w:ah} {v:ak} {zs:List Int} (h:bT N w v zs) (hlen:zs.length<=1000000):
  ap aj 277 #[v] w fun e w'=>e=ao (aQ #[])/\bT N w' v (sorted zs)/\w.grownBy w' v.ownBlock:=by
 by_cases hv:v=af none 0 0
 ·subst hv;have h0:zs= []:=by
   rcases h.2 with⟨_,e⟩ | ⟨g,cap,cur,e,_⟩
   ·exact ka e
   ·cases e
  subst h0;refine(Any.slices_Sort_int_none yB none 0 w).mono ?_;rintro e w' ⟨rfl,rfl⟩;exact⟨rfl,by rw[show sorted ([]:List Int)= []from by simp[sorted]];exact h,World.grownBy.refl _ _⟩
 ·refine(yH h hv hlen).mono ?_;rintro e w' ⟨rfl,ho,hg⟩;refine⟨rfl, ?_,hg⟩;show w'.ownsRow _ _ _ _ _ _;rw[rI];exact ho
theorem Kd {N:Nat} {w:ah} {v:ak} {zs:List Int} (h:bT N w v zs):
  ap aj 278 #[v] w fun e w'=>(∃a cap,e=ao (af a (Lib.compact zs).length cap))/\w.grownBy w' v.ownBlock:=by
 by_cases hv:v=af none 0 0
 ·subst hv;have h0:zs= []:=by
   rcases h.2 with⟨_,e⟩ | ⟨g,cap,cur,e,_⟩
   ·exact ka e
   ·cases e
  subst h0;refine(GB none 0 w).mono ?_;rintro e w' ⟨rfl,rfl⟩;exact⟨⟨_,_,rfl⟩,World.grownBy.refl _ _⟩
 ·exact yI h hv
theorem AA {l₀ n:Nat} {P:Program} {ops:Array Oper} {Q:Exit->Act->ah->Prop} {rest:List Oper} {a:Act} {w:ah} {dst:Option Tmp} {ty t:aR} {len:Nat} {parts:Array (Nat×Operand)} {pos:String} {after:Array Edge} {guard:Option (Nat×Bool)}
  (hL:¬LetsOut Q) (hd:∀o ∈ rest,∀c,o.op≠ .defer c) (h:wpList P ops Q ({dst:=dst,op:=.buildSlice t len parts,type:=ty,pos:=pos,after:=after,guard:=guard}::rest) a w):
  wpListIn (Fence.wide.inRound l₀) n P ops Q ({dst:=dst,op:=.buildSlice t len parts,type:=ty,pos:=pos,after:=after,guard:=guard}::rest) a w:=
 rQ hL _ a w (fun o ho=>by
  rcases dy.1 ho with rfl | ho
  ·intro c e;cases e
  ·exact hd o ho) h
structure GdI (B M:Nat) (bl ar last:Int) (a:Option aF) (len cap:Nat) (w W x:ah):Prop where
 g0:aq x B 42 [af a len cap]
 g1:aq x (B+1) 3 [ab ac bl]
 g2:aq x (B+2) 3 [ab ac ar]
 g3:aq x (B+3) 4 [.bool false]
 g4:aq x (B+4) 3 [ab ac last]
 g7:SpX B (B+6) 0 (len:Int) (af a len cap) w x
 kf:KeepsFrom M W x
theorem GdI.low {B M:Nat} {bl ar last:Int} {a:Option aF} {len cap:Nat} {w W x y:ah} (h:GdI B M bl ar last a len cap w W x) (hb:ag (B+9) x y) (hk:KeepsFrom M x y):GdI B M bl ar last a len cap w W y:=
 ⟨h.g0.belowN hb (by omega),h.g1.belowN hb (by omega),h.g2.belowN hb (by omega),h.g3.belowN hb (by omega),h.g4.belowN hb (by omega),⟨h.g7.bl.belowN hb (by omega),h.g7.bi.belowN hb (by omega),h.g7.bj.belowN hb (by omega),h.g7.be.trans (hb.mono (by omega))⟩,jH h.kf hk⟩
theorem GdI.set4 {B M:Nat} {bl ar last:Int} {a:Option aF} {len cap:Nat} {w W x:ah} (h:GdI B M bl ar last a len cap w W x) (z:Int):GdI B M bl ar z a len cap w W (x.setCell ⟨B+4,0,none⟩ (ab ac z)):=
 ⟨fJ h.g0 (by omega) 0 _,fJ h.g1 (by omega) 0 _,fJ h.g2 (by omega) 0 _,fJ h.g3 (by omega) 0 _,h.g4.set 0 _,h.g7.set (by omega) (by omega) 0 _,jH h.kf (lO h.g4 (fH x (B+4) 0 _))⟩
theorem GdI.set5 {B M:Nat} {bl ar last:Int} {a:Option aF} {len cap:Nat} {w W x:ah} {c:List ak} {t:aR} (h:GdI B M bl ar last a len cap w W x) (hr:aq x (B+5) t c) (v:ak):GdI B M bl ar last a len cap w W (x.setCell ⟨B+5,0,none⟩ v):=
 ⟨fJ h.g0 (by omega) 0 _,fJ h.g1 (by omega) 0 _,fJ h.g2 (by omega) 0 _,fJ h.g3 (by omega) 0 _,fJ h.g4 (by omega) 0 _,h.g7.set (by omega) (by omega) 0 _,jH h.kf (lO hr (fH x (B+5) 0 _))⟩
theorem Ke {w:ah} {v:ak} {l:List SN} (h:ki w v l) (hK:jd 1000 l) (bl ar:Int):
  ap aj 244 #[v,ab ac bl,ab ac ar] w fun e w'=>e=ao (.bool (eu l bl ar))/\ag w.heap.size w w':=by
 have hmx:=w9x
 obtain⟨r,h⟩:=h;have HS:=ae h;have HKL:=ae hK;obtain⟨a,cap,rfl,h1,h2, -⟩:=h;obtain⟨len,hle⟩:=w9nm l.length;have HL:=ae hle;obtain⟨B,hB⟩:=w9nm w.heap.size;have HSZ:=ae hB;rw[hle]at HS h1 ⊢;obtain⟨Y,hY⟩:=w9nm ((((w.alloc (an #[af a len cap] 42)).alloc (an #[ab ac bl] 3)).alloc (an #[ab ac ar] 3)).alloc (an #[.bool false] 4));have hYs:Y.heap.size=B+4:=by rw[←hY,←hB];simp
 have hYb:ag B w Y:=by rw[←hY,←hB];exact((((aI _ w).alloc (aG _) _).alloc (by simp) _).alloc (by simp;omega) _).alloc (by simp;omega) _
 have y0:aq Y B 42 [af a len cap]:=by rw[←hY,←hB];exact(((aq.new w _ _).below (aH _ _)).below (aH _ _)).below (aH _ _)
 have y1:aq Y (B+1) 3 [ab ac bl]:=by
  rw[←hY,←hB];have:=aq.new (w.alloc (an #[af a len cap] 42)) 3 [ab ac bl];rw[bO]at this;exact(this.below (aH _ _)).below (aH _ _)
 have y2:aq Y (B+2) 3 [ab ac ar]:=by
  rw[←hY,←hB];have:=aq.new ((w.alloc (an #[af a len cap] 42)).alloc (an #[ab ac bl] 3)) 3 [ab ac ar];simp only[bO]at this;exact this.below (aH _ _)
 have y3:aq Y (B+3) 4 [.bool false]:=by
  rw[←hY,←hB];have:=aq.new (((w.alloc (an #[af a len cap] 42)).alloc (an #[ab ac bl] 3)).alloc (an #[ab ac ar] 3)) 4 [.bool false];simp only[bO]at this;exact this
 have c0:=y0.cell 0 _ rfl;by_cases hi:8<len
 ·have q0:decide ((len:Int)>8)=true:=by simp;omega
  have E0:Hid (eu l bl ar=false):=by show _=_;unfold eu;rw[hle,decide_eq_false (by omega)];rfl
  have f3:=y3.frozen 0;have c3:=y3.cell 0 _ rfl;have R1:=ae (y3.set 0 (.bool false));have HB2:Hid (ag B w (Y.setCell ⟨B+3,0,none⟩ (.bool false))):=kk hYb (by omega) 0 _;have g1:(len:Int)>8:=by omega
  clear y0 y1 y2 y3 hYb h1 h2;go_enter func244,ntmps244;go_wp2_with fail;refine bo (ev rfl rfl (uX R1.out)) rfl ?_;rw[HSZ.out];exact⟨by rw[E0.out],HB2.out⟩
 ·have q0:decide ((len:Int)>8)=false:=by simp;omega
  have hlen8:len<=8:=by omega
  have g1:¬(len:Int)>8:=by omega
  refine(callsIn_wide (n:=3)).1 ?_;refine gA func244 rfl trivial ?_ rfl;simp only[ntmps244,cJ,bz,cx,Nat.reduceAdd,Nat.reduceSub,cO,cP,cQ,cR,cy,cC];obtain⟨X,hX⟩:=w9nm ((Y.alloc (an #[ab ac 0] 3)).alloc (an #[af none 0 0] 41));have hXs:X.heap.size=B+6:=by rw[←hX];simp[hYs]
  have hYX:ag Y.heap.size Y X:=by rw[←hX];exact((aI _ Y).alloc (aG _) _).alloc (by simp) _
  have hXb:ag B w X:=hYb.trans (hYX.mono (by omega));have x4:aq X (B+4) 3 [ab ac 0]:=by rw[←hX,←hYs];exact(aq.new Y _ _).below (aH _ _)
  have x5:aq X (B+5) 41 [aK (none,0,0)]:=by
   rw[←hX];have:=aq.new (Y.alloc (an #[ab ac 0] 3)) 41 [af none 0 0];rw[bO,hYs]at this;exact this
  have SX:=SpX.new 0 (len:Int) (af a len cap) hXb (by omega);rw[hXs]at SX;obtain⟨W0,hW0⟩:=w9nm (((X.alloc (an #[af a len cap] 42)).alloc (an #[ab ac 0] 3)).alloc (an #[ab ac (len:Int)] 3));have hWs:W0.heap.size=B+9:=by rw[←hW0];simp[hXs]
  have bX:ag X.heap.size X W0:=by rw[←hW0];exact(((aI _ X).alloc (aG _) _).alloc (by simp) _).alloc (by simp;omega) _
  rw[hW0]at SX;have z0:=(y0.below hYX).below bX;have z1:=(y1.below hYX).below bX;have z2:=(y2.below hYX).below bX;have z3:=(y3.below hYX).below bX;have z4:=x4.below bX;have z5:=x5.below bX;have xc:X.cell? ⟨B,0,none⟩=some (af a len cap):=(y0.below hYX).cell 0 _ rfl;clear y0 y1 y2 y3 x4 x5 bX hXb hYX hYb h1 h2
  gi_wp2_with (refine⟨trivial, ?_⟩;gi_at_call 274;refine(yX _ _ trivial rfl _ _ _ _ _ _).mono ?_;rintro e w' ⟨rfl,rfl⟩)
  try rw[hX]
  try rw[hW0]
  try rw[hXs]
  clear hX hW0 hY c0 xc;have HW:=ae hWs;have hm:kW l (len:Int) - mr 0=len:=by rw[←hle,zd,rR];rfl
  have hseq:=yY 2 (by omega) (B+6+1) (B+6+2) (B+6) 0 (len:Int) (af a len cap) r l W0;rw[hm,rR]at hseq;refine oQ (n:=3) rfl (by omega) (gf:= 294) (lb:=#[am (some ⟨B+6+1,0,none⟩),am (some ⟨B+6+2,0,none⟩),am (some ⟨B+6,0,none⟩)]) rfl trivial (enters_of func294 (by kernel_rfl) rfl)
   hseq (aI _ _) (fun _=>rfl)
   (fun k W=>∃(last:Int) (u:jj),aq W B 42 [af a len cap]/\aq W (B+1) 3 [ab ac bl]/\aq W (B+2) 3 [ab ac ar]/\aq W (B+3) 4 [.bool false]/\aq W (B+4) 3 [ab ac last]/\aq W (B+5) 41 [aK u]/\bT (B+9) W (aK u) (dK (l.take k))/\SpX B (B+6) 0 (len:Int) (af a len cap) w W/\jx bl ar 0 l=jx bl ar last (l.drop k))
   (fun c k W=>c=.ret/\aq W (B+3) 4 [.bool (eu l bl ar)]/\ag B w W)
   ?hR ?hI ?hIx ⟨0,_,z0,z1,z2,z3,z4,z5,bT.nil _ _,SX,rfl⟩
   (fun k a' W=>∃C q,B+8<C/\r[k]? =some q/\aq W C 90 (cX q)/\a'={tmps:=#[af a len cap,ab ac bl,ab ac ar,am (some ⟨B,0,none⟩),am (some ⟨B+1,0,none⟩),am (some ⟨B+2,0,none⟩),am (some ⟨B+3,0,none⟩),am (some ⟨B+4,0,none⟩),am (some ⟨B+5,0,none⟩),ab ac (k:Int),am (some ⟨C,0,none⟩),az,az,af a len cap,ab ac (len:Int),.bool false,af a len cap,af a len cap,ab ac (len:Int),.func (.func 294) #[] #[am (some ⟨B+6+1,0,none⟩),am (some ⟨B+6+2,0,none⟩),am (some ⟨B+6,0,none⟩)],ab ac (k:Int),dZ q,az,az,az,az,az,az,az,az,az,az,az,az,az,az,az,az,az,az,az,az,az,az,az,az,az,az,az,az,az,az,az,az,az,az,az,az,az,az,az,az,az,az,az,az,az,az,az,az,az],defers:= []})
   ?hAx ?assign ?body ?done ?stop
  case hR=>
   rintro k W ⟨last,u,_,_,_,_,_,_,_,h3,_⟩;exact h3.spb HSZ.out HS.out
  case hI=>
   intro s Y Z row ⟨last,u,g0,g1,g2,g3,g4,g5,g6,g7,g8⟩ hg hr;exact⟨last,u,fI g0 hg hr,fI g1 hg hr,fI g2 hg hr,fI g3 hg hr,fI g4 hg hr,fI g5 hg hr,g6.own hg hr,g7.own (by omega) hg (by omega) hr,g8⟩
  case hIx=>
   intro c s Y Z row ⟨g1,g2,g3⟩ hg hr;exact⟨g1,fI g2 hg hr,oT g3 (by omega) hg (fun r e=>⟨by have:=(hr r e).1;omega,(hr r e).2⟩)⟩
  case hAx=>
   rintro k a' _ Y Z row ⟨C,q,f1,f2,f3,f4⟩ hg hr;exact⟨C,q,f1,f2,fI f3 hg hr,f4⟩
  case assign=>
   rintro lp k W K hkm ⟨last,u,g0,g1,g2,g3,g4,g5,g6,g7,g8⟩ hK;obtain⟨q,s,hq,hs, -⟩:=rO HS.out (k:=k) (by rw[HL.out];exact hkm);have ST:=mS W q;have HZ:Hid (B+8<W.heap.size):=g7.bj.lt;have hK:=hK _ _ (kj (aH W (an (cX q).toArray 90))) ⟨last,u,g0.below (aH W _),g1.below (aH W _),g2.below (aH W _),g3.below (aH W _),g4.below (aH W _),g5.below (aH W _),g6.below (aH W _),g7.alloc (by have:=HZ.out;omega) _,g8⟩ ⟨W.heap.size,q,HZ.out,hq,aq.new W _ _,rfl⟩;rw[yZ 0 (by rw[dP];exact hq),dP];clear g0 g1 g2 g3 g4 g5 g6 g7 hq hs
   gi_wp2
   exact hK
  case body=>
   clear SX z0 z1 z2 z3 z4 z5 hseq hm q0 hi;rintro lp k a' W _ _ hkm ⟨last,u,g0,g1,g2,g3,g4,g5,g6,g7,g8⟩ ⟨C,q,hC,hq,hx,rfl⟩;obtain⟨q',s,hq',hs,hqs⟩:=rO HS.out (k:=k) (by rw[HL.out];exact hkm);obtain rfl:q'=q:=by rw[hq]at hq';cases hq';rfl
   obtain⟨sid,⟨x,n,c⟩,⟨ty,tn,tc⟩⟩:=q';have hsm:=dp hs;have hls:=HKL.out.2 s hsm;have hst:=FV hs bl ar last;rw[←g8]at hst;have HSID:Hid (s.id=sid):=hqs.id.symm;have HST:=ae hst;have HZ:Hid (B+8<W.heap.size):=g7.bj.lt;have HSI:=ae (hqs.below (W':=W) (by rw[HSZ.out];exact g7.be));have G0:=ae g0;have G1:=ae g1;have G2:=ae g2;have G3:=ae g3;have G4:=ae g4;have G5:=ae g5;have G6:=ae g6;have G7:=ae g7;have HX:=ae hx;have d0:W.cell? ⟨C,0,none⟩=some (ab ac sid):=hx.cell 0 _ rfl;have d1:=g4.cell 0 _ rfl;have d3:=g3.cell 0 _ rfl;have f3:=g3.frozen 0;have HTK:=ae (je hs);have HKF3:Hid (KeepsFrom W0.heap.size W (W.setCell ⟨B+3,0,none⟩ (.bool false))):=lO g3 (fH W (B+3) 0 _);have HB3:Hid (ag B w (W.setCell ⟨B+3,0,none⟩ (.bool false))):=kk g7.be (by omega) 0 _;have HR3:=ae (g3.set 0 (.bool false));simp only[dZ,aK];by_cases q1:sid<=last
   ·have e1:decide (sid<=last)=true:=by simpa using q1
    have HG:Hid (eu l bl ar=false):=by
     show _=_;unfold eu;rw[HST.out,HSID.out,show decide (last<sid)=false by simp;omega];simp
    clear g0 g1 g2 g3 g4 g5 g6 g7 g8 hq hq' hs hqs hx hsm hls hst;gi_step
    gi_step
    gi_step
    gi_step
    refine mT ?lo (by kernel_rfl) ?_;case lo=>repeat(first | exact iL kZ | refine mw ?_)
    go_wp2_with fail
    gi_wp2
    refine⟨HKF3.out,rfl, ?_,HB3.out⟩;rw[HG.out];exact HR3.out
   ·have e1:decide (sid<=last)=false:=by simpa using q1
    by_cases q2:sid>1000000
    ·have e2:decide (sid>1000000)=true:=by simpa using q2
     have HG:Hid (eu l bl ar=false):=by
      show _=_;unfold eu;rw[HST.out,HSID.out,show decide (sid<=1000000)=false by simp;omega];simp
     clear g0 g1 g2 g3 g4 g5 g6 g7 g8 hq hq' hs hqs hx hsm hls hst;gi_step
     gi_step
     gi_step
     gi_step
     refine mT ?lo (by kernel_rfl) ?_;case lo=>repeat(first | exact iL kZ | refine mw ?_)
     go_wp2_with fail
     gi_wp2
     refine⟨HKF3.out,rfl, ?_,HB3.out⟩;rw[HG.out];exact HR3.out
    ·have e2:decide (sid>1000000)=false:=by simpa using q2
     have HTN:Hid (s.tb.length=tn):=by obtain⟨a',ca',e, -⟩:=hqs.tb;simp only[aK,Value.slice.injEq]at e;show _=_;omega
     have HTB:Hid (∀z:ah,ag B w z->fU z (af ty tn tc) s.tb):=fun z hz=>hqs.tb.below (by show ag _ _ _;rw[HSZ.out];exact hz);have htn:tn<=1000:=by have:=HTN.out;omega
     have HAL:Hid ((dK (l.take k)).length<=8000/\s.tb.length<=1000):=by
      have h1:=uF (K:=1000) (l.take k) (fun t ht=>(HKL.out.2 t (jE ht)).2);rw[dj]at h1;exact⟨by omega,hls.2⟩
     have LDX:=pY hx;have HXX:=ae hx;have g1c:=g1.cell 0 _ rfl;have g2c:=g2.cell 0 _ rfl;have HF:=ae (JR (q:=(sid,(x,n,c),(ty,tn,tc))) HSI.out (by omega) (by omega) bl ar);obtain⟨fb,hfb⟩:=w9nm (jw s bl ar);rw[hfb]at HF;have HFB:=ae hfb;have HIW:Hid (GdI B W0.heap.size bl ar last a len cap w W W):=⟨g0,g1,g2,g3,g4,g7,KeepsFrom.refl _ _⟩;simp only[dZ,aK]at HF LDX;cases fb with
     | false=>
      have HG:Hid (eu l bl ar=false):=by
       show _=_;unfold eu;rw[HST.out,HFB.out];simp
      clear g0 g1 g2 g3 g4 g5 g6 g7 g8 hq hq' hs hqs hx hsm hls hst hfb;gi_step
      gi_step
      gi_step
      gi_step
      refine mT ?lo (by kernel_rfl) ?_;case lo=>repeat(first | exact iL kZ | refine mw ?_)
      go_wp2_with fail;refine HF.out.mono ?_;rintro e z ⟨rfl,hz⟩;have f3z:=(G3.out.below hz).frozen 0;have HKFz:Hid (KeepsFrom W0.heap.size W (z.setCell ⟨B+3,0,none⟩ (.bool false))):=jH (kj hz) (lO (G3.out.below hz) (fH z (B+3) 0 _));have HBz:Hid (ag B w (z.setCell ⟨B+3,0,none⟩ (.bool false))):=kk (G7.out.be.trans (hz.mono (by have:=HZ.out;omega))) (by omega) 0 _;have HRz:Hid (aq (z.setCell ⟨B+3,0,none⟩ (.bool false)) (B+3) 4 [.bool false]):=(G3.out.below hz).set 0 _;have c3z:=(G3.out.below hz).cell 0 _ rfl;go_wp2_with fail
      gi_wp2
      refine⟨HKFz.out,rfl, ?_,HBz.out⟩;rw[HG.out];exact HRz.out
     | true=>
      have HCO:=fun(z:ah) (hz:ag W.heap.size W z)=>JQ (w:=z) (q:=(sid,(x,n,c),(ty,tn,tc))) (HSI.out.below hz) (by omega);simp only[dZ,aK]at HCO;have HCO:=ae HCO;have HTK2:=HTK;by_cases q4:(k:Int)< (len:Int) - 1
      ·have e4':decide ((k:Int)< (len:Int) - 1)=true:=by simpa using q4
       have HN:Hid ((decide (l.length<=k+1))=false):=by have:=HL.out;show _=_;simp;omega
       obtain⟨cb,hcb⟩:=w9nm (jf s);have HCB:=ae hcb;have g8':(len:Int)<=8:=by omega
       clear g0 g1 g2 g3 g4 g5 g6 g7 g8 hq hq' hs hqs hx hsm hls hst hfb hcb;gi_step
       gi_step
       gi_step
       gi_step
       refine mT ?lo (by kernel_rfl) ?_;case lo=>repeat(first | exact iL kZ | refine mw ?_)
       go_wp2_with fail;refine HF.out.mono ?_;rintro e y1 ⟨rfl,hy⟩;have l0:=(G0.out.below hy).cell 0 _ rfl;have LDY:=pY (HXX.out.below hy);simp only[dZ,aK]at LDY;have HYB:=ae hy;clear hy HF;go_wp2_with fail;gi_step
       gi_step
       gi_step
       gi_step
       gi_step
       gi_step
       refine mT ?lo2 (by kernel_rfl) ?_;case lo2=>repeat(first | exact iL kZ | refine mw ?_)
       have HC1:=ae (HCO.out y1 HYB.out);rw[HCB.out]at HC1;clear HCO;cases cb with
       | false=>
        have HG:Hid (eu l bl ar=false):=by
         show _=_;unfold eu;rw[HST.out,HN.out,HCB.out];simp
        go_wp2_with fail;refine HC1.out.mono ?_;rintro e z ⟨rfl,hz0⟩;have hz:w9b W z:=HYB.out.trans (hz0.mono HYB.out.size);clear hz0 HC1 l0 LDY;have f3z:=(G3.out.below hz).frozen 0;have HKFz:Hid (KeepsFrom W0.heap.size W (z.setCell ⟨B+3,0,none⟩ (.bool false))):=jH (kj hz) (lO (G3.out.below hz) (fH z (B+3) 0 _));have HBz:Hid (ag B w (z.setCell ⟨B+3,0,none⟩ (.bool false))):=kk (G7.out.be.trans (hz.mono (by have:=HZ.out;omega))) (by omega) 0 _;have HRz:Hid (aq (z.setCell ⟨B+3,0,none⟩ (.bool false)) (B+3) 4 [.bool false]):=(G3.out.below hz).set 0 _;have c3z:=(G3.out.below hz).cell 0 _ rfl;go_wp2_with fail
        gi_wp2
        refine⟨HKFz.out,rfl, ?_,HBz.out⟩;rw[HG.out];exact HRz.out
       | true=>
        have HG:Hid (jx bl ar 0 l=jx bl ar sid (l.drop (k+1))):=by
         show _=_;rw[HST.out,HSID.out,show decide (last<sid)=true by simp;omega,show decide (sid<=1000000)=true by simp;omega,HFB.out,HCB.out];simp
        go_wp2_with fail;refine HC1.out.mono ?_;rintro e z ⟨rfl,hz0⟩;have HZB:=w9bt HYB hz0;have HGI:Hid (GdI B W0.heap.size bl ar last a len cap w W z):=HIW.out.low (HZB.out.mono (by have:=HZ.out;omega)) (kj HZB.out);clear hz0 HC1 l0 LDY;have HI1:Hid (GdI B W0.heap.size bl ar sid a len cap w W (z.setCell ⟨B+4,0,none⟩ (ab ac sid))):=HGI.out.set4 sid;obtain⟨z1,hz1⟩:=w9nm (z.setCell ⟨B+4,0,none⟩ (ab ac sid));have hzx:aq z C 90 (cX (sid,(x,n,c),(ty,tn,tc))):=HXX.out.below HZB.out;have hz4:=HGI.out.g4;have hz5:aq z (B+5) 41 [aK u]:=G5.out.below HZB.out;have e0:=hzx.cell 0 _ rfl;have e4:=hz4.cell 0 _ rfl;have e4f:=hz4.frozen 0;have e2:z1.cell? ⟨C,2,none⟩=some (af ty tn tc):=by rw[←hz1];exact(fJ hzx (by omega) 0 _).cell 2 _ rfl
        have H5:Hid (aq z1 (B+5) 41 [aK u]):=by show aq _ _ _ _;rw[←hz1];exact fJ hz5 (by omega) 0 _
        have H6:Hid (bT (B+9) z1 (aK u) (dK (l.take k)++(s.tb.take 0).map (·.2))):=by
         show bT _ _ _ _;rw[←hz1,List.take_zero,List.map_nil,List.append_nil];exact(G6.out.below HZB.out).setLow (by omega) 0 _
        have HZS:Hid (B+9<=z1.heap.size):=by have:=HZ.out;have:=HZB.out.size;show _<=_;rw[←hz1];have:=(KeepsWalks.setCell z ⟨B+4,0,none⟩ (ab ac sid)).size;omega
        rw[hz1]at HI1;clear hzx hz4 hz5;go_wp2_with fail
        gi_wp2
        try rw[hz1]
        clear hz1
        gi_loopw [53] (fun iv wr=>∃(j:Nat) (u':jj),j<=tn/\iv=ab ac (j:Int)/\Hid (aq wr (B+5) 41 [aK u'])/\Hid (bT (B+9) wr (aK u') (dK (l.take k)++(s.tb.take j).map (·.2)))/\Hid (GdI B W0.heap.size bl ar sid a len cap w W wr)/\Hid (B+9<=wr.heap.size)) (fun iv _=>tn - (aS iv).toNat)
        case atStart=>exact⟨0,u,bc _,rfl,H5,H6,HI1,HZS⟩
        case round=>
         obtain⟨j,u',hj,rfl,K5,K6,KI,KZ⟩:=hrel;by_cases hlt:j<tn
         ·obtain⟨p,hp⟩:∃p,s.tb[j]? =some p:=⟨_,aZ (by rw[HTN.out];exact hlt)⟩;have hsn:s.tb.take (j+1)=s.tb.take j++ [p]:=je hp;obtain⟨bb,off,rfl,hbb,p1,p2⟩:=(HTB.out wr KI.out.g7.be).at hp;obtain⟨x0,y0⟩:=p;simp only at p1 p2;have HSN:=ae hsn;have g1:(j:Int)< (tn:Int):=by omega
          have HWr:Hid (wrap64 ((j:Int)+1)=(j:Int)+1):=kR _ (by omega);have LD:=mt p1 p2;have ST:=mu wr x0 y0;obtain⟨W2,hW2⟩:=w9nm (wr.alloc (an #[ab ac x0,ab ac y0] 191));rw[hW2]at ST;have hb2:ag wr.heap.size wr W2:=by rw[←hW2];exact aH wr _
          have hR:aq W2 wr.heap.size 191 (oK x0 y0):=by rw[←hW2];exact aq.new wr _ _
          have r1:W2.cell? ⟨wr.heap.size,1,none⟩=some (ab ac y0):=hR.cell 1 _ rfl;have r5:=K5.out.below hb2;have r5c:=r5.cell 0 _ rfl;have o5:=K6.out.below hb2;obtain⟨f2,W4,hr,o6,gg, -⟩:=rH o5 (by have:=hb2.size;have:=KZ.out;omega) y0 (by have:=HAL.out;simp only[cE,dV,dj];omega);have HAP:=ae hr;have hb4:ag (B+9) W2 W4:=(aI _ W2).grown gg (by have:=hb2.size;have:=KZ.out;omega) (fun i e=>(o5.base i e).1);have hkf4:KeepsFrom W0.heap.size wr W4:=jH (kj hb2) (oU o5 gg);have r6:aq W4 (B+5) 41 [aK u']:=r5.belowN hb4 (by omega);have r6c:=r6.cell 0 _ rfl;have r6f:=r6.frozen 0;obtain⟨⟨fx,fn',fc⟩,rfl, -⟩:=iO o6;simp only[aK]at HAP o6;have KI4:Hid (GdI B W0.heap.size bl ar sid a len cap w W (W4.setCell ⟨B+5,0,none⟩ (af fx fn' fc))):=(KI.out.low ((hb2.mono KZ.out).trans hb4) hkf4).set5 r6 _;have R7:Hid (aq (W4.setCell ⟨B+5,0,none⟩ (af fx fn' fc)) (B+5) 41 [aK (fx,fn',fc)]):=r6.set 0 _;have O7:Hid (bT (B+9) (W4.setCell ⟨B+5,0,none⟩ (af fx fn' fc)) (aK (fx,fn',fc)) (dK (l.take k)++(s.tb.take (j+1)).map (·.2))):=by
           show World.ownsRow _ _ _ _ _ _ _;rw[HSN.out,ec,←kb];exact kC o6 r6 (by decide) 0 _
          have S7:Hid (B+9<=(W4.setCell ⟨B+5,0,none⟩ (af fx fn' fc)).heap.size):=by have:=KZ.out;have:=hb2.size;have:=hb4.size;have:=(KeepsWalks.setCell W4 ⟨B+5,0,none⟩ (af fx fn' fc)).size;show _<=_;omega
          obtain⟨W3,hW3⟩:=w9nm (W2.alloc (an #[ab ac y0] 3));have SB:Hid ((dh 41 1 #[(0,ab ac y0)]).run aj W2=.ok (af (some ⟨W2.heap.size,0,none⟩) 1 1) W3):=by show _=_;rw[←hW3];exact uT W2 y0
          rw[hW3]at HAP;obtain⟨NN,hNN⟩:=w9nm wr.heap.size;rw[hNN]at ST r1;have HLT:=ae hlt;obtain⟨ux,un,uc⟩:=u';simp only[aK]at HAP r5c r6c;clear hp hsn hbb p1 p2 hW2 hb2 hR r5 o5 hr o6 gg hb4 hkf4 r6 hW3 hlt K5 K6 KI HSN
          gi_wp2_with (with_reducible refine AA ?lo4 ?hd4 ?_)
          case lo4=>repeat(first | exact kZ | refine mw ?_ | refine iL ?_)
          case hd4=>intro o ho c;simp only[dy,List.mem_nil_iff,or_false]at ho;rcases ho with rfl | rfl<;>simp
          go_wp2_with (first | ((with_reducible refine iu ?_);refine dR 41 1 #[(0,.tmp 59)] rfl rfl [(0,ab ac y0)] _ rfl SB.out ?_) | (at_builtin;refine wpList_append_run (.tmp 57) (.tmp 60) 41 rfl rfl _ _ _ rfl rfl (HAP.out _) ?_))
          gi_wp2
          go_roundw
          case rel=>exact⟨j+1,(fx,fn',fc),HLT.out,by simp,R7,O7,KI4,S7⟩
          case measure=>have:=HLT.out;simp[aS];omega
         ·obtain rfl:j=tn:=by omega
          have HTA:Hid (dK (l.take (k+1))=dK (l.take k)++(s.tb.take j).map (·.2)):=by
           show _=_;rw[HTK.out,uE,de (l:=s.tb) (by rw[HTN.out];exact aG _)]
          have HG5:=K5;clear K5
          gi_wp2
          refine⟨KI.out.kf,sid,u',KI.out.g0,KI.out.g1,KI.out.g2,KI.out.g3,KI.out.g4,HG5.out, ?_,KI.out.g7,HG.out⟩;rw[HTA.out];exact K6.out
      ·have e4':decide ((k:Int)< (len:Int) - 1)=false:=by simpa using q4
       have HN:Hid ((decide (l.length<=k+1))=true):=by have:=HL.out;show _=_;simp;omega
       have g8':(len:Int)<=8:=by omega
       clear g0 g1 g2 g3 g4 g5 g6 g7 g8 hq hq' hs hqs hx hsm hls hst hfb;gi_step
       gi_step
       gi_step
       gi_step
       refine mT ?lo (by kernel_rfl) ?_;case lo=>repeat(first | exact iL kZ | refine mw ?_)
       go_wp2_with fail;refine HF.out.mono ?_;rintro e y1 ⟨rfl,hy⟩;have l0:=(G0.out.below hy).cell 0 _ rfl;have LDY:=pY (HXX.out.below hy);simp only[dZ,aK]at LDY;have HYB:=ae hy;clear hy HF;go_wp2_with fail;gi_step
       gi_step
       gi_step
       gi_step
       gi_step
       gi_step
       refine mT ?lo2 (by kernel_rfl) ?_;case lo2=>repeat(first | exact iL kZ | refine mw ?_)
       have HG:Hid (jx bl ar 0 l=jx bl ar sid (l.drop (k+1))):=by
        show _=_;rw[HST.out,HSID.out,show decide (last<sid)=true by simp;omega,show decide (sid<=1000000)=true by simp;omega,HFB.out,HN.out];simp
       obtain⟨z,hzy⟩:∃z,z=y1:=⟨_,rfl⟩;subst hzy;have HZB:w9h W z:=HYB.out;have HGI:Hid (GdI B W0.heap.size bl ar last a len cap w W z):=HIW.out.low (HZB.out.mono (by have:=HZ.out;omega)) (kj HZB.out);have HI1:Hid (GdI B W0.heap.size bl ar sid a len cap w W (z.setCell ⟨B+4,0,none⟩ (ab ac sid))):=HGI.out.set4 sid;obtain⟨z1,hz1⟩:=w9nm (z.setCell ⟨B+4,0,none⟩ (ab ac sid));have hzx:aq z C 90 (cX (sid,(x,n,c),(ty,tn,tc))):=HXX.out.below HZB.out;have hz4:=HGI.out.g4;have hz5:aq z (B+5) 41 [aK u]:=G5.out.below HZB.out;have e0:=hzx.cell 0 _ rfl;have e4:=hz4.cell 0 _ rfl;have e4f:=hz4.frozen 0;have e2:z1.cell? ⟨C,2,none⟩=some (af ty tn tc):=by rw[←hz1];exact(fJ hzx (by omega) 0 _).cell 2 _ rfl
       have H5:Hid (aq z1 (B+5) 41 [aK u]):=by show aq _ _ _ _;rw[←hz1];exact fJ hz5 (by omega) 0 _
       have H6:Hid (bT (B+9) z1 (aK u) (dK (l.take k)++(s.tb.take 0).map (·.2))):=by
        show bT _ _ _ _;rw[←hz1,List.take_zero,List.map_nil,List.append_nil];exact(G6.out.below HZB.out).setLow (by omega) 0 _
       have HZS:Hid (B+9<=z1.heap.size):=by have:=HZ.out;have:=HZB.out.size;show _<=_;rw[←hz1];have:=(KeepsWalks.setCell z ⟨B+4,0,none⟩ (ab ac sid)).size;omega
       rw[hz1]at HI1;clear hzx hz4 hz5;go_wp2_with fail
       gi_wp2
       try rw[hz1]
       clear hz1
       gi_loopw [53] (fun iv wr=>∃(j:Nat) (u':jj),j<=tn/\iv=ab ac (j:Int)/\Hid (aq wr (B+5) 41 [aK u'])/\Hid (bT (B+9) wr (aK u') (dK (l.take k)++(s.tb.take j).map (·.2)))/\Hid (GdI B W0.heap.size bl ar sid a len cap w W wr)/\Hid (B+9<=wr.heap.size)) (fun iv _=>tn - (aS iv).toNat)
       case atStart=>exact⟨0,u,bc _,rfl,H5,H6,HI1,HZS⟩
       case round=>
        obtain⟨j,u',hj,rfl,K5,K6,KI,KZ⟩:=hrel;by_cases hlt:j<tn
        ·obtain⟨p,hp⟩:∃p,s.tb[j]? =some p:=⟨_,aZ (by rw[HTN.out];exact hlt)⟩;have hsn:s.tb.take (j+1)=s.tb.take j++ [p]:=je hp;obtain⟨bb,off,rfl,hbb,p1,p2⟩:=(HTB.out wr KI.out.g7.be).at hp;obtain⟨x0,y0⟩:=p;simp only at p1 p2;have HSN:=ae hsn;have g1:(j:Int)< (tn:Int):=by omega
         have HWr:Hid (wrap64 ((j:Int)+1)=(j:Int)+1):=kR _ (by omega);have LD:=mt p1 p2;have ST:=mu wr x0 y0;obtain⟨W2,hW2⟩:=w9nm (wr.alloc (an #[ab ac x0,ab ac y0] 191));rw[hW2]at ST;have hb2:ag wr.heap.size wr W2:=by rw[←hW2];exact aH wr _
         have hR:aq W2 wr.heap.size 191 (oK x0 y0):=by rw[←hW2];exact aq.new wr _ _
         have r1:W2.cell? ⟨wr.heap.size,1,none⟩=some (ab ac y0):=hR.cell 1 _ rfl;have r5:=K5.out.below hb2;have r5c:=r5.cell 0 _ rfl;have o5:=K6.out.below hb2;obtain⟨f2,W4,hr,o6,gg, -⟩:=rH o5 (by have:=hb2.size;have:=KZ.out;omega) y0 (by have:=HAL.out;simp only[cE,dV,dj];omega);have HAP:=ae hr;have hb4:ag (B+9) W2 W4:=(aI _ W2).grown gg (by have:=hb2.size;have:=KZ.out;omega) (fun i e=>(o5.base i e).1);have hkf4:KeepsFrom W0.heap.size wr W4:=jH (kj hb2) (oU o5 gg);have r6:aq W4 (B+5) 41 [aK u']:=r5.belowN hb4 (by omega);have r6c:=r6.cell 0 _ rfl;have r6f:=r6.frozen 0;obtain⟨⟨fx,fn',fc⟩,rfl, -⟩:=iO o6;simp only[aK]at HAP o6;have KI4:Hid (GdI B W0.heap.size bl ar sid a len cap w W (W4.setCell ⟨B+5,0,none⟩ (af fx fn' fc))):=(KI.out.low ((hb2.mono KZ.out).trans hb4) hkf4).set5 r6 _;have R7:Hid (aq (W4.setCell ⟨B+5,0,none⟩ (af fx fn' fc)) (B+5) 41 [aK (fx,fn',fc)]):=r6.set 0 _;have O7:Hid (bT (B+9) (W4.setCell ⟨B+5,0,none⟩ (af fx fn' fc)) (aK (fx,fn',fc)) (dK (l.take k)++(s.tb.take (j+1)).map (·.2))):=by
          show World.ownsRow _ _ _ _ _ _ _;rw[HSN.out,ec,←kb];exact kC o6 r6 (by decide) 0 _
         have S7:Hid (B+9<=(W4.setCell ⟨B+5,0,none⟩ (af fx fn' fc)).heap.size):=by have:=KZ.out;have:=hb2.size;have:=hb4.size;have:=(KeepsWalks.setCell W4 ⟨B+5,0,none⟩ (af fx fn' fc)).size;show _<=_;omega
         obtain⟨W3,hW3⟩:=w9nm (W2.alloc (an #[ab ac y0] 3));have SB:Hid ((dh 41 1 #[(0,ab ac y0)]).run aj W2=.ok (af (some ⟨W2.heap.size,0,none⟩) 1 1) W3):=by show _=_;rw[←hW3];exact uT W2 y0
         rw[hW3]at HAP;obtain⟨NN,hNN⟩:=w9nm wr.heap.size;rw[hNN]at ST r1;have HLT:=ae hlt;obtain⟨ux,un,uc⟩:=u';simp only[aK]at HAP r5c r6c;clear hp hsn hbb p1 p2 hW2 hb2 hR r5 o5 hr o6 gg hb4 hkf4 r6 hW3 hlt K5 K6 KI HSN
         gi_wp2_with (with_reducible refine AA ?lo4 ?hd4 ?_)
         case lo4=>repeat(first | exact kZ | refine mw ?_ | refine iL ?_)
         case hd4=>intro o ho c;simp only[dy,List.mem_nil_iff,or_false]at ho;rcases ho with rfl | rfl<;>simp
         go_wp2_with (first | ((with_reducible refine iu ?_);refine dR 41 1 #[(0,.tmp 59)] rfl rfl [(0,ab ac y0)] _ rfl SB.out ?_) | (at_builtin;refine wpList_append_run (.tmp 57) (.tmp 60) 41 rfl rfl _ _ _ rfl rfl (HAP.out _) ?_))
         gi_wp2
         go_roundw
         case rel=>exact⟨j+1,(fx,fn',fc),HLT.out,by simp,R7,O7,KI4,S7⟩
         case measure=>have:=HLT.out;simp[aS];omega
        ·obtain rfl:j=tn:=by omega
         have HTA:Hid (dK (l.take (k+1))=dK (l.take k)++(s.tb.take j).map (·.2)):=by
          show _=_;rw[HTK.out,uE,de (l:=s.tb) (by rw[HTN.out];exact aG _)]
         have HG5:=K5;clear K5
         gi_wp2
         refine⟨KI.out.kf,sid,u',KI.out.g0,KI.out.g1,KI.out.g2,KI.out.g3,KI.out.g4,HG5.out, ?_,KI.out.g7,HG.out⟩;rw[HTA.out];exact K6.out
  case done=>
   rintro D W hD ⟨last,u,g0,g1,g2,g3,g4,g5,g6,g7,g8⟩ hK;clear SX z0 z1 z2 z3 z4 z5 hseq hm q0 hi;rw[de (by rw[HL.out];exact aG _)]at g6;rw[FW (by rw[HL.out];exact aG _)]at g8;obtain⟨zs,hzs⟩:=w9nm (dK l);rw[hzs]at g6;have hzl:zs.length<=8000:=by
    rw[←hzs];have:=uF (K:=1000) l (fun t ht=>(HKL.out.2 t ht).2);omega
   have HGD:Hid (eu l bl ar=decide zs.Nodup):=by
    show _=_;unfold eu;rw[g8,hzs,decide_eq_true (by omega)]
    rfl
   have HSO:=ae (Kc g6 (by omega));have HZ:Hid (B+8<W.heap.size):=g7.bj.lt;have d5:=g5.cell 0 _ rfl;have G3:=ae g3;have G5:=ae g5;have G6:=ae g6;have G7:=ae g7.be;have HK:=ae hK;obtain⟨ux,un,uc⟩:=u;have hun:un=zs.length:=by
    rcases g6.2 with⟨e,e0⟩ | ⟨g,cap',cur,e, -⟩<;>simp only[aK,Value.slice.injEq]at e<;>omega
   simp only[aK]at d5;have HUN:=ae hun;clear g0 g1 g2 g3 g4 g5 g6 g7 g8 hK hzs hun
   gi_wp2_with (refine⟨trivial, ?_⟩;gi_at_call 277;refine(callsIn_wide.2 HSO.out).mono ?_;rintro e y ⟨rfl,hO,hG⟩)
   have HYB:Hid (ag (B+9) W y):=(aI _ W).grown hG (by have:=HZ.out;omega) (fun k e=>(G6.out.base k e).1);have HKF1:Hid (KeepsFrom 0 W y):=oU G6.out hG;have r5:aq y (B+5) 41 [af ux un uc]:=G5.out.belowN HYB.out (by omega);have r3:aq y (B+3) 4 [.bool false]:=G3.out.belowN HYB.out (by omega);have HO:=ae hO;have HR5:=ae r5;have HR3:=ae r3;have c5:∀z:rT y (B+5) (B+3),z.1.cell? ⟨B+5,0,none⟩=some (af ux un uc):=fun z=>(z.fst r5).cell 0 _ rfl;have hc:=Kd (w:=y.drew) (v:=af ux un uc) (zs:=sorted zs) (dQ hO (aI _ y).drew);obtain⟨m,hm⟩:=w9nm ((Lib.compact (sorted zs)).length);rw[hm]at hc;have HM:Hid (eu l bl ar=((m:Int)==(un:Int))):=by
    show _=_;rw[HGD.out];have hh:=yG zs;rw[hm]at hh;have hu:=HUN.out;by_cases e:m=zs.length
    ·rw[decide_eq_true (hh.1 e),e,hu];simp
    ·rw[decide_eq_false (fun x=>e (hh.2 x))]
     symm
     simp;omega
   have HC:=ae hc;clear hO hG HSO hc hm r5 r3 d5;refine wpIn_wide.2 (mX (fun x=>∃z:rT y (B+5) (B+3),x=z.1) 6 (.takes [0,3,4] (.one 1 (.takes [2,5] .leaf))) hmx (by kernel_rfl) ⟨⟨y.drew,rfl,rfl⟩,rfl⟩ ?_);repeat(rw[jM];simp only[aB,aC];go_big_quiet_step (fail);refine aV ?_)
   clear c5;rw[jL,eY];simp only[aB,aC];go_wp2_with fail;go_at_call 278;refine HC.out.mono ?_;rintro e z ⟨⟨a2,c2,rfl⟩,hG2⟩;have hb2:ag (B+9) y z:=(aI _ y).drew.grown hG2 (by have:=HYB.out.size;have:=HZ.out;simp;omega) (fun k e=>((HO.out).base k e).1);have HKF2:Hid (KeepsFrom 0 W z):=jH HKF1.out (jH (kj (aI _ y).drew) (oU (dQ HO.out (aI _ y).drew) hG2));have HR3z:Hid (aq z (B+3) 4 [.bool false]):=HR3.out.belowN hb2 (by omega);have hK2:z.heap[B+5]? =y.heap[B+5]? /\z.heap[B+3]? =y.heap[B+3]? :=⟨hb2.block _ (by omega),hb2.block _ (by omega)⟩;have HK2:=ae hK2;have HBZ:Hid (ag B w z):=G7.out.trans ((HYB.out.trans hb2).mono (by omega));clear hG2 hb2 hK2 HC;go_wp2_with fail;refine aN ⟨⟨z,HK2.out⟩,rfl⟩ ?_;repeat(rw[jM];simp only[aB,aC];go_big_quiet_step (fail);refine aV ?_)
   rw[jL,lR];simp only[bR,bQ];have f3:=HR3z.out.frozen 0;have c3:=HR3z.out.cell 0 _ rfl;go_wp2_with fail;have HKF3:Hid (KeepsFrom 0 W (z.setCell ⟨B+3,0,none⟩ (.bool ((m:Int)==(un:Int))))):=jH HKF2.out (lO HR3z.out (fH z (B+3) 0 _));have HRF:Hid (aq (z.setCell ⟨B+3,0,none⟩ (.bool ((m:Int)==(un:Int)))) (B+3) 4 [.bool ((m:Int)==(un:Int))]):=HR3z.out.set 0 _;have HBF:Hid (ag B w (z.setCell ⟨B+3,0,none⟩ (.bool ((m:Int)==(un:Int))))):=kk HBZ.out (by omega) 0 _;obtain⟨ZZ,hZZ⟩:=w9nm (z.setCell ⟨B+3,0,none⟩ (.bool ((m:Int)==(un:Int))));rw[hZZ]at HKF3 HRF HBF;try rw[show B+1+1+1=B+3 by omega]
   rw[hZZ];clear hZZ
   gi_wp2
   have hK2:=HKF3.out.same D _ (bc _) HK.out rfl;refine⟨by simp,aA ⟨_,_,rfl,eU hK2, ?_⟩⟩;have hg2:=grownBy_putObj' ZZ D (.deferred none);have hy2:=fI (N:=0) HRF.out hg2 (fun r e=>by cases e;exact⟨bc _,_,hK2,rfl⟩);refine⟨_,ev rfl rfl (uX hy2),by rw[HM.out], ?_⟩;rw[HSZ.out];exact HBF.out.trans (belowK_b (w:=w) (by omega) _ D _ _ (by have:=HW.out;have:=HSZ.out;omega) hK2 rfl rfl)
  case stop=>
   rintro D c k W hD _ ⟨rfl,g2,g3⟩ hK;have G2:=ae g2;have G3:=ae g3;have HK:=ae hK;clear g2 g3 hK
   gi_wp2
   refine⟨by simp,aA ⟨_,_,rfl,eU HK.out, ?_⟩⟩;have hg2:=grownBy_putObj' W D (.deferred none);have hy2:=fI (N:=0) G2.out hg2 (fun r e=>by cases e;exact⟨bc _,_,HK.out,rfl⟩);refine⟨_,ev rfl rfl (uX hy2),rfl, ?_⟩;rw[HSZ.out];exact G3.out.trans (belowK_b (w:=w) (by omega) W D _ _ (by have:=HW.out;have:=HSZ.out;omega) HK.out rfl rfl)
end
section
attribute [-simp] isAgg90 zeroValue90 isAgg191 zeroValue191 isAgg47 zeroValue47
attribute [-go_sem] aE aL
attribute [local go_sem] iQ iR fB eJ en nD
def fO (g:SG) (bs:List Int) (k:Nat):List Int:=((bx bs 10 g.slots).take k).map ff
theorem Kf (g:SG) (bs:List Int):fO g bs 0= []:=by unfold fO;simp
theorem Kg (g:SG) {bs:List Int} {k:Nat} (hk:k<g.slots) (hl:10+g.slots<=bs.length):fO g bs (k+1)=fO g bs k++ [ff (bs[10+k]?.getD 0)]:=by
 unfold fO;have h:(bx bs 10 g.slots)[k]? =some (bs[10+k]?.getD 0):=by
  rw[JC hk,aZ (show 10+k<bs.length by omega)]
  rfl
 rw[je h,ec]
 rfl
theorem bT.low {M:Nat} {W W':ah} {v:ak} {zs:List Int} {row:Option Nat} (h:bT M W v zs) (hg:W.grownBy W' row) (hr:∀j,row=some j->j<M):bT M W' v zs:=
 World.ownsRow.kept h hg (by
  by_cases e:v.ownBlock=none
  ·exact aA e
  ·refine aD fun e2=> ?_;obtain⟨j,hj⟩:=Option.ne_none_iff_exists'.1 e;have h1:=(h.base j hj).1;have h2:=hr j (by rw[←e2];exact hj);omega)
theorem sN {M e sz n:Nat} {W W':ah} {v:ak} {xs:List ak} {row:Option Nat} (h:W.ownsRow M e sz v n xs) (hg:W.grownBy W' row) (hr:∀j,row=some j->j<M):W'.ownsRow M e sz v n xs:=
 h.kept hg (by
  by_cases e:v.ownBlock=none
  ·exact aA e
  ·refine aD fun e2=> ?_;obtain⟨j,hj⟩:=Option.ne_none_iff_exists'.1 e;have h1:=(h.lt j hj).1;have h2:=hr j (by rw[←e2];exact hj);omega)
theorem fD.low {M:Nat} {W W':ah} {v:ak} {l:List SN} {row:Option Nat} (h:fD M W v l) (hg:W.grownBy W' row) (hr:∀j,row=some j->j<M):fD M W' v l:=by
 obtain⟨r,h1,h2,h3⟩:=h;exact⟨r,h1,sN h2 hg hr,fun j q s a b=>⟨(h3 j q s a b).id,sN (h3 j q s a b).ch hg hr,⟨sN (h3 j q s a b).tb.1 hg hr,(h3 j q s a b).tb.2⟩,(h3 j q s a b).ok⟩⟩
theorem dT.low {M:Nat} {W W':ah} {v:ak} {l:List (Int×Int)} {row:Option Nat} (h:dT M W v l) (hg:W.grownBy W' row) (hr:∀j,row=some j->j<M):dT M W' v l:=⟨sN h.1 hg hr,h.2⟩
structure RdI (B E N rb:Nat) (G:List ak) (w:ah) (q:PS) (rest dl:List Int) (sl:List SN) (W:ah):Prop where
 g0:aq W B 23 G
 g1:aq W (B+1) 47 (aW dH)
 ge:aq W E 47 (aW q)
 rd:dU W N rb rest
 dd:bT (E+1) W (aK q.d) dl
 ss:fD (E+1) W (aK q.sn) sl
 be:ag B w W
 n1:B+1<rb
 n2:rb<N
 n3:N<=E
 n4:E<W.heap.size
variable {B E N rb:Nat} {G:List ak} {w W W':ah} {q:PS} {rest dl:List Int} {sl:List SN}
theorem RdI.step (h:RdI B E N rb G w q rest dl sl W) {rest':List Int} (hg:W.grownBy W' (some rb)) (hr:dU W' N rb rest'):RdI B E N rb G w q rest' dl sl W':=by
 have n1:=h.n1;have n2:=h.n2;have n3:=h.n3;have n4:=h.n4;exact⟨h.g0.grown hg (by simp;omega),h.g1.grown hg (by simp;omega),h.ge.grown hg (by simp;omega),hr,h.dd.low hg (fun j e=>by cases e;omega),h.ss.low hg (fun j e=>by cases e;omega),h.be.grown hg (by omega) (fun j e=>by cases e;omega),h.n1,h.n2,h.n3,bq n4 hg.size⟩
theorem RdI.below (h:RdI B E N rb G w q rest dl sl W) (hb:ag W.heap.size W W'):RdI B E N rb G w q rest dl sl W':=by
 have n1:=h.n1;have n2:=h.n2;have n3:=h.n3;have n4:=h.n4;exact⟨h.g0.below hb,h.g1.below hb,h.ge.below hb,h.rd.below (dS hb none),h.dd.below hb,h.ss.below hb,h.be.trans (hb.mono (by omega)),h.n1,h.n2,h.n3,bq n4 hb.size⟩
theorem RdI.set (h:RdI B E N rb G w q rest dl sl W) (j:Nat) (v:ak) {q':PS} {dl':List Int} {sl':List SN} (hq:(aW q).set j v=aW q') (hd:bT (E+1) (W.setCell ⟨E,j,none⟩ v) (aK q'.d) dl') (hs:fD (E+1) (W.setCell ⟨E,j,none⟩ v) (aK q'.sn) sl'):
  RdI B E N rb G w q' rest dl' sl' (W.setCell ⟨E,j,none⟩ v):=by
 have n1:=h.n1;have n2:=h.n2;have n3:=h.n3;have n4:=h.n4;have hg:=fH W E j v;exact⟨fJ h.g0 (by omega) j v,fJ h.g1 (by omega) j v,by rw[←hq];exact h.ge.set j v,h.rd.kept hg (fun r e=>by cases e;omega),hd,hs,kk h.be (by omega) j v,h.n1,h.n2,h.n3,bq n4 hg.size⟩
theorem RdI.set0 (h:RdI B E N rb G w q rest dl sl W) (j:Nat) (v:ak) {q':PS} (hq:(aW q).set j v=aW q') (e1:q'.d=q.d) (e2:q'.sn=q.sn):RdI B E N rb G w q' rest dl sl (W.setCell ⟨E,j,none⟩ v):=by
 have hg:=fH W E j v;exact h.set j v hq (by rw[e1];exact h.dd.low hg (fun j e=>by cases e;omega)) (by rw[e2];exact h.ss.low hg (fun j e=>by cases e;omega))
theorem RdI.high (h:RdI B E N rb G w q rest dl sl W) {row:Option Nat} (hg:W.grownBy W' row) (hr:∀j,row=some j->E+1<=j) {q':PS} {dl':List Int} {sl':List SN} (hd:bT (E+1) W' (aK q.d) dl) (hs:fD (E+1) W' (aK q.sn) sl):RdI B E N rb G w q rest dl sl W':=by
 have n1:=h.n1;have n2:=h.n2;have n3:=h.n3;have n4:=h.n4;have ne:∀j,j<=E->row≠some j:=fun j hj e=>by have:=hr j e;omega
 exact⟨h.g0.grown hg (ne _ (by omega)),h.g1.grown hg (ne _ (by omega)),h.ge.grown hg (ne _ (by omega)),h.rd.kept hg (fun r e=>by have:=hr r e;omega),hd,hs,h.be.grown hg (by omega) (fun j e=>by have:=hr j e;omega),h.n1,h.n2,h.n3,bq n4 hg.size⟩
theorem RdI.put (h:RdI B E N rb G w q rest dl sl W) {row:Option Nat} {Y:ah} (hg:W.grownBy Y row) (hr:∀j,row=some j->E+1<=j) (j:Nat) (v:ak) {q':PS} {dl':List Int} {sl':List SN} (hq:(aW q).set j v=aW q')
  (hd:bT (E+1) (Y.setCell ⟨E,j,none⟩ v) (aK q'.d) dl') (hs:fD (E+1) (Y.setCell ⟨E,j,none⟩ v) (aK q'.sn) sl'):RdI B E N rb G w q' rest dl' sl' (Y.setCell ⟨E,j,none⟩ v):=by
 have n1:=h.n1;have n2:=h.n2;have n3:=h.n3;have n4:=h.n4;have ne:∀j,j<=E->row≠some j:=fun j hj e=>by have:=hr j e;omega
 have h2:=fH Y E j v;exact⟨fJ (h.g0.grown hg (ne _ (by omega))) (by omega) j v,fJ (h.g1.grown hg (ne _ (by omega))) (by omega) j v,by rw[←hq];exact(h.ge.grown hg (ne _ (aG _))).set j v,(h.rd.kept hg (fun r e=>by have:=hr r e;omega)).kept h2 (fun r e=>by cases e;omega),hd,hs,kk (h.be.grown hg (by omega) (fun j e=>by have:=hr j e;omega)) (by omega) j v,h.n1,h.n2,h.n3,bq (bq n4 hg.size) h2.size⟩
theorem Kh (bs:List Int) (a n:Nat):bx (bs.drop a) 0 n=bx bs a n:=by unfold bx;rw[bQ]
theorem AB {bs:List Int} {k:Nat} (h:k<bs.length):(bs.drop k).take 1= [bs[k]?.getD 0]:=by
 rw[List.drop_eq_getElem_cons h,aZ h]
 rfl
structure ReadR (g:SG) (bs:List Int) (M:Nat) (W:ah) (q:PS):Prop where
 nx:q.nx=bM (bx bs 0 4)
 kd:q.kd=bs[5]?.getD 0
 id:q.id=bM (bx bs 6 4)
 dd:bT M W (aK q.d) (fO g bs g.slots)
 ss:fD M W (aK q.sn) (eX g bs 8)
 pr:dT M W (aK q.pr) (cK 0 (bx bs (g.at 8) g.b))
theorem Ki {w:ah} {v:ak} {bs:List Int} (g:SG) (hg:g.Ok) (r0:Int) (hv:Sl ay w v bs) (hB:aP bs) (hl:bs.length=g.bts):
  ap aj 188 #[al (g.v r0),v] w fun e w'=>∃q:PS,e=ao (bI q)/\ReadR g bs w.heap.size w' q/\ag w.heap.size w w':=by
 have hmx:=w9x
 have hn9:=qm hg;have hgb:=hg.b64;have hsl:g.slots<=32:=bm (kP hg.s8 hg.y4) (by decide);have hcap:bs.length<=1000:=by
  rw[hl];unfold SG.bts SG.step SG.n9;omega
 have HLE:Hid (∀i,i<8->g.at i+(4+g.n9+g.b)+g.b<=bs.length):=fun i hi=>by rw[hl];exact g.at_le hi
 have HEN:Hid (g.at 8+g.b=bs.length):=by show _=_;rw[hl];exact g.at_end
 have HBY:=ae hB;have HCAP:=ae hcap;have HGO:=ae hg;obtain⟨B,hBB⟩:=w9nm w.heap.size;have HSZ:=ae hBB;obtain⟨W1,hW1⟩:=w9nm (w.alloc (an (g.v r0) 23));obtain⟨W2,hW2⟩:=w9nm (W1.alloc (an #[af none 0 0,af none 0 0,ab ac 0,ab ac 0,ab ac 0,af none 0 0] 47));have s1:W1.heap.size=B+1:=by rw[←hW1,←hBB];simp
 have s2:W2.heap.size=B+2:=by rw[←hW2,bO,s1]
 have r1:aq W1 B 23 [ab ac (g.b:Int),ab ac (g.s:Int),ab ac (g.y:Int),ab ac (g.a:Int),ab ac r0]:=by rw[←hW1,←hBB];exact aq.new _ _ _
 have r2:aq W2 (B+1) 47 (aW dH):=by rw[←hW2,←s1];exact aq.new _ _ _
 have b1:ag B w W1:=by rw[←hW1,←hBB];exact aH _ _
 have b2:ag W1.heap.size W1 W2:=by rw[←hW2];exact aH _ _
 have hBF:ag B w W2:=b1.trans (b2.mono (by omega));have HBF:=ae hBF;have HR1:Hid (aq W2 B 23 [ab ac (g.b:Int),ab ac (g.s:Int),ab ac (g.y:Int),ab ac (g.a:Int),ab ac r0]):=r1.below b2;have HR2:=ae r2;have HS2:=ae s2;have HNR:=ae (vw v bs W2 (hv.below (by show ag _ _ _;rw[hBB];exact hBF)) (by omega));clear r1 r2 b1 b2 hBF hv hB hl hg;obtain⟨GL,hGL⟩:∃GL:List ak, [ab ac (g.b:Int),ab ac (g.s:Int),ab ac (g.y:Int),ab ac (g.a:Int),ab ac r0]=GL:=⟨_,rfl⟩;rw[hGL]at HR1;have HGL:=ae hGL;clear hGL;unfold SG.v at *;go_enter func188,ntmps188;go_wp2_with fail;refine HNR.out.mono ?_;rintro e x1 ⟨rb,rfl,hrb,hrd,hb1⟩;obtain⟨x2,hx2⟩:=w9nm (x1.alloc (an #[af none 0 0,af none 0 0,ab ac 0,ab ac 0,ab ac 0,af none 0 0] 47));obtain⟨N,hN⟩:=w9nm x1.heap.size;have b2:ag x1.heap.size x1 x2:=by rw[←hx2];exact aH _ _
 have I0:RdI B N N rb GL w dH bs [] [] x2:=by
  refine⟨(HR1.out.below hb1).below b2,(HR2.out.below hb1).below b2,by rw[←hx2,←hN];exact aq.new x1 47 (aW dH),by rw[hN]at hrd;exact hrd.below (dS b2 none),bT.nil _ _,fD.nil _ _,(HBF.out.trans (hb1.mono (by have:=HS2.out;omega))).trans (b2.mono (by have:=hb1.size;have:=HS2.out;omega)),by have:=HS2.out;omega, ?_,aG _,by rw[←hx2,←hN];simp⟩;obtain⟨b,off,cap,h0,h1,h2,h3,h4,h5,h6⟩:=hrd;omega
 have HI0:=ae I0;clear hrb hrd hb1 b2 HNR I0;go_wp2_with fail;refine(qq rb bs 4 x2 HI0.out.rd HBY.out (by have:=HEN.out;have:=g.at_zero;have:=HLE.out 0 (by omega);omega) (aG _)).mono ?_;rintro e x3 ⟨rfl,hr3,hg3⟩;have J3:=HI0.out.step hg3 hr3;obtain⟨nx,hnx⟩:=w9nm (bM (bs.take 4));have HNX:Hid (nx=bM (bx bs 0 4)):=by show _=_;rw[←hnx];rfl
 rw[hnx];have f0:=J3.ge.frozen 2;have e0:=J3.ge.cell 2 _ rfl;have HBL:Hid (10+g.slots<=bs.length):=by have:=g.at_zero;have:=HLE.out 0 (by omega);show _<=_;have:=HGO.out.b1;omega
 have I4:Hid (RdI B N N rb GL w ⟨(none,0,0),(none,0,0),nx,0,0,(none,0,0)⟩ (bs.drop 4) [] [] (x3.setCell ⟨N,2,none⟩ (ab ac nx))):=J3.set0 2 _ rfl rfl rfl;clear hr3 hg3 J3 hnx HI0;go_wp2_with fail;refine(qq rb (bs.drop 4) 1 _ I4.out.rd (mE HBY.out 4) (by rw[dm];have:=HBL.out;omega) (by omega)).mono ?_;rintro e x5 ⟨rfl,hr5,hg5⟩;obtain⟨ct,hct,hct8⟩:=oz bs HBY.out 4;rw[AB (by have:=HBL.out;omega),sC,hct];have I5:Hid (RdI B N N rb GL w ⟨(none,0,0),(none,0,0),nx,0,0,(none,0,0)⟩ (bs.drop 5) [] [] x5):=by
  have:=I4.out.step hg5 hr5;rw[ja]at this;exact this
 have HCT:=ae hct;clear hr5 hg5 I4 hct f0 e0;go_wp2_with fail;refine(qq rb (bs.drop 5) 1 _ I5.out.rd (mE HBY.out 5) (by rw[dm];have:=HBL.out;omega) (by omega)).mono ?_;rintro e x6 ⟨rfl,hr6,hg6⟩;obtain⟨kd,hkd,hkd8⟩:=oz bs HBY.out 5;rw[AB (by have:=HBL.out;omega),sC,hkd];have J6:=I5.out.step hg6 hr6;rw[ja]at J6;have HKD:=ae hkd;have f0:=J6.ge.frozen 3;have e0:=J6.ge.cell 3 _ rfl;have I6:Hid (RdI B N N rb GL w ⟨(none,0,0),(none,0,0),nx,(kd:Int),0,(none,0,0)⟩ (bs.drop 6) [] [] (x6.setCell ⟨N,3,none⟩ (ab ac (kd:Int)))):=J6.set0 3 _ rfl rfl rfl;clear hr6 hg6 I5 J6 hkd;go_wp2_with fail;refine(qq rb (bs.drop 6) 4 _ I6.out.rd (mE HBY.out 6) (by rw[dm];have:=HBL.out;omega) (by omega)).mono ?_;rintro e x7 ⟨rfl,hr7,hg7⟩;obtain⟨id,hid⟩:=w9nm (bM ((bs.drop 6).take 4));have HID:Hid (id=bM (bx bs 6 4)):=by show _=_;rw[←hid];rfl
 rw[hid];have J7:=I6.out.step hg7 hr7;rw[ja]at J7;clear f0 e0;have f0:=J7.ge.frozen 4;have e0:=J7.ge.cell 4 _ rfl;have I7:Hid (RdI B N N rb GL w ⟨(none,0,0),(none,0,0),nx,(kd:Int),id,(none,0,0)⟩ (bs.drop 10) [] [] (x7.setCell ⟨N,4,none⟩ (ab ac id))):=J7.set0 4 _ rfl rfl rfl;obtain⟨x8,hx8⟩:=w9nm (x7.setCell ⟨N,4,none⟩ (ab ac id));rw[hx8]at I7;have hG8:=I7.out.g0;rw[←HGL.out]at hG8;have c0:=hG8.cell 0 _ rfl;have c1:=hG8.cell 1 _ rfl;have c2:=hG8.cell 2 _ rfl;have c3:=hG8.cell 3 _ rfl;have c4:=hG8.cell 4 _ rfl;have HSC:Hid (ap aj 171 #[al #[ab ac (g.b:Int),ab ac (g.s:Int),ab ac (g.y:Int),ab ac (g.a:Int),ab ac r0]] x8 fun e w'=>e=ao (ab ac (g.slots:Int))/\ag x8.heap.size x8 w'):=vO g HGO.out r0 x8;obtain⟨Z,hZ⟩:=w9nm g.slots;have HZ:=ae hZ;rw[hZ]at HSC HBL hsl;clear hr7 hg7 I6 J7 hid hG8 hZ;go_wp2_with fail;refine HSC.out.mono ?_;rintro e x9 ⟨rfl,hb9⟩;have I9:=ae (I7.out.below hb9);clear hb9 c0 c1 c2 c3 c4 HSC I7 f0 e0 hx8;go_wp2_with fail;refine(sM rb (bs.drop 10) Z x9 I9.out.rd (by rw[dm];have:=HBL.out;omega) (by rw[dm];have:=HCAP.out;omega)).mono ?_;rintro e xa ⟨qa,rfl,hoa,hra,hga⟩;have IA:Hid (RdI B N N rb GL w ⟨(none,0,0),(none,0,0),nx,(kd:Int),id,(none,0,0)⟩ (bs.drop (10+Z)) [] [] xa):=by
  have:=I9.out.step hga hra;rw[ja]at this;exact this
 have HOA:Hid (xa.ownsRow (N+1) 5 1 (af (some ⟨qa,0,none⟩) Z Z) ((bs.drop 10).take Z).length (((bs.drop 10).take Z).map (Value.int ay))):=iN hoa (by have:=I9.out.n4;omega);have HLA:Hid (((bs.drop 10).take Z).length=Z):=by show _=_;rw[dj,dm];have:=HBL.out;omega
 clear hoa hra hga I9;go_wp2_with fail;go_loopw [32] (fun iv wr=>∃(k:Nat) (x:Option aF) (n c:Nat),k<=Z/\iv=ab ac (k:Int)/\Hid (RdI B N N rb GL w ⟨(x,n,c),(none,0,0),nx,(kd:Int),id,(none,0,0)⟩ (bs.drop (10+Z)) (fO g bs k) [] wr)/\Hid (wr.ownsRow (N+1) 5 1 (af (some ⟨qa,0,none⟩) Z Z) ((bs.drop 10).take Z).length (((bs.drop 10).take Z).map (Value.int ay)))) (fun iv _=>Z - (aS iv).toNat)
 case atStart=>exact⟨0,none,0,0,bc _,rfl,by rw[Kf];exact IA,HOA⟩
 case round=>
  clear IA HOA;obtain⟨k,x,n,c,hk,rfl,HI,HO⟩:=hrel;by_cases hlt:k<Z
  ·have q1:(k:Int)< (Z:Int):=by omega
   have HLT:=ae hlt;obtain⟨y,hy,hy8⟩:=oz bs HBY.out (10+k);have cb:wr.cell? ⟨qa,k,none⟩=some (ab ay (y:Int)):=by
    have h1:=HO.out;rw[HLA.out]at h1;have:=GP h1 k hlt;rw[kx,if_pos hlt,lI,hy]at this;exact this
   have HES:=ae (Kg g (bs:=bs) (k:=k) (by rw[HZ.out];exact hlt) (by rw[HZ.out];have:=HBL.out;omega));rw[hy]at HES;obtain⟨z,hz⟩:=w9nm (ff (y:Int));have HME:Hid (ap aj 256 #[ab ay (y:Int)] wr.drew fun e w'=>e=ao (ab ac z)/\w'=wr.drew):=by rw[←hz];exact Ad y hy8 wr.drew
   rw[hz]at HES;have bd:ag wr.heap.size wr wr.drew:=(aI _ wr).drew;have ID:=HI.out.below bd;have od:=dQ HO.out bd;have hlen:(fO g bs k).length<=900000:=by unfold fO;rw[dV,dj];have:=hsl;omega
   obtain⟨v',y',hA,hI,hg', -⟩:=rH (w:=wr.drew) ID.dd ID.n4 z hlen;rw[←HES.out]at hI;obtain⟨⟨x',n',c'⟩,rfl, -⟩:=iO hI;obtain⟨X1,hX1⟩:=w9nm (wr.drew.alloc (an #[ab ac z] 3));have b1:ag wr.drew.heap.size wr.drew X1:=by rw[←hX1];exact aH _ _
   rw[hX1]at hA;have KD:=ae ID.ge;have KX:=ae (ID.ge.below b1);have hEg:aq y' N 47 (aW ⟨(x,n,c),(none,0,0),nx,(kd:Int),id,(none,0,0)⟩):=ID.ge.grown hg' (fz ID.dd ID.ge (by decide));have KY:=ae hEg;have f0:=hEg.frozen 0;have e0:=hEg.cell 0 _ rfl;have I2:Hid (RdI B N N rb GL w ⟨(x',n',c'),(none,0,0),nx,(kd:Int),id,(none,0,0)⟩ (bs.drop (10+Z)) (fO g bs (k+1)) [] (y'.setCell ⟨N,0,none⟩ (aK (x',n',c')))):=
    ID.put hg' (fun j e=>(ID.dd.base j e).1) 0 _ rfl (kC hI hEg (by decide) 0 _) (fD.nil _ _)
   have O2:Hid ((y'.setCell ⟨N,0,none⟩ (aK (x',n',c'))).ownsRow (N+1) 5 1 (af (some ⟨qa,0,none⟩) Z Z) ((bs.drop 10).take Z).length (((bs.drop 10).take Z).map (Value.int ay))):=kC (od.kept hg' (mQ od ID.dd (by decide))) hEg (by decide) 0 _;have d0:∀q:mD N 47 (aW ⟨(x,n,c),(none,0,0),nx,(kd:Int),id,(none,0,0)⟩),q.1.cell? ⟨N,0,none⟩=some (af x n c):=fun q=>q.2.cell 0 _ rfl
   haveI:Nonempty (mD N 47 (aW ⟨(x,n,c),(none,0,0),nx,(kd:Int),id,(none,0,0)⟩)):=⟨⟨wr.drew,KD.out⟩⟩
   have HA:=ae hA;simp only[aK]at HA e0 I2 O2;clear hA hI hg' hEg ID od bd b1 hy hz hlt HO HI hlen;go_wp2_with fail;refine du (fun z=>∃q:mD N 47 (aW ⟨(x,n,c),(none,0,0),nx,(kd:Int),id,(none,0,0)⟩),z=q.1) 7 (.takes [0,1,2] (.one 3 (.one 4 (.one 5 (.takes [6] .leaf))))) hmx (by kernel_rfl) (by intro c x v a w h;cases x<;>exact h) ⟨⟨wr.drew,KD.out⟩,rfl⟩ ?_;repeat(rw[bu];simp only[aB,aC];go_big_quiet_step (fail);refine aV ?_)
   clear d0;rw[bt,aT];simp only[aB,aC];go_wp2_with fail;go_at_call 256;refine HME.out.mono ?_;rintro e y2 ⟨rfl,rfl⟩;go_wp2_with fail;refine aN ⟨⟨_,KD.out⟩,rfl⟩ ?_;rw[aT];simp only[aB,aC];go_wp2_with fail;try rw[hX1]
   refine aN ⟨⟨X1,KX.out⟩,rfl⟩ ?_;clear hX1;rw[aT];simp only[aB,aC];refine wpList_append_run (.tmp 37) (.tmp 40) 41 rfl rfl _ _ _ rfl rfl (HA.out _) ?_;go_wp2_with fail;refine aN ⟨⟨y',KY.out⟩,rfl⟩ ?_;repeat(rw[bu];simp only[aB,aC];go_big_quiet_step (fail);refine aV ?_)
   rw[bt,cW];simp only[bR,bQ];go_wp2_with fail;exact⟨⟨k+1,x',n',c',HLT.out,by simp,I2,O2⟩,by have:=HLT.out;simp[aS];omega⟩
  ·obtain rfl:k=Z:=by omega
   have HD:Hid (fO g bs k=fO g bs g.slots):=by show _=_;rw[HZ.out]
   rw[HD.out]at HI;clear hlt HO;go_wp2_with fail;have HZ0:Hid (bs.drop (10+k)=bs.drop (g.at 0)):=by show _=_;rw[g.at_zero,HZ.out]
   rw[HZ0.out]at HI;have HCN:Hid ((bs[4]?.getD 0).toNat=ct):=by show _=_;rw[HCT.out];simp
   go_loopw [44] (fun iv wr=>∃(j:Nat) (sx:Option aF) (sn sc:Nat),j<=8/\iv=ab ac (j:Int)/\Hid (RdI B N N rb GL w ⟨(x,n,c),(sx,sn,sc),nx,(kd:Int),id,(none,0,0)⟩ (bs.drop (g.at j)) (fO g bs g.slots) (eX g bs j) wr)) (fun iv _=>8 - (aS iv).toNat)
   case atStart=>exact⟨0,none,0,0,bc _,rfl,by rw[JE];exact HI⟩
   case round=>
    clear HI;obtain⟨j,sx,sn,sc,hj,rfl,HI⟩:=hrel;have hG:=HI.out.g0;rw[←HGL.out]at hG;have c0:=hG.cell 0 _ rfl;by_cases hlt:j<8
    ·have q1:(j:Int)<8:=by omega
     have HLT:=ae hlt;have c1:=hG.cell 1 _ rfl;have c2:=hG.cell 2 _ rfl;have c3:=hG.cell 3 _ rfl;have c4:=hG.cell 4 _ rfl;have hll:=HLE.out j hlt;have HRS:Hid (ap aj 257 #[am (some ⟨rb,0,none⟩),al #[ab ac (g.b:Int),ab ac (g.s:Int),ab ac (g.y:Int),ab ac (g.a:Int),ab ac r0]] wr fun e w'=>∃q:SV,e=ao (dZ q)/\SnF wr.heap.size w' q (iw g (bx bs (g.at j) g.step))/\dU w' N rb (bs.drop (g.at (j+1)))/\wr.grownBy w' (some rb)):=by
      have:=JL rb (bs.drop (g.at j)) wr g HGO.out r0 HI.out.rd (mE HBY.out _) (by rw[dm];unfold SG.step;omega) (by rw[dm];have:=HCAP.out;omega);rw[Kh,ja,show g.at j+g.step=g.at (j+1) by rw[g.at_succ];rfl]at this;exact this
     clear hG hlt hll;go_wp2_with fail;refine HRS.out.mono ?_;rintro e y1 ⟨⟨i1,⟨a1,n1,c1'⟩,⟨a2,n2,c2'⟩⟩,rfl,hF,hr1,hg1⟩;have I1:=HI.out.step hg1 hr1;have ST:=mS y1 (i1,(a1,n1,c1'),(a2,n2,c2'));obtain⟨Y,hY⟩:=w9nm (y1.alloc (an (cX (i1,(a1,n1,c1'),(a2,n2,c2'))).toArray 90));have bY:ag y1.heap.size y1 Y:=by rw[←hY];exact aH _ _
     have rY:aq Y y1.heap.size 90 (cX (i1,(a1,n1,c1'),(a2,n2,c2'))):=by rw[←hY];exact aq.new y1 _ _
     rw[hY]at ST;obtain⟨C,hC⟩:=w9nm y1.heap.size;have I2:=ae (I1.below bY);have F2:Hid (SnF (N+1) Y (i1,(a1,n1,c1'),(a2,n2,c2')) (iw g (bx bs (g.at j) g.step))):=(hF.weak (by have:=HI.out.n4;omega)).below bY;rw[hC]at ST rY;have LD:=pY rY;simp only[dZ,aK]at ST LD ⊢;have RY:=ae rY;clear c0 c1 c2 c3 c4 HRS hF hr1 hg1 I1 bY rY hY HI;by_cases hin:j<ct
     ·have q2:(j:Int)< (ct:Int):=by omega
      have HSK:Hid (eX g bs (j+1)=eX g bs j++ [iw g (bx bs (g.at j) g.step)]):=JF g (by rw[HCN.out];exact hin);have k1:=I2.out.ge.cell 1 _ rfl;have S1:=yT Y (i1,(a1,n1,c1'),(a2,n2,c2'));obtain⟨v3,y3,hA,O3,hg3⟩:=yU I2.out.ss I2.out.n4 F2.out (by unfold eX;rw[dV,List.length_range];have:=Nat.min_le_left j (bs[4]?.getD 0).toNat;omega);rw[←HSK.out]at O3;obtain⟨⟨s3x,s3n,s3c⟩,rfl⟩:∃q:jj,v3=aK q:=by obtain⟨r, -,h, -⟩:=O3;obtain⟨q,e, -⟩:=iO h;exact⟨q,e⟩
      have hEg:aq y3 N 47 (aW ⟨(x,n,c),(sx,sn,sc),nx,(kd:Int),id,(none,0,0)⟩):=I2.out.ge.grown hg3 (I2.out.ss.ne I2.out.ge (by decide));have hdn:bT (N+1) y3 (aK (x,n,c)) (fO g bs g.slots):=by
       obtain⟨r, -,h, -⟩:=I2.out.ss;exact World.ownsRow.kept I2.out.dd hg3 (mQ I2.out.dd h (by decide))
      have f0:=hEg.frozen 1;have e0:=hEg.cell 1 _ rfl;have I3:Hid (RdI B N N rb GL w ⟨(x,n,c),(s3x,s3n,s3c),nx,(kd:Int),id,(none,0,0)⟩ (bs.drop (g.at (j+1))) (fO g bs g.slots) (eX g bs (j+1)) (y3.setCell ⟨N,1,none⟩ (aK (s3x,s3n,s3c)))):=
       I2.out.put hg3 (fun j e=>(I2.out.ss.base j e).1) 1 _ rfl (kC hdn hEg (by decide) 1 _) (O3.low (fH y3 N 1 _) (fun j e=>by cases e;omega))
      obtain⟨Y2,hY2⟩:=w9nm (Y.alloc (an (cX (i1,(a1,n1,c1'),(a2,n2,c2'))).toArray 90));rw[hY2]at hA S1;have HA:=ae hA;have HS1:=ae S1;simp only[dZ,aK]at HA HS1 e0 I3 k1;clear hA S1 hY2 O3 hg3 hEg hdn hin;go_wp2_with (first | (with_reducible refine iu ?_;refine dR 42 1 #[(0,.tmp 55)] rfl rfl [(0,al #[ab ac i1,af a1 n1 c1',af a2 n2 c2'])] _ rfl HS1.out ?_) | (at_builtin;refine wpList_append_run (.tmp 54) (.tmp 56) 42 rfl rfl _ _ _ rfl rfl (HA.out _) ?_));exact⟨⟨j+1,s3x,s3n,s3c,HLT.out,by simp,I3⟩,by have:=HLT.out;simp[aS];omega⟩
     ·have q2:¬(j:Int)< (ct:Int):=by omega
      have q3:decide (j<ct)=false:=by simpa using hin
      have HSK:Hid (eX g bs (j+1)=eX g bs j):=JG g (by rw[HCN.out];omega);have I3:Hid (RdI B N N rb GL w ⟨(x,n,c),(sx,sn,sc),nx,(kd:Int),id,(none,0,0)⟩ (bs.drop (g.at (j+1))) (fO g bs g.slots) (eX g bs (j+1)) Y):=by rw[HSK.out];exact I2
      clear hin LD;go_wp2_with fail;exact⟨⟨j+1,sx,sn,sc,HLT.out,by simp,I3⟩,by have:=HLT.out;simp[aS];omega⟩
    ·obtain rfl:j=8:=by omega
     have hlb:(bs.drop (g.at 8)).length=g.b:=by rw[dm];have:=HEN.out;omega
     have HLB:=ae hlb;have HTK:=ae (sM rb (bs.drop (g.at 8)) g.b wr HI.out.rd (by rw[hlb];exact aG _) (by rw[hlb];omega));clear hG hlt hlb;go_wp2_with fail;refine HTK.out.mono ?_;rintro e y1 ⟨qb,rfl,hob,hrb,hgb1⟩;have I1:=ae (HI.out.step hgb1 hrb);have S1:Hid (Sl ay y1 (af (some ⟨qb,0,none⟩) g.b g.b) ((bs.drop (g.at 8)).take g.b)):=Sl.of_owns hob;clear hob hrb hgb1 HTK c0 HI;go_wp2_with fail;go_at_call 259;refine(Af _ _ _ y1).mono ?_;obtain⟨y2,hy2⟩:=w9nm (y1.alloc (an #[af (some ⟨qb,0,none⟩) g.b g.b] 76));rintro e y2' ⟨rfl,h2'⟩;obtain rfl:y2'=y2:=h2'.trans hy2;have b2:ag y1.heap.size y1 y2':=by rw[←hy2];exact aH _ _
     have hP:PdB y1.heap.size (af (some ⟨qb,0,none⟩) g.b g.b) ((bs.drop (g.at 8)).take g.b) y2':=⟨by rw[←hy2];exact(aq.new y1 76 [af (some ⟨qb,0,none⟩) g.b g.b]).cell 0 _ rfl,S1.out.below b2⟩;have h2s:y1.heap.size<y2'.heap.size:=by rw[←hy2];simp
     have HCL:=ae (Ae y1.heap.size h2s hP (pm (mE HBY.out _) g.b) (by rw[dj];omega));have I2:=ae (I1.out.below b2);clear h2' hy2 b2 hP h2s I1 S1;go_wp2_with fail;go_at_call 258;refine HCL.out.mono ?_;rintro e y3 ⟨v3,rfl,ho3,hb3⟩;obtain⟨⟨pa,pn,pc⟩,rfl, -⟩:=iO ho3.1;have J3:=I2.out.below hb3;have P3:dT (N+1) y3 (aK (pa,pn,pc)) (cK 0 (bx bs (g.at 8) g.b)):=ho3.weak I2.out.n4;have f0:=J3.ge.frozen 5;have e0:=J3.ge.cell 5 _ rfl;have I3:RdI B N N rb GL w ⟨(x,n,c),(sx,sn,sc),nx,(kd:Int),id,(pa,pn,pc)⟩ (bs.drop (g.at 8)|>.drop g.b) (fO g bs g.slots) (eX g bs 8) (y3.setCell ⟨N,5,none⟩ (aK (pa,pn,pc))):=J3.set0 5 _ rfl rfl rfl;have P4:dT (N+1) (y3.setCell ⟨N,5,none⟩ (aK (pa,pn,pc))) (aK (pa,pn,pc)) (cK 0 (bx bs (g.at 8) g.b)):=P3.low (fH y3 N 5 _) (fun j e=>by cases e;omega);obtain⟨Z4,hZ4⟩:=w9nm (y3.setCell ⟨N,5,none⟩ (aK (pa,pn,pc)));rw[hZ4]at I3 P4;obtain⟨z,hST,hRz,hgz⟩:=lq ⟨(x,n,c),(sx,sn,sc),nx,(kd:Int),id,(pa,pn,pc)⟩ I3.g1 rfl;have LS:=fg I3.ge;have HLD:=ae (fg hRz);have n1:=I3.n1;have n2:=I3.n2;have n3:=I3.n3;have n4:=I3.n4;have FD:Hid (bT B z (aK (x,n,c)) (fO g bs g.slots)):=iN (I3.dd.low hgz (fun j e=>by cases e;omega)) (by omega);have FS:Hid (fD B z (aK (sx,sn,sc)) (eX g bs 8)):=by
      obtain⟨r,h1,h2,h3⟩:=I3.ss.low hgz (fun j e=>by cases e;omega);exact⟨r,h1,iN h2 (by omega),fun j q s a b=>(h3 j q s a b).weak (by omega)⟩
     have FP:Hid (dT B z (aK (pa,pn,pc)) (cK 0 (bx bs (g.at 8) g.b))):=(P4.low hgz (fun j e=>by cases e;omega)).weak (by omega);have FB:Hid (ag B w z):=I3.be.grown hgz (by omega) (fun j e=>by cases e;omega);simp only[bI,aW,aK]at hST LS HLD e0 hZ4 ⊢;clear J3 P3 I3 P4 hRz hgz n1 n2 n3 n4 ho3 hb3 HCL I2;go_wp2_with fail;refine bo (ev rfl rfl HLD.out) rfl ?_;exact⟨⟨(x,n,c),(sx,sn,sc),nx,(kd:Int),id,(pa,pn,pc)⟩,rfl,⟨HNX.out,HKD.out.symm,HID.out,by rw[HSZ.out];exact FD.out,by rw[HSZ.out];exact FS.out,by rw[HSZ.out];exact FP.out⟩,by rw[HSZ.out];exact FB.out⟩
end
end Go.Proofs.YtbeeenembgplmaaGreat
