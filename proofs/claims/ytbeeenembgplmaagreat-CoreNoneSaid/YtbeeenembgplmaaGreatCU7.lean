/- Made shorter by a tool: what the statements rest on. -/
import Derived.Test.YtbeeenembgplmaaGreatCU6
import Derived.Deep.Cut
import Derived.Deep.CutRange
import Derived.Deep.CutBlock
import Derived.Shelf.Bits.Mul64
import Derived.Test.YtbeeenembgplmaaGreatProg
import Derived.Laws.CopyRow
import Derived.WalkKit
import Derived.Below
import Derived.Lib.Hide
import Derived.Lib.Bytes
import Derived.LoopTactic
import Derived.Laws.BitsAllLaws
set_option maxRecDepth 100000
set_option maxHeartbeats 20000000
set_option linter.unusedVariables false
set_option linter.unusedSimpArgs false
open List renaming getElem?_eq_getElem -> aZ, replicate -> bg, length_cons -> bz, drop_zero -> bQ, drop_succ_cons -> bR, getElem?_eq_some_iff -> bZ, length_nil -> cx, nil_append -> cy, cons_append -> cC, length_append -> cE, size_toArray -> cJ, mem_map -> cM, push_toArray -> cQ, append_toArray -> cR, take_of_length_le -> de, length_take -> dj, mem_of_getElem? -> dp, mem_cons -> dy, mem_cons_self -> dC, mem_range -> dJ, length_map -> dV, getElem?_map -> dY, mem_cons_of_mem -> ea, map_append -> ec, getElem?_eq_none -> ej, getElem?_append_right -> fv, getElem?_append_left -> fS, mem_append -> gc, length_replicate -> iq, all_eq_true -> iZ, mem_of_mem_take -> jE, getElem?_of_mem -> jY, append_assoc -> kb, getElem?_replicate -> kO, not_mem_nil -> lM, getElem?_range -> mj
open Nat renaming le_refl -> aG, zero_le -> bc, le_trans -> bm, lt_of_lt_of_le -> bq, zero_add -> dP, mod_lt -> iI, lt_irrefl -> iJ, mul_le_mul -> kP, min_eq_left -> lJ
open Int renaming le_refl -> fT, toNat_natCast -> iG, eq_ofNat_of_zero_le -> mO
open Array renaming getElem?_eq_some_iff -> bL, replicate_succ -> cO, replicate_zero -> cP
open Bool renaming and_eq_true -> cm, true_and -> jX
open Go.Lib renaming hid -> ae
open Go renaming World -> ah, Value -> ak, Calls -> ap, undef -> az, loadVar -> aE, Addr -> aF, storeVar -> aL, TypeId -> aR, wpQuiet_nil -> aV, maxLen -> aY, bodyPost_ret -> bo, heap_alloc_new -> cD, run_equalIn_agg -> cS, run_takeDeferred -> eU, info_parts -> fy, callsIn_of_wp_marks -> gA, run_loadVar_mid -> jF, all_oneCell_toArray -> ky, run_storeVar_new -> kQ
open Go.Instr renaming build -> df, buildSlice -> dh
open Go.Op renaming equalIn -> jG
open Go.Result renaming andThen_ok -> ek
open Go.RowKit renaming Below -> ag, intOf -> aS
open Go.RowKit.Below renaming refl -> aI, heap_setCell -> eG
open Go.Sem renaming run_bind -> gK
open Go.World renaming size_alloc -> bO
open Go.Ending renaming returned -> ao
open Go.IntKind renaming i64 -> ac, u8 -> ay
open Go.Obj renaming cells -> an
open Go.Value renaming int -> ab, slice -> af, agg -> al, pointer -> am, tuple -> aQ
open Or renaming inl -> aA, inr -> aD
open Go.Proofs.Tryz
open Go.Proofs.Tryz renaming prog -> aj
namespace Go.Proofs.YtbeeenembgplmaaGreat
open Go.RowKit Go.Shelf Go.Lib
section
theorem fD.setE {N E:Nat} {W:ah} {v:ak} {l:List SN} {L:List ak} (h:fD N W v l) (hE:aq W E 47 L) (j:Nat) (x:ak):fD N (W.setCell ⟨E,j,none⟩ x) v l:=by
 obtain⟨r,h1,h2,h3⟩:=h;exact⟨r,h1,kC h2 hE (by decide) j x,fun k q s a b=>⟨(h3 k q s a b).id,kC (h3 k q s a b).ch hE (by decide) j x,⟨kC (h3 k q s a b).tb.1 hE (by decide) j x,(h3 k q s a b).tb.2⟩,(h3 k q s a b).ok⟩⟩
structure CpI (B E:Nat) (G:List ak) (w:ah) (q:PS) (d:List Int) (sl:List SN) (ps:List (Int×Int)) (W:ah):Prop where
 g0:aq W B 47 G
 g1:aq W (B+1) 47 (aW dH)
 ge:aq W E 47 (aW q)
 dd:bT (B+2) W (aK q.d) d
 ss:fD (B+2) W (aK q.sn) sl
 pr:dT (B+2) W (aK q.pr) ps
 be:ag B w W
 n3:B+2<=E
 n4:E<W.heap.size
def pI (E F:Nat) (L M:List ak):Type:={x:ah // aq x E 47 L/\aq x F 90 M}
variable {B E:Nat} {G:List ak} {w W W':ah} {q:PS} {d:List Int} {sl:List SN} {ps:List (Int×Int)}
theorem CpI.below (h:CpI B E G w q d sl ps W) (hb:ag W.heap.size W W'):CpI B E G w q d sl ps W':=
 ⟨h.g0.below hb,h.g1.below hb,h.ge.below hb,h.dd.below hb,h.ss.below hb,h.pr.below hb,h.be.trans (hb.mono (by have:=h.n3;have:=h.n4;omega)),h.n3,bq h.n4 hb.size⟩
theorem CpI.put (h:CpI B E G w q d sl ps W) {Y:ah} (hg:W.grownBy Y (aK q.sn).ownBlock) {u:jj} {sl':List SN} (hs:fD (B+2) Y (aK u) sl'):
  CpI B E G w ⟨q.d,u,q.nx,q.kd,q.id,q.pr⟩ d sl' ps (Y.setCell ⟨E,1,none⟩ (aK u)):=by
 have n3:=h.n3;have n4:=h.n4;have ne:∀j,j<B+2->(aK q.sn).ownBlock≠some j:=fun j hj e=>by have:=(h.ss.base j e).1;omega
 have hE:aq Y E 47 (aW q):=h.ge.grown hg (h.ss.ne h.ge (by decide));obtain⟨r, -,hr, -⟩:=h.ss;exact⟨fJ (h.g0.grown hg (ne _ (by omega))) (by omega) _ _,fJ (h.g1.grown hg (ne _ (by omega))) (by omega) _ _,hE.set 1 (aK u),
  kC (World.ownsRow.kept h.dd hg (mQ h.dd hr (by decide))) hE (by decide) _ _,hs.setE hE _ _,⟨kC (h.pr.1.kept hg (mQ h.pr.1 hr (by decide))) hE (by decide) _ _,h.pr.2⟩,
  kk (h.be.grown hg (by omega) (fun j e=>by have:=(h.ss.base j e).1;omega)) (by omega) _ _,n3,bq n4 (bm hg.size (fH Y E 1 (aK u)).size)⟩
theorem Qt (i:Int) (x y:Option aF) (n c m e:Nat) (w:ah):(df 90 #[(0,ab ac i),(1,af x n c),(2,af y m e)]).run aj w=.ok (al #[ab ac i,af x n c,af y m e]) w:=by kernel_rfl
attribute [-simp] isAgg90 zeroValue90 isAgg191 zeroValue191 isAgg47 zeroValue47
attribute [-go_sem] aE aL
attribute [local go_sem] iQ iR fB eJ en AP AQ Qt
theorem EO {w:ah} {q:PS} {d:List Int} {l:List SN} {ps:List (Int×Int)} (hd:Sl ac w (aK q.d) d) (h:StIs w q l ps) (hK:jd 1000 l) (hn:d.length<=100000) (hp:ps.length<=100000):
  ap aj 103 #[bI q] w fun e w'=>∃q':PS,e=ao (bI q')/\q'.nx=q.nx/\q'.kd=q.kd/\q'.id=q.id/\StO w.heap.size w' q' d l ps/\ag w.heap.size w w':=by
 have hmx:=w9x
 obtain⟨⟨qd,qdn,qdc⟩,⟨qs,qsn,qsc⟩,nx,kd,id,⟨qp,qpn,qpc⟩⟩:=q;have HK:=ae hK;obtain⟨rs,hrs⟩:=h.sn;obtain⟨_,cap,e0,hl1, -⟩:=hrs;simp only[aK,Value.slice.injEq]at e0;obtain⟨-,hql, -⟩:=e0;have HSL:Hid (l.length=qsn):=hql.symm;have hq1:qsn<=1000:=by rw[hql];exact hK.1
 clear hl1 hql;obtain⟨B,hB⟩:=w9nm w.heap.size;have HSZ:=ae hB;obtain⟨GL,hGL⟩:=w9nm ([Value.slice qd qdn qdc,af qs qsn qsc,ab ac nx,ab ac kd,ab ac id,af qp qpn qpc]);obtain⟨W1,hW1⟩:=w9nm (w.alloc (an #[af qd qdn qdc,af qs qsn qsc,ab ac nx,ab ac kd,ab ac id,af qp qpn qpc] 47));obtain⟨W,hW⟩:=w9nm (W1.alloc (an #[af none 0 0,af none 0 0,ab ac 0,ab ac 0,ab ac 0,af none 0 0] 47));have s1:W1.heap.size=B+1:=by rw[←hW1,←hB];simp
 have s2:W.heap.size=B+2:=by rw[←hW,bO,s1]
 have r1:aq W1 B 47 GL:=by rw[←hW1,←hB,←hGL];exact aq.new _ _ _
 have r2:aq W (B+1) 47 (aW dH):=by rw[←hW,←s1];exact aq.new _ _ _
 have b1:ag B w W1:=by rw[←hW1,←hB];exact aH _ _
 have b2:ag W1.heap.size W1 W:=by rw[←hW];exact aH _ _
 have bF:ag B w W:=b1.trans (b2.mono (by omega));have r1:=r1.below b2;have c0:∀z:aM W,z.1.cell? ⟨B,0,none⟩=some (af qd qdn qdc):=fun z=>(r1.below z.2).cell 0 _ (by rw[←hGL];rfl);have c2:∀z:aM W,z.1.cell? ⟨B,2,none⟩=some (ab ac nx):=fun z=>(r1.below z.2).cell 2 _ (by rw[←hGL];rfl);have c3:∀z:aM W,z.1.cell? ⟨B,3,none⟩=some (ab ac kd):=fun z=>(r1.below z.2).cell 3 _ (by rw[←hGL];rfl);have c4:∀z:aM W,z.1.cell? ⟨B,4,none⟩=some (ab ac id):=fun z=>(r1.below z.2).cell 4 _ (by rw[←hGL];rfl);have c5:∀z:aM W,z.1.cell? ⟨B,5,none⟩=some (af qp qpn qpc):=fun z=>(r1.below z.2).cell 5 _ (by rw[←hGL];rfl);have HG1:Hid (∀X:ah,aq X B 47 GL->X.cell? ⟨B,1,none⟩=some (af qs qsn qsc)):=fun X h=>h.cell 1 _ (by rw[←hGL];rfl);have HG0:=ae r1;have HR:=ae r2;have HBW:=ae bF;have HS:=ae s2;have HCI:Hid (∀z:ah,ag W.heap.size W z->ap aj 186 #[af qd qdn qdc] z fun e w'=>∃u,e=ao u/\bT z.heap.size w' u d/\ag z.heap.size z w'):=fun z hz=>Lh (hd.below (by show ag _ _ _;rw[hB];exact bF.trans (hz.mono (by omega)))) (by omega);have HCP:Hid (∀z:ah,ag W.heap.size W z->ap aj 187 #[af qp qpn qpc] z fun e w'=>∃u,e=ao u/\dT z.heap.size w' u ps/\ag z.heap.size z w'):=fun z hz=>yA (h.pr.below (by show ag _ _ _;rw[hB];exact bF.trans (hz.mono (by omega)))) (by omega);have HSN:Hid (ki w (af qs qsn qsc) l):=h.sn;have KW:Hid (ag W.heap.size W W.drew):=(aI _ W).drew;clear hd h hK hn hp r1 r2 b1 b2 bF s2 hGL;simp only[bI,aW,aK];go_enter func103,ntmps103;go_wp2_with fail;try rw[hW1]
 try rw[hW]
 clear hW1 hW s1;go_cut [3]from 6 to 22 (fun s3 wx=>∃(E:Nat) (x y:Option aF) (n c m e:Nat),s3=am (some ⟨E,0,none⟩)/\Hid (CpI B E GL w ⟨(x,n,c),(none,0,0),nx,kd,id,(y,m,e)⟩ d [] ps wx))
 case first=>
  refine du (fun x=>∃y:aM W,x=y.1) 18 (.takes [0,1,3,4,5,6,7,8,9,10,11,12,13] (.two 2 17 (.two 14 17 (.takes [15,16] (.one 17 .leaf)) (.one 14 (.takes [15,16] .leaf))) (.one 2 (.one 14 (.takes [15,16] .leaf))))) hmx (by kernel_rfl) (by intro c x v a w h;cases x<;>exact h) ⟨⟨W.drew,KW.out⟩,rfl⟩ ?_;repeat(rw[bu];simp only[aB,aC];go_big_quiet_step (fail);refine aV ?_)
  rw[bt];clear c0 c2 c3 c4 c5;obtain⟨X0,hX0⟩:=w9nm W.drew;rw[hX0]at KW;try rw[hX0]
  clear hX0;rw[yJ];refine⟨?_, ?_⟩
  ·simp only[aB,aC];go_wp2_with fail;refine(HCI.out X0 KW.out).mono ?_;rintro e X1 ⟨uX1,rfl,hoX1,bX1⟩;obtain⟨⟨xX1,nX1,cX1⟩,rfl, -⟩:=iO hoX1;have KX1:=w9bt KW bX1;have OAX1:Hid (bT (B+2) X1 (af xX1 nX1 cX1) d):=iN hoX1 (by have:=HS.out;have:=KW.out.size;omega);clear hoX1 bX1;simp only[aK];go_wp2_with fail;refine aN ⟨⟨X1,KX1.out⟩,rfl⟩ ?_;rw[yJ];refine⟨?_, ?_⟩
   ·simp only[aB,aC];go_wp2_with fail;refine(HCP.out X1 KX1.out).mono ?_;rintro e X2 ⟨uX2,rfl,hoX2,bX2⟩;obtain⟨⟨xX2,nX2,cX2⟩,rfl, -⟩:=iO hoX2.1;have KX2:=w9bt KX1 bX2;have OBX2:Hid (dT (B+2) X2 (af xX2 nX2 cX2) ps):=hoX2.weak (by have:=HS.out;have:=KX1.out.size;omega);have OAX2:=ae (OAX1.out.below bX2);clear hoX2 bX2;simp only[aK];go_wp2_with fail;refine aN ⟨⟨X2,KX2.out⟩,rfl⟩ ?_;repeat(rw[bu];simp only[aB,aC];go_big_quiet_step (fail);refine aV ?_)
    rw[bt];rw[aT];simp only[aB,aC];obtain⟨E,hE⟩:=w9nm X2.heap.size;obtain⟨X3,hX3⟩:=w9nm (X2.alloc (an #[af none 0 0,af none 0 0,ab ac 0,ab ac 0,ab ac 0,af none 0 0] 47));have bX3:ag X2.heap.size X2 X3:=by rw[←hX3];exact aH _ _
    have KX3:=w9bt KX2 bX3;have EX3:Hid (aq X3 E 47 (aW dH)):=by show aq _ _ _ _;rw[←hX3,←hE];exact aq.new _ _ _
    have HEB:Hid (B+2<=E):=by show _<=_;rw[←hE,←HS.out];exact KX2.out.size
    have OAX3:=ae (OAX2.out.below bX3);have OBX3:=ae (OBX2.out.below bX3);go_wp2_with fail;try rw[hX3]
    try rw[hE]
    clear hX3 bX3 hE;refine aN ⟨⟨X3,KX3.out⟩,rfl⟩ ?_;rw[cW];simp only[bR,bQ];obtain⟨y3,ST,hy3,hg3⟩:=lq ⟨(xX1,nX1,cX1),(none,0,0),nx,kd,id,(xX2,nX2,cX2)⟩ EX3.out rfl;have HI:Hid (CpI B E GL w ⟨(xX1,nX1,cX1),(none,0,0),nx,kd,id,(xX2,nX2,cX2)⟩ d [] ps y3):=by
     have h1:=HS.out;have h2:=KX3.out.size;have h3:=HEB.out;have b:=HBW.out.trans (KX3.out.mono (by omega));exact⟨(HG0.out.below KX3.out).grown hg3 (fun e=>by cases e;omega),(HR.out.below KX3.out).grown hg3 (fun e=>by cases e;omega),hy3,World.ownsRow.kept OAX3.out hg3 (aD (fz OAX3.out EX3.out (by decide))),fD.nil _ _,⟨OBX3.out.1.kept hg3 (aD (fz OBX3.out.1 EX3.out (by decide))),OBX3.out.2⟩,b.grown hg3 (by omega) (fun j e=>by cases e;omega),h3,bq EX3.out.lt hg3.size⟩
    simp only[bI,aW,aK]at ST;clear hy3 hg3;go_wp2_with fail
    go_meet
    exact⟨E,_,_,_,_,_,_,rfl,HI⟩
   ·simp only[aB,aC];obtain⟨E,hE⟩:=w9nm X1.heap.size;obtain⟨X4,hX4⟩:=w9nm (X1.alloc (an #[af none 0 0,af none 0 0,ab ac 0,ab ac 0,ab ac 0,af none 0 0] 47));have bX4:ag X1.heap.size X1 X4:=by rw[←hX4];exact aH _ _
    have KX4:=w9bt KX1 bX4;have EX4:Hid (aq X4 E 47 (aW dH)):=by show aq _ _ _ _;rw[←hX4,←hE];exact aq.new _ _ _
    have HEB:Hid (B+2<=E):=by show _<=_;rw[←hE,←HS.out];exact KX1.out.size
    have OAX4:=ae (OAX1.out.below bX4);go_wp2_with fail;try rw[hX4]
    try rw[hE]
    clear hX4 bX4 hE;refine aN ⟨⟨X4,KX4.out⟩,rfl⟩ ?_;rw[aT];simp only[aB,aC];go_wp2_with fail;refine(HCP.out X4 KX4.out).mono ?_;rintro e X5 ⟨uX5,rfl,hoX5,bX5⟩;obtain⟨⟨xX5,nX5,cX5⟩,rfl, -⟩:=iO hoX5.1;have KX5:=w9bt KX4 bX5;have OBX5:Hid (dT (B+2) X5 (af xX5 nX5 cX5) ps):=hoX5.weak (by have:=HS.out;have:=KX4.out.size;omega);have OAX5:=ae (OAX4.out.below bX5);have EX5:=ae (EX4.out.below bX5);clear hoX5 bX5;simp only[aK];go_wp2_with fail;refine aN ⟨⟨X5,KX5.out⟩,rfl⟩ ?_;repeat(rw[bu];simp only[aB,aC];go_big_quiet_step (fail);refine aV ?_)
    rw[bt];rw[cW];simp only[bR,bQ];obtain⟨y3,ST,hy3,hg3⟩:=lq ⟨(xX1,nX1,cX1),(none,0,0),nx,kd,id,(xX5,nX5,cX5)⟩ EX5.out rfl;have HI:Hid (CpI B E GL w ⟨(xX1,nX1,cX1),(none,0,0),nx,kd,id,(xX5,nX5,cX5)⟩ d [] ps y3):=by
     have h1:=HS.out;have h2:=KX5.out.size;have h3:=HEB.out;have b:=HBW.out.trans (KX5.out.mono (by omega));exact⟨(HG0.out.below KX5.out).grown hg3 (fun e=>by cases e;omega),(HR.out.below KX5.out).grown hg3 (fun e=>by cases e;omega),hy3,World.ownsRow.kept OAX5.out hg3 (aD (fz OAX5.out EX5.out (by decide))),fD.nil _ _,⟨OBX5.out.1.kept hg3 (aD (fz OBX5.out.1 EX5.out (by decide))),OBX5.out.2⟩,b.grown hg3 (by omega) (fun j e=>by cases e;omega),h3,bq EX5.out.lt hg3.size⟩
    simp only[bI,aW,aK]at ST;clear hy3 hg3;go_wp2_with fail
    go_meet
    exact⟨E,_,_,_,_,_,_,rfl,HI⟩
  ·simp only[aB,aC];obtain⟨E,hE⟩:=w9nm X0.heap.size;obtain⟨X6,hX6⟩:=w9nm (X0.alloc (an #[af none 0 0,af none 0 0,ab ac 0,ab ac 0,ab ac 0,af none 0 0] 47));have bX6:ag X0.heap.size X0 X6:=by rw[←hX6];exact aH _ _
   have KX6:=w9bt KW bX6;have EX6:Hid (aq X6 E 47 (aW dH)):=by show aq _ _ _ _;rw[←hX6,←hE];exact aq.new _ _ _
   have HEB:Hid (B+2<=E):=by show _<=_;rw[←hE,←HS.out];exact KW.out.size
   go_wp2_with fail;try rw[hX6]
   try rw[hE]
   clear hX6 bX6 hE;refine aN ⟨⟨X6,KX6.out⟩,rfl⟩ ?_;rw[aT];simp only[aB,aC];go_wp2_with fail;refine(HCI.out X6 KX6.out).mono ?_;rintro e X7 ⟨uX7,rfl,hoX7,bX7⟩;obtain⟨⟨xX7,nX7,cX7⟩,rfl, -⟩:=iO hoX7;have KX7:=w9bt KX6 bX7;have OAX7:Hid (bT (B+2) X7 (af xX7 nX7 cX7) d):=iN hoX7 (by have:=HS.out;have:=KX6.out.size;omega);have EX7:=ae (EX6.out.below bX7);clear hoX7 bX7;simp only[aK];go_wp2_with fail;refine aN ⟨⟨X7,KX7.out⟩,rfl⟩ ?_;rw[aT];simp only[aB,aC];go_wp2_with fail;refine(HCP.out X7 KX7.out).mono ?_;rintro e X8 ⟨uX8,rfl,hoX8,bX8⟩;obtain⟨⟨xX8,nX8,cX8⟩,rfl, -⟩:=iO hoX8.1;have KX8:=w9bt KX7 bX8;have OBX8:Hid (dT (B+2) X8 (af xX8 nX8 cX8) ps):=hoX8.weak (by have:=HS.out;have:=KX7.out.size;omega);have OAX8:=ae (OAX7.out.below bX8);have EX8:=ae (EX7.out.below bX8);clear hoX8 bX8;simp only[aK];go_wp2_with fail;refine aN ⟨⟨X8,KX8.out⟩,rfl⟩ ?_;repeat(rw[bu];simp only[aB,aC];go_big_quiet_step (fail);refine aV ?_)
   rw[bt];rw[cW];simp only[bR,bQ];obtain⟨y3,ST,hy3,hg3⟩:=lq ⟨(xX7,nX7,cX7),(none,0,0),nx,kd,id,(xX8,nX8,cX8)⟩ EX8.out rfl;have HI:Hid (CpI B E GL w ⟨(xX7,nX7,cX7),(none,0,0),nx,kd,id,(xX8,nX8,cX8)⟩ d [] ps y3):=by
    have h1:=HS.out;have h2:=KX8.out.size;have h3:=HEB.out;have b:=HBW.out.trans (KX8.out.mono (by omega));exact⟨(HG0.out.below KX8.out).grown hg3 (fun e=>by cases e;omega),(HR.out.below KX8.out).grown hg3 (fun e=>by cases e;omega),hy3,World.ownsRow.kept OAX8.out hg3 (aD (fz OAX8.out EX8.out (by decide))),fD.nil _ _,⟨OBX8.out.1.kept hg3 (aD (fz OBX8.out.1 EX8.out (by decide))),OBX8.out.2⟩,b.grown hg3 (by omega) (fun j e=>by cases e;omega),h3,bq EX8.out.lt hg3.size⟩
   simp only[bI,aW,aK]at ST;clear hy3 hg3;go_wp2_with fail
   go_meet
   exact⟨E,_,_,_,_,_,_,rfl,HI⟩
 case rest=>
  obtain⟨E,x,y,n,c,m,e,rfl,HI⟩:=hcut;have k1:=HG1.out _ HI.out.g0;clear c0 c2 c3 c4 c5 KW HCI HCP;go_wp2_with fail;clear k1;go_loopw [26] (fun iv wr=>∃(k:Nat) (sx:Option aF) (sn sc:Nat),k<=qsn/\iv=ab ac (k:Int)/\Hid (CpI B E GL w ⟨(x,n,c),(sx,sn,sc),nx,kd,id,(y,m,e)⟩ d (l.take k) ps wr)) (fun iv _=>qsn - (aS iv).toNat)
  case atStart=>exact⟨0,none,0,0,bc _,rfl,by rw[List.take_zero];exact HI⟩
  case round=>
   clear HI;obtain⟨k,sx,sn,sc,hk,rfl,HI⟩:=hrel;by_cases hlt:k<qsn
   ·have q1:(k:Int)< (qsn:Int):=by omega
    have HLT:=ae hlt;obtain⟨s,hs⟩:∃s,l[k]? =some s:=⟨_,aZ (by rw[HSL.out];exact hlt)⟩;have hls:=HK.out.2 s (dp hs);have HTK:=ae (je hs);obtain⟨rr,hS⟩:=HSN.out;have bw:ag w.heap.size w wr:=by rw[HSZ.out];exact HI.out.be
    obtain⟨b,off,qv,rfl,hb,hrr,hq,e0,e1,e2⟩:=(hS.below bw).at hs;have LD:=oM e0 e1 e2;have ST:=mS wr qv;obtain⟨Y,hY⟩:=w9nm (wr.alloc (an (cX qv).toArray 90));have bY:ag wr.heap.size wr Y:=by rw[←hY];exact aH _ _
    have rY:aq Y wr.heap.size 90 (cX qv):=by rw[←hY];exact aq.new _ _ _
    rw[hY]at ST;obtain⟨F,hF⟩:=w9nm wr.heap.size;rw[hF]at ST rY;have RY:=ae rY;have HLF:Hid (∀j,(aK (sx,sn,sc)).ownBlock=some j->j<F):=fun j e=>by rw[←hF];exact(HI.out.ss.base j e).2
    have IY:=ae (HI.out.below bY);have HQ:=ae (hq.below bY);obtain⟨i,⟨x1,n1,c1⟩,⟨x2,n2,c2⟩⟩:=qv;have HC1:Hid (∀z:ah,ag Y.heap.size Y z->ap aj 135 #[af x1 n1 c1] z fun e w'=>∃v',e=ao v'/\w'.ownsRow z.heap.size 5 1 v' s.ch.length (s.ch.map (Value.int ay))/\ag z.heap.size z w'):=fun z hz=>yO _ s.ch z (HQ.out.ch.below hz) (by omega);have HC2:Hid (∀z:ah,ag Y.heap.size Y z->ap aj 187 #[af x2 n2 c2] z fun e w'=>∃u,e=ao u/\dT z.heap.size w' u s.tb/\ag z.heap.size z w'):=fun z hz=>yA (HQ.out.tb.below hz) (by omega);have KD:Hid (ag Y.heap.size Y Y.drew):=(aI _ Y).drew;have HRow:Hid (∀z:ah,ag Y.heap.size Y z->aq z E 47 (aW ⟨(x,n,c),(sx,sn,sc),nx,kd,id,(y,m,e)⟩)/\aq z F 90 (cX (i,(x1,n1,c1),(x2,n2,c2)))):=fun z hz=>⟨IY.out.ge.below hz,RY.out.below hz⟩
    haveI:Nonempty (pI E F (aW ⟨(x,n,c),(sx,sn,sc),nx,kd,id,(y,m,e)⟩) (cX (i,(x1,n1,c1),(x2,n2,c2)))):=⟨⟨Y.drew,HRow.out _ KD.out⟩⟩
    have d0:∀z:pI E F (aW ⟨(x,n,c),(sx,sn,sc),nx,kd,id,(y,m,e)⟩) (cX (i,(x1,n1,c1),(x2,n2,c2))),z.1.cell? ⟨E,1,none⟩=some (af sx sn sc):=fun z=>z.2.1.cell 1 _ rfl;have d1:∀z:pI E F (aW ⟨(x,n,c),(sx,sn,sc),nx,kd,id,(y,m,e)⟩) (cX (i,(x1,n1,c1),(x2,n2,c2))),z.1.cell? ⟨F,0,none⟩=some (ab ac i):=fun z=>z.2.2.cell 0 _ rfl;have d2:∀z:pI E F (aW ⟨(x,n,c),(sx,sn,sc),nx,kd,id,(y,m,e)⟩) (cX (i,(x1,n1,c1),(x2,n2,c2))),z.1.cell? ⟨F,1,none⟩=some (af x1 n1 c1):=fun z=>z.2.2.cell 1 _ rfl;have d3:∀z:pI E F (aW ⟨(x,n,c),(sx,sn,sc),nx,kd,id,(y,m,e)⟩) (cX (i,(x1,n1,c1),(x2,n2,c2))),z.1.cell? ⟨F,2,none⟩=some (af x2 n2 c2):=fun z=>z.2.2.cell 2 _ rfl;simp only[dZ,aK]at ST LD;clear hs hls hS bw hb hrr hq e0 e1 e2 hlt bY rY hY HI RY;go_wp2_with fail;refine du (fun x'=>∃z:pI E F (aW ⟨(x,n,c),(sx,sn,sc),nx,kd,id,(y,m,e)⟩) (cX (i,(x1,n1,c1),(x2,n2,c2))),x'=z.1) 14 (.takes [0,1,2,3,4,5,7,8] (.one 6 (.one 9 (.takes [10] (.one 11 (.one 12 (.takes [13] .leaf))))))) hmx (by kernel_rfl) (by intro c x v a w h;cases x<;>exact h) ⟨⟨Y.drew,HRow.out _ KD.out⟩,rfl⟩ ?_;repeat(rw[bu];simp only[aB,aC];go_big_quiet_step (fail);refine aV ?_)
    clear d0 d1 d2 d3 ST LD;rw[bt,aT];simp only[aB,aC];go_wp2_with fail;refine(HC1.out _ KD.out).mono ?_;rintro e' y1 ⟨v1,rfl,ho1,hb1⟩;have B1:=w9bt KD hb1;obtain⟨⟨p1,p2,p3⟩,rfl, -⟩:=iO ho1;have O1:Hid (y1.ownsRow (B+2) 5 1 (af p1 p2 p3) s.ch.length (s.ch.map (Value.int ay))):=iN ho1 (by have:=KD.out.size;have:=IY.out.n3;have:=IY.out.n4;omega);clear ho1 hb1;simp only[aK];go_wp2_with fail;refine aN ⟨⟨y1,HRow.out _ B1.out⟩,rfl⟩ ?_;rw[aT];simp only[aB,aC];go_wp2_with fail;refine(HC2.out _ B1.out).mono ?_;rintro e' y2 ⟨v2,rfl,ho2,hb2⟩;have B2:=w9bt B1 hb2;obtain⟨⟨r1,r2,r3⟩,rfl, -⟩:=iO ho2.1;have F2:Hid (SnF (B+2) y2 (i,(p1,p2,p3),(r1,r2,r3)) s):=⟨HQ.out.id,dQ O1.out hb2,ho2.weak (by have:=B1.out.size;have:=IY.out.n3;have:=IY.out.n4;omega),HQ.out.ok⟩;clear ho2 hb2 O1;simp only[aK];go_wp2_with fail;refine aN ⟨⟨y2,HRow.out _ B2.out⟩,rfl⟩ ?_;repeat(rw[bu];simp only[aB,aC];go_big_quiet_step (fail);refine aV ?_)
    have I2:=ae (IY.out.below B2.out);have S1:=yT y2 (i,(p1,p2,p3),(r1,r2,r3));obtain⟨v3,y3,hA,O3,hg3⟩:=yU I2.out.ss (by have:=I2.out.n3;have:=I2.out.n4;omega) F2.out (by rw[dj];have:=HSL.out;omega);rw[←HTK.out]at O3;obtain⟨⟨t1,t2,t3⟩,rfl, -⟩:=O3.isSl;obtain⟨Y2,hY2⟩:=w9nm (y2.alloc (an (cX (i,(p1,p2,p3),(r1,r2,r3))).toArray 90));have bY2:ag y2.heap.size y2 Y2:=by rw[←hY2];exact aH _ _
    have B3:=w9bt B2 bY2;rw[hY2]at hA S1;have IP:=ae (I2.out.put hg3 O3);have hEg:aq y3 E 47 (aW ⟨(x,n,c),(sx,sn,sc),nx,kd,id,(y,m,e)⟩):=I2.out.ge.grown hg3 (I2.out.ss.ne I2.out.ge (by decide));have hFg:aq y3 F 90 (cX (i,(x1,n1,c1),(x2,n2,c2))):=(HRow.out _ B2.out).2.grown hg3 (fun h=>iJ _ (HLF.out _ h));have KY:Hid (aq y3 E 47 (aW ⟨(x,n,c),(sx,sn,sc),nx,kd,id,(y,m,e)⟩)/\aq y3 F 90 (cX (i,(x1,n1,c1),(x2,n2,c2)))):=⟨hEg,hFg⟩;have f0:=hEg.frozen 1;have e0:=hEg.cell 1 _ rfl;have HA:=ae hA;have HS1:=ae S1;simp only[dZ,aK]at HA HS1 e0 IP;clear hA S1 hY2 O3 hg3 hEg hFg bY2 I2;rw[bt,aT];simp only[aB,aC];go_wp2_with ((with_reducible refine iu ?_);refine dR 42 1 #[(0,.tmp 40)] rfl rfl [(0,_)] _ rfl HS1.out ?_);refine aN ⟨⟨Y2,HRow.out _ B3.out⟩,rfl⟩ ?_;rw[aT];simp only[aB,aC];go_wp2_with (at_builtin;refine wpList_append_run (.tmp 31) (.tmp 41) 42 rfl rfl _ _ _ rfl rfl (HA.out _) ?_);refine aN ⟨⟨y3,KY.out⟩,rfl⟩ ?_;repeat(rw[bu];simp only[aB,aC];go_big_quiet_step (fail);refine aV ?_)
    rw[bt,cW];simp only[bR,bQ];go_wp2_with fail;exact⟨⟨k+1,t1,t2,t3,HLT.out,by simp,IP⟩,by have:=HLT.out;simp[aS];omega⟩
   ·obtain rfl:k=qsn:=by omega
    have HE:Hid (l.take k=l):=de (by rw[HSL.out];exact aG _);rw[HE.out]at HI;obtain⟨z,hST,hRz,hgz⟩:=lq ⟨(x,n,c),(sx,sn,sc),nx,kd,id,(y,m,e)⟩ HI.out.g1 rfl;have LS:=fg HI.out.ge;have HLD:=ae (fg hRz);have FO:Hid (StO B z ⟨(x,n,c),(sx,sn,sc),nx,kd,id,(y,m,e)⟩ d l ps):=(StO.low (N:=B+2) ⟨HI.out.dd,HI.out.ss,HI.out.pr⟩ hgz (fun j e=>by cases e;omega)).weak (by omega);have FB:Hid (ag B w z):=HI.out.be.grown hgz (by have:=HI.out.n3;have:=HI.out.n4;omega) (fun j e=>by cases e;omega);simp only[bI,aW,aK]at hST LS HLD ⊢;clear hRz hgz hlt;go_wp2_with fail;refine bo (ev rfl rfl HLD.out) rfl ?_;rw[HSZ.out];exact⟨⟨(x,n,c),(sx,sn,sc),nx,kd,id,(y,m,e)⟩,rfl,rfl,rfl,rfl,FO.out,FB.out⟩
end
section
variable {P SB HB cap:Nat} {m:WM} {w:ah} {f:Nat->Prop}
def nh (s:WSlot):Int:=if s.d then s.b else -1
theorem Qu {m:WM} {k:Nat} (h:k<m.size):(et m).take (k+1)=(et m).take k++ [nh (m.slot k)]:=by
 have hl:k< (et m).length:=by unfold et;simpa using h
 rw[List.take_succ_eq_append_getElem hl];have e:(et m)[k]? =some (nh (m.slot k)):=by
  unfold et;rw[dY,mj h]
  rfl
 rw[aZ hl]at e;rw[Option.some.inj e]
end
section
variable {P SB HB cap:Nat} {m:WM} {w:ah} {f:Nat->Prop}
def iE (m:WM) (k:Nat):List ak:=((et m).take k++bg (m.size - k) 0).map (Value.int ac)
theorem Qv (m:WM):iE m 0=bg m.size (ab ac 0):=by unfold iE;simp
theorem re (m:WM):(et m).length=m.size:=by unfold et;simp
theorem Qw (m:WM):iE m m.size=(et m).map (Value.int ac):=by
 unfold iE;rw[Nat.sub_self,de (by rw[re];exact aG _)];simp
theorem Qx {m:WM} {k:Nat} (h:k<m.size):(iE m k).set k (ab ac (nh (m.slot k)))=iE m (k+1):=by
 unfold iE;rw[Qu h];obtain⟨n,hn⟩:∃n,m.size - k=n+1:=⟨m.size - k - 1,by omega⟩;rw[hn,show m.size - (k+1)=n by omega,List.replicate_succ];have hl:((et m).take k).length=k:=by rw[dj,re];omega
 simp only[ec,List.map_cons,kb,List.map_nil,cC,cy];rw[List.set_append_right _ _ (by rw[dV,hl];exact aG _),dV,hl,Nat.sub_self]
 rfl
theorem eZ.dirty (h:eZ P SB HB cap m w f) (ho:WmOk m):
  ap aj 44 #[am (some ⟨P,0,none⟩)] w fun e w'=>∃u,e=ao u/\bT w.heap.size w' u (et m)/\ag w.heap.size w w':=by
 have hn8:=ho.size32;have KK:Hid (∀x:ah,ag w.heap.size w x->eZ P SB HB cap m x f):=fun x hx=>(eZ.isRes P SB HB cap m).below h hx;have KH:Hid (∀x:ah,ag w.heap.size w x->x.cell? ⟨P,1,none⟩=some (af (some ⟨SB,0,none⟩) m.size cap)):=fun x hx=>(KK.out x hx).head.2.1;have KS:Hid (∀x:ah,ag w.heap.size w x->∀r,r<m.size->x.cell? ⟨SB,r*3,none⟩=some (ab ac (m.slot r).b)/\x.cell? ⟨SB,r*3+1,none⟩=some (.bool (m.slot r).d)/\x.cell? ⟨SB,r*3+2,none⟩=some (.bool (m.slot r).k)):=fun x hx r hr=>(KK.out x hx).slot hr;obtain⟨x0,mk,r0,g0⟩:=xP w m.size (by omega);have HMK:=ae mk;have HR0:Hid (aq x0 w.heap.size 3 (iE m 0)):=by show aq _ _ _ _;rw[Qv];exact r0
 have HB0:w9h w x0:=(aI _ w).grown g0 (aG _) (fun j e=>by cases e);have HT:Hid (∀k,k<m.size->(iE m k).set k (ab ac (nh (m.slot k)))=iE m (k+1)):=fun k hk=>Qx hk;have HA:Hid (iE m m.size=(et m).map (Value.int ac)):=Qw m;have HDL:Hid (∀k,k<=m.size->(iE m k).length=m.size):=fun k hk=>by
  show(iE m k).length=m.size;unfold iE;rw[dV,cE,dj,re,iq];omega
 have HDM:Hid ((et m).length=m.size):=re m;obtain⟨nn,hnn⟩:=w9nm m.size;rw[hnn]at hn8 KH KS HT HA HMK HDL HDM;obtain⟨B,hB⟩:=w9nm w.heap.size;unfold w9h w9b at HB0;rw[hB]at KK KH KS HR0 HB0 HMK ⊢;have HSZ:=ae hB;clear h ho hnn mk r0 g0 hB;have c0:=KH.out w (by rw[←HSZ.out];exact aI _ w);have c1:=KH.out x0 HB0.out;go_enter func44,ntmps44;go_wp2_with ((with_reducible refine pV ?_);refine oL _ _ _ rfl rfl _ _ _ rfl rfl HMK.out ?_);clear c0 c1;go_loopw [19] (fun iv wr=>∃k:Nat,k<=nn/\iv=ab ac (k:Int)/\Hid (aq wr B 3 (iE m k))/\Hid (ag B w wr)) (fun iv _=>nn - (aS iv).toNat)
 case atStart=>exact⟨0,bc _,rfl,HR0,HB0⟩
 case round=>
  obtain⟨k,hk,rfl,HU,HB⟩:=hrel;by_cases hlt:k<nn
  ·have g1:(k:Int)< (nn:Int):=by omega
   have HLT:=ae hlt;obtain⟨c1,c2,c3⟩:=KS.out _ HB.out k hlt;obtain⟨C,hC⟩:=w9nm wr.heap.size;obtain⟨X,hX⟩:=w9nm (wr.alloc (an #[ab ac (m.slot k).b,.bool (m.slot k).d,.bool (m.slot k).k] 162));have hWX:ag wr.heap.size wr X:=by rw[←hX];exact aH _ _
   have hBw:B<=wr.heap.size:=by rw[←HSZ.out];exact HB.out.size
   have hlB:B<wr.heap.size:=HU.out.lt;have RU:aq X B 3 (iE m k):=HU.out.below hWX;have RC:aq X C 162 [ab ac (m.slot k).b,.bool (m.slot k).d,.bool (m.slot k).k]:=by rw[←hX,←hC];exact aq.new _ _ _
   have HBX:Hid (ag B w X):=HB.out.trans (hWX.mono hBw);have hne:B≠C:=by omega
   have d0:∃z,X.cell? ⟨B,k,none⟩=some z:=by
    have hl:=HDL.out k hk;exact⟨_,RU.cell k _ (aZ (by rw[hl];exact hlt))⟩
   obtain⟨z,d0⟩:=d0;have d1:=RU.frozen k;have hY:=RU.set k (ab ac (-1));have RCY:aq (X.setCell ⟨B,k,none⟩ (ab ac (-1))) C 162 [ab ac (m.slot k).b,.bool (m.slot k).d,.bool (m.slot k).k]:=(eG _ _ _ C (fun e=>hne e.symm)).trans RC;have e0:=RCY.cell 0 _ rfl;have e1:=RCY.cell 1 _ rfl;have e2:∃z,(X.setCell ⟨B,k,none⟩ (ab ac (-1))).cell? ⟨B,k,none⟩=some z:=by
    have hl:=HDL.out k hk;exact⟨_,hY.cell k _ (aZ (by rw[List.length_set,hl];exact hlt))⟩
   obtain⟨z2,e2⟩:=e2;have e3:=hY.frozen k;have HBY:Hid (ag B w (X.setCell ⟨B,k,none⟩ (ab ac (-1)))):=HBX.out.setCell (p:=⟨B,k,none⟩) (aG _) _;have HLT:=ae hlt;have hst:=HT.out k hlt;by_cases hd:(m.slot k).d=true
   ·have hx:nh (m.slot k)=(m.slot k).b:=by unfold nh;rw[if_pos hd]
    have HZ:Hid (aq ((X.setCell ⟨B,k,none⟩ (ab ac (-1))).setCell ⟨B,k,none⟩ (ab ac (m.slot k).b)) B 3 (iE m (k+1))):=by
     have:=hY.set k (ab ac (m.slot k).b);rw[List.set_set,←hx,hst]at this;rw[←hx];exact this
    have HBZ:Hid (ag B w ((X.setCell ⟨B,k,none⟩ (ab ac (-1))).setCell ⟨B,k,none⟩ (ab ac (m.slot k).b))):=HBY.out.setCell (p:=⟨B,k,none⟩) (aG _) _;rw[hd]at c2 e1 hX;clear hx hd hst hY RCY RC RU hWX hBw hlB hne hlt HB HU;go_wp2_with fail;exact⟨⟨k+1,HLT.out,by simp,HZ,HBZ⟩,by have:=HLT.out;simp[aS];omega⟩
   ·have hd2:(m.slot k).d=false:=by simpa using hd
    have hx:nh (m.slot k)= -1:=by unfold nh;rw[if_neg hd]
    have HZ:Hid (aq (X.setCell ⟨B,k,none⟩ (ab ac (-1))) B 3 (iE m (k+1))):=by
     have:=hY;rw[←hx,hst]at this;rw[←hx];exact this
    rw[hd2]at c2 e1 hX;clear hx hd hd2 hst hY RCY RC RU hWX hBw hlB hne hlt HB HU;go_wp2_with fail;exact⟨⟨k+1,HLT.out,by simp,HZ,HBY⟩,by have:=HLT.out;simp[aS];omega⟩
  ·obtain rfl:k=nn:=by omega
   have HI:Hid (bT B wr (af (some ⟨B,0,none⟩) k k) (et m)):=by
    show World.ownsRow _ _ _ _ _ _ _;have hu:=HU.out;rw[HA.out]at hu;have hl:=HDM.out;refine⟨by rw[dV];simp,aD ⟨B,k,((et m).map (Value.int ac)).toArray,by rw[hl],aG _,hu,by omega,by unfold aY;omega,by simp[hl], ?_⟩⟩;rw[hl,Nat.mul_one,de (by simp[hl])]
   clear HU;go_wp2_with fail;go_ret;exact⟨_,rfl,HI.out,HB.out⟩
end
section
attribute [-simp] isAgg51 zeroValue51 isAgg23 zeroValue23 isAgg47 zeroValue47 isAgg156 zeroValue156
attribute [-go_sem] aE aL cS
attribute [local go_sem] kr kt hU ia bC bD en qo
theorem EP (q:PS):∀v ∈ aW q,v.oneCell'=true:=by
 intro v hv;simp only[aW,aK,dy,lM,or_false]at hv;rcases hv with rfl | rfl | rfl | rfl | rfl | rfl<;>rfl
theorem xR {x:ah} {B:Nat} {old:List ak} (q:PS) (h:aq x B 47 old) (ho:old.length=6):
  ∃y,(aL 47 ⟨B,0,none⟩ (bI q)).run aj x=.ok () y/\aq y B 47 (aW q)/\x.grownBy y (some B):=by
 refine⟨_,run_storeVar_row x B _ _ old.toArray (aW q).toArray h (by simpa [aW]using vm) (by simp[ho,aW]) (ky (EP q)),setRow_heap x B _ _ _ _ h, ?_⟩;exact⟨rfl,rfl,rfl,by rw[setRow_size];exact aG _,fun k _ hk=>setRow_other x B k _ (fun e=>hk (by rw[e]))⟩
set_option maxRecDepth 100000 in
theorem Qy {x:ah} {b:CB} {q:PS} (hr:aq x b.C 156 (b.hd q)):(aE 47 ⟨b.C,3,none⟩).run aj x=.ok (bI q) x:=
 jF x b.C 3 _ (aW q) _ (fun j v hj=>by
  have hl:j<6:=(bZ.1 hj).1;have:=hr.range (3+j) v (by
   show((b.hd q).drop 3 |> fun _=>b.hd q)[3+j]? =some v;have e:b.hd q= [am (some ⟨b.rb,0,none⟩),am (some ⟨b.mb,0,none⟩),am (some ⟨b.P,0,none⟩)]++aW q:=rfl;show(b.hd q)[3+j]? =some v;rw[e,fv (by simp)]
   simpa using hj)
  rwa [dP]at this) Tryz.underlying47 rfl (by kernel_rfl)
theorem Qz {x:ah} {b:CB} {q:PS} (q':PS) (hr:aq x b.C 156 (b.hd q)):
  ∃y,(aL 47 ⟨b.C,3,none⟩ (bI q')).run aj x=.ok () y/\aq y b.C 156 (b.hd q')/\x.grownBy y (some b.C):=by
 have hs:(aL 47 ⟨b.C,3,none⟩ (bI q')).run aj x=(storeCells ⟨b.C,3,none⟩ (aW q') 0).run aj x:=by kernel_rfl
 have hst:=run_storeCells_at aj b.C 3 156 (aW q') 0 (b.hd q).toArray x hr (by show 3+0+6<=9;omega) (EP q');refine⟨_,hs.trans hst, ?_,⟨rfl,rfl,rfl,by rw[setRow_size];exact aG _,fun k _ hk=>setRow_other x b.C k _ (fun e=>hk (by rw[e]))⟩⟩;have:=setRow_heap x b.C (b.hd q).toArray ((b.hd q).toArray.toList.take (3+0)++aW q'++(b.hd q).toArray.toList.drop (3+0+(aW q').length)).toArray 156 (0,0) hr;exact this
theorem gU.oN {N:Nat} {q:PS} {s:ST} {w:ah} {f:Nat->Prop} (h:gU q s w f) (hf:∀k,f k->N<=k):StO N w q s.d s.sn s.pr:=by
 obtain⟨⟨r,h⟩,_⟩:=h;exact⟨qB h.dd fun k e=>hf k (h.fd k e),⟨r,h.len,qB h.sn fun k e=>hf k (h.fs k e),fun j x t a b=>by
  have:=h.ss j x t a b;exact⟨this.id,qB this.ch fun k e=>hf k (h.fc j x a k (aA e)),⟨qB this.tb.1 fun k e=>hf k (h.fc j x a k (aD e)),this.tb.2⟩,this.ok⟩⟩,⟨qB h.pr.1 fun k e=>hf k (h.fp k e),h.pr.2⟩⟩
theorem StO.stay {N:Nat} {q:PS} {d:List Int} {l:List SN} {ps:List (Int×Int)} {w w':ah} (h:StO N w q d l ps) (hk:∀k,N<=k->k<w.heap.size->w'.heap[k]? =w.heap[k]?):StO N w' q d l ps:=by
 have:=gU.made (s:=⟨d,l,q.nx,q.kd,q.id,ps⟩) h rfl rfl rfl;refine((gU.isRes q _).out this fun k hf=> ?_).oN (fun k hf=>hf.1);obtain⟨h1,o,h2,_⟩:=hf;exact hk k h1 (bL.1 h2).1
section
theorem ER {b:CB} {M:MS} {m:WM} {s:ST} {w:ah} {f:Nat->Prop} (h:ip b M m s w f) (hm:WmOk m) (hK:jd 1000 s.sn) (hn:s.d.length<=100000) (hp:s.pr.length<=100000):
  ap aj 42 #[b.v] w fun e w'=>∃q,e=ao (bI q)/\q.nx=s.nx/\q.kd=s.kd/\q.id=s.id/\StO w.heap.size w' q (et m) s.sn s.pr/\ag w.heap.size w w':=by
 obtain⟨W,hW⟩:=w9nm (w.alloc (an #[af none 0 0,af none 0 0,ab ac 0,ab ac 0,ab ac 0,af none 0 0] 47));have hB:ag w.heap.size w W:=by rw[←hW];exact aH w _
 have r0:aq W w.heap.size 47 (aW dH):=by rw[←hW];exact aq.new w _ _
 have hW1:W.heap.size=w.heap.size+1:=by rw[←hW,bO]
 have h:=h.below hB;obtain⟨q,hr,g,hq⟩:=h.hd;obtain⟨gm,hmap⟩:=h.map;have LS:=Qy hr;have c0:W.cell? ⟨b.C,2,none⟩=some (am (some ⟨b.P,0,none⟩)):=hr.cell 2 _ rfl;have HC:Hid (b.C<W.heap.size):=hr.lt;have HCP:=ae (EO hq.o.sl hq.o.is hK hn hp);obtain⟨n1,n2,n3⟩:=hq.num;rw[n1,n2,n3]at HCP;have HMP:=ae hmap;have HM:=ae hm;have HB:=ae hB;have HR0:=ae r0;have HZ:=ae hW1;obtain⟨B,hBB⟩:=w9nm w.heap.size;have HSZ:=ae hBB;rw[hBB]at HR0;clear h hr hq hmap hm hB r0 hW1 hK hn hp n1 n2 n3;unfold CB.v;go_enter func42,ntmps42;go_wp2_with fail;refine HCP.out.mono ?_;rintro e x1 ⟨q1,rfl,e1,e2,e3,hO,hb1⟩;have ST1:=se x1 q1;obtain⟨V,hV⟩:=w9nm (x1.alloc (an (aW q1).toArray 47));have bV:ag x1.heap.size x1 V:=by rw[←hV];exact aH _ _
 have rV:aq V x1.heap.size 47 (aW q1):=by rw[←hV];exact aq.new _ _ _
 have zV:V.heap.size=x1.heap.size+1:=by rw[←hV,bO]
 rw[hV]at ST1;obtain⟨D,hD⟩:=w9nm x1.heap.size;have HD:=ae hD;have HD1:Hid (W.heap.size<=D):=by show _<=_;rw[←hD];exact hb1.size
 rw[hD]at ST1 rV;have K1:w9h W V:=hb1.trans (bV.mono hb1.size);have HN:=ae (And.intro e1 (And.intro e2 e3));have HO:=ae hO;have HBV:=ae bV;have HRV:=ae rV;have HZV:=ae zV;have HDI:=ae (eZ.dirty ((eZ.isRes _ _ _ _ _).below HMP.out K1.out) HM.out);have c1:V.cell? ⟨b.C,2,none⟩=some (am (some ⟨b.P,0,none⟩)):=(K1.out.cell (p:=⟨b.C,2,none⟩) HC.out).trans c0;clear hV hO hb1 bV rV zV e1 e2 e3 LS c0 HCP;go_wp2_with fail;refine HDI.out.mono ?_;rintro e x3 ⟨u,rfl,hu,hb3⟩;obtain⟨⟨ua,un,uc⟩,rfl⟩:=hu.isSl;have HU:=ae hu;have K3:=w9bt K1 hb3;have HB3:=ae hb3;have r3:=HRV.out.below hb3;have d3:=r3.cell 0 _ rfl;have f3:=r3.frozen 0;obtain⟨W4,hW4⟩:=w9nm (x3.setCell ⟨D,0,none⟩ (af ua un uc));have r4:aq W4 D 47 (aW {q1 with d:=(ua,un,uc)}):=by rw[←hW4];exact r3.set 0 _
 have L4:=fg r4;have hDB:D≠B:=by have:=HB.out.size;have:=HD1.out;have:=HZ.out;have:=HSZ.out;omega
 have ro:aq W4 B 47 (aW dH):=by
  rw[←hW4];exact(eG x3 ⟨D,0,none⟩ _ B (fun e=>hDB e.symm)).trans (HR0.out.below K3.out)
 obtain⟨y,ST,ry,gy⟩:=xR {q1 with d:=(ua,un,uc)} ro rfl;have LD:=fg ry;have h4:∀k,k≠D->W4.heap[k]? =x3.heap[k]? :=fun k hk=>by rw[←hW4];exact eG x3 ⟨D,0,none⟩ _ k hk
 have z4:W4.heap.size=x3.heap.size:=by rw[←hW4];exact lS _ _ _
 have HB4:Hid (ag B w W4):=by
  show ag _ _ _;rw[←hW4];exact(hBB▸HB.out.trans (K3.out.mono HB.out.size):ag B w x3).setCell (p:=⟨D,0,none⟩) (by have:=HB.out.size;have:=K1.out.size;have:=HZV.out;have:=HZ.out;show B<=D;omega) _
 have HBY:Hid (ag B w y):=HB4.out.grown gy (by have:=HB4.out.size;omega) (fun k e=>by cases e;exact aG _);have hy:∀k,W.heap.size<=k->k≠D->k<x3.heap.size->y.heap[k]? =x3.heap[k]? :=fun k h1 h2 h3=>(gy.block k (by omega) (fun e=>by cases e;have:=HZ.out;omega)).trans (h4 k h2);have HF:Hid (StO B y {q1 with d:=(ua,un,uc)} (et m) s.sn s.pr):=by
  have hs:=hb3.size;have a1:StO W.heap.size y q1 s.d s.sn s.pr:=HO.out.stay fun k h1 h2=>by
   have:=HZV.out;rw[hy k h1 (by omega) (by omega),hb3.block k (by omega),HBV.out.block k h2]
  have a2:=a1.weak (M:=B) (by have:=HZ.out;omega);refine⟨iN (lw HU.out fun k e=> ?_) (by have:=HZ.out;have:=K1.out.size;omega),a2.sn,a2.pr⟩;have hk:=lV HU.out e;have hl:=HU.out.lt k e;have:=HZV.out;have:=K1.out.size;exact hy k (by omega) (by omega) hl.2
 simp only[aK];clear hu hb3 r3 r4 ro ry gy h4 z4 hy hDB;go_wp2_with fail;try rw[hW4]
 go_wp2_with fail;refine bo (ev rfl rfl LD) rfl ⟨_,rfl,HN.out.1,HN.out.2.1,HN.out.2.2,by rw[HSZ.out];exact HF.out,by rw[HSZ.out];exact HBY.out⟩
theorem QA (w:ah):ap aj 42 #[am none] w fun e w'=>e=ao (bI dH)/\ag w.heap.size w w':=by
 obtain⟨W,hW⟩:=w9nm (w.alloc (an #[af none 0 0,af none 0 0,ab ac 0,ab ac 0,ab ac 0,af none 0 0] 47));have HB:Hid (ag w.heap.size w W):=by show ag _ _ _;rw[←hW];exact aH w _
 have r0:aq W w.heap.size 47 (aW dH):=by rw[←hW];exact aq.new w _ _
 obtain⟨y,ST,ry,gy⟩:=xR dH r0 rfl;have ST':(aL 47 ⟨w.heap.size,0,none⟩ (al #[af none 0 0,af none 0 0,ab ac 0,ab ac 0,ab ac 0,af none 0 0])).run aj W=.ok () y:=ST;have LD:=fg ry;have HY:w9h w y:=HB.out.grown gy HB.out.size (fun k e=>by cases e;exact aG _);clear r0 ry gy ST;go_enter func42,ntmps42;go_wp2_with fail;refine bo (ev rfl rfl LD) rfl ⟨rfl,HY.out⟩
end
end
section
open Go.Shelf
open Go.RowKit Go.Lib in
def QB:Go.Shelf.Ren:=⟨fun | 212=>242 | 263=>270 | 264=>271 | n=>n,fun | 46=>91 | 51=>110 | 146=>354 | 53=>267 | 148=>356 | n=>n,fun | n=>n⟩
set_option maxRecDepth 100000 in
theorem QC:Go.Proofs.Lays.n212 aj QB:={
 mixed:=by kernel_rfl
 f212:=Tryz.func242.trans (congrArg some (by kernel_rfl))
 f263:=Tryz.func270.trans (congrArg some (by kernel_rfl))
 f264:=Tryz.func271.trans (congrArg some (by kernel_rfl))
 t46:=Tryz.underlying91
 a46:=Tryz.isAgg91
 z46:=Tryz.sizeOf91
 v46:=Tryz.zeroValue91
 t51:=Tryz.underlying110
 a51:=Tryz.isAgg110
 z51:=Tryz.sizeOf110
 v51:=Tryz.zeroValue110
 t53:=Tryz.underlying267
 a53:=Tryz.isAgg267
 z53:=Tryz.sizeOf267
 v53:=Tryz.zeroValue267
 t146:=Tryz.underlying354
 a146:=Tryz.isAgg354
 z146:=Tryz.sizeOf354
 v146:=Tryz.zeroValue354
 t148:=Tryz.underlying356
 a148:=Tryz.isAgg356
 z148:=Tryz.sizeOf356
 v148:=Tryz.zeroValue356}
open Go.RowKit Go.Lib in
theorem QD (x y:Nat) (hx:x<18446744073709551616) (hy:y<18446744073709551616) (w:ah):
  ap aj 242 #[ab .u64 x,ab .u64 y] w fun e w'=>e=ao (aQ #[ab .u64 ((x*y / 18446744073709551616:Nat):Int),ab .u64 ((x*y%18446744073709551616:Nat):Int)])/\w'=w:=Any.bits_Mul QC x y hx hy w
end
section
def eD (z:Int) (k n:Nat):List ak:=bg k (ab ac z)++bg (n - k) (ab ac 0)
theorem QE (z:Int) (n:Nat):eD z 0 n=bg n (ab ac 0):=by unfold eD;simp
theorem QF (z:Int) {k n:Nat} (h:k<=n):(eD z k n).length=n:=by unfold eD;simp;omega
theorem QG (z:Int) (n:Nat):eD z n n=(bg n z).map (Value.int ac):=by unfold eD;simp
theorem QH (z:Int) {k n j:Nat} (h:j<k):(eD z k n)[j]? =some (ab ac z):=by
 unfold eD;rw[fS (by simpa using h),kO,if_pos h]
theorem QI (z:Int) {k m n:Nat} (h:k+m<=n):(eD z k n).take k++bg m (Value.int ac z)++(eD z k n).drop (k+m)=eD z (k+m) n:=by
 unfold eD;rw[List.take_append_of_le_length (by simp),de (by simp)];rw[List.drop_append,List.drop_of_length_le (by simp),cy,iq,List.drop_replicate,List.replicate_append_replicate,show n - k - (k+m - k)=n - (k+m) by omega]
set_option maxRecDepth 100000 in
theorem QJ (n:Nat) (hn:n<=1000) (w:ah):(Instr.makeSlice 41 (ab ac (n:Int)) (ab ac (n:Int))).run aj w=.ok (af (some ⟨w.heap.size,0,none⟩) n n) (w.alloc (an (eD 0 0 n).toArray 3)):=by
 obtain⟨i0,hi,hz0,hz1,hz2⟩:=fy rE;have hr:=run_make (P:=aj) w 41 3 i0 (ab ac 0) Tryz.underlying41 hi hz0 ac ac (n:Int) (n:Int) (by omega) (by omega) (by rw[hz2];omega) (by omega);have e:madeCells (Value.int ac 0).cells ((n:Int).toNat*i0.size)=(eD 0 0 n).toArray:=by
  apply Array.toList_inj.1;rw[show(Value.int ac 0).cells=#[ab ac 0]from rfl,toList_madeCells_one,QE,hz1];simp
 rw[hr,e];simp
theorem QK (z z':Int) (n:Nat):eD z 0 n=eD z' 0 n:=by unfold eD;simp
set_option maxRecDepth 100000 in
theorem QL {w:ah} (E n:Nat) (z:Int) (hn1:1<=n) (hn2:n<=1000) (hE:aq w E 3 [ab ac z]):
  ap aj 170 #[af (some ⟨E,0,none⟩) 1 1,ab ac (n:Int)] w fun e w'=>e=ao (af (some ⟨w.heap.size,0,none⟩) n n)/\aq w' w.heap.size 3 (eD z n n)/\ag w.heap.size w w':=by
 have hmx:=w9x
 have HMU:Hid (∀x:ah,ap aj 242 #[ab .u64 1,ab .u64 (n:Int)] x fun e w'=>e=ao (aQ #[ab .u64 0,ab .u64 (n:Int)])/\w'=x):=fun x=>by
  have h:=QD 1 n (by omega) (by omega) x;rw[show 1*n / 18446744073709551616=0 by omega,show 1*n%18446744073709551616=n by omega]at h;exact h
 obtain⟨D,hD⟩:=w9nm w.heap.size;have HSZ:=ae hD;obtain⟨W,hW⟩:=w9nm (w.alloc (an (eD 0 0 n).toArray 3));have MK:=QJ n hn2 w;rw[hW,hD]at MK;have bW:ag D w W:=by rw[←hW,←hD];exact aH _ _
 have rW:aq W D 3 (eD z 0 n):=by rw[←hW,←hD,QK z 0 n];exact aq.new _ _ _
 have hEW:=hE.below (by show ag _ _ _;rw[hD];exact bW);have hsz1:(aj.info? 3).map (·.size)=some 1:=by kernel_rfl
 have cp:∀(x:ah) (k m:Nat) (a:aF) (dc sl sc:Nat),aq x D 3 (eD z k n)->k+m<=n->m=Nat.min sl (n - k)->(∀j,j<m->x.cell? (a.add j)=some (ab ac z))->
   ∃y,(∀ty,(Builtin.copy_ #[41, 41] ty #[af (some ⟨D,k,none⟩) (n - k) dc,af (some a) sl sc]).run aj x=.ok (ab ac (m:Int)) y)/\aq y D 3 (eD z (k+m) n)/\x.grownBy y (some D):=by
  intro x k m a dc sl sc hx hkm hm hc;refine⟨x.setRow D (eD z (k+m) n).toArray,fun ty=> ?_,setRow_heap x D _ _ _ _ hx,⟨rfl,rfl,rfl,by rw[setRow_size];exact aG _,fun j _ hj=>setRow_other x D j _ (fun e=>hj (by rw[e]))⟩⟩;have:=run_copy_row (P:=aj) x 41 41 ty 3 D k (n - k) dc a sl sc (eD z k n).toArray 3 (bg m (Value.int ac z)) Tryz.underlying41 hsz1 hx (by simpa using hm) (fun j v hj=>by
   have hjm:j<m:=by have:=(bZ.1 hj).1;simpa using this
   rw[kO,if_pos hjm]at hj;rw[←hj];exact hc j hjm) (by simp[QF z (show k<=n by omega)];omega) (fun v hv=>by rw[(List.mem_replicate.1 hv).2];rfl)
  rw[this,iq,QI z hkm]
  rfl
 obtain⟨Y,CP0,rY,gY⟩:=cp W 0 1 ⟨E,0,none⟩ n 1 1 rW (by omega) (lJ (by omega)).symm (fun j hj=>by
  have:j=0:=by omega
  subst this;exact hEW.cell 0 _ rfl)
 rw[Nat.sub_zero]at CP0;have HCP:Hid (∀(x:ah) (k m:Nat) (a:aF) (dc sl sc:Nat),aq x D 3 (eD z k n)->k+m<=n->m=Nat.min sl (n - k)->(∀j,j<m->x.cell? (a.add j)=some (ab ac z))->
   ∃y,(∀ty,(Builtin.copy_ #[41, 41] ty #[af (some ⟨D,k,none⟩) (n - k) dc,af (some a) sl sc]).run aj x=.ok (ab ac (m:Int)) y)/\aq y D 3 (eD z (k+m) n)/\x.grownBy y (some D)):=cp
 have HBY:Hid (ag D w Y):=bW.grown gY (by rw[←hD];exact bW.size |> fun h=>by rw[hD]at h ⊢;exact h) (fun j e=>by cases e;exact aG _);have HRY:Hid (aq Y D 3 (eD z 1 n)):=rY;clear bW rW hEW rY gY cp hE hW hsz1;go_enter func170,ntmps170;go_wp2_with fail;refine(HMU.out _).mono ?_;rintro e x1 ⟨rfl,hx1⟩;obtain rfl:=hx1.symm;go_wp2_with (at_make;refine oL 41 _ _ rfl rfl _ _ _ rfl rfl MK ?_);clear MK CP0;go_loopw [8] (fun kv wr=>∃k:Nat,1<=k/\k<=n/\kv=ab ac (k:Int)/\Hid (aq wr D 3 (eD z k n))/\Hid (ag D w wr)) (fun kv _=>n - (aS kv).toNat)
 case atStart=>exact⟨1,aG _,hn1,rfl,HRY,HBY⟩
 case round=>
  obtain⟨k,hk1,hk,rfl,HR,HB⟩:=hrel;by_cases hlt:k<n
  ·have q1:(k:Int)< (n:Int):=by omega
   have HLT:=ae hlt;obtain⟨m,hm⟩:=w9nm (Nat.min k (n - k));have hm1:1<=m:=by rw[←hm];exact Nat.le_min.2 ⟨hk1,by omega⟩
   have hm2:k+m<=n:=by have:=Nat.min_le_right k (n - k);rw[show min k (n - k)=Nat.min k (n - k)from rfl,hm]at this;omega
   have hm3:m<=k:=by have:=Nat.min_le_left k (n - k);rw[show min k (n - k)=Nat.min k (n - k)from rfl,hm]at this;omega
   have rd:aq wr.drew D 3 (eD z k n):=HR.out.below (aI _ wr).drew;obtain⟨Y2,CP,rY2,gY2⟩:=HCP.out wr.drew k m ⟨D,0,none⟩ (n - k) k n rd hm2 hm.symm (fun j hj=>by rw[yp,dP];exact rd.cell j _ (QH z (by omega)));have HR2:=ae rY2;have HB2:Hid (ag D w Y2):=HB.out.drew.grown gY2 (by have:=HB.out.size;show D<=wr.heap.size;have:=rd.lt;omega) (fun j e=>by cases e;exact aG _);have hnk:0<n - k:=by omega
   have g1:¬n=k:=by omega
   have HM:=ae (And.intro hm1 hm2);have e1:(n:Int) - (k:Int)=((n - k:Nat):Int):=by omega
   clear hm rd rY2 gY2 hlt HR HB hm3;go_wp2_with fail;refine du (fun _=>True) 9 (.takes [0,1,2,3,4,5,6] (.one 7 (.takes [8] .leaf))) hmx (by kernel_rfl) (by intro c x v a w h;cases x<;>exact h) trivial ?_;repeat(rw[bu];simp only[aB,aC];go_big_quiet_step (fail);refine aV ?_)
   rw[bt,aT];simp only[aB,aC];go_wp2_with fail;refine aN trivial ?_;repeat(rw[bu];simp only[aB,aC];go_big_quiet_step (fail);refine aV ?_)
   rw[bt,cW];simp only[bR,bQ];go_wp2_with fail;have hmm:=HM.out;exact⟨⟨k+m,by omega,by omega,by simp,HR2,HB2⟩,by simp[aS];omega⟩
  ·obtain rfl:k=n:=by omega
   clear hlt;go_wp2_with fail;go_ret;exact⟨by first | rfl | (rw[HSZ.out];rfl),by first | exact HR.out | (rw[HSZ.out];exact HR.out),by first | exact HB.out | (rw[HSZ.out];exact HB.out)⟩
theorem QM {W:ah} {base g:Nat} {zs:List Int} (h:aq W g 3 (zs.map (Value.int ac))) (hb:base<=g) (hm:zs.length<=aY):bT base W (af (some ⟨g,0,none⟩) zs.length zs.length) zs:=
 ⟨by simp,aD ⟨g,zs.length,_,rfl,hb,h,aG _,hm,by simp,by rw[Nat.mul_one];exact de (by simp)⟩⟩
attribute [-simp] isAgg90 zeroValue90 isAgg191 zeroValue191 isAgg47 zeroValue47
attribute [-go_sem] aE aL
theorem QN (x:Option aF) (n c:Nat) (a:Int) (w:ah):(df 47 #[(0,af x n c),(2,ab ac a)]).run aj w=.ok (al #[af x n c,af none 0 0,ab ac a,ab ac 0,ab ac 0,af none 0 0]) w:=by kernel_rfl
attribute [local go_sem] iQ iR fB eJ en qo QN
theorem QO {w:ah} (g:SG) (hg:g.Ok) (r:Int) (hi:(g.geo r).In) (hr:(g.geo r).good):
  ap aj 82 #[al (g.v r)] w fun e w'=>∃x n c,e=ao (aQ #[bI ⟨(x,n,c),(none,0,0),1,0,0,(none,0,0)⟩,ab ac 0])/\bT w.heap.size w' (af x n c) (bg g.slots (-1))/\ag w.heap.size w w':=by
 have HG:Hid (∀x:ah,ap aj 166 #[al (g.v r)] x fun e w'=>e=ao (.bool true)/\ag x.heap.size x w'):=fun x=>(kG (g.geo r) hi x).mono fun e y hy=>⟨by rw[hy.1,decide_eq_true hr],hy.2⟩;have HSC:Hid (∀x:ah,ap aj 171 #[al (g.v r)] x fun e w'=>e=ao (ab ac (g.slots:Int))/\ag x.heap.size x w'):=fun x=>vO g hg r x;have hz1:1<=g.slots:=kP hg.s1 hg.y1;have hz32:g.slots<=32:=bm (kP hg.s8 hg.y4) (by decide);obtain⟨Z,hz⟩:=w9nm g.slots;rw[hz]at HSC hz1 hz32 ⊢;obtain⟨B,hB⟩:=w9nm w.heap.size;obtain⟨W1,hW1⟩:=w9nm (w.alloc (an (g.v r) 23));obtain⟨W2,hW2⟩:=w9nm (W1.alloc (an #[af none 0 0,af none 0 0,ab ac 0,ab ac 0,ab ac 0,af none 0 0] 47));have s1:W1.heap.size=B+1:=by rw[←hW1,←hB];simp
 have s2:W2.heap.size=B+2:=by rw[←hW2,bO,s1]
 have r1:aq W1 B 23 [ab ac (g.b:Int),ab ac (g.s:Int),ab ac (g.y:Int),ab ac (g.a:Int),ab ac r]:=by rw[←hW1,←hB];exact aq.new _ _ _
 have r2:aq W2 (B+1) 47 (aW dH):=by rw[←hW2,←s1];exact aq.new _ _ _
 have b1:ag B w W1:=by rw[←hW1,←hB];exact aH _ _
 have b2:ag W1.heap.size W1 W2:=by rw[←hW2];exact aH _ _
 have HB:Hid (ag B w W2):=b1.trans (b2.mono (by omega));have HR1:Hid (aq W2 B 23 [ab ac (g.b:Int),ab ac (g.s:Int),ab ac (g.y:Int),ab ac (g.a:Int),ab ac r]):=r1.below b2;have HR2:=ae r2;have HS2:=ae s2;have HSZ:=ae hB;have t1:=HR1.out;have k0:=t1.cell 0 _ rfl;have k1:=t1.cell 1 _ rfl;have k2:=t1.cell 2 _ rfl;have k3:=t1.cell 3 _ rfl;have k4:=t1.cell 4 _ rfl;clear r1 b1 b2 t1 r2 hz hg hr hi;unfold SG.v at *;go_enter func82,ntmps82;go_wp2_with fail;refine(HG.out W2).mono ?_;rintro e x1 ⟨rfl,hx1⟩;obtain⟨X,hX⟩:=w9nm (x1.alloc (an #[ab ac (-1)] 3));have bX:ag x1.heap.size x1 X:=by rw[←hX];exact aH _ _
 have rX:aq X x1.heap.size 3 [ab ac (-1)]:=by rw[←hX];exact aq.new x1 _ _
 have H2:w9h W2 X:=hx1.trans (bX.mono hx1.size);obtain⟨D,hD⟩:=w9nm x1.heap.size;rw[hD]at rX;have HRX:=ae rX;have t2:=HR1.out.below H2.out;clear k0 k1 k2 k3 k4 hx1 bX rX;have k0:=t2.cell 0 _ rfl;have k1:=t2.cell 1 _ rfl;have k2:=t2.cell 2 _ rfl;have k3:=t2.cell 3 _ rfl;have k4:=t2.cell 4 _ rfl;go_wp2_with fail;refine(HSC.out X).mono ?_;rintro e x2 ⟨rfl,hx2⟩;have H3:=w9bt H2 hx2;have HRE:=ae (QL D Z (-1) hz1 (by omega) (HRX.out.below hx2));clear hx2 k0 k1 k2 k3 k4 t2 hX;go_wp2_with fail;refine HRE.out.mono ?_;rintro e x3 ⟨rfl,hr3,hx3⟩;obtain⟨E,hE⟩:=w9nm x2.heap.size;have hEB:B+2<=E:=by have:=H3.out.size;have:=HS2.out;omega
 rw[hE]at hr3;have H4:w9b W2 x3:=H3.out.trans (hx3.mono H3.out.size);obtain⟨z,hS,hRz,hgz⟩:=lq ⟨(some ⟨E,0,none⟩,Z,Z),(none,0,0),1,0,0,(none,0,0)⟩ (HR2.out.below H4) rfl;have HZ:Hid (ag B w z):=(HB.out.trans (H4.mono (by have:=HS2.out;omega))).grown hgz (by have:=H4.size;have:=HS2.out;omega) (fun j e=>by cases e;exact Nat.le_succ B);have HI:Hid (bT B z (af (some ⟨E,0,none⟩) Z Z) (bg Z (-1))):=by
  have:=QM (base:=B+2) (zs:=bg Z (-1)) (by rw[←QG];exact hr3) hEB (by rw[iq];unfold aY;omega);rw[iq]at this;exact iN (World.ownsRow.kept this hgz (aD (by show some E≠some (B+1);simp;omega))) (by omega)
 have HLD:=ae (fg hRz);simp only[bI,aW,aK]at hS HLD;rw[hE];clear hRz hgz hr3 hx3 H4 HRE;go_wp2_with fail;exact bo (eH rfl rfl HLD.out) rfl ⟨_,_,_,rfl,by rw[HSZ.out];exact HI.out,by rw[HSZ.out];exact HZ.out⟩
end
section
structure StA (W:ah) (q:PS) (d:List Int) (l:List SN) (ps:List (Int×Int)):Prop where
 dd:Sl ac W (aK q.d) d
 i6:∀x ∈ d,fG x
 st:StIs W q l ps
theorem StA.below {W W':ah} {q:PS} {d:List Int} {l:List SN} {ps:List (Int×Int)} (h:StA W q d l ps) (hB:ag W.heap.size W W'):StA W' q d l ps:=⟨h.dd.below hB,h.i6,h.st.below hB⟩
def Geo.sg (G:Geo):SG:=⟨G.b.toNat,G.s.toNat,G.y.toNat,G.a.toNat⟩
theorem Geo.sg_ok {G:Geo} (h:G.good):G.sg.Ok/\G.sg.geo G.r=G:=by
 obtain⟨b,s,y,a,r⟩:=G;obtain⟨⟨h1,h2,h3,h4,h5,h6,h7,h8⟩, -⟩:=h;simp only at h1 h2 h3 h4 h5 h6 h7 h8;refine⟨⟨?_, ?_, ?_, ?_, ?_, ?_, ?_⟩, ?_⟩
 any_goals (simp only[Geo.sg];omega)
 simp only[SG.geo,Geo.sg,Geo.mk.injEq];refine⟨?_, ?_, ?_, ?_,trivial⟩<;>omega
def iF (G:Geo) (s:ST):Bool:=decide G.good&&fE G.sg s
def kL (G:Geo) (bs:List Int):Option ST:=if G.good then iy G.sg bs else none
theorem ni {G:Geo} {s:ST}:iF G s=true↔G.good/\fE G.sg s=true:=by unfold iF;simp
theorem QP {G:Geo} {bs:List Int} {s:ST} (h:kL G bs=some s):iF G s=true/\bK G.sg s=bs:=by
 unfold kL at h;split at h
 ·rename_i hg;obtain⟨a,b⟩:=zS h;exact⟨ni.2 ⟨hg,a⟩,b⟩
 ·cases h
theorem QQ {G:Geo} {s:ST} (h:iF G s=true):kL G (bK G.sg s)=some s:=by
 obtain⟨a,b⟩:=ni.1 h;unfold kL;rw[if_pos a,zR (Geo.sg_ok a).1 b]
theorem ET {bs:List Int} (h:∀x ∈ bs,0<=x/\x<256):aP bs:=fun j=>by
 by_cases hj:j<bs.length
 ·rw[aZ hj];exact h _ (List.getElem_mem hj)
 ·rw[ej (by omega)];simp
theorem ur {bs:List Int} (h:aP bs) {x:Int} (hx:x ∈ bs):0<=x/\x<256:=by
 obtain⟨j,hj⟩:=jY hx;have:=h j
 rwa [hj]at this
theorem EU {g:SG} {l:List (Int×Int)} (h:PrIn g l):∀x ∈ eA g.b l,0<=x/\x<256:=by
 unfold eA;have key:∀(l:List (Int×Int)) (o:List Int),(∀p ∈ l,0<=p.2/\p.2≠254/\p.2<256)->(∀x ∈ o,0<=x/\x<256)->∀x ∈ l.foldl (fun o p=>o.set p.1.toNat (fK p.2)) o,0<=x/\x<256:=by
  intro l
  induction l with
  | nil=>intro o _ h;exact h
  | cons p l ih=>
   intro o hp ho;refine ih _ (fun q hq=>hp q (ea _ hq)) fun x hx=> ?_;rcases List.mem_or_eq_of_mem_set hx with hx | rfl
   ·exact ho x hx
   ·have:=hp p (dC ..);unfold fK;split<;>omega
 exact key l _ h.val (fun x hx=>by rw[(List.mem_replicate.1 hx).2];omega)
theorem QR {g:SG} {d:List Int} (h:fV g d=true):∀x ∈ d,x= -1\/0<=x/\x< (g.b:Int):=fun x hx=>by
 unfold fV at h;rw[cm,iZ]at h;obtain⟨i,hi⟩:=jY hx;have hl:=(bZ.1 hi).1;have:=h.2 i (dJ.2 hl);unfold km at this;rw[hi]at this;simp only[Option.getD_some,Bool.or_eq_true,beq_iff_eq,cm,decide_eq_true_eq]at this;rcases this with h | ⟨⟨⟨a,b⟩, -⟩, -⟩
 ·exact aA h
 ·exact aD ⟨a,b⟩
theorem QS {g:SG} {s:ST} (h:fE g s=true):∀x ∈ s.d,x= -1\/0<=x/\x< (g.b:Int):=by
 unfold fE at h;simp only[cm]at h;exact QR h.1.1.1.1.1
theorem QT {g:SG} (hg:g.Ok) {s:ST} (h:fE g s=true) (hk:∀t ∈ s.sn,aP t.ch):aP (bK g s):=by
 have hi:=pj hg h;have hkd:=Ai h;have hb:=hg.b64;refine ET fun x hx=> ?_;unfold bK at hx;simp only[gc,dy,List.mem_nil_iff,or_false,cM,List.mem_flatten]at hx;rcases hx with hx | (rfl | rfl) | hx | ⟨y,hy,rfl⟩ | ⟨y,hy,hx⟩ | hx
 ·exact ur (gL _ _) hx
 ·have:=hi.sl;omega
 ·omega
 ·exact ur (gL _ _) hx
 ·have:=QS h y hy;omega
 ·unfold dM at hy;obtain⟨i, -,rfl⟩:=cM.1 hy;have hS:∀t:SN,aP t.ch->PrIn g t.tb->∀x ∈ jk g t,0<=x/\x<256:=fun t h1 h2 x hx=>by
   unfold jk at hx;rcases gc.1 hx with hx | hx
   ·exact ur (gL _ _) hx
   ·rcases gc.1 hx with hx | hx
    ·exact ur h1 hx
    ·exact EU h2 x hx
  cases hl:s.sn[i]? with
  | none=>
   rw[hl]at hx;refine hS (my g) (ET fun z hz=> ?_) ⟨List.Pairwise.nil,(fun p hp=>by cases hp),(fun p hp=>by cases hp)⟩ x hx;have:=(List.mem_replicate.1 hz).2;omega
  | some t=>
   rw[hl]at hx;have hm:=dp hl;exact hS t (hk t hm) (hi.sn t hm).tb x hx
 ·exact EU hi.pr x hx
theorem ut {G:Geo} {s:ST} (h:iF G s=true):((bK G.sg s).length:Int)=G.oB/\(bK G.sg s).length<=1000:=by
 obtain⟨a,b⟩:=ni.1 h;obtain⟨ok,e⟩:=Geo.sg_ok a;have hi:=pj ok b;have hl:=vh hi.dl (fun t ht=>(hi.sn t ht).ch);have h1:G.oB=(G.sg.bts:Int):=by
  unfold Geo.oB;rw[if_pos a];have:=Aq ok G.r
  rwa [e]at this
 have h2:=(Geo.oB_bd G).2;refine⟨by rw[hl,h1], ?_⟩;rw[hl];omega
theorem rf {G:Geo} {s:ST} (h:iF G s=true) (hk:∀t ∈ s.sn,t.Ok):aP (bK G.sg s):=QT (Geo.sg_ok (ni.1 h).1).1 (ni.1 h).2 (fun t ht=>(hk t ht).ch)
theorem xS {w:ah} {q:PS} {d:List Int} {l:List SN} {ps:List (Int×Int)} (G:Geo) (hi:G.In) (h:StA w q d l ps) (hK:jd 1000 l) (hp:ps.length<=1000):
  ap aj 83 #[al G.v,bI q] w fun e w'=>∃u c,e=ao (aQ #[u,ab ac c])/\((iF G ⟨d,l,q.nx,q.kd,q.id,ps⟩=true->c=0/\w'.ownsRow w.heap.size 5 1 u (bK G.sg ⟨d,l,q.nx,q.kd,q.id,ps⟩).length (aw (bK G.sg ⟨d,l,q.nx,q.kd,q.id,ps⟩)))/\(iF G ⟨d,l,q.nx,q.kd,q.id,ps⟩=false->c=11/\u=af none 0 0))/\ag w.heap.size w w':=by
 by_cases hg:G.good
 ·obtain⟨ok,e⟩:=Geo.sg_ok hg;have:=AM G.sg ok G.r (by rw[e];exact hi) (by rw[e];exact hg) h.dd h.i6 h.st hK hp;rw[←SG.geo_v,e]at this;refine this.mono fun e y ⟨u,c,h1,h2,h3⟩=>⟨u,c,h1, ?_,h3⟩;unfold iF;rw[decide_eq_true hg,jX];exact h2
 ·refine(KO G hi hg).mono fun e y hy=>⟨_,_,hy.1,⟨fun h=>absurd (ni.1 h).1 hg,fun _=>⟨rfl,rfl⟩⟩,hy.2⟩
theorem QU {w:ah} {v:ak} {bs:List Int} (G:Geo) (hi:G.In) (hv:Sl ay w v bs) (hB:aP bs) (hl:bs.length<=100000):
  ap aj 105 #[al G.v,v] w fun e w'=>∃q c,e=ao (aQ #[bI q,ab ac c])/\((∀s,kL G bs=some s->c=0/\q.nx=s.nx/\q.kd=s.kd/\q.id=s.id/\StO w.heap.size w' q s.d s.sn s.pr)/\(kL G bs=none->c=(if G.good then 11 else 1)/\q=dH))/\ag w.heap.size w w':=by
 by_cases hg:G.good
 ·obtain⟨ok,e⟩:=Geo.sg_ok hg;have:=La G.sg ok G.r (by rw[e];exact hi) (by rw[e];exact hg) hv hB hl;rw[←SG.geo_v,e]at this;refine this.mono fun e y ⟨q,c,h1,h2,h3⟩=>⟨q,c,h1,⟨fun s hs=> ?_,fun hn=> ?_⟩,h3⟩
  ·unfold kL at hs;rw[if_pos hg]at hs;unfold mF at h2;rw[hs]at h2;exact⟨h2.1,h2.2.1,h2.2.2.1,h2.2.2.2.1,h2.2.2.2.2.1,h2.2.2.2.2.2.1,h2.2.2.2.2.2.2⟩
  ·unfold kL at hn;rw[if_pos hg]at hn;unfold mF at h2;rw[hn]at h2;rw[if_pos hg];exact h2
 ·refine(KT G hi hg).mono fun e y hy=>⟨dH,1,hy.1,⟨fun s hs=> ?_,fun _=>⟨by rw[if_neg hg],rfl⟩⟩,hy.2⟩;unfold kL at hs;rw[if_neg hg]at hs;cases hs
theorem QV {G:Geo} {bs:List Int} {s:ST} (hB:aP bs) (h:kL G bs=some s):(∀x ∈ s.d,fG x)/\jd 1000 s.sn/\s.pr.length<=1000/\s.d.length<=1000:=by
 have hgd:=(QP h).1;obtain⟨a,b⟩:=ni.1 hgd;obtain⟨ok, -⟩:=Geo.sg_ok a;unfold kL at h;rw[if_pos a]at h;have hl:bs.length=G.sg.bts:=by
  unfold iy at h;split at h
  ·rename_i c;exact c.1
  ·cases h
 obtain⟨d1,d2⟩:=sQ ok hl;have hs:s=iA G.sg bs:=by
  by_cases c:fE G.sg (iA G.sg bs)=true/\bK G.sg (iA G.sg bs)=bs
  ·rw[d1 c]at h;exact(Option.some.inj h).symm
  ·rw[d2 c]at h;cases h
 subst hs;obtain⟨l1,l2⟩:=AN ok bs;refine⟨AO hB _,l1,l2, ?_⟩;rw[(pj ok b).dl];have:=kP ok.s8 ok.y4;unfold SG.slots;omega
end
section
attribute [-simp] isAgg51 zeroValue51 isAgg23 zeroValue23 isAgg47 zeroValue47 isAgg156 zeroValue156
attribute [-go_sem] aE aL cS
attribute [local go_sem] kr kt hU ia bC bD en
section
theorem QW (w:ah):ap aj 35 #[am none] w fun e w'=>e=ao (aQ #[am none,ab ac 1])/\ag w.heap.size w w':=by
 have H:=ae (qW.open_nil w);go_enter func35,ntmps35;go_wp2_with fail;refine H.out.mono ?_;rintro e x ⟨rfl,hb⟩;have HB:=ae hb;clear hb;go_wp2_with fail;go_ret2;exact⟨rfl,HB.out⟩
theorem QX {rb p0 p1:Nat} {S:RS} {w:ah} {f:Nat->Prop} (h:aU rb p0 p1 S w f) (hr:S.Rdy) (hu:S.Up) (h2:2<=S.n0) (ho:S.opn=none):ap aj 35 #[am (some ⟨rb,0,none⟩)] w fun e w'=>e=ao (aQ #[am none,ab ac 11])/\ag w.heap.size w w':=by
 have H:=ae (qW.open_no h hr hu h2 ho);clear h hr hu h2 ho;go_enter func35,ntmps35;go_wp2_with fail;refine H.out.mono ?_;rintro e x ⟨rfl,hb⟩;have HB:=ae hb;clear hb;go_wp2_with fail;go_ret2;exact⟨rfl,HB.out⟩
theorem QY {rb p0 p1:Nat} {S:RS} {w:ah} {f:Nat->Prop} (h:aU rb p0 p1 S w f) (hr:S.Rdy) (hu:S.Up) {M:MS} (ho:S.opn=some M) (hg:M.g.good) (hi:M.g.In) (hB:aP M.b) (hl:M.b.length<=1000) {s:ST} (hd:kL M.g M.b=some s):
  ap aj 35 #[am (some ⟨rb,0,none⟩)] w fun e w'=>∃b:CB,(b.rb=rb/\b.p0=p0/\b.p1=p1)/\e=ao (aQ #[b.v,ab ac 0])/\∃f',ft b S M (kK M.g s.d) s w' f'/\Turn f f' w w':=by
 have H:=ae (qW.open_ h hr hu ho);have HI:=ae hi;have HG:=ae hg;have HBY:=ae hB;have HL:=ae hl;have HD:=ae hd;have hLn:=QV hB hd;have HLN:=ae hLn;clear h hr hu ho hg hi hB hl hd hLn;go_enter func35,ntmps35;go_wp2_with fail;refine H.out.mono ?_;rintro e x1 ⟨mb,rfl,f1,hR,hT⟩;obtain⟨fr,fm,hRig,hMem,hdis,hf1⟩:=hR;have hMem:eR mb rb M x1 fm:=hMem;have HME:=ae hMem;have HRI:=ae hRig;have HT:=ae hT;have HDI:=ae hdis;have HF1:=ae hf1;clear hRig hMem hT hdis hf1 H;go_wp2_with fail;refine(uf HME.out).mono ?_;rintro e x2 ⟨rfl,hb2⟩;have K2:=ae hb2;clear hb2;go_wp2_with fail;refine(DY ((eR.isRes _ _ _).below HME.out K2.out) (by have:=HL.out;omega)).mono ?_;rintro e x3 ⟨v,rfl,hsl, -,hb3⟩;have K3:=w9bt K2 hb3;have HSL:=ae hsl;clear hsl hb3;go_wp2_with fail;refine(QU M.g HI.out HSL.out HBY.out (by have:=HL.out;omega)).mono ?_;rintro e x4 ⟨q,c,rfl,⟨hq, -⟩,hb4⟩;obtain⟨rfl,n1,n2,n3,hO⟩:=hq s HD.out;have K4:=w9bt K3 hb4;have hSt:=gU.made hO n1 n2 n3;obtain⟨N,hN⟩:=w9nm x3.heap.size;have hN1:Hid (x1.heap.size<=N):=by rw[←hN];exact K3.out.size
 rw[hN]at hSt;have ST:=se x4 q;obtain⟨V,hV⟩:=w9nm (x4.alloc (an (aW q).toArray 47));have bV:ag x4.heap.size x4 V:=by rw[←hV];exact aH _ _
 have rV:aq V x4.heap.size 47 (aW q):=by rw[←hV];exact aq.new _ _ _
 rw[hV]at ST;have LV:=fg rV;have KV:=w9bt K4 bV;have hMSV:dr (eR mb rb M) (gU q s) V (fun k=>fm k\/From N x4 k):=⟨fm,From N x4,(eR.isRes _ _ _).below HME.out KV.out,(gU.isRes _ _).below hSt bV,fun k h1 h2=>by
  have:=(eR.isRes _ _ _).lt HME.out k h1;have:=h2.1;have:=hN1.out;omega,rfl⟩
 have HAS:=ae (EK p0 p1 HG.out hMSV (by have:=HLN.out.2.2.2;omega) (fun x hx=>(HLN.out.1 x hx).2));clear hO hb4 hq n1 n2 n3 hSt hV bV rV hMSV hN;go_wp2_with fail;refine HAS.out.mono ?_;rintro e x6 ⟨b,⟨rfl,rfl,rfl⟩,rfl,⟨f6,hC,hf6⟩,hb6⟩;have K6:w9b x1 x6:=KV.out.trans (hb6.mono KV.out.size);have FIN:Hid (∃f',ft b S M (kK M.g s.d) s x6 f'/\Turn f f' w x6):=by
  have hlr:=(aU.isRes _ _ _ _).lt HRI.out;refine⟨_,⟨fr,f6,(aU.isRes _ _ _ _).below HRI.out K6,hC,fun k h1 h2=> ?_,rfl⟩,HT.out.trans ((Turn.of_below K6).less fun k hk=> ?_)⟩
  ·have:=hlr k h1;have:=hN1.out;rcases hf6 k h2 with(h3 | h3) | h3
   ·exact HDI.out k h1 h3
   ·have:=h3.1;omega
   ·have:=KV.out.size;omega
  ·rcases hk with hk | hk
   ·left
    rw[HF1.out];exact aA hk
   ·rcases hf6 k hk with(h3 | h3) | h3
    ·left
     rw[HF1.out];exact aD h3
    ·right
     have:=h3.1;have:=hN1.out;omega
    ·right
     have:=KV.out.size;omega
 clear hC hf6 hb6 K6 LV ST;unfold CB.v;go_wp2_with fail;go_ret2;exact⟨b,⟨rfl,rfl,rfl⟩,rfl,FIN.out⟩
end
section
theorem EX {rb p0 p1:Nat} {S:RS} {w:ah} {f:Nat->Prop} (h:aU rb p0 p1 S w f) (g:Geo) (hi:g.In):ap aj 79 #[am (some ⟨rb,0,none⟩),al g.v] w fun e w'=>e=ao (.bool (decide (g.good/\g.oF<=S.n0/\g.oW<=S.n1)))/\ag w.heap.size w w':=by
 obtain⟨W,hW⟩:=w9nm (w.alloc (an g.v 23));have r:aq W w.heap.size 23 g.cs:=by rw[←hW];exact aq.new w _ _
 have hB:ag w.heap.size w W:=by rw[←hW];exact aH w _
 have h:=h.beside hB;obtain⟨B,hBB⟩:=w9nm w.heap.size;rw[hBB]at r;have L0:=cG r;have HLD:Hid (∀x,ag W.heap.size W x->(aE 23 ⟨B,0,none⟩).run aj x=.ok (al g.v) x):=fun x hx=>cG (r.below hx);have HGD:=ae (kG g hi W);have HFA:=ae (fun x=>tY g hi x);have HSL:=ae (fun x=>xy g hi x);have HL0:Hid (∀x,ag W.heap.size W x->ap aj 167 #[am (some ⟨rb,0,none⟩),ab ac 0] x fun e y=>e=ao (ab ac (S.n0:Int))/\ag x.heap.size x y):=fun x hx=>(h.beside hx).len 0;have HL1:Hid (∀x,ag W.heap.size W x->ap aj 167 #[am (some ⟨rb,0,none⟩),ab ac 1] x fun e y=>e=ao (ab ac (S.n1:Int))/\ag x.heap.size x y):=fun x hx=>(h.beside hx).len 1;have HB:=ae hB;have HSZ:=ae hBB;obtain⟨z0,g0⟩:=w9nm (decide g.good);obtain⟨z1,g1⟩:=w9nm (decide (g.oF<=(S.n0:Int)));obtain⟨z2,g2⟩:=w9nm (decide (g.oW<=(S.n1:Int)));have HE:Hid (decide (g.good/\g.oF<=S.n0/\g.oW<=S.n1)=(z0&&(z1&&z2))):=by show _=_;rw[←g0,←g1,←g2];simp
 rw[g0]at HGD;clear h r hB hi g0;go_enter func79,ntmps79;go_wp2_with fail;refine HGD.out.mono ?_;rintro e x1 ⟨rfl,hb⟩;have K1:=ae hb;clear hb L0;cases z0 with
 | false=>
  have HK:w9h w x1:=HB.out.trans (K1.out.mono HB.out.size);go_wp2_with fail;go_ret;exact⟨by rw[HE.out];rfl,by first | exact HK.out | (rw[←hBB];exact HK.out)⟩
 | true=>
  have L1:=HLD.out x1 K1.out;go_wp2_with fail;refine(HFA.out x1).mono ?_;rintro e x2 ⟨rfl,hb⟩;have K2:=w9bt K1 hb;clear hb L1;go_wp2_with fail;refine(HL0.out x2 K2.out).mono ?_;rintro e x3 ⟨rfl,hb⟩;have K3:=w9bt K2 hb;clear hb;cases z1 with
  | false=>
   have HK:w9h w x3:=HB.out.trans (K3.out.mono HB.out.size);go_wp2_with fail;go_ret;exact⟨by rw[HE.out];rfl,by first | exact HK.out | (rw[←hBB];exact HK.out)⟩
  | true=>
   have L3:=HLD.out x3 K3.out;go_wp2_with fail;refine(HSL.out x3).mono ?_;rintro e x4 ⟨rfl,hb⟩;have K4:=w9bt K3 hb;clear hb L3;go_wp2_with fail;refine(HL1.out x4 K4.out).mono ?_;rintro e x5 ⟨rfl,hb⟩;have K5:=w9bt K4 hb;have HK:w9h w x5:=HB.out.trans (K5.out.mono HB.out.size);clear hb;go_wp2_with fail;go_ret;exact⟨by rw[HE.out];first | rfl | simp,by first | exact HK.out | (rw[←hBB];exact HK.out)⟩
end
end
section
theorem Inv.part {S T:RS} {M:MS} {n p0:Nat} {q0:Int} {ts:List (List Img)} (h:Inv S M n p0 q0 ts) (hn0:T.n0=S.n0) (hn1:T.n1=S.n1) (hd:T.Dry) (hb:T.BB) (he:∀i,i<2+M.g.C+M.g.P->T.rd i=S.rd i):Inv T M n p0 q0 ts:=by
 have hC:=h.C0;have hp:=fun k=>mI hC p0 k;refine h.move hn0 hn1 hd hb (fun i hi=>he i (by omega)) M.home h.homl h.homb (fun i x hx=> ?_) (fun k _=>he _ (by have:=hp k;omega)) (h.junk.to fun k _ _=>he _ (by have:=hp k;omega)) h.rows;have hi:i<M.g.P:=by rw[←h.homl];exact(bZ.1 hx).1
 rw[he _ (by unfold Geo.H;omega)];exact h.hom i x hx
theorem Inv.le {S:RS} {M:MS} {n m p0:Nat} {q0:Int} {ts:List (List Img)} (h:Inv S M n p0 q0 ts) (hm:n<=m):Inv S M m p0 q0 ts:=
 {h with gen:=⟨h.gen.1,by have:=h.gen.2;omega⟩,q:=⟨h.q.1,by have:=h.q.2;omega⟩}
theorem EY {s t:Sec} (hs:s.BB) (ht:t.BB) (h:byt s.look=byt t.look):s.look=t.look:=by
 obtain⟨a,ha, -⟩:=hs.look;obtain⟨c,hc, -⟩:=ht.look;rw[ha,hc]at h ⊢;rw[lx,lx]at h;rw[h]
theorem AllW.rest {S T:RS} {ls:List cH} (h:AllW S ls T) {i:Nat} (hi:i<S.n0) (hn:∀l ∈ ls,∀x ∈ l,x.1≠i):T.rd i=S.rd i:=by
 induction h with
 | nil h=>exact h.else_ i hi (by simp)
 | @step S U T l ls h _ ih=>
  rw[ih (by rw[h.n0];exact hi) (fun k hk=>hn k (ea _ hk))];exact h.else_ i hi fun hm=>by
   obtain⟨x,hx,e⟩:=cM.1 hm;exact hn l dC x hx e
theorem QZ {S:RS} {M:MS} {n p0:Nat} {q0:Int} {ts:List (List Img)} {b:List Int} (h:Inv S M n p0 q0 ts) (hl:b.length=M.b.length):∀l ∈ M.bats b,∀x ∈ l,x.1<2+M.g.C+M.g.P:=by
 intro l hl' x hx;have hC:=h.C0;have happ:∀l ∈ M.appW b,∀x ∈ l,x.1<2+M.g.C+M.g.P:=fun l hl x hx=>by
  have hm:x ∈ cN 2 M.g.C M.at0 M.seq (M.dif b):=by
   unfold MS.appW at hl;simp only[dy,lM,or_false]at hl;rcases hl with rfl | rfl
   ·exact jE hx
   ·exact List.mem_of_mem_drop hx
  have h1:=List.mem_map_of_mem (f:=(·.1)) hm;rw[wv]at h1;obtain⟨k,_,hk⟩:=cM.1 h1;have:=iI (M.at0+k) hC;omega
 unfold MS.bats at hl';split at hl'
 ·cases hl'
 ·rcases gc.1 hl' with hl' | hl'
  ·split at hl'
   ·simp only[dy,lM,or_false]at hl';rcases hl' with rfl | rfl
    ·obtain⟨i,v⟩:=x;obtain⟨j,hj,rfl, -⟩:=mJ hx;show M.g.H+j<_;unfold Geo.H;omega
    ·unfold MS.supW at hx;simp only[dy,lM,or_false]at hx;rw[hx];show 1 - M.sup<_;omega
   ·cases hl'
  ·exact happ l hl' x hx
structure CSit (S:RS) (M:MS) (k:Nat):Prop where
 inv:∃p q us,Inv (S.fl 0) M (2*k) p q us
 up:S.Up
 n0:S.n0<=4096
 n1:S.n1<=4096
 d0:0<=S.done
 d1:S.done<=1000+40*k
 few:S.Few (10+k)
 bb:S.BB
theorem nj (S:RS) (dev:Int) (i:Nat):(S.fl dev).rd i=S.rd i:=by
 unfold RS.fl RS.rd;split
 ·dsimp only
  unfold fW;split
  ·rfl
  ·rfl
 ·rfl
theorem uu (S:RS):(S.fl 0).Dry:=fun i hi=>by
 show(fW S.D0 S.n0 i).vs= [];unfold fW;rw[if_pos (show i<S.n0 from hi)]
theorem EZ (S:RS) (dev i:Int) (b:List ak):(S.write dev i b).n0=S.n0/\(S.write dev i b).n1=S.n1:=by
 unfold RS.write;split
 ·split
  ·exact⟨(RS.put_rest S.after dev i.toNat b).2.2.2.1.trans S.after_same.1,(RS.put_rest S.after dev i.toNat b).2.2.2.2.trans S.after_same.2.1⟩
  ·exact⟨S.after_same.1,S.after_same.2.1⟩
 ·exact⟨rfl,rfl⟩
theorem rh (S:RS) (dev:Int):(S.flush dev).n0=S.n0/\(S.flush dev).n1=S.n1:=by
 unfold RS.flush;split
 ·split
  ·exact⟨(RS.fl_rest S.after dev).2.2.2.1.trans S.after_same.1,(RS.fl_rest S.after dev).2.2.2.2.trans S.after_same.2.1⟩
  ·exact⟨S.after_same.1,S.after_same.2.1⟩
 ·exact⟨rfl,rfl⟩
theorem write_slow (S:RS) (i:Int) (b:List ak):(S.write 1 i b).D0=S.D0:=by
 unfold RS.write;split
 ·split
  ·unfold RS.put;rw[if_neg (by omega)];exact S.after_same.2.2.1
  ·exact S.after_same.2.2.1
 ·rfl
theorem Ra (S:RS) (i:Int) (b:List ak):(S.write 0 i b).D1=S.D1:=by
 unfold RS.write;split
 ·split
  ·unfold RS.put;rw[if_pos rfl];exact S.after_same.2.2.2
  ·exact S.after_same.2.2.2
 ·rfl
theorem Rb (S:RS) (i:Int) (b:List ak) {j:Nat} (hj:(j:Int)≠i):(S.write 0 i b).D0 j=S.D0 j:=by
 unfold RS.write;split
 ·split
  ·unfold RS.put;rw[if_pos rfl];rename_i h _;obtain⟨_,k,rfl,_⟩:=RS.has_lt h;show upd S.after.D0 _ _ j=_;rw[ji _ _ (by simp only[iG];omega),S.after_same.2.2.1]
  ·rw[S.after_same.2.2.1]
 ·rfl
theorem uv (S:RS):(S.flush 1).D0=S.D0:=by
 unfold RS.flush;split
 ·split
  ·unfold RS.fl;rw[if_neg (by omega)];exact S.after_same.2.2.1
  ·exact S.after_same.2.2.1
 ·rfl
theorem Rc (S:RS):(S.flush 0).D1=S.D1:=by
 unfold RS.flush;rw[if_pos (aA rfl)];split
 ·unfold RS.fl;rw[if_pos rfl];exact S.after_same.2.2.2
 ·exact S.after_same.2.2.2
theorem Rd {S T:RS} (h0:T.n0=S.n0) (h1:T.n1=S.n1) (h:∀i,T.rd i=S.rd i):T.opn=S.opn:=by
 have e:T.rd=S.rd:=funext h;unfold RS.opn RS.supAt RS.homes;rw[h0,h1,e]
section
variable {S T:RS} {M:MS} {k:Nat} {b:List Int}
theorem CSit.good (h:CSit S M k):M.g.good:=by obtain⟨p,q,us,h⟩:=h.inv;exact h.good
theorem CSit.len (h:CSit S M k):M.b.length=M.g.bts.toNat/\M.g.bts.toNat<=714:=by
 obtain⟨p,q,us,h⟩:=h.inv;exact⟨h.len,(Geo.nats h.good).b2⟩
theorem CSit.rdy (h:CSit S M k) (hk:k<=90):S.Rdy:=⟨h.n0,h.n1,h.d0,by have:=h.d1;omega,by rw[h.up.fuse];omega,h.few.mono (by omega),h.bb⟩
theorem CSit.ok (h:CSit S M k) (hk:k<=90):M.Ok S:=by
 obtain⟨p,q,us,hI⟩:=h.inv;have:=hI.ok (by omega);exact⟨this.good,this.n0,this.n1,this.sup1,this.gen,this.seq,this.at0,this.used,this.homl,this.homb,this.len,this.bytes⟩
theorem CSit.opn (h:CSit S M k) (hk:k<=90):S.opn=some M:=by
 obtain⟨p,q,us,hI⟩:=h.inv;rw[←Rd (S:=S) (T:=S.fl 0) rfl rfl (nj S 0)];exact hI.opn (by omega)
theorem CSit.le {n:Nat} (h:CSit S M k) (hn:k<=n):CSit S M n:=by
 obtain⟨p,q,us,hI⟩:=h.inv;exact⟨⟨p,q,us,hI.le (by omega)⟩,h.up,h.n0,h.n1,h.d0,by have:=h.d1;omega,h.few.mono (by omega),h.bb⟩
theorem CSit.step (h:CSit S M k) (hu:T.Up) (h0:T.n0=S.n0) (h1:T.n1=S.n1) (d0:S.done<=T.done) (d1:T.done<=S.done+40) (hf:T.Few (10+(k+1))) (hb:T.BB) (he:∀i,i<2+M.g.C+M.g.P->T.rd i=S.rd i):CSit T M (k+1):=by
 obtain⟨p,q,us,hI⟩:=h.inv;have a:=h.d0;have c:=h.d1;exact⟨⟨p,q,us,(hI.part (T:=T.fl 0) h0 h1 (uu T) (hb.fl 0) fun i hi=>by rw[nj,nj];exact he i hi).le (by omega)⟩,hu,by rw[h0];exact h.n0,by rw[h1];exact h.n1,by omega,by omega,hf,hb⟩
theorem CSit.fast (h:CSit S M k) (hk:k<=90) {i:Nat} (hi:2+M.g.C+M.g.P<=i) {v:List ak} (hv:Go.Proofs.YtbeeenembgplmaaGreat.BB v):CSit (S.write 0 i v) M (k+1):=by
 obtain⟨w1,w2⟩:=h.up.write 0 i v;have hn:(S.write 0 i v).n0=S.n0/\(S.write 0 i v).n1=S.n1:=EZ S 0 i v;refine h.step w1 hn.1 hn.2 (by rcases w2 with w | w<;>omega) (by rcases w2 with w | w<;>omega) ((RS.few_write h.few (by omega) 0 i v).mono (by omega)) (h.bb.write 0 i hv) fun j hj=> ?_;unfold RS.rd;rw[Rb S i v (by omega)]
theorem CSit.flush1 (h:CSit S M k):CSit (S.flush 1) M (k+1):=by
 obtain⟨w1,w2⟩:=h.up.flush 1;have hn:=rh S 1;refine h.step w1 hn.1 hn.2 (by rcases w2 with w | w<;>omega) (by rcases w2 with w | w<;>omega) ((RS.few_flush h.few 1).mono (by omega)) (fun j=>by rw[uv];exact h.bb j) fun j hj=> ?_;unfold RS.rd;rw[uv]
theorem Re (h:S.Up):(S.flush 0).D0=fW S.D0 S.n0:=by
 obtain⟨_,h' | h'⟩:=RS.flush0 S
 ·exact h'.2.2
 ·rw[h.ok]at h';cases h'.1
theorem Rf (S:RS) (i:Nat):(fW S.D0 S.n0 i).look=(S.D0 i).look:=by
 unfold fW;split<;>rfl
theorem CSit.flush0 (h:CSit S M k):CSit (S.flush 0) M (k+1)/\(S.flush 0).Dry/\∀i,((S.flush 0).D0 i).look=(S.D0 i).look:=by
 obtain⟨w1,w2⟩:=h.up.flush 0;have hn:=rh S 0;have hD:=Re h.up;have hl:∀i,((S.flush 0).D0 i).look=(S.D0 i).look:=fun i=>by rw[hD];exact Rf S i
 refine⟨h.step w1 hn.1 hn.2 (by rcases w2 with w | w<;>omega) (by rcases w2 with w | w<;>omega) ((RS.few_flush h.few 0).mono (by omega)) (h.bb.flush 0) fun j hj=> ?_,fun i hi=> ?_,hl⟩
 ·unfold RS.rd;rw[hl]
 ·rw[hD];unfold fW;rw[if_pos (by rw[←hn.1];exact hi)]
theorem CSit.commit (h:CSit S M k) (hk:k<=80) (hd:S.Dry) (hl:b.length=M.b.length) (hb:aP b):
  ∃T,S.cmt M b=(T,0)/\CSit T (M.next b) (k+1)/\T.Dry/\T.n0=S.n0/\T.n1=S.n1/\(M.next b).b=b/\T.D1=S.D1/\∀i,2+M.g.C+M.g.P<=i->i<S.n0->(T.D0 i).look=(S.D0 i).look:=by
 obtain⟨p,q,us,hI⟩:=h.inv;have hI0:Inv S M (2*k) p q us:=hI.part rfl rfl hd h.bb fun i hi=>(nj S 0 i).symm;obtain⟨T,e,hT,t0,t1,tb,hc⟩:=RS.bat_spec (M.bats b) S hd h.bb (hI0.bats_ok (by omega) hl hb);have hok:=hI0.bats_ok (by omega) hl hb;obtain⟨u1,u2⟩:=RS.bat_up (M.bats b) S h.up fun l hl' x hx=>(hok l hl').lt x hx;obtain⟨T',hT',hu,_,_,p',q',us',hI'⟩:=hI0.cmt_up h.up (by omega) hl hb;have eT:T'=T/\e=0:=by
  have e1:S.bat (M.bats b)=(T',0):=hT';rw[hT]at e1;exact⟨(congrArg Prod.fst e1).symm,congrArg Prod.snd e1⟩
 obtain⟨rfl,rfl⟩:=eT;have hA:AllW S (M.bats b) T':=by
  rcases hc with⟨_,h⟩ | ⟨h,_⟩
  ·exact h
  ·cases h
 obtain⟨w1,w2,w3⟩:=RS.bat_way (M.bats b) S;obtain⟨v1,v2,v3⟩:=RS.bat_D1 (M.bats b) S fun l hl' x hx=>(hok l hl').lt x hx;have ht:=MS.bats_total hI0 hl;rw[hT]at w1 w2 v1 v2 v3
 dsimp only at w1 w2 v1 v2 v3
 have d0:=h.d0;have d1:=h.d1;refine⟨T',hT',⟨⟨p',q',us', ?_⟩,hu,by rw[t0];exact h.n0,by rw[t1];exact h.n1,by omega,by omega,MM hI'.dry (h.few.mono (by omega)) v1 v3,tb⟩,hA.last.1,t0,t1,hI0.next_b hl,v1,fun i hi hn=> ?_⟩
 ·exact((hI'.part (T:=T'.fl 0) rfl rfl (uu T') (tb.fl 0) fun i _=>nj T' 0 i)).le (by omega)
 ·exact EY (tb i) (h.bb i) (hA.rest hn fun l hl' x hx e=>by have:=QZ hI0 hl l hl' x hx;omega)
theorem Rg (S:RS) (b0 b1:List Int) {i:Nat} (h:(S.D1 i).vs= []):(S.crash b0 b1).D1 i=S.D1 i:=by
 show dN S.D1 (jO S.D1 b1) (cZ S.D1 S.n1) i=_;exact ko fun hm=>qz hm h
theorem CSit.crash (h:CSit S M k) (hd:S.Dry) (b0 b1:List Int):CSit (S.crash b0 b1) M k/\(S.crash b0 b1).Dry/\∀i,i<S.n0->((S.crash b0 b1).D0 i).look=(S.D0 i).look:=by
 obtain⟨p,q,us,hI⟩:=h.inv;have hF:=RS.crash_dry hd h.bb b0 b1;exact⟨⟨⟨p,q,us,hI.part rfl rfl (uu _) (hF.bb.fl 0) fun i hi=>by
  rw[nj,nj];exact hF.else_ i (by have:=hI.room;have e:(S.fl 0).n0=S.n0:=rfl;omega) (by simp)⟩,(RS.crash_up S b0 b1).1,h.n0,h.n1,h.d0,h.d1,RS.few_crash S b0 b1 _,hF.bb⟩,hF.dry,fun i hi=>EY (hF.bb i) (h.bb i) (hF.else_ i hi (by simp))⟩
end
def RS.zs (S:RS):Nat->RS
 | 0=>S
 | n+1=>(S.zs n).write 1 (n:Int) (bf 0)
structure ZsI (n0 n1 n:Nat) (S:RS):Prop where
 n0:S.n0=n0
 n1:S.n1=n1
 D0:S.D0=fun _=>jN
 up:S.Up
 done:S.done=n
 few:S.Few 1
 at_:∀i,(S.D1 i).look=bf 0
 vs:∀i,n<=i->(S.D1 i).vs= []
theorem uw {n0 n1:Nat}:∀n,n<=n1->ZsI n0 n1 n ((gu n0 n1).zs n)
 | 0,_=>⟨rfl,rfl,rfl,BT _ _,rfl,Ca _ _ _,fun _=>rfl,fun _ _=>rfl⟩
 | n+1,h=>by
  have ih:=uw (n0:=n0) (n1:=n1) n (by omega);obtain⟨S,hS⟩:=w9nm ((gu n0 n1).zs n);rw[hS]at ih;show ZsI n0 n1 (n+1) (((gu n0 n1).zs n).write 1 (n:Int) (bf 0));rw[hS];have hh:S.has 1 (n:Int)=true:=by
   unfold RS.has RS.len;rw[if_neg (by omega),if_pos rfl,ih.n1];simp;omega
  have e:S.write 1 (n:Int) (bf 0)={S with done:=S.done+1,D1:=upd S.D1 n ((S.D1 n).add (bf 0))}:=by
   unfold RS.write;rw[if_pos hh,if_pos ih.up.ok,ih.up.after];unfold RS.put;rw[if_neg (by omega)]
   rfl
  have hv:=ih.vs n (aG _);have ha:(S.D1 n).add (bf 0)=⟨(S.D1 n).c, [bf 0]⟩:=by
   rw[Sec.add_few (by rw[hv];simp),hv]
   rfl
  rw[e];refine⟨ih.n0,ih.n1,ih.D0,⟨ih.up.fuse,ih.up.down⟩,by show S.done+1=_;rw[ih.done];rfl,⟨fun i hi=>ih.few.1 i hi,fun i hi=> ?_⟩,fun i=> ?_,fun i hi=> ?_⟩
  ·show(upd S.D1 n _ i).vs.length<=1;by_cases hin:i=n
   ·subst hin;rw[kg,ha];exact aG _
   ·rw[ji _ _ hin];exact ih.few.2 i hi
  ·show(upd S.D1 n _ i).look=_;by_cases hin:i=n
   ·subst hin;rw[kg,ha]
    rfl
   ·rw[ji _ _ hin];exact ih.at_ i
  ·show(upd S.D1 n _ i).vs=_;rw[ji _ _ (by omega)];exact ih.vs i (by omega)
def RS.made (n0 n1 n:Nat) (g:Geo) (b:List Int):RS:=((((gu n0 n1).zs n).flush 1).bat (cU g b)).1
theorem CSit.fmt {n0 n1 n:Nat} (h0:n0<=4096) (h1:n1<=4096) {g:Geo} (hg:g.good) (hf:g.oF<=n0) (hw:g.oW<=n1) (hn:n<=n1) (hn6:n<=64) {b:List Int} (hl:b.length=g.bts.toNat) (hb:aP b):
  CSit (RS.made n0 n1 n g b) (MS.new g b) 1/\(RS.made n0 n1 n g b).Dry/\(RS.made n0 n1 n g b).n0=n0/\(RS.made n0 n1 n g b).n1=n1/\∀i,i<n1->(RS.made n0 n1 n g b).D1 i=jN:=by
 have hz:=uw (n0:=n0) n hn;obtain⟨S,hS⟩:=w9nm ((gu n0 n1).zs n);unfold RS.made;rw[hS]at hz ⊢;obtain⟨w1,w2⟩:=hz.up.flush 1;have hN:=rh S 1;have hfD:(S.flush 1).D1=fW S.D1 S.n1:=by
  unfold RS.flush;rw[if_pos (aD rfl),if_pos hz.up.ok,hz.up.after]
  rfl
 have hD0:(S.flush 1).D0=fun _=>jN:=(uv S).trans hz.D0;obtain⟨S2,hS2⟩:=w9nm (S.flush 1);rw[hS2]at w1 w2 hN hfD hD0 ⊢;have hdry:S2.Dry:=fun i _=>by rw[hD0];rfl
 have hbb:S2.BB:=fun i=>by rw[hD0];exact wz n0 n1 i
 have e0:S2.n0=n0:=hN.1.trans hz.n0;have e1:S2.n1=n1:=hN.2.trans hz.n1;obtain⟨T,hT,hu,t0,t1,hI⟩:=RS.fmt w1 hdry hbb hg (by rw[e0];exact hf) (by rw[e1];exact hw) hl hb;have hok:=wP (S:=S2) hg (by rw[e0];exact hf) hb;obtain⟨w1',w2',w3⟩:=RS.bat_way (cU g b) S2;obtain⟨v1,v2,v3⟩:=RS.bat_D1 (cU g b) S2 fun l hl' x hx=>(hok l hl').lt x hx;have hNn:=Geo.nats hg;have ht:jS (cU g b)<=300:=by
  have:=hNn.c2;have:=hNn.p2;unfold jS cU;simp;omega
 rw[hT]at w1' w2' v1 v2 v3 ⊢
 dsimp only at w1' w2' v1 v2 v3 ⊢
 have hdn:S2.done<=65/\0<=S2.done:=by
  have:=hz.done;rcases w2 with w | w<;>omega
 have hD1:∀i,i<n1->T.D1 i=jN:=fun i hi=>by
  rw[v1,hfD];unfold fW;rw[if_pos (by rw[hz.n1];exact hi),hz.at_]
  rfl
 refine⟨⟨⟨0,1, [],((hI.part (T:=T.fl 0) rfl rfl (uu T) (hI.bb.fl 0) fun i _=>nj T 0 i)).le (by omega)⟩,hu,by rw[t0,e0];exact h0,by rw[t1,e1];exact h1,by omega,by omega,⟨fun i hi=>by rw[hI.dry i hi];exact bc _,fun i hi=> ?_⟩,hI.bb⟩,hI.dry,t0.trans e0,t1.trans e1,hD1⟩;rw[hD1 i (by rw[←e1,←t1];exact hi)];exact bc _
end
section
attribute [-simp] isAgg23 zeroValue23
attribute [-go_sem] aE aL cS
set_option maxRecDepth 100000 in
theorem Rh (g:Geo) (w:ah):(jG 10000 23 (al g.v) (al g.v)).run aj w=.ok true w:=by
 rw[run_equalIn_struct w 9999 23 _ _ (by kernel_rfl) (by kernel_rfl)];have h0:∃f0 f1 f2 f3 f4:Field,aj.fieldsOf 23 =#[f0,f1,f2,f3,f4]/\(f0.name≠ "_" /\f0.type= 3 /\f0.offset=0)/\(f1.name≠ "_" /\f1.type= 3 /\f1.offset=1)/\(f2.name≠ "_" /\f2.type= 3 /\f2.offset=2)/\(f3.name≠ "_" /\f3.type= 3 /\f3.offset=3)/\(f4.name≠ "_" /\f4.type= 3 /\f4.offset=4):=
  ⟨_,_,_,_,_,rfl,⟨by decide,rfl,rfl⟩,⟨by decide,rfl,rfl⟩,⟨by decide,rfl,rfl⟩,⟨by decide,rfl,rfl⟩,⟨by decide,rfl,rfl⟩⟩
 obtain⟨f0,f1,f2,f3,f4,h0,⟨n0,t0,o0⟩,⟨n1,t1,o1⟩,⟨n2,t2,o2⟩,⟨n3,t3,o3⟩,⟨n4,t4,o4⟩⟩:=h0;rw[h0];simp only[Op.eqFields,gK,if_pos n0,if_pos n1,if_pos n2,if_pos n3,if_pos n4,t0,t1,t2,t3,t4,o0,o1,o2,o3,o4];have a0:g.v[0]? =some (ab ac g.b):=rfl;have a1:g.v[1]? =some (ab ac g.s):=rfl;have a2:g.v[2]? =some (ab ac g.y):=rfl;have a3:g.v[3]? =some (ab ac g.a):=rfl;have a4:g.v[4]? =some (ab ac g.r):=rfl;rw[jl Tryz.underlying3 a0,ek,jl Tryz.underlying3 a0,ek,run_equalIn_int w 9998 3 ac ac _ _ Tryz.underlying3,ek];simp only[beq_self_eq_true,Bool.not_true,Bool.false_eq_true,if_false,gK];rw[jl Tryz.underlying3 a1,ek,jl Tryz.underlying3 a1,ek,run_equalIn_int w 9998 3 ac ac _ _ Tryz.underlying3,ek];simp only[beq_self_eq_true,Bool.not_true,Bool.false_eq_true,if_false,gK];rw[jl Tryz.underlying3 a2,ek,jl Tryz.underlying3 a2,ek,run_equalIn_int w 9998 3 ac ac _ _ Tryz.underlying3,ek];simp only[beq_self_eq_true,Bool.not_true,Bool.false_eq_true,if_false,gK];rw[jl Tryz.underlying3 a3,ek,jl Tryz.underlying3 a3,ek,run_equalIn_int w 9998 3 ac ac _ _ Tryz.underlying3,ek];simp only[beq_self_eq_true,Bool.not_true,Bool.false_eq_true,if_false,gK];rw[jl Tryz.underlying3 a4,ek,jl Tryz.underlying3 a4,ek,run_equalIn_int w 9998 3 ac ac _ _ Tryz.underlying3,ek];simp only[beq_self_eq_true,Bool.not_true,Bool.false_eq_true,if_false];first | rfl | simp
def Geo.light (g:Geo):Prop:=g.good->g.r<=60/\g.b<=20
instance (g:Geo):Decidable g.light:=by unfold Geo.light;infer_instance
attribute [local go_sem] nL nM
end
section
section
variable {R:MetaRes} {rb p0 p1 m:Nat} {S:RS} {M:MS} {w0 W W':ah} {own own':Nat->Prop} {v:ak} {bs:List Int} {f:Nat->Prop}
def uy (own:Nat->Prop) (W W':ah):Nat->Prop:=fun k=>own k\/(W.heap.size<=k/\k<W'.heap.size)
theorem gT.plus {P:ef} (hP:IsRes P) (h:gT P w0 W own) (hb:ag W.heap.size W W'):gT P w0 W' (uy own W W'):=h.below hP hb _ fun k hk=>hk
theorem pJ {B:Nat} {t:aR} {C:List ak} (hr:aq W B t C) (hB:own B) (hk:∀k,own k->W'.heap[k]? =W.heap[k]?):aq W' B t C:=(hk B hB).trans hr
theorem gT.forget {P Q:ef} (hQ:IsRes Q) (h:gT (dr P Q) w0 W own):gT P w0 W own:=by
 obtain⟨fQ,_,_,h⟩:=h.split hQ;exact h.less own fun k hk=>aA hk
end
end
section
attribute [-simp] isAgg29 zeroValue29 isAgg23 zeroValue23
attribute [-go_sem] aE aL
theorem Fa (w:ah):(zeroValue 23).run aj w=.ok (al (Geo.mk 0 0 0 0 0).v) w:=by kernel_rfl
def gS:Geo:=⟨8,2,2,4,12⟩
def gN:Geo:=⟨8,2,2,4,4⟩
theorem Ri (w:ah):(df 23 #[(0,ab ac 8),(1,ab ac 2),(2,ab ac 2),(3,ab ac 4),(4,ab ac 12)]).run aj w=.ok (al gS.v) w:=by kernel_rfl
theorem Rj (w:ah):(df 23 #[(0,ab ac 8),(1,ab ac 2),(2,ab ac 2),(3,ab ac 4),(4,ab ac 4)]).run aj w=.ok (al gN.v) w:=by kernel_rfl
theorem Rk:((((((Geo.mk 0 0 0 0 0).v.setIfInBounds 0 (ab ac 8)).setIfInBounds 1 (ab ac 2)).setIfInBounds 2 (ab ac 2)).setIfInBounds 3 (ab ac 4)).setIfInBounds 4 (ab ac 12))=gS.v:=rfl
theorem Rl:(aj.info? 23).map (·.size)=some 5:=by kernel_rfl
theorem Fb (x:ah) (g:Geo):∃y,(aL 23 ⟨x.heap.size,0,none⟩ (al g.v)).run aj (x.alloc (an (Geo.mk 0 0 0 0 0).v 23))=.ok () y/\aq y x.heap.size 23 g.cs/\ag x.heap.size x y:=
 ⟨_,kQ x _ _ g.v Rl rfl (by kernel_rfl),aq.new x _ _,aH x _⟩
attribute [local go_sem] nL nM Fa Ri Rj
theorem ow:gS.In:=by intro n hn;simp only[gS,dy,List.mem_nil_iff,or_false]at hn;omega
section
theorem Rm (w:ah):ap aj 74 #[] w fun e w'=>e=ao (al gS.v)/\ag w.heap.size w w':=by
 obtain⟨y,ST,hr,hb⟩:=Fb w gS;rw[←Rk]at ST;have L0:=cG hr;go_enter func74,ntmps74;go_wp2_with fail;exact bo (ev rfl rfl L0) rfl ⟨rfl,hb⟩
end
end
section
attribute [-simp] isAgg23 zeroValue23 isAgg51 zeroValue51
attribute [-go_sem] aE aL cS
theorem Rn (t:aR) (h:t≠ 23 /\t≠ 51) (a:aF):aE t a=(do if←isAgg t then pure (al (←loadCells a (←sizeOf t)))else load a):=rfl
theorem Ro (t:aR) (h:t≠ 23 /\t≠ 51) (a:aF) (v:ak):aL t a v=(do
  if v.cells.size≠(←sizeOf t)then stuck "storeVar: the value has not the size of the variable"
  storeCells a v.cells.toList):=rfl
attribute [local go_sem] Rn Ro Fa
theorem xT:gS.good:=by decide
end
section
theorem Rp (n0 n1 i:Nat):(gu n0 n1).rd i=bg 64 0:=by
 unfold RS.rd;show byt (jN.look)=_;show byt (bf 0)=_;exact wM 0
theorem Rq (n0 n1:Nat):jQ n0 n1 (bg 64 0)=none:=by
 unfold jQ;rw[if_neg (fun h=>by have:=h.1;rw[wj]at this;cases this)]
theorem Rr {S:RS} (h:∀i,i<2->i<S.n0->S.rd i=bg 64 0):S.opn=none:=by
 have h0:∀i,i<2->S.supAt i=none:=fun i hi=>by
  unfold RS.supAt;split
  ·next hn=>rw[h i hi hn,Rq]
  ·rfl
 unfold RS.opn;rw[h0 0 (by omega),h0 1 (by omega)]
 rfl
theorem Rs (n0 n1:Nat):(gu n0 n1).opn=none:=Rr fun i _ _=>Rp n0 n1 i
theorem Rt {n0 n1:Nat} (h0:n0<=4096) (h1:n1<=4096):(gu n0 n1).Rdy:=⟨h0,h1,fT _,by show(0:Int)<=500000;omega,by show(-1:Int)<=1000000;omega,Ca _ _ _,wz _ _⟩
theorem Geo.least {g:Geo} (h:g.good):9<=g.oF:=by
 have hN:=Geo.nats h;have:=hN.f;have:=hN.c1;have:=hN.p1;have:=hN.s1;omega
def Ru (B:Nat) (W:ah):Type:={x:ah // x.heap[B]? =W.heap[B]?}
instance (B:Nat) (W:ah):Nonempty (Ru B W):=⟨⟨W,rfl⟩⟩
def Rv (B Z:Nat) (W:ah):Type:={x:ah // x.heap[B]? =W.heap[B]? /\x.heap[Z]? =W.heap[Z]?}
instance (B Z:Nat) (W:ah):Nonempty (Rv B Z W):=⟨⟨W,rfl,rfl⟩⟩
end
section
attribute [-simp] isAgg51 zeroValue51 isAgg23 zeroValue23 isAgg47 zeroValue47 isAgg156 zeroValue156
attribute [-go_sem] aE aL cS
attribute [local go_sem] kr kt hU ia bC bD en Oper.semAt_some
def dB (G:Geo):ST:=⟨bg G.sg.slots (-1), [],1,0,0, []⟩
theorem rj {G:Geo} (h:G.good):iF G (dB G)=true:=by
 rw[ni];refine⟨h, ?_⟩;have hd:fV G.sg (bg G.sg.slots (-1))=true:=by
  unfold fV;simp only[iq,decide_true,jX,iZ,dJ];intro i hi;unfold km;simp[hi]
 unfold fE dB;rw[hd]
 rfl
theorem Rw (G:Geo):dX (dB G).d= []:=by
 unfold dX dB;rw[List.filter_eq_nil_iff];rintro⟨x,i⟩ hx;have:=(List.mk_mem_zipIdx_iff_getElem?.1 hx);have:=dp this;have:=List.eq_of_mem_replicate this;simp[this]
theorem Rx (G:Geo):kK G (dB G).d=gz G.s.toNat G.y.toNat:=by
 unfold kK;rw[Rw]
 rfl
theorem Ry {w:ah} (G:Geo) (hi:G.In) (hg:G.good):ap aj 82 #[al G.v] w fun e w'=>∃q,e=ao (aQ #[bI q,ab ac 0])/\q.nx=1/\q.kd=0/\q.id=0/\StO w.heap.size w' q (dB G).d [] []/\ag w.heap.size w w':=by
 obtain⟨ok,e⟩:=Geo.sg_ok hg;have:=QO (w:=w) G.sg ok G.r (by rw[e];exact hi) (by rw[e];exact hg);rw[←SG.geo_v,e]at this;exact this.mono fun e' y ⟨x,n,c,h1,h2,h3⟩=>⟨⟨(x,n,c),(none,0,0),1,0,0,(none,0,0)⟩,h1,rfl,rfl,rfl,⟨h2,fD.nil _ _,dT.nil _ _⟩,h3⟩
structure FoB (B rb:Nat) (g:Geo) (X:ah):Prop where
 b0:aq X B 31 [am (some ⟨rb,0,none⟩)]
 b1:aq X (B+1) 23 g.cs
 b2:aq X (B+2) 35 [am none]
 b3:aq X (B+3) 32 [ab ac 0]
theorem FoB.keep {B rb:Nat} {g:Geo} {X Y:ah} (h:FoB B rb g X) (hk:∀j,B<=j->j<B+4->Y.heap[j]? =X.heap[j]?):FoB B rb g Y:=
 ⟨(hk B (by omega) (by omega)).trans h.b0,(hk (B+1) (by omega) (by omega)).trans h.b1,(hk (B+2) (by omega) (by omega)).trans h.b2,(hk (B+3) (by omega) (by omega)).trans h.b3⟩
theorem FoB.below {B rb:Nat} {g:Geo} {X Y:ah} (h:FoB B rb g X) (hb:ag X.heap.size X Y):FoB B rb g Y:=h.keep fun j h1 h2=>hb.block j (by have:=h.b3.lt;omega)
theorem FoB.turn {B rb:Nat} {g:Geo} {X Y:ah} {f1 f2:Nat->Prop} (h:FoB B rb g X) (hT:Turn f1 f2 X Y) (hf:∀k,f1 k->k<B\/B+4<=k):FoB B rb g Y:=h.keep fun j h1 h2=>hT.out j (by have:=h.b3.lt;omega) fun hj=>by have:=hf j hj;omega
theorem FoB.new (w:ah) (rb:Nat) (g:Geo):∃W,(((w.alloc (an #[am (some ⟨rb,0,none⟩)] 31)).alloc (an g.v 23)).alloc (an #[am none] 35)).alloc (an #[ab ac 0] 32)=W/\FoB w.heap.size rb g W/\ag w.heap.size w W/\W.heap.size=w.heap.size+4:=by
 refine⟨_,rfl, ?_, ?_,by simp⟩
 ·obtain⟨X1,h1⟩:=w9nm (w.alloc (an #[am (some ⟨rb,0,none⟩)] 31));obtain⟨X2,h2⟩:=w9nm (X1.alloc (an g.v 23));obtain⟨X3,h3⟩:=w9nm (X2.alloc (an #[am none] 35));have z1:X1.heap.size=w.heap.size+1:=by rw[←h1,bO]
  have z2:X2.heap.size=w.heap.size+2:=by rw[←h2,bO,z1]
  have z3:X3.heap.size=w.heap.size+3:=by rw[←h3,bO,z2]
  rw[h1,h2,h3];have r0:aq X1 w.heap.size 31 [am (some ⟨rb,0,none⟩)]:=by rw[←h1];exact aq.new w _ _
  have r1:aq X2 (w.heap.size+1) 23 g.cs:=by rw[←h2,←z1];exact aq.new X1 _ _
  have r2:aq X3 (w.heap.size+2) 35 [am none]:=by rw[←h3,←z2];exact aq.new X2 _ _
  have r3:aq (X3.alloc (an #[ab ac 0] 32)) (w.heap.size+3) 32 [ab ac 0]:=by rw[←z3];exact aq.new X3 _ _
  have c2:ag X1.heap.size X1 X2:=by rw[←h2];exact aH _ _
  have c3:ag X2.heap.size X2 X3:=by rw[←h3];exact aH _ _
  have c4:=aH X3 (an #[ab ac 0] 32);exact⟨((r0.below c2).below c3).below c4,(r1.below c3).below c4,r2.below c4,r3⟩
 ·exact((((aI _ w).alloc (aG _) _).alloc (by simp) _).alloc (by simp;omega) _).alloc (by simp;omega) _
theorem Fc {x:ah} {B:Nat} {p:Option aF} (h:aq x B 35 [am p]):(aE 35 ⟨B,0,none⟩).run aj x=.ok (am p) x:=by
 have c:=h.cell 0 _ rfl;simp[go_sem,c]
theorem Fd {x:ah} {B:Nat} {z:Int} (h:aq x B 32 [ab ac z]):(aE 32 ⟨B,0,none⟩).run aj x=.ok (ab ac z) x:=by
 have c:=h.cell 0 _ rfl;simp[go_sem,c]
section
theorem Rz {rb p0 p1:Nat} {S:RS} {w:ah} {f:Nat->Prop} (h:aU rb p0 p1 S w f) (g:Geo) (hi:g.In) (hn:¬(g.good/\g.oF<=S.n0/\g.oW<=S.n1)):ap aj 13 #[am (some ⟨rb,0,none⟩),al g.v] w fun e w'=>e=ao (aQ #[am none,ab ac 1])/\ag w.heap.size w w':=by
 obtain⟨W,hW,hF,hB,hz⟩:=FoB.new w rb g;have HFI:=ae (EX (h.beside hB) g hi);rw[decide_eq_false hn]at HFI;obtain⟨B,hBB⟩:=w9nm w.heap.size;rw[hBB]at hF;have HF:=ae hF;have HB:=ae hB;have HSZ:=ae hBB;have c0:=hF.b0.cell 0 _ rfl;have L1:=cG hF.b1;clear h hi hn hF hB;go_enter func13,ntmps13;go_wp2_with fail;refine HFI.out.mono ?_;rintro e x ⟨rfl,hb⟩;have hx:=HF.out.below hb;have f2:=hx.b2.frozen 0;have d2:=hx.b2.cell 0 _ rfl;have HX:=ae hx;obtain⟨x1,hx1⟩:=w9nm (x.setCell ⟨B+2,0,none⟩ (am none));have r3:aq x1 (B+3) 32 [ab ac 0]:=by rw[←hx1];exact(eG x ⟨B+2,0,none⟩ _ (B+3) (by simp)).trans hx.b3
 have r2:aq x1 (B+2) 35 [am none]:=by rw[←hx1];exact hx.b2.set 0 _
 have f3:=r3.frozen 0;have d3:=r3.cell 0 _ rfl;obtain⟨x2,hx2⟩:=w9nm (x1.setCell ⟨B+3,0,none⟩ (ab ac 1));have q3:aq x2 (B+3) 32 [ab ac 1]:=by rw[←hx2];exact r3.set 0 _
 have q2:aq x2 (B+2) 35 [am none]:=by rw[←hx2];exact(eG x1 ⟨B+3,0,none⟩ _ (B+2) (by simp)).trans r2
 have LA:=Fc q2;have LE:=Fd q3;have HY:Hid (ag w.heap.size w x2):=by
  show ag _ _ _;rw[←hx2,←hx1];exact((HB.out.trans (hb.mono HB.out.size)).setCell (p:=⟨B+2,0,none⟩) (by show _<=B+2;omega) _).setCell (p:=⟨B+3,0,none⟩) (by show _<=B+3;omega) _
 clear hb hx r3 r2 q3 q2 c0 L1;go_wp2_with fail;refine bo (za rfl rfl rfl LA LE) rfl ⟨rfl,HY.out⟩
end
theorem RB {n0 n1 k:Nat} {S:RS} (h:ZsI n0 n1 k S) (hk:k<n1) (hk6:k<=64):S.Fit/\S.Few 255/\S.writeE 1 (k:Int)=0:=by
 refine⟨RS.fit (by rw[h.up.fuse];decide) (by rw[h.done];omega) (by rw[h.done];omega),h.few.mono (by decide), ?_⟩;have hh:S.has 1 (k:Int)=true:=by
  unfold RS.has RS.len;rw[if_neg (by omega),if_pos rfl,h.n1];simp;omega
 unfold RS.writeE;rw[if_pos hh,if_pos h.up.ok]
theorem RD {n0 n1 k:Nat} {S:RS} (h:ZsI n0 n1 k S) (hk6:k<=64) (h0:n0<=4096) (h1:n1<=4096):S.Fit/\S.flushE 1=0/\(S.flush 1).Rdy/\(S.flush 1).Up/\(S.flush 1).n0=n0/\(S.flush 1).n1=n1:=by
 obtain⟨w1,w2⟩:=h.up.flush 1;have hn:=rh S 1;have hE:S.flushE 1=0:=by unfold RS.flushE;rw[if_pos (aD rfl),if_pos h.up.ok]
 have hd:=h.done;refine⟨RS.fit (by rw[h.up.fuse];decide) (by rw[h.done];omega) (by rw[h.done];omega),hE,⟨by rw[hn.1,h.n0];exact h0,by rw[hn.2,h.n1];exact h1,by rcases w2 with w | w<;>omega,by rcases w2 with w | w<;>omega,by rw[w1.fuse];decide,(RS.few_flush h.few 1).mono (by decide),fun i=>by rw[uv,h.D0];exact wz n0 n1 i⟩,w1,hn.1.trans h.n0,hn.2.trans h.n1⟩
theorem Fe (G:Geo):∀x ∈(dB G).d,fG x:=fun x hx=>by
 have:=List.eq_of_mem_replicate hx;subst this;unfold fG;omega
section
theorem RE {rb p0 p1 n0 n1:Nat} {w:ah} {f:Nat->Prop} (h:aU rb p0 p1 (gu n0 n1) w f) (h0:n0<=4096) (h1:n1<=4096) (g:Geo) (hi:g.In) (hg:g.good) (hf:g.oF<=n0) (hw:g.oW<=n1):
  ap aj 13 #[am (some ⟨rb,0,none⟩),al g.v] w fun e w'=>∃b:CB,(b.rb=rb/\b.p0=p0/\b.p1=p1)/\e=ao (aQ #[b.v,ab ac 0])/\
   ∃f',ft b (RS.made n0 n1 g.b.toNat g (bK g.sg (dB g))) (MS.new g (bK g.sg (dB g))) (gz g.s.toNat g.y.toNat) (dB g) w' f'/\Turn f f' w w':=by
 obtain⟨W,hW,hF,hB,hz⟩:=FoB.new w rb g;have HFI:=ae (EX (h.beside hB) g hi);rw[decide_eq_true (show g.good/\g.oF<=((gu n0 n1).n0:Int)/\g.oW<=((gu n0 n1).n1:Int)from⟨hg,hf,hw⟩)]at HFI;obtain⟨B,hBB⟩:=w9nm w.heap.size;rw[hBB]at hF hz;have HLT:Hid (∀k,f k->k<B):=fun k hk=>by rw[←hBB];exact(aU.isRes _ _ _ _).lt h k hk
 obtain⟨m,hm⟩:=mO (show 0<=g.b by have:=hg.1.1;omega);have hm64:m<=64:=by have:=hg.1.2.1;omega
 have hoW:g.oW=g.b+g.a:=by unfold Geo.oW;rw[if_pos hg]
 have hmn:m<=n1:=by have:=hg.1.2.2.2.2.2.2.1;omega
 have HRW:=ae (h.beside hB);have HF:=ae hF;have HB:=ae hB;have HSZ:=ae hBB;have HZ:=ae hz;have HG:=ae (And.intro hi (And.intro hg (And.intro hf (And.intro hw (And.intro h0 h1)))));have HM:=ae hm;have c0:=hF.b0.cell 0 _ rfl;have L1:=cG hF.b1;clear h hi hg hf hw h0 h1 hF hB hz hm hoW;refine(callsIn_wide (n:=3)).1 ?_;refine gA func13 rfl trivial ?_ rfl;simp only[ntmps13,cJ,bz,cx,Nat.reduceAdd,Nat.reduceSub,cO,cP,cQ,cR,cy,cC]
 gi_wp2_with fail
 refine⟨trivial, ?_⟩;refine(callsIn_wide.2 HFI.out).mono ?_;rintro e x1 ⟨rfl,hb⟩;have HX1:=ae hb;have hF1:=HF.out.below hb;have c1:=hF1.b0.cell 0 _ rfl;have L2:=cG hF1.b1;have HF1:=ae hF1;clear hb hF1 c0 L1 HFI hW
 gi_wp2_with fail
 refine⟨trivial, ?_⟩;refine(PQ _ _ trivial rfl g x1).mono ?_;rintro e W3 ⟨rfl,hW3⟩;have hb3:ag x1.heap.size x1 W3:=by rw[hW3];exact aH x1 _
 have hz3:W3.heap.size=x1.heap.size+1:=by rw[hW3,bO]
 have hr3:aq W3 x1.heap.size 23 g.cs:=by rw[hW3];exact aq.new x1 _ _
 obtain⟨G,hG⟩:=w9nm x1.heap.size;rw[hG]at hr3 hz3;have HB3:w9h w W3:=(HB.out.trans (HX1.out.mono HB.out.size)).trans (hb3.mono (by have:=HB.out.size;have:=HX1.out.size;omega));have HGB:Hid (B+4<=G):=by show _<=_;rw[←hG,←HZ.out];exact HX1.out.size
 have HF3:=ae (HF1.out.below hb3);have HR3:Hid (aU rb p0 p1 (gu n0 n1) W3 f):=(HRW.out.beside HX1.out).beside hb3;have HG3:=ae hr3;have HZ3:=ae hz3;rw[hG];clear hW3 hb3 hr3 hz3 hG c1 L2 HRW HX1 HF1 HF HB HZ
 gi_wp2
 simp only[Nat.add_assoc,Nat.reduceAdd];refine oQ (n:=3) rfl (by omega) (gf:= 168) (lb:=#[am (some ⟨G,0,none⟩)]) rfl trivial (enters_of func168 (by kernel_rfl) rfl)
  (PT 2 (by omega) G m (by omega) W3) (aI _ _) (fun _=>rfl)
  (fun k W=>∃fk,aU rb p0 p1 ((gu n0 n1).zs k) W fk/\Turn f fk W3 W)
  (fun _ _ _=>False)
  ?hR ?hI ?hIx ⟨f,HR3.out,Turn.refl _ _⟩
  (fun k a' W=>a'={tmps:=#[am (some ⟨rb,0,none⟩),al g.v,am (some ⟨B,0,none⟩),am (some ⟨B+1,0,none⟩),am (some ⟨B+2,0,none⟩),am (some ⟨B+3,0,none⟩),ab ac (k:Int),az,az,az,az,az,az,az,az,am (some ⟨rb,0,none⟩),al g.v,.bool true,.bool false,al g.v,.func (.func 168) #[] #[am (some ⟨G,0,none⟩)],ab ac (k:Int),az,az,az,az,az,az,az,az,az,az,az,az,az,az,az,az,az,az,az,az,az,az,az,az,az,az,az,az,az,az,az,az,az,az,az,az,az],defers:= []})
  ?hAx ?assign ?body ?done ?stop
 case hR=>
  rintro k W ⟨fk,a1,a2⟩;have r:aq W G 23 g.cs:=(a2.out G (by rw[HZ3.out];omega) (fun h=>by have:=HLT.out _ h;have:=HGB.out;omega)).trans HG3.out;have:=r.cell 0 _ rfl;rw[←HM.out];exact this
 case hI=>
  rintro k X Y row ⟨fk,a1,a2⟩ hg hr;exact⟨fk,(aU.isRes _ _ _ _).grown a1 hg fun r e=>(hr r e).2,a2.kept hg fun r e=>(hr r e).1⟩
 case hIx=>exact fun _ _ _ _ _ h _ _=>h.elim
 case hAx=>
  rintro k a' _ Y Z row h1 hg hr;exact h1
 case assign=>
  rintro l k W K hkm hI hK;have hK:=hK _ W (KeepsFrom.refl _ _) hI rfl;clear hI hkm
  gi_wp2
  exact hK
 case body=>
  rintro l k a' W _ _ hkm ⟨fk,a1,a2⟩ rfl;have hF:FoB B rb g W:=HF3.out.turn a2 fun j hj=>aA (HLT.out j hj);have c0:=hF.b0.cell 0 _ rfl;have hz:=uw (n0:=n0) (n1:=n1) k (by omega);obtain⟨z1,z2,z3⟩:=RB hz (by omega) (by omega);have hWR:=a1.write z1 z2 1 (k:Int) (eV 0);rw[z3]at hWR;have HWR:Hid (ap aj 63 #[am (some ⟨rb,0,none⟩),ab ac 1,ab ac (k:Int),al cF] W fun e w'=>e=ao (ab ac 0)/\∃f',aU rb p0 p1 ((gu n0 n1).zs (k+1)) w' f'/\Turn fk f' W w'):=hWR;have HA:=ae a2;clear a1 a2 hF hz z1 z2 z3 hWR hkm
  gi_wp2_with fail
  refine⟨trivial, ?_⟩;refine(CallsIn.inRound l (callsIn_wide.2 HWR.out)).mono ?_;rintro e W' ⟨rfl,f',q1,q2⟩;have HQ:=ae (And.intro q1 q2);clear q1 q2 c0
  gi_wp2
  exact⟨HQ.out.2.others.from _,f',HQ.out.1,HA.out.trans HQ.out.2⟩
 case done=>
  rintro D Wd hD ⟨fL,a1,a2⟩ hK;have hFd:FoB B rb g Wd:=HF3.out.turn a2 fun j hj=>aA (HLT.out j hj);have hfL:∀k,fL k->k<B\/B+4<=k:=fun k hk=>by
   rcases a2.new k hk with h | h
   ·exact aA (HLT.out k h)
   ·right;have:=HZ3.out;have:=HGB.out;omega
  have HWD:Hid (B+4<=Wd.heap.size/\B+4<=D):=by have:=a2.size;have:=HZ3.out;have:=HGB.out;exact⟨by omega,by omega⟩
  have hz:=uw (n0:=n0) m hmn;obtain⟨hi,hg,hf,hw,h0,h1⟩:=HG.out;obtain⟨z1,z2,z3,z4,z5,z6⟩:=RD hz hm64 h0 h1;obtain⟨S0,hS0⟩:=w9nm ((gu n0 n1).zs m);rw[hS0]at a1 z1 z2 z3 z4 z5 z6;have hFL:=a1.flush z1 1;rw[z2]at hFL;have HFL:=ae hFL;obtain⟨S1,hS1⟩:=w9nm (S0.flush 1);rw[hS1]at HFL z3 z4 z5 z6;have HFD:=ae hFd;have HfL:=ae hfL;have HT2:=ae a2;have HS1:=ae (And.intro z3 (And.intro z4 (And.intro z5 z6)));have HMD:Hid (RS.made n0 n1 m g (bK g.sg (dB g))=(S1.bat (cU g (bK g.sg (dB g)))).1):=by show _=_;unfold RS.made;rw[hS0,hS1]
  have HK:=ae hK;have HDD:=ae hD;have c0:=hFd.b0.cell 0 _ rfl;clear a1 a2 hFd hfL hz hi hg hf hw h0 h1 z1 z2 z3 z4 z5 z6 hS0 hS1 hFL hK hD
  gi_wp2_with fail
  refine⟨trivial, ?_⟩;refine(callsIn_wide.2 HFL.out).mono ?_;rintro e x5 ⟨rfl,f5,hR5,hT5⟩;have hF5:FoB B rb g x5:=HFD.out.turn hT5 HfL.out;have L5:=cG hF5.b1;have HR5:=ae hR5;have HT5:=ae hT5;have HF5:=ae hF5;clear hR5 hT5 hF5 c0
  gi_wp2_with fail
  refine⟨trivial, ?_⟩;refine(callsIn_wide.2 (Ry g HG.out.1 HG.out.2.1)).mono ?_;rintro e x6 ⟨q,rfl,n1',n2',n3',hO,hb6⟩;have hSt:=gU.made (s:=dB g) hO n1' n2' n3';have hSA:StA x6 q (dB g).d [] []:=⟨hO.sl,Fe g,hO.is⟩;obtain⟨N,hN⟩:=w9nm x5.heap.size;rw[hN]at hSt;have ST:=se x6 q;obtain⟨V,hV⟩:=w9nm (x6.alloc (an (aW q).toArray 47));have bV:ag x6.heap.size x6 V:=by rw[←hV];exact aH _ _
  have rV:aq V x6.heap.size 47 (aW q):=by rw[←hV];exact aq.new _ _ _
  rw[hV]at ST;obtain⟨C9,hC9⟩:=w9nm x6.heap.size;rw[hC9]at ST rV;have KV:w9h x5 V:=hb6.trans (bV.mono hb6.size);have LV:=fg rV;have HFV:=ae (HF5.out.below KV.out);have LGV:=cG HFV.out.b1;have HSV:=ae ((gU.isRes _ _).below hSt bV);have HRV:=ae rV;have HEN:=ae (xS g HG.out.1 (hSA.below bV) ⟨bc _,fun s hs=>by cases hs⟩ (bc _));rw[n1',n2',n3']at HEN;have HSZ6:Hid (N<=C9/\N=x5.heap.size/\C9<V.heap.size/\∀k,From N x6 k->k<C9):=⟨by rw[←hN,←hC9];exact hb6.size,hN.symm,rV.lt,fun k hk=>by obtain⟨o,ho,_⟩:=hk.2;rw[←hC9];exact(bL.1 ho).1⟩;clear hO hSt hSA bV rV hV hN hb6 L5 n1' n2' n3'
  gi_wp2_with fail
  refine⟨trivial, ?_⟩;refine(callsIn_wide.2 HEN.out).mono ?_;rintro e x7 ⟨u,c,rfl,⟨hEG, -⟩,hb7⟩;clear hC9;obtain⟨rfl,hOU⟩:=hEG (rj HG.out.2.1);have K7:=w9bt KV hb7;have hF7:=HFV.out.below hb7;have c7:=hF7.b0.cell 0 _ rfl;have L7:=cG hF7.b1;have hlt5:=(aU.isRes _ _ _ _).lt HR5.out;have hlE:=ut (rj HG.out.2.1);have hFM:=qW.format ((aU.isRes _ _ _ _).below HR5.out K7.out) HS1.out.1 HS1.out.2.1 HG.out.1 HG.out.2.1 (by rw[HS1.out.2.2.1];exact HG.out.2.2.1) (by rw[HS1.out.2.2.2];exact HG.out.2.2.2.1) (Sl.of_owns hOU) (rf (rj HG.out.2.1) (fun t ht=>by cases ht)) (by have:=hlE.1;unfold Geo.oB at this;rw[if_pos HG.out.2.1]at this;show(bK g.sg (dB g)).length=g.bts.toNat;omega)
   (fun _ b off len cap e hb=>by have h1:=(hOU.lt b (by rw[e];rfl)).1;have h2:=hlt5 b hb;have h3:=KV.out.size;omega)
  have HFM:=ae hFM;have HF7:=ae hF7;have HS7:=ae ((gU.isRes _ _).below HSV.out hb7);have HR7:=ae (HRV.out.below hb7);have HL5:=ae hlt5;have HBS:Hid (V.heap.size<=x7.heap.size):=hb7.size;obtain⟨ua,un,uc,hu⟩:∃a n c,u=af a n c:=by
   rcases hOU.2 with⟨e,_⟩ | ⟨g,cap,cur,e,_⟩
   ·exact⟨_,_,_,e⟩
   ·exact⟨_,_,_,e⟩
  subst hu;clear hEG hOU hb7 hF7 hlt5 hlE hFM LV LGV ST
  gi_wp2_with fail
  refine⟨trivial, ?_⟩;refine(callsIn_wide.2 HFM.out).mono ?_;rintro e x8 ⟨mb,rfl,f8,hR8,hT8⟩;obtain⟨fr,fm,hRig,hMem,hdis,hf8⟩:=hR8;have hMem:eR mb rb (MS.new g (bK g.sg (dB g))) x8 fm:=hMem;have hf5:∀k,f5 k->k<B\/B+4<=k:=fun k hk=>by
   rcases HT5.out.new k hk with h | h
   ·exact HfL.out k h
   ·right;have:=HWD.out.1;omega
  have hN6:=HSZ6.out;have h57:x5.heap.size<=x7.heap.size:=K7.out.size;have hC7:=HBS.out;have hF8:=HF7.out.turn hT8 hf5;have hS8:gU q (dB g) x8 (From N x6):=(gU.isRes _ _).out HS7.out fun k hk=>hT8.out k (by have:=hN6.2.2.2 k hk;omega) fun h=>by have:=HL5.out k h;have:=hk.1;omega
  have hR9:aq x8 C9 47 (aW q):=(hT8.out C9 (by omega) fun h=>by have:=HL5.out C9 h;omega).trans HR7.out;have c8:=hF8.b0.cell 0 _ rfl;have L8:=fg hR9;have hMS:dr (eR mb rb (MS.new g (bK g.sg (dB g)))) (gU q (dB g)) x8 (fun k=>fm k\/From N x6 k):=⟨fm,From N x6,hMem,hS8,fun k h1 h2=>by
   have h3:=hN6.2.2.2 k h2;rcases hT8.new k (by rw[hf8];exact aD h1)with h | h
   ·have:=HL5.out k h;have:=h2.1;omega
   ·omega,rfl⟩
  have HAS:=ae (EK p0 p1 (M:=MS.new g (bK g.sg (dB g))) HG.out.2.1 hMS (by unfold dB;have:=Geo.bounds HG.out.2.1.1;simp only[iq];have:=(Geo.sg_ok HG.out.2.1).1;have:=kP this.s8 this.y4;unfold SG.slots;omega) (fun x hx=>(Fe g x hx).2));have HRG:=ae hRig;have HDS:=ae hdis;have H8:=ae hf8;have HT8:=ae hT8;have HF8:=ae hF8;have HM8:=ae ((eR.isRes _ _ _).lt hMem);have H5B:=ae hf5;clear hRig hMem hdis hf8 hT8 hf5 hN6 h57 hC7 hF8 hS8 hR9 hMS HFM c7 L7
  gi_wp2_with fail
  refine⟨trivial, ?_⟩;refine(callsIn_wide.2 HAS.out).mono ?_;rintro e x9 ⟨b,hbb,rfl,⟨f9,hC,hf9⟩,hb9⟩;have hx9:=HF8.out.below hb9;have f2:=hx9.b2.frozen 0;have d2:=hx9.b2.cell 0 _ rfl;obtain⟨y1,hy1⟩:=w9nm (x9.setCell ⟨B+2,0,none⟩ (am (some ⟨b.C,0,none⟩)));have r3:aq y1 (B+3) 32 [ab ac 0]:=by rw[←hy1];exact(eG x9 ⟨B+2,0,none⟩ _ (B+3) (by simp)).trans hx9.b3
  have r2:aq y1 (B+2) 35 [am (some ⟨b.C,0,none⟩)]:=by rw[←hy1];exact hx9.b2.set 0 _
  have f3:=r3.frozen 0;have d3:=r3.cell 0 _ rfl;obtain⟨y2,hy2⟩:=w9nm (y1.setCell ⟨B+3,0,none⟩ (ab ac 0));have q3:aq y2 (B+3) 32 [ab ac 0]:=by rw[←hy2];exact r3.set 0 _
  have q2:aq y2 (B+2) 35 [am (some ⟨b.C,0,none⟩)]:=by rw[←hy2];exact(eG y1 ⟨B+3,0,none⟩ _ (B+2) (by simp)).trans r2
  have g1:x9.grownBy y1 (some (B+2)):=by rw[←hy1];exact fH x9 (B+2) 0 _
  have g2:y1.grownBy y2 (some (B+3)):=by rw[←hy2];exact fH y1 (B+3) 0 _
  have hDs:D<Wd.heap.size:=(bL.1 HK.out).1;have hD5:x5.heap[D]? =some (.deferred (some [])):=HT5.out.others.same D _ HK.out rfl;have hD8:x8.heap[D]? =some (.deferred (some [])):=HT8.out.others.same D _ (((K7.out).block D (bL.1 hD5).1).trans hD5) rfl;have hD9:x9.heap[D]? =some (.deferred (some [])):=(hb9.block D (bL.1 hD8).1).trans hD8;have hDw:=HWD.out;have hDy1:y1.heap[D]? =some (.deferred (some [])):=(g1.block D (bL.1 hD9).1 (fun e=>by cases e;omega)).trans hD9;have hDy:y2.heap[D]? =some (.deferred (some [])):=(g2.block D (bL.1 hDy1).1 (fun e=>by cases e;omega)).trans hDy1;have HDY:=ae hDy;obtain⟨WF,hWF⟩:=w9nm (y2.putObj D (.deferred none));have g3:y2.grownBy WF (some D):=by rw[←hWF];exact grownBy_putObj' y2 D (.deferred none)
  have hnc:∀r,some D=some r->∃o:Obj,y2.heap[r]? =some o/\o.isCells=false:=fun r e=>by cases e;exact⟨_,hDy,rfl⟩
  have LA:=Fc ((g3.block (B+2) q2.lt (fun e=>by cases e;omega)).trans q2:aq WF (B+2) 35 [am (some ⟨b.C,0,none⟩)]);have LE:=Fd ((g3.block (B+3) q3.lt (fun e=>by cases e;omega)).trans q3:aq WF (B+3) 32 [ab ac 0]);have FIN:Hid (∃b':CB,(b'.rb=rb/\b'.p0=p0/\b'.p1=p1)/\Ending.returned (aQ #[am (some ⟨b.C,0,none⟩),ab ac 0])=ao (aQ #[b'.v,ab ac 0])/\
    ∃f',ft b' (RS.made n0 n1 g.b.toNat g (bK g.sg (dB g))) (MS.new g (bK g.sg (dB g))) (gz g.s.toNat g.y.toNat) (dB g) WF f'/\Turn f f' w WF):=by
   refine⟨b,hbb,rfl, ?_⟩;obtain⟨e1,e2,e3⟩:=hbb;subst e1 e2 e3;have hgm:g.b.toNat=m:=by rw[HM.out];rfl
   rw[hgm,HMD.out];rw[show(MS.new g (bK g.sg (dB g))).g=g from rfl,Rx]at hC;have hlr:=(aU.isRes _ _ _ _).lt HRG.out;have hr9:=(aU.isRes _ _ _ _).below HRG.out hb9;have hN6:=HSZ6.out;have h57:x5.heap.size<=x7.heap.size:=K7.out.size;have hV7:=HBS.out;have h78:=HT8.out.size;have hT8:=HT8.out;have h5s:B+4<=x5.heap.size:=by have:=HT5.out.size;omega
   have hrb:∀k,fr k->k<B\/B+4<=k:=fun k hk=>by
    rcases hT8.new k (by rw[H8.out];exact aA hk)with h | h
    ·exact H5B.out k h
    ·right;omega
   have h9b:∀k,f9 k->k<B\/B+4<=k:=fun k hk=>by
    rcases hf9 k hk with(h | h) | h
    ·rcases hT8.new k (by rw[H8.out];exact aD h)with h | h
     ·exact H5B.out k h
     ·right;omega
    ·right;have:=h.1;omega
    ·right;omega
   have hsep:ft b (S1.bat (cU g (bK g.sg (dB g)))).1 (MS.new g (bK g.sg (dB g))) (gz g.s.toNat g.y.toNat) (dB g) x9 (fun k=>fr k\/f9 k):=⟨fr,f9,hr9,hC,fun k h1 h2=>by
    have hk8:=hlr k h1;rcases hf9 k h2 with(h | h) | h
    ·exact HDS.out k h1 h
    ·have h3:=hN6.2.2.2 k h;have h4:=h.1;rcases hT8.new k (by rw[H8.out];exact aA h1)with h | h
     ·have:=HL5.out k h;omega
     ·omega
    ·omega,rfl⟩
   have hIs:=ft.isRes b (S1.bat (cU g (bK g.sg (dB g)))).1 (MS.new g (bK g.sg (dB g))) (gz g.s.toNat g.y.toNat) (dB g);have hb2:∀k,(fr k\/f9 k)->k≠B+2/\k≠B+3:=fun k hk=>by
    rcases hk with hk | hk
    ·have:=hrb k hk;omega
    ·have:=h9b k hk;omega
   have s1:=hIs.out hsep fun k hk=>g1.block k (hIs.lt hsep k hk) (fun e=>by have:=(hb2 k hk).1;cases e;omega);have s2:=hIs.out s1 fun k hk=>g2.block k (hIs.lt s1 k hk) (fun e=>by have:=(hb2 k hk).2;cases e;omega);have s3:=hIs.grown s2 g3 hnc;refine⟨_,s3, ?_⟩;have t1:Turn f f w W3:=Turn.of_below HB3.out;have t4:Turn f5 (fun k=>f5 k\/From N x6 k) x5 x7:=(Turn.of_below K7.out).less fun k hk=>hk.imp id fun h=>by have:=h.1;omega
   have t5:=hT8.frame (From N x6);have t6:Turn (fun k=>f8 k\/From N x6 k) (fun k=>fr k\/f9 k) x8 x9:=(Turn.of_below hb9).less fun k hk=>by
    rcases hk with hk | hk
    ·exact aA (aA (by rw[H8.out];exact aA hk))
    ·rcases hf9 k hk with(h | h) | h
     ·exact aA (aA (by rw[H8.out];exact aD h))
     ·exact aA (aD h)
     ·exact aD h
   have hw:=HSZ.out;exact(((((((t1.trans HT2.out).trans HT5.out).trans t4).trans t5).trans t6).kept g1 fun r e=>by cases e;omega).kept g2 fun r e=>by cases e;omega).kept g3 fun r e=>by cases e;omega
  clear hC hf9 hb9 hx9 r3 r2 q3 q2 g1 g2 g3 hDs hD5 hD8 hD9 hDw hDy1 hDy hnc hbb;unfold CB.v
  gi_wp2
  refine⟨by simp,aA ⟨_,_,rfl,eU HDY.out, ?_⟩⟩;rw[hWF];refine⟨_,za rfl rfl rfl LA LE, ?_⟩;exact FIN.out
 case stop=>
  rintro D2 c k W hD2 _ h _;exact h.elim
end
end
section
attribute [-simp] isAgg51 zeroValue51 isAgg23 zeroValue23 isAgg47 zeroValue47 isAgg156 zeroValue156
attribute [-go_sem] aE aL cS
theorem RG (q:PS):(bI q).cells=(aW q).toArray:=rfl
attribute [local go_sem] kr kt hU ia bC bD en RG
theorem Turn.own {f:Nat->Prop} {w w':ah} {B:Nat} (hg:w.grownBy w' (some B)) (hB:f B) (hc:∀o,w.heap[B]? =some o->o.isCells=true):Turn f f w w':=
 ⟨⟨hg.os,hg.tape,hg.output⟩,KeepsOthers.of_grownBy hg fun j o e ho=>by cases e;exact hc o ho,fun k hk hn=>hg.block k hk fun e=>hn (by cases e;exact hB),fun k hk=>aA hk⟩
def ST.dirt (s:ST) (m:WM):ST:={s with d:=et m}
section
theorem RH (q:PS) (w:ah):ap aj 31 #[am none,bI q] w fun e w'=>e=ao (ab ac 1)/\ag w.heap.size w w':=by
 obtain⟨⟨qd,qdn,qdc⟩,⟨qs,qsn,qsc⟩,nx,kd,id,⟨qp,qpn,qpc⟩⟩:=q;simp only[bI,aW,aK];go_enter func31,ntmps31;go_wp2_with fail;go_ret;exact⟨rfl,aH w _⟩
theorem cr_commitN {b:CB} {M:MS} {m:WM} {s0 sA:ST} {w:ah} {f0 fA:Nat->Prop} {q:PS} (h:ip b M m s0 w f0) (hA:gU q sA w fA) (hm:WmOk m) (hi:M.g.In) (h6:∀x ∈ et m,fG x) (hK:jd 1000 sA.sn) (hp:sA.pr.length<=1000) (hg:iF M.g (sA.dirt m)=false):
  ap aj 31 #[b.v,bI q] w fun e w'=>e=ao (ab ac 11)/\ag w.heap.size w w':=by
 have hmx:=w9x
 obtain⟨⟨qd,qdn,qdc⟩,⟨qs,qsn,qsc⟩,nx,kd,id,⟨qp,qpn,qpc⟩⟩:=q;obtain⟨n1,n2,n3⟩:=hA.num;simp only at n1 n2 n3;subst n1 n2 n3;obtain⟨W,hW⟩:=w9nm (w.alloc (an (aW ⟨(qd,qdn,qdc),(qs,qsn,qsc),sA.nx,sA.kd,sA.id,(qp,qpn,qpc)⟩).toArray 47));have hB:ag w.heap.size w W:=by rw[←hW];exact aH w _
 have r0:aq W w.heap.size 47 (aW ⟨(qd,qdn,qdc),(qs,qsn,qsc),sA.nx,sA.kd,sA.id,(qp,qpn,qpc)⟩):=by rw[←hW];exact aq.new w _ _
 have hz:W.heap.size=w.heap.size+1:=by rw[←hW,bO]
 have hAW:=(gU.isRes _ _).below hA hB;have hP:=(ip.isRes b M m s0).below h hB;obtain⟨gm,hmap⟩:=hP.map;obtain⟨q0,hr,gq,hq0⟩:=hP.hd;have HDI:=ae (hmap.dirty hm);have c2:W.cell? ⟨b.C,2,none⟩=some (am (some ⟨b.P,0,none⟩)):=hr.cell 2 _ rfl;have HP:=ae hP;have HA:=ae hAW;obtain⟨B,hBB⟩:=w9nm w.heap.size;have HSZ:=ae hBB;rw[hBB]at r0 hz;have HR0:=ae r0;have HZ:=ae hz;have HB:=ae hB;have HM:=ae hm;have HI:=ae hi;have H6:=ae h6;have HK:=ae (And.intro hK hp);have HGG:=ae hg;have H0:=ae h;have HA0:=ae hA;clear h hA hAW hP hmap hr hq0 r0 hz hB hm hi h6 hK hp hg;simp only[bI,aW,aK]at *;unfold CB.v;go_enter func31,ntmps31;go_wp2_with fail;refine HDI.out.mono ?_;rintro e x1 ⟨u,rfl,hu,hb1⟩;obtain⟨⟨ua,un,uc⟩,rfl⟩:=hu.isSl;have HU:=ae hu;have K1:=ae hb1;have r1:=HR0.out.below hb1;have d1:=r1.cell 0 _ rfl;have f1':=r1.frozen 0;obtain⟨W1,hW1⟩:=w9nm (x1.setCell ⟨B,0,none⟩ (af ua un uc));have r2:aq W1 B 47 (aW ⟨(ua,un,uc),(qs,qsn,qsc),sA.nx,sA.kd,sA.id,(qp,qpn,qpc)⟩):=by rw[←hW1];exact r1.set 0 _
 have hoth:∀k,k≠B->W1.heap[k]? =x1.heap[k]? :=fun k hk=>by rw[←hW1];exact eG x1 ⟨B,0,none⟩ _ k hk
 have hs1:W1.heap.size=x1.heap.size:=by rw[←hW1];exact lS _ _ _
 have HBW:Hid (ag w.heap.size w W1):=by
  show ag _ _ _;rw[←hW1];exact(HB.out.trans (hb1.mono HB.out.size)).setCell (p:=⟨B,0,none⟩) (by show _<=B;omega) _
 have hne:∀k,k<w.heap.size->k≠B:=fun k hk=>by omega
 have hP1:ip b M m s0 W1 f0:=(ip.isRes _ _ _ _).out H0.out fun k hk=>HBW.out.block k ((ip.isRes _ _ _ _).lt H0.out k hk);have hA1:gU ⟨(qd,qdn,qdc),(qs,qsn,qsc),sA.nx,sA.kd,sA.id,(qp,qpn,qpc)⟩ sA W1 fA:=(gU.isRes _ _).out HA0.out fun k hk=>HBW.out.block k ((gU.isRes _ _).lt HA0.out k hk);have HU1:Hid (bT W.heap.size W1 (af ua un uc) (et m)):=lw HU.out fun k e=>hoth k (by have:=lV HU.out e;have:=HZ.out;omega);have LS:∀z:aM W1,(aE 47 ⟨B,0,none⟩).run aj z.1=.ok (bI ⟨(ua,un,uc),(qs,qsn,qsc),sA.nx,sA.kd,sA.id,(qp,qpn,qpc)⟩) z.1:=fun z=>fg (r2.below z.2);have HGE:Hid (∀z:aM W1,ap aj 38 #[am (some ⟨b.C,0,none⟩)] z.1 fun e y=>e=ao (al M.g.v)/\ag z.1.heap.size z.1 y):=fun z=>um (hP1.below z.2);have HEN:Hid (∀z,ag W1.heap.size W1 z->ap aj 83 #[al M.g.v,bI ⟨(ua,un,uc),(qs,qsn,qsc),sA.nx,sA.kd,sA.id,(qp,qpn,qpc)⟩] z fun e w'=>∃u c,e=ao (aQ #[u,ab ac c])/\((iF M.g (sA.dirt m)=true->c=0/\w'.ownsRow z.heap.size 5 1 u (bK M.g.sg (sA.dirt m)).length (aw (bK M.g.sg (sA.dirt m))))/\(iF M.g (sA.dirt m)=false->c=11/\u=af none 0 0))/\ag z.heap.size z w'):=fun z hz=>by
  have:=xS (q:=⟨(ua,un,uc),(qs,qsn,qsc),sA.nx,sA.kd,sA.id,(qp,qpn,qpc)⟩) (d:=et m) (l:=sA.sn) (ps:=sA.pr) M.g HI.out ⟨(oI HU1.out).below hz,H6.out,⟨(hA1.o.is).sn.below hz,(hA1.o.is).pr.below hz⟩⟩ HK.out.1 HK.out.2;exact this
 have HR2:=ae r2;have HP1:=ae hP1;have HA1:=ae hA1;simp only[bI,aW,aK]at LS HEN;simp only[aK];clear hu hb1 r1 r2 hoth hs1 hne hP1 hA1 c2 HDI HU;go_wp2_with fail;try rw[hW1]
 clear hW1 d1 f1';refine du (fun x=>∃y:aM W1,x=y.1) 8 (.takes [0,2] (.one 1 (.one 3 (.takes [4,5,7,6] .leaf)))) hmx (by kernel_rfl) (by intro c x v a w h;cases x<;>exact h) ⟨⟨W1.drew,(aI _ W1).drew⟩,rfl⟩ ?_;repeat(rw[bu];simp only[aB,aC];go_big_quiet_step (fail);refine aV ?_)
 clear LS;rw[bt,aT];simp only[aB,aC];go_wp2_with fail;refine(HGE.out ⟨W1.drew,(aI _ W1).drew⟩).mono ?_;rintro e x2 ⟨rfl,hb⟩;have K2:w9h W1 x2:=(aI _ W1).drew.trans hb;clear hb;go_wp2_with fail;refine aN ⟨⟨x2,K2.out⟩,rfl⟩ ?_;rw[aT];simp only[aB,aC];go_wp2_with fail;refine(HEN.out x2 K2.out).mono ?_;rintro e x3 ⟨v,c,rfl,⟨hy,hn⟩,hb⟩;have K3:=w9bt K2 hb;obtain⟨rfl,rfl⟩:=hn HGG.out;clear hb hy hn;go_wp2_with fail;refine aN ⟨⟨x3,K3.out⟩,rfl⟩ ?_;repeat(rw[bu];simp only[aB,aC];go_big_quiet_step (fail);refine aV ?_)
 rw[bt,cW];simp only[bR,bQ];have HBF:w9h w x3:=HBW.out.trans (K3.out.mono HBW.out.size);go_wp2_with fail;go_ret;exact⟨rfl,HBF.out⟩
theorem RI {b:CB} {S T:RS} {M:MS} {m:WM} {s0 sA:ST} {w:ah} {f fA:Nat->Prop} {q:PS} (h:ft b S M m s0 w f) (hA:gU q sA w fA) (hdA:∀k,f k->¬fA k) (hm:WmOk m) (hi:M.g.In) (h6:∀x ∈ et m,fG x) (hK:jd 1000 sA.sn) (hp:sA.pr.length<=1000) (hg:iF M.g (sA.dirt m)=true)
  (hFit:S.Fit) (hE:S.flushE 0=0) (hrdy:(S.flush 0).Rdy) (hdown:(S.flush 0).down=false) (hok:M.Ok (S.flush 0)) (hcm:(S.flush 0).cmt M (bK M.g.sg (sA.dirt m))=(T,0)) (hlen:(bK M.g.sg (sA.dirt m)).length=M.b.length):
  ap aj 31 #[b.v,bI q] w fun e w'=>e=ao (ab ac 0)/\∃f',ft b T (M.next (bK M.g.sg (sA.dirt m))) m (sA.dirt m) w' f'/\Turn f f' w w':=by
 obtain⟨fr,f0,hRig,hP0,hd0,rfl⟩:=h;have hmx:=w9x
 obtain⟨⟨qd,qdn,qdc⟩,⟨qs,qsn,qsc⟩,nx,kd,id,⟨qp,qpn,qpc⟩⟩:=q;obtain⟨n1,n2,n3⟩:=hA.num;simp only at n1 n2 n3;subst n1 n2 n3;obtain⟨W,hW⟩:=w9nm (w.alloc (an (aW ⟨(qd,qdn,qdc),(qs,qsn,qsc),sA.nx,sA.kd,sA.id,(qp,qpn,qpc)⟩).toArray 47));have hB:ag w.heap.size w W:=by rw[←hW];exact aH w _
 have r0:aq W w.heap.size 47 (aW ⟨(qd,qdn,qdc),(qs,qsn,qsc),sA.nx,sA.kd,sA.id,(qp,qpn,qpc)⟩):=by rw[←hW];exact aq.new w _ _
 have hz:W.heap.size=w.heap.size+1:=by rw[←hW,bO]
 have hAW:=(gU.isRes _ _).below hA hB;have hP:=(ip.isRes b M m s0).below hP0 hB;obtain⟨gm,hmap⟩:=hP.map;obtain⟨q0,hr,gq,hq0⟩:=hP.hd;have HDI:=ae (hmap.dirty hm);have c2:W.cell? ⟨b.C,2,none⟩=some (am (some ⟨b.P,0,none⟩)):=hr.cell 2 _ rfl;have HP:=ae hP;have HA:=ae hAW;obtain⟨B,hBB⟩:=w9nm w.heap.size;have HSZ:=ae hBB;rw[hBB]at r0 hz;have HR0:=ae r0;have HZ:=ae hz;have HB:=ae hB;have HM:=ae hm;have HI:=ae hi;have H6:=ae h6;have HK:=ae (And.intro hK hp);have HGG:=ae hg;have H0:=ae hP0;have HA0:=ae hA;have HRG:=ae hRig;have HDJ:=ae hd0;have HDA:=ae hdA;have HFT:=ae (And.intro hFit (And.intro hE (And.intro hrdy (And.intro hdown (And.intro hok (And.intro hcm hlen))))));clear hP0 hRig hd0 hdA hFit hE hrdy hdown hok hcm hlen hA hAW hP hmap hr hq0 r0 hz hB hm hi h6 hK hp hg;simp only[bI,aW,aK]at *;unfold CB.v;go_enter func31,ntmps31;go_wp2_with fail;refine HDI.out.mono ?_;rintro e x1 ⟨u,rfl,hu,hb1⟩;obtain⟨⟨ua,un,uc⟩,rfl⟩:=hu.isSl;have HU:=ae hu;have K1:=ae hb1;have r1:=HR0.out.below hb1;have d1:=r1.cell 0 _ rfl;have f1':=r1.frozen 0;obtain⟨W1,hW1⟩:=w9nm (x1.setCell ⟨B,0,none⟩ (af ua un uc));have r2:aq W1 B 47 (aW ⟨(ua,un,uc),(qs,qsn,qsc),sA.nx,sA.kd,sA.id,(qp,qpn,qpc)⟩):=by rw[←hW1];exact r1.set 0 _
 have hoth:∀k,k≠B->W1.heap[k]? =x1.heap[k]? :=fun k hk=>by rw[←hW1];exact eG x1 ⟨B,0,none⟩ _ k hk
 have hs1:W1.heap.size=x1.heap.size:=by rw[←hW1];exact lS _ _ _
 have HBW:Hid (ag w.heap.size w W1):=by
  show ag _ _ _;rw[←hW1];exact(HB.out.trans (hb1.mono HB.out.size)).setCell (p:=⟨B,0,none⟩) (by show _<=B;omega) _
 have hne:∀k,k<w.heap.size->k≠B:=fun k hk=>by omega
 have hP1:ip b M m s0 W1 f0:=(ip.isRes _ _ _ _).out H0.out fun k hk=>HBW.out.block k ((ip.isRes _ _ _ _).lt H0.out k hk);have hA1:gU ⟨(qd,qdn,qdc),(qs,qsn,qsc),sA.nx,sA.kd,sA.id,(qp,qpn,qpc)⟩ sA W1 fA:=(gU.isRes _ _).out HA0.out fun k hk=>HBW.out.block k ((gU.isRes _ _).lt HA0.out k hk);have HU1:Hid (bT W.heap.size W1 (af ua un uc) (et m)):=lw HU.out fun k e=>hoth k (by have:=lV HU.out e;have:=HZ.out;omega);have LS:∀z:aM W1,(aE 47 ⟨B,0,none⟩).run aj z.1=.ok (bI ⟨(ua,un,uc),(qs,qsn,qsc),sA.nx,sA.kd,sA.id,(qp,qpn,qpc)⟩) z.1:=fun z=>fg (r2.below z.2);have HGE:Hid (∀z:aM W1,ap aj 38 #[am (some ⟨b.C,0,none⟩)] z.1 fun e y=>e=ao (al M.g.v)/\ag z.1.heap.size z.1 y):=fun z=>um (hP1.below z.2);have HEN:Hid (∀z,ag W1.heap.size W1 z->ap aj 83 #[al M.g.v,bI ⟨(ua,un,uc),(qs,qsn,qsc),sA.nx,sA.kd,sA.id,(qp,qpn,qpc)⟩] z fun e w'=>∃u c,e=ao (aQ #[u,ab ac c])/\((iF M.g (sA.dirt m)=true->c=0/\w'.ownsRow z.heap.size 5 1 u (bK M.g.sg (sA.dirt m)).length (aw (bK M.g.sg (sA.dirt m))))/\(iF M.g (sA.dirt m)=false->c=11/\u=af none 0 0))/\ag z.heap.size z w'):=fun z hz=>by
  have:=xS (q:=⟨(ua,un,uc),(qs,qsn,qsc),sA.nx,sA.kd,sA.id,(qp,qpn,qpc)⟩) (d:=et m) (l:=sA.sn) (ps:=sA.pr) M.g HI.out ⟨(oI HU1.out).below hz,H6.out,⟨(hA1.o.is).sn.below hz,(hA1.o.is).pr.below hz⟩⟩ HK.out.1 HK.out.2;exact this
 have HR2:=ae r2;have HP1:=ae hP1;have HA1:=ae hA1;simp only[bI,aW,aK]at LS HEN;simp only[aK];clear hu hb1 r1 r2 hoth hs1 hne hP1 hA1 c2 HDI HU;go_wp2_with fail;try rw[hW1]
 clear hW1 d1 f1';refine du (fun x=>∃y:aM W1,x=y.1) 8 (.takes [0,2] (.one 1 (.one 3 (.takes [4,5,7,6] .leaf)))) hmx (by kernel_rfl) (by intro c x v a w h;cases x<;>exact h) ⟨⟨W1.drew,(aI _ W1).drew⟩,rfl⟩ ?_;repeat(rw[bu];simp only[aB,aC];go_big_quiet_step (fail);refine aV ?_)
 clear LS;rw[bt,aT];simp only[aB,aC];go_wp2_with fail;refine(HGE.out ⟨W1.drew,(aI _ W1).drew⟩).mono ?_;rintro e x2 ⟨rfl,hb⟩;have K2:w9h W1 x2:=(aI _ W1).drew.trans hb;clear hb;go_wp2_with fail;refine aN ⟨⟨x2,K2.out⟩,rfl⟩ ?_;rw[aT];simp only[aB,aC];go_wp2_with fail;refine(HEN.out x2 K2.out).mono ?_;rintro e x3 ⟨v,c,rfl,⟨hy,hn⟩,hb⟩;have K3:=w9bt K2 hb;obtain⟨rfl,hO⟩:=hy HGG.out;obtain⟨va,vn,vc,hv⟩:∃a n c,v=af a n c:=by
  rcases hO.2 with⟨e,_⟩ | ⟨g,cap,cur,e,_⟩
  ·exact⟨_,_,_,e⟩
  ·exact⟨_,_,_,e⟩
 subst hv;have HO:=ae hO;have K23:Hid (x2.heap.size<=x3.heap.size):=hb.size;clear hb hy hn hO;go_wp2_with fail;refine aN ⟨⟨x3,K3.out⟩,rfl⟩ ?_;repeat(rw[bu];simp only[aB,aC];go_big_quiet_step (fail);refine aV ?_)
 rw[bt,cW];simp only[bR,bQ];have HB3:w9h w x3:=HBW.out.trans (K3.out.mono HBW.out.size);have HFL:Hid (ap aj 34 #[b.v,ab ac 0] x3 fun e w'=>∃x,ag x3.heap.size x3 x/\e=ao (ab ac 0)/\∃fr',aU b.rb b.p0 b.p1 (S.flush 0) w' fr'/\Turn fr fr' x w'):=by
  refine EL (Hds.of (HP1.out.below K3.out) HI.out) 0 (K:=fun x e y=>e=ao (ab ac 0)/\∃fr',aU b.rb b.p0 b.p1 (S.flush 0) y fr'/\Turn fr fr' x y) fun x hx=> ?_;have:=((aU.isRes _ _ _ _).below ((aU.isRes _ _ _ _).below HRG.out HB3.out) hx).flush HFT.out.1 0;rw[HFT.out.2.1]at this;exact this.mono fun e y h=>⟨0,h.1,h.1,h.2⟩
 unfold CB.v at HFL;go_wp2_with fail;refine HFL.out.mono ?_;rintro e y4 ⟨x4,hb4,rfl,fr',hR4,hT4⟩;have hB4:w9b w x4:=HB3.out.trans (hb4.mono HB3.out.size);have hK4:w9b W1 x4:=K3.out.trans (hb4.mono K3.out.size);have hlr:∀k,fr k->k<B:=fun k hk=>by rw[←HSZ.out];exact(aU.isRes _ _ _ _).lt HRG.out k hk
 have hl0:∀k,f0 k->k<B:=fun k hk=>by rw[←HSZ.out];exact(ip.isRes _ _ _ _).lt H0.out k hk
 have hlA:∀k,fA k->k<B:=fun k hk=>by rw[←HSZ.out];exact(gU.isRes _ _).lt HA0.out k hk
 have hz1:B+1<=W1.heap.size:=by have:=HR2.out.lt;omega
 have hz4:=hK4.size;have h34:x3.heap.size<=x4.heap.size:=hb4.size;have h23:=K23.out;have h12:W1.heap.size<=x2.heap.size:=K2.out.size;have same4:∀k,k<x4.heap.size->¬fr k->y4.heap[k]? =x4.heap[k]? :=hT4.out;have hP4:ip b M m s0 y4 f0:=(ip.isRes _ _ _ _).out (HP1.out.below hK4) fun k hk=>same4 k (by have:=hl0 k hk;omega) fun h=>HDJ.out k h hk;have hA4:gU ⟨(qd,qdn,qdc),(qs,qsn,qsc),sA.nx,sA.kd,sA.id,(qp,qpn,qpc)⟩ sA y4 fA:=(gU.isRes _ _).out ((gU.isRes _ _).below HA1.out hK4) fun k hk=>same4 k (by have:=hlA k hk;omega) fun h=>HDA.out k (aA h) hk;have hr4:aq y4 B 47 (aW ⟨(ua,un,uc),(qs,qsn,qsc),sA.nx,sA.kd,sA.id,(qp,qpn,qpc)⟩):=(same4 B (by omega) fun h=>by have:=hlr B h;omega).trans (HR2.out.below hK4);have hU4:bT W.heap.size y4 (af ua un uc) (et m):=lw (HU1.out.below hK4) fun k e=>by
  have h1:=lV HU1.out e;have h2:=(HU1.out.lt k e).2;exact same4 k (by omega) fun h=>by have:=hlr k h;have:=HZ.out;omega
 have hO4:y4.ownsRow x2.heap.size 5 1 (af va vn vc) (bK M.g.sg (sA.dirt m)).length (aw (bK M.g.sg (sA.dirt m))):=lw (dQ HO.out hb4) fun k e=>by
  have h1:=(HO.out.lt k e);exact same4 k (by omega) fun h=>by have:=hlr k h;omega
 obtain⟨fm,fx,hMem,hX,hdx,hf0⟩:=hP4;have hlm:=(eR.isRes _ _ _).lt hMem;have hf0m:∀k,fm k->f0 k:=fun k hk=>by rw[hf0];exact aA hk
 have hf0x:∀k,fx k->f0 k:=fun k hk=>by rw[hf0];exact aD hk
 have hBoth:DW.Both b.rb b.p0 b.p1 b.mb (S.flush 0) M y4 (fun k=>fr' k\/fm k):=⟨fr',fm,hR4,hMem,fun k h1 h2=>by
  have h3:=hl0 k (hf0m k h2);rcases hT4.new k h1 with h | h
  ·exact HDJ.out k h (hf0m k h2)
  ·omega,rfl⟩
 have hCM:=qW.commit hBoth HFT.out.2.2.1 HFT.out.2.2.2.1 HFT.out.2.2.2.2.1 (Sl.of_owns hO4) (rf HGG.out (fun t ht=>by
   obtain⟨i,hi⟩:=jY (show t ∈ sA.sn from ht);obtain⟨⟨r,hp⟩, -⟩:=HA1.out;exact(hp.ss i _ t (aZ (by rw[hp.len];exact(bZ.1 hi).1)) hi).ok)) HFT.out.2.2.2.2.2.2
  (fun _ b' off len cap e hb=>by
   have h1:=hO4.lt b' (by rw[e];rfl);have h5:=HO.out.lt b' (by rw[e];rfl);rcases hb with hb | hb
   ·rcases hT4.new b' hb with h | h
    ·have:=hlr b' h;omega
    ·omega
   ·have:=hl0 b' (hf0m b' hb);omega)
 rw[HFT.out.2.2.2.2.2.1]at hCM;simp only[if_true]at hCM;obtain⟨fw,fh,hWy,⟨q0',fC,fs,hRow,hSt,hd56,hfh⟩,hd34,hfx⟩:=hX;obtain⟨hRowC,hfC⟩:=hRow;have hRowC:aq y4 b.C 156 (b.hd q0'):=hRowC;have c1:y4.cell? ⟨b.C,1,none⟩=some (am (some ⟨b.mb,0,none⟩)):=hRowC.cell 1 _ rfl;have HCM:=ae hCM;have hCx:f0 b.C:=hf0x _ (by rw[hfx];exact aD (by rw[hfh];exact aA (by rw[hfC])));have hwx:∀k,fw k->fx k:=fun k hk=>by rw[hfx];exact aA hk
 have hCfx:fx b.C:=by rw[hfx];exact aD (by rw[hfh];exact aA (by rw[hfC]))
 have hwC:∀k,fw k->k≠b.C:=fun k hk e=>hd34 k hk (by rw[hfh];exact aA (by rw[hfC];exact e));have hmC:∀k,fm k->¬fx k:=hdx;have FX:Hid ((∀k,fr' k->fr k\/x4.heap.size<=k)/\(∀k,fm k->f0 k)/\(∀k,fx k->f0 k)/\(∀k,f0 k->fm k\/fx k)/\(∀k,fw k->fx k)/\fx b.C/\(∀k,fw k->k≠b.C)/\(∀k,fm k->¬fx k)/\(∀k,fr k->k<B)/\(∀k,f0 k->k<B)/\(∀k,fA k->k<B)/\B+1<=x4.heap.size/\x4.heap.size<=y4.heap.size):=
  ⟨hT4.new,hf0m,hf0x,fun k hk=>by rw[hf0]at hk;exact hk,hwx,hCfx,hwC,hmC,hlr,hl0,hlA,by omega,hT4.size⟩
 have HB4:=ae hB4;have HRZ:Hid (W1.heap.size<=x4.heap.size):=hz4;have HT4:=ae hT4;have HA4:=ae hA4;have HR4:=ae hr4;have HU4:=ae hU4;have HWY:=ae hWy;have HRC:=ae hRowC;clear hR4 hT4 hb4 hB4 hK4 hlr hl0 hlA hz1 hz4 h34 h23 h12 same4 hA4 hr4 hU4 hO4 hMem hdx hf0 hlm hf0m hf0x hBoth hCM hWy hSt hd56 hfh hd34 hfx hRowC hfC hCx hwx hCfx hwC hmC HFL HEN HGE;go_wp2_with fail;refine HCM.out.mono ?_;rintro e y5 ⟨rfl,f5,hR5,hT5⟩;obtain⟨fr5,fm5,hRig5,hMem5,hd5,hf5⟩:=hR5;have hMem5:eR b.mb b.rb (M.next (bK M.g.sg (sA.dirt m))) y5 fm5:=hMem5;obtain⟨X1,X2,X3,X4,X5,X6,X7,X8,X9,X10,X11,X12,X13⟩:=FX.out;have ndir:∀k,fr' k\/fm k->¬fx k:=fun k hk hx=>by
  rcases hk with hk | hk
  ·rcases X1 k hk with h | h
   ·exact HDJ.out k h (X3 k hx)
   ·have:=X10 k (X3 k hx);omega
  ·exact X8 k hk hx
 have hA5:gU ⟨(qd,qdn,qdc),(qs,qsn,qsc),sA.nx,sA.kd,sA.id,(qp,qpn,qpc)⟩ sA y5 fA:=(gU.isRes _ _).out HA4.out fun k hk=>hT5.out k (by have:=X11 k hk;omega) fun h=>by
  rcases h with h | h
  ·rcases X1 k h with h | h
   ·exact HDA.out k (aA h) hk
   ·have:=X11 k hk;omega
  ·exact HDA.out k (aD (X2 k h)) hk
 have nB:¬(fr' B\/fm B):=fun h=>by
  rcases h with h | h
  ·rcases X1 B h with h | h
   ·have:=X9 B h;omega
   ·omega
  ·have:=X10 B (X2 B h);omega
 have hr5:aq y5 B 47 (aW ⟨(ua,un,uc),(qs,qsn,qsc),sA.nx,sA.kd,sA.id,(qp,qpn,qpc)⟩):=(hT5.out B (by omega) nB).trans HR4.out;have hU5:bT W.heap.size y5 (af ua un uc) (et m):=lw HU4.out fun k e=>by
  have h1:=lV HU4.out e;have h2:=(HU4.out.lt k e).2;have h3:=(HU1.out.lt k e).2;have hz:=HZ.out;have h4:=K3.out.size;have h5:W1.heap.size<=x4.heap.size:=HRZ.out;refine hT5.out k h2 fun h=> ?_;rcases h with h | h
  ·rcases X1 k h with h | h
   ·have:=X9 k h;omega
   ·omega
  ·have:=X10 k (X2 k h);omega
 have hWy5:eZ b.P b.SB b.HB b.cap m y5 fw:=(eZ.isRes _ _ _ _ _).out HWY.out fun k hk=>hT5.out k (by have:=X10 k (X3 k (X5 k hk));omega) fun h=>ndir k h (X5 k hk);have hRC5:aq y5 b.C 156 (b.hd q0'):=(hT5.out b.C (by have:=X10 b.C (X3 b.C X6);omega) fun h=>ndir b.C h X6).trans HRC.out;have L5:=fg hr5;have HCP:=ae (EO (q:=⟨(ua,un,uc),(qs,qsn,qsc),sA.nx,sA.kd,sA.id,(qp,qpn,qpc)⟩) (oI hU5) ⟨hA5.o.is.sn,hA5.o.is.pr⟩ HK.out.1 (by rw[re];have:=HM.out.size32;omega) (by have:=HK.out.2;omega));have HT5:=ae hT5;have H5:=ae (And.intro hRig5 (And.intro hMem5 (And.intro hd5 (And.intro hf5 (And.intro hWy5 hRC5)))));have ND:=ae ndir;simp only[bI,aW,aK]at L5;clear hRig5 hMem5 hT5 hd5 hf5 X1 X2 X3 X4 X5 X6 X7 X8 X9 X10 X11 X12 X13 ndir hA5 nB hr5 hU5 hWy5 hRC5 c1;go_wp2_with fail;refine HCP.out.mono ?_;rintro e y6 ⟨q3,rfl,e1,e2,e3,hO6,hb6⟩;obtain⟨hRig5,hMem5,hd5,hf5,hWy5,hRC5⟩:=H5.out;obtain⟨X1,X2,X3,X4,X5,X6,X7,X8,X9,X10,X11,X12,X13⟩:=FX.out;have hS6:=gU.made (s:=sA.dirt m) hO6 e1 e2 e3;have hRC6:=hRC5.below hb6;obtain⟨y7,ST7,hRC7,g7⟩:=Qz q3 hRC6;have hC5:b.C<y5.heap.size:=hRC5.lt;have FIN:Hid (∃f',ft b T (M.next (bK M.g.sg (sA.dirt m))) m (sA.dirt m) y7 f'/\Turn (fun k=>fr k\/f0 k) f' w y7):=by
  have b7:∀k,k<y6.heap.size->k≠b.C->y7.heap[k]? =y6.heap[k]? :=fun k h1 h2=>g7.block k h1 fun e=>h2 (by cases e;rfl);have hl5r:=(aU.isRes _ _ _ _).lt hRig5;have hl5m:=(eR.isRes _ _ _).lt hMem5;have hl5w:=(eZ.isRes _ _ _ _ _).lt hWy5;have h56:y5.heap.size<=y6.heap.size:=hb6.size;have h45:y4.heap.size<=y5.heap.size:=HT5.out.size;have hCB:b.C<B:=X10 b.C (X3 b.C X6);have new5:∀k,fr5 k\/fm5 k->(fr' k\/fm k)\/y4.heap.size<=k:=fun k hk=>HT5.out.new k (by rw[hf5];exact hk);have n5C:∀k,fr5 k\/fm5 k->k≠b.C:=fun k hk e=>by
   subst e;rcases new5 _ hk with h | h
   ·exact ND.out _ h X6
   ·omega
  have n5w:∀k,fr5 k\/fm5 k->¬fw k:=fun k hk h2=>by
   rcases new5 _ hk with h | h
   ·exact ND.out _ h (X5 k h2)
   ·have:=X10 k (X3 k (X5 k h2));omega
  have r7:aU b.rb b.p0 b.p1 T y7 fr5:=(aU.isRes _ _ _ _).out ((aU.isRes _ _ _ _).below hRig5 hb6) fun k hk=>b7 k (by have:=hl5r k hk;omega) (n5C k (aA hk));have m7:eR b.mb b.rb (M.next (bK M.g.sg (sA.dirt m))) y7 fm5:=(eR.isRes _ _ _).out ((eR.isRes _ _ _).below hMem5 hb6) fun k hk=>b7 k (by have:=hl5m k hk;omega) (n5C k (aD hk));have w7:eZ b.P b.SB b.HB b.cap m y7 fw:=(eZ.isRes _ _ _ _ _).out ((eZ.isRes _ _ _ _ _).below hWy5 hb6) fun k hk=>b7 k (by have:=hl5w k hk;omega) (X7 k hk);have s7:gU q3 (sA.dirt m) y7 (From y5.heap.size y6):=(gU.isRes _ _).out hS6 fun k hk=>b7 k ((gU.isRes _ _).lt hS6 k hk) fun e=>by have:=hk.1;omega
  refine⟨_,⟨fr5,_,r7,⟨fm5,_,m7,⟨fw,_,w7,⟨q3,_,_,⟨hRC7,rfl⟩,s7,fun k h1 h2=> ?_,rfl⟩,fun k h1 h2=> ?_,rfl⟩,fun k h1 h2=> ?_,rfl⟩,fun k h1 h2=> ?_,rfl⟩, ?_⟩
  ·have h1:k=b.C:=h1;have:=h2.1;omega
  ·rcases h2 with h2 | h2
   ·exact X7 k h1 h2
   ·have:=h2.1;have:=hl5w k h1;omega
  ·rcases h2 with h2 | h2 | h2
   ·exact n5w k (aD h1) h2
   ·exact n5C k (aD h1) h2
   ·have:=h2.1;have:=hl5m k h1;omega
  ·rcases h2 with h2 | h2 | h2 | h2
   ·exact hd5 k h1 h2
   ·exact n5w k (aA h1) h2
   ·exact n5C k (aA h1) h2
   ·have:=h2.1;have:=hl5r k h1;omega
  ·have t1:Turn (fun k=>fr k\/f0 k) (fun k=>fr k\/f0 k) w x4:=Turn.of_below HB4.out;have t2:Turn (fun k=>fr k\/f0 k) (fun k=>(fr' k\/fm k)\/fx k) x4 y4:=(HT4.out.frame f0).less fun k hk=>aA (by
    rcases hk with(hk | hk) | hk
    ·exact aA hk
    ·exact aD (X2 k hk)
    ·exact aD (X3 k hk))
   have t3:=HT5.out.frame fx;have t4:Turn (fun k=>f5 k\/fx k) (fun k=>fr5 k\/fm5 k\/fw k\/k=b.C\/From y5.heap.size y6 k) y5 y6:=(Turn.of_below hb6).less fun k hk=>by
    rcases hk with hk | hk | hk | hk | hk
    ·exact aA (aA (by rw[hf5];exact aA hk))
    ·exact aA (aA (by rw[hf5];exact aD hk))
    ·exact aA (aD (X5 k hk))
    ·exact aA (aD (by rw[hk];exact X6))
    ·exact aD hk.1
   exact(((t1.trans t2).trans t3).trans t4).trans (Turn.own g7 (aD (aD (aD (aA rfl)))) fun o ho=>by
    have hr:y6.heap[b.C]? =_:=hRC6;rw[hr]at ho;cases ho
    rfl)
 clear hRig5 hMem5 hd5 hf5 hWy5 hRC5 hRC6 X1 X2 X3 X4 X5 X6 X7 X8 X9 X10 X11 X12 X13 hO6 hb6 hS6 hRC7 g7 hC5 e1 e2 e3 L5;go_wp2_with fail;go_ret;exact⟨rfl,FIN.out⟩
end
end
section
attribute [-simp] isAgg51 zeroValue51 isAgg23 zeroValue23 isAgg47 zeroValue47 isAgg156 zeroValue156
attribute [-go_sem] aE aL cS
attribute [local go_sem] kr kt hU ia bC bD en
section
variable {cv rp:ak} {g:Geo} {w:ah}
theorem RJ (h:Hds cv rp g w) (b:Int) (hb:¬(0<=b/\b<g.b)):ap aj 49 #[cv,ab ac b] w fun e w'=>e=ao (aQ #[al (bf 0).toArray,ab ac 1])/\ag w.heap.size w w':=by
 obtain⟨W,hW⟩:=w9nm (w.alloc (an cF 51));have hB:ag w.heap.size w W:=by rw[←hW];exact aH w _
 have K:W.heap[w.heap.size]? =some (an cF 51 (0,0))/\w.heap.size<W.heap.size:=by rw[←hW];exact⟨cD w _,by simp⟩
 have SZ:Hid (∀x,ag W.heap.size W x->∃x',(aL 51 ⟨w.heap.size,0,none⟩ (al (bf 0).toArray)).run aj x=.ok () x'/\(aE 51 ⟨w.heap.size,0,none⟩).run aj x'=.ok (al (bf 0).toArray) x'/\ag w.heap.size w x'):=fun x hx=>
  nW ((hx.block _ K.2).trans K.1) gk (hB.trans (hx.mono hB.size)) (eV 0)
 have H2:=ae (h.geom W hB);have HH:=ae (xN g b);rw[decide_eq_false hb]at HH;clear h hB K hb;go_enter func49,ntmps49;go_wp2_with (with_reducible (rw[hW];clear hW));refine H2.out.mono ?_;rintro e x1 ⟨rfl,hb⟩;have K1:=ae hb;clear hb;go_wp2_with fail;refine(HH.out x1).mono ?_;rintro e x2 ⟨rfl,hb⟩;obtain⟨x4,ST,LD,hb4⟩:=SZ.out x2 (K1.out.trans (hb.mono K1.out.size));have ST':(aL 51 ⟨w.heap.size,0,none⟩ (al cF)).run aj x2=.ok () x4:=ST;have H4:=ae hb4;clear hb hb4 ST;go_wp2_with fail;exact bo (eH rfl rfl LD) rfl ⟨rfl,H4.out⟩
theorem RK (h:Hds cv rp g w) (b:Int) (hb:0<=b/\b<g.b) {mp:Option aF} {o:Option Nat} (hM:∀x,ag w.heap.size w x->ap aj 21 #[cv] x fun e y=>e=ao (am mp)/\y=x)
  (hF:∀x,ag w.heap.size w x->ap aj 124 #[am mp,ab ac b] x fun e y=>e=ao (js o)/\y=x) {v:List ak} {c:Int} (hv:cz v)
  (hS:∀k,o=some k->∀x,ag w.heap.size w x->ap aj 50 #[cv,ab ac (k:Int)] x fun e y=>e=ao (aQ #[al v.toArray,ab ac c])/\ag x.heap.size x y)
  (hN:o=none->∀x,ag w.heap.size w x->ap aj 108 #[cv,ab ac b] x fun e y=>e=ao (aQ #[al v.toArray,ab ac c])/\ag x.heap.size x y):
  ap aj 49 #[cv,ab ac b] w fun e w'=>e=ao (aQ #[al v.toArray,ab ac c])/\ag w.heap.size w w':=by
 obtain⟨W,hW⟩:=w9nm (w.alloc (an cF 51));have hB:ag w.heap.size w W:=by rw[←hW];exact aH w _
 have K:W.heap[w.heap.size]? =some (an cF 51 (0,0))/\w.heap.size<W.heap.size:=by rw[←hW];exact⟨cD w _,by simp⟩
 have SZ:Hid (∀x,ag W.heap.size W x->∃x',(aL 51 ⟨w.heap.size,0,none⟩ (al v.toArray)).run aj x=.ok () x'/\(aE 51 ⟨w.heap.size,0,none⟩).run aj x'=.ok (al v.toArray) x'/\ag w.heap.size w x'):=fun x hx=>
  nW ((hx.block _ K.2).trans K.1) gk (hB.trans (hx.mono hB.size)) hv
 have H2:=ae (h.geom W hB);have HH:=ae (xN g b);rw[decide_eq_true hb]at HH;have HB:=ae hB;have HM:=ae hM;have HF:=ae hF;have HS:=ae hS;have HN:=ae hN;clear h hB K hb hM hF hS hN hv;go_enter func49,ntmps49;go_wp2_with (with_reducible (rw[hW];clear hW));refine H2.out.mono ?_;rintro e x1 ⟨rfl,hb⟩;have K1:=ae hb;clear hb;go_wp2_with fail;refine(HH.out x1).mono ?_;rintro e x2 ⟨rfl,hb⟩;have K2:=w9bt K1 hb;have B2:w9h w x2:=HB.out.trans (K2.out.mono HB.out.size);clear hb;go_wp2_with fail;refine(HM.out x2 B2.out).mono ?_;rintro e x ⟨rfl,hx⟩;obtain rfl:=hx.symm;clear hx;go_wp2_with fail;refine(HF.out x2 B2.out).mono ?_;rintro e x ⟨rfl,hx⟩;obtain rfl:=hx.symm;clear hx;cases o with
 | none=>
  unfold js;go_wp2_with fail;refine(HN.out (by first | rfl | trivial) x2 B2.out).mono ?_;rintro e x3 ⟨rfl,hb⟩;obtain⟨x4,ST,LD,hb4⟩:=SZ.out x3 (K2.out.trans (hb.mono K2.out.size));have H4:=ae hb4;clear hb hb4;go_wp2_with fail;exact bo (eH rfl rfl LD) rfl ⟨rfl,H4.out⟩
 | some k=>
  unfold js;go_wp2_with fail;refine(HS.out k (by first | rfl | trivial) x2 B2.out).mono ?_;rintro e x3 ⟨rfl,hb⟩;obtain⟨x4,ST,LD,hb4⟩:=SZ.out x3 (K2.out.trans (hb.mono K2.out.size));have H4:=ae hb4;clear hb hb4;go_wp2_with fail;exact bo (eH rfl rfl LD) rfl ⟨rfl,H4.out⟩
end
end
section
section
variable {b:CB} {S:RS} {M:MS} {m:WM} {s:ST} {w w0 W:ah} {f own:Nat->Prop}
theorem aU.okR {rb p0 p1:Nat} (h:aU rb p0 p1 S w f) (dev i:Int):cz (S.read dev i):=by
 unfold RS.read;split
 ·next hh=>exact h.okLook hh.1
 ·exact eV 0
theorem ft.put (h:ft b S M m s w f) (hm:WmOk m) (i n:Int) (d:Bool) (hn:n<=9223372036854775807):ap aj 28 #[am (some ⟨b.P,0,none⟩),ab ac i,ab ac n,.bool d] w fun e w'=>e=ao (aQ #[])/\∃f',ft b S M (ib m i n d) s w' f'/\Turn f f' w w':=
 dr.second (R:=fun e _=>e=ao (aQ #[])) (aU.isRes _ _ _ _) (ip.isRes _ _ _ _) h fun f2 h2=>dr.second (R:=fun e _=>e=ao (aQ #[])) (eR.isRes _ _ _) ((eZ.isRes _ _ _ _ _).sep (Et.isRes _ _)) h2 fun f3 h3=>
  dr.first (R:=fun e _=>e=ao (aQ #[])) (eZ.isRes _ _ _ _ _) (Et.isRes _ _) h3 fun f4 h4=>(h4.put hm i n d hn).mono fun e w' ⟨a,c,t⟩=>⟨a,_,c,t⟩
theorem ft.onRig {g:FuncId} {args:Array ak} {T:RS} {R:Ending->ah->Prop} (h:ft b S M m s w f) (hc:∀f1,aU b.rb b.p0 b.p1 S w f1->ap aj g args w fun e w'=>R e w'/\∃f1',aU b.rb b.p0 b.p1 T w' f1'/\Turn f1 f1' w w'):ap aj g args w fun e w'=>R e w'/\∃f',ft b T M m s w' f'/\Turn f f' w w':=
 dr.first (R:=R) (aU.isRes _ _ _ _) (ip.isRes _ _ _ _) h hc
theorem ft.hds (h:ft b S M m s w f) (hi:M.g.In):Hds b.v (am (some ⟨b.rb,0,none⟩)) M.g w:=by
 obtain⟨g,hg⟩:=h.par;exact Hds.of hg hi
theorem ft.putSlot (h:ft b S M m s w f) (hi:M.g.In) (hF:S.Fit) (hf:S.Few 255) (i:Int) {v:List ak} (hv:cz v):ap aj 17 #[b.v,ab ac i,al v.toArray] w fun e w'=>e=ao (ab ac (S.writeE 0 (M.g.sS i)))/\∃f',ft b (S.write 0 (M.g.sS i) v) M m s w' f'/\Turn f f' w w':=by
 refine(Qr (h.hds hi) i hv (K:=fun x e y=>e=ao (ab ac (S.writeE 0 (M.g.sS i)))/\∃f',ft b (S.write 0 (M.g.sS i) v) M m s y f'/\Turn f f' x y) fun x hx=> ?_).mono ?_
 ·exact(ft.onRig (R:=fun e _=>e=ao (ab ac (S.writeE 0 (M.g.sS i)))) (h.below hx) fun f1 h1=>h1.write hF hf 0 _ hv).mono fun e y h=>⟨_,h.1,h.1,h.2⟩
 ·rintro e y ⟨x,hx,he,f',h1,h2⟩;exact⟨he,f',h1,(Turn.of_below hx).trans h2⟩
def mi (S:RS) (g:Geo) (m:WM) (n:Int):List ak:=match fq m n with
 | some k=>S.read 0 (g.sS k)
 | none=>S.read 1 (g.sW n)
def nk (S:RS) (g:Geo) (m:WM) (n:Int):Int:=match fq m n with
 | some k=>S.readE 0 (g.sS k)
 | none=>S.readE 1 (g.sW n)
theorem ft.now (h:ft b S M m s w f) (hi:M.g.In) (hm:WmOk m) (n:Int) (hn:0<=n/\n<M.g.b) (h6:n<=9223372036854775807):ap aj 49 #[b.v,ab ac n] w fun e w'=>e=ao (aQ #[al (mi S M.g m n).toArray,ab ac (nk S M.g m n)])/\ag w.heap.size w w':=by
 obtain⟨g,hg⟩:=h.rig;have hv:cz (mi S M.g m n):=by unfold mi;split<;>exact hg.okR _ _
 have rd:∀x,ag w.heap.size w x->∀y,ag x.heap.size x y->∀dev i,ap aj 72 #[am (some ⟨b.rb,0,none⟩),ab ac dev,ab ac i] y fun e z=>e=ao (aQ #[al (S.read dev i).toArray,ab ac (S.readE dev i)])/\ag y.heap.size y z:=fun x hx y hy dev i=>
  ((aU.isRes _ _ _ _).below ((aU.isRes _ _ _ _).below hg hx) hy).read dev i
 refine RK (h.hds hi) n hn (mp:=some ⟨b.P,0,none⟩) (o:=fq m n) (fun x hx=> ?_) (fun x hx=> ?_) hv (fun k hk x hx=> ?_) (fun hk x hx=> ?_)
 ·obtain⟨g',hg'⟩:=(h.below hx).par;exact xO hg'
 ·obtain⟨g',hg'⟩:=(h.below hx).par;obtain⟨g2,hg2⟩:=hg'.map;exact hg2.find hm n h6
 ·have e1:mi S M.g m n=S.read 0 (M.g.sS k):=by unfold mi;rw[hk]
  have e2:nk S M.g m n=S.readE 0 (M.g.sS k):=by unfold nk;rw[hk]
  rw[e2];refine EN ((h.below hx).hds hi) (k:Int) (fun y hy=> ?_) hv;rw[e1];exact rd x hx y hy 0 _
 ·have e1:mi S M.g m n=S.read 1 (M.g.sW n):=by unfold mi;rw[hk]
  have e2:nk S M.g m n=S.readE 1 (M.g.sW n):=by unfold nk;rw[hk]
  rw[e2];refine Qp ((h.below hx).hds hi) n (fun y hy=> ?_) hv;rw[e1];exact rd x hx y hy 1 _
abbrev kM (b:CB) (S:RS) (M:MS) (m:WM) (s:ST) (w0 W:ah) (own:Nat->Prop):Prop:=gT (ft b S M m s) w0 W own
theorem kM.rat (h:kM b S M m s w0 W own):nX w0 W b.rb b.p0 b.p1 S own:=gT.forget (ip.isRes _ _ _ _) h
theorem kM.co (h:kM b S M m s w0 W own):∃g,ft b S M m s W g:=by obtain⟨g,hg,_⟩:=h;exact⟨g,hg⟩
theorem kM.turned {P:ef} {g:FuncId} {args:Array ak} {R:Ending->Prop} {b':CB} {S':RS} {M':MS} {m':WM} {s':ST} (hP:gT P w0 W own) (hc:∀f,P W f->(∀k,f k->¬own k)->ap aj g args W fun e w'=>R e/\∃f',ft b' S' M' m' s' w' f'/\Turn f f' W w'):
  ap aj g args W fun e w'=>R e/\kM b' S' M' m' s' w0 w' own/\(∀k,own k->w'.heap[k]? =W.heap[k]?)/\W.heap.size<=w'.heap.size:=by
 obtain⟨f,g1,g2,g3,g4⟩:=hP;refine(hc f g1 fun k hk=>(g2 k hk).2).mono ?_;rintro e w' ⟨he,hx⟩;have hs:W.heap.size<=w'.heap.size:=by obtain⟨f',_,t⟩:=hx;exact t.size
 obtain⟨k1,k2⟩:=gT.turned (ft.isRes _ _ _ _ _) g2 g3 g4 hx;exact⟨he,k1,k2,hs⟩
theorem kM.made {P:ef} {g:FuncId} {args:Array ak} {rb p0 p1:Nat} {S':RS} {M':MS} {m':WM} {s':ST} (hP:gT P w0 W own) (hc:∀f,P W f->ap aj g args W fun e w'=>∃b:CB,(b.rb=rb/\b.p0=p0/\b.p1=p1)/\e=ao (aQ #[b.v,ab ac 0])/\∃f',ft b S' M' m' s' w' f'/\Turn f f' W w'):
  ap aj g args W fun e w'=>∃b:CB,(b.rb=rb/\b.p0=p0/\b.p1=p1)/\e=ao (aQ #[b.v,ab ac 0])/\kM b S' M' m' s' w0 w' own/\(∀k,own k->w'.heap[k]? =W.heap[k]?)/\W.heap.size<=w'.heap.size:=by
 obtain⟨f,g1,g2,g3,g4⟩:=hP;refine(hc f g1).mono ?_;rintro e w' ⟨b,hb,he,hx⟩;have hs:W.heap.size<=w'.heap.size:=by obtain⟨f',_,t⟩:=hx;exact t.size
 obtain⟨k1,k2⟩:=gT.turned (ft.isRes _ _ _ _ _) g2 g3 g4 hx;exact⟨b,hb,he,k1,k2,hs⟩
theorem CSit.fit {k:Nat} (h:CSit S M k) (hk:k<=90):S.Fit/\S.Few 255:=⟨RS.fit (by rw[h.up.fuse];decide) h.d0 (by have:=h.d1;omega),h.few.mono (by omega)⟩
theorem kM.commit {k:Nat} {sA:ST} {q:PS} {fA:Nat->Prop} (h:kM b S M m s w0 W own) (hA:gU q sA W fA) (hfa:∀k,fA k->own k) (hc:CSit S M k) (hk:k<=70) (hi:M.g.In) (hm:WmOk m) (h6:∀x ∈ et m,fG x) (hK:jd 1000 sA.sn) (hp:sA.pr.length<=1000) (hg:iF M.g (sA.dirt m)=true):
  ∃T,ap aj 31 #[b.v,bI q] W (fun e w'=>e=ao (ab ac 0)/\kM b T (M.next (bK M.g.sg (sA.dirt m))) m (sA.dirt m) w0 w' own/\(∀k,own k->w'.heap[k]? =W.heap[k]?)/\W.heap.size<=w'.heap.size)/\
   CSit T (M.next (bK M.g.sg (sA.dirt m))) (k+2)/\T.Dry/\T.n0=S.n0/\T.n1=S.n1/\(M.next (bK M.g.sg (sA.dirt m))).b=bK M.g.sg (sA.dirt m)/\(M.next (bK M.g.sg (sA.dirt m))).g=M.g/\T.D1=S.D1/\∀i,2+M.g.C+M.g.P<=i->i<S.n0->(T.D0 i).look=(S.D0 i).look:=by
 obtain⟨c1,c2,c3⟩:=hc.flush0;obtain⟨hE,hle⟩:=ut hg;have hgd:=hc.good;have hl:(bK M.g.sg (sA.dirt m)).length=M.b.length:=by
  rw[hc.len.1];unfold Geo.oB at hE;rw[if_pos hgd]at hE;omega
 have hby:aP (bK M.g.sg (sA.dirt m)):=rf hg fun t ht=>by
  obtain⟨i,hi⟩:=jY (show t ∈ sA.sn from ht);obtain⟨⟨r,hp⟩, -⟩:=hA;exact(hp.ss i _ t (aZ (by rw[hp.len];exact(bZ.1 hi).1)) hi).ok
 obtain⟨T,hT,t1,t2,t3,t4,t5,t6,t7⟩:=c1.commit (by omega) c2 hl hby;have hn:=rh S 0;have hFE:S.flushE 0=0:=by
  obtain⟨_,h' | h'⟩:=RS.flush0 S
  ·exact h'.2.1
  ·rw[hc.up.ok]at h';cases h'.1
 refine⟨T,kM.turned h fun f hf hd=>RI hf hA (fun k h1 h2=>hd k h1 (hfa k h2)) hm hi h6 hK hp hg (hc.fit (by omega)).1 hFE (c1.rdy (by omega)) c1.up.down (c1.ok (by omega)) hT hl,t1.le (by omega),t2,t3.trans hn.1,t4.trans hn.2,t5,MS.next_g _ _,t6.trans (Rc S),fun i h1 h2=>(t7 i h1 (by rw[hn.1];exact h2)).trans (c3 i)⟩
end
end
section
attribute [-simp] isAgg51 zeroValue51 isAgg23 zeroValue23 isAgg47 zeroValue47 isAgg156 zeroValue156
attribute [-go_sem] aE aL cS
attribute [local go_sem] kr kt hU ia bC bD en
def xU:List Int:=bK gS.sg (dB gS)
def lF:MS:=MS.new gS xU
def kw:RS:=RS.made 21 12 8 gS xU
def nl:WM:=ib (gz 2 2) 2 3 true
def jC:ST:=⟨et nl, [],1,0,0, []⟩
theorem Ff:WmOk nl:=(xI (by decide) (by decide) (by decide) (by decide)).put _ _ _
theorem RN:et nl= [-1, -1,3, -1]:=by decide+kernel
theorem uz:iF gS jC=true:=by decide+kernel
theorem xV:fq (kK gS jC.d) 3=some 2/\fq (kK gS jC.d) 5=none/\et (kK gS jC.d)= [-1, -1,3, -1]:=by decide+kernel
theorem uA:CSit kw lF 1/\kw.Dry/\kw.n0=21/\kw.n1=12/\∀i,i<12->kw.D1 i=jN:=by
 have hl:=(ut (rj (G:=gS) (by decide))).1;have hb:xU.length=gS.bts.toNat:=by
  have e1:gS.bts=126:=by decide
  have e2:gS.sg.bts=126:=by decide
  rw[e1];show(bK gS.sg (dB gS)).length=126;have e3:gS.oB=126:=by decide
  omega
 exact CSit.fmt (by decide) (by decide) (by decide) (by decide) (by decide) (by decide) (by decide) hb (rf (rj (by decide)) fun t ht=>by cases ht)
def nm:RS:=kw.write 0 19 (bf 5)
theorem Fg:kw.has 0 19=true:=by
 unfold RS.has RS.len;rw[if_pos rfl,uA.2.2.1];decide
theorem RO {S:RS} {i:Int} (hu:S.Up) (h:S.has 0 i=true) (v:List ak):S.writeE 0 i=0:=by
 unfold RS.writeE;rw[if_pos h,if_pos hu.ok]
theorem RQ {S:RS} {k:Nat} (hu:S.Up) (h:S.has 0 (k:Int)=true) (hf:S.Few 200) (v:List ak):((S.write 0 (k:Int) v).D0 k).look=v:=by
 have hk:k<S.n0:=by
  obtain⟨_,j,e,hj⟩:=RS.has_lt h;obtain rfl:k=j:=by omega
  exact hj
 unfold RS.write;rw[if_pos h,if_pos hu.ok,hu.after];unfold RS.put;rw[if_pos rfl];show(upd S.D0 _ _ k).look=v;rw[iG,kg];exact Sec.look_add (by show(S.D0 k).vs.length<=255;have:=hf.1 k hk;omega) v
theorem pK:CSit nm lF 2/\nm.n0=21/\nm.n1=12/\(∀i,i<12->nm.D1 i=jN)/\(nm.D0 19).look=bf 5:=by
 obtain⟨h1,h2,h3,h4,h5⟩:=uA;have hn:=EZ kw 0 19 (bf 5);exact⟨h1.fast (by decide) (i:=19) (by decide) (BB.fill (by omega)),hn.1.trans h3,hn.2.trans h4,fun i hi=>by unfold nm;rw[Ra];exact h5 i hi,RQ (k:=19) h1.up Fg (h1.few.mono (by decide)) _⟩
theorem Fh {S:RS} {dev:Int} {k:Nat} (hu:S.Up) (h:S.has dev (k:Int)=true):S.read dev (k:Int)=S.look dev k/\S.readE dev (k:Int)=0:=by
 unfold RS.read RS.readE;rw[if_pos ⟨h,hu.down⟩,if_pos h,if_neg (by rw[hu.down];decide),iG];exact⟨rfl,rfl⟩
theorem RT {T:RS} {M:MS} (h:CSit T M 4) (hd:T.Dry) (h0:T.n0=21) (h1:T.n1=12) (hD1:∀i,i<12->T.D1 i=jN) (hl:(T.D0 19).look=bf 5) {mm:WM} (hm3:fq mm 3=some 2) (hm5:fq mm 5=none):
  CSit (T.crash [] []) M 4/\mi (T.crash [] []) gS mm 3=bf 5/\nk (T.crash [] []) gS mm 3=0/\mi (T.crash [] []) gS mm 5=bf 0/\nk (T.crash [] []) gS mm 5=0:=by
 obtain⟨c1,c2,c3⟩:=h.crash hd [] [];have a3:(T.crash [] []).has 0 ((19:Nat):Int)=true:=by
  unfold RS.has RS.len;rw[if_pos rfl,show(T.crash [] []).n0=21 from h0];decide
 have a5:(T.crash [] []).has 1 ((5:Nat):Int)=true:=by
  unfold RS.has RS.len;rw[if_neg (by decide),if_pos rfl,show(T.crash [] []).n1=12 from h1];decide
 obtain⟨r3,e3⟩:=Fh c1.up a3;obtain⟨r5,e5⟩:=Fh c1.up a5;have l3:(T.crash [] []).look 0 19=bf 5:=by
  unfold RS.look;rw[if_pos rfl];exact(c3 19 (by rw[h0];decide)).trans hl
 have l5:(T.crash [] []).look 1 5=bf 0:=by
  unfold RS.look;rw[if_neg (by decide),Rg T [] [] (by rw[hD1 5 (by decide)];rfl),hD1 5 (by decide)]
  rfl
 have s3:gS.sS ((2:Nat):Int)=((19:Nat):Int):=by decide
 have s5:gS.sW 5=((5:Nat):Int):=by decide
 unfold mi nk;rw[hm3,hm5]
 dsimp only
 rw[s3,s5,r3,r5,e3,e5,l3,l5];exact⟨c1,rfl,rfl,rfl,rfl⟩
section
theorem RV:aP (bK gS.sg jC):=rf uz fun t ht=>by cases ht
theorem xW:jd 1000 []:=by unfold jd;simp
theorem RW (w:ah) (a b c d:Int):(dh 41 4 #[(0,ab ac a),(1,ab ac b),(2,ab ac c),(3,ab ac d)]).run aj w=.ok (af (some ⟨w.heap.size,0,none⟩) 4 4) (w.alloc (an #[ab ac a,ab ac b,ab ac c,ab ac d] 3)):=by kernel_rfl
theorem RX (x:ah) (q:PS):∃y,(aL 47 ⟨x.heap.size,0,none⟩ (bI q)).run aj (x.alloc (an #[af none 0 0,af none 0 0,ab ac 0,ab ac 0,ab ac 0,af none 0 0] 47))=.ok () y/\aq y x.heap.size 47 (aW q)/\ag x.heap.size x y:=by
 have r0:aq (x.alloc (an #[af none 0 0,af none 0 0,ab ac 0,ab ac 0,ab ac 0,af none 0 0] 47)) x.heap.size 47 (aW dH):=aq.new x _ _;obtain⟨y,a,b,c⟩:=xR q r0 rfl;exact⟨y,a,b,(aH x _).grown c (by simp) (fun k e=>by cases e;exact aG _)⟩
theorem Sa (w:ah):ap aj 10 #[] w fun e w'=>e=ao (.bool true)/\ag w.heap.size w w':=by
 have hmx:=w9x
 go_enter func10,ntmps10;go_wp2_with fail;refine(Rm w).mono ?_;rintro e x ⟨rfl,hb⟩;obtain⟨y,ST,hr,hby⟩:=Fb x gS;obtain⟨G,hG⟩:=w9nm x.heap.size;have HBY:w9h w y:=hb.trans (hby.mono hb.size);rw[hG]at hr ST;have HRG:=ae hr;clear hb hr hby;go_wp2_with fail;have LG:∀z:aM y,(aE 23 ⟨G,0,none⟩).run aj z.1=.ok (al gS.v) z.1:=fun z=>cG (HRG.out.below z.2);obtain⟨X,hX⟩:=w9nm y.drew;have HXX:Hid (ag y.heap.size y X):=by show ag _ _ _;rw[←hX];exact(aI _ y).drew
 refine du (fun u=>∃z:aM y,u=z.1) 9 (.takes [0,2] (.one 1 (.one 3 (.one 4 (.takes [5,6,8,7] .leaf))))) hmx (by kernel_rfl) (by intro c x v a w h;cases x<;>exact h) ⟨⟨y.drew,(aI _ y).drew⟩,rfl⟩ ?_;rw[hX];clear hX;repeat(rw[bu];simp only[aB,aC];go_big_quiet_step (fail);refine aV ?_)
 rw[bt,aT];simp only[aB,aC];go_wp2_with fail;refine(tY gS ow X).mono ?_;rintro e y1 ⟨rfl,hb1⟩;rw[show gS.oF=((21:Nat):Int) by decide];have HY1:=w9bt HXX hb1;clear hb1;go_wp2_with fail;refine aN ⟨⟨y1,HY1.out⟩,rfl⟩ ?_;rw[aT];simp only[aB,aC];go_wp2_with fail;refine(xy gS ow y1).mono ?_;rintro e y2 ⟨rfl,hb2⟩;rw[show gS.oW=((12:Nat):Int) by decide];have HY2:=w9bt HY1 hb2;clear hb2;go_wp2_with fail;refine aN ⟨⟨y2,HY2.out⟩,rfl⟩ ?_;rw[aT];simp only[aB,aC];go_wp2_with fail;have HBW2:w9h w y2:=HBY.out.trans (HY2.out.mono HBY.out.size);have hG2:Hid (aq y2 G 23 gS.cs):=HRG.out.below HY2.out;have hnew:=nX.new 21 12 w y2 HBW2.out (by decide) (by decide) (by decide) (by decide) (fun k=>k=G) (fun k hk=>by rw[hk];exact hG2.out.lt);refine hnew.mono ?_;rintro e x1 ⟨rb,p0,p1,rfl,hR1,hb1⟩;have HR1:=ae hR1;have HG1:=ae (hG2.out.below hb1);have HY3:=w9bt HY2 hb1;clear hnew hR1 hb1 ST hG2;go_wp2_with fail;refine aN ⟨⟨x1,HY3.out⟩,rfl⟩ ?_;repeat(rw[bu];simp only[aB,aC];go_big_quiet_step (fail);refine aV ?_)
 rw[bt,cW];simp only[bR,bQ];have L1:=cG HG1.out;clear LG;go_wp2_with fail;have hfm:=kM.made HR1.out (fun f hf=>RE hf (by decide) (by decide) gS ow xT (by decide) (by decide));refine hfm.mono ?_;rintro e x3 ⟨b,⟨e1,e2,e3⟩,rfl,hC3,hk3,hsz3⟩;subst e1 e2 e3;have HC3:Hid (kM b kw lF (gz 2 2) (dB gS) w x3 (fun k=>k=G)):=hC3;have HG3:Hid (aq x3 G 23 gS.cs):=pJ HG1.out (own:=fun k=>k=G) rfl hk3;clear hfm hC3 hk3 hsz3 L1;unfold CB.v;go_wp2_with fail;obtain⟨g0,hg0⟩:=HC3.out.co;obtain⟨g1,hg1⟩:=hg0.par;refine(xO hg1).mono ?_;rintro e x4 ⟨rfl,hx⟩;rw[hx];clear hx;go_wp2_with fail;refine(xO hg1).mono ?_;rintro e x4 ⟨rfl,hx⟩;rw[hx];clear hx hg0 hg1;go_wp2_with fail;have hpt:=kM.turned (R:=fun e=>e=ao (aQ #[])) HC3.out (fun f hf _=>ft.put hf (xI (by decide) (by decide) (by decide) (by decide)) 2 3 true (by decide));refine hpt.mono ?_;rintro e x4 ⟨rfl,hC4,hk4,hsz4⟩;have HC4:Hid (kM b kw lF nl (dB gS) w x4 (fun k=>k=G)):=hC4;have HG4:Hid (aq x4 G 23 gS.cs):=pJ HG3.out (own:=fun k=>k=G) rfl hk4;clear hpt hC4 hk4 hsz4;go_wp2_with fail;refine(BR 5 x4).mono ?_;rintro e x5 ⟨rfl,hb5⟩;have HC5:Hid (kM b kw lF nl (dB gS) w x5 (fun k=>k=G)):=gT.beside (ft.isRes _ _ _ _ _) HC4.out hb5;have HG5:Hid (aq x5 G 23 gS.cs):=HG4.out.below hb5;clear hb5;go_wp2_with fail;obtain⟨fit,few⟩:=CSit.fit uA.1 (by decide);have e19:lF.g.sS 2=19:=by decide
 have w19:kw.writeE 0 19=0:=RO uA.1.up Fg [];have hps:=kM.turned (R:=fun e=>e=ao (ab ac (kw.writeE 0 (lF.g.sS 2)))) HC5.out (fun f hf _=>ft.putSlot hf ow fit few 2 (eV 5));rw[e19,w19]at hps;refine hps.mono ?_;rintro e x6 ⟨rfl,hC6,hk6,hsz6⟩;have HC6:Hid (kM b nm lF nl (dB gS) w x6 (fun k=>k=G)):=hC6;have HG6:Hid (aq x6 G 23 gS.cs):=pJ HG5.out (own:=fun k=>k=G) rfl hk6;clear hps hC6 hk6 hsz6 fit few e19 w19;go_wp2_with fail;obtain⟨g0,hg0⟩:=HC6.out.co;obtain⟨g1,hg1⟩:=hg0.par;refine(ER hg1 Ff xW (by decide) (by decide)).mono ?_;rintro e x7 ⟨q,rfl,q1,q2,q3,hO,hb7⟩;obtain⟨own,hown⟩:∃o,uy (fun k=>k=G) x6 x7=o:=⟨_,rfl⟩;have hC7:kM b nm lF nl (dB gS) w x7 (uy (fun k=>k=G) x6 x7):=gT.plus (ft.isRes _ _ _ _ _) HC6.out hb7;have hA:gU q jC x7 (From x6.heap.size x7):=gU.made (s:=jC) hO q1 q2 q3;have hfa:∀k,From x6.heap.size x7 k->uy (fun k=>k=G) x6 x7 k:=fun k ⟨a,o,c,_⟩=>aD ⟨a,(bL.1 c).1⟩;have hoG:own G:=by rw[←hown];exact aA rfl
 rw[hown]at hC7 hfa;have HOG:=ae hoG;have HC7:=ae hC7;have HA:=ae hA;have HFA:=ae hfa;have HG7:Hid (aq x7 G 23 gS.cs):=HG6.out.below hb7;clear hg0 hg1 q1 q2 q3 hO hb7 hC7 hA hfa hoG hown;go_wp2_with fail;obtain⟨T,hcm,t1,t2,t3,t4,t5,t6,t7,t8⟩:=kM.commit HC7.out HA.out HFA.out pK.1 (by decide) ow Ff (by rw[RN];intro x hx;simp only[dy,lM,or_false]at hx;unfold fG;omega) xW (by decide) uz;obtain⟨M,hM⟩:=w9nm (lF.next (bK lF.g.sg (jC.dirt nl)));rw[hM]at hcm t1 t5 t6;have HT:Hid (CSit T M 4/\T.Dry/\T.n0=21/\T.n1=12/\M.b=bK gS.sg jC/\M.g=gS/\(∀i,i<12->T.D1 i=jN)/\(T.D0 19).look=bf 5):=⟨t1,t2,t3.trans pK.2.1,t4.trans pK.2.2.1,t5,t6,fun i hi=>by rw[t7];exact pK.2.2.2.1 i hi,(t8 19 (by decide) (by rw[pK.2.1];decide)).trans pK.2.2.2.2⟩;refine hcm.mono ?_;rintro e x8 ⟨rfl,hC8,hk8,hsz8⟩;have HR8:=ae (kM.rat hC8);have HG8:Hid (aq x8 G 23 gS.cs):=pJ HG7.out HOG.out hk8;clear hcm t1 t2 t3 t4 t5 t6 t7 t8 hM hC8 hk8 hsz8;go_wp2_with fail;have hcr:=nX.crash HR8.out (Sl.nil _ _) (Sl.nil _ _) (fun j=>by simp) (fun j=>by simp) (fun h=>absurd rfl h) (fun h=>absurd rfl h) (HT.out.1.few.mono (by decide));refine hcr.mono ?_;rintro e x9 ⟨rfl,hR9,hk9⟩;have HR9:=ae hR9;have HG9:Hid (aq x9 G 23 gS.cs):=pJ HG8.out HOG.out hk9;obtain⟨i1,i2,i3,i4,i5⟩:=RT HT.out.1 HT.out.2.1 HT.out.2.2.1 HT.out.2.2.2.1 HT.out.2.2.2.2.2.2.1 HT.out.2.2.2.2.2.2.2 xV.1 xV.2.1;obtain⟨S,hS⟩:=w9nm (T.crash [] []);rw[hS]at HR9 i1 i2 i3 i4 i5;have HI:=ae (And.intro i1 (And.intro i2 (And.intro i3 (And.intro i4 i5))));have HE:Hid (M.b=bK gS.sg jC/\M.g=gS):=⟨HT.out.2.2.2.2.1,HT.out.2.2.2.2.2.1⟩;clear hcr hR9 hk9 i1 i2 i3 i4 i5 hS HT;go_wp2_with fail;have hop:=kM.made HR9.out (fun f hf=>QY hf (HI.out.1.rdy (by decide)) HI.out.1.up (HI.out.1.opn (by decide)) (by rw[HE.out.2];exact xT) (by rw[HE.out.2];exact ow) (by rw[HE.out.1];exact RV) (by rw[HE.out.1];exact(ut uz).2) (s:=jC) (by rw[HE.out.1,HE.out.2];exact QQ uz));rw[HE.out.2]at hop;refine hop.mono ?_;rintro e x10 ⟨d, -,rfl,hC10,hk10,hsz10⟩;have HC10:Hid (kM d S M (kK gS jC.d) jC w x10 own):=hC10;have HG10:Hid (aq x10 G 23 gS.cs):=pJ HG9.out HOG.out hk10;clear hop hC10 hk10 hsz10;unfold CB.v;go_wp2_with fail;obtain⟨g0,hg0⟩:=HC10.out.co;have HX10:=ae hg0;have hi10:M.g.In:=by rw[HE.out.2];exact ow
 have hmo:WmOk (kK gS jC.d):=(xQ xT jC.d _).1;have HN3:Hid (∀z:ah,ag x10.heap.size x10 z->ap aj 49 #[am (some ⟨d.C,0,none⟩),ab ac 3] z fun e w'=>e=ao (aQ #[al (bf 5).toArray,ab ac 0])/\ag z.heap.size z w'):=fun z hz=>by
  have:=ft.now (HX10.out.below hz) hi10 hmo 3 (by rw[HE.out.2];decide) (by decide);rw[HE.out.2,HI.out.2.1,HI.out.2.2.1]at this;exact this
 have HN5:Hid (∀z:ah,ag x10.heap.size x10 z->ap aj 49 #[am (some ⟨d.C,0,none⟩),ab ac 5] z fun e w'=>e=ao (aQ #[al (bf 0).toArray,ab ac 0])/\ag z.heap.size z w'):=fun z hz=>by
  have:=ft.now (HX10.out.below hz) hi10 hmo 5 (by rw[HE.out.2];decide) (by decide);rw[HE.out.2,HI.out.2.2.2.1,HI.out.2.2.2.2]at this;exact this
 have HMO:=ae hmo;clear hg0 hi10 hmo;refine(HN3.out x10 (aI _ _)).mono ?_;rintro e x11 ⟨rfl,hb11⟩;obtain⟨A,hAA⟩:=w9nm x11.heap.size;obtain⟨y1,SA,hrA,hbA⟩:=kE x11 (eV 5);rw[hAA]at SA hrA;have HB11:w9h x10 y1:=hb11.trans (hbA.mono hb11.size);have HRA:=ae hrA;clear hb11 hbA hrA;go_wp2_with fail;clear SA hAA;refine(HN5.out y1 HB11.out).mono ?_;rintro e x12 ⟨rfl,hb12⟩;obtain⟨A2,hAA⟩:=w9nm x12.heap.size;obtain⟨y2,SA,hrA,hbA⟩:=kE x12 (eV 0);rw[hAA]at SA hrA;have HB12:w9h x10 y2:=HB11.out.trans ((hb12.trans (hbA.mono hb12.size)).mono HB11.out.size);have HRB:=ae hrA;have HRA:=ae (HRA.out.below (hb12.trans (hbA.mono hb12.size)));clear hb12 hbA hrA;go_wp2_with fail;clear SA hAA;obtain⟨g1,hg1⟩:=(HX10.out.below HB12.out).par;refine(ER hg1 HMO.out xW (by decide) (by decide)).mono ?_;rintro e x13 ⟨q',rfl,q1,q2,q3,hO,hb13⟩;obtain⟨B,hBB⟩:=w9nm x13.heap.size;obtain⟨Y0,SS,hrS,hbS⟩:=RX x13 q';rw[hBB]at SS hrS;have hbb:=hb13.trans (hbS.mono hb13.size);have HB13:=w9bt HB12 hbb;have HSL:Hid (Sl ac Y0 (aK q'.d) [-1, -1,3, -1]):=by
  have:=(oI hO.dd).below hbS;rw[xV.2.2]at this;exact this
 have HRS:=ae hrS;have HRA:=ae (HRA.out.below hbb);have HRB:=ae (HRB.out.below hbb);have HG13:Hid (aq Y0 G 23 gS.cs):=HG10.out.below HB13.out;have q1:q'.nx=1:=q1;obtain⟨gp,hgp⟩:=(HX10.out.below HB13.out).par;have HGE:Hid (∀z:ah,ag Y0.heap.size Y0 z->ap aj 38 #[am (some ⟨d.C,0,none⟩)] z fun e w'=>e=ao (al gS.v)/\ag z.heap.size z w'):=fun z hz=>by
  have:=um (hgp.below hz);rw[HE.out.2]at this;exact this
 have HBW:w9h w Y0:=HC10.out.bel.trans (HB13.out.mono HC10.out.bel.size);have c0:∀z:aM Y0,z.1.cell? ⟨B,0,none⟩=some (aK q'.d):=fun z=>(HRS.out.below z.2).cell 0 _ rfl;have c2:∀z:aM Y0,z.1.cell? ⟨B,2,none⟩=some (ab ac 1):=fun z=>by rw[←q1];exact(HRS.out.below z.2).cell 2 _ rfl
 clear q1 q2 q3 hO hb13 hbS hrS hg1 hgp hbb;go_wp2_with fail;clear SS hBB;have LA:∀z:aM Y0,(aE 51 ⟨A,0,none⟩).run aj z.1=.ok (al (bf 5).toArray) z.1:=fun z=>gl ((HRA.out.below z.2).range) (by simp[bf]);have LB:∀z:aM Y0,(aE 51 ⟨A2,0,none⟩).run aj z.1=.ok (al (bf 0).toArray) z.1:=fun z=>gl ((HRB.out.below z.2).range) (by simp[bf]);have LG:∀z:aM Y0,(aE 23 ⟨G,0,none⟩).run aj z.1=.ok (al gS.v) z.1:=fun z=>cG (HG13.out.below z.2);have E5:∀z:aM Y0,(jG 10000 51 (al (bf 5).toArray) (al (bf 5).toArray)).run aj z.1=.ok true z.1:=fun z=>yi 5 5 z.1;have E0:∀z:aM Y0,(jG 10000 51 (al (bf 0).toArray) (al cF)).run aj z.1=.ok true z.1:=fun z=>Ga 0 z.1;have EG:∀z:aM Y0,(jG 10000 23 (al gS.v) (al gS.v)).run aj z.1=.ok true z.1:=fun z=>Rh gS z.1;obtain⟨X2,hX⟩:=w9nm Y0.drew;have HXX:Hid (ag Y0.heap.size Y0 X2):=by show ag _ _ _;rw[←hX];exact(aI _ Y0).drew
 refine du (fun u=>∃z:aM Y0,u=z.1) 33 (.takes [0,1,2,3,4,5,6,7] (.one 8 (.takes [9,10,11,12,13,14,15,16,17,18] (.one 19 (.one 20 (.takes [21,22,23,24,25,26,27,28,30] (.one 29 (.takes [31,32] .leaf)))))))) hmx (by kernel_rfl) (by intro c x v a w h;cases x<;>exact h) ⟨⟨Y0.drew,(aI _ Y0).drew⟩,rfl⟩ ?_;rw[hX];clear hX;repeat(rw[bu];simp only[aB,aC];go_big_quiet_step (fail);refine aV ?_)
 rw[bt,aT];simp only[aB,aC];go_wp2_with fail;refine(BR 5 X2).mono ?_;rintro e z1 ⟨rfl,hb1⟩;have HZ1:=w9bt HXX hb1;clear hb1;go_wp2_with fail;refine aN ⟨⟨z1,HZ1.out⟩,rfl⟩ ?_;repeat(rw[bu];simp only[aB,aC];go_big_quiet_step (fail);refine aV ?_)
 rw[bt,aT];simp only[aB,aC];have SB:=RW z1 (-1) (-1) 3 (-1);obtain⟨Q,hQ⟩:=w9nm z1.heap.size;obtain⟨z2,hz2⟩:=w9nm (z1.alloc (an #[ab ac (-1),ab ac (-1),ab ac 3,ab ac (-1)] 3));have hb2:ag z1.heap.size z1 z2:=by rw[←hz2];exact aH z1 _
 have hrow:aq z2 z1.heap.size 3 [ab ac (-1),ab ac (-1),ab ac 3,ab ac (-1)]:=by rw[←hz2];exact aq.new z1 _ _
 rw[hz2,hQ]at SB;rw[hQ]at hrow;have HSQ:Hid (Sl ac z2 (af (some ⟨Q,0,none⟩) 4 4) [-1, -1,3, -1]):=by
  have:=Sl.at (k:=ac) (w:=z2) (b:=Q) (off:=0) (cap:=4) (bs:= [-1, -1,3, -1]) (by decide) (by unfold aY;decide) hrow.lt (fun j hj=>by
   refine hrow.cell _ _ ?_;rw[dP]
   match j,hj with
   | 0,_=>rfl
   | 1,_=>rfl
   | 2,_=>rfl
   | 3,_=>rfl)
  exact this
 have HZ2:=w9bt HZ1 hb2;clear hb2 hrow;go_wp2_with fail;try rw[hz2]
 try rw[hQ]
 refine aN ⟨⟨z2,HZ2.out⟩,rfl⟩ ?_;clear SB hz2 hQ;rw[aT];simp only[aB,aC];go_wp2_with fail;refine(Gj _ _ [-1, -1,3, -1] z2 (HSL.out.below HZ2.out) HSQ.out).mono ?_;rintro e z3 ⟨rfl,hb3⟩;have HZ3:=w9bt HZ2 hb3;clear hb3;go_wp2_with fail;refine aN ⟨⟨z3,HZ3.out⟩,rfl⟩ ?_;repeat(rw[bu];simp only[aB,aC];go_big_quiet_step (fail);refine aV ?_)
 rw[bt,aT];simp only[aB,aC];go_wp2_with fail;refine(HGE.out z3 HZ3.out).mono ?_;rintro e z4 ⟨rfl,hb4⟩;have HZ4:=w9bt HZ3 hb4;clear hb4;go_wp2_with fail;refine aN ⟨⟨z4,HZ4.out⟩,rfl⟩ ?_;repeat(rw[bu];simp only[aB,aC];go_big_quiet_step (fail);refine aV ?_)
 rw[bt,cW];simp only[bR,bQ];go_wp2_with fail;go_ret;exact⟨rfl,HBW.out.trans (HZ4.out.mono HBW.out.size)⟩
end
section
def Geo.tiny (g:Geo):Prop:=¬g.good\/g.b<=16/\g.r<=60
theorem Fi (g:Geo) (w:ah) (b:Bool) (hb:b=true↔g.tiny):ap aj 9 #[al g.v] w fun e w'=>e=ao (.bool b)/\ag w.heap.size w w':=by
 obtain⟨W,hW⟩:=w9nm (w.alloc (an g.v 23));have HB:Hid (ag w.heap.size w W):=by show ag _ _ _;rw[←hW];exact aH w _
 have HR:Hid (aq W w.heap.size 23 g.cs):=by show aq _ _ _ _;rw[←hW];exact aq.new w _ _
 obtain⟨B,hB⟩:=w9nm w.heap.size;rw[hB]at HR;have L0:=cG HR.out;go_enter func9,ntmps9;go_wp2_with fail;clear L0;refine(IS g W).mono ?_;rintro e x ⟨rfl,hx⟩;have HX:w9h W x:=hx;have hr:=HR.out.below hx;have c0:x.cell? ⟨B,0,none⟩=some (ab ac g.b):=hr.cell 0 _ rfl;have c4:x.cell? ⟨B,4,none⟩=some (ab ac g.r):=hr.cell 4 _ rfl;clear hx hr;have FIN:w9h w x:=HB.out.trans (HX.out.mono HB.out.size);clear hB;unfold Geo.tiny at hb;by_cases hg:g.good
 ·rw[decide_eq_true hg];by_cases h1:g.b<=16
  ·have g1:decide (g.b<=16)=true:=decide_eq_true h1;by_cases h2:g.r<=60
   ·have g2:decide (g.r<=60)=true:=decide_eq_true h2;obtain rfl:b=true:=hb.2 (aD ⟨h1,h2⟩);clear hb hg h1 h2;go_wp2_with fail;go_ret;exact⟨rfl,FIN.out⟩
   ·have g2:decide (g.r<=60)=false:=decide_eq_false h2;obtain rfl:b=false:=by cases b with | false=>rfl | true=>rcases hb.1 rfl with h | h;exact absurd hg h;exact absurd h.2 h2
    clear hb hg h1 h2;go_wp2_with fail;go_ret;exact⟨rfl,FIN.out⟩
  ·have g1:decide (g.b<=16)=false:=decide_eq_false h1;obtain rfl:b=false:=by cases b with | false=>rfl | true=>rcases hb.1 rfl with h | h;exact absurd hg h;exact absurd h.1 h1
   clear hb hg h1;go_wp2_with fail;go_ret;exact⟨rfl,FIN.out⟩
 ·rw[decide_eq_false hg];obtain rfl:b=true:=hb.2 (aA hg);clear hb hg;go_wp2_with fail;go_ret;exact⟨rfl,FIN.out⟩
theorem Sb (i:Int) (w:ah):ap aj 49 #[am none,ab ac i] w fun e w'=>e=ao (aQ #[al (bf 0).toArray,ab ac 1])/\ag w.heap.size w w':=RJ (Hds.nil w) i (fun h=>by have h1:=h.1;have h2:i<0:=h.2;omega)
theorem Sc (i:Int) (w:ah):ap aj 50 #[am none,ab ac i] w fun e w'=>e=ao (aQ #[al (bf 0).toArray,ab ac 1])/\ag w.heap.size w w':=EN (Hds.nil w) i (fun x _=>CI 0 _ x) (eV 0)
theorem Sd (i:Int) (w:ah):ap aj 51 #[am none,ab ac i] w fun e w'=>e=ao (aQ #[al (bf 0).toArray,ab ac 1])/\ag w.heap.size w w':=Qq (Hds.nil w) i (fun x _=>CI 1 _ x) (eV 0)
theorem Se (w:ah):(Instr.field 47 (al #[af none 0 0,af none 0 0,ab ac 0,ab ac 0,ab ac 0,af none 0 0]) 0).run aj w=.ok (af none 0 0) w:=by kernel_rfl
theorem Sf (b:Int) (w:ah):ap aj 19 #[am none,ab ac b] w fun e w'=>e=ao (aQ #[])/\w'=w:=by
 go_enter func19,ntmps19;go_wp2_with fail;exact bo (results_none rfl _ _ _) rfl ⟨rfl,rfl⟩
theorem Sg (dev:Int) (w:ah):ap aj 34 #[am none,ab ac dev] w fun e w'=>e=ao (ab ac 1)/\ag w.heap.size w w':=by
 refine(EL (Hds.nil w) dev (K:=fun x e y=>e=ao (ab ac 1)/\ag x.heap.size x y) fun x hx=>(Nj dev x).mono fun e y h=>⟨1,h.1,h⟩).mono ?_;rintro e y ⟨x,hx,he,hb⟩;exact⟨he,hx.trans (hb.mono hx.size)⟩
theorem Sh (i:Int) {v:List ak} (hv:cz v) (w:ah):ap aj 16 #[am none,ab ac i,al v.toArray] w fun e w'=>e=ao (ab ac 1)/\ag w.heap.size w w':=by
 refine(Qs (Hds.nil w) i hv (K:=fun x e y=>e=ao (ab ac 1)/\ag x.heap.size x y) fun x hx=>(Nk 1 _ v x).mono fun e y h=>⟨1,h.1,h⟩).mono ?_;rintro e y ⟨x,hx,he,hb⟩;exact⟨he,hx.trans (hb.mono hx.size)⟩
end
end
section
attribute [-simp] isAgg51 zeroValue51 isAgg23 zeroValue23 isAgg47 zeroValue47 isAgg156 zeroValue156
attribute [-go_sem] aE aL cS
attribute [local go_sem] kr kt hU ia bC bD en
attribute [local go_sem] Se
section
theorem coreNoneW (g:Geo) (hin:g.In) (i:Int) (w:ah):ap aj 5 #[al g.v,ab ac i] w fun e w'=>e=ao (.bool true)/\ag w.heap.size w w':=by
 have HW:=ae Sa;have HIN:=ae hin;obtain⟨W,hW⟩:=w9nm (w.alloc (an g.v 23));have r0:aq W w.heap.size 23 g.cs:=by rw[←hW];exact aq.new w _ _
 have HB0:Hid (ag w.heap.size w W):=by show ag _ _ _;rw[←hW];exact aH w _
 obtain⟨B,hB⟩:=w9nm w.heap.size;rw[hB]at r0;have HR0:=ae r0;have LG0:(aE 23 ⟨B,0,none⟩).run aj W=.ok (al g.v) W:=cG r0;have HHB:=ae hB;clear r0 hin;by_cases hg:g.tiny
 ·have hlt:=Fi g W true ⟨fun _=>hg,fun _=>rfl⟩;go_enter func5,ntmps5;go_wp2_with fail;refine hlt.mono ?_;rintro e x ⟨rfl,hx⟩;have HX:w9h W x:=hx;clear hx hlt hg LG0;go_wp2_with fail;have hnew:=nX.new 5 5 w x (HB0.out.trans (HX.out.mono HB0.out.size)) (by decide) (by decide) (by decide) (by decide) (fun _=>False) (fun k hk=>hk.elim);refine hnew.mono ?_;rintro e x2 ⟨rb,p0,p1,rfl,hR2,hx⟩;have HX2:=w9bt HX hx;have HR2:=ae hR2;have L2:=cG (HR0.out.below HX2.out);clear hnew hR2 hx;go_wp2_with fail;clear L2;obtain⟨f2,hf2, -⟩:=HR2.out;refine(Rz hf2 g HIN.out (fun h=>by have:=h.2.1;have:=Geo.least h.1;have e:((gu 5 5).n0:Int)=5:=rfl;omega)).mono ?_;rintro e x3 ⟨rfl,hx⟩;have HX3:=w9bt HX2 hx;have HR3:Hid (nX w x3 rb p0 p1 (gu 5 5) (fun _=>False)):=nX.beside HR2.out hx;clear hx hf2;go_wp2_with fail;obtain⟨f3,hf3, -⟩:=HR3.out;refine(QX hf3 (Rt (by decide) (by decide)) (BT _ _) (by show 2<=5;omega) (Rs _ _)).mono ?_;rintro e x4 ⟨rfl,hx⟩;have HX4:=w9bt HX3 hx;clear hx hf3;go_wp2_with fail;refine(QW x4).mono ?_;rintro e x5 ⟨rfl,hx⟩;have HX5:=w9bt HX4 hx;clear hx;go_wp2_with fail;refine(Sf i x5).mono ?_;rintro e x6 ⟨rfl,hx⟩;rw[hx];clear hx;go_wp2_with fail;refine(Sb i x5).mono ?_;rintro e x6 ⟨rfl,hx⟩;obtain⟨y1,S1, -,hy1⟩:=kE x6 (eV 0);have HX6:w9h W y1:=HX5.out.trans ((hx.trans (hy1.mono hx.size)).mono HX5.out.size);clear hx hy1;go_wp2_with fail;clear S1;refine(Sc i y1).mono ?_;rintro e x7 ⟨rfl,hx⟩;obtain⟨y2,S1, -,hy1⟩:=kE x7 (eV 0);have HX7:w9h W y2:=HX6.out.trans ((hx.trans (hy1.mono hx.size)).mono HX6.out.size);clear hx hy1;go_wp2_with fail;clear S1;refine(Sd i y2).mono ?_;rintro e x8 ⟨rfl,hx⟩;obtain⟨y3,S1, -,hy1⟩:=kE x8 (eV 0);have HX8:w9h W y3:=HX7.out.trans ((hx.trans (hy1.mono hx.size)).mono HX7.out.size);clear hx hy1;go_wp2_with fail;clear S1;refine(RH dH y3).mono ?_;rintro e x9 ⟨rfl,hx⟩;have HX9:=w9bt HX8 hx;clear hx;go_wp2_with fail;refine(PM x9).mono ?_;rintro e x10 ⟨rfl,hx⟩;rw[hx];clear hx;go_wp2_with fail;refine(Sg 0 x9).mono ?_;rintro e x11 ⟨rfl,hx⟩;have HX11:=w9bt HX9 hx;clear hx;go_wp2_with fail;refine(Sh i (eV 0) x11).mono ?_;rintro e x12 ⟨rfl,hx⟩;have HX12:=w9bt HX11 hx;clear hx;go_wp2_with fail;refine(QA x12).mono ?_;rintro e x13 ⟨rfl,hx⟩;have HX13:=w9bt HX12 hx;clear hx;simp only[bI,aW,aK,dH];go_wp2_with fail;refine(HW.out _).mono ?_;rintro e x14 ⟨rfl,hx⟩;have HX14:w9h w x14:=HB0.out.trans ((HX13.out.trans (hx.mono HX13.out.size)).mono HB0.out.size);clear hx;go_wp2_with fail;go_ret;first | exact⟨rfl,HX14.out⟩ | exact⟨rfl,by rw[←hB];exact HX14.out⟩
 ·have hlt:=Fi g W false ⟨fun h=>(by cases h),fun h=>absurd h hg⟩;go_enter func5,ntmps5;go_wp2_with fail;refine hlt.mono ?_;rintro e x ⟨rfl,hx⟩;have HX:w9h W x:=hx;clear hx hlt hg LG0;go_wp2_with fail;refine(HW.out _).mono ?_;rintro e x ⟨rfl,hx⟩;have HX1:w9h w x:=HB0.out.trans ((HX.out.trans (hx.mono HX.out.size)).mono HB0.out.size);clear hx;go_wp2_with fail;go_ret;first | exact⟨rfl,HX1.out⟩ | exact⟨rfl,by rw[←hB];exact HX1.out⟩
end
end
section
open Go.ChangeShapes Go.WideShapes Go.ChangeAt Go.RowKit
set_option maxRecDepth 100000 in
theorem Fj:∃fs,aj.underlying 23 =some (.struct fs)/\(fs[0]?).map (fun f=>(f.offset,f.type))=some (0, 3)/\(fs[1]?).map (fun f=>(f.offset,f.type))=some (1, 3)/\(fs[2]?).map (fun f=>(f.offset,f.type))=some (2, 3)/\(fs[3]?).map (fun f=>(f.offset,f.type))=some (3, 3)/\(fs[4]?).map (fun f=>(f.offset,f.type))=some (4, 3):=
 ⟨_,Tryz.underlying23,rfl,rfl,rfl,rfl,rfl⟩
set_option maxRecDepth 100000 in
theorem Si {W:ah} {cs:List ak} (h:Cells W 23 cs):∃g:Geo,g.In/\cs=g.cs:=by
 obtain⟨fs,hu,f0,f1,f2,f3,f4⟩:=Fj;obtain⟨hl,hf⟩:=h.struct hu;rw[show aj.cellsOf 23 =5 from by kernel_rfl]at hl;have field:∀(j o:Nat) t,(fs[j]?).map (fun f=>(f.offset,f.type))=some (o,t)->Cells W t ((cs.drop o).take (aj.cellsOf t)):=by
  intro j o t hj;obtain⟨f,hf1,hf2⟩:=Option.map_eq_some_iff.1 hj;cases hf2;exact hf j f hf1
 obtain⟨x0,x1,x2,x3,x4,rfl⟩:∃x0 x1 x2 x3 x4,cs= [x0,x1,x2,x3,x4]:=by
  match cs,hl with
  | [x0,x1,x2,x3,x4],_=>exact⟨x0,x1,x2,x3,x4,rfl⟩
 have g0:=field 0 0 _ f0;have g1:=field 1 1 _ f1;have g2:=field 2 2 _ f2;have g3:=field 3 3 _ f3;have g4:=field 4 4 _ f4;rw[show aj.cellsOf 3 =1 from by kernel_rfl]at g0 g1 g2 g3 g4;obtain⟨n0,e0,w0⟩:=g0.int Tryz.underlying3;obtain⟨n1,e1,w1⟩:=g1.int Tryz.underlying3;obtain⟨n2,e2,w2⟩:=g2.int Tryz.underlying3;obtain⟨n3,e3,w3⟩:=g3.int Tryz.underlying3;obtain⟨n4,e4,w4⟩:=g4.int Tryz.underlying3;simp at e0 e1 e2 e3 e4;subst e0 e1 e2 e3 e4;refine⟨⟨n0,n1,n2,n3,n4⟩, ?_,rfl⟩;intro n hn;simp only[dy,List.mem_nil_iff,or_false]at hn;rcases hn with rfl | rfl | rfl | rfl | rfl
 ·exact bounds_i64 w0
 ·exact bounds_i64 w1
 ·exact bounds_i64 w2
 ·exact bounds_i64 w3
 ·exact bounds_i64 w4
theorem mR.geo {W:ah} {v:ak} (h:mR W 23 v):∃g:Geo,g.In/\v=al g.v:=by
 obtain⟨fs,hu,_⟩:=Fj;obtain⟨cs,rfl,_,hc⟩:=h.agg (aA ⟨fs,hu⟩);obtain⟨g,hg,rfl⟩:=Si hc;exact⟨g,hg,rfl⟩
end
end Go.Proofs.YtbeeenembgplmaaGreat
