import Derived.Test.YtbhkoipcpcoooaaGreatJ1
import Derived.StillTail
import Derived.Test.YtbhkoipcpcoooaaGreatProg
namespace Go.Proofs.YtbhkoipcpcoooaaGreat
set_option maxRecDepth 20000
set_option maxHeartbeats 64000000
open Go
open _root_.List renaming getD_eq_getElem?_getD → aA, getElem?_eq_getElem → aC, length_append → aD, length_cons → aJ, getElem?_eq_none → aK, take_succ_cons → aO, drop_succ_cons → aP, getElem?_replicate → aZ, length_set → bA, getD → bB, nodup_cons → bD, getElem?_set_self → bE, take_zero → bF, drop_zero → bG, take_append_drop → bI, getElem?_append → bJ, getElem?_set_ne → bK, mem_cons_of_mem → bN, mem_cons_self → bX, getElem?_map → bZ, flatMap_cons → cB, length_take → cC, length_drop → cD
open Go.Proofs.Tryz renaming prog → aB, underlying37 → aR, underlying35 → aT, ntmps170 → bO, func170 → bS
open _root_.BitVec renaming ofInt → aG
open _root_.Nat renaming le_refl → aH, pow_succ' → bQ, lt_or_ge → bT, mod_eq_of_lt → cE
open _root_.UInt8 renaming ofNat → aI, toNat_ofNat' → bW, ofNat_toNat → bY
open Go.IntKind renaming wrap_u8 → aL
open Go.Region renaming ready → aM, lexHead → bH, wanted → bP, binds → bU, lexTailB → cG, chainB → cJ, sinkB → cK
open Go.Sem renaming run_bind → aN
open _root_.Int renaming toNat_natCast → aQ
open Go.Result renaming andThen_ok → aV
open _root_.Bool renaming and_eq_true → aX, eq_iff_iff → cF, or_eq_true → cI
open _root_.Option renaming getD_some → aY
open _root_.Option.some renaming inj → bC
section
open Go.RowKit
theorem YC(L:List Int)(hL:AK L)(i:Int)(b:Bool)(w:World)(he:Gt L i=b):
  Calls aB 170 #[.agg (hv L),.int .i64 i,.bool b] w fun e w'=>e=.returned (.agg (hv L))∧Below w.heap.size w w':=by
 have hl:=hL.1;have cb:=Ml L hL i;rw[he] at cb;have CB:Hid _:=cb;clear cb he;go_enter bS,bO;go_wp2_with (refine Ej rfl _ rfl w.heap.size rfl L (Ah _ _ _ _ (Ab _ _ _ rfl)) hl ?_);refine(CB.out _).mono ?_;rintro e w1 ⟨rfl,hb1⟩
 have g1:w1.heap[w.heap.size]?=some (.cells (hv L) 35 (0,0)):=by
  rw[hb1.block _ (by simp;omega)];exact Ah _ _ _ _ (Ab _ _ _ rfl)
 have g2:w1.heap[w.heap.size+1]?=some (.cells Kx 35 (0,0)):=by
  rw[hb1.block _ (by simp)];exact Ab _ _ _ (by simp)
 have hB1:Below w.heap.size w w1:=(((Below.refl _ _).alloc (aH _) _).alloc (by simp) _).trans (hb1.mono (by simp;omega));clear hb1
 go_wp2_with (first
  | (refine Ej rfl _ rfl w.heap.size rfl L g1 hl ?_)
  | (refine Iv rfl _ _ rfl (w.heap.size+1) L rfl rfl _ g2 rfl hl _ rfl ?_))
 refine OP (p:=6) rfl rfl (w.heap.size+1) rfl L hl (setRow_heap _ _ _ _ _ _ g2) ⟨rfl,?_⟩;exact Aj hB1 (by omega) _
theorem Aed(L:List Int)(hL:AK L)(i:Int)(w:World)(h0:0≤i)(h1:i<104)(he:Gt L i=false):
  Calls aB 170 #[.agg (hv L),.int .i64 i,.bool true] w fun e w'=>e=.returned (.agg (hv (JL L i true)))∧Below w.heap.size w w':=by
 have hl:=hL.1;obtain⟨x,hx,hxe⟩:∃x,(hv L)[(i/8).toNat]?=some (.int .u8 x)∧x=Eo L i:=⟨_,K5 L hL.1 _ (by omega),rfl⟩;have hb:0≤x∧x<256:=by rw[hxe];exact hL.2 _
 obtain⟨hb0,hb1⟩:=hb;have hs:=PU i
 have hup:x+128/2 ^ (i%8).toNat<256:=by
  rw[hxe];exact(Zm (Eo L i) i (hL.2 _) (by rw[←MH L i h0 h1];exact he)).1
 have HX:Hid _:=hxe;have HE:Hid _:=he;have cb:=Ml L hL i;rw[he] at cb;have CB:Hid _:=cb;clear cb he hxe;go_enter bS,bO;go_wp2_with (refine Ej rfl _ rfl w.heap.size rfl L (Ah _ _ _ _ (Ab _ _ _ rfl)) hl ?_);refine(CB.out _).mono ?_;rintro e w1 ⟨rfl,hb1⟩
 have g1:w1.heap[w.heap.size]?=some (.cells (hv L) 35 (0,0)):=by
  rw[hb1.block _ (by simp;omega)];exact Ah _ _ _ _ (Ab _ _ _ rfl)
 have g2:w1.heap[w.heap.size+1]?=some (.cells Kx 35 (0,0)):=by
  rw[hb1.block _ (by simp)];exact Ab _ _ _ (by simp)
 have hB1:Below w.heap.size w w1:=(((Below.refl _ _).alloc (aH _) _).alloc (by simp) _).trans (hb1.mono (by simp;omega));have hc1:w1.cell? ⟨w.heap.size,(i/8).toNat,none⟩=some (.int .u8 x):=by rw[cell_of_row w1 _ _ _ _ _ g1];exact hx
 have hf1:w1.frozen? ⟨w.heap.size,(i/8).toNat,none⟩=false:=frozen_of_row w1 _ _ _ _ g1;clear hb1;go_wp2_with fail;refine GM 11 (by kernel_rfl) (by kernel_rfl) ?_;simp only[aO,bF,aP,bG]
 repeat go_big_quiet_step (fail)
 refine wpQuiet_nil ?_
 have gS:((w1.setCell ⟨w.heap.size,(i/8).toNat,none⟩ (.int .u8 (x+128/2 ^ (i%8).toNat))).drew).heap[w.heap.size]?=some (.cells (hv (L.set (i/8).toNat (x+128/2 ^ (i%8).toNat))) 35 (0,0)):=by
  rw[←Qk];exact heap_setCell_same w1 _ _ _ _ _ g1
 have gO:((w1.setCell ⟨w.heap.size,(i/8).toNat,none⟩ (.int .u8 (x+128/2 ^ (i%8).toNat))).drew).heap[w.heap.size+1]?=some (.cells Kx 35 (0,0)):=by
  have:=heap_setCell_other w1 ⟨w.heap.size,(i/8).toNat,none⟩ (w.heap.size+1) (.int .u8 (x+128/2 ^ (i%8).toNat)) (by simp);exact this.trans g2
 have hl2:(L.set (i/8).toNat (x+128/2 ^ (i%8).toNat)).length=13:=by rw[bA];exact hl
 go_wp2_with (first
  | (refine Ej rfl _ rfl w.heap.size rfl (L.set (i/8).toNat (x+128/2 ^ (i%8).toNat)) gS hl2 ?_)
  | (refine Iv rfl _ _ rfl (w.heap.size+1) (L.set (i/8).toNat (x+128/2 ^ (i%8).toNat)) rfl rfl _ gO rfl hl2 _ rfl ?_))
 refine OP (p:=6) rfl rfl (w.heap.size+1) rfl (L.set (i/8).toNat (x+128/2 ^ (i%8).toNat)) hl2 (setRow_heap _ _ _ _ _ _ gO) ⟨?_,?_⟩
 ·unfold JL;rw[if_neg (by rw[HE.out];decide),if_pos rfl,HX.out]
 ·exact Aj (hB1.setCell (aH _) _).drew (by omega) _
theorem YD(L:List Int)(hL:AK L)(i:Int)(w:World)(h0:0≤i)(h1:i<104)(he:Gt L i=true):
  Calls aB 170 #[.agg (hv L),.int .i64 i,.bool false] w fun e w'=>e=.returned (.agg (hv (JL L i false)))∧Below w.heap.size w w':=by
 have hl:=hL.1;obtain⟨x,hx,hxe⟩:∃x,(hv L)[(i/8).toNat]?=some (.int .u8 x)∧x=Eo L i:=⟨_,K5 L hL.1 _ (by omega),rfl⟩;have hb:0≤x∧x<256:=by rw[hxe];exact hL.2 _
 obtain⟨hb0,hb1⟩:=hb;have hs:=PU i
 have hdn:0≤x-128/2 ^ (i%8).toNat:=by
  rw[hxe];exact(Vu (Eo L i) i (hL.2 _) (by rw[←MH L i h0 h1];exact he)).1
 have HX:Hid _:=hxe;have HE:Hid _:=he;have cb:=Ml L hL i;rw[he] at cb;have CB:Hid _:=cb;clear cb he hxe;go_enter bS,bO;go_wp2_with (refine Ej rfl _ rfl w.heap.size rfl L (Ah _ _ _ _ (Ab _ _ _ rfl)) hl ?_);refine(CB.out _).mono ?_;rintro e w1 ⟨rfl,hb1⟩
 have g1:w1.heap[w.heap.size]?=some (.cells (hv L) 35 (0,0)):=by
  rw[hb1.block _ (by simp;omega)];exact Ah _ _ _ _ (Ab _ _ _ rfl)
 have g2:w1.heap[w.heap.size+1]?=some (.cells Kx 35 (0,0)):=by
  rw[hb1.block _ (by simp)];exact Ab _ _ _ (by simp)
 have hB1:Below w.heap.size w w1:=(((Below.refl _ _).alloc (aH _) _).alloc (by simp) _).trans (hb1.mono (by simp;omega));have hc1:w1.cell? ⟨w.heap.size,(i/8).toNat,none⟩=some (.int .u8 x):=by rw[cell_of_row w1 _ _ _ _ _ g1];exact hx
 have hf1:w1.frozen? ⟨w.heap.size,(i/8).toNat,none⟩=false:=frozen_of_row w1 _ _ _ _ g1;clear hb1;go_wp2_with fail;refine GM 11 (by kernel_rfl) (by kernel_rfl) ?_;simp only[aO,bF,aP,bG]
 repeat go_big_quiet_step (fail)
 refine wpQuiet_nil ?_
 have gS:((w1.setCell ⟨w.heap.size,(i/8).toNat,none⟩ (.int .u8 (x-128/2 ^ (i%8).toNat))).drew).heap[w.heap.size]?=some (.cells (hv (L.set (i/8).toNat (x-128/2 ^ (i%8).toNat))) 35 (0,0)):=by
  rw[←Qk];exact heap_setCell_same w1 _ _ _ _ _ g1
 have gO:((w1.setCell ⟨w.heap.size,(i/8).toNat,none⟩ (.int .u8 (x-128/2 ^ (i%8).toNat))).drew).heap[w.heap.size+1]?=some (.cells Kx 35 (0,0)):=by
  have:=heap_setCell_other w1 ⟨w.heap.size,(i/8).toNat,none⟩ (w.heap.size+1) (.int .u8 (x-128/2 ^ (i%8).toNat)) (by simp);exact this.trans g2
 have hl2:(L.set (i/8).toNat (x-128/2 ^ (i%8).toNat)).length=13:=by rw[bA];exact hl
 go_wp2_with (first
  | (refine Ej rfl _ rfl w.heap.size rfl (L.set (i/8).toNat (x-128/2 ^ (i%8).toNat)) gS hl2 ?_)
  | (refine Iv rfl _ _ rfl (w.heap.size+1) (L.set (i/8).toNat (x-128/2 ^ (i%8).toNat)) rfl rfl _ gO rfl hl2 _ rfl ?_))
 refine OP (p:=6) rfl rfl (w.heap.size+1) rfl (L.set (i/8).toNat (x-128/2 ^ (i%8).toNat)) hl2 (setRow_heap _ _ _ _ _ _ gO) ⟨?_,?_⟩
 ·unfold JL;rw[if_neg (by rw[HE.out];decide),if_neg (by decide),HX.out]
 ·exact Aj (hB1.setCell (aH _) _).drew (by omega) _
theorem Aak(L:List Int)(hL:AK L)(i:Int)(b:Bool)(w:World)(h0:0≤i)(h1:i<104):
  Calls aB 170 #[.agg (hv L),.int .i64 i,.bool b] w fun e w'=>e=.returned (.agg (hv (JL L i b)))∧Below w.heap.size w w':=by
 by_cases e:Gt L i=b
 ·have es:JL L i b=L:=by unfold JL;rw[if_pos e]
  rw[es];exact YC L hL i b w e
 ·cases b
  ·exact YD L hL i w h0 h1 (by simpa using e)
  ·exact Aed L hL i w h0 h1 (by simpa using e)
def yb(x:Int)(j:Nat):Bool:=x/2 ^ (7-j)%2==1
def bt(L:List Int)(i:Nat):Bool:=yb (L.getD (i/8) 0) (i%8)
theorem Jt(x:Int)(h:0≤x)(j:Nat):yb x j=x.toNat.testBit (7-j):=by
 unfold yb;obtain⟨n,rfl⟩:=Int.eq_ofNat_of_zero_le h;rw[Nat.testBit_eq_decide_div_mod_eq,cF,beq_iff_eq,decide_eq_true_eq,aQ];constructor
 ·intro h;exact_mod_cast h
 ·intro h;exact_mod_cast h
theorem Gj(op:BinOp)(x y:Int):0≤bits op .u8 x y∧bits op .u8 x y<256:=by
 unfold bits;simp only[];rw[aL];omega
theorem Oj(x:Int)(h0:0≤x)(h1:x<256):(aG 8 x).toNat=x.toNat:=by
 rw[BitVec.toNat_ofInt];omega
theorem Ao7(x y:Int)(hx:0≤x∧x<256)(hy:0≤y∧y<256):(bits .and .u8 x y).toNat=x.toNat&&&y.toNat:=by
 have e:bits .and .u8 x y=((aG 8 x&&&aG 8 y).toNat:Int)%256:=by
  unfold bits;simp only[];rw[aL];rfl
 rw[e,BitVec.toNat_and,Oj x hx.1 hx.2,Oj y hy.1 hy.2];have:=Nat.and_lt_two_pow (n:=8) x.toNat (y:=y.toNat) (by omega);omega
theorem Ap1(x y:Int)(hx:0≤x∧x<256)(hy:0≤y∧y<256):(bits .or .u8 x y).toNat=x.toNat ||| y.toNat:=by
 have e:bits .or .u8 x y=((aG 8 x ||| aG 8 y).toNat:Int)%256:=by
  unfold bits;simp only[];rw[aL];rfl
 rw[e,BitVec.toNat_or,Oj x hx.1 hx.2,Oj y hy.1 hy.2];have:=Nat.or_lt_two_pow (n:=8) (x:=x.toNat) (y:=y.toNat) (by omega) (by omega);omega
theorem Alh(x y:Int)(hx:0≤x∧x<256)(hy:0≤y∧y<256):(bits .xor .u8 x y).toNat=x.toNat ^^^ y.toNat:=by
 have e:bits .xor .u8 x y=((aG 8 x ^^^ aG 8 y).toNat:Int)%256:=by
  unfold bits;simp only[];rw[aL];rfl
 rw[e,BitVec.toNat_xor,Oj x hx.1 hx.2,Oj y hy.1 hy.2];have:=Nat.xor_lt_two_pow (n:=8) (x:=x.toNat) (y:=y.toNat) (by omega) (by omega);omega
theorem Nf(x y:Int)(hx:0≤x∧x<256)(hy:0≤y∧y<256)(j:Nat):yb (bits .and .u8 x y) j=(yb x j&&yb y j):=by
 rw[Jt _ (Gj _ _ _).1,Jt _ hx.1,Jt _ hy.1,Ao7 x y hx hy,Nat.testBit_and]
theorem Al4(x y:Int)(hx:0≤x∧x<256)(hy:0≤y∧y<256)(j:Nat):yb (bits .or .u8 x y) j=(yb x j || yb y j):=by
 rw[Jt _ (Gj _ _ _).1,Jt _ hx.1,Jt _ hy.1,Ap1 x y hx hy,Nat.testBit_or]
theorem Sh(x y:Int)(hx:0≤x∧x<256)(hy:0≤y∧y<256)(j:Nat):yb (bits .xor .u8 x y) j=(yb x j !=yb y j):=by
 rw[Jt _ (Gj _ _ _).1,Jt _ hx.1,Jt _ hy.1,Alh x y hx hy,Nat.testBit_xor]
theorem Aog(j:Nat):yb 0 j=false:=by unfold yb;simp
theorem XY(x y:Int)(hx:0≤x∧x<256)(hy:0≤y∧y<256)(h:∀j,j<8→yb x j=yb y j):x=y:=by
 have g:∀j,j<8→x/2 ^ (7-j)%2=y/2 ^ (7-j)%2:=fun j hj=>by
  have:=h j hj;unfold yb at this;rw[cF,beq_iff_eq,beq_iff_eq] at this;have a1:x/2 ^ (7-j)%2=0∨x/2 ^ (7-j)%2=1:=by omega
  have a2:y/2 ^ (7-j)%2=0∨y/2 ^ (7-j)%2=1:=by omega
  omega
 have g0:=g 0 (by decide);have g1:=g 1 (by decide);have g2:=g 2 (by decide);have g3:=g 3 (by decide);have g4:=g 4 (by decide);have g5:=g 5 (by decide);have g6:=g 6 (by decide);have g7:=g 7 (by decide);simp only[Nat.sub_zero,Nat.reduceSub,Int.reducePow,Int.pow_zero,Int.ediv_one] at g0 g1 g2 g3 g4 g5 g6 g7;omega
theorem UC(x:Int)(hx:0≤x∧x<256):x=0↔ ∀j,j<8→yb x j=false:=
 ⟨fun h j _=>by rw[h,Aog],fun h=>XY x 0 hx (by decide) fun j hj=>by rw[h j hj,Aog]⟩
theorem Aqs(A B:List Int)(hA:A.length=13)(hB:B.length=13)(h:∀k,k<13→A.getD k 0=B.getD k 0):A=B:=by
 apply List.ext_getElem (by omega);intro k h1 h2;have:=h k (by omega);simpa[bB,h1,h2] using this
theorem X0(A B:List Int)(hA:AK A)(hB:AK B)(h:∀i,i<104→bt A i=bt B i):A=B:=
 Aqs A B hA.1 hB.1 fun k hk=>XY _ _ (hA.2 k) (hB.2 k) fun j hj=>by
  have:=h (8*k+j) (by omega)
  unfold bt at this
  rwa [show(8*k+j)/8=k by omega,show(8*k+j)%8=j by omega] at this
def WZ(f:Nat→Bool):Int:=
 (if f 0 then 128 else 0)+(if f 1 then 64 else 0)+(if f 2 then 32 else 0)+(if f 3 then 16 else 0)+(if f 4 then 8 else 0)+(if f 5 then 4 else 0)+(if f 6 then 2 else 0)+(if f 7 then 1 else 0)
theorem Ap5(f:Nat→Bool)(j:Nat)(hj:j<8):yb (WZ f) j=f j:=by
 have h:∀a b c d e g h i:Bool,∀j:Fin 8,yb ((if a then 128 else 0)+(if b then 64 else 0)+(if c then 32 else 0)+(if d then 16 else 0)+(if e then 8 else 0)+(if g then 4 else 0)+(if h then 2 else 0)+(if i then 1 else 0)) j.val=[a,b,c,d,e,g,h,i].getD j.val false:=by decide+kernel
 unfold WZ;rw[h _ _ _ _ _ _ _ _ ⟨j,hj⟩];rcases(show j=0∨j=1∨j=2∨j=3∨j=4∨j=5∨j=6∨j=7 by omega) with h | h | h | h | h | h | h | h <;> subst h <;> rfl
theorem Ap6(f:Nat→Bool):0≤WZ f∧WZ f<256:=by
 unfold WZ;constructor <;> (repeat' split) <;> omega
def mk(f:Nat→Bool):List Int:=(List.range 13).map fun k=>WZ fun j=>f (8*k+j)
theorem Al5(f:Nat→Bool)(k:Nat)(hk:k<13):(mk f).getD k 0=WZ fun j=>f (8*k+j):=by
 unfold mk;simp[bB,hk]
theorem KU(f:Nat→Bool):AK (mk f):=by
 refine⟨by simp[mk],fun k=> ?_⟩;rcases bT k 13 with h | h
 ·rw[Al5 f k h];exact Ap6 _
 ·rw[bB,aK (by simpa[mk] using h)];decide
theorem S8(f:Nat→Bool)(i:Nat)(hi:i<104):bt (mk f) i=f i:=by
 unfold bt;rw[Al5 f _ (by omega),Ap5 _ _ (by omega)];congr 1;omega
theorem Nu(L:List Int)(hL:AK L)(f:Nat→Bool)(h:∀i,i<104→bt L i=f i):L=mk f:=
 X0 L _ hL (KU f) fun i hi=>by rw[h i hi,S8 f i hi]
theorem S7(f g:Nat→Bool)(h:∀i,i<104→f i=g i):mk f=mk g:=
 Nu _ (KU f) g fun i hi=>by rw[S8 f i hi,h i hi]
theorem Aqq(L:List Int)(hL:AK L):mk (bt L)=L:=(Nu L hL _ fun _ _=>rfl).symm
theorem MJ(L:List Int)(i:Nat)(hi:i<104):Gt L (i:Int)=bt L i:=by
 unfold Gt Eo bt yb;rw[decide_eq_true (by omega),Bool.true_and,show((i:Int)/8).toNat=i/8 by omega,show(7-(i:Int)%8).toNat=7-i%8 by omega]
theorem Am3(L:List Int)(hL:AK L)(i:Nat)(b:Bool)(hi:i<104):JL L (i:Int) b=mk fun k=>if k=i then b else bt L k:=by
 obtain⟨h1,h2⟩:=Ahn L hL i b (by omega) (by omega);refine Nu _ h1 _ fun k hk=> ?_;rw[←MJ _ k hk,h2 k (by omega) (by omega), ←MJ L k hk];by_cases e:k=i
 ·rw[if_pos e,if_pos (by omega)]
 ·rw[if_neg e,if_neg (by omega)]
theorem Ajv(L:List Int)(hL:AK L)(i:Nat)(hi:i<104):J5 L (i:Int)=mk fun k=>if k=i then !(bt L k) else bt L k:=by
 refine Nu _ (Ajs L hL i) _ fun k hk=> ?_;rw[←MJ _ k hk,Ajt L hL i k,MJ L k hk,decide_eq_true (by omega)];by_cases e:k=i
 ·rw[if_pos e,decide_eq_true (by omega)];cases bt L k <;> rfl
 ·rw[if_neg e,decide_eq_false (by omega)];cases bt L k <;> rfl
theorem Ut(L:List Int)(hL:AK L)(k:Nat)(x:Int)(hk:k<13)(hx:0≤x∧x<256):AK (L.set k x):=by
 refine⟨by rw[bA];exact hL.1,fun j=> ?_⟩;rw[Jo _ _ _ _ (by rw[hL.1];exact hk)];split
 ·exact hx
 ·exact hL.2 j
section
variable {P:Program} {ops:Array Oper} {md:Region.Mode} {C:World→Prop}
def Qx(P:Program)(md:Region.Mode)(ops:Array Oper)(C:World→Prop)(n:Nat)(L:Array Bool→Act→Prop):Nat→Array Bool→Act→Prop
 | 0,listed,a=>L listed a
 | f+1,listed,a=>
  aM md ops listed≠[]∧∀i∈aM md ops listed,i<n∧qOp P ops C i (Qx P md ops C n L f (listed.setIfInBounds i true)) a
theorem N7{n g:Nat}{L:Array Bool→Act→Prop}{Q':Exit→Act→World→Prop}(hL:∀listed a w,C w→L listed a→wpAny P md ops Q' g listed a w):
  ∀(f:Nat) (listed:Array Bool) (a:Act) (w:World),C w→Qx P md ops C n L f listed a→wpAny P md ops Q' (f+g) listed a w
 | 0,listed,a,w,hw,h=>by rw[Nat.zero_add];exact hL _ _ _ hw h
 | f+1,listed,a,w,hw,h=>by
  rw[show f+1+g=(f+g)+1 by omega]
  exact⟨fun h0=>absurd h0 h.1,fun i hi=>wpOp_of_qOp hw (fun a' w' hw' h'=>N7 hL f _ a' w' hw' h') (h.2 i hi).2⟩
theorem Acp{n i:Nat}{oi:Oper}{v:Value}{L:Array Bool→Act→Prop}(hi:ops[i]?=some oi)(hsel:∀(j:Nat) (o:Oper) cs b,ops[j]?=some o→o.op≠ .select cs b)
  (hs:cK md ops n=true) (hc:cJ md ops n=true) (hn:n<ops.size) (hin:i<n)
  (hdone:∀listed a,L listed a→∀j∈aM md ops listed,n≤j):
  ∀(f:Nat) (listed:Array Bool) (a:Act),HeadInv md ops n listed→
   (∀j oj,ops[j]?=some oj→j≠i→listed.getD j true=false→(∀e∈oj.after,bU md e=true→e.on≠i)→oi.apart ops oj=true)→
   i∈aM md ops listed→YieldsIn P ops C oi v a→
   Qx P md ops C n L f (listed.setIfInBounds i true) (a.put oi.dst v)→Qx P md ops C n L (f+1) listed a:=by
 intro f;induction f with
 | zero=>
  intro listed a inv _ hr hy H;have hun:=(mem_ready.1 hr).1;refine⟨fun h=>(by rw[h] at hr;cases hr),fun j hj=> ?_⟩
  have hjn:j<n:=by
   rcases bT j n with h | h
   ·exact h
   ·exact absurd hj (tail_waits hs hc hn inv _ i rfl hin hun j h)
  refine⟨hjn,?_⟩;by_cases hji:j=i
  ·subst hji;exact hy.qOp hi H
  ·have:=hdone _ _ H j (ready_mono hj hji);omega
 | succ f ih=>
  intro listed a inv hfree hr hy H;have hun:=(mem_ready.1 hr).1;refine⟨fun h=>(by rw[h] at hr;cases hr),fun j hj=> ?_⟩
  have hjn:j<n:=by
   rcases bT j n with h | h
   ·exact h
   ·exact absurd hj (tail_waits hs hc hn inv _ i rfl hin hun j h)
  refine⟨hjn,?_⟩;by_cases hji:j=i
  ·subst hji;exact hy.qOp hi H
  ·have h1:=(H.2 j (ready_mono hj hji)).2;obtain⟨hjun,oj,hoj,hall⟩:=mem_ready.1 hj
   have hnot:∀e∈oj.after,bU md e=true→e.on≠i:=fun e he hb heq=>by
    have h1:=hall e he hb;rw[heq,getD_both hun] at h1
    cases h1
   have h2:=qOp_put hoj (hfree j oj hoj hji hjun hnot) (fun cs b=>hsel i oi cs b hi) (fun cs b=>hsel j oj cs b hoj) hy h1
   have hfree':∀k ok,ops[k]?=some ok→k≠i→(listed.setIfInBounds j true).getD k true=false→
     (∀e∈ok.after,bU md e=true→e.on≠i)→oi.apart ops ok=true:=fun k ok hk hki hun hno=>by
    refine hfree k ok hk hki ?_ hno;by_cases hjk:j=k
    ·subst hjk;exact hjun
    ·rw[getD_set_ne true hjk] at hun;exact hun
   refine qOp_mono (fun a' h3=>ih (listed.setIfInBounds j true) a' (inv.set hj hjn) hfree' (ready_mono hr (Ne.symm hji)) h3.1 ?_) h2;rw[Array.setIfInBounds_comm _ _ hji];exact h3.2
theorem Yh{n g:Nat}{Lq:Act→Prop}(hsel:Region.noSelect ops=true)(hs:cK md ops n=true)(hc:cJ md ops n=true)(hn:n<ops.size):
  ∀(l:List Oper) (k:Nat) (listed:Array Bool) (a:Act),(∀j,j<l.length→l[j]?=ops[k+j]?)→k+l.length=n→HeadInv md ops n listed→
  bH md ops g l.length k listed=true→wpQuiet P ops C Lq l a→
  Qx P md ops C n (fun listed' a'=>Region.seqB md ops g n listed'=true∧Lq a') l.length listed a
 | [],k,listed,a,_,hk,_,hB,h=>by
  have:k=n:=by simpa using hk
  subst this
  exact⟨by simpa[bH] using hB,h⟩
 | o::l,k,listed,a,hl,hk,inv,hB,h=>by
  have h0:ops[k]?=some o:=by simpa using(hl 0 (by simp)).symm
  simp only[aJ,bH,aX] at hB
  obtain⟨⟨hr,hf⟩,hB'⟩:=hB
  have hkn:k<n:=by simp only[aJ] at hk;omega
  have hr':k∈aM md ops listed:=by simpa using hr
  have hst:qOp P ops C k (wpQuiet P ops C Lq l) a:=by unfold qOp;simp only[h0];exact h
  obtain⟨v,hy,hK⟩:=yieldsIn_of_qOp h0 hst
  exact Acp h0 (Region.noSelect_spec hsel) hs hc hn hkn (fun listed' a' hL=>seqB_ready hL.1) l.length listed a inv (Region.free_spec h0 hf) hr' hy
   (Yh hsel hs hc hn l (k+1) _ _ (fun j hj=>by have:=hl (j+1) (by simp;omega);simpa[Nat.add_assoc,Nat.add_comm 1 j] using this) (by simp only[aJ] at hk;omega) (inv.set hr' hkn) hB' hK)
end
theorem Cu{P:Program}{id:Nat}{Q:Exit→Act→World→Prop}{a:Act}{w:World}{l:List Oper}(n:Nat)(hm:P.follows .mixedOrders=true)(hB:cG .any l.toArray n=true)
  (h:wpQuiet P l.toArray (fun w'=> ∃u:Am w,w'=u.world) (fun a'=> ∀w',(∃u:Am w,w'=u.world)→wpList P l.toArray Q (l.drop n) a' w') (l.take n) a):(Code.region id l.toArray true).wp P Q a w:=by
 simp only[cG,aX,decide_eq_true_eq] at hB;obtain⟨⟨⟨⟨hsel,hn⟩,hs⟩,hc⟩,hlex⟩:=hB;have hn':n<l.length:=by simpa using hn
 have htl:(l.take n).length=n:=by simp;omega
 have hdl:(l.drop n).length=l.toArray.size-n:=by simp
 have inv0:HeadInv .any l.toArray n (Array.replicate l.toArray.size false):=
  ⟨by simp,fun j oj _ hl=>(by rw[getD_replicate_false] at hl;cases hl),fun t _ ht=>getD_in (by simpa using ht) (getD_replicate_false _ _)⟩
 have H:=Yh (md:=.any) (g:=l.toArray.size-n) hsel hs hc hn (l.take n) 0 _ a (fun j hj=>by
  have hj':j<n:=by rw[htl] at hj;exact hj
  simp[hj']) (by simpa using htl) inv0 (by rw[htl];exact hlex) h
 refine wp_region_any hm ?_;have hC:(fun w'=> ∃u:Am w,w'=u.world) w.drew:=⟨⟨w.drew,(Below.refl _ _).drew⟩,rfl⟩
 have:=N7 (Q':=Q) (g:=l.toArray.size-n) (fun listed a' w' hw' hL=>by
  rw[←hdl] at hL ⊢;exact wpAny_of_seq (l.drop n) n listed a' w' (fun j=>by simp) hL.1 (hL.2 w' hw')) _ _ _ _ hC H
 rw[htl,show n+(l.toArray.size-n)=l.toArray.size by omega] at this;exact this
def cv(V M:List Int):Array Value:=hv (V++M)
theorem Bq(V M:List Int)(hV:V.length=13)(hM:M.length=13):(cv V M).size=26:=by
 unfold cv;rw[EW,aD,hV,hM]
theorem Ii(V M:List Int):(cv V M).all (·.oneCell')=true:=Ql _
theorem Lb(V M:List Int)(hV:V.length=13)(k:Nat)(hk:k<13):(cv V M)[k]?=some (.int .u8 (V.getD k 0)):=by
 unfold cv hv;simp[bJ,hV,hk,bB]
theorem G8(V M:List Int)(hV:V.length=13)(hM:M.length=13)(k:Nat)(hk:k<13):(cv V M)[13+k]?=some (.int .u8 (M.getD k 0)):=by
 unfold cv hv;simp[bJ,hV,aC (show k<M.length by omega),bB]
theorem Ps(V M:List Int)(hV:V.length=13)(k:Nat)(hk:k<13)(x:Int):(cv V M).setIfInBounds k (.int .u8 x)=cv (V.set k x) M:=by
 unfold cv;rw[Qk,List.set_append_left _ _ (by omega)]
theorem Rp(V M:List Int)(hV:V.length=13)(k:Nat)(x:Int):(cv V M).setIfInBounds (13+k) (.int .u8 x)=cv V (M.set k x):=by
 unfold cv;rw[Qk,List.set_append_right _ _ (by omega),hV,Nat.add_sub_cancel_left]
abbrev AE:Array Value:=#[.int .u8 0,.int .u8 0,.int .u8 0,.int .u8 0,.int .u8 0,.int .u8 0,.int .u8 0,.int .u8 0,.int .u8 0,.int .u8 0,.int .u8 0,.int .u8 0,.int .u8 0,.int .u8 0,.int .u8 0,.int .u8 0,.int .u8 0,.int .u8 0,.int .u8 0,.int .u8 0,.int .u8 0,.int .u8 0,.int .u8 0,.int .u8 0,.int .u8 0,.int .u8 0]
def Z:List Int:=mk fun _=>false
theorem JR:Z=[0,0,0,0,0,0,0,0,0,0,0,0,0]:=by kernel_rfl
theorem J7:AE=cv Z Z:=by rw[JR];rfl
theorem Ad0:Kx=hv Z:=by rw[JR];rfl
theorem BO:AK Z:=KU _
theorem Nq(V M:List Int)(hV:V.length=13)(hM:M.length=13):(aB.info? 37).map (·.size)=some (cv V M).size:=by
 rw[Bq V M hV hM];kernel_rfl
theorem De{ops:Array Oper}{rest:List Oper}{o:Oper}{a:Act}{w:World}{Q:Exit→Act→World→Prop}(hgd:o.guard=none)(x:Operand)(ho:o.op=.load 37 x)
  (g:Nat) (hx:a.eval x=.pointer (some ⟨g,0,none⟩)) (V M:List Int) (hg:w.heap[g]?=some (.cells (cv V M) 37 (0,0))) (hV:V.length=13) (hM:M.length=13)
  (h:wpList aB ops Q rest (a.put o.dst (.agg (cv V M))) w):wpList aB ops Q (o::rest) a w:=
 wpList_load_row hgd 37 x ho g hx 37 (cv V M) (0,0) _ hg aR rfl (Nq V M hV hM) h
theorem UG{ops:Array Oper}{rest:List Oper}{o:Oper}{a:Act}{w:World}{Q:Exit→Act→World→Prop}(hw:bP o (yielded ops a.tmps)=true)(x:Operand)(ho:o.op=.load 35 x)
  (g:Nat) (hx:a.eval x=.pointer (some ⟨g,0,none⟩)) (L:List Int) (hg:w.heap[g]?=some (.cells (hv L) 35 (0,0))) (hL:L.length=13)
  (h:wpList aB ops Q rest (a.put o.dst (.agg (hv L))) w):wpList aB ops Q (o::rest) a w:=by
 refine wpList_step fun K hK=> ?_;rw[if_pos hw];exact wp_load_row 35 x ho g hx 35 (hv L) (0,0) _ hg aT rfl (KE L hL) (hK _ _ h)
theorem BQ{ops:Array Oper}{rest:List Oper}{o:Oper}{a:Act}{w:World}{Q:Exit→Act→World→Prop}(hgd:o.guard=none)(x y:Operand)(ho:o.op=.store 37 x y)
  (g:Nat) (V M:List Int) (hx:a.eval x=.pointer (some ⟨g,0,none⟩)) (hy:a.eval y=.agg (cv V M)) (old:Array Value) (hg:w.heap[g]?=some (.cells old 37 (0,0))) (hold:old.size=26) (hV:V.length=13) (hM:M.length=13)
  (w':World) (hw':w.setRow g (cv V M)=w')
  (h:wpList aB ops Q rest (a.put o.dst undef) w'):wpList aB ops Q (o::rest) a w:=
 wpList_store_row hgd 37 x y ho g (cv V M) hx hy 37 old hg (Nq V M hV hM) (by rw[Bq V M hV hM,hold]) (Ii V M) (by rw[hw'];exact h)
theorem WG{fn:Func}{R:Ending→World→Prop}{a:Act}{w:World}{p:Tmp}(hr:fn.results=#[.cell p 37])(hd:a.defers=[])(g:Nat)(hp:a.tmps.getD p undef=.pointer (some ⟨g,0,none⟩))(V M:List Int)(hV:V.length=13)(hM:M.length=13)
  (hg:w.heap[g]?=some (.cells (cv V M) 37 (0,0))) (h:R (.returned (.agg (cv V M))) w):bodyPost aB fn R .ret a w:=
 bodyPost_ret (v:=.agg (cv V M)) (results_cell_row hr _ _ g 37 (cv V M) (0,0) _ hp hg aR rfl (Nq V M hV hM)) hd h
theorem Jk(V M:List Int)(hV:V.length=13)(w:World):(part 35 (cv V M) 0).run aB w=.ok (.agg (hv V)) w:=by
 have hz:∀w,(sizeOf 35).run aB w=.ok 13 w:=fun w=>by kernel_rfl
 have ha:∀w,(isAgg 35).run aB w=.ok true w:=fun w=>by kernel_rfl
 have e:(cv V M).extract 0 13=hv V:=by
  unfold cv hv;simp[hV]
 simp[part,ha,hz,aN,e]
theorem Ip(V M:List Int)(hV:V.length=13)(hM:M.length=13)(w:World):(part 35 (cv V M) 13).run aB w=.ok (.agg (hv M)) w:=by
 have hz:∀w,(sizeOf 35).run aB w=.ok 13 w:=fun w=>by kernel_rfl
 have ha:∀w,(isAgg 35).run aB w=.ok true w:=fun w=>by kernel_rfl
 have e:(cv V M).extract 13 26=hv M:=by
  unfold cv hv;simp[hV,List.take_of_length_le,hM]
 simp[part,ha,hz,aN,e]
theorem eqC(V M V' M':List Int)(hV:V.length=13)(hM:M.length=13)(hV':V'.length=13)(hM':M'.length=13)(w:World):
  (Op.equalIn 10000 37 (.agg (cv V M)) (.agg (cv V' M'))).run aB w=.ok (V==V'&&M==M') w:=by
 have eH:∀A B:List Int,A.length=13→B.length=13→∀w,(Op.equalIn 9999 35 (.agg (hv A)) (.agg (hv B))).run aB w=.ok (A==B) w:=fun A B hA hB w=>by
  have z5:(sizeOf 5).run aB w=.ok 1 w:=by kernel_rfl
  rw[show(9999:Nat)=9998+1 from rfl,Op.equalIn];simp only[aN,run_underlying aT,aV,z5];simp only[Std.Legacy.Range.forIn_eq_forIn_range',Std.Legacy.Range.size,Nat.sub_zero,Nat.add_sub_cancel,Nat.div_one];rw[←Qy A B hA hB];exact V7 9997 A B hA hB w _ rfl rfl (List.range' 0 13) (fun i hi=>by simp at hi;omega)
 rw [show (10000 : Nat) = 9999 + 1 from rfl, run_equalIn_struct w 9999 37 _ _ (by kernel_rfl) (by kernel_rfl)]; rw [show (aB.fieldsOf 37).toList = [{ name := "Value", type := 35, offset := 0, embedded := false, tag := "", pkgPath := "", byteOffset := 0 }, { name := "Mask", type := 35, offset := 13, embedded := false, tag := "", pkgPath := "", byteOffset := 13 }] from by kernel_rfl]; simp only [Op.eqFields, ne_eq, String.reduceEq, not_false_eq_true, if_true, aN]; simp only [Jk V M hV, Jk V' M' hV', aV, eH V V' hV hV']
 cases hA:(V==V')
 ·simp
 ·simp only[Bool.not_true,Bool.false_eq_true,if_false,aN,Ip V M hV hM,Ip V' M' hV' hM',aV,eH M M' hM hM']
  cases hB:(M==M') <;> simp
theorem egC(op:BinOp)(x y:Operand)(xs ys:Array Value)(w:World):(eqGuard op 37 x y (.agg xs) (.agg ys)).run aB w=.ok () w:=
 run_eqGuard_agg w op 37 x y xs ys (by kernel_rfl)
theorem egH(op:BinOp)(x y:Operand)(xs ys:Array Value)(w:World):(eqGuard op 35 x y (.agg xs) (.agg ys)).run aB w=.ok () w:=
 run_eqGuard_agg w op 35 x y xs ys (by kernel_rfl)
theorem U1{W:World}{ops:Array Oper}{Q:Act→Prop}{rest:List Oper}{o:Oper}{a:Act}(hw:bP o (yielded ops a.tmps)=true)(x:Operand)(ho:o.op=.load 35 x)
  (g:Nat) (hx:a.eval x=.pointer (some ⟨g,0,none⟩)) (L:List Int) (hg:W.heap[g]?=some (.cells (hv L) 35 (0,0))) (hL:L.length=13)
  (h:wpQuiet aB ops (fun w'=> ∃u:Am W,w'=u.world) Q rest (a.put o.dst (.agg (hv L)))):wpQuiet aB ops (fun w'=> ∃u:Am W,w'=u.world) Q (o::rest) a:=
 KL hw 35 x ho g hx 35 (hv L) (0,0) _ (Ap hg) aT rfl (KE L hL) h
theorem SO{W:World}{ops:Array Oper}{Q:Act→Prop}{rest:List Oper}{o:Oper}{a:Act}(hw:bP o (yielded ops a.tmps)=true)(x:Operand)(ho:o.op=.load 37 x)
  (g:Nat) (hx:a.eval x=.pointer (some ⟨g,0,none⟩)) (V M:List Int) (hg:W.heap[g]?=some (.cells (cv V M) 37 (0,0))) (hV:V.length=13) (hM:M.length=13)
  (h:wpQuiet aB ops (fun w'=> ∃u:Am W,w'=u.world) Q rest (a.put o.dst (.agg (cv V M)))):wpQuiet aB ops (fun w'=> ∃u:Am W,w'=u.world) Q (o::rest) a:=
 KL hw 37 x ho g hx 37 (cv V M) (0,0) _ (Ap hg) aR rfl (Nq V M hV hM) h
theorem Fn{W:World}{g k:Nat}{cs:Array Value}{t:TypeId}{v:Value}(hg:W.heap[g]?=some (.cells cs t (0,0)))(hk:cs[k]?=some v):∀u:Am W,u.world.cell? ⟨g,k,none⟩=some v:=fun u=>by
 rw[cell_of_row u.world _ _ _ _ _ (Ap hg _ ⟨u,rfl⟩)];exact hk
def AZ(V M:List Int):List Int:=mk fun i=>bt V i&&bt M i
theorem Mu(L:List Int)(i:Nat):bt L i=yb (L.getD (i/8) 0) (i%8):=rfl
theorem Ir(V M:List Int)(hV:AK V)(hM:AK M)(w:World):
  Calls aB 182 #[.agg (cv V M)] w fun e w'=>e=.returned (.agg (cv (AZ V M) M))∧Below w.heap.size w w':=by
 have hVl:=hV.1;have hMl:=hM.1;have HV:Hid _:=hV;have HM:Hid _:=hM;clear hV hM;go_enter Tryz.func182,Tryz.ntmps182;go_wp2;go_loopw [4] (fun i wr=> ∃k:Nat,k≤13∧i=.int .i64 k∧∃U:List Int,AK U∧(∀j,j<13→U.getD j 0=if j<k then bits .and .u8 (V.getD j 0) (M.getD j 0) else V.getD j 0)∧wr.heap[w.heap.size]?=some (.cells (cv U M) 37 (0,0))∧wr.heap[w.heap.size+1]?=some (.cells AE 37 (0,0))∧Below w.heap.size w wr) (fun i _=>13-(intOf i).toNat)
 case atStart=>exact⟨0,Nat.zero_le _,rfl,V,HV.out,fun j _=>by simp,Ah _ _ _ _ (Ab _ _ _ rfl),Ab _ _ _ (by simp),((Below.refl _ _).alloc (aH _) _).alloc (by simp) _⟩
 case round=>
  obtain⟨k,hk,rfl,U,hU,hUj,g0,g1,hb⟩:=hrel;have hUl:=hU.1;by_cases hlt:k<13
  ·obtain⟨x,hx,hxe⟩:∃x,(cv U M)[k]?=some (.int .u8 x)∧x=U.getD k 0:=⟨_,Lb U M hUl k hlt,rfl⟩;obtain⟨y,hy,hye⟩:∃y,(cv U M)[13+k]?=some (.int .u8 y)∧y=M.getD k 0:=⟨_,G8 U M hUl hMl k hlt,rfl⟩;have hx0:wr.cell? ⟨w.heap.size,k,none⟩=some (.int .u8 x):=by rw[cell_of_row wr _ _ _ _ _ g0];exact hx
   have hy0:wr.cell? ⟨w.heap.size,13+k,none⟩=some (.int .u8 y):=by rw[cell_of_row wr _ _ _ _ _ g0];exact hy
   have hf0:wr.frozen? ⟨w.heap.size,k,none⟩=false:=frozen_of_row wr _ _ _ _ g0;have HU:Hid _:=hU;have HUJ:Hid _:=hUj;have HX:Hid _:=hxe;have HY:Hid _:=hye;clear hU hUj hxe hye hx hy;go_wp2_with fail;refine GM 11 (by kernel_rfl) (by kernel_rfl) ?_;simp only[aO,bF,aP,bG]
   repeat go_big_quiet_step (fail)
   refine wpQuiet_nil ?_;go_wp2_with fail;go_roundw
   case rel=>
    refine⟨k+1,by omega,by go_num,U.set k (bits .and .u8 x y),Ut U HU.out k _ hlt (Gj _ _ _),fun j hj=> ?_,?_,?_,?_⟩
    ·rw[Jo _ _ _ _ (by omega)];by_cases e:k=j
     ·subst e;rw[if_pos rfl,if_pos (by omega),HX.out,HY.out,HUJ.out k hlt,if_neg (by omega)]
     ·rw[if_neg e,HUJ.out j hj];by_cases h:j<k
      ·rw[if_pos h,if_pos (by omega)]
      ·rw[if_neg h,if_neg (by omega)]
    ·rw[←Ps U M hUl k hlt];exact heap_setCell_same wr _ _ _ _ _ g0
    ·exact(heap_setCell_other wr ⟨w.heap.size,k,none⟩ (w.heap.size+1) _ (by simp)).trans g1
    ·exact(hb.setCell (aH _) _).drew
   case measure=>simp[intOf];omega
  ·obtain rfl:k=13:=by omega
   have HU:Hid _:=hU;have HUJ:Hid _:=hUj;clear hU hUj
   go_wp2_with (first
    | (refine De rfl _ rfl w.heap.size rfl U M g0 hUl hMl ?_)
    | (refine BQ rfl _ _ rfl (w.heap.size+1) U M rfl rfl _ g1 rfl hUl hMl _ rfl ?_))
   have e:U=AZ V M:=Nu U HU.out _ fun i hi=>by
    rw[Mu,HUJ.out _ (by omega),if_pos (by omega),Nf _ _ (HV.out.2 _) (HM.out.2 _)];rfl
   subst e;refine WG (p:=2) rfl rfl (w.heap.size+1) rfl (AZ V M) M hUl hMl (setRow_heap _ _ _ _ _ _ g1) ⟨rfl,?_⟩;exact Aj hb (by omega) _
end
def Dd:Nat→Nat→List UInt8
 | 0,_=>[]
 | k+1,n=>Dd k (n/256)++[aI (n%256)]
theorem GQ:∀k n,(Dd k n).length=k
 | 0,_=>rfl
 | k+1,n=>by rw[Dd,aD,GQ k];rfl
theorem Qv:∀k n,Dd (k+1) n=aI (n/256 ^ k%256)::Dd k n
 | 0,n=>by simp[Dd]
 | k+1,n=>by
  have e:Dd (k+1) n=Dd k (n/256)++[aI (n%256)]:=rfl
  rw[Dd,Qv k (n/256),List.cons_append, ←e,Nat.div_div_eq_div_mul, ←bQ]
def Dv(L:List UInt8):Nat:=L.foldl (fun n b=>n*256+b.toNat) 0
theorem PM(L:List UInt8)(b:UInt8):Dv (L++[b])=Dv L*256+b.toNat:=by unfold Dv;rw[List.foldl_append];rfl
theorem My:∀(L:List UInt8),Dv L<256 ^ L.length:=by
 have key:∀(L:List UInt8) (n m:Nat),n<m→L.foldl (fun n b=>n*256+b.toNat) n<m*256 ^ L.length:=by
  intro L;induction L with
  | nil=>intro n m h;simpa using h
  | cons b L ih=>
   intro n m h;rw[List.foldl_cons,aJ,bQ, ←Nat.mul_assoc];refine ih _ _ ?_;have:=b.toNat_lt
   have:n*256+256≤m*256:=by
    have:=Nat.mul_le_mul_right 256 (show n+1≤m from h);rw[Nat.add_mul,Nat.one_mul] at this;exact this
   omega
 intro L;have:=key L 0 1 (by decide);rwa [Nat.one_mul] at this
theorem TT:∀k n,Dv (Dd k n)=n%256 ^ k
 | 0,n=>by rw[Nat.pow_zero,Nat.mod_one];rfl
 | k+1,n=>by
  rw[Dd,PM,TT k,bW,Nat.mod_mod_of_dvd _ (by decide)]
  have h256:256 ^ (k+1)=256*256 ^ k:=bQ
  rw[h256,Nat.mod_mul]
  have:n%256%256=n%256:=Nat.mod_mod _ _
  omega
theorem ZY:∀L:List UInt8,Dd L.length (Dv L)=L:=by
 have key:∀(k:Nat) (L:List UInt8),L.length=k→Dd k (Dv L)=L:=by
  intro k;induction k with
  | zero=>intro L h;rw[List.eq_nil_of_length_eq_zero h];rfl
  | succ k ih=>
   intro L h;rcases List.eq_nil_or_concat L with rfl | ⟨L',b,rfl⟩
   ·simp at h
   ·rw[List.concat_eq_append] at h ⊢;have hl:L'.length=k:=by simpa using h
    have hb:=b.toNat_lt;rw[PM,Dd,show(Dv L'*256+b.toNat)/256=Dv L' by omega,ih L' hl,show(Dv L'*256+b.toNat)%256=b.toNat by omega,bY]
 exact fun L=>key _ L rfl
def H4(kind:Nat)(body:List UInt8):List UInt8:=Dd 2 body.length++(aI kind::body)
def H5(b:List UInt8):Option (Nat×List UInt8):=match b with
 | h::l::k::body=>if h.toNat*256+l.toNat=body.length then some (k.toNat,body) else none
 | _=>none
theorem Aho(kind:Nat)(body:List UInt8):(H4 kind body).length=body.length+3:=by
 unfold H4;rw[aD,GQ];simp;omega
theorem Adt{b:List UInt8}{k:Nat}{body:List UInt8}(h:H5 b=some (k,body)):H4 k body=b∧k<256∧body.length≤65535:=by
 unfold H5 at h;split at h
 ·rename_i x l c d;split at h
  ·rename_i hl;obtain⟨rfl,rfl⟩:=Prod.mk.inj (bC h);have hx:=x.toNat_lt;have hl2:=l.toNat_lt;refine⟨?_,c.toNat_lt,by omega⟩;unfold H4;rw[show Dd 2 d.length=[x,l] from ?_]
   ·rw[bY];rfl
   ·have:=ZY [x,l];rw[←this];congr 1;show d.length=(0*256+x.toNat)*256+l.toNat;omega
  ·cases h
 ·cases h
section
open Go.RowKit
def nI(B:List UInt8):List Int:=B.map fun b=>(b.toNat:Int)
def Dr(V:List Int):List UInt8:=V.map fun x=>aI x.toNat
theorem KT(B:List UInt8):(nI B).length=B.length:=by simp[nI]
theorem D5(V:List Int):(Dr V).length=V.length:=by simp[Dr]
theorem Wn(B:List UInt8):Dr (nI B)=B:=by
 unfold Dr nI;rw[List.map_map]
 conv=>rhs;rw[←List.map_id B]
 refine List.map_congr_left fun b _=> ?_;simp
theorem JV(B:List UInt8)(h:B.length=13):AK (nI B):=by
 refine⟨by rw[KT,h],fun k=> ?_⟩;unfold nI;rw[aA,bZ]
 cases hq:B[k]? with
 | none=>simp
 | some b=>
  have:=b.toNat_lt;simp;omega
theorem Na{V:List Int}(hV:AK V)(k:Nat)(hk:k<13):((Dr V).getD k 0).toNat=(V.getD k 0).toNat∧(((Dr V).getD k 0).toNat:Int)=V.getD k 0:=by
 have h:=hV.2 k
 have e:(Dr V).getD k 0=aI (V.getD k 0).toNat:=by
  unfold Dr;rw[aA,aA,bZ,aC (by rw[hV.1];exact hk)];rfl
 rw[e,bW];omega
theorem Aex{V:List Int}(hV:AK V):nI (Dr V)=V:=by
 apply List.ext_getElem?;intro k;by_cases hk:k<13
 ·have h:=(Na hV k hk).2;have l1:k<(nI (Dr V)).length:=by rw[KT,D5,hV.1];exact hk
  have l2:k<V.length:=by rw[hV.1];exact hk
  have l3:k<(Dr V).length:=by rw[D5,hV.1];exact hk
  rw[aC l1,aC l2];rw[aA,aC l3,aA,aC l2] at h;simp only[aY] at h;congr 1;simp only[nI,List.getElem_map];exact h
 ·rw[aK (by rw[KT,D5,hV.1];omega),aK (by rw[hV.1];omega)]
def FW(V M:List Int):List UInt8:=Dr V++Dr M
structure An where
 kind:Int
 num:List Int
 cube:List Int×List Int
 head:List Int
def AQ(k:Int):List Nat:=
 if k=1 then [0,1,2,3,4,7,8,13] else if k=2 then [0,1,2,3,4,5,6,13] else if k=3 then [0,9,10,2] else if k=4 then [0,1,3]
 else if k=5 then [0,10,1,3,12] else if k=6 then [0,11,1,14] else if k=7 then [0,11,1,6,13] else []
def Ad(m:An)(j:Nat):Int:=m.num.getD j 0
def Bk(k:Int):An:=⟨k,List.replicate 13 0,(Z,Z),Z⟩
def BB(m:An):Prop:=m.num.length=13∧AK m.cube.1∧AK m.cube.2∧AK m.head
def F7(m:An):Bool:=m.cube.1==AZ m.cube.1 m.cube.2
def Ca(m:An):Bool:=
 !(AQ m.kind).isEmpty&&(List.range 13).all (fun j=>decide (0≤Ad m j)&&decide (Ad m j≤281474976710655)&&(Ad m j==0 || (AQ m.kind).contains j))&&
 F7 m&&((m.cube.1==Z&&m.cube.2==Z) || (AQ m.kind).contains 13)&&(m.head==Z || (AQ m.kind).contains 14)
def Bt(m:An)(f:Nat):List UInt8:=if f=13 then FW m.cube.1 m.cube.2 else if f=14 then Dr m.head else Dd 6 (Ad m f).toNat
def Cm(f:Nat):Nat:=if f=13 then 26 else if f=14 then 13 else 6
def Hc(k:Int):Nat:=((AQ k).map Cm).sum
def G5(m:An):List UInt8:=(AQ m.kind).flatMap (Bt m)
def Fb(m:An):List UInt8:=H4 m.kind.toNat (G5 m)
def FM(m:An):List UInt8×Int:=if Ca m=true then (Fb m,0) else ([],12)
def GV(m:An)(f:Nat)(bs:List UInt8):An:=
 if f=13 then {m with cube:=(nI (bs.take 13),nI (bs.drop 13))} else if f=14 then {m with head:=nI bs} else {m with num:=m.num.set f (Dv bs:Nat)}
def Iq:List Nat→List UInt8→An→Option An
 | [],_,m=>some m
 | f::fs,bs,m=>if f=13&& !(F7 (GV m f (bs.take (Cm f)))) then none else Iq fs (bs.drop (Cm f)) (GV m f (bs.take (Cm f)))
def DQ(b:List UInt8):Option An:=match H5 b with
 | some (k,body)=>if (AQ k).isEmpty || body.length !=Hc k then none else Iq (AQ k) body (Bk k)
 | none=>none
def GG(b:List UInt8):An×Int:=match DQ b with
 | some m=>(m,0)
 | none=>(Bk 0,12)
theorem Hi{P:List Nat→Prop}(h0:P [])(h1:P [0,1,2,3,4,7,8,13])(h2:P [0,1,2,3,4,5,6,13])(h3:P [0,9,10,2])(h4:P [0,1,3])(h5:P [0,10,1,3,12])(h6:P [0,11,1,14])(h7:P [0,11,1,6,13])(k:Int):P (AQ k):=by
 unfold AQ
 repeat' split
 all_goals assumption
theorem Vq(k:Int):(AQ k).Nodup:=Hi (P:=List.Nodup) (by decide) (by decide) (by decide) (by decide) (by decide) (by decide) (by decide) (by decide) k
theorem MG(k:Int):∀f∈AQ k,f<15:=Hi (P:=fun l=> ∀f∈l,f<15) (by decide) (by decide) (by decide) (by decide) (by decide) (by decide) (by decide) (by decide) k
theorem RU{k:Int}(h:(AQ k).isEmpty=false):1≤k∧k≤7:=by
 by_cases h0:1≤k∧k≤7
 ·exact h0
 ·unfold AQ at h;rw[if_neg (by omega),if_neg (by omega),if_neg (by omega),if_neg (by omega),if_neg (by omega),if_neg (by omega),if_neg (by omega)] at h;simp at h
theorem TY(k:Int):Hc k≤68:=by
 unfold Hc;exact Hi (P:=fun l=>(l.map Cm).sum≤68) (by decide) (by decide) (by decide) (by decide) (by decide) (by decide) (by decide) (by decide) k
theorem Abx{m:An}(h:BB m)(f:Nat):(Bt m f).length=Cm f:=by
 unfold Bt Cm FW;by_cases h1:f=13
 ·rw[if_pos h1,if_pos h1,aD,D5,D5,h.2.1.1,h.2.2.1.1]
 ·rw[if_neg h1,if_neg h1];by_cases h2:f=14
  ·rw[if_pos h2,if_pos h2,D5,h.2.2.2.1]
  ·rw[if_neg h2,if_neg h2,GQ]
theorem Pw{m:An}(h:BB m):∀fs:List Nat,(fs.flatMap (Bt m)).length=(fs.map Cm).sum
 | []=>rfl
 | f::fs=>by rw[cB,aD,Abx h,Pw h fs,List.map_cons,List.sum_cons]
def Xw(m:An):Prop:=BB m∧∀j,j<13→0≤Ad m j∧Ad m j<281474976710656
theorem TQ(k:Int):Xw (Bk k):=by
 refine⟨⟨by simp[Bk],BO,BO,BO⟩,fun j hj=> ?_⟩;unfold Ad Bk;rw[aA,aZ,if_pos hj];simp
theorem Ahl(m:An)(f:Nat)(bs:List UInt8):(GV m f bs).kind=m.kind:=by
 unfold GV;split
 ·rfl
 ·split <;> rfl
theorem UX{m:An}(h:BB m){f:Nat}(hf:f<15){bs:List UInt8}(hb:bs.length=Cm f){g:Nat}(hg:g<15):Bt (GV m f bs) g=if g=f then bs else Bt m g:=by
 unfold GV;by_cases h1:f=13
 ·subst h1;rw[if_pos rfl];unfold Bt FW;by_cases h2:g=13
  ·rw[if_pos h2,if_pos h2];dsimp only;rw[Wn,Wn,bI]
  ·rw[if_neg h2,if_neg h2,if_neg h2];rfl
 ·rw[if_neg h1];by_cases h3:f=14
  ·subst h3;rw[if_pos rfl];unfold Bt;by_cases h2:g=14
   ·subst h2;rw[if_neg (by decide),if_pos rfl,if_pos rfl];dsimp only;rw[Wn]
   ·by_cases h4:g=13
    ·subst h4;rw[if_pos rfl,if_neg (by decide),if_pos rfl]
    ·simp only[if_neg h4,if_neg h2];rfl
  ·rw[if_neg h3]
   have hs:bs.length=6:=by
    rw[hb];unfold Cm;rw[if_neg h1,if_neg h3]
   unfold Bt;by_cases h2:g=f
   ·subst h2;rw[if_neg h1,if_neg h3,if_pos rfl];unfold Ad;dsimp only;rw[aA,bE (by rw[h.1];omega),aY,aQ, ←hs];exact ZY bs
   ·rw[if_neg h2];by_cases h4:g=13
    ·rw[if_pos h4,if_pos h4]
    ·rw[if_neg h4,if_neg h4];by_cases h5:g=14
     ·rw[if_pos h5,if_pos h5]
     ·rw[if_neg h5,if_neg h5];unfold Ad;dsimp only;rw[aA,bK (fun e=>h2 e.symm), ←aA]
theorem Am2{m:An}(h:Xw m){f:Nat}(hf:f<15){bs:List UInt8}(hb:bs.length=Cm f):Xw (GV m f bs):=by
 unfold GV;by_cases h1:f=13
 ·subst h1;rw[if_pos rfl];have:bs.length=26:=hb;exact⟨⟨h.1.1,JV _ (by rw[cC];omega),JV _ (by rw[cD];omega),h.1.2.2.2⟩,h.2⟩
 ·rw[if_neg h1];by_cases h3:f=14
  ·subst h3;rw[if_pos rfl];have:bs.length=13:=hb;exact⟨⟨h.1.1,h.1.2.1,h.1.2.2.1,JV _ this⟩,h.2⟩
  ·rw[if_neg h3]
   have hs:bs.length=6:=by
    rw[hb];unfold Cm;rw[if_neg h1,if_neg h3]
   refine⟨⟨by simp[h.1.1],h.1.2.1,h.1.2.2.1,h.1.2.2.2⟩,fun j hj=> ?_⟩;unfold Ad;dsimp only;by_cases h2:j=f
   ·subst h2;rw[aA,bE (by rw[h.1.1];omega),aY];have:=My bs;rw[hs] at this;omega
   ·rw[aA,bK (fun e=>h2 e.symm), ←aA];exact h.2 j hj
theorem Ao3{a b:Int}(ha:0≤a∧a<281474976710656)(hb:0≤b∧b<281474976710656)(h:Dd 6 a.toNat=Dd 6 b.toNat):a=b:=by
 have h1:=congrArg Dv h;rw[TT,TT,cE (by omega),cE (by omega)] at h1;omega
theorem TV{V W:List Int}(hV:AK V)(hW:AK W)(h:Dr V=Dr W):V=W:=by
 rw[←Aex hV, ←Aex hW,h]
theorem ZQ:∀(fs:List Nat) (bs:List UInt8) (m m':An),fs.Nodup→(∀f∈fs,f<15)→bs.length=(fs.map Cm).sum→Xw m→Iq fs bs m=some m'→
  Xw m'∧m'.kind=m.kind∧fs.flatMap (Bt m')=bs∧(∀g,g<15→g∉fs→Bt m' g=Bt m g)
 | [],bs,m,m',_,_,hb,hm,h=>by
  simp at hb
  obtain rfl:=bC h
  exact⟨hm,rfl,hb.symm,fun g _ _=>rfl⟩
 | f::fs,bs,m,m',hd,hlt,hb,hm,h=>by
  rw[List.map_cons,List.sum_cons] at hb
  have hf:=hlt f bX
  have hbl:(bs.take (Cm f)).length=Cm f:=by rw[cC];omega
  unfold Iq at h
  split at h
  ·cases h
  ·obtain⟨g1,g2,g3,g4⟩:=ZQ fs _ _ m' (bD.1 hd).2 (fun x hx=>hlt x (bN _ hx)) (by rw[cD];omega) (Am2 hm hf hbl) h
   refine⟨g1,g2.trans (Ahl _ _ _),?_,fun g hg hn=> ?_⟩
   ·rw[cB,g3,g4 f hf (bD.1 hd).1,UX hm.1 hf hbl hf,if_pos rfl,bI]
   ·rw[g4 g hg (fun e=>hn (bN _ e)),UX hm.1 hf hbl hg,if_neg (fun e=>hn (by rw[e];exact bX))]
theorem XB:∀(fs:List Nat) (bs:List UInt8) (m m':An),fs.Nodup→F7 m=true→Iq fs bs m=some m'→F7 m'=true
 | [],bs,m,m',_,hc,h=>by
  obtain rfl:=bC h
  exact hc
 | f::fs,bs,m,m',hd,hc,h=>by
  unfold Iq at h
  split at h
  ·cases h
  ·rename_i h1
   refine XB fs _ _ m' (bD.1 hd).2 ?_ h
   by_cases h2:f=13
   ·subst h2
    cases e:F7 (GV m 13 (bs.take (Cm 13))) with
    | true=>rfl
    | false=>rw[e] at h1;simp at h1
   ·have:F7 (GV m f (bs.take (Cm f)))=F7 m:=by
     unfold GV F7;rw[if_neg h2];split <;> rfl
    rw[this];exact hc
theorem GI(m:An):Ca m=true↔(AQ m.kind).isEmpty=false∧(∀j,j<13→0≤Ad m j∧Ad m j<281474976710656∧(j∉AQ m.kind→Ad m j=0))∧F7 m=true∧(13∉AQ m.kind→m.cube.1=Z∧m.cube.2=Z)∧(14∉AQ m.kind→m.head=Z):=by
 unfold Ca;simp only[aX,Bool.not_eq_true',List.all_eq_true,List.mem_range,decide_eq_true_eq,cI,beq_iff_eq,List.contains_iff_mem];constructor
 ·rintro⟨⟨⟨⟨h1,h2⟩,h3⟩,h4⟩,h5⟩;refine⟨h1,fun j hj=>⟨(h2 j hj).1.1,by have:=(h2 j hj).1.2;omega,fun hn=>(h2 j hj).2.resolve_right hn⟩,h3,fun hn=>h4.resolve_right hn,fun hn=>h5.resolve_right hn⟩
 ·rintro⟨h1,h2,h3,h4,h5⟩;refine⟨⟨⟨⟨h1,fun j hj=>⟨⟨(h2 j hj).1,by have:=(h2 j hj).2.1;omega⟩,?_⟩⟩,h3⟩,?_⟩,?_⟩
  ·by_cases e:j∈AQ m.kind
   ·exact .inr e
   ·exact .inl ((h2 j hj).2.2 e)
  ·by_cases e:13∈AQ m.kind
   ·exact .inr e
   ·exact .inl (h4 e)
  ·by_cases e:14∈AQ m.kind
   ·exact .inr e
   ·exact .inl (h5 e)
theorem Ai1{m:An}(h:BB m)(hr:Ca m=true):Xw m:=⟨h,fun j hj=>by
 have:=((GI m).1 hr).2.1 j hj
 exact⟨this.1,this.2.1⟩⟩
theorem Aa1(k:Int):F7 (Bk k)=true:=by
 unfold F7 Bk;dsimp only;rw[show AZ Z Z=Z by kernel_rfl];simp
theorem ZT{b:List UInt8}{m:An}(h:DQ b=some m):BB m∧Ca m=true∧Fb m=b:=by
 unfold DQ at h
 cases ho:H5 b with
 | none=>rw[ho] at h;cases h
 | some kb=>
  obtain⟨k,body⟩:=kb;rw[ho] at h;dsimp only at h;split at h
  ·cases h
  ·rename_i hc;rw[cI,not_or,Bool.not_eq_true,bne_iff_ne,Classical.not_not] at hc;obtain⟨g1,g2,g3,g4⟩:=ZQ _ _ _ _ (Vq (k:Int)) (MG _) hc.2 (TQ _) h;have g5:=XB _ _ _ _ (Vq (k:Int)) (Aa1 _) h;have hkk:m.kind=(k:Int):=g2;have hz:∀g,g<15→g∉AQ m.kind→Bt m g=Bt (Bk (k:Int)) g:=fun g hg hn=>g4 g hg (by rw[←hkk];exact hn)
   have hmz:∀j,Ad (Bk (k:Int)) j=0:=fun j=>by
    unfold Ad Bk;rw[aA,aZ];split <;> rfl
   refine⟨g1.1,(GI m).2 ⟨by rw[hkk];exact hc.1,fun j hj=>⟨(g1.2 j hj).1,(g1.2 j hj).2,fun hn=> ?_⟩,g5,fun hn=> ?_,fun hn=> ?_⟩,?_⟩
   ·have h1:=hz j (by omega) hn;unfold Bt at h1;rw[if_neg (by omega),if_neg (by omega),if_neg (by omega),if_neg (by omega)] at h1;have:=Ao3 (g1.2 j hj) ((TQ (k:Int)).2 j hj) h1;rw[this,hmz]
   ·have h1:FW m.cube.1 m.cube.2=FW Z Z:=hz 13 (by decide) hn;unfold FW at h1;obtain⟨e1,e2⟩:=List.append_inj h1 (by rw[D5,D5,g1.1.2.1.1,BO.1]);exact⟨TV g1.1.2.1 BO e1,TV g1.1.2.2.1 BO e2⟩
   ·exact TV g1.1.2.2.2 BO (hz 14 (by decide) hn)
   ·unfold Fb G5;rw[hkk,g3,aQ];exact(Adt ho).1
end
structure AP where
 kind:Int
 at_:Int
 «to»:Int
 index:Int
 epoch:Int
 action:Int
 why:Int
 place:Int
 head:List Int
 cube:List Int×List Int
def FB:AP:=⟨0,0,0,0,0,0,0,0,Z,(Z,Z)⟩
structure Qz(T:Type) where
 look:T→Int→Int→List Int→T×Ai×Bool
 learn:T→Int→Int→List Int×List Int→Int→T×Ai×Bool
 lay:T→Ai→T×Int
 keep:T→Int→Int→T
 tick:T→Int→T×List Ai
 about:T→Int→List Int→Option ((List Int×List Int)×Int)
 cach:T→Nat
structure Af(T:Type) where
 num:Int
 lease:Int
 beat:Int
 cache:Int
 tab:T
 hold:Bb
 wait:Be
 load:Int
 post:List (Int×List UInt8)
 log:List AP
def Cz(k inc epoch floor at_ of order action one two sent use seq load:Int)(c:List Int×List Int)(h:List Int):An:=⟨k,[inc,epoch,floor,at_,of,order,action,one,two,sent,use,seq,load],c,h⟩
section
variable {T:Type} (O:Qz T)
def Cc(n:Af T)(x:AP):Af T:={n with log:=n.log++[{x with at_:=n.num}]}
def Cx(n:Af T)(«to»:Int)(m:An):Af T:=if Ca m=true then {n with post:=n.post++[(«to»,Fb m)]} else n
def EC(n:Af T)(now:Int):Bool:=OZ n.hold now n.lease
def H7(n:Af T):Af T:=Cx n 0 (Cz 5 n.hold.life n.hold.top 0 ((n.hold.cnt n.hold.top).1:Nat) 0 0 0 0 0 0 n.hold.use 0 n.load (Z,Z) Z)
def Kk(sent:Int)(s:Ai):Int:=if sent%2=0 then (if s.two=0 then s.one else s.two) else (if s.one=0 then s.two else s.one)
def Da(n:Af T)(seq index:Int)(h:List Int)(sent:Int)(s:Ai):Af T:=
 if Kk sent s=0 then n else
 Cc (Cx n (Kk sent s) (Cz 6 n.hold.life n.hold.use 0 0 0 0 0 0 0 0 0 seq 0 (Z,Z) h)) {FB with kind:=9,index:=index,epoch:=n.hold.use,«to»:=Kk sent s}
def Eb(n:Af T)(index why:Int):Af T:=Cc n {FB with kind:=6,index:=index,why:=why}
def FC(n:Af T)(index action:Int):Af T:=Cc n {FB with kind:=5,index:=index,action:=action}
def AX(n:Af T)(t:T):Af T:={n with tab:=t}
def Db(n:Af T)(w:Be):Af T:={n with wait:=w}
def Bi(n:Af T)(h:Bb):Af T:={n with hold:=h}
def Cl(n:Af T)(index:Int)(h:List Int)(now:Int):Af T:=
 if EC n now=true then
  match O.look n.tab now n.hold.use h with
  | (t,s,true)=>
   if s.bank=3 then
    match Fk n.wait index h now with
    | (w,seq,e)=>if e=0 then Da (Db (AX n t) w) seq index h 1 s else Eb (AX n t) index 3
   else FC (AX n t) index s.action
  | (t,_,false)=>Eb (AX n t) index 6
 else Eb n index 2
def Cs(n:Af T)(h:Bb):Af T:=
 let a:=if n.hold.floor≠h.floor∨n.hold.top≠h.top then AX n (O.keep n.tab n.hold.floor n.hold.top) else n
 if n.hold.use≠h.use then Cc a {FB with kind:=16,epoch:=n.hold.use} else a
def Iy(m:An):Ai:=if m.kind=2 then ⟨2,Ad m 1,Ad m 3,Ad m 5,m.cube,Ad m 6,0,0,0,0,0⟩ else ⟨3,Ad m 1,Ad m 3,0,m.cube,0,Ad m 7,Ad m 8,0,0,0⟩
def JP(n:Af T)(m:An):Af T:=match O.lay n.tab (Iy m) with
 | (t,e)=>if e=0 then AX n t else Cc (AX n t) {FB with kind:=20,epoch:=Ad m 1}
def Mb(n:Af T)(m:An):Af T:=Cx n 0 (Cz 4 n.hold.life (Ad m 1) 0 ((n.hold.cnt (Ad m 1)).1:Nat) 0 0 0 0 0 0 0 0 0 (Z,Z) Z)
def Ea(n:Af T)(m:An):Af T×Bool:=
 match DK n.hold (Ad m 2) (Ad m 1) (Ad m 3) (Ad m 4) with
 | (h,v)=>
  let a:=Cs O (Bi n h) n.hold
  if v=0 then (a,false) else (Mb (if v=1 then JP O a m else a) m,true)
def IC(n:Af T)(m:An):Af T:=
 let h:=(Dq n.hold (Ad m 9) (Ad m 10) (Ad m 2)).1
 let a:=Cs O (Bi n h) n.hold
 if h.use≠n.hold.use then H7 a else a
def Abn(n:Af T)(e:Int):Bool:=decide (0<e)&&(decide (e=n.hold.floor) || decide (e=n.hold.top))&&Hg n.hold e
def DT(n:Af T)(src:Int)(m:An):Af T×Bool:=
 if Abn n (Ad m 1)=true then
  match O.about n.tab (Ad m 1) m.head with
  | some (c,a)=>(Cx {n with load:=if n.load<281474976710655 then n.load+1 else n.load} src (Cz 7 (Ad m 0) (Ad m 1) 0 0 0 0 a 0 0 0 0 (Ad m 11) 0 c Z),true)
  | none=>(n,false)
 else (n,false)
def JW(n:Af T)(m:An)(now:Int):Af T:=
 match O.learn n.tab now (Ad m 1) m.cube (Ad m 6) with
 | (t,x,gone)=>
  let a:=AX n t
  let b:=if gone=true then Cc a {FB with kind:=11,epoch:=x.epoch,action:=x.action,cube:=x.cube} else a
  Cc b {FB with kind:=10,epoch:=Ad m 1,action:=Ad m 6,cube:=m.cube}
def Qd(n:Af T)(m:An):Bool:=decide (Ad m 1=n.hold.use)&&decide (n.cache≠0)
def EB(n:Af T)(m:An)(now:Int):Af T:=if Qd n m=true then JW O n m now else n
def FL(n:Af T)(m:An)(now:Int):Af T×Bool:=
 if EC n now=true then
  match BH (EB O n m now).wait (Ad m 11) with
  | (w,some x)=>(FC (Db (EB O n m now) w) x.index (Ad m 6),true)
  | (_,none)=>(EB O n m now,Qd n m)
 else (n,false)
def IA(n:Af T)(src:Int)(data:List UInt8)(now:Int):Af T×Bool:=
 match DQ data with
 | none=>(n,false)
 | some m=>
  let mine:Bool:=decide (Ad m 0=n.hold.life)
  if m.kind=1∨m.kind=2 then (if src=0∧mine=true then Ea O n m else (n,false))
  else if m.kind=3 then (if src=0∧mine=true then (IC O n m,true) else (n,false))
  else if m.kind=6 then (if src≠0 then DT O n src m else (n,false))
  else if m.kind=7 then (if src≠0∧mine=true then FL O n m now else (n,false))
  else (n,false)
def DC(n:Af T)(src:Int)(data:List UInt8)(now:Int):Af T:=
 match IA O n src data now with
 | (a,true)=>a
 | (a,false)=>Cc a {FB with kind:=13}
def DJ(n:Af T)(now:Int)(x:AN):Af T:=
 match O.look n.tab now n.hold.use x.head with
 | (t,s,true)=>if s.bank=3 then Da (AX n t) x.seq x.index x.head x.sent s else FC (Db (AX n t) (BH n.wait x.seq).1) x.index s.action
 | (t,_,false)=>AX n t
def Il(n:Af T)(x:Ai):Af T:=Cc n {FB with kind:=12,epoch:=x.epoch,action:=x.action,cube:=x.cube}
def ED(n:Af T)(x:AN):Af T:=Eb n x.index 4
def Ep(n:Af T)(now:Int):Af T:=(O.tick n.tab now).2.foldl Il (AX n (O.tick n.tab now).1)
def EI(n:Af T)(now:Int):Af T:=if EC n now=true then (Cv n.wait now).foldl (fun n x=>DJ O n now x) (Db (Ep O n now) (Dc n.wait now)) else Db (Ep O n now) (Dc n.wait now)
def DZ(n:Af T)(now:Int):Af T:=(EE n.wait now).foldl ED (EI O n now)
def Ct(n:Af T)(now:Int):Af T:=if now%n.beat=0 then H7 (DZ O n now) else DZ O n now
def Fr(n:Af T):Af T:=Db (n.wait.l.foldl (fun n x=>Eb n x.index 5) n) (Ij n.wait)
def NW(num inc lease beat cache:Int)(t:T)(w:Be):Af T:=⟨num,lease,beat,cache,t,OW inc,w,0,[],[]⟩
end
end Go.Proofs.YtbhkoipcpcoooaaGreat
