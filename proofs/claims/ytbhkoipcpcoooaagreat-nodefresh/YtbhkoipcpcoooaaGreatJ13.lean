import Derived.Test.YtbhkoipcpcoooaaGreatJ12
import Derived.Laws.Bits64b
import Derived.Great.BuildSlice
import Derived.Test.YtbhkoipcpcoooaaGreatJ4
import Derived.Test.YtbhkoipcpcoooaaGreatJ2
import Derived.Test.YtbhkoipcpcoooaaGreatJ3
import Derived.Laws.CopyOwn
import Derived.Test.YtbhkoipcpcoooaaGreatJ9
namespace Go.Proofs.YtbhkoipcpcoooaaGreat
set_option maxRecDepth 20000
set_option maxHeartbeats 64000000
open Go
open Go.Proofs.Tryz renaming prog → aA, underlying3 → aD, ntmps127 → aW, ntmps172 → aX, underlying39 → aY, func127 → bE, func172 → bF, ntmps158 → bK, ntmps195 → bN, func158 → bQ, func195 → bS, underlying35 → bW
open Go.Value renaming int → aB
open _root_.List renaming length_map → aC, length_append → aG, getElem?_eq_getElem → aH, getD_eq_getElem?_getD → aI, getElem?_toArray → aL, getElem?_cons_succ → aM, getElem?_append_right → aO, take_succ_cons → aP, replicate → aT, getElem?_eq_some_iff → aZ, getElem?_append_left → bB, length_take → bC, length_cons → bD, length_replicate → bI, getElem?_eq_none → bJ, drop_succ_cons → bO, take_add_one → bT, append_assoc → bX, take_length → cB, take_left' → cE, take_zero → cF, drop_zero → cG
open Go.RowKit.Below renaming refl → aJ
open _root_.Nat renaming le_refl → aK, add_sub_cancel_left → bG, zero_le → bH, mul_comm → bR
open Go.Sem renaming run_bind → aN
open Go.Result renaming andThen_ok → aQ
open Go.Lib renaming byteCells → aR
open _root_.UInt8 renaming ofNat → aV
open Go.Op renaming equalIn → bA
open _root_.Int renaming pow_mul → bY, natCast_ediv → cC
section
open Go.RowKit
def IF(n:Int):Bool:=decide (1≤n)&&decide (n≤8)
theorem VE(n:Int)(w:World):
  Calls aA 158 #[.int .i64 n] w fun e w'=>e=.returned (.bool (IF n))∧w'=w:=by
 by_cases h1:1≤n
 ·by_cases h2:n≤8
  ·have HC:Hid (IF n=true):=by show _=_;unfold IF;simp[h1,h2]
   go_enter bQ,bK;go_wp2_with fail;go_ret;rw[HC.out];exact⟨rfl,rfl⟩
  ·have HC:Hid (IF n=false):=by show _=_;unfold IF;simp[h2]
   go_enter bQ,bK;go_wp2_with fail;go_ret;rw[HC.out];exact⟨rfl,rfl⟩
 ·have HC:Hid (IF n=false):=by show _=_;unfold IF;simp[h1]
  go_enter bQ,bK;go_wp2_with fail;go_ret;rw[HC.out];exact⟨rfl,rfl⟩
theorem Rc(o:Option Addr)(n cap:Nat)(hn:n≤maxLen)(p q:Int)(hp:0≤p)(hp2:p≤9223372036854775807)(w:World):
  Calls aA 159 #[.slice o n cap,.int .i64 p,.int .i64 q] w fun e w'=>e=.returned (.bool (decide (q≤(n:Int)-p)))∧w'=w:=by
 unfold maxLen at hn;go_enter Tryz.func159,Tryz.ntmps159;go_wp2_with fail;go_ret;exact⟨rfl,rfl⟩
theorem UK(L:List UInt8)(k:Nat)(c:UInt8)(h:L[k]?=some c):Dv (L.take (k+1))=Dv (L.take k)*256+c.toNat:=by
 have hk:=(aZ.1 h).1;rw[List.take_succ_eq_append_getElem hk,PM,(aZ.1 h).2]
theorem Wk(L:List UInt8)(k:Nat)(hk:k≤L.length):Dv (L.take k)<256 ^ k:=by
 have:=My (L.take k);rwa [bC,Nat.min_eq_left hk] at this
theorem St(L:List UInt8)(k:Nat)(hk:k<L.length)(h8:L.length≤8):Dv (L.take k)<72057594037927936:=
 Nat.lt_of_lt_of_le (Wk L k (by omega)) (Nat.le_trans (Nat.pow_le_pow_right (by decide) (show k≤7 by omega)) (by decide))
theorem Ame(n x:Nat)(hx:x<256):n*256 ||| x=n*256+x:=by
 have:=Nat.shiftLeft_add_eq_or_of_lt (show x<2 ^ 8 from hx) n;rw[Nat.shiftLeft_eq] at this;exact this.symm
theorem Ap0(n x:Nat)(hn:n<72057594037927936)(hx:x<256):bits .or .u64 ((n:Int)*256) (x:Int)=((n*256+x:Nat):Int):=by
 have e:((n:Int)*256)=((n*256:Nat):Int):=by omega
 have hb:n*256+x<18446744073709551616:=by omega
 rw[e,bits_or_u64_nat _ _ (by omega) (by omega),Ame n x hx]
theorem OT(v:Value)(L:List UInt8)(w:World)(hL:Br w v L)(h8:L.length≤8):
  Calls aA 124 #[v] w fun e w'=>e=.returned (.int .u64 (Dv L:Int))∧w'=w:=by
 have hL':=hL;obtain⟨o,cap,rfl,h1,h2⟩:=hL'.slice;have HL:Hid (Br w (.slice o L.length cap) L):=hL;obtain⟨n,hn⟩:=eX L.length;have HN:Hid (n=L.length):=hn;rw[←hn] at HL h1 h8 ⊢;clear hn hL hL';go_enter Tryz.func124,Tryz.ntmps124;go_wp2_with fail;go_loop [3,8] (fun a i=> ∃k:Nat,k≤n∧i=.int .i64 k∧a=.int .u64 (Dv (L.take k):Int)) (fun _ i=>n-(intOf i).toNat)
 case atStart=>exact⟨0,bH _,rfl,rfl⟩
 case round=>
  obtain⟨k,hk,rfl,rfl⟩:=hrel;by_cases hlt:k<n
  ·obtain⟨g,off,c,rfl,hc,hck⟩:=HL.out.at k hlt;have HV:Hid (Dv (L.take (k+1))=Dv (L.take k)*256+c.toNat):=UK L k c hck;have hv:=St L k (by rw[←HN.out];omega) (by rw[←HN.out];omega);obtain⟨x,hx⟩:=eX (Dv (L.take k));rw[←hx] at HV hv ⊢;have hcl:=c.toNat_lt;clear hx hck;go_wp2_with fail;refine⟨⟨k+1,by omega,by go_num,?_⟩,by simp[intOf];omega⟩;rw[HV.out,Ap0 x c.toNat hv hcl]
  ·go_wp2_with fail;go_ret;obtain rfl:k=n:=by omega
   rw[HN.out,cB];exact⟨rfl,rfl⟩
theorem Apm(s n k:Nat)(hk:k<s):(Dd s n)[k]?=some (aV (n/256 ^ (s-1-k)%256)):=by
 induction s generalizing k with
 | zero=>omega
 | succ s ih=>
  rw[Qv]
  cases k with
  | zero=>simp
  | succ k=>rw[aM,ih k (by omega),show s+1-1-(k+1)=s-1-k by omega]
def L9(s n k:Nat):List UInt8:=(Dd s n).take k++aT (s-k) 0
theorem Ak8(s n k:Nat)(h:k≤s):(L9 s n k).length=s:=by unfold L9;rw[aG,bC,GQ,bI];omega
theorem Agb(s n:Nat):L9 s n 0=aT s 0:=by unfold L9;simp
theorem Ak9(s n:Nat):L9 s n s=Dd s n:=by unfold L9;rw[List.take_of_length_le (by rw[GQ];exact aK _)];simp
theorem Agc(s n k:Nat)(h:k<s):L9 s n (k+1)=(L9 s n k).set k (aV (n/256 ^ (s-1-k)%256)):=by
 unfold L9;have hl:((Dd s n).take k).length=k:=by rw[bC,GQ];omega
 rw[List.set_append_right _ _ (by omega),hl,Nat.sub_self,bT,Apm s n k h];obtain⟨m,hm⟩:∃m,s-k=m+1:=⟨s-k-1,by omega⟩;rw[hm,show s-(k+1)=m by omega];simp[List.replicate_succ]
theorem AB.set{B:Nat}{w:World}{g n cap:Nat}{L:List UInt8}(h:AB B w (.slice (some ⟨g,0,none⟩) n cap) L)(k:Nat)(b:UInt8):AB B (w.setCell ⟨g,k,none⟩ (.int .u8 (b.toNat:Int))) (.slice (some ⟨g,0,none⟩) n cap) (L.set k b):=by
 have hn:=h.sl.len;subst hn;have:=(World.ownsRow.stored h k (.int .u8 (b.toNat:Int))).1;unfold AB;rw[List.length_set];have e:aR (L.set k b)=(aR L).set k (.int .u8 (b.toNat:Int)):=by unfold aR;rw[List.map_set]
 rw[e];exact this
theorem Ak7(n m:Nat):(n:Int)/2 ^ (m*8)%256=((aV (n/256 ^ m%256)).toNat:Int):=by
 rw[UInt8.toNat_ofNat',Nat.mod_mod]
 have e:(2:Int) ^ (m*8)=((256 ^ m:Nat):Int):=by
  rw[bR,bY];simp
 rw[e];simp
theorem Ah5{ops:Array Oper}{rest:List Oper}{o:Oper}{a:Act}{w:World}{Q:Exit→Act→World→Prop}(hgd:o.guard=none)(x y:Operand)(ho:o.op=.makeSlice 70 x y)
  (n:Nat) (hx:a.eval x=.int .i64 (n:Int)) (hy:a.eval y=.int .i64 (n:Int)) (hn:n≤1000)
  (h:∀w',AB w.heap.size w' (.slice (some ⟨w.heap.size,0,none⟩) n n) (aT n 0)→Below w.heap.size w w'→wpList aA ops Q rest (a.put o.dst (.slice (some ⟨w.heap.size,0,none⟩) n n)) w'):wpList aA ops Q (o::rest) a w:=by
 obtain⟨i,hi,hz,h1,h2⟩:=Al7;refine wpList_plain hgd fun K hK=> ?_;obtain⟨w',hr,hown,hgr⟩:=run_make_full (P:=aA) w w.heap.size 70 5 i (.int .u8 0) 1 Tryz.underlying70 hi hz h1 .i64 .i64 n (by rw[h2];omega) (by unfold maxLen;omega) (aK _);unfold Oper.wp execOp;simp only[ho,hx,hy,hr,aN,Sem.run_pure,aQ];refine hK _ _ (h w' ?_ ((aJ _ _).grown hgr (aK _) fun k hk=>by cases hk));unfold AB;rw[bI]
 have e:aR (aT n 0)=(madeCells (aB .u8 0).cells (n*1)).toList:=by
  show _=(madeCells #[.int .u8 0] (n*1)).toList;rw[toList_madeCells_one,Nat.mul_one];unfold aR;simp
 rw[e];exact hown
theorem Pr(n s:Nat)(hs:s≤8)(w:World):
  Calls aA 194 #[.int .u64 (n:Int),.int .i64 (s:Int)] w fun e w'=> ∃v,e=.returned v∧AB w.heap.size w' v (Dd s n)∧Below w.heap.size w w':=by
 go_enter Tryz.func194,Tryz.ntmps194;go_wp2_with (refine Ah5 rfl _ _ rfl s rfl rfl (by omega) ?_;intro w1 ho hb);have HO:Hid (AB w.heap.size w1 (.slice (some ⟨w.heap.size,0,none⟩) s s) (L9 s n 0)):=by rw[Agb];exact ho
 have HB:Hid (Below w.heap.size w w1):=hb;clear ho hb;go_wp2_with fail;go_loopw [11] (fun i W=> ∃k:Nat,k≤s∧i=.int .i64 k∧AB w.heap.size W (.slice (some ⟨w.heap.size,0,none⟩) s s) (L9 s n k)∧Below w.heap.size w W) (fun i _=>s-(intOf i).toNat)
 case atStart=>exact⟨0,bH _,rfl,HO.out,HB.out⟩
 case round=>
  obtain⟨k,hk,rfl,ho,hb⟩:=hrel;have HO1:Hid (AB w.heap.size wr (.slice (some ⟨w.heap.size,0,none⟩) s s) (L9 s n k)):=ho;have HB1:Hid (Below w.heap.size w wr):=hb;by_cases hlt:k<s
  ·obtain⟨_,_,c,e,hc,_⟩:=ho.sl.at k hlt;simp only[Option.some.injEq,Addr.mk.injEq,and_true] at e;obtain⟨rfl,rfl⟩:=e;have hf:wr.frozen? ⟨w.heap.size,k,none⟩=false:=World.ownsRow.frozenAt (n:=s) (by have:=HO1.out;unfold AB at this;rw[Ak8 s n k hk] at this;exact this) k;rw[Nat.zero_add] at hc;clear ho hb;have HD:Hid ((n:Int)/2 ^ ((s-1-k)*8)%256=((aV (n/256 ^ (s-1-k)%256)).toNat:Int)):=Ak7 n (s-1-k);go_wp2_with fail;refine⟨⟨k+1,by omega,by go_num,?_,HB1.out.setCell (by simp) _⟩,by simp[intOf];omega⟩;rw[HD.out,Agc s n k hlt];exact HO1.out.set k _
  ·obtain rfl:k=s:=by omega
   clear ho hb;go_wp2_with fail;go_ret;refine⟨_,rfl,?_,HB1.out⟩;have:=HO1.out;rw[Ak9] at this;exact this
def Mw(w:World):List Value→List (List UInt8)→Prop
 | [],[]=>True
 | v::vs,L::Ls=>Br w v L∧Mw w vs Ls
 | _,_=>False
theorem Mw.len{w:World}:∀ {vs:List Value} {Ls:List (List UInt8)},Mw w vs Ls→vs.length=Ls.length
 | [],[],_=>rfl
 | [],_::_,h=>False.elim h
 | _::_,[],h=>False.elim h
 | _::vs,_::Ls,h=>by rw[bD,bD,Mw.len (vs:=vs) (Ls:=Ls) h.2]
theorem Mw.at{w:World}:∀ {vs:List Value} {Ls:List (List UInt8)},Mw w vs Ls→∀(k:Nat) (hk:k<vs.length),∃L,Ls[k]?=some L∧Br w vs[k] L
 | [],_,_,_,hk=>absurd hk (by simp)
 | _::_,[],h,_,_=>False.elim h
 | v::vs,L::Ls,h,0,_=>⟨L,rfl,h.1⟩
 | v::vs,L::Ls,h,k+1,hk=>Mw.at (vs:=vs) (Ls:=Ls) h.2 k (by simpa using hk)
theorem Qs{Ls:List (List UInt8)}{k:Nat}{L:List UInt8}(h:Ls[k]?=some L):(Ls.take (k+1)).flatten=(Ls.take k).flatten++L:=by
 rw[bT,h];simp
theorem Tr(Ls:List (List UInt8))(k:Nat):(Ls.take k).flatten.length≤Ls.flatten.length:=by
 conv=>rhs;rw[←List.take_append_drop k Ls]
 rw[List.flatten_append,aG];omega
theorem MY(g:Nat)(vs:List Value)(Ls:List (List UInt8))(w:World)(hg:w.heap[g]?=some (.cells vs.toArray 70 (0,0)))(hvs:vs.length≤100)(hL:Mw w vs Ls)(hn:Ls.flatten.length≤140737488355328):
  Calls aA 125 #[.slice (some ⟨g,0,none⟩) vs.length vs.length] w fun e w'=> ∃v,e=.returned v∧AB w.heap.size w' v Ls.flatten∧Below w.heap.size w w':=by
 obtain⟨n,hnn⟩:=eX vs.length;have HN:Hid (n=vs.length):=hnn;have HL:Hid (Mw w vs Ls):=hL;have HG:Hid (w.heap[g]?=some (.cells vs.toArray 70 (0,0))):=hg;have hgl:g<w.heap.size:=(gS hg)
 have HF:Hid (∀k L,Ls[k]?=some L→(Ls.take k).flatten.length+L.length≤140737488355328):=fun k L h=>by
  have h1:=Tr Ls (k+1);rw[Qs h,aG] at h1;omega
 rw[←hnn] at hvs ⊢;clear hnn hL hg hn;go_enter Tryz.func125,Tryz.ntmps125;go_wp2_with fail;go_loopw [3,8] (fun o i W=> ∃k:Nat,k≤n∧i=.int .i64 k∧AB w.heap.size W o (Ls.take k).flatten∧Below w.heap.size w W) (fun _ i _=>n-(intOf i).toNat)
 case atStart=>exact⟨0,bH _,rfl,by simpa using AB.nil _ _,aJ _ _⟩
 case round=>
  obtain⟨k,hk,rfl,ho,hb⟩:=hrel;have hsl:=ho.sl.slice;obtain⟨D,hD⟩:=eX ((Ls.take k).flatten);have HD:Hid (D=(Ls.take k).flatten):=hD;rw[←hD] at ho hsl;obtain⟨m,hm⟩:=eX D.length;have HM:Hid (m=D.length):=hm;rw[←hm] at hsl;obtain⟨o3,cap3,rfl,_,_⟩:=hsl;have HO:Hid (AB w.heap.size wr (.slice o3 m cap3) D):=ho;have HB:Hid (Below w.heap.size w wr):=hb;by_cases hlt:k<n
  ·have hkv:k<vs.length:=by rw[←HN.out];exact hlt
   obtain⟨L,hLk,hLs⟩:=HL.out.at k hkv;obtain⟨u,hu⟩:=eX (vs[k]);have hU:Br wr u L:=by rw[hu];exact hLs.below hb
   have hc:wr.cell? ⟨g,k,none⟩=some u:=by
    rw[cell_of_row _ _ _ _ _ _ ((hb.block g hgl).trans HG.out),hu];simp[hkv]
   obtain⟨l,hl⟩:=eX L.length;have HLL:Hid (l=L.length):=hl;have hsl:=hU.slice;rw[←hl] at hsl;clear hu;obtain⟨ou,capu,rfl,_,_⟩:=hsl;have HU:Hid (Br wr (.slice ou l capu) L):=hU;have HFK:Hid (D.length+L.length≤140737488355328):=by rw[HD.out];exact HF.out k L hLk
   have HFT:Hid ((Ls.take (k+1)).flatten=D++L):=by rw[HD.out];exact Qs hLk
   have hsz:=hb.size;clear hLs hU ho hb hkv hLk hD hm hl;go_wp2_with (at_builtin;refine Dk ?_);unfold E6;refine H9 rfl _ _ rfl w.heap.size (.slice o3 m cap3) (.slice ou l capu) D L rfl HO.out rfl HU.out HFK.out (by omega) ?_;intro v' w' ho' hgr _;have HO2:Hid (AB w.heap.size w' v' (Ls.take (k+1)).flatten):=by rw[HFT.out];exact ho'
   have HB2:Hid (Below w.heap.size w w'):=HB.out.grown hgr hsz fun q hq=>(HO.out.ge q hq).1;simp only[pU];clear ho' hgr;go_wp2_with fail;go_roundw
   case rel=>exact⟨k+1,by omega,by go_num,HO2.out,HB2.out⟩
   case measure=>simp[intOf];omega
  ·obtain rfl:k=n:=by omega
   clear ho hb hD hm;go_wp2_with fail;go_ret;refine⟨_,rfl,?_,HB.out⟩;have:=HO.out;rw[HD.out,HN.out,HL.out.len,cB] at this;exact this
def Ie(L:List UInt8)(n:Nat)(s:Int):List UInt8×Int:=if IF s=true then if n<256 ^ s.toNat then (L++Dd s.toNat n,0) else ([],10) else ([],1)
def Fg(L:List UInt8)(p s:Int):Nat×Int:=if IF s=true∧0≤p then if p+s≤L.length then (Dv ((L.drop p.toNat).take s.toNat),0) else (0,12) else (0,1)
theorem Lw(s:Int):IF s=true↔1≤s∧s≤8:=by unfold IF;simp
theorem MP{ops:Array Oper}{rest:List Oper}{o:Oper}{a:Act}{w:World}{Q:Exit→Act→World→Prop}(hg:o.guard=none)(len:Nat)(parts:Array (Nat×Operand))(ho:o.op=.buildSlice 207 len parts)(vs:Array Value)
  (hlen:¬len>2 ^ 24) (h0:len≠0) (hf:Instr.fill (fun i=>some (i*1,1)) ((Array.range (len*1)).map ((Value.slice none 0 0).cells[· % (Value.slice none 0 0).cells.size]!)) (parts.map fun(i,x)=>(i,a.eval x)).toList=some vs)
  (h:wpList aA ops Q rest (a.put o.dst (.slice (some ⟨w.heap.size,0,none⟩) len len)) (w.alloc (.cells vs 70))):wpList aA ops Q (o::rest) a w:=by
 have hq:(aA.info? 70).map (fun i=>(i.zero,i.size))=some (some (.slice none 0 0),1):=by kernel_rfl
 cases hi:aA.info? 70 with
 | none=>rw[hi] at hq;simp at hq
 | some i=>
  rw[hi] at hq;simp only[Option.map_some,Option.some.injEq,Prod.mk.injEq] at hq;refine wpList_buildSlice hg 207 70 len parts ho vs i (.slice none 0 0) Tryz.underlying207 hi hq.1 (by rw[hq.2];omega) (by rw[hq.2];omega) (by rw[hq.2];exact hf) h
theorem Alz(n m:Nat)(h:n<256 ^ m):((n:Int)/2 ^ (m*8)==0)=true:=by
 have e:(2:Int) ^ (m*8)=((256 ^ m:Nat):Int):=by
  rw[bR,bY];simp
 rw[e,beq_iff_eq, ←cC,Nat.div_eq_of_lt h];rfl
theorem Aly(n m:Nat)(h:¬n<256 ^ m):((n:Int)/2 ^ (m*8)==0)=false:=by
 have e:(2:Int) ^ (m*8)=((256 ^ m:Nat):Int):=by
  rw[bR,bY];simp
 rw[e, ←cC];have h1:1≤n/256 ^ m:=(Nat.le_div_iff_mul_le (Nat.pow_pos (by decide))).2 (by omega);rw[beq_eq_false_iff_ne];omega
theorem Amb(v:Value)(L:List UInt8)(n:Nat)(s:Int)(w:World)(hL:Br w v L)(hl:L.length≤140737488351232):
  Calls aA 195 #[v,.int .u64 (n:Int),.int .i64 s] w fun e w'=> ∃u,e=.returned (.tuple #[u,.int .i64 (Ie L n s).2])∧AB w.heap.size w' u (Ie L n s).1∧Below w.heap.size w w':=by
 have C1:Hid (∀W,Calls aA 158 #[.int .i64 s] W fun e w'=>e=.returned (.bool (IF s))∧w'=W):=VE s;have HL:Hid (Br w v L):=hL;obtain⟨ov,nv,cv,rfl⟩:∃o n c,v=.slice o n c:=by obtain⟨o,c,h,_⟩:=hL.slice;exact⟨o,_,c,h⟩
 clear hL;by_cases hc:IF s=true
 ·rw[hc] at C1;have hs:=(Lw s).1 hc;obtain⟨m,rfl⟩:∃m:Nat,s=m:=⟨s.toNat,by omega⟩;have hs1:1≤(m:Int):=hs.1;have hs2:(m:Int)≤8:=hs.2;by_cases hr:n<256 ^ m
  ·have HP:Hid (Ie L n m=(L++Dd m n,0)):=by show _=_;unfold Ie;rw[if_pos hc,if_pos (by simpa using hr)];simp
   have hsh:=Alz n m hr;have CD:Hid (∀W,Calls aA 194 #[.int .u64 (n:Int),.int .i64 (m:Int)] W fun e w'=> ∃v,e=.returned v∧AB W.heap.size w' v (Dd m n)∧Below W.heap.size W w'):=Pr n m (by omega)
   have HJ:Hid (∀(g:Nat) (u:Value) (W:World),W.heap[g]?=some (.cells #[.slice ov nv cv,u] 70 (0,0))→Br W (.slice ov nv cv) L→Br W u (Dd m n)→Calls aA 125 #[.slice (some ⟨g,0,none⟩) 2 2] W fun e w'=> ∃v,e=.returned v∧AB W.heap.size w' v (L++Dd m n)∧Below W.heap.size W w'):=fun g u W h1 h2 h3=>by
    refine(MY g [.slice ov nv cv,u] [L,Dd m n] W h1 (by simp) ⟨h2,h3,trivial⟩ ?_).mono ?_
    ·simp[GQ];omega
    ·rintro e w' ⟨u,rfl,h4,h5⟩;exact⟨u,rfl,by simpa using h4,h5⟩
   clear hc hs hr hl;go_enter bS,bN;go_wp2_with (go_at_call 158;refine(C1.out _).mono ?_;rintro e w1 ⟨rfl,rfl⟩);refine(CD.out _).mono ?_;rintro e w2 ⟨u,rfl,ho,hb⟩;have HU:Hid (Br w2 u (Dd m n)):=ho.sl;obtain⟨ou,nu,cu,rfl⟩:∃o n c,u=.slice o n c:=by obtain⟨o,c,h,_⟩:=ho.sl.slice;exact⟨o,_,c,h⟩
   have HV:Hid (Br w2 (.slice ov nv cv) L):=HL.out.below hb;have HB:Hid (Below w1.heap.size w1 w2):=hb;have hsz:=hb.size;clear ho hb;go_wp2_with (refine MP rfl 2 _ rfl #[.slice ov nv cv,.slice ou nu cu] (by decide) (by decide) rfl ?_);refine(HJ.out w2.heap.size (.slice ou nu cu) _ (Ab _ _ _ rfl) (HV.out.alloc _) (HU.out.alloc _)).mono ?_;rintro e w3 ⟨x,rfl,ho,hb⟩;have HO:Hid (AB w1.heap.size w3 x (L++Dd m n)):=ho.base (by simp;omega);have HB3:Hid (Below w1.heap.size w1 w3):=(HB.out.alloc hsz _).trans (hb.mono (by simp;omega));clear ho hb;go_wp2_with fail;go_ret2;rw[HP.out];exact⟨x,rfl,HO.out,HB3.out⟩
  ·have HP:Hid (Ie L n m=([],10)):=by show _=_;unfold Ie;rw[if_pos hc,if_neg (by simpa using hr)]
   have hsh:=Aly n m hr;clear hc hs hr hl;go_enter bS,bN;go_wp2_with (go_at_call 158;refine(C1.out _).mono ?_;rintro e w1 ⟨rfl,rfl⟩);go_ret2;rw[HP.out];exact⟨_,rfl,AB.nil _ _,aJ _ _⟩
 ·have HP:Hid (Ie L n s=([],1)):=by show _=_;unfold Ie;rw[if_neg hc]
  have hc':IF s=false:=by simpa using hc
  rw[hc'] at C1;clear hc hc' hl;go_enter bS,bN;go_wp2_with (go_at_call 158;refine(C1.out _).mono ?_;rintro e w1 ⟨rfl,rfl⟩);go_ret2;rw[HP.out];exact⟨_,rfl,AB.nil _ _,aJ _ _⟩
theorem Ahh(v:Value)(L:List UInt8)(p s:Int)(w:World)(hL:Br w v L)(hp:p≤9223372036854775807):
  Calls aA 127 #[v,.int .i64 p,.int .i64 s] w fun e w'=>e=.returned (.tuple #[.int .u64 ((Fg L p s).1:Int),.int .i64 (Fg L p s).2])∧w'=w:=by
 have C1:Hid (∀W,Calls aA 158 #[.int .i64 s] W fun e w'=>e=.returned (.bool (IF s))∧w'=W):=VE s;have HL:Hid (Br w v L):=hL;obtain⟨ov,cv,hv,hc1,hc2⟩:=hL.slice;subst hv;clear hL;obtain⟨n,hn⟩:=eX L.length;have HN:Hid (n=L.length):=hn;rw[←hn] at HL hc1 ⊢;clear hn;by_cases hc:IF s=true
 ·rw[hc] at C1;have hs:=(Lw s).1 hc;obtain⟨m,rfl⟩:∃m:Nat,s=m:=⟨s.toNat,by omega⟩;have hs1:1≤(m:Int):=hs.1;have hs2:(m:Int)≤8:=hs.2;by_cases h0:0≤p
  ·obtain⟨k,rfl⟩:∃k:Nat,p=k:=⟨p.toNat,by omega⟩;have CR:Hid (∀W,Calls aA 159 #[.slice ov n cv,.int .i64 (k:Int),.int .i64 (m:Int)] W fun e w'=>e=.returned (.bool (decide ((m:Int)≤(n:Int)-k)))∧w'=W):=Rc ov n cv (by omega) k m h0 hp;have hcm:=hc2;unfold maxLen at hc2;by_cases hr:k+m≤n
   ·have HP:Hid (Fg L k m=(Dv ((L.drop k).take m),0)):=by
     show _=_;unfold Fg;rw[if_pos ⟨hc,h0⟩,if_pos (by rw[←HN.out];omega)];simp
    have hd:decide ((m:Int)≤(n:Int)-k)=true:=by simp;omega
    rw[hd] at CR;obtain⟨g,off,c,rfl,_,_⟩:=HL.out.at k (by omega)
    have CN:Hid (∀W,W=w→Calls aA 124 #[.slice (some ⟨g,off+k,none⟩) m (cv-k)] W fun e w'=>e=.returned (.int .u64 (Dv ((L.drop k).take m):Int))∧w'=W):=fun W hW=>by
     subst hW;exact OT _ _ W (HL.out.part g off k m (cv-k) rfl hr (by omega) (by omega)) (by simp;omega)
    clear hc hs hd hcm;go_enter bE,aW
    go_wp2_with (first
     | (go_at_call 158;refine(C1.out _).mono ?_;rintro e w1 ⟨rfl,rfl⟩)
     | (go_at_call 159;refine(CR.out _).mono ?_;rintro e w2 ⟨rfl,rfl⟩))
    refine(CN.out _ rfl).mono ?_;rintro e w3 ⟨rfl,rfl⟩;go_wp2_with fail;go_ret2;rw[HP.out];exact⟨rfl,rfl⟩
   ·have HP:Hid (Fg L k m=(0,12)):=by
     show _=_;unfold Fg;rw[if_pos ⟨hc,h0⟩,if_neg (by rw[←HN.out];omega)]
    have hd:decide ((m:Int)≤(n:Int)-k)=false:=by simp;omega
    rw[hd] at CR;clear hc hs hd hcm;go_enter bE,aW
    go_wp2_with (first
     | (go_at_call 158;refine(C1.out _).mono ?_;rintro e w1 ⟨rfl,rfl⟩)
     | (go_at_call 159;refine(CR.out _).mono ?_;rintro e w2 ⟨rfl,rfl⟩))
    go_ret2;rw[HP.out];exact⟨rfl,rfl⟩
  ·have HP:Hid (Fg L p m=(0,1)):=by
    show _=_;unfold Fg;rw[if_neg (fun h=>h0 h.2)]
   clear hc hs;have h0':p<0:=by omega
   go_enter bE,aW;go_wp2_with (go_at_call 158;refine(C1.out _).mono ?_;rintro e w1 ⟨rfl,rfl⟩);go_ret2;rw[HP.out];exact⟨rfl,rfl⟩
 ·have HP:Hid (Fg L p s=(0,1)):=by
   show _=_;unfold Fg;rw[if_neg (fun h=>hc h.1)]
  have hc':IF s=false:=by simpa using hc
  rw[hc'] at C1;clear hc hc';go_enter bE,aW;go_wp2_with (go_at_call 158;refine(C1.out _).mono ?_;rintro e w1 ⟨rfl,rfl⟩);go_ret2;rw[HP.out];exact⟨rfl,rfl⟩
theorem Y7(k:Nat)(h:k<256):Dd 1 k=[aV k]:=by
 simp[Dd,Nat.mod_eq_of_lt h]
theorem Adu(k:Nat)(h:k<256)(L:List UInt8):[Dd 2 L.length,Dd 1 k,L].flatten=H4 k L:=by
 rw[Y7 k h];simp[H4]
def Fh(k:Int)(L:List UInt8):List UInt8×Int:=if 0≤k∧k≤255 then if L.length≤65535 then (H4 k.toNat L,0) else ([],5) else ([],1)
theorem Ahp(k:Int)(v:Value)(L:List UInt8)(w:World)(hL:Br w v L):
  Calls aA 172 #[.int .i64 k,v] w fun e w'=> ∃u,e=.returned (.tuple #[u,.int .i64 (Fh k L).2])∧AB w.heap.size w' u (Fh k L).1∧Below w.heap.size w w':=by
 have HL:Hid (Br w v L):=hL;obtain⟨ov,cv,hv,hc1,hc2⟩:=hL.slice;subst hv;clear hL;obtain⟨n,hn⟩:=eX L.length;have HN:Hid (n=L.length):=hn;rw[←hn] at HL hc1 ⊢;clear hn;unfold maxLen at hc2;by_cases h0:0≤k
 ·by_cases h1:k≤255
  ·obtain⟨q,rfl⟩:∃q:Nat,k=q:=⟨k.toNat,by omega⟩;by_cases h2:n≤65535
   ·have HP:Hid (Fh q L=(H4 q L,0)):=by show _=_;unfold Fh;rw[if_pos ⟨h0,h1⟩,if_pos (by rw[←HN.out];exact h2)];simp
    have CD:Hid (∀W,Calls aA 194 #[.int .u64 (n:Int),.int .i64 2] W fun e w'=> ∃v,e=.returned v∧AB W.heap.size w' v (Dd 2 n)∧Below W.heap.size W w'):=Pr n 2 (by decide);have CE:Hid (∀W,Calls aA 194 #[.int .u64 (q:Int),.int .i64 1] W fun e w'=> ∃v,e=.returned v∧AB W.heap.size w' v (Dd 1 q)∧Below W.heap.size W w'):=Pr q 1 (by decide)
    have HJ:Hid (∀(g:Nat) (u x:Value) (W:World),W.heap[g]?=some (.cells #[u,x,.slice ov n cv] 70 (0,0))→Br W u (Dd 2 n)→Br W x (Dd 1 q)→Br W (.slice ov n cv) L→Calls aA 125 #[.slice (some ⟨g,0,none⟩) 3 3] W fun e w'=> ∃v,e=.returned v∧AB W.heap.size w' v (H4 q L)∧Below W.heap.size W w'):=fun g u x W g1 g2 g3 g4=>by
     refine(MY g [u,x,.slice ov n cv] [Dd 2 n,Dd 1 q,L] W g1 (by simp) ⟨g2,g3,g4,trivial⟩ ?_).mono ?_
     ·simp[GQ];rw[←HN.out];omega
     ·rintro e w' ⟨u,rfl,h4,h5⟩;rw[HN.out,Adu q (by omega)] at h4;exact⟨u,rfl,h4,h5⟩
    have hn:¬(65535:Int)<(n:Int):=by omega
    go_enter bF,aX;go_wp2_with fail;refine(CD.out _).mono ?_;rintro e w1 ⟨u,rfl,ho1,hb1⟩;have HU:Hid (Br w1 u (Dd 2 n)):=ho1.sl;obtain⟨ou,nu,cu,rfl⟩:∃o n c,u=.slice o n c:=by obtain⟨o,c,h,_⟩:=ho1.sl.slice;exact⟨o,_,c,h⟩
    have HB1:Hid (Below w.heap.size w w1):=hb1;clear ho1 hb1;go_wp2_with fail;refine(CE.out _).mono ?_;rintro e w2 ⟨x,rfl,ho2,hb2⟩;have HX:Hid (Br w2 x (Dd 1 q)):=ho2.sl;obtain⟨ox,nx,cx,rfl⟩:∃o n c,x=.slice o n c:=by obtain⟨o,c,h,_⟩:=ho2.sl.slice;exact⟨o,_,c,h⟩
    have HU2:Hid (Br w2 (.slice ou nu cu) (Dd 2 n)):=HU.out.below hb2;have HB2:Hid (Below w.heap.size w w2):=HB1.out.trans (hb2.mono HB1.out.size);have HL2:Hid (Br w2 (.slice ov n cv) L):=HL.out.below HB2.out;have hsz:=HB2.out.size;clear ho2 hb2;go_wp2_with (refine MP rfl 3 _ rfl #[.slice ou nu cu,.slice ox nx cx,.slice ov n cv] (by decide) (by decide) rfl ?_);refine(HJ.out w2.heap.size _ _ _ (Ab _ _ _ rfl) (HU2.out.alloc _) (HX.out.alloc _) (HL2.out.alloc _)).mono ?_;rintro e w3 ⟨y,rfl,ho,hb⟩;have HO:Hid (AB w.heap.size w3 y (H4 q L)):=ho.base (by simp;omega);have HB3:Hid (Below w.heap.size w w3):=(HB2.out.alloc hsz _).trans (hb.mono (by simp;omega));clear ho hb;go_wp2_with fail;go_ret2;rw[HP.out];exact⟨y,rfl,HO.out,HB3.out⟩
   ·have HP:Hid (Fh q L=([],5)):=by show _=_;unfold Fh;rw[if_pos ⟨h0,h1⟩,if_neg (by rw[←HN.out];exact h2)]
    have hn:(65535:Int)<(n:Int):=by omega
    go_enter bF,aX;go_wp2_with fail;go_ret2;rw[HP.out];exact⟨_,rfl,AB.nil _ _,aJ _ _⟩
  ·have HP:Hid (Fh k L=([],1)):=by show _=_;unfold Fh;rw[if_neg (fun h=>h1 h.2)]
   have hn:(255:Int)<k:=by omega
   go_enter bF,aX;go_wp2_with fail;go_ret2;rw[HP.out];exact⟨_,rfl,AB.nil _ _,aJ _ _⟩
 ·have HP:Hid (Fh k L=([],1)):=by show _=_;unfold Fh;rw[if_neg (fun h=>h0 h.1)]
  have hn:k<0:=by omega
  go_enter bF,aX;go_wp2_with fail;go_ret2;rw[HP.out];exact⟨_,rfl,AB.nil _ _,aJ _ _⟩
def DE(L:List UInt8):Int×List UInt8×Int:=match H5 L with
 | some (k,body)=>((k:Int),body,0)
 | none=>(0,[],12)
theorem Aav(L:List UInt8)(h:3≤L.length):H5 L=if Dv (L.take 2)=L.length-3 then some (Dv ((L.drop 2).take 1),L.drop 3) else none:=by
 match L,h with
 | a::b::c::body,_=>
  show(if a.toNat*256+b.toNat=body.length then some (c.toNat,body) else none)=_;have e1:Dv ((a::b::c::body).take 2)=a.toNat*256+b.toNat:=by simp[Dv]
  have e2:Dv (((a::b::c::body).drop 2).take 1)=c.toNat:=by simp[Dv]
  have e3:(a::b::c::body).length-3=body.length:=by simp
  rw[e1,e2,e3];rfl
theorem Rd(L:List UInt8)(h:¬3≤L.length):H5 L=none:=by
 match L,h with
 | [],_=>rfl
 | [_],_=>rfl
 | [_,_],_=>rfl
 | a::b::c::body,h=>exact absurd (by simp) h
theorem Si(V M:List Int)(hV:AK V)(hM:AK M)(w:World):
  Calls aA 160 #[.agg (cv V M)] w fun e w'=>e=.returned (.bool (V==AZ V M))∧Below w.heap.size w w':=by
 have hVl:=hV.1;have hMl:=hM.1;have hCl:=(D7 V M).1;have C1:Hid (∀W,Calls aA 182 #[.agg (cv V M)] W fun e w'=>e=.returned (.agg (cv (AZ V M) M))∧Below W.heap.size W w'):=Ir V M hV hM;have eC:∀w,(bA 10000 37 (.agg (cv V M)) (.agg (cv (AZ V M) M))).run aA w=.ok (V==AZ V M) w:=fun w=>by rw[eqC V M (AZ V M) M hVl hMl hCl hMl];simp
 have eg:∀op x y (xs ys:Array Value) w,(eqGuard op 37 x y (.agg xs) (.agg ys)).run aA w=.ok () w:=egC;clear hV hM;go_enter Tryz.func160,Tryz.ntmps160;go_wp2_with fail;have g0:=Ab w (.cells (cv V M) 37) _ rfl;have hb:=(aJ w.heap.size w).alloc (aK _) (.cells (cv V M) 37);obtain⟨W,hW⟩:=eX (w.alloc (.cells (cv V M) 37));rw[←hW] at g0 hb ⊢;clear hW;have ne1:=Am.ne W;refine rL ?_;refine SO rfl _ rfl w.heap.size rfl V M g0 hVl hMl ?_;simp only[pU];refine SO rfl _ rfl w.heap.size rfl V M g0 hVl hMl ?_;simp only[pU];go_big_quiet_want;go_big_quiet_op;refine⟨_,fun u=>Calls.later_of (C1.out u.world),?_⟩;go_big_quiet_on
 repeat go_big_quiet_step (fail)
 refine wpQuiet_nil ?_;rintro w' ⟨u,rfl⟩;go_wp2;go_ret;exact⟨rfl,hb.trans (u.below.mono hb.size)⟩
theorem Hr{ops:Array Oper}{rest:List Oper}{o:Oper}{a:Act}{w:World}{Q:Exit→Act→World→Prop}(hg:o.guard=none)(ho:o.op=.build 37 #[])
  (h:wpList aA ops Q rest (a.put o.dst (.agg (cv Z Z))) w):wpList aA ops Q (o::rest) a w:=
 wpList_plain hg fun _ hK=>by
  unfold Oper.wp execOp
  have e:((#[]:Array (Nat×Operand)).map (fun(i,x)=>(i,a.eval x)))=#[]:=by simp
  have hb:(Instr.build 37 #[]).run aA w=.ok (.agg (cv Z Z)) w:=by
   rw[←J7];kernel_rfl
  simp only[ho,aN];rw[e,hb];exact hK _ _ h
theorem OQ(V M:List Int)(hV:AK V)(hM:AK M)(w:World):
  Calls aA 106 #[.agg (cv V M)] w fun e w'=>e=.returned (.agg (cv (AZ V M) M))∧Below w.heap.size w w':=by
 have hVl:=hV.1;have hMl:=hM.1;have hzl:=BO.1;obtain⟨fV,hfV⟩:∃f:Nat→Bool,f=fun i=>bt V i&&bt M i:=⟨_,rfl⟩;obtain⟨fM,hfM⟩:∃f:Nat→Bool,f=bt M:=⟨_,rfl⟩;have CA:Hid (∀k:Nat,k<104→∀W,Calls aA 141 #[.agg (cv V M),.int .i64 (k:Int)] W fun e w'=>e=.returned (.int .i64 (Qw V M k))∧Below W.heap.size W w'):=fun k hk=>Apr V M hV hM k hk
 have CS:Hid (∀k:Nat,k<104→∀W,Calls aA 140 #[.agg (cv (Gz k fV) (Gz k fM)),.int .i64 (k:Int),.int .i64 (Qw V M k)] W fun e w'=>e=.returned (.agg (cv (Gz (k+1) fV) (Gz (k+1) fM)))∧Below W.heap.size W w'):=fun k hk=>by
  have:=Ahs _ _ (OB k fV) (OB k fM) k hk (Qw V M k);rwa [App,Apq,show(bt V k&&bt M k)=fV k by rw[hfV],show bt M k=fM k by rw[hfM],UN,UN] at this
 have HE:Hid (Gz 104 fV=AZ V M∧Gz 104 fM=M):=by
  show _∧_;rw[Wl,Wl,hfV,hfM];exact⟨rfl,Aqq M hM⟩
 clear hV hM hfV hfM;have lV:∀k,(Gz k fV).length=13:=fun k=>(OB k fV).1;have lM:∀k,(Gz k fM).length=13:=fun k=>(OB k fM).1;go_enter Tryz.func106,Tryz.ntmps106
 go_wp2_with (first
  | (refine Hr rfl rfl ?_)
  | (refine BQ rfl _ _ rfl (w.heap.size+2) Z Z rfl rfl _ (Ab _ _ _ (by simp)) rfl hzl hzl _ (Bo _ _ _ _ _ (by simp)) ?_))
 go_loopw [4] (fun i wr=> ∃k:Nat,k≤104∧i=.int .i64 k∧wr.heap[w.heap.size]?=some (.cells (cv V M) 37 (0,0))∧wr.heap[w.heap.size+1]?=some (.cells AE 37 (0,0))∧wr.heap[w.heap.size+2]?=some (.cells (cv (Gz k fV) (Gz k fM)) 37 (0,0))∧Below w.heap.size w wr) (fun i _=>104-(intOf i).toNat)
 case atStart=>exact⟨0,bH _,rfl,Ah _ _ _ _ (Ah _ _ _ _ (Ab _ _ _ rfl)),Ah _ _ _ _ (Ab _ _ _ (by simp)),by rw[UM,UM];exact Ab _ _ _ (by simp),(((aJ _ _).alloc (aK _) _).alloc (by simp) _).alloc (by simp;omega) _⟩
 case round=>
  obtain⟨k,hk,rfl,g0,g1,g2,hb⟩:=hrel;have l1:=lV k;have l2:=lM k;have l3:=lV (k+1);have l4:=lM (k+1);by_cases hlt:k<104
  ·have C1:Hid (∀W,Calls aA 141 #[.agg (cv V M),.int .i64 (k:Int)] W fun e w'=>e=.returned (.int .i64 (Qw V M k))∧Below W.heap.size W w'):=CA.out k hlt;have C2:Hid (∀W,Calls aA 140 #[.agg (cv (Gz k fV) (Gz k fM)),.int .i64 (k:Int),.int .i64 (Qw V M k)] W fun e w'=>e=.returned (.agg (cv (Gz (k+1) fV) (Gz (k+1) fM)))∧Below W.heap.size W w'):=CS.out k hlt;go_wp2_with fail;have ne1:=Am.ne wr;refine Cu 6 (by kernel_rfl) (by kernel_rfl) ?_;simp only[aP,cF,bO,cG];refine SO rfl _ rfl (w.heap.size+2) rfl (Gz k fV) (Gz k fM) g2 l1 l2 ?_;simp only[pU];go_big_quiet_step (fail);refine SO rfl _ rfl w.heap.size rfl V M g0 hVl hMl ?_;simp only[pU];go_big_quiet_step (fail);go_big_quiet_want;go_big_quiet_op;refine⟨_,fun u=>Calls.later_of (C1.out u.world),?_⟩;go_big_quiet_on;go_big_quiet_want;go_big_quiet_op;refine⟨_,fun u=>Calls.later_of (C2.out u.world),?_⟩;go_big_quiet_on;refine wpQuiet_nil ?_;rintro w' ⟨u,rfl⟩;have k0:=Ap g0 _ ⟨u,rfl⟩;have k1:=Ap g1 _ ⟨u,rfl⟩;have k2:=Ap g2 _ ⟨u,rfl⟩;have hb2:=hb.trans (u.below.mono hb.size);clear g0 g1 g2 hb ne1 C1 C2
   go_wp2_with (refine BQ rfl _ _ rfl (w.heap.size+2) (Gz (k+1) fV) (Gz (k+1) fM) rfl rfl _ k2 (Bq _ _ l1 l2) l3 l4 _ rfl ?_);go_roundw
   case rel=>
    exact⟨k+1,by omega,by go_num,(setRow_other _ _ _ _ (by omega)).trans k0,(setRow_other _ _ _ _ (by omega)).trans k1,setRow_heap _ _ _ _ _ _ k2,Aj hb2 (by omega) _⟩
   case measure=>simp[intOf];omega
  ·obtain rfl:k=104:=by omega
   rw[HE.out.1,HE.out.2] at g2;have hCl:=(D7 V M).1
   go_wp2_with (first
    | (refine De rfl _ rfl (w.heap.size+2) rfl (AZ V M) M g2 hCl hMl ?_)
    | (refine BQ rfl _ _ rfl (w.heap.size+1) (AZ V M) M rfl rfl _ g1 rfl hCl hMl _ rfl ?_))
   refine WG (p:=2) rfl rfl (w.heap.size+1) rfl (AZ V M) M hCl hMl (setRow_heap _ _ _ _ _ _ g1) ⟨rfl,?_⟩;exact Aj hb (by omega) _
theorem JZ{P:Program}{ops:Array Oper}{Q:Exit→Act→World→Prop}{i:Nat}{o:Oper}{K:Act→World→Prop}{a:Act}{w:World}(hi:ops[i]?=some o)
  (h:wpList P ops (fun e a' w'=>match e with | .normal=>K a' w' | e=>Q e a' w') [o] a w):wpOp P ops Q i K a w:=by
 unfold Go.wpOp;simp only[hi];unfold wpList at h;by_cases hw:Region.wanted o (yielded ops a.tmps)=true
 ·rw[if_pos hw] at h ⊢;rcases h with h | h
  ·refine .inl ?_;unfold Oper.wp at h ⊢;revert h;generalize (execOp a.eval o).run P w=r;intro h;unfold Oper.upon at h ⊢;split at h
   ·exact h
   ·exact h
   ·exact h
   ·refine h.mono ?_;intro e w1 h1
    cases e <;> exact h1
   ·exact h
   ·exact h
   ·exact h.elim
  ·exact .inr h
 ·rw[if_neg hw] at h ⊢;exact h
theorem Anz{w:World}{g:Nat}{V M:List Int}(hV:AK V)(h:w.heap[g]?=some (.cells (cv V M) 37 (0,0))):Br w (.slice (some ⟨g,0,none⟩) 13 13) (Dr V):=by
 have hl:(Dr V).length=13:=by rw[D5,hV.1]
 refine⟨_,13,by rw[hl],by rw[hl];exact aK _,by unfold maxLen;omega,(fun e=>by cases e),fun i hi=>⟨g,0,_,_,_,rfl,h,?_⟩⟩;rw[hl] at hi;rw[Nat.zero_add,Lb V M hV.1 i hi, ←(Na hV i hi).2,aI,aH (by omega)];rfl
theorem Akl{w:World}{g:Nat}{V M:List Int}(hV:AK V)(hM:AK M)(h:w.heap[g]?=some (.cells (cv V M) 37 (0,0))):Br w (.slice (some ⟨g,13,none⟩) 13 13) (Dr M):=by
 have hl:(Dr M).length=13:=by rw[D5,hM.1]
 refine⟨_,13,by rw[hl],by rw[hl];exact aK _,by unfold maxLen;omega,(fun e=>by cases e),fun i hi=>⟨g,13,_,_,_,rfl,h,?_⟩⟩;rw[hl] at hi;rw[G8 V M hV.1 hM.1 i hi, ←(Na hM i hi).2,aI,aH (by omega)];rfl
theorem YF(v:Value)(L:List UInt8)(V M:List Int)(hV:AK V)(hM:AK M)(w:World)(hL:Br w v L)(hl:L.length≤140737488351232):
  Calls aA 196 #[v,.agg (cv V M)] w fun e w'=> ∃u,e=.returned u∧AB w.heap.size w' u (L++FW (AZ V M) M)∧Below w.heap.size w w':=by
 have HL:Hid (Br w v L):=hL;obtain⟨ov,nv,cx,rfl⟩:∃o n c,v=.slice o n c:=by obtain⟨o,c,h,_⟩:=hL.slice;exact⟨o,_,c,h⟩
 have hVl:=hV.1;have hMl:=hM.1;have hC:=D7 V M;have hCl:=hC.1;have CC:Hid (∀W,Calls aA 182 #[.agg (cv V M)] W fun e w'=>e=.returned (.agg (cv (AZ V M) M))∧Below W.heap.size W w'):=Ir V M hV hM;have HC:Hid (AK (AZ V M)∧AK M):=⟨hC,hM⟩
 have HJ:Hid (∀(g2 g:Nat) (W:World),W.heap[g2]?=some (.cells #[.slice ov nv cx,.slice (some ⟨g,0,none⟩) 13 13,.slice (some ⟨g,13,none⟩) 13 13] 70 (0,0))→Br W (.slice ov nv cx) L→W.heap[g]?=some (.cells (cv (AZ V M) M) 37 (0,0))→Calls aA 125 #[.slice (some ⟨g2,0,none⟩) 3 3] W fun e w'=> ∃v,e=.returned v∧AB W.heap.size w' v (L++FW (AZ V M) M)∧Below W.heap.size W w'):=fun g2 g W h1 h2 h3=>by
  refine(MY g2 [.slice ov nv cx,.slice (some ⟨g,0,none⟩) 13 13,.slice (some ⟨g,13,none⟩) 13 13] [L,Dr (AZ V M),Dr M] W h1 (by simp) ⟨h2,Anz hC h3,Akl hC hM h3,trivial⟩ ?_).mono ?_
  ·simp[D5,hCl,hMl];omega
  ·rintro e w' ⟨u,rfl,h4,h5⟩;exact⟨u,rfl,by simpa[FW] using h4,h5⟩
 have g0:=Ab w (.cells (cv V M) 37) _ rfl;have B0:Below w.heap.size w (w.alloc (.cells (cv V M) 37)):=(aJ _ _).alloc (aK _) _;clear hL hl hV hM hC;go_enter Tryz.func196,Tryz.ntmps196;go_wp2_with (refine De rfl _ rfl w.heap.size rfl V M g0 hVl hMl ?_);refine(CC.out _).mono ?_;rintro e w1 ⟨rfl,hb1⟩;have g1:w1.heap[w.heap.size]?=some (.cells (cv V M) 37 (0,0)):=(hb1.block _ (by simp)).trans g0;have B1:Below w.heap.size w w1:=B0.trans (hb1.mono (by simp));clear g0 B0 hb1;go_wp2_with (refine BQ rfl _ _ rfl w.heap.size (AZ V M) M rfl rfl _ g1 (Bq V M hVl hMl) hCl hMl _ rfl ?_);have g2:=setRow_heap w1 w.heap.size _ (cv (AZ V M) M) _ _ g1;have B2:=Aj B1 (aK w.heap.size) (cv (AZ V M) M);obtain⟨W,hW⟩:=eX (w1.setRow w.heap.size (cv (AZ V M) M));rw[←hW] at g2 B2 ⊢;clear hW g1 B1;have hgs:=(gS g2);have ne1:=Am.ne W;have HLW:Hid (∀u:Am W,Br u.world (.slice ov nv cx) L):=fun u=>HL.out.below (B2.trans (u.below.mono B2.size));have HG:Hid (∀u:Am W,u.world.heap[w.heap.size]?=some (.cells (cv (AZ V M) M) 37 (0,0))):=fun u=>(u.below.block _ hgs).trans g2;simp only[Act.put]
 refine EZ (fun a a' w'=> ∃u y7 y8 y9 y10 y11 y12 y13,a'=((((((((a.put (some 7) y7).put (some 8) y8).put (some 9) y9).put (some 10) y10).put (some 11) y11).put (some 12) y12).put (some 13) y13).put (some 4) u)∧AB w.heap.size w' u (L++FW (AZ V M) M)∧Below W.heap.size W w') ?_ ?_
 ·refine Jj 8 rfl (by kernel_rfl) ?_;refine rE 0 5 3 ⟨⟨W.drew,(aJ _ _).drew⟩,rfl⟩ ?_;simp only[cG,aP,cF]
  iterate 5 (go_big_quiet_step (fail))
  refine wpQuiet_nil ?_;refine rO 5 ?_;refine JZ rfl ?_;refine MP rfl 3 _ rfl #[.slice ov nv cx,.slice (some ⟨w.heap.size,0,none⟩) 13 13,.slice (some ⟨w.heap.size,13,none⟩) 13 13] (by decide) (by decide) (by first | rfl | kernel_rfl|(simp[Instr.fill,Act.eval,Value.cells];done)) ?_;have hB3:Below W.heap.size W (W.drew.alloc (.cells #[.slice ov nv cx,.slice (some ⟨w.heap.size,0,none⟩) 13 13,.slice (some ⟨w.heap.size,13,none⟩) 13 13] 70)):=(aJ _ _).drew.alloc (aK _) _;refine⟨⟨⟨_,hB3⟩,rfl⟩,?_⟩;simp only[pU];refine rO 6 ?_;refine Bm rfl rfl 125 #[.tmp 12] (by intro b w;have hf:=Tryz.func125;simp[go_sem]) #[.slice (some ⟨W.drew.heap.size,0,none⟩) 3 3] rfl (fun v w'=>AB w.heap.size w' v (L++FW (AZ V M) M)∧Below W.heap.size W w') ((HJ.out W.drew.heap.size w.heap.size _ (Ab _ _ _ rfl) (HLW.out ⟨_,hB3⟩) (HG.out ⟨_,hB3⟩)).mono fun e w' ⟨v,h1,h2,h3⟩=>⟨v,h1,h2.base (Nat.le_trans B2.size hB3.size),hB3.trans (h3.mono hB3.size)⟩) (some 13) rfl ?_;rintro z w4 ⟨ho4,hb4⟩;refine⟨⟨⟨w4,hb4⟩,rfl⟩,?_⟩;refine rO 7 ?_
  refine FR rfl rfl _ rfl z rfl (some 4) rfl ?_;refine⟨⟨⟨w4,hb4⟩,rfl⟩,?_⟩;refine rD ?_;exact⟨rfl,_,_,_,_,_,_,_,_,rfl,ho4,hb4⟩
 ·rintro a' w4 ⟨z,y7,y8,y9,y10,y11,y12,y13,rfl,ho4,hb4⟩;simp only[pU];go_wp2_with fail;go_ret;exact⟨z,rfl,ho4,B2.trans (hb4.mono B2.size)⟩
end
section
open Go.Lib Go.RowKit
def Ns(m:An):List Value:=.int .i64 m.kind::(m.num.map (aB .i64)++((m.cube.1++m.cube.2).map (aB .u8)++m.head.map (aB .u8)))
def Ae(m:An):Array Value:=(Ns m).toArray
theorem QO{m:An}(h:BB m):(Ns m).length=53:=by
 unfold Ns;simp only[bD,aG,aC,h.1,h.2.1.1,h.2.2.1.1,h.2.2.2.1]
theorem BG{m:An}(h:BB m):(Ae m).size=53:=by
 unfold Ae;rw[List.size_toArray,QO h]
theorem Aey(m:An):(Ae m).all (·.oneCell')=true:=by
 unfold Ae Ns;simp[Value.oneCell']
theorem CY{m:An}(h:BB m):(Ae m).size=53∧(Ae m).all (·.oneCell')=true:=⟨BG h,Aey m⟩
theorem DB(m:An):(Ae m)[0]?=some (.int .i64 m.kind):=by
 unfold Ae Ns;simp
theorem BK{m:An}(h:BB m)(j:Nat)(hj:j<13):(Ae m)[j+1]?=some (.int .i64 (Ad m j)):=by
 unfold Ae Ns Ad;rw[aL,aM,bB (by rw[aC,h.1];exact hj),List.getElem?_map,aI,aH (by rw[h.1];exact hj)];rfl
theorem Kq{m:An}(h:BB m)(j:Nat)(hj:j<26):(Ae m)[14+j]?=(cv m.cube.1 m.cube.2)[j]?:=by
 unfold Ae Ns cv hv;rw[aL,show 14+j=(13+j)+1 by omega,aM,aO (by rw[aC,h.1];omega),aC,h.1,bG,bB (by rw[aC,aG,h.2.1.1,h.2.2.1.1];exact hj),aL]
theorem Lr{m:An}(h:BB m)(j:Nat)(hj:j<13):(Ae m)[40+j]?=(hv m.head)[j]?:=by
 unfold Ae Ns hv;rw[aL,show 40+j=(39+j)+1 by omega,aM,aO (by rw[aC,h.1];omega),aC,h.1,show 39+j-13=26+j by omega,aO (by rw[aC,aG,h.2.1.1,h.2.2.1.1];omega),aC,aG,h.2.1.1,h.2.2.1.1,bG,aL]
def MsG:Ag:=⟨39,53⟩
theorem BD:MsG.Ok:=⟨⟨_,aY,rfl⟩,by kernel_rfl⟩
def CuG:Ag:=⟨37,26⟩
theorem Es:CuG.Ok:=⟨⟨_,Tryz.underlying37,rfl⟩,by kernel_rfl⟩
def HeG:Ag:=⟨35,13⟩
theorem JT:HeG.Ok:=⟨⟨_,bW,rfl⟩,by kernel_rfl⟩
def AR(m:An)(j:Nat)(x:Int):An:={m with num:=m.num.set j x}
def EG(m:An)(V M:List Int):An:={m with cube:=(V,M)}
def GA(m:An)(L:List Int):An:={m with head:=L}
theorem EU{m:An}(h:BB m)(j:Nat)(x:Int):BB (AR m j x):=⟨by unfold AR;simp[h.1],h.2⟩
theorem LO{m:An}(h:BB m){V M:List Int}(hV:AK V)(hM:AK M):BB (EG m V M):=⟨h.1,hV,hM,h.2.2.2⟩
theorem QH{m:An}(h:BB m){L:List Int}(hL:AK L):BB (GA m L):=⟨h.1,h.2.1,h.2.2.1,hL⟩
theorem FK{m:An}(h:BB m)(j:Nat)(hj:j<13)(x:Int):(Ae m).setIfInBounds (j+1) (.int .i64 x)=Ae (AR m j x):=by
 unfold Ae Ns AR;rw[List.setIfInBounds_toArray,List.set_cons_succ,List.set_append_left _ _ (by rw[aC,h.1];exact hj),List.map_set]
theorem QN{m:An}(h:BB m)(V M:List Int):((Ae m).toList.take 14++(cv V M).toList++(Ae m).toList.drop (14+26)).toArray=Ae (EG m V M):=by
 obtain⟨k,ns,⟨V0,M0⟩,H⟩:=m;have h1:ns.length=13:=h.1;have h2:V0.length=13:=h.2.1.1;have h3:M0.length=13:=h.2.2.1.1;unfold Ae Ns EG cv hv;dsimp only;congr 1
 have e1:(aB .i64 k::(ns.map (aB .i64)++((V0++M0).map (aB .u8)++H.map (aB .u8)))).take 14=aB .i64 k::ns.map (aB .i64):=by
  rw[aP,cE (by rw[aC,h1])]
 have e2:(aB .i64 k::(ns.map (aB .i64)++((V0++M0).map (aB .u8)++H.map (aB .u8)))).drop (14+26)=H.map (aB .u8):=by
  rw[show 14+26=(13+26)+1 from rfl,bO, ←bX,List.drop_left' (by rw[aG,aC,aC,aG,h1,h2,h3])]
 rw[e1,e2];simp
theorem Ue{m:An}(h:BB m)(L:List Int):((Ae m).toList.take 40++(hv L).toList++(Ae m).toList.drop (40+13)).toArray=Ae (GA m L):=by
 obtain⟨k,ns,⟨V0,M0⟩,H⟩:=m;have h1:ns.length=13:=h.1;have h2:V0.length=13:=h.2.1.1;have h3:M0.length=13:=h.2.2.1.1;have h4:H.length=13:=h.2.2.2.1;unfold Ae Ns GA hv;dsimp only;congr 1
 have e1:(aB .i64 k::(ns.map (aB .i64)++((V0++M0).map (aB .u8)++H.map (aB .u8)))).take 40=aB .i64 k::(ns.map (aB .i64)++(V0++M0).map (aB .u8)):=by
  rw[aP, ←bX,cE (by rw[aG,aC,aC,aG,h1,h2,h3])]
 have e2:(aB .i64 k::(ns.map (aB .i64)++((V0++M0).map (aB .u8)++H.map (aB .u8)))).drop (40+13)=[]:=by
  rw[List.drop_of_length_le];simp[h1,h2,h3,h4]
 rw[e1,e2];simp
set_option maxRecDepth 100000 in
theorem Akg(k:Int)(W:World):(Instr.build 39 #[(0,.int .i64 k)]).run aA W=.ok (.agg (Ae (Bk k))) W:=by
 unfold Bk;rw[JR];kernel_rfl
set_option maxRecDepth 100000 in
theorem Agk(W:World):(Instr.build 39 #[]).run aA W=.ok (.agg (Ae (Bk 0))) W:=by
 unfold Bk;rw[JR];kernel_rfl
theorem QJ{E:Ag}(H:E.Ok)(A cs:Array Value)(off:Nat)(hcs:cs.size=E.size)(hA:∀j,j<E.size→A[off+j]?=cs[j]?)(hs:off+E.size≤A.size)(w:World):(part E.elem A off).run aA w=.ok (.agg cs) w:=by
 obtain⟨i,hq,hz⟩:∃i,aA.info? E.elem=some i∧i.size=E.size:=by
  have h1:=H.hi
  cases h:aA.info? E.elem with
  | none=>rw[h] at h1;simp at h1
  | some i=>rw[h] at h1;exact⟨i,rfl,by simpa using h1⟩
 have hagg:(isAgg E.elem).run aA w=.ok true w:=by
  obtain⟨d,hd,hm⟩:=H.hu;unfold isAgg;rw[aN,run_underlying hd w];revert hm
  cases d <;> simp[go_sem]
 have e:A.extract off (off+E.size)=cs:=by
  apply Array.ext_getElem?;intro k;rw[Array.getElem?_extract];split
  ·rename_i hk;exact hA k (by omega)
  ·rename_i hk;rw[Array.getElem?_eq_none (by omega)]
 simp[part,hagg,sizeOf,typeInfo,hq,hz,aN,e]
theorem RW(d:Nat)(A B:List Int)(hA:A.length=13)(hB:B.length=13)(w:World):(bA (d+2) 35 (.agg (hv A)) (.agg (hv B))).run aA w=.ok (A==B) w:=by
 have z5:(sizeOf 5).run aA w=.ok 1 w:=by kernel_rfl
 rw[show d+2=(d+1)+1 from rfl,bA];simp only[aN,run_underlying bW,aQ,z5];simp only[Std.Legacy.Range.forIn_eq_forIn_range',Std.Legacy.Range.size,Nat.sub_zero,Nat.add_sub_cancel,Nat.div_one];rw[←Qy A B hA hB];exact V7 d A B hA hB w _ rfl rfl (List.range' 0 13) (fun i hi=>by simp at hi;omega)
theorem Ak2(V M V' M':List Int)(hV:V.length=13)(hM:M.length=13)(hV':V'.length=13)(hM':M'.length=13)(w:World):
  (bA 9999 37 (.agg (cv V M)) (.agg (cv V' M'))).run aA w=.ok (V==V'&&M==M') w:=by
 rw [show (9999 : Nat) = 9998 + 1 from rfl, run_equalIn_struct w 9998 37 _ _ (by kernel_rfl) (by kernel_rfl)]; rw [show (aA.fieldsOf 37).toList = [{ name := "Value", type := 35, offset := 0, embedded := false, tag := "", pkgPath := "", byteOffset := 0 }, { name := "Mask", type := 35, offset := 13, embedded := false, tag := "", pkgPath := "", byteOffset := 13 }] from by kernel_rfl]; simp only [Op.eqFields, ne_eq, String.reduceEq, not_false_eq_true, if_true, aN]; simp only [Jk V M hV, Jk V' M' hV', aQ, RW 9996 V V' hV hV']
 cases hA:(V==V')
 ·simp
 ·simp only[Bool.not_true,Bool.false_eq_true,if_false,aN,Ip V M hV hM,Ip V' M' hV' hM',aQ,RW 9996 M M' hM hM']
  cases hB:(M==M') <;> simp
def NF(m n:An):Bool:=(m.kind==n.kind)&&((Ad m 0==Ad n 0)&&((Ad m 1==Ad n 1)&&((Ad m 2==Ad n 2)&&((Ad m 3==Ad n 3)&&((Ad m 4==Ad n 4)&&((Ad m 5==Ad n 5)&&((Ad m 6==Ad n 6)&&((Ad m 7==Ad n 7)&&((Ad m 8==Ad n 8)&&((Ad m 9==Ad n 9)&&((Ad m 10==Ad n 10)&&((Ad m 11==Ad n 11)&&((Ad m 12==Ad n 12)&&((m.cube.1==n.cube.1&&m.cube.2==n.cube.2)&&((m.head==n.head)&&true)))))))))))))))
set_option maxRecDepth 100000 in
theorem Aqw{m n:An}(h:BB m)(h':BB n)(w:World):(bA 10000 39 (.agg (Ae m)) (.agg (Ae n))).run aA w=.ok (NF m n) w:=by
 have a3:(isAgg 3).run aA w=.ok false w:=by kernel_rfl
 rw[run_equalIn_struct w 9999 39 _ _ aY (by kernel_rfl)];simp only[Program.fieldsOf,aY];refine Cg w (by decide) (BU w a3 (DB m)) (BU w a3 (DB n)) (run_equalIn_int w _ 3 .i64 .i64 _ _ aD) ?_;refine Cg w (by decide) (BU w a3 (BK h 0 (by decide))) (BU w a3 (BK h' 0 (by decide))) (run_equalIn_int w _ 3 .i64 .i64 _ _ aD) ?_;refine Cg w (by decide) (BU w a3 (BK h 1 (by decide))) (BU w a3 (BK h' 1 (by decide))) (run_equalIn_int w _ 3 .i64 .i64 _ _ aD) ?_;refine Cg w (by decide) (BU w a3 (BK h 2 (by decide))) (BU w a3 (BK h' 2 (by decide))) (run_equalIn_int w _ 3 .i64 .i64 _ _ aD) ?_;refine Cg w (by decide) (BU w a3 (BK h 3 (by decide))) (BU w a3 (BK h' 3 (by decide))) (run_equalIn_int w _ 3 .i64 .i64 _ _ aD) ?_;refine Cg w (by decide) (BU w a3 (BK h 4 (by decide))) (BU w a3 (BK h' 4 (by decide))) (run_equalIn_int w _ 3 .i64 .i64 _ _ aD) ?_;refine Cg w (by decide) (BU w a3 (BK h 5 (by decide))) (BU w a3 (BK h' 5 (by decide))) (run_equalIn_int w _ 3 .i64 .i64 _ _ aD) ?_
 refine Cg w (by decide) (BU w a3 (BK h 6 (by decide))) (BU w a3 (BK h' 6 (by decide))) (run_equalIn_int w _ 3 .i64 .i64 _ _ aD) ?_;refine Cg w (by decide) (BU w a3 (BK h 7 (by decide))) (BU w a3 (BK h' 7 (by decide))) (run_equalIn_int w _ 3 .i64 .i64 _ _ aD) ?_;refine Cg w (by decide) (BU w a3 (BK h 8 (by decide))) (BU w a3 (BK h' 8 (by decide))) (run_equalIn_int w _ 3 .i64 .i64 _ _ aD) ?_;refine Cg w (by decide) (BU w a3 (BK h 9 (by decide))) (BU w a3 (BK h' 9 (by decide))) (run_equalIn_int w _ 3 .i64 .i64 _ _ aD) ?_;refine Cg w (by decide) (BU w a3 (BK h 10 (by decide))) (BU w a3 (BK h' 10 (by decide))) (run_equalIn_int w _ 3 .i64 .i64 _ _ aD) ?_;refine Cg w (by decide) (BU w a3 (BK h 11 (by decide))) (BU w a3 (BK h' 11 (by decide))) (run_equalIn_int w _ 3 .i64 .i64 _ _ aD) ?_;refine Cg w (by decide) (BU w a3 (BK h 12 (by decide))) (BU w a3 (BK h' 12 (by decide))) (run_equalIn_int w _ 3 .i64 .i64 _ _ aD) ?_
 refine Cg w (by decide) (QJ Es _ (cv m.cube.1 m.cube.2) 14 (Bq _ _ h.2.1.1 h.2.2.1.1) (Kq h) (by rw[BG h];decide) w) (QJ Es _ (cv n.cube.1 n.cube.2) 14 (Bq _ _ h'.2.1.1 h'.2.2.1.1) (Kq h') (by rw[BG h'];decide) w) (Ak2 _ _ _ _ h.2.1.1 h.2.2.1.1 h'.2.1.1 h'.2.2.1.1 w) ?_;refine Cg w (by decide) (QJ JT _ (hv m.head) 40 (by rw[EW,h.2.2.2.1];rfl) (Lr h) (by rw[BG h];decide) w) (QJ JT _ (hv n.head) 40 (by rw[EW,h'.2.2.2.1];rfl) (Lr h') (by rw[BG h'];decide) w) (RW 9997 _ _ h.2.2.2.1 h'.2.2.2.1 w) ?_;rfl
theorem Zy{m n:An}(h:BB m)(h':BB n)(hn:∀j,j<13→Ad m j=Ad n j):m.num=n.num:=by
 apply List.ext_getElem?;intro j;by_cases hj:j<13
 ·have h2:=hn j hj;unfold Ad at h2;rw[aI,aI,aH (by rw[h.1];exact hj),aH (by rw[h'.1];exact hj)] at h2;rw[aH (by rw[h.1];exact hj),aH (by rw[h'.1];exact hj)];exact congrArg some h2
 ·rw[bJ (by rw[h.1];omega),bJ (by rw[h'.1];omega)]
theorem Ag7{m n:An}(h:BB m)(h':BB n):NF m n=true↔m=n:=by
 constructor
 ·intro e;unfold NF at e;simp only[Bool.and_eq_true,beq_iff_eq] at e;obtain⟨e0,f0,f1,f2,f3,f4,f5,f6,f7,f8,f9,f10,f11,f12,⟨c1,c2⟩,c3,_⟩:=e
  have hn:m.num=n.num:=Zy h h' fun j hj=>by
   match j,hj with
   | 0,_=>exact f0
   | 1,_=>exact f1
   | 2,_=>exact f2
   | 3,_=>exact f3
   | 4,_=>exact f4
   | 5,_=>exact f5
   | 6,_=>exact f6
   | 7,_=>exact f7
   | 8,_=>exact f8
   | 9,_=>exact f9
   | 10,_=>exact f10
   | 11,_=>exact f11
   | 12,_=>exact f12
   | j+13,hj=>omega
  obtain⟨k,nm,⟨a,b⟩,hd⟩:=m;obtain⟨k',nm',⟨a',b'⟩,hd'⟩:=n;dsimp only at e0 hn c1 c2 c3;rw[e0,hn,c1,c2,c3]
 ·rintro rfl;unfold NF;simp
end
end Go.Proofs.YtbhkoipcpcoooaaGreat
