import Derived.Test.YtbhkoipcpcoooaaGreatJ2
import Derived.Test.YtbhkoipcpcoooaaGreatProg
import Derived.Test.YtbhkoipcpcoooaaGreatJ1
import Derived.WalkKit
import Derived.WalkSpells
import Derived.WalkLawsBesides
import Derived.BigQuiet
import Derived.KernelRfl
import Derived.Laws.StructEq
import Derived.Laws.Tables
import Derived.Laws.Rows
import Derived.StillTailTactics
import Derived.StillTail
import Derived.Test.YtbhkoipcpcoooaaGreatJ11
import Derived.Test.YtbhkoipcpcoooaaGreatJ9
import Derived.Sort.LotA
import Derived.Test.YtbhkoipcpcoooaaGreatJ4
import Derived.Test.YtbhkoipcpcoooaaGreatJ3
import Derived.Great.BuildSlice
import Derived.Laws.AppendOwn
import Derived.Laws.OwnMore
import Derived.Maps.AppendAt
import Derived.Lib.Bytealg
import Derived.Lib.UnsafeStr
import Derived.Lib.BufferWrite
import Derived.Laws.MakeOwn
import Derived.OwnWalk
import Derived.OrdersHeld
import Derived.Laws.CopyRow
import Derived.Lib.BitFns
import Derived.WalkMore
import Derived.Test.YtbhkoipcpcoooaaGreatJ7
import Derived.Test.YtbhkoipcpcoooaaGreatJ6
import Derived.Test.YtbhkoipcpcoooaaGreatJ5
import Derived.Deep.QuietTactic
import Derived.Lib.Hide
import Derived.Lib.Walk
import Derived.Shelf.SlSortCmp.KitK
import Derived.Deep.LoopGhost
import Derived.Deep.CutRange
import Derived.Laws.AppendOwnNone
import Derived.Great.Walk
import Derived.Laws.Cover3
import Derived.Test.YtbhkoipcpcoooaaGreatJ8
import Derived.Test.YtbhkoipcpcoooaaGreatJ10
import Derived.BigRegion
import Derived.Deep.RegionLaw
import Derived.Shelf.RegionOpenPlain
import Derived.Test.YtbhkoipcpcoooaaGreatJ17
import Derived.Test.YtbhkoipcpcoooaaGreatJ12
import Derived.Test.YtbhkoipcpcoooaaGreatJ18
import Derived.Test.YtbhkoipcpcoooaaGreatJ16
import Derived.Test.YtbhkoipcpcoooaaGreatJ15
import Derived.Test.YtbhkoipcpcoooaaGreatJ14
import Derived.Test.YtbhkoipcpcoooaaGreatJ13
import Derived.Laws.BytesArg
import Derived.Laws.Bits64b
import Derived.Laws.CopyOwn
import Derived.Test.YtbhkoipcpcoooaaGreatRows
import Derived.ProofKit
import Derived.OpenShut
import Derived.Carry
import Derived.Deep.Slices
import Derived.SizedLaws
import Derived.Test.YtbhkoipcpcoooaaGreatJ24
import Derived.Test.YtbhkoipcpcoooaaGreatJ26
import Derived.Test.YtbhkoipcpcoooaaGreatJ25
import Derived.Test.YtbhkoipcpcoooaaGreatJ23
import Derived.Test.YtbhkoipcpcoooaaGreatJ22
import Derived.Test.YtbhkoipcpcoooaaGreatJ20
import Derived.Test.YtbhkoipcpcoooaaGreatJ19
import Derived.Test.YtbhkoipcpcoooaaGreatJ21
namespace Go.Proofs.YtbhkoipcpcoooaaGreat
set_option maxRecDepth 20000
set_option maxHeartbeats 64000000
open Go
open Go.Proofs.Tryz renaming prog → aA, underlying3 → aB, underlying59 → aL, func62 → aN, underlying4 → aT
open _root_.List renaming getElem?_eq_getElem → aC, getD_eq_getElem?_getD → aI, flatMap_cons → aK, getElem?_eq_none → aP, append_inj → aV, take_left' → aW, drop_left' → aX
open Go.World renaming drew → aD
open _root_.Int renaming le_trans → aG, le_of_eq → aH
open _root_.UInt8 renaming toNat_ofNat' → aJ, ofNat → aM
open _root_.Nat renaming le_refl → aO
theorem seal_form(kind:Nat)(body:List UInt8)(hb:body.length≤65535):∃h l:UInt8,H4 kind body=h::l::aM kind::body∧h.toNat*256+l.toNat=body.length:=by
 refine⟨aM (body.length/256%256),aM (body.length%256),?_,?_⟩
 ·unfold H4;simp[Dd]
 ·rw[aJ,aJ];omega
theorem open_seal(kind:Nat)(hk:kind<256)(body:List UInt8)(hb:body.length≤65535):H5 (H4 kind body)=some (kind,body):=by
 obtain⟨h,l,e,hl⟩:=seal_form kind body hb;rw[e];show(if h.toNat*256+l.toNat=body.length then some ((aM kind).toNat,body) else none)=_;rw[if_pos hl,aJ,Nat.mod_eq_of_lt hk]
section
open Go.RowKit
theorem msg_ext{m n:An}(hm:Xw m)(hn:Xw n)(hk:m.kind=n.kind)(h:∀f,f<15→Bt m f=Bt n f):m=n:=by
 have hnum:m.num=n.num:=by
  apply List.ext_getElem?;intro j;by_cases hj:j<13
  ·have h1:=h j (by omega);unfold Bt at h1;rw[if_neg (by omega),if_neg (by omega),if_neg (by omega),if_neg (by omega)] at h1;have h2:=Ao3 (hm.2 j hj) (hn.2 j hj) h1;unfold Ad at h2;rw[aI,aI,aC (by rw[hm.1.1];exact hj),aC (by rw[hn.1.1];exact hj)] at h2;rw[aC (by rw[hm.1.1];exact hj),aC (by rw[hn.1.1];exact hj)];exact congrArg some h2
  ·rw[aP (by rw[hm.1.1];omega),aP (by rw[hn.1.1];omega)]
 have h13:FW m.cube.1 m.cube.2=FW n.cube.1 n.cube.2:=h 13 (by decide);have h14:Dr m.head=Dr n.head:=h 14 (by decide);unfold FW at h13;obtain⟨e1,e2⟩:=aV h13 (by rw[D5,D5,hm.1.2.1.1,hn.1.2.1.1]);have c1:=TV hm.1.2.1 hn.1.2.1 e1;have c2:=TV hm.1.2.2.1 hn.1.2.2.1 e2;have c3:=TV hm.1.2.2.2 hn.1.2.2.2 h14;obtain⟨k,nm,⟨a,b⟩,hd⟩:=m;obtain⟨k',nm',⟨a',b'⟩,hd'⟩:=n;dsimp only at hk hnum c1 c2 c3;rw[hk,hnum,c1,c2,c3]
theorem go_some{n:An}(hn:Xw n)(hc:F7 n=true):∀(fs:List Nat) (m:An),(∀f∈fs,f<15)→Xw m→∃m',Iq fs (fs.flatMap (Bt n)) m=some m'
 | [],m,_,_=>⟨m,rfl⟩
 | f::fs,m,hlt,hm=>by
  have hf:=hlt f List.mem_cons_self
  have hl:=Abx hn.1 f
  rw[aK]
  unfold Iq
  rw[aW hl,aX hl]
  have hcub:(f=13&& !(F7 (GV m f (Bt n f))))=false:=by
   by_cases h1:f=13
   ·subst h1
    have e1:GV m 13 (Bt n 13)={m with cube:=n.cube}:=by
     unfold GV;rw[if_pos rfl];unfold Bt FW;rw[if_pos rfl,aW (by rw[D5,hn.1.2.1.1]),aX (by rw[D5,hn.1.2.1.1]),Aex hn.1.2.1,Aex hn.1.2.2.1]
    rw[e1];have:F7 {m with cube:=n.cube}=true:=hc;rw[this];rfl
   ·simp[h1]
  rw[hcub];exact go_some hn hc fs _ (fun x hx=>hlt x (List.mem_cons_of_mem _ hx)) (Am2 hm hf hl)
theorem right_zero{m:An}(hr:Ca m=true){g:Nat}(hg:g<15)(hn:g∉AQ m.kind):Bt m g=Bt (Bk m.kind) g:=by
 obtain⟨_,h2,_,h4,h5⟩:=(GI m).1 hr;unfold Bt;by_cases h1:g=13
 ·subst h1;rw[if_pos rfl,if_pos rfl,(h4 hn).1,(h4 hn).2];rfl
 ·rw[if_neg h1,if_neg h1];by_cases h3:g=14
  ·subst h3;rw[if_pos rfl,if_pos rfl,h5 hn];rfl
  ·rw[if_neg h3,if_neg h3,(h2 g (by omega)).2.2 hn]
   have:Ad (Bk m.kind) g=0:=by
    unfold Ad Bk;rw[aI,List.getElem?_replicate];split <;> rfl
   rw[this]
theorem flat_inj{m n:An}(hm:BB m)(hn:BB n):∀fs:List Nat,fs.flatMap (Bt m)=fs.flatMap (Bt n)→∀f∈fs,Bt m f=Bt n f
 | [],_,f,hf=>absurd hf (List.not_mem_nil)
 | x::fs,h,f,hf=>by
  rw[aK,aK] at h
  obtain⟨h1,h2⟩:=aV h (by rw[Abx hm,Abx hn])
  rcases List.mem_cons.1 hf with rfl | hf
  ·exact h1
  ·exact flat_inj hm hn fs h2 f hf
theorem kind_nat{k:Int}(h:(AQ k).isEmpty=false):((k.toNat:Nat):Int)=k∧k.toNat<256:=by
 have:=RU h;omega
theorem dec_enc{m:An}(h:BB m)(hr:Ca m=true):DQ (Fb m)=some m:=by
 obtain⟨h1,h2,h3,h4,h5⟩:=(GI m).1 hr;have hin:=Ai1 h hr;have hk:=kind_nat h1;have hbl:(G5 m).length=Hc m.kind:=Pw h _;have hsz:=TY m.kind;unfold DQ Fb;rw[open_seal _ hk.2 _ (by omega)];dsimp only;rw[hk.1,h1,hbl];simp only[bne_self_eq_false,Bool.or_self,Bool.false_eq_true,if_false];obtain⟨m',hm'⟩:=go_some hin h3 (AQ m.kind) (Bk m.kind) (MG _) (TQ _);have hm2:Iq (AQ m.kind) (G5 m) (Bk m.kind)=some m':=hm';obtain⟨g1,g2,g3,g4⟩:=ZQ _ _ _ _ (Vq m.kind) (MG _) hbl (TQ _) hm2;rw[hm2];congr 1;refine msg_ext g1 hin g2 fun f hf=> ?_;by_cases e:f∈AQ m.kind
 ·exact flat_inj g1.1 h _ g3 f e
 ·rw[g4 f hf e,right_zero hr hf e]
section
variable {B:Nat} {w w':World} {g gt gh gw:Nat} {R:Rm} {n:Af Aq} {r:D0}
end
theorem Fc.sl{B:Nat}{w:World}{num:Int}{v:Value}{C:List (Int×List UInt8)}(h:Fc B w num v C):Ee Wa (KV num) w v C:=Ti (E:=Wa) h fun _ _=>rfl
theorem Fc.slice{B:Nat}{w:World}{num:Int}{v:Value}{C:List (Int×List UInt8)}(h:Fc B w num v C):∃o cap,v=.slice o C.length cap∧C.length≤cap∧cap≤maxLen:=h.sl.slice
theorem UD{ops:Array Oper}{Q:Exit→Act→World→Prop}{i:Nat}{o:Oper}{K:Act→World→Prop}{a:Act}{w:World}(hi:ops[i]?=some o)(hw:Region.wanted o (yielded ops a.tmps)=true)(v:Value)(hx:(execOp a.eval o).run aA w=.ok (.value v) w)(d:Option Tmp)(hd:o.dst=d)(hK:K (a.put d v) w):wpOp aA ops Q i K a w:=
 FF hi hw v hx d hd hK
def Ib(S:Aq)(k:Int):List Ai:=if 0≤k∧k≤3 then Bv S k.toNat else []
theorem Age(B:Nat)(w:World)(g:Nat)(R:Rm)(S:Aq)(v1 v2 v3:Value)(h:Cw B w g R S v1 v2 v3)(k:Int):
  Calls aA 62 #[.pointer (some ⟨g,0,none⟩),.int .i64 k] w fun e w'=>e=.returned (.int .i64 ((Ib S k).length:Nat))∧w'=w:=by
 have WI:Hid (∀b,decide (0≤k∧k≤3)=b→∀W,Calls aA 88 #[.int .i64 k,.int .i64 3] W fun e w'=>e=.returned (.bool b)∧w'=W):=by
  intro b hb W;rw[←hb];exact PL k 3 W
 by_cases hk:0≤k∧k≤3
 focus
  have e1:Ib S k=Bv S k.toNat:=by unfold Ib;rw[if_pos hk]
  rw[e1];obtain⟨b,rfl⟩:=Int.eq_ofNat_of_zero_le hk.1;have hb:b<4:=by omega
  have hb4:(b:Int)<4:=by omega
  have hw:=WI.out true (decide_eq_true hk);have WT:Hid _:=hw;have c1:=h.f.bankCell b hb;obtain⟨o,cap,e,he,hm⟩:=(h.bank b).slice;unfold maxLen at hm;rw[e] at c1;rw[Int.toNat_natCast];generalize (Bv S b).length=n at c1 he ⊢;clear h e WI hw hk e1
 rotate_left
 focus
  have e1:Ib S k=[]:=by unfold Ib;rw[if_neg hk]
  rw[e1];have hw:=WI.out false (decide_eq_false hk);have WT:Hid _:=hw;clear h WI hw hk e1
 all_goals
  go_enter aN,Tryz.ntmps62;go_wp2_with (go_at_call 88;refine(WT.out _).mono ?_;rintro e w1 ⟨rfl,rfl⟩);go_ret;exact⟨rfl,rfl⟩
theorem letters20_any(B:Nat)(w:World)(g gt gh gw:Nat)(R:Rm)(n:Af Aq)(r:D0)(h:Cb B w g gt gh gw R n r):
  Calls aA 21 #[.pointer (some ⟨g,0,none⟩)] w fun e w'=>e=.returned r.vl∧Fc B w' n.num r.vl n.post∧Cb B w' g gt gh gw R {n with post:=[]} {r with vl:=.slice none 0 0}∧As (Cq g) w w':=by
 have c7:=h.f.c7;have fz:=h.f.fz 7;obtain⟨q1,q2⟩:=h.setCell (j:=7) (v:=.slice none 0 0) (n':={n with post:=[]}) (u:={r with vl:=.slice none 0 0}) rfl rfl rfl rfl rfl rfl rfl rfl (Fc.nil _ _ _) h.log
 have HX:Hid (Fc B (w.setCell ⟨g,7,none⟩ (.slice none 0 0)) n.num r.vl n.post):=by
  refine h.post.kept q2 fun k hk e=> ?_;obtain rfl:k=g:=e;exact h.off (i:=0) (j:=4) (by decide) (by decide) (by decide) k rfl hk
 have HV:Hid _:=q1;have HK:Hid _:=q2;obtain⟨ow,cw,hvw,_⟩:=h.post.slice;obtain⟨lw,hlw⟩:∃lw,lw=n.post.length:=⟨_,rfl⟩;rw[←hlw] at hvw;obtain⟨vv,hvv⟩:∃vv,vv=r.vl:=⟨_,rfl⟩;rw[←hvv] at hvw c7 HX ⊢;clear q1 q2 h hlw hvv;subst hvw;go_enter Tryz.func21,Tryz.ntmps21;go_wp2_with fail;go_ret;exact⟨rfl,HX.out,HV.out,HK.out⟩
end
section
open Go.ChangeAt Go.ChangeShapes Go.RowKit Go.WideElems Go.WideMaps Go.WideShapes
theorem open_msg{H:Type}{enc:TypeId×Value→H}{W:World}{r:Reach}{b0 base:Nat}{spare:Nat→Bool}{held:Bool}{v:Value}{d:DataW H}{p:List MemPlace}
  (hok:Value.okWide aA W r b0 39 v) (h:DataW.Trod enc aA W base spare held 39 v d p):∃m:An,v=.agg (Ae m)∧BB m:=by
 have c53:aA.cellsOf 39=53:=by kernel_rfl
 simp only[Value.okWide,Tryz.underlying39] at hok;obtain⟨cs,rfl,hsz,_⟩:=hok;rw[c53] at hsz;obtain⟨fuel,hf⟩:=h;simp only[Value.cells] at hf;obtain⟨m,hr,hm⟩:=Aik (by simpa using hsz) hf;refine⟨m,?_,hm⟩;congr 1;exact Array.ext' hr
end
section
open Go.RowKit
def Ix(inc us:Int)(lv:Bool)(fl tp n1 n2 n3 wt lo:Int):Array Value:=#[.bool true,.int .i64 inc,.int .i64 us,.bool lv,.int .i64 fl,.int .i64 tp,.int .i64 n1,.int .i64 n2,.int .i64 n3,.int .i64 wt,.int .i64 lo]
def VZ:Array Value:=#[.bool false,.int .i64 0,.int .i64 0,.bool false,.int .i64 0,.int .i64 0,.int .i64 0,.int .i64 0,.int .i64 0,.int .i64 0,.int .i64 0]
def Are:Ag:=⟨59,11⟩
theorem Alg:Are.Ok:=⟨⟨_,aL,rfl⟩,by kernel_rfl⟩
theorem Acd(inc us:Int)(lv:Bool)(fl tp n1 n2 n3 wt lo:Int)(W:World):(Instr.build 59 #[(0,.bool true),(1,.int .i64 inc),(2,.int .i64 us),(3,.bool lv),(4,.int .i64 fl),(5,.int .i64 tp),(6,.int .i64 n1),(7,.int .i64 n2),(8,.int .i64 n3),(9,.int .i64 wt),(10,.int .i64 lo)]).run aA W=.ok (.agg (Ix inc us lv fl tp n1 n2 n3 wt lo)) W:=by
 unfold Ix;kernel_rfl
def KD(n:Af Aq)(now:Int):Array Value:=Ix n.hold.life n.hold.use (EC n now) n.hold.floor n.hold.top ((Ib n.tab 1).length:Nat) ((Ib n.tab 2).length:Nat) ((Ib n.tab 3).length:Nat) (n.wait.l.length:Nat) n.load
theorem Agi(w:World)(g p:Nat)(cs:Array Value)(hp:p≠g)(k:Nat):(w.setRow p cs).cell? ⟨g,k,none⟩=w.cell? ⟨g,k,none⟩:=by
 have h:=setRow_other w p g cs (fun e=>hp e.symm);simp only[World.cell?,h]
theorem Wv(B:Nat)(w:World)(g gt gh gw:Nat)(R:Rm)(n:Af Aq)(r:D0)(h:Cb B w g gt gh gw R n r)(hh:Gl n.hold)(hw:Ga n.wait)(now:Int):
  Calls aA 22 #[.pointer (some ⟨g,0,none⟩),.int .i64 now] w fun e w'=>e=.returned (.agg (KD n now))∧Below w.heap.size w w':=by
 obtain⟨w0,hw0⟩:=eX (w.alloc (.cells VZ 59));have B0:Below w.heap.size w w0:=by rw[hw0];exact(Below.refl _ _).alloc (aO _) _
 have Zs:w0.heap.size=w.heap.size+1:=by rw[hw0,Bf]
 have Z0:w0.heap[w.heap.size]?=some (.cells VZ 59 (0,0)):=by rw[hw0];exact Ab _ _ _ rfl
 have h0:=h.below B0;have A0d:Hid (Below w0.heap.size w0 (aD w0)):=(Below.refl _ _).drew;have CI:Hid (∀W,Below w0.heap.size w0 W→Calls aA 57 #[.pointer (some ⟨gh,0,none⟩)] W fun e w'=>e=.returned (.int .i64 n.hold.life)∧w'=W):=fun W hW=>(FJ W gh n.hold (h0.below hW).hold).1;have CF:Hid (∀W,Below w0.heap.size w0 W→Calls aA 60 #[.pointer (some ⟨gh,0,none⟩)] W fun e w'=>e=.returned (.int .i64 n.hold.floor)∧w'=W):=fun W hW=>(FJ W gh n.hold (h0.below hW).hold).2.1;have CT:Hid (∀W,Below w0.heap.size w0 W→Calls aA 61 #[.pointer (some ⟨gh,0,none⟩)] W fun e w'=>e=.returned (.int .i64 n.hold.top)∧w'=W):=fun W hW=>(FJ W gh n.hold (h0.below hW).hold).2.2;have CU:Hid (∀W,Below w0.heap.size w0 W→Calls aA 58 #[.pointer (some ⟨gh,0,none⟩)] W fun e w'=>e=.returned (.int .i64 n.hold.use)∧w'=W):=fun W hW=>Jc W gh n.hold (h0.below hW).hold;have CM:Hid (∀W,Below w0.heap.size w0 W→Calls aA 59 #[.pointer (some ⟨g,0,none⟩),.int .i64 now] W fun e w'=>e=.returned (.bool (EC n now))∧Below W.heap.size W w'):=fun W hW=>Nv B W g gt gh gw R n r (h0.below hW) hh now
 have CN:Hid (∀W k,Below w0.heap.size w0 W→Calls aA 62 #[.pointer (some ⟨gt,0,none⟩),.int .i64 k] W fun e w'=>e=.returned (.int .i64 ((Ib n.tab k).length:Nat))∧w'=W):=fun W k hW=>Age B W gt R n.tab r.v1 r.v2 r.v3 (h0.below hW).tab k
 have CL:Hid (∀W,Below w0.heap.size w0 W→Calls aA 63 #[.pointer (some ⟨gw,0,none⟩)] W fun e w'=>(∃o c,e=.returned (.slice o n.wait.l.length c))∧Below W.heap.size W w'):=fun W hW=>
  (U8 B W gw n.wait r.vw (h0.below hW).wait hw).mono fun e w' q=>by
   obtain⟨⟨u,rfl,hu⟩,hb⟩:=q;obtain⟨o,c,rfl,_⟩:=hu.slice;exact⟨⟨o,c,rfl⟩,hb⟩
 have HSx:Hid (∀W,Below w0.heap.size w0 W→DN g gt gh gw n.num n.lease n.beat (fun W=>W.cell? ⟨g,3,none⟩=some (.int .i64 n.load)) W):=fun W hW=>⟨⟨W,⟨n,r,(h0.below hW).blk,rfl,rfl,rfl⟩,(h0.below hW).f.c3⟩,rfl⟩
 have HSs:Hid (∀W cs,Below w0.heap.size w0 W→DN g gt gh gw n.num n.lease n.beat (fun W=>W.cell? ⟨g,3,none⟩=some (.int .i64 n.load)) (W.setRow w.heap.size cs)):=fun W cs hW=>by
  have hgl:=(h.foot_in g ⟨0,by decide,rfl⟩).2;exact⟨⟨_,⟨n,r,(setRow_other _ _ _ _ (by omega)).trans (h0.below hW).blk,rfl,rfl,rfl⟩,(Agi W g w.heap.size cs (by omega) 3).trans (h0.below hW).f.c3⟩,rfl⟩
 have HZ:Hid (∀W,Below w0.heap.size w0 W→W.heap[w.heap.size]?=some (.cells VZ 59 (0,0))):=fun W hW=>(hW.block _ (by omega)).trans Z0;have HBW:Hid (∀W cs,Below w0.heap.size w0 W→Below w.heap.size w (W.setRow w.heap.size cs)):=fun W cs hW=>Aj (B0.trans (hW.mono B0.size)) (aO _) _;unfold KD;obtain⟨inc,hinc⟩:=eX n.hold.life;obtain⟨us,hus⟩:=eX n.hold.use;obtain⟨fl,hfl⟩:=eX n.hold.floor;obtain⟨tp,htp⟩:=eX n.hold.top;obtain⟨lv,hlv⟩:=eX (EC n now);have C1:Hid _:=fun W hW=>CN.out W 1 hW;have C2:Hid _:=fun W hW=>CN.out W 2 hW;have C3:Hid _:=fun W hW=>CN.out W 3 hW;obtain⟨n1,hn1⟩:∃n1:Int,n1=((Ib n.tab 1).length:Nat):=⟨_,rfl⟩;obtain⟨n2,hn2⟩:∃n2:Int,n2=((Ib n.tab 2).length:Nat):=⟨_,rfl⟩;obtain⟨n3,hn3⟩:∃n3:Int,n3=((Ib n.tab 3).length:Nat):=⟨_,rfl⟩;obtain⟨lw,hlw⟩:=eX n.wait.l.length;obtain⟨lo,hlo⟩:=eX n.load;obtain⟨nu,hnu⟩:=eX n.num;obtain⟨le,hle⟩:=eX n.lease;obtain⟨be,hbe⟩:=eX n.beat;rw[←hinc] at CI ⊢;rw[←hus] at CU ⊢;rw[←hfl] at CF ⊢;rw[←htp] at CT ⊢;rw[←hlv] at CM ⊢;rw[←hn1] at C1 ⊢;rw[←hn2] at C2 ⊢;rw[←hn3] at C3 ⊢;rw[←hlw] at CL ⊢;rw[←hlo] at HSx HSs ⊢;rw[←hnu, ←hle, ←hbe] at HSx HSs
 have HS0:Hid (DN g gt gh gw nu le be (fun W=>W.cell? ⟨g,3,none⟩=some (.int .i64 lo)) (aD w0)):=HSx.out _ A0d.out;have hw0':w.alloc (.cells #[.bool false,.int .i64 0,.int .i64 0,.bool false,.int .i64 0,.int .i64 0,.int .i64 0,.int .i64 0,.int .i64 0,.int .i64 0,.int .i64 0] 59)=w0:=hw0.symm;clear hinc hus hfl htp hlv hn1 hn2 hn3 hlw hlo hnu hle hbe CN h0 h hh hw hw0 B0 Zs Z0;go_enter Tryz.func22,Tryz.ntmps22;go_wp2_with fail;have e4:∀z:Fu g gt gh gw nu le be (fun W=>W.cell? ⟨g,3,none⟩=some (.int .i64 lo)),z.world.cell? ⟨g,4,none⟩=some (.pointer (some ⟨gt,0,none⟩)):=fun z=>z.c4;have e5:∀z:Fu g gt gh gw nu le be (fun W=>W.cell? ⟨g,3,none⟩=some (.int .i64 lo)),z.world.cell? ⟨g,5,none⟩=some (.pointer (some ⟨gh,0,none⟩)):=fun z=>z.c5;have e6:∀z:Fu g gt gh gw nu le be (fun W=>W.cell? ⟨g,3,none⟩=some (.int .i64 lo)),z.world.cell? ⟨g,6,none⟩=some (.pointer (some ⟨gw,0,none⟩)):=fun z=>z.c6;have ne9:Nonempty (Fu g gt gh gw nu le be (fun W=>W.cell? ⟨g,3,none⟩=some (.int .i64 lo))):=by obtain⟨z,_⟩:=HS0.out;exact⟨z⟩
 have e3:∀z:Fu g gt gh gw nu le be (fun W=>W.cell? ⟨g,3,none⟩=some (.int .i64 lo)),z.world.cell? ⟨g,3,none⟩=some (.int .i64 lo):=fun z=>z.x;refine Ey ?_;refine B8 (DN g gt gh gw nu le be (fun W=>W.cell? ⟨g,3,none⟩=some (.int .i64 lo))) 50 rfl (by kernel_rfl) ?_;refine rR [0,5,10,11,13,18,23,28,33,38,44,1,6,14,19,24,29,34,39,45,2,7,15,20,25,30,35,40,46,3,8,16,21,26,31,36,41,47] 38 12 HS0.out ?_;simp only[pk]
 iterate 38 (go_big_quiet_step (fail))
 refine wpQuiet_nil ?_;refine rO 4 ?_;refine Bm rfl rfl 57 #[.tmp 11] (by intro b w;have hf:=Tryz.func57;simp[go_sem]) #[.pointer (some ⟨gh,0,none⟩)] rfl (fun v w'=>v=.int .i64 inc∧w'=(aD w0)) ((CI.out (aD w0) A0d.out).mono fun e w' h=>⟨_,h.1,rfl,h.2⟩) (some 12) rfl ?_;rintro v wq ⟨rfl,hq⟩;have hq:=hq.symm;subst hq;refine⟨HS0.out,?_⟩;simp only[pU];refine rO 9 ?_;refine Bm rfl rfl 58 #[.tmp 16] (by intro b w;have hf:=Tryz.func58;simp[go_sem]) #[.pointer (some ⟨gh,0,none⟩)] rfl (fun v w'=>v=.int .i64 us∧w'=(aD w0)) ((CU.out (aD w0) A0d.out).mono fun e w' h=>⟨_,h.1,rfl,h.2⟩) (some 17) rfl ?_;rintro v wq ⟨rfl,hq⟩;have hq:=hq.symm;subst hq;refine⟨HS0.out,?_⟩;simp only[pU];refine rO 12 ?_;refine Bm rfl rfl 59 #[.tmp 18,.tmp 19] (by intro b w;have hf:=Tryz.func59;simp[go_sem]) #[.pointer (some ⟨g,0,none⟩),.int .i64 now] rfl (fun v w'=>v=.bool lv∧Below ((aD w0)).heap.size ((aD w0)) w') ((CM.out ((aD w0)) A0d.out).mono fun e w' h=>⟨_,h.1,rfl,h.2⟩) (some 20) rfl ?_;rintro v wm ⟨rfl,bm⟩;have AM:Hid _:=A0d.out.trans (bm.mono A0d.out.size)
 have IM:Hid (DN g gt gh gw nu le be (fun W=>W.cell? ⟨g,3,none⟩=some (.int .i64 lo)) wm):=HSx.out wm AM.out;clear bm;refine⟨IM.out,?_⟩;simp only[pU];refine rO 17 ?_;refine Bm rfl rfl 60 #[.tmp 24] (by intro b w;have hf:=Tryz.func60;simp[go_sem]) #[.pointer (some ⟨gh,0,none⟩)] rfl (fun v w'=>v=.int .i64 fl∧w'=wm) ((CF.out wm AM.out).mono fun e w' h=>⟨_,h.1,rfl,h.2⟩) (some 25) rfl ?_;rintro v wq ⟨rfl,hq⟩;have hq:=hq.symm;subst hq;refine⟨IM.out,?_⟩;simp only[pU];refine rO 22 ?_;refine Bm rfl rfl 61 #[.tmp 29] (by intro b w;have hf:=Tryz.func61;simp[go_sem]) #[.pointer (some ⟨gh,0,none⟩)] rfl (fun v w'=>v=.int .i64 tp∧w'=wm) ((CT.out wm AM.out).mono fun e w' h=>⟨_,h.1,rfl,h.2⟩) (some 30) rfl ?_;rintro v wq ⟨rfl,hq⟩;have hq:=hq.symm;subst hq;refine⟨IM.out,?_⟩;simp only[pU];refine rO 27 ?_;refine Bm rfl rfl 62 #[.tmp 34,.const (.int .i64 1)] (by intro b w;have hf:=aN;simp[go_sem]) #[.pointer (some ⟨gt,0,none⟩),.int .i64 1] rfl (fun v w'=>v=.int .i64 n1∧w'=wm) ((C1.out wm AM.out).mono fun e w' h=>⟨_,h.1,rfl,h.2⟩) (some 35) rfl ?_;rintro v wq ⟨rfl,hq⟩
 have hq:=hq.symm;subst hq;refine⟨IM.out,?_⟩;simp only[pU];refine rO 32 ?_;refine Bm rfl rfl 62 #[.tmp 39,.const (.int .i64 2)] (by intro b w;have hf:=aN;simp[go_sem]) #[.pointer (some ⟨gt,0,none⟩),.int .i64 2] rfl (fun v w'=>v=.int .i64 n2∧w'=wm) ((C2.out wm AM.out).mono fun e w' h=>⟨_,h.1,rfl,h.2⟩) (some 40) rfl ?_;rintro v wq ⟨rfl,hq⟩;have hq:=hq.symm;subst hq;refine⟨IM.out,?_⟩;simp only[pU];refine rO 37 ?_;refine Bm rfl rfl 62 #[.tmp 44,.const (.int .i64 3)] (by intro b w;have hf:=aN;simp[go_sem]) #[.pointer (some ⟨gt,0,none⟩),.int .i64 3] rfl (fun v w'=>v=.int .i64 n3∧w'=wm) ((C3.out wm AM.out).mono fun e w' h=>⟨_,h.1,rfl,h.2⟩) (some 45) rfl ?_;rintro v wq ⟨rfl,hq⟩;have hq:=hq.symm;subst hq;refine⟨IM.out,?_⟩;simp only[pU];refine rO 42 ?_;refine Bm rfl rfl 63 #[.tmp 49] (by intro b w;have hf:=Tryz.func63;simp[go_sem]) #[.pointer (some ⟨gw,0,none⟩)] rfl (fun v w'=>(∃o c,v=.slice o lw c)∧Below (wm).heap.size (wm) w') ((CL.out (wm) AM.out).mono fun e w' h=>by obtain⟨⟨o,c,rfl⟩,h2⟩:=h;exact⟨_,rfl,⟨o,c,rfl⟩,h2⟩) (some 50) rfl ?_
 rintro v wl ⟨⟨ol,cl,rfl⟩,bl⟩;have AL:Hid _:=AM.out.trans (bl.mono AM.out.size);have IL:Hid (DN g gt gh gw nu le be (fun W=>W.cell? ⟨g,3,none⟩=some (.int .i64 lo)) wl):=HSx.out wl AL.out;have ZL:Hid (wl.heap[w.heap.size]?=some (.cells VZ 59 (0,0))):=HZ.out wl AL.out;clear bl;refine⟨IL.out,?_⟩;simp only[pU];refine rO 43 ?_;refine UD rfl rfl (.int .i64 (lw:Int)) (by simp[go_sem,execOp,resolve,invoke,builtin,Act.eval]) (some 51) rfl ?_;refine⟨IL.out,?_⟩;simp only[pU];refine rO 48 ?_;refine Kz rfl rfl _ _ rfl #[(0,.bool true),(1,.int .i64 inc),(2,.int .i64 us),(3,.bool lv),(4,.int .i64 fl),(5,.int .i64 tp),(6,.int .i64 n1),(7,.int .i64 n2),(8,.int .i64 n3),(9,.int .i64 (lw:Int)),(10,.int .i64 lo)] rfl _ (Acd inc us lv fl tp n1 n2 n3 lw lo _) (some 56) rfl ?_;refine⟨IL.out,?_⟩;simp only[pU];refine rO 49 ?_;refine Iu Alg rfl rfl _ _ rfl w.heap.size (Ix inc us lv fl tp n1 n2 n3 lw lo) ⟨rfl,by simp[Ix,Value.oneCell']⟩ rfl rfl _ ZL.out rfl none rfl ?_
 have IS:Hid (DN g gt gh gw nu le be (fun W=>W.cell? ⟨g,3,none⟩=some (.int .i64 lo)) (wl.setRow w.heap.size (Ix inc us lv fl tp n1 n2 n3 lw lo))):=HSs.out wl _ AL.out;refine⟨IS.out,?_⟩;simp only[Act.put];refine rD ?_;refine⟨rfl,?_⟩;go_wp2_with fail;refine Fa Alg rfl rfl w.heap.size rfl (Ix inc us lv fl tp n1 n2 n3 lw lo) rfl (setRow_heap _ _ _ _ _ _ ZL.out) ?_;exact⟨rfl,HBW.out wl _ AL.out⟩
theorem ET.row{a b:World}(h:ET a b){p:Nat}{cs:Array Value}{t:TypeId}{fr:Nat×Nat}(hp:a.heap[p]?=some (.cells cs t fr))(ht:t∉Zn):b.heap[p]?=some (.cells cs t fr):=
 h.heap hp fun⟨t',h1,cs',fr',e⟩=>by
  rw[hp] at e
  simp only[Option.some.injEq,Obj.cells.injEq] at e
  exact ht (e.2.1▸h1)
section
variable {w wr w':World} {g gt gh gw:Nat} {R:Rm} {n n':Af Aq}
end
theorem Aje{R:Rm}{N:Nat}{n:Af Aq}(h:Az N R n):Az N R {n with log:=[]}:=
 ⟨h.tab,h.room,h.act,h.hold,h.wait,h.head,h.load,h.last,by have:=h.log;show 0+n.tab.c.length≤N;omega,h.post,h.cache⟩
theorem in_noPost{R:Rm}{N:Nat}{n:Af Aq}(h:Az N R n):Az N R {n with post:=[]}:=
 ⟨h.tab,h.room,h.act,h.hold,h.wait,h.head,h.load,h.last,h.log,Nat.zero_le _,h.cache⟩
theorem Agf(w:World)(data:List UInt8)(hl:data.length≤140737488355328):∃cap w1,(convert 9 70 (.string ⟨data.toArray⟩)).run aA w=.ok (.slice (some ⟨w.heap.size,0,none⟩) data.length cap) w1∧Below w.heap.size w w1∧Br w1 (.slice (some ⟨w.heap.size,0,none⟩) data.length cap) data:=by
 obtain⟨cap,hcap⟩:=eX (grownCap w data.length 0 5);have hc1:data.length≤cap:=by rw[hcap];exact grownCap_ge _ _ _ _
 have hc2:cap≤maxLen:=by rw[hcap];exact grownCap_le_maxLen _ _ _ _ (by unfold maxLen;omega)
 obtain⟨w1,hw1⟩:=eX (w.drew.alloc (.cells (bytesRow ⟨data.toArray⟩ cap) 5 ((bytesRow ⟨data.toArray⟩ cap).size,(bytesRow ⟨data.toArray⟩ cap).size+1)));refine⟨cap,w1,?_,by rw[hw1];exact((Below.refl _ _).drew).alloc (aO _) _,?_⟩
 ·rw[hw1,hcap];exact run_bytes_of_string w 9 70 5 ⟨data.toArray⟩ Tryz.underlying9 Tryz.underlying70 Tryz.underlying5
 ·refine⟨_,cap,rfl,hc1,hc2,fun e=>(by cases e),fun i hi=>⟨w.heap.size,0,_,_,_,rfl,by rw[hw1];exact Ab _ _ _ rfl,?_⟩⟩;rw[Nat.zero_add,bytesRow_at _ _ _ (by simpa using hi)];rfl
theorem msg_tyD:39∉Zn:=by decide
section
variable {T:Type} {O:Qz T}
theorem send_load(n:Af T)(t:Int)(m:An):(Cx n t m).load=n.load:=by unfold Cx;split <;> rfl
theorem redirect_load(n:Af T)(q i:Int)(h:List Int)(k:Int)(s:Ai):(Da n q i h k s).load=n.load:=by
 unfold Da;split
 ·rfl
 ·exact send_load n _ _
theorem inject_load(n:Af T)(ix:Int)(h:List Int)(now:Int):(Cl O n ix h now).load=n.load:=by
 unfold Cl;split
 ·split
  ·split
   ·split;split
    ·exact redirect_load _ _ _ _ _ _
    ·rfl
   ·rfl
  ·rfl
 ·rfl
theorem tidy_load(n:Af T)(h:Bb):(Cs O n h).load=n.load:=by
 unfold Cs;dsimp only;split <;> split <;> rfl
theorem lay_load(n:Af T)(m:An):(JP O n m).load=n.load:=by
 unfold JP;split;split <;> rfl
theorem item_load(n:Af T)(m:An):(Ea O n m).1.load=n.load:=by
 unfold Ea;split;dsimp only;split
 ·exact tidy_load _ _
 ·refine(send_load _ _ _).trans ?_;split
  ·exact(lay_load _ _).trans (tidy_load _ _)
  ·exact tidy_load _ _
theorem lead_load(n:Af T)(m:An):(IC O n m).load=n.load:=by
 unfold IC;dsimp only;split
 ·exact(send_load _ _ _).trans (tidy_load _ _)
 ·exact tidy_load _ _
theorem learn_load(n:Af T)(m:An)(now:Int):(JW O n m now).load=n.load:=by
 unfold JW;split;dsimp only;split <;> rfl
theorem prep_load(n:Af T)(m:An)(now:Int):(EB O n m now).load=n.load:=by
 unfold EB;split
 ·exact learn_load n m now
 ·rfl
theorem install_load(n:Af T)(m:An)(now:Int):(FL O n m now).1.load=n.load:=by
 unfold FL;split
 ·split
  ·exact prep_load n m now
  ·exact prep_load n m now
 ·rfl
theorem answer_load(n:Af T)(src:Int)(m:An):(DT O n src m).1.load≤n.load+1:=by
 unfold DT;split
 ·split
  ·refine aG (aH (send_load _ _ _)) ?_;show(if n.load<281474976710655 then n.load+1 else n.load)≤_;split <;> omega
  ·show n.load≤_;omega
 ·show n.load≤_;omega
theorem says_load(n:Af T)(src:Int)(d:List UInt8)(now:Int):(IA O n src d now).1.load≤n.load+1:=by
 have h0:n.load≤n.load+1:=by omega
 unfold IA;split
 ·exact h0
 ·dsimp only;split
  ·split
   ·exact aG (aH (item_load _ _)) h0
   ·exact h0
  ·split
   ·split
    ·exact aG (aH (lead_load _ _)) h0
    ·exact h0
   ·split
    ·split
     ·exact answer_load _ _ _
     ·exact h0
    ·split
     ·split
      ·exact aG (aH (install_load _ _ _)) h0
      ·exact h0
     ·exact h0
theorem take_load(n:Af T)(src:Int)(d:List UInt8)(now:Int):(DC O n src d now).load≤n.load+1:=by
 have h:=says_load (O:=O) n src d now;unfold DC;split
 ·rename_i a e;rw[e] at h;exact h
 ·rename_i a e;rw[e] at h;exact h
theorem ask_load(n:Af T)(now:Int)(x:AN):(DJ O n now x).load=n.load:=by
 unfold DJ;split
 ·split
  ·exact redirect_load _ _ _ _ _ _
  ·rfl
 ·rfl
theorem fold_load{α:Type}{f:Af T→α→Af T}(hf:∀n x,(f n x).load=n.load):∀(L:List α) (n:Af T),(L.foldl f n).load=n.load
 | [],_=>rfl
 | x::L,n=>(fold_load hf L (f n x)).trans (hf n x)
theorem tick_load(n:Af T)(now:Int):(Ct O n now).load=n.load:=by
 have h1:∀m:Af T,(Ep O m now).load=m.load:=fun m=>(fold_load (f:=Il) (fun _ _=>rfl) _ _).trans rfl
 have h2:∀m:Af T,(EI O m now).load=m.load:=fun m=>by
  unfold EI;split
  ·exact(fold_load (fun a x=>ask_load a now x) _ _).trans (h1 m)
  ·exact h1 m
 have h3:(DZ O n now).load=n.load:=(fold_load (f:=ED) (fun _ _=>rfl) _ _).trans (h2 n);unfold Ct;split
 ·exact(send_load _ _ _).trans h3
 ·exact h3
theorem crash_load(n:Af T):(Fr n).load=n.load:=fold_load (f:=fun n (x:AN)=>Eb n x.index 5) (fun _ _=>rfl) _ _
end
theorem do_load(R:Rm)(n:Af Aq)(x:CJ):(Fq R n x).load≤n.load+1:=by
 have h0:n.load≤n.load+1:=by omega
 unfold Fq;split
 ·exact aG (aH (inject_load _ _ _ _)) h0
 ·split
  ·exact take_load _ _ _ _
  ·split
   ·exact aG (aH (tick_load _ _)) h0
   ·split
    ·exact aG (aH (crash_load _)) h0
    ·exact h0
theorem ans_cases{R:Rm}{N:Nat}{n:Af Aq}(hi:Az N R n)(src inc ep seq now:Int)(hd:List Int)(hH:AK hd):
  DC (Al R) n src (FM (Cz 6 inc ep 0 0 0 0 0 0 0 0 0 seq 0 (Z,Z) hd)).1 now=Cc n ⟨13,0,0,0,0,0,0,0,Z,(Z,Z)⟩∨
  (src≠0∧∃(c:List Int×List Int) (a:Int),GK c∧has c.1 c.2 hd=true∧BB (Cz 7 inc ep 0 0 0 0 a 0 0 0 0 seq 0 c Z)∧Ca (Cz 7 inc ep 0 0 0 0 a 0 0 0 0 seq 0 c Z)=true∧
   DC (Al R) n src (FM (Cz 6 inc ep 0 0 0 0 0 0 0 0 0 seq 0 (Z,Z) hd)).1 now={n with load:=if n.load<281474976710655 then n.load+1 else n.load,post:=n.post++[(src,Fb (Cz 7 inc ep 0 0 0 0 a 0 0 0 0 seq 0 c Z))]}):=by
 obtain⟨m,hm⟩:=eX (Cz 6 inc ep 0 0 0 0 0 0 0 0 0 seq 0 (Z,Z) hd);have hok:BB m:=by rw[hm];exact Om _ _ _ _ _ _ _ _ _ _ _ _ _ _ ⟨BO,BO⟩ hH
 rw[←hm];unfold FM;by_cases hr:Ca m=true
 case neg=>
  rw[if_neg hr];exact .inl (UT R n src [] now (by rfl))
 rw[if_pos hr];show DC (Al R) n src (Fb m) now=_∨src≠0∧∃(c:List Int×List Int) (a:Int),GK c∧_∧_∧_∧DC (Al R) n src (Fb m) now=_;rw[US R n src (Fb m) now (dec_enc hok hr)];have hk:m.kind=6:=by rw[hm];rfl
 have e1:Ad m 1=ep:=by rw[hm];rfl
 have e0:Ad m 0=inc:=by rw[hm];rfl
 have e11:Ad m 11=seq:=by rw[hm];rfl
 have eh:m.head=hd:=by rw[hm];rfl
 have hb:Cd R n src m now=if src≠0 then DT (Al R) n src m else (n,false):=by
  unfold Cd;rw[hk];rfl
 rw[hb];by_cases hs:src=0
 ·left;have hn:¬(src≠0):=fun e=>e hs;rw[if_neg hn];rfl
 rw[if_pos hs,Ru R n hi.hold.ok src m,e0,e1,e11,eh];by_cases hf:Hg n.hold ep=true
 case neg=>
  left;rw[if_neg hf];rfl
 rw[if_pos hf];unfold NM
 cases hab:(Al R).about n.tab ep hd with
 | none=>exact .inl rfl
 | some q=>
  obtain⟨c,a⟩:=q;obtain⟨x1,x0,s,hs1,_,x3⟩:=Acw hab fun s hs=>(hi.tab.inv.a s hs).2.2.2.2.2.2.2;have hn:∀j,Ch (Ad m j):=(Lv (dec_enc hok hr)).2.1;have hm7:BB (Cz 7 inc ep 0 0 0 0 a 0 0 0 0 seq 0 c Z):=Om _ _ _ _ _ _ _ _ _ _ _ _ _ _ ⟨x1.2.1,x1.2.2⟩ BO;have hr7:Ca (Cz 7 inc ep 0 0 0 0 a 0 0 0 0 seq 0 c Z)=true:=WF (by rw[←e0];exact hn 0) (by rw[←e1];exact hn 1) (by rw[←x3];exact hi.act s hs1) (by rw[←e11];exact hn 11) x1.1;refine .inr ⟨hs,c,a,⟨x1.2.1,x1.2.2⟩,x0,hm7,hr7,?_⟩;show Cx _ src _=_;unfold Cx;rw[if_pos hr7]
def OwnB(w:World)(B:Nat)(wr:World)(g gt gh gw:Nat)(R:Rm)(n:Af Aq):Prop:=∃r,Cb B wr g gt gh gw R n r∧w.heap.size≤B∧Below w.heap.size w wr
section
variable {w w1 wr w':World} {B:Nat} {g gt gh gw:Nat} {R:Rm} {n n':Af Aq}
theorem DA.toB(h:DA w1 wr g gt gh gw R n)(hb:Below w.heap.size w w1):OwnB w w1.heap.size wr g gt gh gw R n:=by
 obtain⟨r,h1,h2⟩:=h;exact⟨r,h1,hb.size,hb.trans (h2.mono hb.size)⟩
theorem OwnB.bel(h:OwnB w B wr g gt gh gw R n):Below w.heap.size w wr:=by obtain⟨_,_,_,h⟩:=h;exact h
theorem OwnB.grow(h:OwnB w B wr g gt gh gw R n)(hb:Below wr.heap.size wr w'):OwnB w B w' g gt gh gw R n:=by
 obtain⟨r,h1,h2,h3⟩:=h;exact⟨r,h1.below hb,h2,h3.trans (hb.mono h3.size)⟩
theorem OwnB.call(h:OwnB w B wr g gt gh gw R n){f:FuncId}{xs:Array Value}{P:Ending→Prop}(hc:∀r,Cb B wr g gt gh gw R n r→Calls aA f xs wr fun e w'=>P e∧Dl B wr w' g gt gh gw R n' r):Calls aA f xs wr fun e w'=>P e∧OwnB w B w' g gt gh gw R n'∧ET wr w':=by
 obtain⟨r,h1,h2,h3⟩:=h;refine(hc r h1).mono fun e w' q=>⟨q.1,?_,h1.keptD q.2⟩;have hb:=Dl.below h1 q.2;obtain⟨u,k1,_⟩:=q.2;exact⟨u,k1,h2,h3.trans (hb.mono h2)⟩
theorem OwnB.set(h:OwnB w B wr g gt gh gw R n){p:Nat}(hp:w.heap.size≤p)(hpB:p<B)(hk:As (Cq p) wr w'):OwnB w B w' g gt gh gw R n:=by
 obtain⟨r,h1,h2,h3⟩:=h;refine⟨r,h1.kept hk fun k e x=> ?_,h2,h3.trans (hk.below (fun k e=> ?_) h3.size)⟩
 ·have:=(h1.foot_in k e).1;unfold Cq at x;omega
 ·unfold Cq at e;omega
theorem OwnB.take(h:OwnB w B wr g gt gh gw R n){M:Nat}(hi:Az M R n)(hM:M≤899000)(src:Int)(data:List UInt8)(hl:data.length≤140737488355328)(now:Int):
  Calls aA 32 #[.pointer (some ⟨g,0,none⟩),.int .i64 src,.string ⟨data.toArray⟩,.int .i64 now] wr fun e w'=>e=.returned (.tuple #[])∧OwnB w B w' g gt gh gw R (DC (Al R) n src data now)∧ET wr w':=
 h.call (P:=fun e=>e=.returned (.tuple #[])) fun r hr=>Aac _ _ g gt gh gw R n r hr hi (by omega) src data hl now
theorem OwnB.notes(h:OwnB w B wr g gt gh gw R n):
  Calls aA 19 #[.pointer (some ⟨g,0,none⟩)] wr fun e w'=>(∃v,e=.returned v∧BJ B w' v n.log)∧OwnB w B w' g gt gh gw R {n with log:=[]}∧ET wr w'∧∀num v C,Fc B wr num v C→Fc B w' num v C:=by
 obtain⟨r,h1,h2,h3⟩:=h;refine(YH _ _ g gt gh gw R n r h1).mono ?_;rintro e w' ⟨rfl,k1,k2,k3⟩;refine⟨⟨_,rfl,k1⟩,⟨_,k2,h2,h3.trans (k3.below (fun k e=>by obtain rfl:k=g:=e;exact Nat.le_trans h2 h1.hB) h3.size)⟩,k3.mono fun k _ e=>h1.ndTy k ⟨0,by decide,e⟩,fun num v C hp=>hp.kept k3 fun k e x=> ?_⟩;obtain rfl:k=g:=x;have t1:It wr 91 k:=⟨_,_,h1.blk⟩;have t2:It wr 76 k:=It.own hp e;exact absurd (t1.one t2) (by decide)
theorem OwnB.letters(h:OwnB w B wr g gt gh gw R n):
  Calls aA 21 #[.pointer (some ⟨g,0,none⟩)] wr fun e w'=>(∃v,e=.returned v∧Fc B w' n.num v n.post)∧OwnB w B w' g gt gh gw R {n with post:=[]}∧ET wr w':=by
 obtain⟨r,h1,h2,h3⟩:=h;refine(letters20_any _ _ g gt gh gw R n r h1).mono ?_;rintro e w' ⟨rfl,k1,k2,k3⟩;exact⟨⟨_,rfl,k1⟩,⟨_,k2,h2,h3.trans (k3.below (fun k e=>by obtain rfl:k=g:=e;exact Nat.le_trans h2 h1.hB) h3.size)⟩,k3.mono fun k _ e=>h1.ndTy k ⟨0,by decide,e⟩⟩
theorem OwnB.status(h:OwnB w B wr g gt gh gw R n){M:Nat}(hi:Az M R n)(now:Int):
  Calls aA 22 #[.pointer (some ⟨g,0,none⟩),.int .i64 now] wr fun e w'=>e=.returned (.agg (KD n now))∧Below wr.heap.size wr w':=by
 obtain⟨r,h1,_,_⟩:=h;exact Wv _ _ g gt gh gw R n r h1 hi.hold hi.wait now
end
theorem post_row{B:Nat}{w:World}{num:Int}{v:Value}{x:Int×List UInt8}(h:Fc B w num v [x]):∃g cap cur t fr,v=.slice (some ⟨g,0,none⟩) 1 cap∧1≤cap∧cap≤maxLen∧w.heap[g]?=some (.cells cur t fr)∧∀j,j<3→cur[j]?=(KV num x)[j]?:=by
 have hs:=h.sl;obtain⟨_,⟨rfl,e0⟩ | ⟨g,cap,cur',rfl,_⟩⟩:=h
 ·exact absurd e0 (by simp)
 ·obtain⟨o,cap2,e,h1,h2,h3⟩:=hs;simp only[Value.slice.injEq] at e;obtain⟨rfl,_,rfl⟩:=e;obtain⟨g1,off,cur,t,fr,e1,hg,hc⟩:=h3 0 (by simp);simp only[Option.some.injEq,Addr.mk.injEq] at e1;obtain⟨rfl,rfl,_⟩:=e1;exact⟨g,cap,cur,t,fr,rfl,h1,h2,hg,fun j hj=>by have:=hc j hj;simpa using this⟩
theorem sta_tyD:59∉Zn:=by decide
theorem msA_kind(m:An)(k:Int):(Ae m).setIfInBounds 0 (.int .i64 k)=Ae {m with kind:=k}:=by
 unfold Ae;rw[List.setIfInBounds_toArray];rfl
theorem hasHead_any(V M H:List Int)(hV:AK V)(hM:AK M)(hH:AK H)(w:World):
  Calls aA 35 #[.agg (cv V M),.agg (hv H)] w fun e w'=>e=.returned (.tuple #[.agg (cv V M),.bool (has V M H)])∧Below w.heap.size w w':=by
 have hVl:=hV.1;have hMl:=hM.1;have hHl:=hH.1;have HV:Hid _:=hV;have HM:Hid _:=hM;have HH:Hid _:=hH;clear hV hM hH;go_enter Tryz.func35,Tryz.ntmps35;go_wp2_with fail;go_loopw [6] (fun i wr=> ∃k:Nat,k≤13∧i=.int .i64 k∧(∀j,j<k→bits .and .u8 (bits .xor .u8 (V.getD j 0) (H.getD j 0)) (M.getD j 0)=0)∧wr.heap[w.heap.size]?=some (.cells (cv V M) 37 (0,0))∧wr.heap[w.heap.size+1]?=some (.cells (hv H) 35 (0,0))∧wr.heap[w.heap.size+1+1]?=some (.cells AE 37 (0,0))∧Below w.heap.size w wr) (fun i _=>13-(intOf i).toNat)
 case atStart=>exact⟨0,Nat.zero_le _,rfl,fun j hj=>by omega,Ah _ _ _ _ (Ah _ _ _ _ (Ab _ _ _ rfl)),Ah _ _ _ _ (Ab _ _ _ (by simp)),Ab _ _ _ (by simp),(((Below.refl _ _).alloc (aO _) _).alloc (by simp) _).alloc (by simp;omega) _⟩
 case round=>
  obtain⟨k,hk,rfl,hUj,g0,g1,g2,hb⟩:=hrel;by_cases hlt:k<13
  ·obtain⟨x,hx,hxe⟩:∃x,(cv V M)[k]?=some (.int .u8 x)∧x=V.getD k 0:=⟨_,Lb V M hVl k hlt,rfl⟩;obtain⟨y,hy,hye⟩:∃y,(cv V M)[13+k]?=some (.int .u8 y)∧y=M.getD k 0:=⟨_,G8 V M hVl hMl k hlt,rfl⟩;obtain⟨z,hz,hze⟩:∃z,(hv H)[k]?=some (.int .u8 z)∧z=H.getD k 0:=⟨_,K5 H hHl k hlt,rfl⟩;have hx0:=Fn g0 hx;have hy0:=Fn g0 hy;have hz0:=Fn g1 hz;have HUJ:Hid _:=hUj;have HX:Hid _:=hxe;have HY:Hid _:=hye;have HZ:Hid _:=hze;have ne1:=Am.ne wr;clear hUj hxe hye hx hy hz hze;by_cases hc:bits .and .u8 (bits .xor .u8 x z) y=0
   ·have HC:Hid _:=hc;have hne:(bits .and .u8 (bits .xor .u8 x z) y !=0)=false:=by simp[hc]
    clear hc;go_wp2_with fail;refine rL ?_
    repeat go_big_quiet_step (fail)
    refine wpQuiet_nil ?_;rintro w' ⟨u,rfl⟩;go_wp2_with fail;go_roundw
    case rel=>
     refine⟨k+1,by omega,by go_num,fun j hj=> ?_,Ap g0 _ ⟨u,rfl⟩,Ap g1 _ ⟨u,rfl⟩,Ap g2 _ ⟨u,rfl⟩,hb.trans (u.below.mono hb.size)⟩;by_cases e:j=k
     ·subst e;rw[←HX.out, ←HY.out, ←HZ.out];exact HC.out
     ·exact HUJ.out j (by omega)
    case measure=>simp[intOf];omega
   ·have HC:Hid _:=hc;have hne:(bits .and .u8 (bits .xor .u8 x z) y !=0)=true:=by simp[hc]
    clear hc;go_wp2_with fail;refine rL ?_
    repeat go_big_quiet_step (fail)
    refine wpQuiet_nil ?_;rintro w' ⟨u,rfl⟩;have k0:=Ap g0 _ ⟨u,rfl⟩;have k2:=Ap g2 _ ⟨u,rfl⟩
    go_wp2_with (first
     | (refine De rfl _ rfl w.heap.size rfl V M k0 hVl hMl ?_)
     | (refine BQ rfl _ _ rfl (w.heap.size+1+1) V M rfl rfl _ k2 rfl hVl hMl _ rfl ?_))
    refine J0 (p:=4) (u:=5) rfl rfl (w.heap.size+1+1) rfl V M hVl hMl (setRow_heap _ _ _ _ _ _ k2) _ rfl ⟨?_,?_⟩
    ·have hn:=HC.out;rw[HX.out,HY.out,HZ.out] at hn;rw[Ane V M H HV.out HM.out HH.out k hlt hn];rfl
    ·exact Aj (hb.trans (u.below.mono hb.size)) (by omega) _
  ·obtain rfl:k=13:=by omega
   have HUJ:Hid _:=hUj;clear hUj
   go_wp2_with (first
    | (refine De rfl _ rfl w.heap.size rfl V M g0 hVl hMl ?_)
    | (refine BQ rfl _ _ rfl (w.heap.size+1+1) V M rfl rfl _ g2 rfl hVl hMl _ rfl ?_))
   refine J0 (p:=4) (u:=5) rfl rfl (w.heap.size+1+1) rfl V M hVl hMl (setRow_heap _ _ _ _ _ _ g2) _ rfl ⟨?_,Aj hb (by omega) _⟩;rw[Anf V M H HV.out HM.out HH.out HUJ.out];rfl
theorem eqS20(n:Af Aq)(now:Int)(w:World):(Op.equalIn 10000 59 (.agg (KD n now)) (.agg (KD n now))).run aA w=.ok true w:=by
 have a3:(isAgg 3).run aA w=.ok false w:=by kernel_rfl
 have a4:(isAgg 4).run aA w=.ok false w:=by kernel_rfl
 rw[run_equalIn_struct w 9999 59 _ _ aL (by kernel_rfl)]
 have key:∀(inc us:Int) (lv:Bool) (fl tp n1 n2 n3 wt lo:Int),(Op.eqFields 9999 (Ix inc us lv fl tp n1 n2 n3 wt lo) (Ix inc us lv fl tp n1 n2 n3 wt lo) (aA.fieldsOf 59).toList).run aA w=.ok ((true==true)&&((inc==inc)&&((us==us)&&((lv==lv)&&((fl==fl)&&((tp==tp)&&((n1==n1)&&((n2==n2)&&((n3==n3)&&((wt==wt)&&((lo==lo)&&true))))))))))) w:=by
  intro inc us lv fl tp n1 n2 n3 wt lo;simp only[Program.fieldsOf,aL];refine Cg w (by decide) (BU w a4 rfl) (BU w a4 rfl) (run_equalIn_bool w _ 4 _ _ aT) ?_;refine Cg w (by decide) (BU w a3 rfl) (BU w a3 rfl) (run_equalIn_int w _ 3 .i64 .i64 _ _ aB) ?_;refine Cg w (by decide) (BU w a3 rfl) (BU w a3 rfl) (run_equalIn_int w _ 3 .i64 .i64 _ _ aB) ?_;refine Cg w (by decide) (BU w a4 rfl) (BU w a4 rfl) (run_equalIn_bool w _ 4 _ _ aT) ?_;refine Cg w (by decide) (BU w a3 rfl) (BU w a3 rfl) (run_equalIn_int w _ 3 .i64 .i64 _ _ aB) ?_;refine Cg w (by decide) (BU w a3 rfl) (BU w a3 rfl) (run_equalIn_int w _ 3 .i64 .i64 _ _ aB) ?_;refine Cg w (by decide) (BU w a3 rfl) (BU w a3 rfl) (run_equalIn_int w _ 3 .i64 .i64 _ _ aB) ?_;refine Cg w (by decide) (BU w a3 rfl) (BU w a3 rfl) (run_equalIn_int w _ 3 .i64 .i64 _ _ aB) ?_;refine Cg w (by decide) (BU w a3 rfl) (BU w a3 rfl) (run_equalIn_int w _ 3 .i64 .i64 _ _ aB) ?_;refine Cg w (by decide) (BU w a3 rfl) (BU w a3 rfl) (run_equalIn_int w _ 3 .i64 .i64 _ _ aB) ?_
  refine Cg w (by decide) (BU w a3 rfl) (BU w a3 rfl) (run_equalIn_int w _ 3 .i64 .i64 _ _ aB) ?_;rfl
 refine(key _ _ _ _ _ _ _ _ _ _).trans ?_;simp only[beq_self_eq_true,Bool.and_true]
theorem egS20(op:BinOp)(x y:Operand)(xs ys:Array Value)(w:World):(eqGuard op 59 x y (.agg xs) (.agg ys)).run aA w=.ok () w:=
 run_eqGuard_agg w op 59 x y xs ys (by kernel_rfl)
end
end Go.Proofs.YtbhkoipcpcoooaaGreat
