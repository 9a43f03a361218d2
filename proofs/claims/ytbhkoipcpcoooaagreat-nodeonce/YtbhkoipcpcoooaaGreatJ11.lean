import Derived.Test.YtbhkoipcpcoooaaGreatJ9
import Derived.Test.YtbhkoipcpcoooaaGreatJ10
namespace Go.Proofs.YtbhkoipcpcoooaaGreat
set_option maxRecDepth 20000
set_option maxHeartbeats 64000000
open Go
open Go.RowKit.Below renaming block → aA, refl → aJ, size → aW, alloc → bH
open _root_.List renaming take_succ_cons → aB, drop_zero → aG, take_zero → aH, drop_succ_cons → aI, mem_cons_self → aK, mem_cons_of_mem → aL, length_append → aO, mem_singleton → aP, length_singleton → aT, length_filter_le → aV, map_toArray → aY, all_eq_true → aZ, mem_filter → bA, map_cons → bB, map_nil → bD, mem_range → bP
open Go.World renaming drew → aC, setCell → aN, heap → aR, ownsRow_nil → bF, alloc → bG
open Go.Proofs.Tryz renaming prog → aD
open _root_.Nat renaming le_succ → aM, le_refl → aQ, le_trans → bC
open _root_.Option.some renaming injEq → aX, inj → bK
def Ch(x:Int):Prop:=0≤x∧x≤281474976710655
structure Gl(h:Bb):Prop where
 ok:DO h
 b:Jb h
 life:Ch h.life
 top:h.top≤281474976710655
 cnt:∀e,(h.cnt e).2≤281474976710655
def JH(h:Bb):Prop:=h.top≤281474976710655∧∀e,(h.cnt e).2≤281474976710655
theorem XE{h:Bb}{f t:Int}(hT:JH h)(ht:t≤281474976710655):JH (Ei {h with floor:=f,top:=t}):=by
 refine⟨ht,fun e=> ?_⟩;unfold Ei;dsimp only;split
 ·exact hT.2 e
 ·decide
theorem Af9{h:Bb}(hT:JH h){f:Int}(hf:f≤281474976710655):JH (Dp h f)∧(Dp h f).life=h.life:=by
 unfold Dp;split
 ·exact⟨XE hT (by have:=hT.1;omega),rfl⟩
 ·exact⟨hT,rfl⟩
theorem Aov{h:Bb}(hT:JH h){e:Int}(he:e≤281474976710655):JH (EM h e)∧(EM h e).life=h.life:=by
 unfold EM;split
 ·exact⟨XE (f:=h.floor) hT he,rfl⟩
 ·exact⟨hT,rfl⟩
theorem Aqz{h:Bb}(hT:JH h)(e:Int){o:Int}(ho:o≤281474976710655):JH (Jq h e o):=by
 refine⟨hT.1,fun x=> ?_⟩;show(if x=e then ((h.cnt e).1+1,o) else h.cnt x).2≤_;split
 ·exact ho
 ·exact hT.2 x
theorem Aq2{h:Bb}(hT:JH h)(s u:Int):JH (J9 h s u)∧(J9 h s u).life=h.life:=by
 unfold J9;split
 ·split
  ·exact⟨hT,rfl⟩
  ·split
   ·exact⟨hT,rfl⟩
   ·exact⟨hT,rfl⟩
 ·exact⟨hT,rfl⟩
theorem Gl.t{h:Bb}(hn:Gl h):JH h:=⟨hn.top,hn.cnt⟩
theorem Afv{inc:Int}(h:Ch inc):Gl (OW inc):=⟨Uc inc,Amr inc,h,by show(0:Int)≤_;decide,fun e=>by show(0:Int)≤_;decide⟩
theorem Pg{h:Bb}(hn:Gl h)(fl ep at_ of:Int)(hfl:fl≤281474976710655)(hep:ep≤281474976710655)(hof:of≤281474976710655):Gl (DK h fl ep at_ of).1∧(DK h fl ep at_ of).1.life=h.life:=by
 have key:JH (DK h fl ep at_ of).1∧(DK h fl ep at_ of).1.life=h.life:=by
  obtain⟨l1,l2⟩:=Af9 hn.t hfl;obtain⟨r1,r2⟩:=Aov l1 hep;unfold DK;split
  ·exact⟨hn.t,rfl⟩
  ·split
   ·exact⟨r1,r2.trans l2⟩
   ·split
    ·exact⟨r1,r2.trans l2⟩
    ·exact⟨Aqz r1 ep hof,r2.trans l2⟩
 exact⟨⟨Ui hn.ok _ _ _ _,Aj6 hn.b _ _ _ _,by rw[key.2];exact hn.life,key.1.1,key.1.2⟩,key.2⟩
theorem Pf{h:Bb}(hn:Gl h)(sent use fl:Int)(hs:sent≤281474976710655)(hfl:fl≤281474976710655):Gl (Dq h sent use fl).1∧(Dq h sent use fl).1.life=h.life:=by
 have key:JH (Dq h sent use fl).1∧(Dq h sent use fl).1.life=h.life:=by
  obtain⟨l1,l2⟩:=Af9 hn.t hfl;obtain⟨r1,r2⟩:=Aq2 l1 sent use;unfold Dq;split
  ·exact⟨hn.t,rfl⟩
  ·exact⟨r1,r2.trans l2⟩
 exact⟨⟨ZD hn.ok _ _ _,Aiz hn.b _ _ _ (by omega),by rw[key.2];exact hn.life,key.1.1,key.1.2⟩,key.2⟩
theorem Gl.use{h:Bb}(hn:Gl h):Ch h.use:=by
 refine⟨hn.ok.use0,?_⟩;by_cases h0:h.use=0
 ·rw[h0];decide
 ·have h1:=(Hw.1 (hn.ok.uses h0)).1;have h2:=(hn.ok.two _ h1).1;have h3:=hn.ok.le;have h4:=hn.top;omega
theorem Gl.top0{h:Bb}(hn:Gl h):Ch h.top:=⟨by have:=hn.ok.floor0;have:=hn.ok.le;omega,hn.top⟩
theorem Gl.many{h:Bb}(hn:Gl h)(e:Int):Ch ((h.cnt e).1:Int):=⟨by omega,by have:=hn.ok.few e;have:=hn.cnt e;omega⟩
structure Az(N:Nat)(R:Rm)(n:Af Aq):Prop where
 tab:Kf N R n.tab
 room:R.cache≤2048∧R.auth≤2048∧R.part≤2048
 act:∀x∈n.tab.a,Ch x.action
 hold:Gl n.hold
 wait:Ga n.wait
 head:∀x∈n.wait.l,AK x.head
 load:Ch n.load
 last:n.wait.last≤N
 log:n.log.length+n.tab.c.length≤N
 post:n.post.length≤N
 cache:n.cache=(R.cache:Int)
theorem ZG{R:Rm}{S:Aq}:∀(k n:Nat),Kf n R S→Kf (n+k) R S
 | 0,_,h=>h
 | k+1,n,h=>by
  have:=ZG k (n+1) h.more
  rwa [show n+1+k=n+(k+1) by omega] at this
theorem Az.le{N M:Nat}{R:Rm}{n:Af Aq}(h:Az N R n)(hM:N≤M):Az M R n:=
 ⟨by have:=ZG (M-N) N h.tab;rwa [show N+(M-N)=M by omega] at this,h.room,h.act,h.hold,h.wait,h.head,h.load,bC h.last hM,bC h.log hM,bC h.post hM,h.cache⟩
section
variable {N:Nat} {R:Rm} {n:Af Aq}
theorem EJ(h:Az N R n)(x:AP):Az (N+1) R (Cc n x):=by
 have h':=h.le (aM N);refine⟨h'.tab,h'.room,h'.act,h'.hold,h'.wait,h'.head,h'.load,h'.last,?_,h'.post,h'.cache⟩;show(n.log++_).length+n.tab.c.length≤_;rw[aO,aT];have:=h.log;omega
theorem Ku(h:Az N R n)(d:Int)(m:An):Az (N+1) R (Cx n d m):=by
 have h':=h.le (aM N);unfold Cx;split
 ·refine⟨h'.tab,h'.room,h'.act,h'.hold,h'.wait,h'.head,h'.load,h'.last,h'.log,?_,h'.cache⟩;show(n.post++_).length≤_;rw[aO,aT];have:=h.post;omega
 ·exact h'
theorem W6(S:Aq)(mt:Ai→Bool)(now:Int):(DG S mt now).1.c.length=S.c.length:=by
 rcases JY S mt with ⟨A,x,D,⟨h1,_⟩,e⟩ | ⟨_,A,x,D,⟨h1,_⟩,e⟩ | ⟨_,_,A,x,D,⟨h1,_⟩,e⟩ | ⟨_,_,_,e⟩
 ·unfold DG;rw[e];show(A++Hz now 1 x::D).length=_;rw[h1,aO,aO];rfl
 all_goals
  unfold DG;rw[e]
  try rfl
theorem Air{P:Ai→Prop}(hP:∀now b x,P x→P (Hz now b x))(S:Aq)(mt:Ai→Bool)(now:Int)(h:∀x∈S.a,P x):∀x∈(DG S mt now).1.a,P x:=by
 rcases JY S mt with ⟨A,x,D,⟨h1,_⟩,e⟩ | ⟨_,A,x,D,⟨h1,_⟩,e⟩ | ⟨_,_,A,x,D,⟨h1,_⟩,e⟩ | ⟨_,_,_,e⟩
 ·unfold DG;rw[e];exact h
 ·unfold DG;rw[e];exact Amw h1 h (hP now 2 x)
 ·unfold DG;rw[e];exact h
 ·unfold DG;rw[e];exact h
theorem QV(h:Az N R n)(now e:Int)(hd:List Int):Az (N+1) R (AX n ((Al R).look n.tab now e hd).1):=by
 have h':=h.le (aM N);refine⟨?_,h'.room,?_,h'.hold,h'.wait,h'.head,h'.load,h'.last,?_,h'.post,h'.cache⟩
 ·exact LR h.tab ⟨3,now,{AJ with epoch:=e},hd⟩ Rv
 ·exact Air (P:=fun x=>Ch x.action) (fun _ _ _ hx=>hx) _ _ _ h.act
 ·show n.log.length+(DG _ _ _).1.c.length≤_;rw[W6];exact h'.log
theorem Kt(h:Az N R n){w:Be}(hw:Ga w)(hh:∀x∈w.l,AK x.head)(hl:w.last≤N+1):Az (N+1) R (Db n w):=by
 have h':=h.le (aM N);exact⟨h'.tab,h'.room,h'.act,h'.hold,hw,hh,h'.load,hl,h'.log,h'.post,h'.cache⟩
theorem Afs(h:Az N R n)(index:Int){hd:List Int}(hH:AK hd)(now:Int):Ga (Fk n.wait index hd now).1∧(∀x∈(Fk n.wait index hd now).1.l,AK x.head)∧(Fk n.wait index hd now).1.last≤N+1:=by
 have hl:=h.last;have hk:=ZZ h.wait.ok index hd now;unfold Fk at hk ⊢;split
 ·exact⟨h.wait,h.head,by show n.wait.last≤_;omega⟩
 ·rename_i hc;rw[if_neg hc] at hk;refine⟨⟨hk,h.wait.r64,h.wait.t8,h.wait.ti⟩,fun x hx=> ?_,by show n.wait.last+1≤_;omega⟩;rcases List.mem_append.1 hx with hx | hx
  ·exact h.head x hx
  ·rw[aP.1 hx];exact hH
theorem Vf(h:Az N R n)(s:Int):Ga (BH n.wait s).1∧(∀x∈(BH n.wait s).1.l,AK x.head)∧(BH n.wait s).1.last≤N+1:=by
 obtain⟨a1,a2,a3,a4,a5⟩:=Ld n.wait s;have hl:=h.last;exact⟨⟨TC h.wait.ok s,by rw[a5];exact h.wait.r64,by rw[a2];exact h.wait.t8,by rw[a3];exact h.wait.ti⟩,fun x hx=>h.head x (a1.subset hx),by rw[a4];omega⟩
theorem RR(h:Az N R n)(now:Int):Ga (Dc n.wait now)∧(∀x∈(Dc n.wait now).l,AK x.head)∧(Dc n.wait now).last≤N+1:=by
 have hl:=h.last;refine⟨⟨RA h.wait.ok now,h.wait.r64,h.wait.t8,h.wait.ti⟩,fun x hx=> ?_,by show n.wait.last≤_;omega⟩;unfold Dc at hx;obtain⟨y,hy,e⟩:=List.mem_filterMap.1 hx;unfold Ce at e;split at e
 ·split at e
  ·obtain rfl:=bK e;exact h.head y hy
  ·cases e
 ·obtain rfl:=bK e;exact h.head y hy
theorem Agu(h:Az N R n)(now:Int):∀x∈Cv n.wait now,AK x.head:=fun x hx=>by
 unfold Cv at hx
 obtain⟨y,hy,e⟩:=List.mem_map.1 hx
 rw[←e]
 exact h.head y (bA.1 hy).1
theorem Agt(h:Az N R n)(now:Int):∀x∈Cv n.wait now,1≤x.seq∧x.seq≤(n.wait.last:Int):=fun x hx=>by
 unfold Cv at hx
 obtain⟨y,hy,e⟩:=List.mem_map.1 hx
 rw[←e]
 exact h.wait.ok.seq y (bA.1 hy).1
theorem VJ(h:Az N R n)(now:Int):(Cv n.wait now).length≤64:=by
 have h1:=h.wait.ok.len;have h2:=h.wait.r64;unfold Cv;rw[List.length_map];have:=aV (fun x=>Ex now x&&DF n.wait x) n.wait.l;omega
theorem Tj(h:Az N R n)(now:Int):(EE n.wait now).length≤64:=by
 have h1:=h.wait.ok.len;have h2:=h.wait.r64;unfold EE;have:=aV (fun x=>Ex now x&& !(DF n.wait x)) n.wait.l;omega
theorem Anc(h:Az N R n){k:Bb}(hk:Gl k):Az N R (Bi n k):=
 ⟨h.tab,h.room,h.act,hk,h.wait,h.head,h.load,h.last,h.log,h.post,h.cache⟩
theorem Ana(h:Az N R n)(a b:Int):Az (N+1) R (AX n ((Al R).keep n.tab a b)):=by
 have h':=h.le (aM N);refine⟨?_,h'.room,fun x hx=>h.act x (bA.1 hx).1,h'.hold,h'.wait,h'.head,h'.load,h'.last,?_,h'.post,h'.cache⟩
 ·exact LR h.tab ⟨6,0,{AJ with epoch:=a,place:=b},[]⟩ Rv
 ·show n.log.length+(n.tab.c.filter _).length≤_;have:=aV (Hf a b) n.tab.c;have:=h.log;omega
theorem Ap9(h:Az N R n){s:Ai}(hc:GK s.cube)(ha:Ch s.action):Az (N+1) R (AX n ((Al R).lay n.tab s).1):=by
 have h':=h.le (aM N)
 have hl:((Al R).lay n.tab s).1.c=n.tab.c∧∀x∈((Al R).lay n.tab s).1.a,Ch x.action:=by
  show(if s.bank=2 then _ else if s.bank=3 then _ else _:Aq×Int).1.c=_∧∀x∈(if s.bank=2 then _ else if s.bank=3 then _ else _:Aq×Int).1.a,_;split
  ·exact⟨rfl,RM (P:=fun x=>Ch x.action) _ _ _ _ h.act ha⟩
  ·split
   ·exact⟨rfl,h.act⟩
   ·exact⟨rfl,h.act⟩
 refine⟨?_,h'.room,hl.2,h'.hold,h'.wait,h'.head,h'.load,h'.last,?_,h'.post,h'.cache⟩
 ·have key:=LR h.tab ⟨2,0,s,[]⟩ hc
  have e:Sy Bh Er R n.tab ⟨2,0,s,[]⟩=((Al R).lay n.tab s).1:=by
   show(if (2:Int)=1 then _ else if (2:Int)=2 then (if s.bank=2 then _ else if s.bank=3 then _ else _) else _:Aq)=(if s.bank=2 then _ else if s.bank=3 then _ else _:Aq×Int).1;rw[if_neg (by decide),if_pos rfl];by_cases h2:s.bank=2
   ·rw[if_pos h2,if_pos h2]
   ·rw[if_neg h2,if_neg h2];by_cases h3:s.bank=3
    ·rw[if_pos h3,if_pos h3]
    ·rw[if_neg h3,if_neg h3]
  rw[e] at key;exact key
 ·show n.log.length+((Al R).lay n.tab s).1.c.length≤_;rw[hl.1];exact h'.log
theorem Ug(room:Nat)(C:List Ai)(s:Ai):(Cr room C s).1.length≤C.length+1:=by
 rcases KW room C s with ⟨_,e⟩ | ⟨_,A,x,B,⟨h1,_⟩,e⟩ | ⟨_,_,_,A,x,B,⟨h1,_⟩,e⟩ | ⟨_,_,_,e⟩
 ·rw[e];exact aM _
 ·rw[e,h1];simp
 ·rw[e,h1];simp
 ·rw[e];simp
theorem Ajf(h:Az N R n)(now e:Int){c:List Int×List Int}(hc:GK c)(a:Int):Az (N+1) R (AX n ((Al R).learn n.tab now e c a).1):=by
 have h':=h.le (aM N);refine⟨?_,h'.room,h.act,h'.hold,h'.wait,h'.head,h'.load,h'.last,?_,h'.post,h'.cache⟩
 ·exact LR h.tab ⟨1,now,{AJ with epoch:=e,cube:=c,action:=a},[]⟩ hc
 ·show n.log.length+(Cr _ _ _).1.length≤_;have:=Ug R.cache n.tab.c (Co now e (Bh c) a);have:=h.log;omega
theorem An9(h:Az N R n){x:Int}(hx:Ch x):Az N R {n with load:=x}:=
 ⟨h.tab,h.room,h.act,h.hold,h.wait,h.head,hx,h.last,h.log,h.post,h.cache⟩
theorem Ul(h:Az N R n)(now:Int)(k:Nat):Az (N+1) R (((Al R).tick n.tab now).2.take k |>.foldl Il (AX n ((Al R).tick n.tab now).1)):=by
 have h':=h.le (aM N)
 have hl:∀(l:List Ai) (a:Af Aq),(l.foldl Il a).log.length=a.log.length+l.length∧(l.foldl Il a).tab=a.tab∧(l.foldl Il a).hold=a.hold∧(l.foldl Il a).wait=a.wait∧(l.foldl Il a).load=a.load∧(l.foldl Il a).post=a.post∧(l.foldl Il a).cache=a.cache:=fun l=>by
  induction l with
  | nil=>intro a;exact⟨rfl,rfl,rfl,rfl,rfl,rfl,rfl⟩
  | cons x l ih=>
   intro a;obtain⟨i1,i2,i3,i4,i5,i6,i7⟩:=ih (Il a x);refine⟨?_,i2,i3,i4,i5,i6,i7⟩;show(l.foldl Il (Il a x)).log.length=_;rw[i1];show(a.log++_).length+_=_;rw[aO,aT,List.length_cons];omega
 obtain⟨i1,i2,i3,i4,i5,i6,i7⟩:=hl (((Al R).tick n.tab now).2.take k) (AX n ((Al R).tick n.tab now).1);refine⟨?_,h'.room,?_,?_,?_,?_,?_,?_,?_,?_,?_⟩
 ·rw[i2];exact LR h.tab ⟨7,now,AJ,[]⟩ Rv
 ·rw[i2];exact h.act
 ·rw[i3];exact h'.hold
 ·rw[i4];exact h'.wait
 ·rw[i4];exact h'.head
 ·rw[i5];exact h'.load
 ·rw[i4];exact h'.last
 ·rw[i1,i2];have g1:=Ajn (MU R.idle R.hard now) n.tab.c;have g2:=h.log;have g3:(((Al R).tick n.tab now).2.take k).length≤(n.tab.c.filter (MU R.idle R.hard now)).length:=List.length_take_le' k _;show n.log.length+(((Al R).tick n.tab now).2.take k).length+(n.tab.c.filter fun x=> !(MU R.idle R.hard now x)).length≤N+1;omega
 ·rw[i6];exact h'.post
 ·rw[i7];exact h'.cache
end
section
open Go.RowKit
theorem PE{m m':Ai→Bool}{k:Ai→Int}:∀ {C:List Ai},(∀y∈C,m y=m' y)→Bc m k C=Bc m' k C
 | [],_=>rfl
 | x::l,h=>by
  have ih:=PE (m:=m) (m':=m') (k:=k) (C:=l) fun y hy=>h y (aL _ hy)
  unfold Bc
  rw[ih,h x (by simp)]
theorem Afj{s:Ai}{y:Ai}(hs:GK s.cube)(hy:GK y.cube):RP s.epoch s y=G4 s y:=by
 unfold RP G4;rw[EX hs.1.1,EX hs.2.1,EX hy.1.1,EX hy.2.1];rfl
theorem NZ(e ac nw:Int)(c:Hn)(W:World):(Instr.build 102 #[(0,.int .i64 1),(1,.int .i64 e),(4,.agg (cv (AC c.1) (AC c.2))),(5,.int .i64 ac),(8,.int .i64 nw),(9,.int .i64 nw)]).run aD W=.ok (.agg (Ac ⟨1,e,0,0,c,ac,0,0,nw,nw,0⟩)) W:=by kernel_rfl
theorem MT{o:Oper}{t:Nat}{ps:Array (Nat×Operand)}(ho:o.op=.build t ps)(a:Act)(W:World)(qs:Array (Nat×Value))(hq:(ps.map fun(i,x)=>(i,a.eval x))=qs)(v:Value)(h:(Instr.build t qs).run aD W=.ok v W):(execOp a.eval o).run aD W=.ok (.value v) W:=by
 unfold execOp;simp only[ho,Sem.run_bind,hq,h,Result.andThen_ok,Sem.run_pure]
theorem Oa{o:Oper}(ho:o.op=.alloc 102)(a:Act)(W:World):(execOp a.eval o).run aD W=.ok (.value (.pointer (some ⟨W.heap.size,0,none⟩))) (W.alloc (.cells (Ac AJ) 102)):=by
 unfold execOp;simp only[ho,Sem.run_bind,VI,Result.andThen_ok,Sem.run_pure]
theorem QZ{ops:Array Oper}{Q:Exit→Act→World→Prop}{i:Nat}{o:Oper}{K:Act→World→Prop}{a:Act}{w:World}(hi:ops[i]?=some o)(hgd:o.guard=none)(x y:Operand)(ho:o.op=.store 102 x y)
  (g:Nat) (s z:Ai) (hx:a.eval x=.pointer (some ⟨g,0,none⟩)) (hy:a.eval y=.agg (Ac s)) (hg:w.heap[g]?=some (.cells (Ac z) 102 (0,0))) (hd:o.dst=none)
  (hK:K a (w.setRow g (Ac s))):wpOp aD ops Q i K a w:=by
 refine Et hi (Ck hgd x y ho g s z hx hy hg _ rfl ?_);rw[hd];exact hK
theorem VK{ops:Array Oper}{Q:Exit→Act→World→Prop}{i:Nat}{o:Oper}{K:Act→World→Prop}{a:Act}{w:World}(hi:ops[i]?=some o)(hgd:o.guard=none)(x y:Operand)(ho:o.op=.store 102 x y)
  (g off:Nat) (s:Ai) (hx:a.eval x=.pointer (some ⟨g,off,none⟩)) (hy:a.eval y=.agg (Ac s)) (cur:Array Value) (t:TypeId) (hg:w.heap[g]?=some (.cells cur t (0,0))) (hf:off+36≤cur.size) (hd:o.dst=none)
  (hK:K a (w.setRow g (cur.toList.take off++(Ac s).toList++cur.toList.drop (off+36)).toArray)):wpOp aD ops Q i K a w:=by
 refine Et hi (Yt hgd x y ho g off s hx hy cur t hg hf ?_);rw[hd];exact hK
theorem Aaj{fn:Func}{R:Ending→World→Prop}{a:Act}{w:World}{p u u':Tmp}(hr:fn.results=#[.cell p 102,.tmp u,.tmp u'])(hd:a.defers=[])(g:Nat)(hp:a.tmps.getD p undef=.pointer (some ⟨g,0,none⟩))(x:Ai)
  (hg:w.heap[g]?=some (.cells (Ac x) 102 (0,0))) (v v':Value) (hu:a.tmps.getD u undef=v) (hu':a.tmps.getD u' undef=v') (h:R (.returned (.tuple #[.agg (Ac x),v,v'])) w):bodyPost aD fn R .ret a w:=by
 refine bodyPost_ret (v:=.tuple #[.agg (Ac x),v,v']) ?_ hd h;rw[Array.getD_eq_getD_getElem?] at hp hu hu';simp[results,hr,hp,hu,hu',asAddr,He hg]
theorem Ama{K:World→Prop}{ops:Array Oper}{Q:Act→Prop}{rest:List Oper}{o:Oper}{a:Act}(hw:Region.wanted o (yielded ops a.tmps)=true)(x:Operand)(ho:o.op=.load 37 x)
  (g:Nat) (hx:a.eval x=.pointer (some ⟨g,0,none⟩)) (c:Hn) (hg:∀w',K w'→w'.heap[g]?=some (.cells (cv (AC c.1) (AC c.2)) 37 (0,0)))
  (h:wpQuiet aD ops K Q rest (a.put o.dst (.agg (cv (AC c.1) (AC c.2))))):wpQuiet aD ops K Q (o::rest) a:=
 WL hw x ho g 0 hx _ _ _ (AC c.1) (AC c.2) (AV _) (AV _) hg (Ar _ _) h
theorem Aff(B:Nat)(w:World)(g:Nat)(R:Rm)(S:Aq)(v1 v2 v3:Value)(h:Cw B w g R S v1 v2 v3)(now e:Int)(c:Hn)(act:Int)(hc:GK c)(hn:S.c.length≤1000000)(hd:H8 S.c)(hok:∀y∈S.c,GK y.cube):
  Calls aD 189 #[.pointer (some ⟨g,0,none⟩),.int .i64 now,.int .i64 e,.agg (cv (AC c.1) (AC c.2)),.int .i64 act] w fun r w'=>r=.returned (.tuple #[.agg (Ac (Cr R.cache S.c (Co now e (Bh c) act)).2.1),.bool (Cr R.cache S.c (Co now e (Bh c) act)).2.2.1,.int .i64 (Cr R.cache S.c (Co now e (Bh c) act)).2.2.2])∧Di B w w' g R {S with c:=(Cr R.cache S.c (Co now e (Bh c) act)).1} v1 v2 v3:=by
 obtain⟨w0,hw0⟩:=eX (((w.alloc (.cells #[.int .i64 e] 3)).alloc (.cells (cv (AC c.1) (AC c.2)) 37)).alloc (.cells (Ac AJ) 102));have B0:Hid (Below w.heap.size w w0):=by show Below _ _ _;rw[hw0];exact(((aJ _ _).alloc (aQ _) _).alloc (by simp) _).alloc (by simp;omega) _
 have SZ:Hid (w0.heap.size=w.heap.size+3):=by show _=_;rw[hw0];simp
 have E0:Hid (w0.heap[w.heap.size]?=some (.cells #[.int .i64 e] 3 (0,0))):=by show _=_;rw[hw0];exact Ah _ _ _ _ (Ah _ _ _ _ (Ab _ _ _ rfl))
 have C0:Hid (w0.heap[w.heap.size+1]?=some (.cells (cv (AC c.1) (AC c.2)) 37 (0,0))):=by show _=_;rw[hw0];exact Ah _ _ _ _ (Ab _ _ _ (by simp))
 have Z0:Hid (w0.heap[w.heap.size+1+1]?=some (.cells (Ac AJ) 102 (0,0))):=by show _=_;rw[hw0];exact Ab _ _ _ (by simp)
 have SE:Hid (w.heap.size<w0.heap.size):=by show _<_;have:=SZ.out;omega
 have SC:Hid (w.heap.size+1<w0.heap.size):=by show _<_;have:=SZ.out;omega
 have TI:Hid (∀W,Calls aD 107 #[.int .i64 now] W fun r w'=>r=.returned (.int .i64 (BR now))∧w'=W):=PP now;have CA:Hid (∀W,Calls aD 182 #[.agg (cv (AC c.1) (AC c.2))] W fun e w'=>e=.returned (.agg (cv (AC (Bh c).1) (AC (Bh c).2)))∧Below W.heap.size W w'):=TA c hc;have HT:Hid _:=h;have T0:=(HT.out.below B0.out).f;have c1:=T0.c1;have c5:=T0.c5;by_cases hr:R.cache=0
 ·have ER:Hid (Cr R.cache S.c (Co now e (Bh c) act)=(S.c,AJ,false,13)):=by show _=_;rw[hr];exact Qf _ _
  rw[hr,show((0:Nat):Int)=0 from rfl] at c1;clear h hd hok hn hc T0;go_enter Tryz.func189,Tryz.ntmps189;go_wp2_with (first|((with_reducible refine Jx rfl ?_);refine Ev rfl rfl ?_;try rw[Bf]);refine D9 ?_);unfold Gk;rw[←hw0];clear hw0;go_wp2_with (first|((with_reducible refine VY rfl ?_);refine Nm rfl rfl ?_)|((with_reducible refine Ff _ _ rfl ?_);refine Ck rfl _ _ rfl (w.heap.size+1+1) AJ AJ rfl rfl Z0.out _ rfl ?_));refine Aaj (p:=10) (u:=11) (u':=12) rfl rfl (w.heap.size+1+1) rfl AJ (setRow_heap _ _ _ _ _ _ Z0.out) _ _ rfl rfl ?_;rw[ER.out];exact⟨rfl,HT.out.same (Aj B0.out (by omega) _)⟩
 ·have hr':¬((R.cache:Nat):Int)=0:=by omega
  obtain⟨rc,hrc⟩:=eX (((R.cache:Nat):Int));rw[←hrc] at c1 hr';clear hrc T0
  have IX:Hid (∀W q,Below w.heap.size w W→W.heap[w.heap.size]?=some (.cells #[.int .i64 e] 3 (0,0))→W.heap[q]?=some (.cells (Ac (Co now e (Bh c) act)) 102 (0,0))→Calls aD 199 #[v1,.func (.func 210) #[] #[.pointer (some ⟨w.heap.size,0,none⟩),.pointer (some ⟨q,0,none⟩)]] W fun r w'=>(∃i,r=.returned (.int .i64 i)∧Nj (G4 (Co now e (Bh c) act)) S.c i)∧Below W.heap.size W w'):=by
   intro W q hb he hq;refine(Ve _ _ W (h.below hb).o1.sl hn 210 #[.pointer (some ⟨w.heap.size,0,none⟩),.pointer (some ⟨q,0,none⟩)] (RP e (Co now e (Bh c) act)) (fun vs W=>by have hf:=Tryz.func210;simp[go_sem]) (fun x W' hW'=>Ab8 x _ e W' _ _ _ ((hW'.block _ (gS he)).trans he) ((hW'.block _ (gS hq)).trans hq))).mono ?_;rintro r w' ⟨⟨i,rfl,hf⟩,hb'⟩;refine⟨⟨i,rfl,?_⟩,hb'⟩;have cong:Bc (RP e (Co now e (Bh c) act)) (fun _=>0) S.c=Bc (G4 (Co now e (Bh c) act)) (fun _=>0) S.c:=PE fun y hy=>Afj (s:=Co now e (Bh c) act) (Us hc) (hok y hy);unfold Nj at hf ⊢;rw[cong] at hf;exact hf
  have EV:Hid (∀W,Below w.heap.size w W→Calls aD 211 #[.pointer (some ⟨g,0,none⟩)] W fun r w'=>r=.returned (.tuple #[.agg (Ac (Ed R.cache S.c).2.1),.bool (Ed R.cache S.c).2.2])∧Di B W w' g R {S with c:=(Ed R.cache S.c).1} v1 v2 v3):=by
   intro W hb;exact Ag5 B W g R S v1 v2 v3 (h.below hb) hn hr hd hok
  have LE:Hid (Bc (G4 (Co now e (Bh c) act)) (fun _=>0) S.c=none→Cr R.cache S.c (Co now e (Bh c) act)=((Ed R.cache S.c).1++[Co now e (Bh c) act],(Ed R.cache S.c).2.1,(Ed R.cache S.c).2.2,0)):=fun hl=>Xb hr hl;have LS:Hid (∀A x D,Bc (G4 (Co now e (Bh c) act)) (fun _=>0) S.c=some (A,x,D)→Cr R.cache S.c (Co now e (Bh c) act)=(A++Co now e (Bh c) act::D,AJ,false,0)):=fun A x D hl=>Rf hr hl
  have EN:Hid ((Ed R.cache S.c).1.length≤1000000):=by
   show _≤_;unfold Ed;split
   ·cases hl:Bc (fun _=>true) (·.used) S.c with
    | none=>exact hn
    | some r=>obtain⟨A,x,D⟩:=r;have:=(Ez hl).1;rw[this] at hn;simp at hn ⊢;omega
   ·exact hn
  clear h hd hok hc;go_enter Tryz.func189,Tryz.ntmps189;go_wp2_with (first|((with_reducible refine Jx rfl ?_);refine Ev rfl rfl ?_;try rw[Bf]);refine D9 ?_);unfold Gk;rw[←hw0];clear hw0;go_wp2_with (go_at_call 107;refine(TI.out _).mono ?_;rintro r w2 ⟨rfl,hw2⟩;rw[hw2];clear hw2);refine EZ (fun a a' w'=> ∃y29 y30 y31 y32 y33 y34 y35 q,a'=(((((((a.put (some 29) y29).put (some 30) y30).put (some 31) y31).put (some 32) y32).put (some 33) y33).put (some 34) y34).put (some 35) y35).put (some 13) (.pointer (some ⟨q,0,none⟩))∧w'.heap[q]?=some (.cells (Ac (Co now e (Bh c) act)) 102 (0,0))∧Below w0.heap.size w0 w'∧w0.heap.size≤q) ?_ ?_
  ·have ne9:Nonempty (TM w.heap.size (.cells #[.int .i64 e] 3 (0,0)) (w.heap.size+1) (.cells (cv (AC c.1) (AC c.2)) 37 (0,0))):=⟨⟨w0,E0.out,C0.out⟩⟩;have e9:∀z:TM w.heap.size (.cells #[.int .i64 e] 3 (0,0)) (w.heap.size+1) (.cells (cv (AC c.1) (AC c.2)) 37 (0,0)),z.world.cell? ⟨w.heap.size,0,none⟩=some (.int .i64 e):=fun z=>by rw[cell_of_row _ _ _ _ _ _ z.k1];rfl
   refine B8 (Lf w.heap.size (.cells #[.int .i64 e] 3 (0,0)) (w.heap.size+1) (.cells (cv (AC c.1) (AC c.2)) 37 (0,0))) 9 rfl (by kernel_rfl) ?_;refine rE 0 2 7 (Lf.of (w:=aC w0) E0.out C0.out) ?_;simp only[aG,aB,aH];go_big_quiet_step (rfl);refine Ama rfl _ rfl (w.heap.size+1) rfl c (by rintro w' ⟨z,rfl⟩;exact z.k2) ?_;simp only[pU];refine wpQuiet_nil ?_;refine rE 3 3 4 (Lf.of (w:=aC w0) E0.out C0.out) ?_;simp only[aI,aG,aB,aH]
   iterate 3 (go_big_quiet_step (rfl))
   refine wpQuiet_nil ?_;refine rA 2 7 ?_ ?_
   ·skip;refine Bm rfl rfl 182 #[.tmp 30] (by intro b w;have hf:=Tryz.func182;simp[go_sem]) #[.agg (cv (AC c.1) (AC c.2))] rfl (fun v w'=>v=.agg (cv (AC (Bh c).1) (AC (Bh c).2))∧Below (aR _).size _ w') ((CA.out _).mono fun e w' h=>⟨_,h.1,rfl,h.2⟩) (some 31) rfl ?_;rintro v x1 ⟨rfl,hx1⟩;have X1:Below w0.heap.size w0 x1:=BL ((aJ w0.heap.size w0).drew) (aW ((aJ w0.heap.size w0).drew)) hx1;refine⟨Lf.of ((aA X1 _ SE.out).trans E0.out) ((aA X1 _ SC.out).trans C0.out),?_⟩;simp only[pU];refine rA 6 7 ?_ ?_
    focus
     skip;refine FF rfl rfl (.agg (Ac (Co now e (Bh c) act))) (MT rfl _ _ #[(0,.int .i64 1),(1,.int .i64 e),(4,.agg (cv (AC (Bh c).1) (AC (Bh c).2))),(5,.int .i64 act),(8,.int .i64 (BR now)),(9,.int .i64 (BR now))] (by simp only[aY,bB,bD];rfl) _ (NZ e act (BR now) (Bh c) _)) (some 35) rfl ?_;refine⟨Lf.of ((aA X1 _ SE.out).trans E0.out) ((aA X1 _ SC.out).trans C0.out),?_⟩;simp only[pU];refine rO 7 ?_;refine FF rfl rfl _ (Oa rfl _ _) (some 13) rfl ?_;have Y1:Below w0.heap.size w0 (bG x1 (.cells (Ac AJ) 102)):=bH X1 (aW X1) _
    rotate_left
    focus
     skip;refine FF rfl rfl _ (Oa rfl _ _) (some 13) rfl ?_;have Y1:Below w0.heap.size w0 (bG x1 (.cells (Ac AJ) 102)):=bH X1 (aW X1) _;refine⟨Lf.of ((aA Y1 _ SE.out).trans E0.out) ((aA Y1 _ SC.out).trans C0.out),?_⟩;simp only[pU];refine rO 6 ?_;refine FF rfl rfl (.agg (Ac (Co now e (Bh c) act))) (MT rfl _ _ #[(0,.int .i64 1),(1,.int .i64 e),(4,.agg (cv (AC (Bh c).1) (AC (Bh c).2))),(5,.int .i64 act),(8,.int .i64 (BR now)),(9,.int .i64 (BR now))] (by simp only[aY,bB,bD];rfl) _ (NZ e act (BR now) (Bh c) _)) (some 35) rfl ?_
    all_goals
     refine⟨Lf.of ((aA Y1 _ SE.out).trans E0.out) ((aA Y1 _ SC.out).trans C0.out),?_⟩;simp only[pU];refine rO 8 ?_;refine QZ rfl rfl _ _ rfl (aR x1).size (Co now e (Bh c) act) AJ rfl rfl (Ab _ _ _ rfl) rfl ?_;have X9:Below w0.heap.size w0 _:=Aj Y1 (g:=(aR x1).size) (aW X1) (Ac (Co now e (Bh c) act));refine⟨Lf.of ((aA X9 _ SE.out).trans E0.out) ((aA X9 _ SC.out).trans C0.out),?_⟩;refine rD ?_;exact⟨rfl,_,_,_,_,_,_,_,(aR x1).size,rfl,setRow_heap _ _ _ _ _ _ (Ab _ _ _ rfl),X9,aW X1⟩
   ·skip;refine FF rfl rfl _ (Oa rfl _ _) (some 13) rfl ?_;have Y0:Below w0.heap.size w0 (bG (aC w0) (.cells (Ac AJ) 102)):=bH ((aJ w0.heap.size w0).drew) (aQ _) _;refine⟨Lf.of ((aA Y0 _ SE.out).trans E0.out) ((aA Y0 _ SC.out).trans C0.out),?_⟩;simp only[pU];refine rO 2 ?_;refine Bm rfl rfl 182 #[.tmp 30] (by intro b w;have hf:=Tryz.func182;simp[go_sem]) #[.agg (cv (AC c.1) (AC c.2))] rfl (fun v w'=>v=.agg (cv (AC (Bh c).1) (AC (Bh c).2))∧Below (aR _).size _ w') ((CA.out _).mono fun e w' h=>⟨_,h.1,rfl,h.2⟩) (some 31) rfl ?_;rintro v x2 ⟨rfl,hx2⟩;have X2:Below w0.heap.size w0 x2:=BL Y0 (aW Y0) hx2;refine⟨Lf.of ((aA X2 _ SE.out).trans E0.out) ((aA X2 _ SC.out).trans C0.out),?_⟩;simp only[pU];refine rO 6 ?_
    refine FF rfl rfl (.agg (Ac (Co now e (Bh c) act))) (MT rfl _ _ #[(0,.int .i64 1),(1,.int .i64 e),(4,.agg (cv (AC (Bh c).1) (AC (Bh c).2))),(5,.int .i64 act),(8,.int .i64 (BR now)),(9,.int .i64 (BR now))] (by simp only[aY,bB,bD];rfl) _ (NZ e act (BR now) (Bh c) _)) (some 35) rfl ?_;refine⟨Lf.of ((aA X2 _ SE.out).trans E0.out) ((aA X2 _ SC.out).trans C0.out),?_⟩;simp only[pU];refine rO 8 ?_;refine QZ rfl rfl _ _ rfl (aR w0).size (Co now e (Bh c) act) AJ rfl rfl ((aA hx2 _ (by simp)).trans (Ab _ _ _ rfl)) rfl ?_;have X9:Below w0.heap.size w0 _:=Aj X2 (g:=(aR w0).size) (aQ _) (Ac (Co now e (Bh c) act));refine⟨Lf.of ((aA X9 _ SE.out).trans E0.out) ((aA X9 _ SC.out).trans C0.out),?_⟩;refine rD ?_;exact⟨rfl,_,_,_,_,_,_,_,(aR w0).size,rfl,setRow_heap _ _ _ _ _ _ ((aA hx2 _ (by simp)).trans (Ab _ _ _ rfl)),X9,aQ _⟩
  ·rintro a' w1 ⟨y29,y30,y31,y32,y33,y34,y35,q,rfl,hq1,hb1,hq2⟩;simp only[pU];have B1:Hid (Below w.heap.size w w1):=BL B0.out B0.out.size hb1;have Q1:Hid _:=hq1;have E1:Hid (w1.heap[w.heap.size]?=some (.cells #[.int .i64 e] 3 (0,0))):=(hb1.block _ SE.out).trans E0.out;have Z1:Hid (w1.heap[w.heap.size+1+1]?=some (.cells (Ac AJ) 102 (0,0))):=(hb1.block _ (by have:=SZ.out;omega)).trans Z0.out;have QS:Hid (w.heap.size+3≤q):=by show _≤_;have:=SZ.out;omega
   have d5:=(HT.out.below B1.out).f.c5;clear hq1 hb1 hq2;have hix:=IX.out w1 q B1.out E1.out Q1.out;go_wp2_with (go_at_call 199;refine hix.mono ?_;rintro r w2 ⟨⟨i,rfl,hfi⟩,hb2⟩;refine D9 ?_);unfold Gk;have B2:Hid (Below w.heap.size w w2):=BL B1.out B1.out.size hb2;have Q2:Hid (w2.heap[q]?=some (.cells (Ac (Co now e (Bh c) act)) 102 (0,0))):=(hb2.block _ (gS Q1.out)).trans Q1.out;have Z2:Hid (w2.heap[w.heap.size+1+1]?=some (.cells (Ac AJ) 102 (0,0))):=(hb2.block _ (gS Z1.out)).trans Z1.out;clear hb2 hix d5;rcases hfi with ⟨rfl,hl⟩ | ⟨i,x,rfl,hi,hx,hl⟩
   ·have EL:Hid _:=LE.out hl;clear hl LE LS IX;go_wp2_with (go_at_call 211;refine(EV.out w2 B2.out).mono ?_;rintro r w3 ⟨rfl,ht⟩;refine D9 ?_);unfold Gk;obtain⟨u1,u2,u3,ht1,ht2,ht3⟩:=ht;have T3:Hid _:=ht1;have K3:Hid _:=ht2;have F3:Hid _:=ht3
    have NQ:Hid (∀k,w.heap.size≤k→k<w2.heap.size→¬Eg g u1 u2 u3 k):=by
     intro k h1 h2 h3;rcases F3.out k h3 with h4 | h4
     ·have:=(HT.out.foot_in k h4).2;omega
     ·omega
    have NV:Hid (∀k,w.heap.size≤k→¬Eg g v1 v2 v3 k):=by
     intro k h1 h3;have:=(HT.out.foot_in k h3).2;omega
    have Q3:Hid (w3.heap[q]?=some (.cells (Ac (Co now e (Bh c) act)) 102 (0,0))):=K3.out.heap Q2.out (NV.out q (by have:=QS.out;omega));have Z3:Hid (w3.heap[w.heap.size+1+1]?=some (.cells (Ac AJ) 102 (0,0))):=K3.out.heap Z2.out (NV.out _ (by omega));have S2q:Hid (q<w2.heap.size):=(gS Q2.out);have S2z:Hid (w.heap.size+1+1<w2.heap.size):=(gS Z2.out);clear ht1 ht2 ht3;obtain⟨x,hxx⟩:=eX ((Ed R.cache S.c).2.1);obtain⟨bb,hbb⟩:=eX ((Ed R.cache S.c).2.2);rw[←hxx, ←hbb] at EL ⊢;clear hxx hbb;obtain⟨w4,hw4⟩:=eX (w3.alloc (.cells (Ac x) 102));have X4:Hid (w4.heap[w3.heap.size]?=some (.cells (Ac x) 102 (0,0))):=by show _=_;rw[hw4];exact Ab _ _ _ rfl
    have Q9:Hid (w4.heap[q]?=some (.cells (Ac (Co now e (Bh c) act)) 102 (0,0))):=by show _=_;rw[hw4];exact Ah _ _ _ _ Q3.out
    have Z4:Hid (w4.heap[w.heap.size+1+1]?=some (.cells (Ac AJ) 102 (0,0))):=by show _=_;rw[hw4];exact Ah _ _ _ _ Z3.out
    have BW9:Hid (Below w3.heap.size w3 w4):=by show Below _ _ _;rw[hw4];exact(aJ _ _).alloc (aQ _) _
    have QG9:Hid (¬Eg g u1 u2 u3 q):=NQ.out q (by have:=QS.out;omega) S2q.out;have ZG9:Hid (¬Eg g u1 u2 u3 (w.heap.size+1+1)):=NQ.out _ (by omega) S2z.out;have XG9:Hid (¬Eg g u1 u2 u3 w3.heap.size):=by show¬_;intro h3;have:=(T3.out.foot_in _ h3).2;omega
    have BB9:Hid (B≤w3.heap.size):=by show _≤_;have h9:=T3.out.hB;have h8:=(gS T3.out.blk);omega
    have TT9:Hid _:=T3.out.below BW9.out;go_wp2_with (first|((with_reducible refine Jx rfl ?_);refine Ev rfl rfl ?_;try rw[Bf])|((with_reducible refine Ff _ _ rfl ?_);refine Ck rfl _ _ rfl w3.heap.size x AJ rfl rfl (Ab _ _ _ rfl) _ (Bo _ _ _ _ _ rfl) ?_));rw[←hw4];clear hw4;refine EZ (fun a a' w'=> ∃y59 y60 y61 y62 y63 y64 y65 y66 y67 y68 y69 y70 v' w9,a'=((((((((((((a.put (some 59) y59).put (some 60) y60).put (some 61) y61).put (some 62) y62).put (some 63) y63).put (some 64) y64).put (some 65) y65).put (some 66) y66).put (some 67) y67).put (some 68) y68).put (some 69) y69).put (some 70) y70)∧w'=aN w9 ⟨g,5,none⟩ v'∧(Di B w3 (aN w9 ⟨g,5,none⟩ v') g R (RC {S with c:=(Ed R.cache S.c).1} 1 (Bv {S with c:=(Ed R.cache S.c).1} 1++[(Co now e (Bh c) act)])) u1 u2 u3∧(aN w9 ⟨g,5,none⟩ v').heap[w3.heap.size]?=some (.cells (Ac x) 102 (0,0))∧(aN w9 ⟨g,5,none⟩ v').heap[w.heap.size+1+1]?=some (.cells (Ac AJ) 102 (0,0)))) ?_ ?_
    ·have ne9:Nonempty (Wc q (.cells (Ac (Co now e (Bh c) act)) 102 (0,0))):=⟨⟨w4,Q9.out⟩⟩;refine B8 (GL q (.cells (Ac (Co now e (Bh c) act)) 102 (0,0))) 13 rfl (by kernel_rfl) ?_;refine rE 0 2 11 (GL.of (w:=aC w4) Q9.out) ?_;simp only[aG,aB,aH];go_big_quiet_step (rfl);go_big_quiet_step (rfl);refine wpQuiet_nil ?_;refine Jd (i:=2) (some 61) rfl rfl _ rfl _ rfl rfl (by kernel_rfl) (by kernel_rfl) (by kernel_rfl) (GL.of (w:=aC w4) Q9.out) ?_;simp only[pU];refine rE 3 2 8 (GL.of (w:=aC w4) Q9.out) ?_;simp only[aI,aG,aB,aH];go_big_quiet_step (rfl);go_big_quiet_step (rfl);refine wpQuiet_nil ?_;refine rE 6 1 7 (GL.of (w:=aC w4) Q9.out) ?_;simp only[aI,aG,aB,aH]
     refine SN (E:=EP) Fs rfl _ rfl q 0 rfl _ _ _ (Ac (Co now e (Bh c) act)) (Bl _) (by rintro w' ⟨z,rfl⟩;exact z.k1) (Ar _ _) ?_;simp only[pU];refine wpQuiet_nil ?_;refine Jd (i:=9) (some 68) rfl rfl _ rfl _ rfl rfl (by kernel_rfl) (by kernel_rfl) (by kernel_rfl) (GL.of (w:=aC w4) Q9.out) ?_;simp only[pU];refine rE 10 1 5 (GL.of (w:=aC w4) Q9.out) ?_;simp only[aI,aG,aB,aH];go_big_quiet_step (rfl);refine wpQuiet_nil ?_;refine rA 5 7 ?_ ?_
     focus
      refine FF rfl rfl (Cj u1 u2 u3 1) (QQ rfl _ _ ⟨g,5,none⟩ (Cj u1 u2 u3 1) rfl ((Km (Cw.blk (Cw.below TT9.out (by first | exact(aJ _ _).drew | exact(aJ _ _).drew.alloc (aQ _) _)))).bankCell 1 (by decide))) (some 64) rfl ?_;refine⟨GL.of (w:=aC w4) Q9.out,?_⟩;simp only[pU];refine rO 7 ?_;refine Ky rfl rfl _ rfl (Co now e (Bh c) act) rfl (some 66) rfl ?_
     rotate_left
     focus
      refine Ky rfl rfl _ rfl (Co now e (Bh c) act) rfl (some 66) rfl ?_;refine⟨GL.of (Ah _ _ _ _ Q9.out),?_⟩;simp only[pU];refine rO 5 ?_;refine FF rfl rfl (Cj u1 u2 u3 1) (QQ rfl _ _ ⟨g,5,none⟩ (Cj u1 u2 u3 1) rfl ((Km (Cw.blk (Cw.below TT9.out (by first | exact(aJ _ _).drew | exact(aJ _ _).drew.alloc (aQ _) _)))).bankCell 1 (by decide))) (some 64) rfl ?_
     all_goals
      refine⟨GL.of (Ah _ _ _ _ Q9.out),?_⟩;simp only[pU];refine rO 8 ?_;refine MO rfl rfl _ _ rfl B (Cj u1 u2 u3 1) _ (Co now e (Bh c) act) rfl (((TT9.out.below ((aJ _ _).drew.alloc (aQ _) _)).bank 1)) _ 1 rfl (Ab _ _ _ rfl) EN.out (by have h9:=BW9.out.size;have h8:=BB9.out;simp;omega) (some 67) rfl ?_;intro v' w9 hown9 hgr9 hat9;have F9:=Uw (b:=1) (s:=(Co now e (Bh c) act)) T3.out (by decide) (by decide) BW9.out v' w9 hown9 hgr9 hat9;obtain⟨⟨o9,n9,c9,rfl⟩,ce9,fz9,bl9,tt9⟩:=F9;refine⟨GL.of (bl9 _ _ QG9.out Q9.out).1,?_⟩;simp only[pU];refine rE 11 1 1 (GL.of (bl9 _ _ QG9.out Q9.out).1) ?_;simp only[aI,aG,aB,aH];go_big_quiet_step (rfl);refine wpQuiet_nil ?_;refine rO 12 ?_;refine Gx rfl rfl (RB rfl _ _ ⟨g,5,none⟩ _ _ _ _ rfl rfl ce9 fz9) rfl ?_;refine⟨GL.of (bl9 _ _ QG9.out Q9.out).2,?_⟩;refine rD ?_
      exact⟨rfl,_,_,_,_,_,_,_,_,_,_,_,_,_,w9,rfl,rfl,tt9,(bl9 _ _ XG9.out X4.out).2,(bl9 _ _ ZG9.out Z4.out).2⟩
    ·rintro a' w' ⟨y59,y60,y61,y62,y63,y64,y65,y66,y67,y68,y69,y70,v',w9,rfl,rfl,tt9,x9,z9⟩;have T9:Hid _:=tt9;clear tt9;simp only[pU];have X9:Hid _:=x9;have Z9:Hid _:=z9;clear x9 z9;go_wp2_with (first|((with_reducible refine Hy _ rfl ?_);refine Dy rfl _ rfl w3.heap.size 0 rfl x (He X9.out) ?_)|((with_reducible refine Ff _ _ rfl ?_);refine Ck rfl _ _ rfl (w.heap.size+1+1) x AJ rfl rfl Z9.out _ rfl ?_));refine Aaj (p:=10) (u:=11) (u':=12) rfl rfl (w.heap.size+1+1) rfl x (setRow_heap _ _ _ _ _ _ Z9.out) _ _ rfl rfl ?_;rw[EL.out];exact⟨rfl,(Di.step K3.out F3.out T9.out).loc HT.out B2.out (IT _ _ _) fun k e'=>by unfold Cq at e';have:=S2z.out;omega⟩
   ·have EL:Hid (Cr R.cache S.c (Co now e (Bh c) act)=(S.c.set i (Co now e (Bh c) act),AJ,false,0)):=by show _=_;rw[LS.out _ _ _ hl,UW _ hi]
    have T2:Hid _:=HT.out.below B2.out;obtain⟨gb,nb,cap,ev,eo,_⟩:=T2.out.o1.slot (A:=S.c.take i) (x:=x) (D:=S.c.drop (i+1)) (Ez hl).1
    have hlen:nb=S.c.length:=by
     obtain⟨o,cap',e',_⟩:=T2.out.o1.slice;rw[ev] at e';simp only[Value.slice.injEq] at e';exact e'.2.1
    have o1:=T2.out.o1;rw[ev] at o1;obtain⟨cur,hcur,hfit,hst⟩:=o1.store i hi (Co now e (Bh c) act);have CU:Hid _:=hcur;have HST:Hid _:=hst;have hin:(i:Int)<(nb:Int):=by omega
    have G2:Hid (w2.heap[g]?=some (.cells (OD R (.slice (some ⟨gb,0,none⟩) nb cap) v2 v3) 155 (0,0))):=by have h9:=T2.out.blk;rw[ev] at h9;exact h9
    have NGB:Hid (gb≠g):=by show _≠_;intro h9;subst h9;rw[G2.out] at hcur;simp only[aX,Obj.cells.injEq] at hcur;exact absurd hcur.2.1 (by decide)
    have NQB:Hid (gb≠q):=by show _≠_;intro h9;have h8:=(HT.out.o1.lt gb eo).2;have:=QS.out;omega
    have NZB:Hid (gb≠w.heap.size+1+1):=by show _≠_;intro h9;have h8:=(HT.out.o1.lt gb eo).2;omega
    have SZ2:Hid (w.heap.size+1+1<w2.heap.size):=(gS Z2.out)
    have ROW:Hid (∀w6,As (Cq gb) w2 w6→Au B w6 (.slice (some ⟨gb,0,none⟩) nb cap) (S.c.set i (Co now e (Bh c) act))→Di B w2 w6 g R {S with c:=S.c.set i (Co now e (Bh c) act)} v1 v2 v3):=by
     intro w6 hk hs;have key:∀k,Cq gb k→BT (Cj v1 v2 v3 1) k:=fun k e'=>by unfold Cq at e';unfold BT;rw[e'];exact eo
     exact T2.out.row 1 (.inl rfl) _ (hk.mono fun k _ e'=>key k e') (by show Au _ _ v1 _;rw[ev];exact hs)
    have hlc:nb≤1000000:=by omega
    clear hl hcur hst LE LS IX EV ev eo o1 T2 hlen hi hx;clear hn;go_wp2_with fail;refine Ra ?_;have ne9:Nonempty (TM g (.cells (OD R (.slice (some ⟨gb,0,none⟩) nb cap) v2 v3) 155 (0,0)) q (.cells (Ac (Co now e (Bh c) act)) 102 (0,0))):=⟨⟨w2,G2.out,Q2.out⟩⟩;have e9:∀z:TM g (.cells (OD R (.slice (some ⟨gb,0,none⟩) nb cap) v2 v3) 155 (0,0)) q (.cells (Ac (Co now e (Bh c) act)) 102 (0,0)),z.world.cell? ⟨g,5,none⟩=some (.slice (some ⟨gb,0,none⟩) nb cap):=fun z=>(Km z.k1).c5;refine B8 (Lf g (.cells (OD R (.slice (some ⟨gb,0,none⟩) nb cap) v2 v3) 155 (0,0)) q (.cells (Ac (Co now e (Bh c) act)) 102 (0,0))) 9 rfl (by kernel_rfl) ?_;refine rE 0 1 8 (Lf.of (w:=aC w2) G2.out Q2.out) ?_;simp only[aG,aB,aH];go_big_quiet_step (rfl);refine wpQuiet_nil ?_;refine Jd (i:=1) (some 46) rfl rfl _ rfl _ rfl rfl (by kernel_rfl) (by kernel_rfl) (by kernel_rfl) (Lf.of (w:=aC w2) G2.out Q2.out) ?_;simp only[pU];refine rE 2 6 1 (Lf.of (w:=aC w2) G2.out Q2.out) ?_
    simp only[aI,aG,aB,aH]
    iterate 4 (go_big_quiet_step (rfl))
    refine SN (E:=EP) Fs rfl _ rfl q 0 rfl _ _ _ (Ac (Co now e (Bh c) act)) (Bl _) (by rintro w' ⟨z,rfl⟩;exact z.k2) (Ar _ _) ?_;simp only[pU];go_big_quiet_step (rfl);refine wpQuiet_nil ?_;refine rO 8 ?_;refine VK rfl rfl _ _ rfl gb (i*36) (Co now e (Bh c) act) rfl rfl cur 102 CU.out hfit rfl ?_;obtain⟨w6,hw6⟩:=eX ((aC w2).setRow gb (cur.toList.take (i*36)++(Ac (Co now e (Bh c) act)).toList++cur.toList.drop (i*36+36)).toArray);have K6:Hid (As (Cq gb) w2 w6):=by show As _ _ _;rw[hw6];exact(As.of_below (X:=Cq gb) (aJ _ _).drew).trans (IT _ _ _) fun k hk=> .inl hk
    have T6:Hid (Di B w2 w6 g R {S with c:=S.c.set i (Co now e (Bh c) act)} v1 v2 v3):=ROW.out w6 K6.out (HST.out w6 (by rw[hw6];exact setRow_heap _ _ _ _ _ _ CU.out));have Z6:Hid (w6.heap[w.heap.size+1+1]?=some (.cells (Ac AJ) 102 (0,0))):=K6.out.heap Z2.out fun e'=>NZB.out (by unfold Cq at e';exact e'.symm);rw[←hw6];refine⟨Lf.of (K6.out.heap G2.out fun e'=>NGB.out (by unfold Cq at e';exact e'.symm)) (K6.out.heap Q2.out fun e'=>NQB.out (by unfold Cq at e';exact e'.symm)),?_⟩;clear hw6;refine rD ?_;refine⟨rfl,?_⟩;go_wp2_with (first|((with_reducible refine VY rfl ?_);refine Nm rfl rfl ?_)|((with_reducible refine Ff _ _ rfl ?_);refine Ck rfl _ _ rfl (w.heap.size+1+1) AJ AJ rfl rfl Z6.out _ rfl ?_));refine Aaj (p:=10) (u:=11) (u':=12) rfl rfl (w.heap.size+1+1) rfl AJ (setRow_heap _ _ _ _ _ _ Z6.out) _ _ rfl rfl ?_;rw[EL.out];exact⟨rfl,T6.out.loc HT.out B2.out (IT _ _ _) fun k e'=>by unfold Cq at e';have:=SZ2.out;omega⟩
def Bj(x:AP):Array Value:=#[.int .i64 x.kind,.int .i64 x.at_,.int .i64 x.to,.int .i64 x.index,.int .i64 x.epoch,.int .i64 x.action,.int .i64 x.why,.int .i64 x.place]++hv (AC x.head)++cv (AC x.cube.1) (AC x.cube.2)
theorem IB(x:AP):(Bj x).size=47:=by
 unfold Bj;simp only[Array.size_append,Bq _ _ (AV _) (AV _),EW,AV];rfl
theorem Aeo(x:AP):(Bj x).all (·.oneCell')=true:=by
 unfold Bj;rw[Array.all_append,Array.all_append,Ii,Ql];simp[Value.oneCell']
def Hm:El:=⟨72,48,47,104,Bj FB⟩
theorem Jr:Hm.Ok:=⟨Tryz.underlying48,⟨_,Tryz.underlying72,rfl⟩,by kernel_rfl,IB _,by decide,by decide,by decide⟩
theorem P8(x:AP):PB Hm (Bj x):=⟨IB x,Aeo x⟩
def BJ(B:Nat)(w:World)(v:Value)(C:List AP):Prop:=w.ownsRow B 72 47 v C.length (BC Bj C)
theorem BJ.sl{B:Nat}{w:World}{v:Value}{C:List AP}(h:BJ B w v C):Ee Hm Bj w v C:=Ti (E:=Hm) h fun c _=>IB c
theorem BJ.lt{B:Nat}{w:World}{v:Value}{C:List AP}(h:BJ B w v C):∀k,v.ownBlock=some k→B≤k∧k<w.heap.size:=World.ownsRow.lt h
theorem BJ.nil(B:Nat)(w:World):BJ B w (.slice none 0 0) []:=bF _ _ _ _
theorem BJ.kept{X:Nat→Prop}{B:Nat}{w w':World}{v:Value}{C:List AP}(h:BJ B w v C)(hk:As X w w')(hX:∀k,v.ownBlock=some k→¬X k):BJ B w' v C:=hk.own h hX
theorem BJ.below{B:Nat}{w w':World}{v:Value}{C:List AP}(h:BJ B w v C)(hb:Below w.heap.size w w'):BJ B w' v C:=Mp h hb
theorem BJ.slice{B:Nat}{w:World}{v:Value}{C:List AP}(h:BJ B w v C):∃o cap,v=.slice o C.length cap∧C.length≤cap∧cap≤maxLen:=h.sl.slice
def KV(num:Int)(x:Int×List UInt8):Array Value:=#[.int .i64 num,.int .i64 x.1,.string ⟨x.2.toArray⟩]
def Wa:El:=⟨76,53,3,32,#[.int .i64 0,.int .i64 0,.string ⟨#[]⟩]⟩
theorem Ah2:Wa.Ok:=⟨Tryz.underlying53,⟨_,Tryz.underlying76,rfl⟩,by kernel_rfl,rfl,by decide,by decide,by decide⟩
theorem Afa(num:Int)(x:Int×List UInt8):PB Wa (KV num x):=⟨rfl,by simp[KV,Value.oneCell']⟩
def Fc(B:Nat)(w:World)(num:Int)(v:Value)(C:List (Int×List UInt8)):Prop:=w.ownsRow B 76 3 v C.length (BC (KV num) C)
theorem Fc.lt{B:Nat}{w:World}{num:Int}{v:Value}{C:List (Int×List UInt8)}(h:Fc B w num v C):∀k,v.ownBlock=some k→B≤k∧k<w.heap.size:=World.ownsRow.lt h
theorem Fc.nil(B:Nat)(w:World)(num:Int):Fc B w num (.slice none 0 0) []:=bF _ _ _ _
theorem Fc.kept{X:Nat→Prop}{B:Nat}{w w':World}{num:Int}{v:Value}{C:List (Int×List UInt8)}(h:Fc B w num v C)(hk:As X w w')(hX:∀k,v.ownBlock=some k→¬X k):Fc B w' num v C:=hk.own h hX
theorem Fc.below{B:Nat}{w w':World}{num:Int}{v:Value}{C:List (Int×List UInt8)}(h:Fc B w num v C)(hb:Below w.heap.size w w'):Fc B w' num v C:=Mp h hb
def It(w:World)(t:TypeId)(k:Nat):Prop:=∃cs fr,w.heap[k]?=some (.cells cs t fr)
theorem It.one{w:World}{t t':TypeId}{k:Nat}(h:It w t k)(h':It w t' k):t=t':=by
 obtain⟨cs,fr,e⟩:=h;obtain⟨cs',fr',e'⟩:=h';rw[e] at e';simp only[aX,Obj.cells.injEq] at e';exact e'.2.1
theorem It.own{B:Nat}{w:World}{e:TypeId}{s:Nat}{v:Value}{n:Nat}{xs:List Value}(h:w.ownsRow B e s v n xs){k:Nat}(hk:v.ownBlock=some k):It w e k:=by
 obtain⟨_,⟨rfl,_⟩ | ⟨g',cap,cur,rfl,_,h1,_⟩⟩:=h
 ·cases hk
 ·simp only[Value.ownBlock,aX] at hk;subst hk;exact⟨_,_,h1⟩
structure D0 where
 v1:Value
 v2:Value
 v3:Value
 vw:Value
 vl:Value
 vn:Value
def ndV(n:Af Aq)(gt gh gw:Nat)(r:D0):Array Value:=#[.int .i64 n.num,.int .i64 n.lease,.int .i64 n.beat,.int .i64 n.load,.pointer (some ⟨gt,0,none⟩),.pointer (some ⟨gh,0,none⟩),.pointer (some ⟨gw,0,none⟩),r.vl,r.vn]
structure Cb(B:Nat)(w:World)(g gt gh gw:Nat)(R:Rm)(n:Af Aq)(r:D0):Prop where
 blk:w.heap[g]?=some (.cells (ndV n gt gh gw r) 91 (0,0))
 tab:Cw B w gt R n.tab r.v1 r.v2 r.v3
 hold:FY w gh n.hold
 wait:Dt B w gw n.wait r.vw
 post:Fc B w n.num r.vl n.post
 log:BJ B w r.vn n.log
 hB:B≤g
 hH:B≤gh
def Gg(g gt gh gw:Nat)(r:D0):Nat→Nat→Prop
 | 0=>Cq g
 | 1=>Cq gh
 | 2=>Eg gt r.v1 r.v2 r.v3
 | 3=>EO gw r.vw
 | 4=>BT r.vl
 | 5=>BT r.vn
 | _=>fun _=>False
def TU:Nat→List TypeId
 | 0=>[91]
 | 1=>[161]
 | 2=>[155,102]
 | 3=>[157,112]
 | 4=>[76]
 | 5=>[72]
 | _=>[]
def DL(g gt gh gw:Nat)(r:D0)(k:Nat):Prop:=∃i,i<6∧Gg g gt gh gw r i k
section
variable {B:Nat} {w w':World} {g gt gh gw:Nat} {R:Rm} {n:Af Aq} {r:D0}
theorem Cb.ty(h:Cb B w g gt gh gw R n r)(i k:Nat)(hk:Gg g gt gh gw r i k):∃t∈TU i,It w t k:=by
 match i,hk with
 | 0,hk=>obtain rfl:k=g:=hk;exact⟨_,aP.2 rfl,_,_,h.blk⟩
 | 1,hk=>obtain rfl:k=gh:=hk;obtain⟨s,h1,_⟩:=h.hold;exact⟨_,aP.2 rfl,_,_,h1⟩
 | 2,hk=>
  rcases hk with rfl | e | e | e
  ·exact⟨_,aK,_,_,h.tab.blk⟩
  ·exact⟨_,aL _ aK,It.own h.tab.o1 e⟩
  ·exact⟨_,aL _ aK,It.own h.tab.o2 e⟩
  ·exact⟨_,aL _ aK,It.own h.tab.o3 e⟩
 | 3,hk=>
  rcases hk with rfl | e
  ·exact⟨_,aK,_,_,h.wait.blk⟩
  ·exact⟨_,aL _ aK,It.own h.wait.own e⟩
 | 4,hk=>exact⟨_,aP.2 rfl,It.own h.post hk⟩
 | 5,hk=>exact⟨_,aP.2 rfl,It.own h.log hk⟩
 | n+6,hk=>exact hk.elim
theorem Cb.apart(h:Cb B w g gt gh gw R n r){i j:Nat}(hi:i<6)(hj:j<6)(hij:i≠j)(k:Nat)(h1:Gg g gt gh gw r i k):¬Gg g gt gh gw r j k:=fun h2=>by
 obtain⟨t,t1,t2⟩:=h.ty i k h1
 obtain⟨s,s1,s2⟩:=h.ty j k h2
 have e:=t2.one s2
 subst e
 have key:((List.range 6).all fun i=>(List.range 6).all fun j=>i==j || (TU i).all fun t=> !((TU j).contains t))=true:=by decide
 rw[aZ] at key
 have k1:=key i (bP.2 hi)
 rw[aZ] at k1
 have k2:=k1 j (bP.2 hj)
 rw[Bool.or_eq_true,aZ] at k2
 rcases k2 with e | e
 ·exact hij (by simpa using e)
 ·have:=e t t1
  rw[Bool.not_eq_true'] at this
  rw[List.contains_iff_mem.2 s1] at this
  cases this
theorem Cb.foot_in(h:Cb B w g gt gh gw R n r):∀k,DL g gt gh gw r k→B≤k∧k<w.heap.size:=by
 rintro k ⟨i,_,hk⟩;match i,hk with
 | 0,hk=>obtain rfl:k=g:=hk;exact⟨h.hB,(gS h.blk)⟩
 | 1,hk=>obtain rfl:k=gh:=hk;exact⟨h.hH,h.hold.lt⟩
 | 2,hk=>exact h.tab.foot_in k hk
 | 3,hk=>exact h.wait.foot_in k hk
 | 4,hk=>exact h.post.lt k hk
 | 5,hk=>exact h.log.lt k hk
 | n+6,hk=>exact hk.elim
theorem Cb.hw(h:Cb B w g gt gh gw R n r):B≤w.heap.size:=by have:=h.foot_in g ⟨0,by decide,rfl⟩;omega
theorem Cb.kept{X:Nat→Prop}(h:Cb B w g gt gh gw R n r)(hk:As X w w')(hX:∀k,DL g gt gh gw r k→¬X k):Cb B w' g gt gh gw R n r:=
 ⟨hk.heap h.blk (hX _ ⟨0,by decide,rfl⟩),h.tab.kept hk fun k e=>hX k ⟨2,by decide,e⟩,h.hold.kept hk (hX _ ⟨1,by decide,rfl⟩),h.wait.kept hk fun k e=>hX k ⟨3,by decide,e⟩,h.post.kept hk fun k e=>hX k ⟨4,by decide,e⟩,h.log.kept hk fun k e=>hX k ⟨5,by decide,e⟩,h.hB,h.hH⟩
theorem Cb.below(h:Cb B w g gt gh gw R n r)(hb:Below w.heap.size w w'):Cb B w' g gt gh gw R n r:=h.kept (X:=fun _=>False) (As.of_below hb) fun _ _ e=>e
def Dl(B:Nat)(w w':World)(g gt gh gw:Nat)(R:Rm)(n':Af Aq)(r:D0):Prop:=∃u,Cb B w' g gt gh gw R n' u∧FQ (DL g gt gh gw r) (DL g gt gh gw u) w w'
theorem Dl.pre{w1 w2:World}{n':Af Aq}(hb:Below w.heap.size w w1)(h:Dl B w1 w2 g gt gh gw R n' r):Dl B w w2 g gt gh gw R n' r:=by
 obtain⟨u,h1,h2⟩:=h;exact⟨u,h1,h2.pre hb⟩
theorem Dl.below(h:Cb B w g gt gh gw R n r){n':Af Aq}(ht:Dl B w w' g gt gh gw R n' r):Below B w w':=by
 obtain⟨u,_,h2⟩:=ht;exact h2.kept.below (fun k hk=>(h.foot_in k hk).1) h.hw
theorem Cb.part(_:Cb B w g gt gh gw R n r){i:Nat}(hi:i<6){w':World}{u:D0}(hk:As (Gg g gt gh gw r i) w w')(ho:∀j,j≠i→Gg g gt gh gw u j=Gg g gt gh gw r j)(hn:∀k,Gg g gt gh gw u i k→Gg g gt gh gw r i k∨w.heap.size≤k):FQ (DL g gt gh gw r) (DL g gt gh gw u) w w':=
 ⟨hk.mono fun k _ e=>⟨i,hi,e⟩,fun k e=>by
  obtain⟨j,hj,e⟩:=e
  by_cases hji:j=i
  ·subst hji
   rcases hn k e with q | q
   ·exact .inl ⟨j,hj,q⟩
   ·exact .inr q
  ·rw[ho j hji] at e
   exact .inl ⟨j,hj,e⟩⟩
theorem Cb.off(h:Cb B w g gt gh gw R n r){i j:Nat}(hi:i<6)(hj:j<6)(hij:i≠j):∀k,Gg g gt gh gw r i k→¬Gg g gt gh gw r j k:=h.apart hi hj hij
theorem Cb.setTab(h:Cb B w g gt gh gw R n r){S':Aq}(ht:Di B w w' gt R S' r.v1 r.v2 r.v3):Dl B w w' g gt gh gw R (AX n S') r:=by
 obtain⟨u1,u2,u3,h1,h2,h3⟩:=ht;have hk:As (Gg g gt gh gw r 2) w w':=h2;refine⟨{r with v1:=u1,v2:=u2,v3:=u3},⟨hk.heap h.blk (h.off (i:=0) (j:=2) (by decide) (by decide) (by decide) g rfl),h1,h.hold.kept hk (h.off (i:=1) (j:=2) (by decide) (by decide) (by decide) gh rfl),h.wait.kept hk (h.off (i:=3) (j:=2) (by decide) (by decide) (by decide)),h.post.kept hk (h.off (i:=4) (j:=2) (by decide) (by decide) (by decide)),h.log.kept hk (h.off (i:=5) (j:=2) (by decide) (by decide) (by decide)),h.hB,h.hH⟩,h.part (i:=2) (by decide) hk (fun j hj=> ?_) h3⟩;match j,hj with
 | 0,_=>rfl
 | 1,_=>rfl
 | 2,hj=>exact absurd rfl hj
 | 3,_=>rfl
 | 4,_=>rfl
 | 5,_=>rfl
 | j+6,_=>rfl
theorem Cb.setHold(h:Cb B w g gt gh gw R n r){k:Bb}(ht:IQ w w' gh k):Dl B w w' g gt gh gw R (Bi n k) r:=by
 obtain⟨h1,h2⟩:=ht;have hk:As (Gg g gt gh gw r 1) w w':=h2;exact⟨r,⟨hk.heap h.blk (h.off (i:=0) (j:=1) (by decide) (by decide) (by decide) g rfl),h.tab.kept hk (h.off (i:=2) (j:=1) (by decide) (by decide) (by decide)),h1,h.wait.kept hk (h.off (i:=3) (j:=1) (by decide) (by decide) (by decide)),h.post.kept hk (h.off (i:=4) (j:=1) (by decide) (by decide) (by decide)),h.log.kept hk (h.off (i:=5) (j:=1) (by decide) (by decide) (by decide)),h.hB,h.hH⟩,h.part (i:=1) (by decide) hk (fun _ _=>rfl) fun _ e=> .inl e⟩
theorem Cb.setWait(h:Cb B w g gt gh gw R n r){m:Be}{v:Value}(h1:Dt B w' gw m v)(h2:FQ (EO gw r.vw) (EO gw v) w w'):Dl B w w' g gt gh gw R (Db n m) r:=by
 have hk:As (Gg g gt gh gw r 3) w w':=h2.kept;refine⟨{r with vw:=v},⟨hk.heap h.blk (h.off (i:=0) (j:=3) (by decide) (by decide) (by decide) g rfl),h.tab.kept hk (h.off (i:=2) (j:=3) (by decide) (by decide) (by decide)),h.hold.kept hk (h.off (i:=1) (j:=3) (by decide) (by decide) (by decide) gh rfl),h1,h.post.kept hk (h.off (i:=4) (j:=3) (by decide) (by decide) (by decide)),h.log.kept hk (h.off (i:=5) (j:=3) (by decide) (by decide) (by decide)),h.hB,h.hH⟩,h.part (i:=3) (by decide) hk (fun j hj=> ?_) h2.foot⟩;match j,hj with
 | 0,_=>rfl
 | 1,_=>rfl
 | 2,_=>rfl
 | 3,hj=>exact absurd rfl hj
 | 4,_=>rfl
 | 5,_=>rfl
 | j+6,_=>rfl
theorem Cb.setWaitTo(h:Cb B w g gt gh gw R n r){m:Be}(ht:Nh B w w' gw m r.vw):Dl B w w' g gt gh gw R (Db n m) r:=by
 obtain⟨u,h1,h2⟩:=ht;exact h.setWait h1 h2
theorem Cb.setCell(h:Cb B w g gt gh gw R n r){j:Nat}{v:Value}{n':Af Aq}{u:D0}(hs:(ndV n gt gh gw r).setIfInBounds j v=ndV n' gt gh gw u)(h1:n'.tab=n.tab)(h2:n'.hold=n.hold)(h3:n'.wait=n.wait)(e1:u.v1=r.v1)(e2:u.v2=r.v2)(e3:u.v3=r.v3)(e4:u.vw=r.vw)(hp:Fc B w n'.num u.vl n'.post)(hl:BJ B w u.vn n'.log):Cb B (w.setCell ⟨g,j,none⟩ v) g gt gh gw R n' u∧As (Cq g) w (w.setCell ⟨g,j,none⟩ v):=by
 have hk:As (Gg g gt gh gw r 0) w (w.setCell ⟨g,j,none⟩ v):=⟨rfl,rfl,rfl,by simp[aN],fun k' _ e=>heap_setCell_other w ⟨g,j,none⟩ k' _ e⟩;refine⟨⟨?_,?_,?_,?_,?_,?_,h.hB,h.hH⟩,hk⟩
 ·rw[heap_setCell_same w g j _ _ _ h.blk,hs]
 ·rw[h1,e1,e2,e3];exact h.tab.kept hk (h.off (i:=2) (j:=0) (by decide) (by decide) (by decide))
 ·rw[h2];exact h.hold.kept hk (h.off (i:=1) (j:=0) (by decide) (by decide) (by decide) gh rfl)
 ·rw[h3,e4];exact h.wait.kept hk (h.off (i:=3) (j:=0) (by decide) (by decide) (by decide))
 ·refine hp.kept hk fun k hk' e=> ?_;have t1:=It.own hp hk';obtain rfl:k=g:=e;exact absurd (t1.one ⟨_,_,h.blk⟩) (by decide)
 ·refine hl.kept hk fun k hk' e=> ?_;have t1:=It.own hl hk';obtain rfl:k=g:=e;exact absurd (t1.one ⟨_,_,h.blk⟩) (by decide)
theorem Cb.putLog(h:Cb B w g gt gh gw R n r){w1:World}{u:Value}{L:List AP}(hk:As (BT r.vn) w w1)(hu:BJ B w1 u L)(hu2:∀k,u.ownBlock=some k→r.vn.ownBlock=some k∨w.heap.size≤k):Dl B w (w1.setCell ⟨g,8,none⟩ u) g gt gh gw R {n with log:=L} r:=by
 have hk5:As (Gg g gt gh gw r 5) w w1:=hk;have hblk:=hk5.heap h.blk (h.off (i:=0) (j:=5) (by decide) (by decide) (by decide) g rfl);have hk0:As (Gg g gt gh gw r 0) w1 (w1.setCell ⟨g,8,none⟩ u):=⟨rfl,rfl,rfl,by simp[aN],fun k' _ e=>heap_setCell_other w1 ⟨g,8,none⟩ k' _ e⟩;refine⟨{r with vn:=u},⟨?_,?_,?_,?_,?_,?_,h.hB,h.hH⟩,⟨?_,?_⟩⟩
 ·rw[heap_setCell_same w1 g 8 _ _ _ hblk];rfl
 ·exact(h.tab.kept hk5 (h.off (i:=2) (j:=5) (by decide) (by decide) (by decide))).kept hk0 (h.off (i:=2) (j:=0) (by decide) (by decide) (by decide))
 ·exact(h.hold.kept hk5 (h.off (i:=1) (j:=5) (by decide) (by decide) (by decide) gh rfl)).kept hk0 (h.off (i:=1) (j:=0) (by decide) (by decide) (by decide) gh rfl)
 ·exact(h.wait.kept hk5 (h.off (i:=3) (j:=5) (by decide) (by decide) (by decide))).kept hk0 (h.off (i:=3) (j:=0) (by decide) (by decide) (by decide))
 ·exact(h.post.kept hk5 (h.off (i:=4) (j:=5) (by decide) (by decide) (by decide))).kept hk0 (h.off (i:=4) (j:=0) (by decide) (by decide) (by decide))
 ·refine hu.kept hk0 fun k hk' e=> ?_;have t1:=It.own hu hk';obtain rfl:k=g:=e;exact absurd (t1.one ⟨_,_,hblk⟩) (by decide)
 ·exact(hk5.mono (Y:=DL g gt gh gw r) fun k _ e=>⟨5,by decide,e⟩).trans hk0 fun k e=> .inl ⟨0,by decide,e⟩
 ·rintro k ⟨j,hj,e⟩;match j,hj,e with
  | 0,_,e=>exact .inl ⟨0,by decide,e⟩
  | 1,_,e=>exact .inl ⟨1,by decide,e⟩
  | 2,_,e=>exact .inl ⟨2,by decide,e⟩
  | 3,_,e=>exact .inl ⟨3,by decide,e⟩
  | 4,_,e=>exact .inl ⟨4,by decide,e⟩
  | 5,_,e=>
   rcases hu2 k e with q | q
   ·exact .inl ⟨5,by decide,q⟩
   ·exact .inr q
  | j+6,hj,_=>omega
theorem Cb.putPost(h:Cb B w g gt gh gw R n r){w1:World}{u:Value}{L:List (Int×List UInt8)}(hk:As (BT r.vl) w w1)(hu:Fc B w1 n.num u L)(hu2:∀k,u.ownBlock=some k→r.vl.ownBlock=some k∨w.heap.size≤k):Dl B w (w1.setCell ⟨g,7,none⟩ u) g gt gh gw R {n with post:=L} r:=by
 have hk5:As (Gg g gt gh gw r 4) w w1:=hk;have hblk:=hk5.heap h.blk (h.off (i:=0) (j:=4) (by decide) (by decide) (by decide) g rfl);have hk0:As (Gg g gt gh gw r 0) w1 (w1.setCell ⟨g,7,none⟩ u):=⟨rfl,rfl,rfl,by simp[aN],fun k' _ e=>heap_setCell_other w1 ⟨g,7,none⟩ k' _ e⟩;refine⟨{r with vl:=u},⟨?_,?_,?_,?_,?_,?_,h.hB,h.hH⟩,⟨?_,?_⟩⟩
 ·rw[heap_setCell_same w1 g 7 _ _ _ hblk];rfl
 ·exact(h.tab.kept hk5 (h.off (i:=2) (j:=4) (by decide) (by decide) (by decide))).kept hk0 (h.off (i:=2) (j:=0) (by decide) (by decide) (by decide))
 ·exact(h.hold.kept hk5 (h.off (i:=1) (j:=4) (by decide) (by decide) (by decide) gh rfl)).kept hk0 (h.off (i:=1) (j:=0) (by decide) (by decide) (by decide) gh rfl)
 ·exact(h.wait.kept hk5 (h.off (i:=3) (j:=4) (by decide) (by decide) (by decide))).kept hk0 (h.off (i:=3) (j:=0) (by decide) (by decide) (by decide))
 ·refine hu.kept hk0 fun k hk' e=> ?_;have t1:=It.own hu hk';obtain rfl:k=g:=e;exact absurd (t1.one ⟨_,_,hblk⟩) (by decide)
 ·exact(h.log.kept hk5 (h.off (i:=5) (j:=4) (by decide) (by decide) (by decide))).kept hk0 (h.off (i:=5) (j:=0) (by decide) (by decide) (by decide))
 ·exact(hk5.mono (Y:=DL g gt gh gw r) fun k _ e=>⟨4,by decide,e⟩).trans hk0 fun k e=> .inl ⟨0,by decide,e⟩
 ·rintro k ⟨j,hj,e⟩;match j,hj,e with
  | 0,_,e=>exact .inl ⟨0,by decide,e⟩
  | 1,_,e=>exact .inl ⟨1,by decide,e⟩
  | 2,_,e=>exact .inl ⟨2,by decide,e⟩
  | 3,_,e=>exact .inl ⟨3,by decide,e⟩
  | 4,_,e=>
   rcases hu2 k e with q | q
   ·exact .inl ⟨4,by decide,q⟩
   ·exact .inr q
  | 5,_,e=>exact .inl ⟨5,by decide,e⟩
  | j+6,hj,_=>omega
end
structure NdF(w:World)(g gt gh gw:Nat)(n:Af Aq)(r:D0):Prop where
 c0:w.cell? ⟨g,0,none⟩=some (.int .i64 n.num)
 c1:w.cell? ⟨g,1,none⟩=some (.int .i64 n.lease)
 c2:w.cell? ⟨g,2,none⟩=some (.int .i64 n.beat)
 c3:w.cell? ⟨g,3,none⟩=some (.int .i64 n.load)
 c4:w.cell? ⟨g,4,none⟩=some (.pointer (some ⟨gt,0,none⟩))
 c5:w.cell? ⟨g,5,none⟩=some (.pointer (some ⟨gh,0,none⟩))
 c6:w.cell? ⟨g,6,none⟩=some (.pointer (some ⟨gw,0,none⟩))
 c7:w.cell? ⟨g,7,none⟩=some r.vl
 c8:w.cell? ⟨g,8,none⟩=some r.vn
 fz:∀k,w.frozen? ⟨g,k,none⟩=false
theorem S6{w:World}{g gt gh gw:Nat}{n:Af Aq}{r:D0}{t:TypeId}(h:w.heap[g]?=some (.cells (ndV n gt gh gw r) t (0,0))):NdF w g gt gh gw n r:=
 ⟨by rw[cell_of_row w g _ _ _ _ h];rfl,by rw[cell_of_row w g _ _ _ _ h];rfl,by rw[cell_of_row w g _ _ _ _ h];rfl,by rw[cell_of_row w g _ _ _ _ h];rfl,by rw[cell_of_row w g _ _ _ _ h];rfl,by rw[cell_of_row w g _ _ _ _ h];rfl,by rw[cell_of_row w g _ _ _ _ h];rfl,by rw[cell_of_row w g _ _ _ _ h];rfl,by rw[cell_of_row w g _ _ _ _ h];rfl,fun k=>by simp[World.frozen?,h]⟩
theorem Cb.f{B:Nat}{w:World}{g gt gh gw:Nat}{R:Rm}{n:Af Aq}{r:D0}(h:Cb B w g gt gh gw R n r):NdF w g gt gh gw n r:=S6 h.blk
end
end Go.Proofs.YtbhkoipcpcoooaaGreat
