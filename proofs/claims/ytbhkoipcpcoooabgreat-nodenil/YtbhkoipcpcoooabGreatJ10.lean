import Derived.Test.YtbhkoipcpcoooabGreatJ9
import Derived.Test.YtbhkoipcpcoooabGreatJ1
import Derived.Test.YtbhkoipcpcoooabGreatJ3
import Derived.BigRegion
import Derived.BigQuiet
import Derived.Great.Walk
namespace Go.Proofs.YtbhkoipcpcoooabGreat
set_option maxRecDepth 20000
set_option maxHeartbeats 64000000
open Go
open Go.Proofs.Tryz renaming prog → aA, ntmps82 → aG, func82 → aH, ntmps86 → aK, func86 → aM
open _root_.Nat renaming le_succ → aB, le_trans → aQ, le_refl → aT
open Go.RowKit.Below renaming refl → aC
open _root_.List renaming length_append → aD, length_singleton → aO
open Go.Result renaming andThen_ok → aI
open Go.Sem renaming run_bind → aL, run_pure → aP
section
open Go.RowKit
theorem W6(w:World)(inc:Int):
  Calls aA 30 #[.int .i64 inc] w fun x w'=>x=.returned (.pointer (some ⟨w.heap.size,0,none⟩))∧Et w' w.heap.size ⟨inc,0,0,0,0,0,0,0,0⟩∧Below w.heap.size w w':=by
 go_enter Tryz.func30,Tryz.ntmps30;go_wp2_with fail;go_ret;exact⟨rfl,Ac _ _ _ rfl,(aC _ _).alloc (aT _) _⟩
theorem Ad0(w:World)(g:Nat)(s:DW)(h:Et w g s):
  Calls aA 19 #[.pointer (some ⟨g,0,none⟩)] w fun x w'=>x=.returned (.int .i64 s.inc)∧w'=w:=by
 have c:=h.f.c0;clear h;go_enter Tryz.func19,Tryz.ntmps19;go_wp2_with fail;go_ret;exact⟨rfl,rfl⟩
theorem XH(w:World)(g:Nat)(s:DW)(h:Et w g s):
  Calls aA 22 #[.pointer (some ⟨g,0,none⟩)] w fun x w'=>x=.returned (.int .i64 s.floor)∧w'=w:=by
 have c:=h.f.c1;clear h;go_enter Tryz.func22,Tryz.ntmps22;go_wp2_with fail;go_ret;exact⟨rfl,rfl⟩
theorem Abj(w:World)(g:Nat)(s:DW)(h:Et w g s):
  Calls aA 23 #[.pointer (some ⟨g,0,none⟩)] w fun x w'=>x=.returned (.int .i64 s.top)∧w'=w:=by
 have c:=h.f.c2;clear h;go_enter Tryz.func23,Tryz.ntmps23;go_wp2_with fail;go_ret;exact⟨rfl,rfl⟩
theorem Abh(w:World)(g:Nat)(s:DW)(h:Et w g s):
  Calls aA 20 #[.pointer (some ⟨g,0,none⟩)] w fun x w'=>x=.returned (.int .i64 s.use)∧w'=w:=by
 have c:=h.f.c7;clear h;go_enter Tryz.func20,Tryz.ntmps20;go_wp2_with fail;go_ret;exact⟨rfl,rfl⟩
theorem Nf(w:World)(g:Nat)(s:DW)(h:Et w g s)(e:Int):
  Calls aA 72 #[.pointer (some ⟨g,0,none⟩),.int .i64 e] w fun x w'=>x=.returned (.tuple #[.int .i64 (Cp s e).1,.int .i64 (Cp s e).2])∧Below w.heap.size w w':=by
 have HH:=Lp w g s h e;obtain⟨a,ha⟩:=eX ((Cp s e).1);obtain⟨b,hb⟩:=eX ((Cp s e).2);rw[←ha, ←hb] at HH ⊢;clear h ha hb;go_enter Tryz.func72,Tryz.ntmps72;go_wp2_with (go_at_call 96;refine HH.mono ?_;rintro e w1 ⟨rfl,hb1⟩);have B1:Hid (Below w.heap.size w (w1.alloc (.cells #[.int .i64 a,.int .i64 b] 95))):=hb1.alloc hb1.size _;go_region;go_wp2_with fail;go_ret2;exact⟨rfl,B1.out.drew⟩
theorem OY(w:World)(g:Nat)(s:DW)(h:Et w g s)(e:Int):
  Calls aA 87 #[.pointer (some ⟨g,0,none⟩),.int .i64 e] w fun x w'=>x=.returned (.bool (decide (0<(Cp s e).1)&&decide ((Cp s e).1=(Cp s e).2)))∧Below w.heap.size w w':=by
 have HH:=Nf w g s h e;obtain⟨a,ha⟩:=eX ((Cp s e).1);obtain⟨b,hb⟩:=eX ((Cp s e).2);rw[←ha, ←hb] at HH ⊢;clear h ha hb;by_cases h1:0<a
 ·rw[decide_eq_true h1,Bool.true_and];go_enter Tryz.func87,Tryz.ntmps87;go_wp2_with (go_at_call 72;refine HH.mono ?_;rintro e w1 ⟨rfl,hb1⟩);go_ret;exact⟨Ef (by by_cases h:a=b <;> simp[h]),hb1⟩
 ·rw[decide_eq_false h1,Bool.false_and];go_enter Tryz.func87,Tryz.ntmps87;go_wp2_with (go_at_call 72;refine HH.mono ?_;rintro e w1 ⟨rfl,hb1⟩);go_ret;exact⟨rfl,hb1⟩
theorem WN(w:World)(g:Nat)(s:DW)(h:Et w g s)(e m o:Int):
  Calls aA 108 #[.pointer (some ⟨g,0,none⟩),.int .i64 e,.agg #[.int .i64 m,.int .i64 o]] w fun x w'=>x=.returned (.tuple #[])∧Dz w w' g (Hc s e m o):=by
 obtain⟨W,hW⟩:=eX (w.alloc (.cells #[.int .i64 m,.int .i64 o] 95));have B0:Hid (Below w.heap.size w W):=by show Below _ _ _;rw[hW];exact(aC _ _).alloc (aT _) _
 have V0:Hid (Et W g s):=h.below B0.out;have F:=V0.out.f;have c1:=F.c1;have c3:=F.c3;have c4:=F.c4;have c5:=F.c5;have c6:=F.c6;have fz:=F.fz;have T0:=V0.out.stay (aC _ _);rw[hW] at c1 c3 c4 c5 c6 fz;unfold Hc;by_cases h1:e=s.floor
 ·have d1:(e==s.floor)=true:=by simpa using h1
  rw[if_pos h1];have T2:Hid (Dz w ((W.setCell ⟨g,3,none⟩ (.int .i64 m)).setCell ⟨g,4,none⟩ (.int .i64 o)) g {s with lm:=m,lo:=o}):=Dz.pre B0.out ((T0.setC 3 (.int .i64 m) {s with lm:=m} rfl).setC 4 (.int .i64 o) {s with lm:=m,lo:=o} rfl);rw[hW] at T2;clear h1 F T0 h V0 B0 hW;go_enter Tryz.func108,Tryz.ntmps108;go_wp2_with fail;refine bodyPost_ret (results_none rfl _ _ _) rfl ?_;exact⟨rfl,T2.out⟩
 ·have d1:(e==s.floor)=false:=by simpa using h1
  rw[if_neg h1];have T2:Hid (Dz w ((W.setCell ⟨g,5,none⟩ (.int .i64 m)).setCell ⟨g,6,none⟩ (.int .i64 o)) g {s with hm:=m,ho:=o}):=Dz.pre B0.out ((T0.setC 5 (.int .i64 m) {s with hm:=m} rfl).setC 6 (.int .i64 o) {s with hm:=m,ho:=o} rfl);rw[hW] at T2;clear h1 F T0 h V0 B0 hW;go_enter Tryz.func108,Tryz.ntmps108;go_wp2_with fail;refine bodyPost_end (results_none rfl _ _ _) rfl ?_;exact⟨rfl,T2.out⟩
theorem MZ(w:World)(g:Nat)(s:DW)(h:Et w g s)(f:Int):
  Calls aA 105 #[.pointer (some ⟨g,0,none⟩),.int .i64 f] w fun x w'=>x=.returned (.tuple #[])∧Dz w w' g (KU s f):=by
 have c1:=h.f.c1;have c2:=h.f.c2;unfold KU;by_cases h1:s.floor<f
 ·rw[if_pos h1];obtain⟨M,hM⟩:=eX (max f s.top);have HMX:Hid _:=hM;have HM:=R8 w g s h f (max f s.top);rw[←hM] at HM ⊢;have d1:f>s.floor:=h1;clear hM;clear h1 h;go_enter Tryz.func105,Tryz.ntmps105
  go_wp2_with (first
   | (refine MB rfl (.tmp 12) (.tmp 16) rfl f s.top M rfl rfl HMX.out ?_)
   | (go_at_call 129;refine HM.mono ?_;rintro e w1 ⟨rfl,hb1⟩))
  refine bodyPost_end (results_none rfl _ _ _) rfl ?_;exact⟨rfl,hb1⟩
 ·rw[if_neg h1];have d1:¬f>s.floor:=h1;have HS:Hid (Dz w w g s):=h.stay (aC _ _);clear h1 h;go_enter Tryz.func105,Tryz.ntmps105;go_wp2_with fail;refine bodyPost_end (results_none rfl _ _ _) rfl ?_;exact⟨rfl,HS.out⟩
theorem Tc(w:World)(g:Nat)(s:DW)(h:Et w g s)(e:Int):
  Calls aA 106 #[.pointer (some ⟨g,0,none⟩),.int .i64 e] w fun x w'=>x=.returned (.tuple #[])∧Dz w w' g (KV s e):=by
 have c1:=h.f.c1;have c2:=h.f.c2;unfold KV;by_cases h1:s.top<e
 ·rw[if_pos h1];have HM:=R8 w g s h s.floor e;have d1:e>s.top:=h1;clear h1 h;go_enter Tryz.func106,Tryz.ntmps106;go_wp2_with (go_at_call 129;refine HM.mono ?_;rintro e w1 ⟨rfl,hb1⟩);refine bodyPost_end (results_none rfl _ _ _) rfl ?_;exact⟨rfl,hb1⟩
 ·rw[if_neg h1];have d1:¬e>s.top:=h1;have HS:Hid (Dz w w g s):=h.stay (aC _ _);clear h1 h;go_enter Tryz.func106,Tryz.ntmps106;go_wp2_with fail;refine bodyPost_end (results_none rfl _ _ _) rfl ?_;exact⟨rfl,HS.out⟩
def Er(w:World)(g:Nat)(h:AP):Prop:=∃s,Et w g s∧J4 s h
def Ge(w w':World)(g:Nat)(h:AP):Prop:=Er w' g h∧Ao (Cj g) w w'
theorem Er.below{w w':World}{g:Nat}{h:AP}(hV:Er w g h)(hb:Below w.heap.size w w'):Er w' g h:=by
 obtain⟨s,h1,h2⟩:=hV;exact⟨s,h1.below hb,h2⟩
theorem Er.stay{w w':World}{g:Nat}{h:AP}(hV:Er w g h)(hb:Below w.heap.size w w'):Ge w w' g h:=⟨hV.below hb,Ao.of_below hb⟩
theorem Er.lt{w:World}{g:Nat}{h:AP}(hV:Er w g h):g<w.heap.size:=by
 obtain⟨s,h1,h2⟩:=hV;exact h1.lt
theorem Er.kept{X:Nat→Prop}{w w':World}{g:Nat}{h:AP}(hV:Er w g h)(hk:Ao X w w')(hX:¬X g):Er w' g h:=by
 obtain⟨s,h1,h2⟩:=hV;exact⟨s,hk.heap h1 hX,h2⟩
theorem Zt(w:World)(g:Nat)(h:AP)(hV:Er w g h)(fl ep at_ of:Int)(hof:of≤9223372036854775807):
  Calls aA 82 #[.pointer (some ⟨g,0,none⟩),.int .i64 fl,.int .i64 ep,.int .i64 at_,.int .i64 of] w fun x w'=>x=.returned (.int .i64 (Dg h fl ep at_ of).2)∧Ge w w' g (Dg h fl ep at_ of).1:=by
 have ST:Hid (Ge w w g h):=hV.stay (aC _ _);obtain⟨s,hs,hr⟩:=hV;unfold Dg;by_cases h0:fl<0∨ep<1∨at_<0∨of≤at_
 ·rw[if_pos h0];clear hs hr;by_cases h1:fl<0
  ·clear h0;go_enter aH,aG;go_wp2_with fail;go_ret;exact⟨rfl,ST.out⟩
  by_cases h2:ep<1
  ·clear h0;go_enter aH,aG;go_wp2_with fail;go_ret;exact⟨rfl,ST.out⟩
  by_cases h3:at_<0
  ·clear h0;go_enter aH,aG;go_wp2_with fail;go_ret;exact⟨rfl,ST.out⟩
  have h4:of≤at_:=by omega
  clear h0;go_enter aH,aG;go_wp2_with fail;go_ret;exact⟨rfl,ST.out⟩
 ·rw[if_neg h0];have r1:=QK hr fl;have C1:=MZ w g s hs fl;obtain⟨s1,hs1⟩:=eX (KU s fl);rw[←hs1] at r1 C1;have r2:=XN r1 ep;have C2:Hid (∀W,Et W g s1→Calls aA 106 #[.pointer (some ⟨g,0,none⟩),.int .i64 ep] W fun x w'=>x=.returned (.tuple #[])∧Dz W w' g (KV s1 ep)):=fun W hW=>Tc W g s1 hW ep;obtain⟨s2,hs2⟩:=eX (KV s1 ep);rw[←hs2] at r2 C2;obtain⟨h2,hh2⟩:=eX (Ey (D5 h fl) ep);rw[←hh2] at r2 ⊢;have e2:=r2.held ep;have C3:Hid (∀W,Et W g s2→Calls aA 96 #[.pointer (some ⟨g,0,none⟩),.int .i64 ep] W fun x w'=>x=.returned (.agg #[.int .i64 (Cp s2 ep).1,.int .i64 (Cp s2 ep).2])∧Below W.heap.size W w'):=fun W hW=>Lp W g s2 hW ep
  have C4:Hid (∀W,Et W g s2→Calls aA 107 #[.pointer (some ⟨g,0,none⟩),.int .i64 ep] W fun x w'=>x=.returned (.bool (decide (ep=h2.floor∨ep=h2.top)))∧w'=W):=by
   intro W hW;rw[←r2.floor, ←r2.top];exact O9 W g _ _ hW.f.c1 hW.f.c2 ep
  have C5:Hid (∀W,Et W g s2→∀m o,Calls aA 108 #[.pointer (some ⟨g,0,none⟩),.int .i64 ep,.agg #[.int .i64 m,.int .i64 o]] W fun x w'=>x=.returned (.tuple #[])∧Dz W w' g (Hc s2 ep m o)):=fun W hW m o=>WN W g s2 hW ep m o;have R2:Hid (J4 s2 h2):=r2;rw[e2] at C3;dsimp only at C3;obtain⟨n,hn⟩:∃n:Nat,n=(h2.cnt ep).1:=⟨_,rfl⟩;obtain⟨o,ho⟩:∃o:Int,o=(h2.cnt ep).2:=⟨_,rfl⟩;rw[←hn, ←ho] at C3 ⊢;obtain⟨b,hb⟩:=eX (decide (ep=h2.floor∨ep=h2.top));rw[←hb] at C4;have d1:¬fl<0:=by omega
  have d2:¬ep<1:=by omega
  have d3:¬at_<0:=by omega
  have d4:¬of≤at_:=by omega
  have HN:Hid (n=(h2.cnt ep).1∧(b=decide (ep=h2.floor∨ep=h2.top))):=⟨hn,hb⟩;obtain⟨res,hres⟩:=eX ((if (ep≠h2.floor∧ep≠h2.top)∨(0<n∧o≠of)∨(n:Int)<at_ then (h2,(0:Int)) else if at_<(n:Int) then (h2,2) else (GK h2 ep of,1)));rw[←hres];have HR:Hid (res=(if (ep≠h2.floor∧ep≠h2.top)∨(0<n∧o≠of)∨(n:Int)<at_ then (h2,(0:Int)) else if at_<(n:Int) then (h2,2) else (GK h2 ep of,1))):=hres;clear h0 hr r1 r2 e2 hs1 hs2 hh2 hn ho hb hres hs ST;go_enter aH,aG;go_wp2_with (go_at_call 105;refine C1.mono ?_;rintro e w1 ⟨rfl,t1⟩;refine Aw ?_);unfold AZ;have T1:Hid (Dz w w1 g s1):=t1;have c2:=C2.out w1 t1.1;clear t1 C1 C2;go_wp2_with (go_at_call 106;refine c2.mono ?_;rintro e w2 ⟨rfl,t2⟩;refine Aw ?_);unfold AZ;have T2:Hid (Dz w w2 g s2):=T1.out.trans t2;have c3:=C3.out w2 t2.1;clear t2 c2 T1 C3;go_wp2_with (go_at_call 96;refine c3.mono ?_;rintro e w3 ⟨rfl,b3⟩;refine Aw ?_);unfold AZ;obtain⟨W,hW⟩:=eX (w3.alloc (.cells #[.int .i64 (n:Int),.int .i64 o] 95))
  have T3:Hid (Dz w W g s2):=by
   show Dz _ _ _ _;rw[hW];exact(T2.out.add b3).add ((aC _ _).alloc (aT _) _)
  have c4:=C4.out W T3.out.1
  have NB:Hid (W.heap[w3.heap.size]?=some (.cells #[.int .i64 (n:Int),.int .i64 o] 95 (0,0))):=by
   show _=_;rw[hW];exact Ac _ _ _ rfl
  rw[hW] at c4;clear c3 T2 b3 C4;go_wp2_with (go_at_call 107;refine Aw ?_);unfold AZ;rw[←hW] at c4 ⊢;have n0:W.cell? ⟨w3.heap.size,0,none⟩=some (.int .i64 (n:Int)):=by rw[cell_of_row W _ _ _ _ _ NB.out];rfl
  have n1:W.cell? ⟨w3.heap.size,1,none⟩=some (.int .i64 o):=by rw[cell_of_row W _ _ _ _ _ NB.out];rfl
  have c5:=C5.out W T3.out.1 (at_+1) of;clear hW NB C5;refine c4.mono ?_;rintro e w4 ⟨rfl,h4⟩;have h4:=h4.symm;subst h4
  cases b
  ·have RS:Hid (res=(h2,0)):=by
    have:=HR.out;rw[if_pos (.inl (by have:=HN.out.2;simpa using this))] at this;exact this
   clear HR HN c5 c4;go_wp2_with fail;go_ret;exact⟨by rw[RS.out];rfl,by rw[RS.out];exact⟨⟨s2,T3.out.1,R2.out⟩,T3.out.2⟩⟩
  ·have HB:Hid (¬(ep≠h2.floor∧ep≠h2.top)):=by
    have:=HN.out.2;show¬_;have h5:=of_decide_eq_true this.symm;rintro⟨x,y⟩;exact h5.elim x y
   by_cases q1:0<n
   ·have q1':(n:Int)>0:=by omega
    by_cases q2:o=of
    ·have q2':(o !=of)=false:=by simpa using q2
     by_cases q3:(n:Int)<at_
     ·have RS:Hid (res=(h2,0)):=by
       have:=HR.out;rw[if_pos (.inr (.inr q3))] at this;exact this
      clear HR HN c5 c4 q2;go_wp2_with fail;go_ret;exact⟨by rw[RS.out];rfl,by rw[RS.out];exact⟨⟨s2,T3.out.1,R2.out⟩,T3.out.2⟩⟩
     ·by_cases q4:at_<(n:Int)
      ·have RS:Hid (res=(h2,2)):=by
        have:=HR.out;rw[if_neg (fun x=>x.elim HB.out (fun x=>x.elim (fun x=>x.2 q2) q3)),if_pos q4] at this;exact this
       have q4':(n:Int)>at_:=q4;clear HR HN c5 c4 q2;go_wp2_with fail;go_ret;exact⟨by rw[RS.out];rfl,by rw[RS.out];exact⟨⟨s2,T3.out.1,R2.out⟩,T3.out.2⟩⟩
      ·have RS:Hid (res=(GK h2 ep of,1)):=by
        have:=HR.out;rw[if_neg (fun x=>x.elim HB.out (fun x=>x.elim (fun x=>x.2 q2) q3)),if_neg q4] at this;exact this
       have q4':¬(n:Int)>at_:=q4;have NE:Hid (at_=(n:Int)):=by show _=_;omega
       have ov:at_+1≤9223372036854775807:=by omega
       have ov2: -9223372036854775808≤at_+1:=by omega
       clear HR c4 q2;go_wp2_with (go_at_call 108;refine c5.mono ?_;rintro e w5 ⟨rfl,t5⟩;refine Aw ?_);unfold AZ
       have T5:Hid (Ge w w5 g (GK h2 ep of)):=by
        have t6:=T3.out.trans t5;have r6:=TX (s:=s2) (h:=h2) R2.out (e:=ep) (o:=of) (by have:=HB.out;exact Classical.byContradiction fun hx=>this ⟨fun y=>hx (.inl y),fun y=>hx (.inr y)⟩);rw[←HN.out.1, ←NE.out] at r6;exact⟨⟨_,t6.1,r6⟩,t6.2⟩
       clear t5;go_wp2_with fail;go_ret;exact⟨by rw[RS.out];rfl,by rw[RS.out];exact T5.out⟩
    ·have RS:Hid (res=(h2,0)):=by
      have:=HR.out;rw[if_pos (.inr (.inl ⟨q1,q2⟩))] at this;exact this
     have q2':(o !=of)=true:=by simpa using q2
     clear HR HN c5 c4 q2;go_wp2_with fail;go_ret;exact⟨by rw[RS.out];rfl,by rw[RS.out];exact⟨⟨s2,T3.out.1,R2.out⟩,T3.out.2⟩⟩
   ·have q1':¬(n:Int)>0:=by omega
    by_cases q3:(n:Int)<at_
    ·have RS:Hid (res=(h2,0)):=by
      have:=HR.out;rw[if_pos (.inr (.inr q3))] at this;exact this
     clear HR HN c5 c4;go_wp2_with fail;go_ret;exact⟨by rw[RS.out];rfl,by rw[RS.out];exact⟨⟨s2,T3.out.1,R2.out⟩,T3.out.2⟩⟩
    ·have q4:¬at_<(n:Int):=by omega
     have RS:Hid (res=(GK h2 ep of,1)):=by
      have:=HR.out;rw[if_neg (fun x=>x.elim HB.out (fun x=>x.elim (fun x=>q1 x.1) q3)),if_neg q4] at this;exact this
     have q4':¬(n:Int)>at_:=q4;have NE:Hid (at_=(n:Int)):=by show _=_;omega
     have ov:at_+1≤9223372036854775807:=by omega
     have ov2: -9223372036854775808≤at_+1:=by omega
     clear HR c4;go_wp2_with (go_at_call 108;refine c5.mono ?_;rintro e w5 ⟨rfl,t5⟩;refine Aw ?_);unfold AZ
     have T5:Hid (Ge w w5 g (GK h2 ep of)):=by
      have t6:=T3.out.trans t5;have r6:=TX (s:=s2) (h:=h2) R2.out (e:=ep) (o:=of) (by have:=HB.out;exact Classical.byContradiction fun hx=>this ⟨fun y=>hx (.inl y),fun y=>hx (.inr y)⟩);rw[←HN.out.1, ←NE.out] at r6;exact⟨⟨_,t6.1,r6⟩,t6.2⟩
     clear t5;go_wp2_with fail;go_ret;exact⟨by rw[RS.out];rfl,by rw[RS.out];exact T5.out⟩
def Gw(h:AP):Prop:=0≤h.said∧h.said≤9223372036854775807
theorem Ach(inc:Int):Gw (Li inc):=⟨Int.le_refl _,by show(0:Int)≤_;decide⟩
theorem O4{h:AP}(hb:Gw h)(f t:Int):Gw (DS {h with floor:=f,top:=t}):=by
 unfold Gw DS;dsimp only;have:=hb.1;have:=hb.2;split
 ·exact hb
 ·exact⟨Int.le_refl _,by decide⟩
theorem Sd{h:AP}(hb:Gw h)(f:Int):Gw (D5 h f):=by
 unfold D5;split
 ·exact O4 hb _ _
 ·exact hb
theorem YD{h:AP}(hb:Gw h)(e:Int):Gw (Ey h e):=by
 unfold Ey;split
 ·exact O4 hb h.floor e
 ·exact hb
theorem Zr{h:AP}(hb:Gw h)(fl ep at_ of:Int):Gw (Dg h fl ep at_ of).1:=by
 have h1:=YD (Sd hb fl) ep;unfold Dg;split
 ·exact hb
 ·split
  ·exact h1
  ·split
   ·exact h1
   ·exact h1
theorem Zl{h:AP}(hb:Gw h)(sent use fl:Int)(hs:sent≤9223372036854775807):Gw (Eo h sent use fl).1:=by
 unfold Eo;split
 ·exact hb
 ·have h1:=Sd hb fl;have h2:=h1.1;have h3:=h1.2;dsimp only;unfold Ih;split
  ·split
   ·exact⟨by show 0≤max _ _;omega,by show max _ _≤_;omega⟩
   ·split
    ·exact⟨by show 0≤sent;omega,hs⟩
    ·exact h1
  ·exact h1
theorem QH{s:DW}{h:AP}(hr:J4 s h)(e:Int):(decide (0<(Cp s e).1)&&decide ((Cp s e).1=(Cp s e).2))=Fr h e:=by
 rw[hr.held e];unfold Fr;by_cases h1:0<(h.cnt e).1
 ·simp[h1]
 ·simp[h1]
theorem Zi(w:World)(g:Nat)(h:AP)(hV:Er w g h)(hk:DA h)(hb:Gw h)(now lease:Int):
  Calls aA 46 #[.pointer (some ⟨g,0,none⟩),.int .i64 now,.int .i64 lease] w fun x w'=>x=.returned (.bool (Vb h now lease))∧w'=w:=by
 obtain⟨s,hs,hr⟩:=hV;have c7:=hs.f.c7;have c8:=hs.f.c8;rw[hr.use] at c7;rw[hr.said] at c8;have u0:=hk.use0;obtain⟨b1,b2⟩:=hb;unfold Vb;obtain⟨u,hu⟩:=eX h.use;obtain⟨d,hd⟩:=eX h.said;rw[←hu] at c7 u0 ⊢;rw[←hd] at c8 b1 b2 ⊢;clear hu hd hr hs hk;by_cases h1:u=0
 ·have e1:(u==0)=true:=by simpa using h1
  rw[decide_eq_false (by omega),Bool.false_and];clear h1;go_enter Tryz.func46,Tryz.ntmps46;go_wp2_with fail;go_ret;exact⟨rfl,rfl⟩
 ·have e1:(u==0)=false:=by simpa using h1
  rw[decide_eq_true (by omega),Bool.true_and];obtain⟨m,hm⟩:=eX (max now 0);obtain⟨q,hq⟩:=eX (min m 1099511627776);rw[←hm, ←hq];have o1: -9223372036854775808≤q-d:=by omega
  have o2:q-d≤9223372036854775807:=by omega
  have HM:Hid _:=hm;have HQ:Hid _:=hq;clear h1 hm hq b1 b2 u0;go_enter Tryz.func46,Tryz.ntmps46
  go_wp2_with (first
   | (refine MB rfl (.tmp 16) _ rfl now 0 m rfl rfl HM.out ?_)
   | (refine TQ rfl (.tmp 17) _ rfl m 1099511627776 q rfl rfl HQ.out ?_))
  go_ret;exact⟨rfl,rfl⟩
theorem TV{s:DW}{h:AP}(hr:J4 s h)(use said:Int):J4 {s with use:=use,said:=said} {h with use:=use,said:=said}:=⟨hr.inc,hr.floor,hr.top,rfl,rfl,hr.held⟩
theorem Zm(w:World)(g:Nat)(h:AP)(hV:Er w g h)(hk:DA h)(sent use fl:Int):
  Calls aA 86 #[.pointer (some ⟨g,0,none⟩),.int .i64 sent,.int .i64 use,.int .i64 fl] w fun x w'=>x=.returned (.bool (Eo h sent use fl).2)∧Ge w w' g (Eo h sent use fl).1:=by
 have ST:Hid (Ge w w g h):=hV.stay (aC _ _);obtain⟨s,hs,hr⟩:=hV;unfold Eo;by_cases h0:sent<0∨use<0∨fl<0
 ·rw[if_pos h0];clear hs hr hk;by_cases h1:sent<0
  ·clear h0;go_enter aM,aK;go_wp2_with fail;go_ret;exact⟨rfl,ST.out⟩
  by_cases h2:use<0
  ·clear h0;go_enter aM,aK;go_wp2_with fail;go_ret;exact⟨rfl,ST.out⟩
  have h4:fl<0:=by omega
  clear h0;go_enter aM,aK;go_wp2_with fail;go_ret;exact⟨rfl,ST.out⟩
 ·rw[if_neg h0];have r1:=QK hr fl;have C1:=MZ w g s hs fl;obtain⟨s1,hs1⟩:=eX (KU s fl);rw[←hs1] at r1 C1;have k1:=PD hk fl;obtain⟨h1,hh1⟩:=eX (D5 h fl);rw[←hh1] at r1 k1 ⊢;dsimp only
  have C2:Hid (∀W,Et W g s1→Calls aA 87 #[.pointer (some ⟨g,0,none⟩),.int .i64 use] W fun x w'=>x=.returned (.bool (Fr h1 use))∧Below W.heap.size W w'):=by
   intro W hW;rw[←QH r1 use];exact OY W g s1 hW use
  have F1:Hid (∀W,Et W g s1→W.cell? ⟨g,7,none⟩=some (.int .i64 h1.use)∧W.cell? ⟨g,8,none⟩=some (.int .i64 h1.said)∧∀k,W.frozen? ⟨g,k,none⟩=false):=by
   intro W hW;have f:=hW.f;have e7:=f.c7;have e8:=f.c8;rw[r1.use] at e7;rw[r1.said] at e8;exact⟨e7,e8,f.fz⟩
  have R1:Hid (J4 s1 h1):=r1;have K1:Hid (DA h1):=k1;have d1:¬sent<0:=by omega
  have d2:¬use<0:=by omega
  have d3:¬fl<0:=by omega
  obtain⟨b,hb⟩:=eX (Fr h1 use);rw[←hb] at C2;have HBB:Hid (b=Fr h1 use):=hb;obtain⟨r,hr1⟩:=eX (Ih h1 sent use);rw[←hr1];obtain⟨y,hy⟩:=eX ((decide (0<use)&&decide (r.use=use)));rw[←hy];obtain⟨u,hu⟩:=eX h1.use;obtain⟨d,hd⟩:=eX h1.said;rw[←hu, ←hd] at F1;have HR:Hid (r=Ih h1 sent use∧y=(decide (0<use)&&decide (r.use=use))∧u=h1.use∧d=h1.said):=⟨hr1,hy,hu,hd⟩;clear h0 hr r1 k1 hs1 hh1 hs ST hb hr1 hy hu hd hk;go_enter aM,aK;go_wp2_with (go_at_call 105;refine C1.mono ?_;rintro e w1 ⟨rfl,t1⟩;refine Aw ?_);unfold AZ;have T1:Hid (Dz w w1 g s1):=t1;have c2:=C2.out w1 t1.1;clear t1 C1 C2;go_wp2_with (go_at_call 87;refine Aw ?_);unfold AZ;refine c2.mono ?_;rintro e w2 ⟨rfl,b2⟩;have T2:Hid (Dz w w2 g s1):=T1.out.add b2;obtain⟨k7,k8,fz⟩:=F1.out w2 T2.out.1;clear b2 c2 F1 T1
  cases b
  ·have RS:Hid (r=h1∧y=false):=by
    obtain⟨a1,a2,_⟩:=HR.out;have e1:r=h1:=by rw[a1];unfold Ih;rw[←HBB.out];rfl
    refine⟨e1,?_⟩;rw[a2,e1];by_cases hp:0<use
    ·have:¬h1.use=use:=fun hx=>by
      have:=K1.out.uses (by omega);rw[hx, ←HBB.out] at this
      cases this
     simp[this]
    ·simp[hp]
   go_wp2_with fail;go_ret;exact⟨by rw[RS.out.2];rfl,by rw[RS.out.1];exact⟨⟨s1,T2.out.1,R1.out⟩,T2.out.2⟩⟩
  ·by_cases q1:use<u
   ·have RS:Hid (r=h1∧y=false):=by
     obtain⟨a1,a2,a3,_⟩:=HR.out
     have e1:r=h1:=by
      rw[a1];unfold Ih;rw[←HBB.out,if_pos rfl,if_neg (by omega),if_neg (by omega)]
     refine⟨e1,?_⟩;rw[a2,e1];have:¬h1.use=use:=by omega
     simp[this]
    go_wp2_with fail;go_ret;exact⟨by rw[RS.out.2];rfl,by rw[RS.out.1];exact⟨⟨s1,T2.out.1,R1.out⟩,T2.out.2⟩⟩
   ·have HP:Hid (1≤use):=(K1.out.two _ (Hn.1 HBB.out.symm).1).2;by_cases q2:use=u
    ·have q2':(use==u)=true:=by simpa using q2
     obtain⟨m,hm⟩:=eX (max sent d);have HM:Hid (m=max sent d):=hm
     have RS:Hid (r={h1 with use:=use,said:=m}∧y=true):=by
      obtain⟨a1,a2,a3,a4⟩:=HR.out
      have e1:r={h1 with use:=use,said:=m}:=by
       rw[a1];unfold Ih;rw[←HBB.out,if_pos rfl,if_pos (by omega),hm,a4,q2,a3,Int.max_comm]
      refine⟨e1,?_⟩;rw[a2,e1];have:=HP.out;simp;omega
     have T3:Hid (Ge w ((w2.setCell ⟨g,7,none⟩ (.int .i64 use)).setCell ⟨g,8,none⟩ (.int .i64 m)) g r):=by
      have t:=(T2.out.setC 7 (.int .i64 use) {s1 with use:=use} rfl).setC 8 (.int .i64 m) {s1 with use:=use,said:=m} rfl;show Ge _ _ _ _;rw[RS.out.1];exact⟨⟨_,t.1,TV R1.out use m⟩,t.2⟩
     clear hm q2;go_wp2_with (refine MB rfl (.tmp 44) (.tmp 48) rfl sent d m rfl rfl HM.out ?_);go_ret;exact⟨by rw[RS.out.2];rfl,T3.out⟩
    ·have q2':(use==u)=false:=by simpa using q2
     have RS:Hid (r={h1 with use:=use,said:=sent}∧y=true):=by
      obtain⟨a1,a2,a3,a4⟩:=HR.out
      have e1:r={h1 with use:=use,said:=sent}:=by
       rw[a1];unfold Ih;rw[←HBB.out,if_pos rfl,if_neg (by omega),if_pos (by omega)]
      refine⟨e1,?_⟩;rw[a2,e1];have:=HP.out;simp;omega
     have T3:Hid (Ge w ((w2.setCell ⟨g,7,none⟩ (.int .i64 use)).setCell ⟨g,8,none⟩ (.int .i64 sent)) g r):=by
      have t:=(T2.out.setC 7 (.int .i64 use) {s1 with use:=use} rfl).setC 8 (.int .i64 sent) {s1 with use:=use,said:=sent} rfl;show Ge _ _ _ _;rw[RS.out.1];exact⟨⟨_,t.1,TV R1.out use sent⟩,t.2⟩
     clear q2;go_wp2_with fail;go_ret;exact⟨by rw[RS.out.2];rfl,T3.out⟩
def AL(x:Cq):Array Value:=#[.int .i64 x.seq,.int .i64 x.index,.int .u8 (x.head.getD 0 0),.int .u8 (x.head.getD 1 0),.int .u8 (x.head.getD 2 0),.int .u8 (x.head.getD 3 0),.int .u8 (x.head.getD 4 0),.int .u8 (x.head.getD 5 0),.int .u8 (x.head.getD 6 0),.int .u8 (x.head.getD 7 0),.int .u8 (x.head.getD 8 0),.int .u8 (x.head.getD 9 0),.int .u8 (x.head.getD 10 0),.int .u8 (x.head.getD 11 0),.int .u8 (x.head.getD 12 0),.int .i64 x.sent,.int .i64 x.due]
def Cr:Cq:=⟨0,0,[],0,0⟩
def Ix:El:=⟨82,42,17,48,AL Cr⟩
theorem Ks:Ix.Ok:=⟨Tryz.underlying42,⟨_,Tryz.underlying82,rfl⟩,by kernel_rfl,rfl,by decide,by decide,by decide⟩
theorem JZ(x:Cq):Mz Ix (AL x):=⟨rfl,by simp[AL,Value.oneCell']⟩
theorem ZB{L:List Int}(h:L.length=13):hv L=#[.int .u8 (L.getD 0 0),.int .u8 (L.getD 1 0),.int .u8 (L.getD 2 0),.int .u8 (L.getD 3 0),.int .u8 (L.getD 4 0),.int .u8 (L.getD 5 0),.int .u8 (L.getD 6 0),.int .u8 (L.getD 7 0),.int .u8 (L.getD 8 0),.int .u8 (L.getD 9 0),.int .u8 (L.getD 10 0),.int .u8 (L.getD 11 0),.int .u8 (L.getD 12 0)]:=by
 apply Array.ext_getElem?;intro k;rcases(show k=0∨k=1∨k=2∨k=3∨k=4∨k=5∨k=6∨k=7∨k=8∨k=9∨k=10∨k=11∨k=12∨13≤k by omega) with rfl | rfl | rfl | rfl | rfl | rfl | rfl | rfl | rfl | rfl | rfl | rfl | rfl | hk
 all_goals first
  | (rw[IL L h _ (by decide)];rfl)
  | (rw[Array.getElem?_eq_none (by rw[DE];omega),Array.getElem?_eq_none (by simpa using hk)])
set_option maxRecDepth 100000 in
theorem XX(a b d:Int){L:List Int}(hL:L.length=13)(W:World):(Instr.build 82 #[(0,.int .i64 a),(1,.int .i64 b),(2,.agg (hv L)),(3,.int .i64 1),(4,.int .i64 d)]).run aA W=.ok (.agg (AL ⟨a,b,L,1,d⟩)) W:=by
 rw[ZB hL];kernel_rfl
set_option maxRecDepth 100000 in
theorem VJ(W:World):(Instr.build 82 #[]).run aA W=.ok (.agg (AL Cr)) W:=by
 unfold Cr AL;kernel_rfl
set_option maxRecDepth 100000 in
theorem Ye(W:World):(zeroValue 82).run aA W=.ok (.agg (AL Cr)) W:=by
 unfold Cr AL;kernel_rfl
theorem XZ(w:World):(Instr.alloc 82 true (.tuple #[])).run aA w=.ok (.pointer (some ⟨w.heap.size,0,none⟩)) (w.alloc (.cells (AL Cr) 82)):=by
 have hz:=Ye w;simp[Instr.alloc,aL,hz,newVar,newRow,Value.cells]
theorem Wc{P:Program}{ops:Array Oper}{Q:Exit→Act→World→Prop}{o:Oper}{rest:List Oper}{a:Act}{w:World}(_:o.op=.alloc 82)(h:wpList P ops Q (o::rest) a w):wpList P ops Q (o::rest) a w:=h
theorem Wb{P:Program}{ops:Array Oper}{Q:Exit→Act→World→Prop}{o:Oper}{rest:List Oper}{a:Act}{w:World}(x:Operand)(_:o.op=.load 82 x)(h:wpList P ops Q (o::rest) a w):wpList P ops Q (o::rest) a w:=h
theorem Rs{P:Program}{ops:Array Oper}{Q:Exit→Act→World→Prop}{o:Oper}{rest:List Oper}{a:Act}{w:World}(x y:Operand)(_:o.op=.store 82 x y)(h:wpList P ops Q (o::rest) a w):wpList P ops Q (o::rest) a w:=h
theorem Ae2{P:Program}{ops:Array Oper}{Q:Exit→Act→World→Prop}{o:Oper}{rest:List Oper}{a:Act}{w:World}(_:o.op=.build 82 #[])(h:wpList P ops Q (o::rest) a w):wpList P ops Q (o::rest) a w:=h
theorem Qf(w:World)(o:Obj):(w.alloc o).heap.size=w.heap.size+1:=by simp
theorem P7{ops:Array Oper}{rest:List Oper}{o:Oper}{a:Act}{w:World}{Q:Exit→Act→World→Prop}(hg:o.guard=none)(ho:o.op=.alloc 82)
  (h:wpList aA ops Q rest (a.put o.dst (.pointer (some ⟨w.heap.size,0,none⟩))) (w.alloc (.cells (AL Cr) 82))):wpList aA ops Q (o::rest) a w:=by
 refine Great.wpList_allocTo hg o.dst rfl _ _ ?_ h;unfold execOp;simp only[ho,aL,XZ,aI,aP]
theorem We{ops:Array Oper}{rest:List Oper}{o:Oper}{a:Act}{w:World}{Q:Exit→Act→World→Prop}(hg:o.guard=none)(ho:o.op=.build 82 #[])
  (h:wpList aA ops Q rest (a.put o.dst (.agg (AL Cr))) w):wpList aA ops Q (o::rest) a w:=by
 refine Great.wpList_readTo hg o.dst rfl _ ?_ h;unfold execOp;simp only[ho,aL,List.map_toArray,List.map_nil,VJ,aI,aP]
theorem LQ{ops:Array Oper}{rest:List Oper}{o:Oper}{a:Act}{w:World}{Q:Exit→Act→World→Prop}(hgd:o.guard=none)(x y:Operand)(ho:o.op=.store 82 x y)
  (g:Nat) (s z:Cq) (hx:a.eval x=.pointer (some ⟨g,0,none⟩)) (hy:a.eval y=.agg (AL s)) (hg:w.heap[g]?=some (.cells (AL z) 82 (0,0)))
  (w':World) (hw':w.setRow g (AL s)=w')
  (h:wpList aA ops Q rest (a.put o.dst undef) w'):wpList aA ops Q (o::rest) a w:=
 FM (E:=Ix) Ks hgd x y ho g (AL s) (JZ s) hx hy _ hg rfl w' hw' h
theorem Rr{ops:Array Oper}{rest:List Oper}{o:Oper}{a:Act}{w:World}{Q:Exit→Act→World→Prop}(hw:Region.wanted o (yielded ops a.tmps)=true)(x:Operand)(ho:o.op=.load 82 x)
  (g off:Nat) (hx:a.eval x=.pointer (some ⟨g,off,none⟩)) (s:Cq) (hl:(loadVar 82 ⟨g,off,none⟩).run aA w=.ok (.agg (AL s)) w)
  (h:wpList aA ops Q rest (a.put o.dst (.agg (AL s))) w):wpList aA ops Q (o::rest) a w:=by
 refine wpList_step fun K hK=> ?_;rw[if_pos hw];unfold Oper.wp execOp;simp only[ho,hx,Instr.loadAt,Instr.sureAddr,aL,aP,aI,hl];exact hK _ _ h
theorem Ud{w:World}{g off:Nat}{cur:Array Value}{t:TypeId}{fr:Nat×Nat}{s:Cq}(hg:w.heap[g]?=some (.cells cur t fr))(hc:∀j,j<17→cur[off+j]?=(AL s)[j]?):(loadVar 82 ⟨g,off,none⟩).run aA w=.ok (.agg (AL s)) w:=
 Ks.load w g off cur t fr (AL s) rfl hg hc
theorem Acq{w:World}{g:Nat}{t:TypeId}{fr:Nat×Nat}{s:Cq}(hg:w.heap[g]?=some (.cells (AL s) t fr)):(loadVar 82 ⟨g,0,none⟩).run aA w=.ok (.agg (AL s)) w:=Ud hg fun j _=>by rw[Nat.zero_add]
def B8(B:Nat)(w:World)(v:Value)(C:List Cq):Prop:=w.ownsRow B 82 17 v C.length (Bh AL C)
theorem B8.sl{B:Nat}{w:World}{v:Value}{C:List Cq}(h:B8 B w v C):EC Ix AL w v C:=OV (E:=Ix) h fun _ _=>rfl
theorem B8.lt{B:Nat}{w:World}{v:Value}{C:List Cq}(h:B8 B w v C):∀k,v.ownBlock=some k→B≤k∧k<w.heap.size:=World.ownsRow.lt h
theorem B8.nil(B:Nat)(w:World):B8 B w (.slice none 0 0) []:=World.ownsRow_nil _ _ _ _
theorem B8.kept{X:Nat→Prop}{B:Nat}{w w':World}{v:Value}{C:List Cq}(h:B8 B w v C)(hk:Ao X w w')(hX:∀k,v.ownBlock=some k→¬X k):B8 B w' v C:=hk.own h hX
theorem B8.below{B:Nat}{w w':World}{v:Value}{C:List Cq}(h:B8 B w v C)(hb:Below w.heap.size w w'):B8 B w' v C:=Jk h hb
theorem B8.base{B B':Nat}{w:World}{v:Value}{C:List Cq}(h:B8 B w v C)(hB:B'≤B):B8 B' w v C:=QE h hB
theorem B8.slice{B:Nat}{w:World}{v:Value}{C:List Cq}(h:B8 B w v C):∃o cap,v=.slice o C.length cap∧C.length≤cap∧cap≤maxLen:=h.sl.slice
theorem Hw{e:TypeId}{s:Nat}{B:Nat}{w:World}{v:Value}{m:Nat}{xs:List Value}(h:w.ownsRow B e s v m xs){g:Nat}{cs:Array Value}{t:TypeId}{fr:Nat×Nat}(hg:w.heap[g]?=some (.cells cs t fr))(ht:t≠e):v.ownBlock≠some g:=by
 intro q;obtain⟨_,⟨rfl,_⟩ | ⟨g',cap,cur,rfl,_,h1,_⟩⟩:=h
 ·cases q
 ·simp only[Value.ownBlock,Option.some.injEq] at q;subst q;rw[hg] at h1;simp only[Option.some.injEq,Obj.cells.injEq] at h1;exact ht h1.2.1
theorem Abb{ops:Array Oper}{rest:List Oper}{o:Oper}{a:Act}{w:World}{Q:Exit→Act→World→Prop}(hgd:o.guard=none)(s x:Operand)(ho:o.op=.call {callee:=.builtin .append,args:=#[s,x],argTypes:=#[42,42]})
  (B:Nat) (v:Value) (C:List Cq) (c:Cq) (hs:a.eval s=v) (hown:B8 B w v C) (g cap:Nat) (hx:a.eval x=.slice (some ⟨g,0,none⟩) 1 cap) (hg:w.heap[g]?=some (.cells (AL c) 82 (0,0)))
  (hn:C.length≤1000000) (hB:B≤w.heap.size)
  (h:∀v' w',B8 B w' v' (C++[c])→w.grownBy w' v.ownBlock→(v'.ownBlock=v.ownBlock∨v'.ownBlock=some w.heap.size)→wpList aA ops Q rest (a.put o.dst v') w'):wpList aA ops Q (o::rest) a w:=
 H9 (E:=Ix) Ks AL hgd s x ho B v C c (JZ c) hs hown g cap hx hg hn hB h
structure Afj(w:World)(g off:Nat)(x:Cq):Prop where
 c0:w.cell? ⟨g,off,none⟩=some (.int .i64 x.seq)
 c1:w.cell? ⟨g,off+1,none⟩=some (.int .i64 x.index)
 c3:w.cell? ⟨g,off+15,none⟩=some (.int .i64 x.sent)
 c4:w.cell? ⟨g,off+16,none⟩=some (.int .i64 x.due)
theorem Adr{w:World}{g off:Nat}{cur:Array Value}{ty:TypeId}{fr:Nat×Nat}{x:Cq}(hg:w.heap[g]?=some (.cells cur ty fr))(hc:∀j,j<17→cur[off+j]?=(AL x)[j]?):Afj w g off x:=
 ⟨by rw[cell_of_row w g off cur ty fr hg];exact hc 0 (by decide),by rw[cell_of_row w g (off+1) cur ty fr hg];exact hc 1 (by decide),by rw[cell_of_row w g (off+15) cur ty fr hg];exact hc 15 (by decide),by rw[cell_of_row w g (off+16) cur ty fr hg];exact hc 16 (by decide)⟩
theorem IF{w:World}{g:Nat}{ty:TypeId}{fr:Nat×Nat}{x:Cq}(hg:w.heap[g]?=some (.cells (AL x) ty fr)):Afj w g 0 x:=Adr hg fun j _=>by rw[Nat.zero_add]
def JC(m:BQ)(v:Value):Array Value:=#[.int .i64 m.room,.int .i64 m.tries,.int .i64 m.time,.int .i64 (m.last:Int),v]
structure Dq(B:Nat)(w:World)(g:Nat)(m:BQ)(v:Value):Prop where
 blk:w.heap[g]?=some (.cells (JC m v) 105 (0,0))
 own:B8 B w v m.l
 hB:B≤g
def FB(g:Nat)(v:Value)(k:Nat):Prop:=k=g∨v.ownBlock=some k
theorem Dq.foot_in{B:Nat}{w:World}{g:Nat}{m:BQ}{v:Value}(h:Dq B w g m v):∀k,FB g v k→B≤k∧k<w.heap.size:=by
 rintro k (rfl | e)
 ·exact⟨h.hB,(gS h.blk)⟩
 ·exact h.own.lt k e
theorem Dq.kept{X:Nat→Prop}{B:Nat}{w w':World}{g:Nat}{m:BQ}{v:Value}(h:Dq B w g m v)(hk:Ao X w w')(hX:∀k,FB g v k→¬X k):Dq B w' g m v:=
 ⟨hk.heap h.blk (hX _ (.inl rfl)),h.own.kept hk fun k e=>hX k (.inr e),h.hB⟩
theorem Dq.below{B:Nat}{w w':World}{g:Nat}{m:BQ}{v:Value}(h:Dq B w g m v)(hb:Below w.heap.size w w'):Dq B w' g m v:=h.kept (X:=fun _=>False) (Ao.of_below hb) fun _ _ e=>e
theorem Dq.hw{B:Nat}{w:World}{g:Nat}{m:BQ}{v:Value}(h:Dq B w g m v):B≤w.heap.size:=by have:=h.foot_in g (.inl rfl);omega
structure Ab6(w:World)(g:Nat)(m:BQ)(v:Value):Prop where
 c0:w.cell? ⟨g,0,none⟩=some (.int .i64 m.room)
 c1:w.cell? ⟨g,1,none⟩=some (.int .i64 m.tries)
 c2:w.cell? ⟨g,2,none⟩=some (.int .i64 m.time)
 c3:w.cell? ⟨g,3,none⟩=some (.int .i64 (m.last:Int))
 c4:w.cell? ⟨g,4,none⟩=some v
 fz:∀k,w.frozen? ⟨g,k,none⟩=false
theorem Rw{w:World}{g:Nat}{m:BQ}{v:Value}{t:TypeId}(hg:w.heap[g]?=some (.cells (JC m v) t (0,0))):Ab6 w g m v:=
 ⟨by rw[cell_of_row w g _ _ _ _ hg];rfl,by rw[cell_of_row w g _ _ _ _ hg];rfl,by rw[cell_of_row w g _ _ _ _ hg];rfl,by rw[cell_of_row w g _ _ _ _ hg];rfl,by rw[cell_of_row w g _ _ _ _ hg];rfl,fun k=>by simp[World.frozen?,hg]⟩
theorem Dq.f{B:Nat}{w:World}{g:Nat}{m:BQ}{v:Value}(h:Dq B w g m v):Ab6 w g m v:=Rw h.blk
def J3(B:Nat)(w w':World)(g:Nat)(m':BQ)(v:Value):Prop:=∃u,Dq B w' g m' u∧FQ (FB g v) (FB g u) w w'
theorem Dq.stay{B:Nat}{w w':World}{g:Nat}{m:BQ}{v:Value}(h:Dq B w g m v)(hb:Below w.heap.size w w'):J3 B w w' g m v:=⟨v,h.below hb,FQ.of_below hb⟩
theorem Dq.setC{B:Nat}{w:World}{g:Nat}{m:BQ}{v:Value}(h:Dq B w g m v)(k:Nat)(x:Value)(m':BQ)(hs:(JC m v).setIfInBounds k x=JC m' v)(hl:m'.l=m.l):Dq B (w.setCell ⟨g,k,none⟩ x) g m' v∧FQ (FB g v) (FB g v) w (w.setCell ⟨g,k,none⟩ x):=by
 have hK2:Ao (Cj g) w (w.setCell ⟨g,k,none⟩ x):=⟨rfl,rfl,rfl,by simp[World.setCell],fun k' _ e=>heap_setCell_other w ⟨g,k,none⟩ k' _ e⟩;refine⟨⟨?_,by rw[hl];exact h.own.kept hK2 fun q e e'=>by unfold Cj at e';subst e';exact Hw h.own h.blk (by decide) e,h.hB⟩,⟨hK2.mono fun q _ e=> .inl e,fun q e=> .inl e⟩⟩;rw[heap_setCell_same w g k _ _ _ h.blk,hs]
theorem Dq.put{B:Nat}{w w':World}{g:Nat}{m m':BQ}{v u:Value}(h:Dq B w g m v)(hk:Ao (Bn v) w w')(hu:B8 B w' u m'.l)(ho:u.ownBlock=v.ownBlock∨∀k,u.ownBlock=some k→w.heap.size≤k)(hs:JC m' u=JC m u):
  Dq B (w'.setCell ⟨g,4,none⟩ u) g m' u∧FQ (FB g v) (FB g u) w (w'.setCell ⟨g,4,none⟩ u):=by
 have hgx:¬Bn v g:=Hw h.own h.blk (by decide);have hbk:=hk.heap h.blk hgx
 have hset:(w'.setCell ⟨g,4,none⟩ u).heap[g]?=some (.cells (JC m' u) 105 (0,0)):=by
  rw[heap_setCell_same w' g 4 _ _ u hbk,hs];rfl
 have hK2:Ao (Cj g) w' (w'.setCell ⟨g,4,none⟩ u):=⟨rfl,rfl,rfl,by simp[World.setCell],fun k _ e=>heap_setCell_other w' ⟨g,4,none⟩ k _ e⟩;refine⟨⟨hset,hu.kept hK2 fun k e e'=>by unfold Cj at e';subst e';exact Hw hu hbk (by decide) e,h.hB⟩,⟨(hk.mono (Y:=FB g v) fun k _ e=> .inr e).trans hK2 fun k e=> .inl (.inl e),fun k e=> ?_⟩⟩;rcases e with e | e
 ·exact .inl (.inl e)
 ·rcases ho with e' | e'
  ·rw[e'] at e;exact .inl (.inr e)
  ·exact .inr (e' k e)
structure Iu(m:BQ):Prop where
 ok:It m
 r64:m.room≤64
 t8:m.tries≤8
 ti:m.time≤1000
theorem Acf{room tries time:Int}{m:BQ}(h:RZ room tries time=some m):Iu m:=by
 have hk:=Acd h;unfold RZ at h;split at h
 ·rename_i hc;obtain rfl:=Option.some.inj h;exact⟨hk,hc.2.1,hc.2.2.2.1,hc.2.2.2.2.2⟩
 ·cases h
theorem Iu.len{m:BQ}(h:Iu m):m.l.length≤64:=by
 have h1:=h.ok.len;have h2:=h.r64;omega
theorem Aa2(now:Int):0≤GI now∧GI now≤1099511627776:=by unfold GI;omega
end
def BG(x:Int):Prop:=0≤x∧x≤281474976710655
structure E4(h:AP):Prop where
 ok:DA h
 b:Gw h
 life:BG h.life
 top:h.top≤281474976710655
 cnt:∀e,(h.cnt e).2≤281474976710655
def GV(h:AP):Prop:=h.top≤281474976710655∧∀e,(h.cnt e).2≤281474976710655
theorem St{h:AP}{f t:Int}(hT:GV h)(ht:t≤281474976710655):GV (DS {h with floor:=f,top:=t}):=by
 refine⟨ht,fun e=> ?_⟩;unfold DS;dsimp only;split
 ·exact hT.2 e
 ·decide
theorem Xm{h:AP}(hT:GV h){f:Int}(hf:f≤281474976710655):GV (D5 h f)∧(D5 h f).life=h.life:=by
 unfold D5;split
 ·exact⟨St hT (by have:=hT.1;omega),rfl⟩
 ·exact⟨hT,rfl⟩
theorem Aed{h:AP}(hT:GV h){e:Int}(he:e≤281474976710655):GV (Ey h e)∧(Ey h e).life=h.life:=by
 unfold Ey;split
 ·exact⟨St (f:=h.floor) hT he,rfl⟩
 ·exact⟨hT,rfl⟩
theorem Ag8{h:AP}(hT:GV h)(e:Int){o:Int}(ho:o≤281474976710655):GV (GK h e o):=by
 refine⟨hT.1,fun x=> ?_⟩;show(if x=e then ((h.cnt e).1+1,o) else h.cnt x).2≤_;split
 ·exact ho
 ·exact hT.2 x
theorem Afn{h:AP}(hT:GV h)(s u:Int):GV (Ih h s u)∧(Ih h s u).life=h.life:=by
 unfold Ih;split
 ·split
  ·exact⟨hT,rfl⟩
  ·split
   ·exact⟨hT,rfl⟩
   ·exact⟨hT,rfl⟩
 ·exact⟨hT,rfl⟩
theorem E4.t{h:AP}(hn:E4 h):GV h:=⟨hn.top,hn.cnt⟩
theorem XB{inc:Int}(h:BG inc):E4 (Li inc):=⟨Ace inc,Ach inc,h,by show(0:Int)≤_;decide,fun e=>by show(0:Int)≤_;decide⟩
theorem OS{h:AP}(hn:E4 h)(fl ep at_ of:Int)(hfl:fl≤281474976710655)(hep:ep≤281474976710655)(hof:of≤281474976710655):E4 (Dg h fl ep at_ of).1∧(Dg h fl ep at_ of).1.life=h.life:=by
 have key:GV (Dg h fl ep at_ of).1∧(Dg h fl ep at_ of).1.life=h.life:=by
  obtain⟨l1,l2⟩:=Xm hn.t hfl;obtain⟨r1,r2⟩:=Aed l1 hep;unfold Dg;split
  ·exact⟨hn.t,rfl⟩
  ·split
   ·exact⟨r1,r2.trans l2⟩
   ·split
    ·exact⟨r1,r2.trans l2⟩
    ·exact⟨Ag8 r1 ep hof,r2.trans l2⟩
 exact⟨⟨Acx hn.ok _ _ _ _,Zr hn.b _ _ _ _,by rw[key.2];exact hn.life,key.1.1,key.1.2⟩,key.2⟩
theorem OR{h:AP}(hn:E4 h)(sent use fl:Int)(hs:sent≤281474976710655)(hfl:fl≤281474976710655):E4 (Eo h sent use fl).1∧(Eo h sent use fl).1.life=h.life:=by
 have key:GV (Eo h sent use fl).1∧(Eo h sent use fl).1.life=h.life:=by
  obtain⟨l1,l2⟩:=Xm hn.t hfl;obtain⟨r1,r2⟩:=Afn l1 sent use;unfold Eo;split
  ·exact⟨hn.t,rfl⟩
  ·exact⟨r1,r2.trans l2⟩
 exact⟨⟨Acp hn.ok _ _ _,Zl hn.b _ _ _ (by omega),by rw[key.2];exact hn.life,key.1.1,key.1.2⟩,key.2⟩
theorem E4.use{h:AP}(hn:E4 h):BG h.use:=by
 refine⟨hn.ok.use0,?_⟩;by_cases h0:h.use=0
 ·rw[h0];decide
 ·have h1:=(Hn.1 (hn.ok.uses h0)).1;have h2:=(hn.ok.two _ h1).1;have h3:=hn.ok.le;have h4:=hn.top;omega
theorem E4.top0{h:AP}(hn:E4 h):BG h.top:=⟨by have:=hn.ok.floor0;have:=hn.ok.le;omega,hn.top⟩
theorem E4.many{h:AP}(hn:E4 h)(e:Int):BG ((h.cnt e).1:Int):=⟨by omega,by have:=hn.ok.few e;have:=hn.cnt e;omega⟩
structure AQ(N:Nat)(R:Rm)(n:Ap Ay):Prop where
 tab:Hs N R n.tab
 room:R.cache≤2048∧R.auth≤2048∧R.part≤2048
 act:∀x∈n.tab.a,BG x.action
 hold:E4 n.hold
 wait:Iu n.wait
 head:∀x∈n.wait.l,Ax x.head
 load:BG n.load
 last:n.wait.last≤N
 log:n.log.length+n.tab.c.length≤N
 post:n.post.length≤N
 cache:n.cache=(R.cache:Int)
theorem Ue{R:Rm}{S:Ay}:∀(k n:Nat),Hs n R S→Hs (n+k) R S
 | 0,_,h=>h
 | k+1,n,h=>by
  have:=Ue k (n+1) h.more
  rwa [show n+1+k=n+(k+1) by omega] at this
theorem AQ.le{N M:Nat}{R:Rm}{n:Ap Ay}(h:AQ N R n)(hM:N≤M):AQ M R n:=
 ⟨by have:=Ue (M-N) N h.tab;rwa [show N+(M-N)=M by omega] at this,h.room,h.act,h.hold,h.wait,h.head,h.load,aQ h.last hM,aQ h.log hM,aQ h.post hM,h.cache⟩
section
variable {N:Nat} {R:Rm} {n:Ap Ay}
theorem EI(h:AQ N R n)(x:Di):AQ (N+1) R (BR n x):=by
 have h':=h.le (aB N);refine⟨h'.tab,h'.room,h'.act,h'.hold,h'.wait,h'.head,h'.load,h'.last,?_,h'.post,h'.cache⟩;show(n.log++_).length+n.tab.c.length≤_;rw[aD,aO];have:=h.log;omega
theorem KS(h:AQ N R n)(d:Int)(m:Aj):AQ (N+1) R (BX n d m):=by
 have h':=h.le (aB N);unfold BX;split
 ·refine⟨h'.tab,h'.room,h'.act,h'.hold,h'.wait,h'.head,h'.load,h'.last,h'.log,?_,h'.cache⟩;show(n.post++_).length≤_;rw[aD,aO];have:=h.post;omega
 ·exact h'
theorem Zg(S:Ay)(mt:Ae→Bool)(now:Int):(Ct S mt now).1.c.length=S.c.length:=by
 rcases G7 S mt with ⟨A,x,D,⟨h1,_⟩,e⟩ | ⟨_,A,x,D,⟨h1,_⟩,e⟩ | ⟨_,_,A,x,D,⟨h1,_⟩,e⟩ | ⟨_,_,_,e⟩
 ·unfold Ct;rw[e];show(A++Fy now 1 x::D).length=_;rw[h1,aD,aD];rfl
 all_goals
  unfold Ct;rw[e]
  try rfl
theorem Zh{P:Ae→Prop}(hP:∀now b x,P x→P (Fy now b x))(S:Ay)(mt:Ae→Bool)(now:Int)(h:∀x∈S.a,P x):∀x∈(Ct S mt now).1.a,P x:=by
 rcases G7 S mt with ⟨A,x,D,⟨h1,_⟩,e⟩ | ⟨_,A,x,D,⟨h1,_⟩,e⟩ | ⟨_,_,A,x,D,⟨h1,_⟩,e⟩ | ⟨_,_,_,e⟩
 ·unfold Ct;rw[e];exact h
 ·unfold Ct;rw[e];exact Acn h1 h (hP now 2 x)
 ·unfold Ct;rw[e];exact h
 ·unfold Ct;rw[e];exact h
theorem Uf(h:AQ N R n)(now e:Int)(hd:List Int):AQ (N+1) R (Bm n ((Ar R).look n.tab now e hd).1):=by
 have h':=h.le (aB N);refine⟨?_,h'.room,?_,h'.hold,h'.wait,h'.head,h'.load,h'.last,?_,h'.post,h'.cache⟩
 ·exact Kh h.tab ⟨3,now,{Av with epoch:=e},hd⟩ Rp
 ·exact Zh (P:=fun x=>BG x.action) (fun _ _ _ hx=>hx) _ _ _ h.act
 ·show n.log.length+(Ct _ _ _).1.c.length≤_;rw[Zg];exact h'.log
theorem PG(h:AQ N R n){w:BQ}(hw:Iu w)(hh:∀x∈w.l,Ax x.head)(hl:w.last≤N+1):AQ (N+1) R (IY n w):=by
 have h':=h.le (aB N);exact⟨h'.tab,h'.room,h'.act,h'.hold,hw,hh,h'.load,hl,h'.log,h'.post,h'.cache⟩
theorem Xz(h:AQ N R n)(index:Int){hd:List Int}(hH:Ax hd)(now:Int):Iu (EY n.wait index hd now).1∧(∀x∈(EY n.wait index hd now).1.l,Ax x.head)∧(EY n.wait index hd now).1.last≤N+1:=by
 have hl:=h.last;have hk:=Adx h.wait.ok index hd now;unfold EY at hk ⊢;split
 ·exact⟨h.wait,h.head,by show n.wait.last≤_;omega⟩
 ·rename_i hc;rw[if_neg hc] at hk;refine⟨⟨hk,h.wait.r64,h.wait.t8,h.wait.ti⟩,fun x hx=> ?_,by show n.wait.last+1≤_;omega⟩;rcases List.mem_append.1 hx with hx | hx
  ·exact h.head x hx
  ·rw[List.mem_singleton.1 hx];exact hH
theorem Xy(h:AQ N R n)(s:Int):Iu (Br n.wait s).1∧(∀x∈(Br n.wait s).1.l,Ax x.head)∧(Br n.wait s).1.last≤N+1:=by
 obtain⟨a1,a2,a3,a4,a5⟩:=VU n.wait s;have hl:=h.last;exact⟨⟨VV h.wait.ok s,by rw[a5];exact h.wait.r64,by rw[a2];exact h.wait.t8,by rw[a3];exact h.wait.ti⟩,fun x hx=>h.head x (a1.subset hx),by rw[a4];omega⟩
theorem Ad5(h:AQ N R n){k:AP}(hk:E4 k):AQ N R (Bg n k):=
 ⟨h.tab,h.room,h.act,hk,h.wait,h.head,h.load,h.last,h.log,h.post,h.cache⟩
theorem Ad3(h:AQ N R n)(a b:Int):AQ (N+1) R (Bm n ((Ar R).keep n.tab a b)):=by
 have h':=h.le (aB N);refine⟨?_,h'.room,fun x hx=>h.act x (List.mem_filter.1 hx).1,h'.hold,h'.wait,h'.head,h'.load,h'.last,?_,h'.post,h'.cache⟩
 ·exact Kh h.tab ⟨6,0,{Av with epoch:=a,place:=b},[]⟩ Rp
 ·show n.log.length+(n.tab.c.filter _).length≤_;have:=List.length_filter_le (Fq a b) n.tab.c;have:=h.log;omega
theorem Aet(h:AQ N R n){s:Ae}(hc:E6 s.cube)(ha:BG s.action):AQ (N+1) R (Bm n ((Ar R).lay n.tab s).1):=by
 have h':=h.le (aB N)
 have hl:((Ar R).lay n.tab s).1.c=n.tab.c∧∀x∈((Ar R).lay n.tab s).1.a,BG x.action:=by
  show(if s.bank=2 then _ else if s.bank=3 then _ else _:Ay×Int).1.c=_∧∀x∈(if s.bank=2 then _ else if s.bank=3 then _ else _:Ay×Int).1.a,_;split
  ·exact⟨rfl,Nz (P:=fun x=>BG x.action) _ _ _ _ h.act ha⟩
  ·split
   ·exact⟨rfl,h.act⟩
   ·exact⟨rfl,h.act⟩
 refine⟨?_,h'.room,hl.2,h'.hold,h'.wait,h'.head,h'.load,h'.last,?_,h'.post,h'.cache⟩
 ·have key:=Kh h.tab ⟨2,0,s,[]⟩ hc
  have e:Oe AC Dr R n.tab ⟨2,0,s,[]⟩=((Ar R).lay n.tab s).1:=by
   show(if (2:Int)=1 then _ else if (2:Int)=2 then (if s.bank=2 then _ else if s.bank=3 then _ else _) else _:Ay)=(if s.bank=2 then _ else if s.bank=3 then _ else _:Ay×Int).1;rw[if_neg (by decide),if_pos rfl];by_cases h2:s.bank=2
   ·rw[if_pos h2,if_pos h2]
   ·rw[if_neg h2,if_neg h2];by_cases h3:s.bank=3
    ·rw[if_pos h3,if_pos h3]
    ·rw[if_neg h3,if_neg h3]
  rw[e] at key;exact key
 ·show n.log.length+((Ar R).lay n.tab s).1.c.length≤_;rw[hl.1];exact h'.log
theorem PE(room:Nat)(C:List Ae)(s:Ae):(BO room C s).1.length≤C.length+1:=by
 rcases Im room C s with ⟨_,e⟩ | ⟨_,A,x,B,⟨h1,_⟩,e⟩ | ⟨_,_,_,A,x,B,⟨h1,_⟩,e⟩ | ⟨_,_,_,e⟩
 ·rw[e];exact aB _
 ·rw[e,h1];simp
 ·rw[e,h1];simp
 ·rw[e];simp
theorem Zy(h:AQ N R n)(now e:Int){c:List Int×List Int}(hc:E6 c)(a:Int):AQ (N+1) R (Bm n ((Ar R).learn n.tab now e c a).1):=by
 have h':=h.le (aB N);refine⟨?_,h'.room,h.act,h'.hold,h'.wait,h'.head,h'.load,h'.last,?_,h'.post,h'.cache⟩
 ·exact Kh h.tab ⟨1,now,{Av with epoch:=e,cube:=c,action:=a},[]⟩ hc
 ·show n.log.length+(BO _ _ _).1.length≤_;have:=PE R.cache n.tab.c (BB now e (AC c) a);have:=h.log;omega
theorem Ad2(h:AQ N R n){x:Int}(hx:BG x):AQ N R {n with load:=x}:=
 ⟨h.tab,h.room,h.act,h.hold,h.wait,h.head,hx,h.last,h.log,h.post,h.cache⟩
end
end Go.Proofs.YtbhkoipcpcoooabGreat
