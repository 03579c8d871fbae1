/- KRUses, KBndP, KLng, KConc. -/
import Derived.Test.YtcddpgfdadpbgaaGreatDoorQ41
import Derived.Lib.AppendZeros
set_option maxHeartbeats 8000000
set_option maxRecDepth 100000
set_option linter.unusedVariables false
namespace Go.Proofs.YtcddpgfdadpbgaaGreatDoor
open Tryz
variable {a:Act} {w:World} {Q:Exit->Act->World->Prop} {c:Nat} {x:Wc.In} {K:Act->World->Prop} {o:Oper} {A:List Wpl.Ar} {nx:List Int}
abbrev z41n0:Oper:=⟨some 78,.move (.tmp 9),4,"code.go:486",#[],none⟩
abbrev z41n1:Oper:=⟨some 79,.move (.tmp 78),4,"code.go:486",#[⟨0,.data⟩],none⟩
abbrev z41n2:Oper:=⟨some 80,.move (.tmp 4),30,"code.go:486",#[⟨1,.guard⟩],some (1,Bool.false)⟩
abbrev z41n3:Oper:=⟨some 81,.move (.tmp 10),3,"code.go:486",#[⟨1,.guard⟩],some (1,Bool.false)⟩
abbrev z41n4:Oper:=⟨some 82,.indexAddr 30 (.tmp 80) (.tmp 81),0,"code.go:486",#[⟨2,.data⟩,⟨3,.data⟩,⟨1,.guard⟩],some (1,Bool.false)⟩
abbrev z41n5:Oper:=⟨some 83,.load 49 (.tmp 82),49,"code.go:486",#[⟨4,.data⟩,⟨1,.guard⟩],some (1,Bool.false)⟩
abbrev z41n6:Oper:=⟨some 84,.move (.tmp 3),30,"code.go:486",#[⟨1,.guard⟩],some (1,Bool.false)⟩
abbrev z41n7:Oper:=⟨some 85,.move (.tmp 8),3,"code.go:486",#[⟨1,.guard⟩],some (1,Bool.false)⟩
abbrev z41n8:Oper:=⟨some 86,.indexAddr 30 (.tmp 84) (.tmp 85),0,"code.go:486",#[⟨6,.data⟩,⟨7,.data⟩,⟨1,.guard⟩],some (1,Bool.false)⟩
abbrev z41n9:Oper:=⟨some 87,.load 49 (.tmp 86),49,"code.go:486",#[⟨8,.data⟩,⟨1,.guard⟩],some (1,Bool.false)⟩
abbrev zq79:Oper:=⟨some 88,.binOp BinOp.eql 49 (.tmp 83) (.tmp 87) 49,4,"code.go:486",#[⟨5,.data⟩,⟨9,.data⟩,⟨1,.guard⟩],some (1,Bool.false)⟩
abbrev zq87:Oper:=⟨some 89,.pick (.tmp 79) (Operand.const (Value.bool Bool.true)) (.tmp 88),4,"code.go:486",#[⟨1,.data⟩,⟨10,.data⟩],none⟩
abbrev zq82:Oper:=⟨some 9,.assign (.tmp 89),4,"code.go:486",#[⟨11,.data⟩,⟨1,.chain⟩,⟨0,.phase⟩,⟨1,.phase⟩,⟨2,.phase⟩,⟨3,.phase⟩,⟨4,.phase⟩,⟨5,.phase⟩,⟨6,.phase⟩,⟨7,.phase⟩,⟨8,.phase⟩,⟨9,.phase⟩,⟨10,.phase⟩,⟨11,.phase⟩],none⟩
open Go.RowKit
theorem bsA2 (x y:Wpl.Ar) (w:World):(Instr.buildSlice 30 2 #[(0,arV x),(1,arV y)]).run prog w=.ok (.slice (some ⟨w.heap.size,0,none⟩) 2 2) (w.alloc (.cells (zq0 [x,y]).toArray 49)):=by kernel_rfl
theorem zq104 {op:Oper} (y z:Operand) (ho:op.op=.buildSlice 30 2 #[(0,y),(1,z)]) (u v:Wpl.Ar) (hy:a.eval y=arV u) (hz:a.eval z=arV v)
  (h:K (a.put op.dst (.slice (some ⟨w.heap.size,0,none⟩) 2 2)) (w.alloc (.cells (zq0 [u,v]).toArray 49))):op.wp prog a w K Q:=by
 unfold Oper.wp execOp;simp only [ho,List.map_toArray,List.map_cons,List.map_nil,hy,hz,Sem.run_bind,Sem.run_pure,Result.andThen_ok,bsA2];exact h
theorem zq70 {a:Act} {K:Act->World->Prop} {Q:Exit->Act->World->Prop} (s x:Operand) (ho:o.op=.call {callee:=.builtin .append,args:=#[s,x],argTypes:=#[30,30]})
  (w:World) (B:Nat) (hB:B<=w.heap.size) (v:Value) (A:List Wpl.Ar) (hs:a.eval s=v) (hown:OwnA w B v A) (g n:Nat) (L:List Wpl.Ar) (hn:n=L.length) (hx:a.eval x=.slice (some ⟨g,0,none⟩) n n) (hat:AtL w g (zq0 L)) (hl:A.length+L.length<=4000000)
  (h:∀ v' w',OwnA w' B v' (A++L)->w.grownBy w' v.ownBlock->K (a.put o.dst v') w'):o.wp prog a w K Q:=by
 subst hn;obtain ⟨i0,hi0,hz0,hz1,hz2⟩:=info_parts zq18;refine wp_append_own _ s x 30 ho B 49 i0 _ 5 40 underlying30 hi0 hz0 hz1 hz2 rfl (by decide) v A.length (zq0 A) hs hown ⟨g,0,none⟩ L.length L.length (zq0 L) hx (zq8 L) (λj u hj=>?_) (zq9 L) (by unfold maxLen;omega) (by omega) hB ?_
 ·have:=hat.2.1 j u hj;rw [show (⟨g,0,none⟩:Addr).add j=⟨g,j,none⟩ from by
   simp [Addr.add];try (intro h0;omega)]
  exact this
 ·intro v' w' own hg _;refine h v' w' ?_ hg;unfold OwnA;rw [List.length_append,zq11];exact own
theorem RdA.at' {a:Option Addr} {n:Nat} (h:RdA w (.slice a n c) A) {i:Nat} (hi:i<A.length):∃ bb off,a=some ⟨bb,off,none⟩/\w.rangeAt bb (off+i * 5) (zq1 (A[i])):=by
 obtain ⟨x1,x2,x3,x4⟩:=h;obtain ⟨x5,x6,x7,x8⟩:=x4 i hi;simp only [Value.slice.injEq] at x3;exact ⟨x5,x6,by rw [x3.1];exact x7,x8⟩
theorem RdA.len {v:Value} (h:RdA w v A):∃ a c,v=.slice a A.length c:=by
 obtain ⟨x1,x2,x3,_⟩:=h;exact ⟨x1,x2,x3⟩
theorem zq60 (L:List (Wc.In × List Int)) (v:Value) (w:World) (h:RdC w v L) (hl:L.length<=1000000) (ht:∀ x ∈ L,x.2.length<=1000000/\Wt.FitV x.1.v) :
  Calls prog 15 #[v] w λe w'=>(∃ r B,e=.returned r/\OwnA w' B r (usA L)/\w.heap.size<=B)/\Below w.heap.size w w':=by
 have CK:=zEK L v w h hl ht;obtain ⟨a1,c1,rfl,r1⟩:=h;have HR:Hid (RdC w (.slice a1 L.length c1) L):=⟨a1,c1,rfl,r1⟩
 obtain ⟨n,hn⟩:∃ n,L.length=n:=⟨_,rfl⟩
 have HL:Hid (L.length=n):=hn;have HN:Hid (n<=1000000):=by show n<=_;omega
 rw [hn] at CK ⊢;obtain ⟨qc,hqc⟩:∃ b,Wc.chkP rgt L=b:=⟨_,rfl⟩
 have HU:Hid (usA L=if qc=true then ddA [] (zq3 L) else []):=by show _=_;rw [<-hqc];rfl
 rw [hqc] at CK;obtain ⟨us,hus⟩:∃ u,usA L=u:=⟨_,rfl⟩
 rw [hus] at HU ⊢;clear hqc hus r1 hl ht hn;cases qc with
 | false =>
  have HE:Hid (us=[]):=HU;go_enter func15,ntmps15;go_wp2_with fail
  refine CK.mono ?_;rintro e w1 ⟨rfl,hb1⟩;go_wp2;go_ret;exact ⟨by rw [HE.out];exact ⟨_,_,rfl,OwnA.nil _ w.heap.size,Nat.le_refl _⟩,hb1⟩
 | true =>
  have HE:Hid (us=ddA [] (zq3 L)):=HU;clear HU;go_enter func15,ntmps15;go_wp2_with fail
  refine CK.mono ?_;rintro e w1 ⟨rfl,hb1⟩;have HB1:Hid (Below w.heap.size w w1):=hb1;have HO1:Hid (OwnA w1 w.heap.size (.slice none 0 0) (zq3 (L.take 0))):=by show OwnA _ _ _ _;rw [List.take_zero];exact OwnA.nil _ _
  clear CK hb1;go_wp2_with fail
  go_loopg [3,5] n (λgk u3 u5 wr=>∃ (i:Nat) (lv:Value),lv=u3/\u5=.int .i64 i/\gk=n - i/\i<=n/\Hid (Below w.heap.size w wr)/\Hid (OwnA wr w.heap.size lv (zq3 (L.take i))))
  case atStart=>exact ⟨0,_,rfl,rfl,rfl,Nat.zero_le _,HB1,HO1⟩
  case round =>
   clear HB1 HO1;obtain ⟨i,lv,rfl,rfl,hg,hi,HB,HO⟩:=hrel;by_cases hlt:i<n
   ·have hli:(i:Int)<(n:Int):=by omega
    have hiz:(0:Int)<=(i:Int):=by omega
    have hwi:IntKind.i64.wrap ((i:Int)+1)=(i:Int)+1:=by rw [IntKind.wrap_i64];have:=HN.out;omega
    have hil:i<L.length:=by rw [HL.out];exact hlt
    have HBB:Hid (∀ bb off,a1=some ⟨bb,off,none⟩->bb<w.heap.size):=by
     intro bb off e;obtain ⟨q1,d1,e1,f1⟩:=HR.out;simp only [Value.slice.injEq] at e1;obtain ⟨b2,o2,p,mm,kk,ee,t1,_,_⟩:=f1 i hil;have hc:=t1 0 _ rfl;have:b2=bb:=by rw [<-e1.1,e] at ee;cases ee;rfl
     rw [<-this];exact zA1 hc
    have H0:=HR.out.below HB.out;obtain ⟨q1,d1,e1,f1⟩:=H0;simp only [Value.slice.injEq] at e1;obtain ⟨ex1,ex2,ex3⟩:=e1;obtain ⟨bb,off,p,mm,kk,ee,t1,_,_⟩:=f1 i hil;rw [ee] at ex1;subst ex1;have HBB2:Hid (bb<w.heap.size):=HBB.out bb off rfl;clear HBB;obtain ⟨y,tl,hyt⟩:∃ y tl,L[i]=(y,tl):=⟨_,_,rfl⟩
    rw [hyt] at t1;have HTK:Hid (zq3 (L.take (i+1))=zq3 (L.take i)++rdA y):=by show _=_;rw [zq19 hil,hyt]
    have HCL:Hid ((zq3 (L.take i)).length<=2000000):=by show _<=_;have h2:=zq7 (L.take i);have:=HN.out;have:=HL.out;simp at h2;omega
    obtain ⟨cur,hcur⟩:∃ c,zq3 (L.take i)=c:=⟨_,rfl⟩
    have HCU:Hid (zq3 (L.take i)=cur):=hcur;rw [hcur] at HO HCL;have c0:wr.cell? ⟨bb,off+i * 23,none⟩=some (.int .i64 y.op):=by have:=t1 0 _ rfl;simpa using this
    clear f1 hyt ee ex2 ex3 hcur;by_cases h2:y.op=2
    ·have h2b:(y.op == 2)=true:=by simp [h2]
     have HRE:Hid (rdA y=[zIN y.ce.s y.ce.r y.ce.c]):=by show _=_;simp [rdA,h2]
     have s0:=t1 9 _ rfl;have s1:=t1 10 _ rfl;have s2:=t1 11 _ rfl;have ON:=zq72 y.ce.s y.ce.r y.ce.c wr;generalize zIN y.ce.s y.ce.r y.ce.c=V at *;clear h2;go_wp2_with fail
     refine ON.mono ?_;rintro e w4 ⟨rfl,hb4⟩;have hB4:=zAB HB.out hb4;have hb5:=zAJ (Below.refl _ w4) (.cells (zq1 V).toArray 49);have p5:=AtL.new0 w4 49 (zq1 V);have q0:=p5.2.1 0 _ rfl;have q1:=p5.2.1 1 _ rfl;have q2:=p5.2.1 2 _ rfl;have q3:=p5.2.1 3 _ rfl;have q4:=p5.2.1 4 _ rfl;have HB5:Hid (Below w.heap.size w (w4.alloc (.cells (zq1 V).toArray 49))):=zAB hB4 hb5;have HO5:Hid (OwnA (w4.alloc (.cells (zq1 V).toArray 49)) w.heap.size lv cur):=(HO.out.below hb4).below hb5;clear p5 hb5 ON hb4 hB4 c0 s0 s1 s2 t1 HB HO;go_upto_region 10 with fail
     generalize (w4.alloc (.cells (zq1 V).toArray 49))=W5 at *;have hbs:=zAJ (Below.refl _ W5) (.cells (zq1 V).toArray 49);have HA:Hid (AtL (W5.alloc (.cells (zq1 V).toArray 49)) W5.heap.size (zq0 [V])):=AtL.new0 W5 49 (zq0 [V]);have HO2:Hid (OwnA (W5.alloc (.cells (zq1 V).toArray 49)) w.heap.size lv cur):=HO5.out.below hbs;have HB2:Hid (Below w.heap.size w (W5.alloc (.cells (zq1 V).toArray 49))):=zAB HB5.out hbs;clear hbs;go_wp2_with (first | (refine zq2 rfl (.tmp 36) (.tmp 38) rfl (W5.alloc (.cells (zq1 V).toArray 49)) w.heap.size HB2.out.size lv cur rfl HO2.out W5.heap.size 1 [V] rfl rfl HA.out (by have:=HCL.out;simp;omega) ?_;intro v2 w2 own2 hg2))
     have HO3:Hid (OwnA w2 w.heap.size v2 (zq3 (L.take (i+1)))):=by show OwnA _ _ _ _;rw [HTK.out,HRE.out,HCU.out];exact own2
     have HB3:Hid (Below w.heap.size w w2):=HB2.out.grown hg2 HB2.out.size (λk e=>(HO2.out.blk e).1);clear own2 hg2 HA HO2 HB2;go_roundg (n - (i+1))
     case rel=>exact ⟨i+1,_,rfl,by simp,rfl,hlt,HB3,HO3⟩
     case measure=>omega
    ·have h2b:(y.op == 2)=false:=by simp [h2]
     by_cases h8:y.op=8 \/ y.op=11
     ·have HRE:Hid (rdA y=[y.ar]):=by show _=_;simp [rdA,h2,h8]
      have q0:=t1 12 _ rfl;have q1:=t1 13 _ rfl;have q2:=t1 14 _ rfl;have q3:=t1 15 _ rfl;have q4:=t1 16 _ rfl;have hc:((y.op == 8)=true) \/ ((y.op == 8)=false/\(y.op == 11)=true):=by
       rcases h8 with h | h
       ·left;simp [h]
       ·right;simp [h]
      clear t1 h8 h2;rcases hc with e8 | ⟨e8,e11⟩
      ·have hbs:=zAJ (Below.refl _ wr) (.cells (zq1 y.ar).toArray 49);have HA:Hid (AtL (wr.alloc (.cells (zq1 y.ar).toArray 49)) wr.heap.size (zq0 [y.ar])):=AtL.new0 wr 49 (zq0 [y.ar]);have HO2:Hid (OwnA (wr.alloc (.cells (zq1 y.ar).toArray 49)) w.heap.size lv cur):=HO.out.below hbs;have HB2:Hid (Below w.heap.size w (wr.alloc (.cells (zq1 y.ar).toArray 49))):=zAB HB.out hbs;clear hbs;go_wp2_with (first | (refine zq2 rfl (.tmp 43) (.tmp 49) rfl (wr.alloc (.cells (zq1 y.ar).toArray 49)) w.heap.size HB2.out.size lv cur rfl HO2.out wr.heap.size 1 [y.ar] rfl rfl HA.out (by have:=HCL.out;simp;omega) ?_;intro v2 w2 own2 hg2))
       have HO3:Hid (OwnA w2 w.heap.size v2 (zq3 (L.take (i+1)))):=by show OwnA _ _ _ _;rw [HTK.out,HRE.out,HCU.out];exact own2
       have HB3:Hid (Below w.heap.size w w2):=HB2.out.grown hg2 HB2.out.size (λk e=>(HO2.out.blk e).1);clear own2 hg2 HA HO2 HB2;go_roundg (n - (i+1))
       case rel=>exact ⟨i+1,_,rfl,by simp,rfl,hlt,HB3,HO3⟩
       case measure=>omega
      ·have hbs:=zAJ (Below.refl _ wr) (.cells (zq1 y.ar).toArray 49);have HA:Hid (AtL (wr.alloc (.cells (zq1 y.ar).toArray 49)) wr.heap.size (zq0 [y.ar])):=AtL.new0 wr 49 (zq0 [y.ar]);have HO2:Hid (OwnA (wr.alloc (.cells (zq1 y.ar).toArray 49)) w.heap.size lv cur):=HO.out.below hbs;have HB2:Hid (Below w.heap.size w (wr.alloc (.cells (zq1 y.ar).toArray 49))):=zAB HB.out hbs;clear hbs;go_wp2_with (first | (refine zq2 rfl (.tmp 43) (.tmp 49) rfl (wr.alloc (.cells (zq1 y.ar).toArray 49)) w.heap.size HB2.out.size lv cur rfl HO2.out wr.heap.size 1 [y.ar] rfl rfl HA.out (by have:=HCL.out;simp;omega) ?_;intro v2 w2 own2 hg2))
       have HO3:Hid (OwnA w2 w.heap.size v2 (zq3 (L.take (i+1)))):=by show OwnA _ _ _ _;rw [HTK.out,HRE.out,HCU.out];exact own2
       have HB3:Hid (Below w.heap.size w w2):=HB2.out.grown hg2 HB2.out.size (λk e=>(HO2.out.blk e).1);clear own2 hg2 HA HO2 HB2;go_roundg (n - (i+1))
       case rel=>exact ⟨i+1,_,rfl,by simp,rfl,hlt,HB3,HO3⟩
       case measure=>omega
     ·have e8:(y.op == 8)=false:=by simp;omega
      have e11:(y.op == 11)=false:=by simp;omega
      by_cases h9:y.op=9
      ·have HRE:Hid (rdA y=[y.ar,y.pr]):=by show _=_;simp [rdA,h9]
       have e9:(y.op == 9)=true:=by simp [h9]
       have q0:=t1 12 _ rfl;have q1:=t1 13 _ rfl;have q2:=t1 14 _ rfl;have q3:=t1 15 _ rfl;have q4:=t1 16 _ rfl;have r0:=t1 17 _ rfl;have r1:=t1 18 _ rfl;have r2:=t1 19 _ rfl;have r3:=t1 20 _ rfl;have r4:=t1 21 _ rfl;clear h8 h2 h9;go_upto_region 15 with fail
       have rb:=(Below.refl wr.heap.size wr).drew;have s1:=zAK rb t1;have HB6:Hid (Below w.heap.size w wr.drew):=zAB HB.out rb;have HO6:Hid (OwnA wr.drew w.heap.size lv cur):=HO.out.below rb;clear rb t1 HB HO q0 q1 q2 q3 q4 r0 r1 r2 r3 r4 c0;have q0:=s1 12 _ rfl;have q1:=s1 13 _ rfl;have q2:=s1 14 _ rfl;have q3:=s1 15 _ rfl;have q4:=s1 16 _ rfl;have r0:=s1 17 _ rfl;have r1:=s1 18 _ rfl;have r2:=s1 19 _ rfl;have r3:=s1 20 _ rfl;have r4:=s1 21 _ rfl;refine wp_region_held_drew (S:=λW=>W.cell? ⟨bb,off+i * 23+12,none⟩=some (.int .i64 y.ar.s)/\W.cell? ⟨bb,off+i * 23+13,none⟩=some (.int .i64 y.ar.t)/\W.cell? ⟨bb,off+i * 23+14,none⟩=some (.int .i64 y.ar.l)/\W.cell? ⟨bb,off+i * 23+15,none⟩=some (.int .i64 y.ar.b)/\W.cell? ⟨bb,off+i * 23+16,none⟩=some (.int .i64 y.ar.r)/\W.cell? ⟨bb,off+i * 23+17,none⟩=some (.int .i64 y.pr.s)/\W.cell? ⟨bb,off+i * 23+18,none⟩=some (.int .i64 y.pr.t)/\W.cell? ⟨bb,off+i * 23+19,none⟩=some (.int .i64 y.pr.l)/\W.cell? ⟨bb,off+i * 23+20,none⟩=some (.int .i64 y.pr.b)/\W.cell? ⟨bb,off+i * 23+21,none⟩=some (.int .i64 y.pr.r)) (by kernel_rfl) ⟨q0,q1,q2,q3,q4,r0,r1,r2,r3,r4⟩ (λhHeld=>?_);generalize wr.drew=WD at *;refine tkQ 0 ⟨some 53,.move (.tmp 3),30,"code.go:480",#[],none⟩ ?_
       refine tkQ 1 ⟨some 54,.move (.tmp 0),22,"code.go:480",#[],none⟩ ?_
       refine tkQ 2 ⟨some 55,.move (.tmp 5),3,"code.go:480",#[],none⟩ ?_
       refine tkQ 3 ⟨some 56,.indexAddr 22 (.tmp 54) (.tmp 55),0,"code.go:480",#[⟨1,.data⟩,⟨2,.data⟩],none⟩ ?_
       refine tkQ 4 ⟨some 57,.fieldAddr 52 (.tmp 56) 5,0,"code.go:480",#[⟨3,.data⟩],none⟩ ?_
       refine tkQ 5 ⟨some 58,.load 49 (.tmp 57),49,"code.go:480",#[⟨4,.data⟩],none⟩ ?_
       refine tkQ 6 ⟨some 59,.move (.tmp 0),22,"code.go:480",#[],none⟩ ?_
       refine tkQ 7 ⟨some 60,.move (.tmp 5),3,"code.go:480",#[],none⟩ ?_
       refine tkQ 8 ⟨some 61,.indexAddr 22 (.tmp 59) (.tmp 60),0,"code.go:480",#[⟨6,.data⟩,⟨7,.data⟩],none⟩ ?_
       refine tkQ 9 ⟨some 62,.fieldAddr 52 (.tmp 61) 6,0,"code.go:480",#[⟨8,.data⟩],none⟩ ?_
       refine tkQ 10 ⟨some 63,.load 49 (.tmp 62),49,"code.go:480",#[⟨9,.data⟩],none⟩ ?_
       refine rdQ 11 ⟨some 64,.buildSlice 30 2 #[(0,.tmp 58),(1,.tmp 63)],30,"code.go:480",#[⟨5,.data⟩,⟨10,.data⟩],none⟩ (λK hK=>?_);refine zq104 (.tmp 58) (.tmp 63) rfl y.ar y.pr rfl rfl ?_;have hbs:=zAJ (Below.refl _ WD) (.cells (zq0 [y.ar,y.pr]).toArray 49);have HA:Hid (AtL (WD.alloc (.cells (zq0 [y.ar,y.pr]).toArray 49)) WD.heap.size (zq0 [y.ar,y.pr])):=AtL.new0 WD 49 (zq0 [y.ar,y.pr]);have HO7:Hid (OwnA (WD.alloc (.cells (zq0 [y.ar,y.pr]).toArray 49)) w.heap.size lv cur):=HO6.out.below hbs;have HB7:Hid (Below w.heap.size w (WD.alloc (.cells (zq0 [y.ar,y.pr]).toArray 49))):=zAB HB6.out hbs;replace q0:=zAC hbs q0
       replace q1:=zAC hbs q1
       replace q2:=zAC hbs q2
       replace q3:=zAC hbs q3
       replace q4:=zAC hbs q4
       replace r0:=zAC hbs r0
       replace r1:=zAC hbs r1
       replace r2:=zAC hbs r2
       replace r3:=zAC hbs r3
       replace r4:=zAC hbs r4
       have HOB:Hid (∀ g,lv.ownBlock=some g->bb ≠ g \/ True):=λ_ _=>Or.inr trivial
       clear hbs HO6 HB6 s1 HOB;refine hkQ hK ⟨q0,q1,q2,q3,q4,r0,r1,r2,r3,r4⟩ (λhHeld=>?_);clear hK K
       generalize (WD.alloc (.cells (zq0 [y.ar,y.pr]).toArray 49))=W7 at *;obtain ⟨gg,hgg⟩:∃ g,WD.heap.size=g:=⟨_,rfl⟩
       rw [hgg] at HA;try simp only [hgg]
       clear hgg;have HBQ:Hid (bb<w.heap.size):=HBB2;refine rdQ 12 ⟨some 65,.call {callee:=Callee.builtin Builtin.append,args:=#[.tmp 53,.tmp 64],argTypes:=#[30,30]},30,"code.go:480",#[⟨0,.data⟩,⟨11,.data⟩],none⟩ (λK hK=>?_);refine zq70 (.tmp 53) (.tmp 64) rfl W7 w.heap.size HB7.out.size lv cur rfl HO7.out gg 2 [y.ar,y.pr] rfl rfl HA.out (by have:=HCL.out;simp;omega) ?_;intro v2 w2 own2 hg2;have fr2:Fr lv.ownBlock.toList W7 w2:=Fr.of_grown hg2 (λk e=>by simp [e]);have nb:bb ∉ lv.ownBlock.toList:=λe=>by have:=(HO7.out.blk (g:=bb) (by simpa using e)).1;have:=HBQ.out;omega
       have HO3:Hid (OwnA w2 w.heap.size v2 (zq3 (L.take (i+1)))):=by show OwnA _ _ _ _;rw [HTK.out,HRE.out,HCU.out];exact own2
       have HB3:Hid (Below w.heap.size w w2):=HB7.out.grown hg2 HB7.out.size (λk e=>(HO7.out.blk e).1);have S2:=And.intro (fr2.cell q0 nb) (And.intro (fr2.cell q1 nb) (And.intro (fr2.cell q2 nb) (And.intro (fr2.cell q3 nb) (And.intro (fr2.cell q4 nb) (And.intro (fr2.cell r0 nb) (And.intro (fr2.cell r1 nb) (And.intro (fr2.cell r2 nb) (And.intro (fr2.cell r3 nb) (fr2.cell r4 nb)))))))));have HS2:Hid _:=S2;clear own2 hg2 HA HO7 HB7 fr2 nb S2 q0 q1 q2 q3 q4 r0 r1 r2 r3 r4;refine hkQ hK HS2.out (λhHeld=>?_);clear hK K
       refine rdQ 13 ⟨some 3,.assign (.tmp 65),30,"code.go:480",#[⟨12,.data⟩,⟨12,.chain⟩,⟨0,.phase⟩,⟨1,.phase⟩,⟨2,.phase⟩,⟨3,.phase⟩,⟨4,.phase⟩,⟨5,.phase⟩,⟨6,.phase⟩,⟨7,.phase⟩,⟨8,.phase⟩,⟨9,.phase⟩,⟨10,.phase⟩,⟨11,.phase⟩,⟨12,.phase⟩],none⟩ (λK hK=>?_);go_simp
       refine hkQ hK HS2.out (λhHeld=>?_);clear hK K
       refine wpAnyH_done (by kernel_rfl) ?_ _;clear hHeld HS2;go_wp2_with fail
       go_roundg (n - (i+1))
       case rel=>exact ⟨i+1,_,rfl,by simp,rfl,hlt,HB3,HO3⟩
       case measure=>omega
      ·have HRE:Hid (rdA y=[]):=by show _=_;simp [rdA,h2,h8,h9]
       have e9:(y.op == 9)=false:=by simp [h9]
       clear h8 h2 h9 t1;have HO3:Hid (OwnA wr w.heap.size lv (zq3 (L.take (i+1)))):=by show OwnA _ _ _ _;rw [HTK.out,HRE.out,HCU.out,List.append_nil];exact HO.out
       go_wp2_with fail
       go_roundg (n - (i+1))
       case rel=>exact ⟨i+1,_,rfl,by simp,rfl,hlt,HB,HO3⟩
       case measure=>omega
   ·have hli:¬ (i:Int)<(n:Int):=by omega
    have HTT:Hid (L.take i=L):=List.take_of_length_le (by rw [HL.out];omega);rw [HTT.out] at HO;have HAL:Hid ((zq3 L).length<=2000000):=by show _<=_;have h2:=zq7 L;have:=HN.out;have:=HL.out;omega
    obtain ⟨AL,hAL⟩:∃ A,zq3 L=A:=⟨_,rfl⟩
    rw [hAL] at HO HAL HE;obtain ⟨m,hm⟩:∃ m,AL.length=m:=⟨_,rfl⟩
    have HM:Hid (AL.length=m):=hm;obtain ⟨ga,ca,ea⟩:=HO.out.rd.len;rw [hm] at ea HAL;subst ea;have HRA:Hid (RdA wr (.slice ga m ca) AL):=HO.out.rd;have HGA:Hid (∀ g,(Value.slice ga m ca).ownBlock=some g->g<wr.heap.size):=λg e=>(HO.out.blk e).2
    obtain ⟨B2,hB2⟩:∃ b,wr.heap.size=b:=⟨_,rfl⟩
    have HO0:Hid (OwnA wr B2 (.slice none 0 0) (ddA [] (AL.take 0))):=by show OwnA _ _ _ _;rw [List.take_zero];exact OwnA.nil _ _
    rw [hB2] at HGA;have HBB:Hid (B2<=wr.heap.size/\w.heap.size<=B2):=⟨by omega,by rw [<-hB2];exact HB.out.size⟩
    clear HO HTT hAL hm hB2 HL HR HN;go_wp2_with fail
    go_loopg [4,8] m (λgk u4 u8 wr=>∃ (k:Nat) (lo:Value),lo=u4/\u8=.int .i64 k/\gk=m - k/\k<=m/\Hid (Below w.heap.size w wr)/\Hid (RdA wr (.slice ga m ca) AL)/\Hid (OwnA wr B2 lo (ddA [] (AL.take k)))/\Hid (B2<=wr.heap.size))
    case atStart=>exact ⟨0,_,rfl,rfl,rfl,Nat.zero_le _,HB,HRA,HO0,HBB.out.1⟩
    case round =>
     clear HB HRA HO0;obtain ⟨k,lo,rfl,rfl,hgk,hk,HB,HRA,HO,HBH⟩:=hrel;by_cases hkm:k<m
     ·have hkl:(k:Int)<(m:Int):=by omega
      have hkz:(0:Int)<=(k:Int):=by omega
      have hwk:IntKind.i64.wrap ((k:Int)+1)=(k:Int)+1:=by rw [IntKind.wrap_i64];have:=HAL.out;omega
      have hkA:k<AL.length:=by rw [HM.out];exact hkm
      obtain ⟨z,hz⟩:∃ z,AL[k]=z:=⟨_,rfl⟩
      have HTZ:Hid (AL.take (k+1)=AL.take k++[z]):=by show _=_;rw [List.take_succ_eq_append_getElem hkA,hz]
      obtain ⟨ba,oa,ega,rz⟩:=HRA.out.at' hkA;rw [hz] at rz;subst ega;have HOL:Hid ((ddA [] (AL.take k)).length<=2000000):=by show _<=_;have h1:=zq10 (AL.take k) [];have:=HAL.out;simp at h1;omega
      obtain ⟨out,hout⟩:∃ o,ddA [] (AL.take k)=o:=⟨_,rfl⟩
      have HOU:Hid (ddA [] (AL.take k)=out):=hout;rw [hout] at HO HOL;obtain ⟨cl,hcl⟩:∃ c,out.length=c:=⟨_,rfl⟩
      have HCLN:Hid (out.length=cl):=hcl;rw [hcl] at HOL;obtain ⟨go',co,eo⟩:=HO.out.rd.len;rw [hcl] at eo;subst eo;have HKZ:Hid (∀ W:World,RdA W (.slice (some ⟨ba,oa,none⟩) m ca) AL->W.rangeAt ba (oa+k * 5) (zq1 z)):=by
       intro W hW;obtain ⟨b2,o2,e2,r2⟩:=hW.at' hkA;cases e2
       rw [hz] at r2;exact r2
      have HT0:Hid (false=(out.take 0).any (λy=>zEe y z)):=by show _=_;rw [List.take_zero];rfl
      clear hout hcl hz hkA rz;go_wp2_with fail
      go_loopg [9,10] cl (λgk u9 u10 wr=>∃ (t:Nat) (th:Bool),u9=.bool th/\u10=.int .i64 t/\gk=cl - t/\t<=cl/\Hid (Below w.heap.size w wr)/\Hid (RdA wr (.slice (some ⟨ba,oa,none⟩) m ca) AL)/\Hid (OwnA wr B2 (.slice go' cl co) out)/\Hid (B2<=wr.heap.size)/\Hid (th=(out.take t).any (λy=>zEe y z)))
      case atStart=>exact ⟨0,false,rfl,rfl,rfl,Nat.zero_le _,HB,HRA,HO,HBH,HT0⟩
      case round =>
       clear HB HRA HO HBH HT0;obtain ⟨t,th,rfl,rfl,hgt,ht,HB,HRA,HO,HBH,HTH⟩:=hrel;by_cases htc:t<cl
       ·have htl:(t:Int)<(cl:Int):=by omega
        have htz:(0:Int)<=(t:Int):=by omega
        have hwt:IntKind.i64.wrap ((t:Int)+1)=(t:Int)+1:=by rw [IntKind.wrap_i64];have:=HOL.out;omega
        have htA:t<out.length:=by rw [HCLN.out];exact htc
        obtain ⟨y,hy⟩:∃ y,out[t]=y:=⟨_,rfl⟩
        have HTY:Hid (out.take (t+1)=out.take t++[y]):=by show _=_;rw [List.take_succ_eq_append_getElem htA,hy]
        obtain ⟨bo,oo,ego,ry⟩:=HO.out.rd.at' htA;rw [hy] at ry;subst ego;have rz:=HKZ.out wr HRA.out;clear hy htA;go_upto_region 23 with fail
        have rb:=(Below.refl wr.heap.size wr).drew;have sy:=zAK rb ry;have sz:=zAK rb rz;have HB6:Hid (Below w.heap.size w wr.drew):=zAB HB.out rb;have HO6:Hid (OwnA wr.drew B2 (.slice (some ⟨bo,oo,none⟩) cl co) out):=HO.out.below rb;have HR6:Hid (RdA wr.drew (.slice (some ⟨ba,oa,none⟩) m ca) AL):=HRA.out.below rb;have HH6:Hid (B2<=wr.drew.heap.size):=Nat.le_trans HBH.out rb.size;clear rb ry rz HB HO HRA HBH;have heq:=λW=>zBb y z W
        have y0:wr.drew.cell? ⟨bo,oo+t * 5,none⟩=some (.int .i64 y.s):=by have:=sy 0 _ rfl;simpa using this
        have y1:=sy 1 _ rfl;have y2:=sy 2 _ rfl;have y3:=sy 3 _ rfl;have y4:=sy 4 _ rfl;have z0:wr.drew.cell? ⟨ba,oa+k * 5,none⟩=some (.int .i64 z.s):=by have:=sz 0 _ rfl;simpa using this
        have z1:=sz 1 _ rfl;have z2:=sz 2 _ rfl;have z3:=sz 3 _ rfl;have z4:=sz 4 _ rfl;clear sy sz;obtain ⟨qe,hqe⟩:∃ b,zEe y z=b:=⟨_,rfl⟩
        rw [hqe] at heq;have HT2:Hid ((th || qe)=(out.take (t+1)).any (λy=>zEe y z)):=by show _=_;rw [HTY.out,List.any_append,<-HTH.out];simp [hqe]
        clear hqe HTH HTY;refine wp_region_held_drew (S:=λW=>W.cell? ⟨bo,oo+t * 5,none⟩=some (.int .i64 y.s)/\W.cell? ⟨bo,oo+t * 5+1,none⟩=some (.int .i64 y.t)/\W.cell? ⟨bo,oo+t * 5+2,none⟩=some (.int .i64 y.l)/\W.cell? ⟨bo,oo+t * 5+3,none⟩=some (.int .i64 y.b)/\W.cell? ⟨bo,oo+t * 5+4,none⟩=some (.int .i64 y.r)/\W.cell? ⟨ba,oa+k * 5,none⟩=some (.int .i64 z.s)/\W.cell? ⟨ba,oa+k * 5+1,none⟩=some (.int .i64 z.t)/\W.cell? ⟨ba,oa+k * 5+2,none⟩=some (.int .i64 z.l)/\W.cell? ⟨ba,oa+k * 5+3,none⟩=some (.int .i64 z.b)/\W.cell? ⟨ba,oa+k * 5+4,none⟩=some (.int .i64 z.r)) (by kernel_rfl) ⟨y0,y1,y2,y3,y4,z0,z1,z2,z3,z4⟩ (λhHeld=>?_);generalize wr.drew=WD at *;cases th with
        | false =>
         refine tkQ 0 z41n0 ?_
         refine tkQ 1 z41n1 ?_
         refine tkQ 2 z41n2 ?_
         refine tkQ 3 z41n3 ?_
         refine tkQ 4 z41n4 ?_
         refine tkQ 5 z41n5 ?_
         refine tkQ 6 z41n6 ?_
         refine tkQ 7 z41n7 ?_
         refine tkQ 8 z41n8 ?_
         refine tkQ 9 z41n9 ?_
         refine tkQ 10 zq79 ?_
         refine tkQ 11 zq87 ?_
         refine rdQ 12 zq82 (λK hK=>?_);go_simp
         refine hkQ hK ⟨y0,y1,y2,y3,y4,z0,z1,z2,z3,z4⟩ (λhHeld=>?_);clear hK K
         refine wpAnyH_done (by kernel_rfl) ?_ _;clear hHeld heq y0 y1 y2 y3 y4 z0 z1 z2 z3 z4;go_wp2_with fail
         go_roundg (cl - (t+1))
         case rel=>exact ⟨t+1,qe,rfl,by simp,rfl,htc,HB6,HR6,HO6,HH6,HT2⟩
         case measure=>omega
        | true =>
         refine tkQ 0 z41n0 ?_
         refine tkQ 1 z41n1 ?_
         refine tnQ 2 z41n2 ?_
         refine tnQ 3 z41n3 ?_
         refine tnQ 4 z41n4 ?_
         refine tnQ 5 z41n5 ?_
         refine tnQ 6 z41n6 ?_
         refine tnQ 7 z41n7 ?_
         refine tnQ 8 z41n8 ?_
         refine tnQ 9 z41n9 ?_
         refine tnQ 10 zq79 ?_
         refine tkQ 11 zq87 ?_
         refine rdQ 12 zq82 (λK hK=>?_);go_simp
         refine hkQ hK ⟨y0,y1,y2,y3,y4,z0,z1,z2,z3,z4⟩ (λhHeld=>?_);clear hK K
         refine wpAnyH_done (by kernel_rfl) ?_ _;clear hHeld heq y0 y1 y2 y3 y4 z0 z1 z2 z3 z4;go_wp2_with fail
         go_roundg (cl - (t+1))
         case rel=>exact ⟨t+1,true,rfl,by simp,rfl,htc,HB6,HR6,HO6,HH6,by show _=_;rw [<-HT2.out];rfl⟩
         case measure=>omega
       ·have htl:¬ (t:Int)<(cl:Int):=by omega
        have HAN:Hid (th=out.any (λy=>zEe y z)):=by show _=_;rw [HTH.out,List.take_of_length_le (by rw [HCLN.out];omega)]
        have rz:=HKZ.out wr HRA.out;cases th with
        | true =>
         have HO9:Hid (OwnA wr B2 (.slice go' cl co) (ddA [] (AL.take (k+1)))):=by show OwnA _ _ _ _;rw [HTZ.out,zq20,HOU.out];simp only [ddA,<-HAN.out,if_true];exact HO.out
         clear rz HTH HAN;go_wp2_with fail
         go_roundg (m - (k+1))
         case rel=>exact ⟨k+1,_,rfl,by simp,rfl,hkm,HB,HRA,HO9,HBH⟩
         case measure=>omega
        | false =>
         have z0:wr.cell? ⟨ba,oa+k * 5,none⟩=some (.int .i64 z.s):=by have:=rz 0 _ rfl;simpa using this
         have z1:=rz 1 _ rfl;have z2:=rz 2 _ rfl;have z3:=rz 3 _ rfl;have z4:=rz 4 _ rfl;have hbs:=zAJ (Below.refl _ wr) (.cells (zq1 z).toArray 49);have HA:Hid (AtL (wr.alloc (.cells (zq1 z).toArray 49)) wr.heap.size (zq0 [z])):=AtL.new0 wr 49 (zq0 [z]);have HO2:Hid (OwnA (wr.alloc (.cells (zq1 z).toArray 49)) B2 (.slice go' cl co) out):=HO.out.below hbs;have HB2:Hid (Below w.heap.size w (wr.alloc (.cells (zq1 z).toArray 49))):=zAB HB.out hbs;have HR2:Hid (RdA (wr.alloc (.cells (zq1 z).toArray 49)) (.slice (some ⟨ba,oa,none⟩) m ca) AL):=HRA.out.below hbs;have HH2:Hid (B2<=(wr.alloc (.cells (zq1 z).toArray 49)).heap.size):=Nat.le_trans HBH.out hbs.size;clear hbs rz HO HB HRA HBH HTH;go_wp2_with (first | (refine zq2 rfl (.tmp 92) (.tmp 97) rfl (wr.alloc (.cells (zq1 z).toArray 49)) B2 HH2.out (.slice go' cl co) out rfl HO2.out wr.heap.size 1 [z] rfl rfl HA.out (by have:=HOL.out;have:=HCLN.out;simp;omega) ?_;intro v2 w2 own2 hg2))
         have fr2:Fr (Value.slice go' cl co).ownBlock.toList (wr.alloc (.cells (zq1 z).toArray 49)) w2:=Fr.of_grown hg2 (λk e=>by simp [e]);have HO3:Hid (OwnA w2 B2 v2 (ddA [] (AL.take (k+1)))):=by show OwnA _ _ _ _;rw [HTZ.out,zq20,HOU.out];simp only [ddA,<-HAN.out];exact own2
         have HB3:Hid (Below w.heap.size w w2):=zAN HB2.out fr2 (λk hk=>by have:=(HO2.out.blk (g:=k) (by simpa using hk)).1;have:=HBB.out;omega);have HR3:Hid (RdA w2 (.slice (some ⟨ba,oa,none⟩) m ca) AL):=by
          obtain ⟨x1,x2,x3,x4⟩:=HR2.out;refine ⟨x1,x2,x3,λi hi=>?_⟩;obtain ⟨x5,x6,x7,x8⟩:=x4 i hi;refine ⟨x5,x6,x7,fr2.range x8 (λe=>?_)⟩;simp only [Value.slice.injEq] at x3;have h1:=HGA.out x5 (by rw [x3.1,x7];rfl);have h2:=(HO2.out.blk (g:=x5) (by simpa using e)).1;omega
         have HH3:Hid (B2<=w2.heap.size):=Nat.le_trans HH2.out fr2.size;clear own2 hg2 fr2 HA HO2 HB2 HR2 HH2 z0 z1 z2 z3 z4 HAN;go_roundg (m - (k+1))
         case rel=>exact ⟨k+1,_,rfl,by simp,rfl,hkm,HB3,HR3,HO3,HH3⟩
         case measure=>omega
     ·have hkl:¬ (k:Int)<(m:Int):=by omega
      have HTT:Hid (AL.take k=AL):=List.take_of_length_le (by rw [HM.out];omega);rw [HTT.out,<-HE.out] at HO;go_wp2;go_ret;exact ⟨⟨_,rfl,_,HO.out,HBB.out.2⟩,HB.out⟩
def lng (x:Wc.In):Int:=if x.op=8 then Wpl.sizeA x.ar.s x.ar.t x.ar.l x.ar.b x.ar.r else if x.op=9 then 2 * Wpl.sizeA x.ar.s x.ar.t x.ar.l x.ar.b x.ar.r else 1
theorem zq21 (s t l b r:Int):0<=Wpl.sizeA s t l b r/\Wpl.sizeA s t l b r<=16777216:=by
 unfold Wpl.sizeA;cases h:Wpl.rightA s t l b r with
 | false=>simp
 | true =>
  simp only [if_true];have hb:1<=b - t+1/\b - t+1<=65536/\1<=r - l+1/\r - l+1<=256:=by
   unfold Wpl.rightA at h;simp only [decide_eq_true_eq] at h;omega
  obtain ⟨h1,h2,h3,h4⟩:=hb;refine ⟨Int.mul_nonneg (by omega) (by omega),?_⟩;have:=Int.mul_le_mul h2 h4 (by omega) (by omega);omega
theorem zq80 (x:Wc.In):0<=lng x/\lng x<=33554432:=by
 have:=zq21 x.ar.s x.ar.t x.ar.l x.ar.b x.ar.r;unfold lng;repeat' split
 all_goals omega
abbrev BD:=List (Int × Int)
def bat (D:BD) (j:Int):Int × Int:=D.getD j.toNat (0,0)
def zq5 (D:BD):(Int × Int)->List Int->Int × Int
 | b,[]=>b
 | b,j::r=>zq5 D (min b.1 (bat D j).1,max b.2 (bat D j).2) r
def stpP (x:Wc.In) (nx:List Int) (D:BD):Int × Int:=match nx with
 | []=>(1,1)
 | j::r=>((zq5 D (bat D j) r).1+1,(zq5 D (bat D j) r).2+lng x)
def zq6 (D:BD):Nat->(Int × Int)->List Int->Int × Int
 | _,b,[]=>b
 | k,b,j::r=>zq6 D (k+1) ((if k=0 \/ (bat D j).1<b.1 then (bat D j).1 else b.1),max b.2 (bat D j).2) r
def stpR (x:Wc.In) (nx:List Int) (D:BD):Int × Int:=((zq6 D 0 (0,0) nx).1+1,(zq6 D 0 (0,0) nx).2+lng x)
theorem zq17 (D:BD):∀ (l:List Int) (k:Nat) (b:Int × Int),0<k->zq6 D k b l=zq5 D b l
 | [],k,b,_=>rfl
 | j::r,k,b,hk=>by
  unfold zq6 zq5;rw [zq17 D r (k+1) _ (by omega)];have e:(if k=0 \/ (bat D j).1<b.1 then (bat D j).1 else b.1)=min b.1 (bat D j).1:=by
   have hk0:¬ k=0:=by omega
   by_cases h:(bat D j).1<b.1
   ·rw [if_pos (Or.inr h)];omega
   ·rw [if_neg (by intro q;rcases q with q | q <;> omega)];omega
  rw [e]
theorem zq105 {D:BD} (hD:∀ j:Int,0<=(bat D j).2) (h0:nx=[]->lng x=1):stpR x nx D=stpP x nx D:=by
 cases nx with
 | nil=>simp [stpR,stpP,zq6,h0 rfl]
 | cons j r =>
  have e:zq6 D 0 (0,0) (j::r)=zq5 D (bat D j) r:=by
   unfold zq6;rw [zq17 D r 1 _ (by omega)];have:=hD j;have e2:max (0:Int) (bat D j).2=(bat D j).2:=by omega
   simp [e2]
  simp only [stpR,stpP,e]
theorem zq69 (x:Wc.In) (a b:Int) (D:BD):stpP x [a,b] D=stpP x [b,a] D:=by
 simp only [stpP,zq5];rw [Int.min_comm,Int.max_comm]
theorem nx_eq (x:Wc.In) (tl:List Int) (i:Int) (D:BD):stpP x ((onw x.op x.a x.b tl i).1++(onw x.op x.a x.b tl i).2) D=stpP x (aP x tl i) D:=by
 by_cases h12:x.op=12
 ·simp [onw,aP,Wc.ahd,h12]
 by_cases h13:x.op=13
 ·simp [onw,aP,Wc.ahd,h13]
 by_cases h14:x.op=14
 ·have e1:(onw x.op x.a x.b tl i).1++(onw x.op x.a x.b tl i).2=[i+1,x.a]:=by simp [onw,h14]
  have e2:aP x tl i=[x.a,i+1]:=by simp [aP,Wc.ahd,h14]
  rw [e1,e2];exact zq69 _ _ _ _
 by_cases h15:x.op=15
 ·have e1:(onw x.op x.a x.b tl i).1++(onw x.op x.a x.b tl i).2=tl++[x.b]:=by simp [onw,h15]
  have e2:aP x tl i=tl++[x.b]:=by simp [aP,Wc.ahd,h15,Function.comp_def]
  rw [e1,e2]
 by_cases h16:x.op=16
 ·simp [onw,aP,Wc.ahd,h16]
 ·simp [onw,aP,Wc.ahd,h12,h13,h14,h15,h16]
theorem zq109 {tl:List Int} {i:Int} (h:aP x tl i=[]):lng x=1:=by
 have h16:x.op=16:=by
  by_cases h16:x.op=16
  ·exact h16
  ·exfalso
   unfold aP Wc.ahd at h;rw [if_neg h16] at h;repeat' split at h
   all_goals simp at h
 unfold lng;rw [if_neg (by omega),if_neg (by omega)]
def bkL (st:Nat->BD->Int × Int) (n:Nat):Nat->BD
 | 0=>List.replicate n (0,0)
 | c+1=>(bkL st n c).set (n - 1 - c) (st (n - 1 - c) (bkL st n c))
theorem zq26 (st:Nat->BD->Int × Int) (n:Nat):∀ c,(bkL st n c).length=n
 | 0=>by simp [bkL]
 | c+1=>by simp [bkL,zq26 st n c]
def BInv (c:Nat) (D:BD):Prop:=∀ j:Int,0<=(bat D j).1/\(bat D j).1<=(c:Int)/\0<=(bat D j).2/\(bat D j).2<=(c:Int) * 33554432
theorem zq16 {D:BD} {c:Nat} (h:BInv c D):∀ (l:List Int) (b:Int × Int),(0<=b.1/\b.1<=(c:Int)/\0<=b.2/\b.2<=(c:Int) * 33554432)->0<=(zq5 D b l).1/\(zq5 D b l).1<=(c:Int)/\0<=(zq5 D b l).2/\(zq5 D b l).2<=(c:Int) * 33554432
 | [],b,hb=>hb
 | j::r,b,hb=>by
  have hj:=h j;exact zq16 h r _ (by simp only;omega)
theorem zq76 {D:BD} (h:BInv c D):0<=(stpP x nx D).1/\(stpP x nx D).1<=((c+1:Nat):Int)/\0<=(stpP x nx D).2/\(stpP x nx D).2<=((c+1:Nat):Int) * 33554432:=by
 cases nx with
 | nil=>simp only [stpP];omega
 | cons j r =>
  have:=zq16 h r (bat D j) (h j);have hl:=zq80 x;simp only [stpP];omega
theorem BInv.set {D:BD} (h:BInv c D) {i:Nat} (hi:i<D.length) {b:Int × Int} (hb:0<=b.1/\b.1<=((c+1:Nat):Int)/\0<=b.2/\b.2<=((c+1:Nat):Int) * 33554432):BInv (c+1) (D.set i b):=by
 intro j;unfold bat;rw [List.getD_eq_getElem?_getD,List.getElem?_set];by_cases q:i=j.toNat
 ·simp [q,show j.toNat<D.length by omega];omega
 ·rw [if_neg q];have:=h j;unfold bat at this;rw [List.getD_eq_getElem?_getD] at this;omega
theorem binv0 (n:Nat):BInv 0 (List.replicate n (0,0)):=by
 intro j;unfold bat;rw [List.getD_eq_getElem?_getD,List.getElem?_replicate];split <;> simp
def stA (L:List (Wc.In × List Int)) (i:Nat) (D:BD):Int × Int:=match L[i]? with
 | none=>(0,0)
 | some x=>stpP x.1 (aP x.1 x.2 i) D
theorem zq28 {L:List (Wc.In × List Int)} {i:Nat} (h:i<L.length) (D:BD):stA L i D=stpP (L[i]).1 (aP (L[i]).1 (L[i]).2 i) D:=by
 unfold stA;rw [List.getElem?_eq_getElem h]
theorem zq13 (L:List (Wc.In × List Int)) {n:Nat} (hn:L.length=n):∀ c,c<=n->BInv c (bkL (stA L) n c)
 | 0,_=>binv0 n
 | c+1,hc=>by
  have ih:=zq13 L hn c (by omega);refine ih.set (by rw [zq26];omega) ?_;rw [zq28 (by omega)];exact zq76 ih
def bndA (L:List (Wc.In × List Int)):Int × Int:=if Wc.chkP rgt L=true then bat (bkL (stA L) L.length L.length) 0 else (0,0)
theorem zq23 (x:Wc.In) (tv:Value) (w:World):CR 46 #[.agg (zAD x tv).toArray] w (.int .i64 (lng x)):=by
 have HSZ:Hid (∀ w:World,CR 75 #[.agg #[.int .i64 x.ar.s,.int .i64 x.ar.t,.int .i64 x.ar.l,.int .i64 x.ar.b,.int .i64 x.ar.r]] w (.int .i64 (Wpl.sizeA x.ar.s x.ar.t x.ar.l x.ar.b x.ar.r))):=λw=>zq22 x.ar.s x.ar.t x.ar.l x.ar.b x.ar.r w
 have HLE:=zq21 x.ar.s x.ar.t x.ar.l x.ar.b x.ar.r;have HLN:Hid (lng x=if x.op=8 then Wpl.sizeA x.ar.s x.ar.t x.ar.l x.ar.b x.ar.r else if x.op=9 then 2 * Wpl.sizeA x.ar.s x.ar.t x.ar.l x.ar.b x.ar.r else 1):=rfl;have hb:=zAJ (Below.refl _ w) (.cells (zAD x tv).toArray 52);have p:=AtL.new0 w 52 (zAD x tv);have c0:=p.2.1 0 _ rfl;have q0:=p.2.1 12 _ rfl;have q1:=p.2.1 13 _ rfl;have q2:=p.2.1 14 _ rfl;have q3:=p.2.1 15 _ rfl;have q4:=p.2.1 16 _ rfl;obtain ⟨q,hq⟩:∃ q,lng x=q:=⟨_,rfl⟩
 rw [hq] at HLN ⊢;obtain ⟨z,hz⟩:∃ z,Wpl.sizeA x.ar.s x.ar.t x.ar.l x.ar.b x.ar.r=z:=⟨_,rfl⟩
 rw [hz] at HLN HSZ HLE;have hw:IntKind.i64.wrap (2 * z)=2 * z:=by rw [IntKind.wrap_i64];omega
 clear p hq hz HLE;go_enter func46,ntmps46;go_upto_region 1 with fail
 generalize (w.alloc (.cells (zAD x tv).toArray 52))=W at *;have SZ:=HSZ.out W;by_cases h8:x.op=8
 ·have e8:(x.op == 8)=true:=by simp [h8]
  have HE:Hid (q=z):=by show _=_;rw [HLN.out,if_pos h8]
  clear h8 HLN HSZ;go_wp2_with fail
  refine SZ.mono ?_;rintro e w1 ⟨rfl,hb1⟩;go_wp2;go_ret;exact ⟨by rw [HE.out];rfl,zAB hb hb1⟩
 ·have e8:(x.op == 8)=false:=by simp [h8]
  by_cases h9:x.op=9
  ·have e9:(x.op == 9)=true:=by simp [h9]
   have HE:Hid (q=2 * z):=by show _=_;rw [HLN.out,if_neg h8,if_pos h9]
   clear h8 h9 HLN HSZ;go_wp2_with fail
   refine SZ.mono ?_;rintro e w1 ⟨rfl,hb1⟩;go_wp2;go_ret;exact ⟨by rw [HE.out];rfl,zAB hb hb1⟩
  ·have e9:(x.op == 9)=false:=by simp [h9]
   have HE:Hid (q=1):=by show _=_;rw [HLN.out,if_neg h8,if_neg h9]
   clear h8 h9 HLN HSZ SZ;go_wp2;go_ret;exact ⟨by rw [HE.out];rfl,hb⟩
theorem zq33 {ops:Array Oper} {rest:List Oper} {a:Act} {Q:Exit->Act->World->Prop} (hgd:o.guard=none) (s x:Operand) (ho:o.op=.call {callee:=.builtin .append,args:=#[s,x],argTypes:=#[50,3]})
  (w:World) (n:Nat) (h0:0<n) (hn:n<=4000000) (hs:a.eval s=.slice none 0 0) (hx:a.eval x=.int .i64 (n:Int))
  (h:∀ (cap:Nat) (w':World),OwnZ w' w.heap.size (.slice (some ⟨w.heap.size,0,none⟩) 0 cap) []->n<=cap->cap<=9223372036854775807->Below w.heap.size w w'->wpList prog ops Q rest (a.put o.dst (.slice (some ⟨w.heap.size,0,none⟩) n cap)) w'):wpList prog ops Q (o::rest) a w:=by
 obtain ⟨i0,hi0,hz0,hz1,hz2⟩:=info_parts zFz;have hr:=Lib.run_append_nil_zeros (P:=prog) w 50 3 o.type 3 i0 _ .i64 .i64 underlying50 underlying3 hi0 hz0 n h0 (by rw [hz1];decide) (by omega) (by rw [hz2];omega);refine Lib.wpList_append_run w hgd s x 50 3 ho _ _ hs hx _ _ hr ?_;have hge:=grownCap_ge w n 0 3;have hmx:=grownCap_le_maxLen w n 0 3 (by unfold maxLen;omega);have hb:Below w.heap.size w (w.drew.alloc (.cells (Builtin.zeroCells (Value.int .i64 0).cells n++Builtin.zeroCells (Value.int .i64 0).cells (grownCap w n 0 3 - n)) 3)):=zAJ ((Below.refl _ w).drew) _;refine h _ _ ?_ hge (by unfold maxLen at hmx;exact hmx) hb;refine ⟨rfl,Or.inr ⟨w.heap.size,_,_,rfl,Nat.le_refl _,zAo w.drew _ _ rfl,Nat.zero_le _,hmx,?_,by simp⟩⟩;simp [size_zeroCells,Value.cells];omega
theorem zq73 (n:Nat) (hn:n<=4000000) (w:World):Calls prog 74 #[.slice none 0 0,.int .i64 (n:Int)] w λe w'=>(∃ r,e=.returned r/\OwnZ w' w.heap.size r [])/\Below w.heap.size w w':=by
 have hnn:¬ (n:Int)<0:=by omega
 have hw0:IntKind.i64.wrap (n:Int)=(n:Int):=by rw [IntKind.wrap_i64];omega
 have hw1:wrap64 (n:Int)=(n:Int):=by unfold wrap64;omega
 by_cases h0:n=0
 ·subst h0;go_enter func74,ntmps74;go_wp2;go_ret;exact ⟨⟨_,rfl,OwnZ.nil _ _⟩,Below.refl _ _⟩
 ·have hp:(0:Int)<(n:Int):=by omega
  have hpn:0<n:=by omega
  have HN:Hid (n<=4000000):=hn;clear hn;go_enter func74,ntmps74;go_wp2_with (first | (refine zq33 rfl (.tmp 20) (.tmp 21) rfl w n hpn HN.out rfl rfl ?_;intro cap w1 own hcap hc63 hb1))
  have hcz:(0:Int)<=(cap:Int):=by omega
  go_wp2;go_ret;exact ⟨⟨_,rfl,own⟩,hb1⟩
theorem zq36 (l m:List Int) (c k:Value) (sb:Nat) (w:World) (hc:RdZ w c l) (hk:RdZ w k m) (nc:Np c) (nk:Np k) (hl:l.length<=1000000) (hm:m.length<=1000000) (hs:AtL w sb [c,k]) :
  Calls prog 45 #[.slice (some ⟨sb,0,none⟩) 2 2] w λe w'=>(∃ r,e=.returned r/\OwnZ w' w.heap.size r (l++m))/\Below w.heap.size w w':=by
 obtain ⟨ac,cc,ec,_⟩:=id hc;obtain ⟨ak,ck,ek,_⟩:=id hk;have HC:Hid (RdZ w c l):=hc;have HK:Hid (RdZ w k m):=hk;have HNC:Hid (Np c/\Np k):=⟨nc,nk⟩
 have HLM:Hid (l.length<=1000000/\m.length<=1000000):=⟨hl,hm⟩
 have c0:=hs.2.1 0 _ rfl;have c1:=hs.2.1 1 _ rfl;subst ec;subst ek;obtain ⟨ll,hll⟩:∃ x,l.length=x:=⟨_,rfl⟩
 obtain ⟨lm,hlm⟩:∃ x,m.length=x:=⟨_,rfl⟩
 have HLL:Hid (l.length=ll/\m.length=lm):=⟨hll,hlm⟩
 have HB1:Hid (ll<=1000000/\lm<=1000000):=by rw [<-hll,<-hlm];exact HLM.out
 rw [hll] at HC HNC c0;rw [hlm] at HK HNC c1;have HGR:=λW=>zq73 (ll+lm) (by have:=HB1.out;omega) W
 have HG:Hid (∀ W:World,Calls prog 74 #[.slice none 0 0,.int .i64 ((ll:Int)+(lm:Int))] W λe w'=>(∃ r,e=.returned r/\OwnZ w' W.heap.size r [])/\Below W.heap.size W w'):=λW=>by have:=HGR W;rw [Int.natCast_add] at this;exact this
 have hw1:IntKind.i64.wrap (ll:Int)=(ll:Int):=by rw [IntKind.wrap_i64];have:=HB1.out;omega
 have hw2:IntKind.i64.wrap ((ll:Int)+(lm:Int))=(ll:Int)+(lm:Int):=by rw [IntKind.wrap_i64];have:=HB1.out;omega
 have hw3:wrap64 (ll:Int)=(ll:Int):=by have:=HB1.out;unfold wrap64;omega
 have hz1:¬ (ll:Int)<0:=by omega
 have hz2:¬ (ll:Int)+(lm:Int)<0:=by omega
 have HA0:Hid (w.cell? ⟨sb,0,none⟩=some (.slice ac ll cc)/\w.cell? ⟨sb,1,none⟩=some (.slice ak lm ck)):=⟨c0,c1⟩
 clear hc hk nc nk hl hm hs hll hlm HGR;go_enter func45,ntmps45;go_wp2_with fail
 go_loopg [3,11] 2 (λgk u3 u11 wr=>∃ i:Nat,u11=.int .i64 i/\gk=2 - i/\i<=2/\w=wr/\Hid (u3=.int .i64 (if i=0 then 0 else if i=1 then (ll:Int) else (ll:Int)+(lm:Int))))
 case atStart=>exact ⟨0,rfl,rfl,Nat.zero_le _,rfl,rfl⟩
 case round =>
  obtain ⟨i,rfl,hg,hi,rfl,HU⟩:=hrel;have hc3:i=0 \/ i=1 \/ i=2:=by omega
  rcases hc3 with rfl | rfl | rfl
  ·have e3:=HU.out;simp only [if_true] at e3;subst e3;go_wp2_with fail
   go_roundg 1
   case rel=>exact ⟨1,by simp,rfl,by omega,rfl,by show _=_;simp⟩
   case measure=>omega
  ·have e3:=HU.out;simp only [Nat.one_ne_zero,if_false,if_true] at e3;subst e3;go_wp2_with fail
   go_roundg 0
   case rel=>exact ⟨2,by simp,rfl,by omega,rfl,by show _=_;simp⟩
   case measure=>omega
  ·have e3:_=Value.int .i64 ((ll:Int)+(lm:Int)):=HU.out;subst e3;have GR:=HG.out w;clear HU HG;go_wp2_with fail
   refine GR.mono ?_;rintro e w2 ⟨⟨r,rfl,own⟩,hb2⟩;have HO2:Hid (OwnZ w2 w.heap.size r []):=own;have HB2:Hid (Below w.heap.size w w2):=hb2;clear own hb2 GR c0 c1;go_wp2_with fail
   go_loopg [6,27] 2 (λgk u6 u27 wr=>∃ (j:Nat) (lv:Value),lv=u6/\u27=.int .i64 j/\gk=2 - j/\j<=2/\Hid (Below w.heap.size w wr)/\Hid (OwnZ wr w.heap.size lv (if j=0 then [] else if j=1 then l else l++m)))
   case atStart=>exact ⟨0,_,rfl,rfl,rfl,Nat.zero_le _,HB2,HO2⟩
   case round =>
    clear HO2 HB2;obtain ⟨j,lv,rfl,rfl,hgj,hj,HB3,HO3⟩:=hrel;have hc4:j=0 \/ j=1 \/ j=2:=by omega
    rcases hc4 with rfl | rfl | rfl
    ·have HO4:Hid (OwnZ wr w.heap.size lv []):=HO3;have c0:=zAC HB3.out HA0.out.1;clear HO3;go_wp2_with (first | (refine zA6 rfl (.tmp 31) (.tmp 32) rfl wr w.heap.size HB3.out.size lv [] rfl HO4.out (.slice ac ll cc) l rfl (HC.out.below HB3.out) HNC.out.1 (by have:=HLM.out;simp;omega) ?_;intro v2 w2 own2 hg2))
     have HO5:Hid (OwnZ w2 w.heap.size v2 (if 1=0 then [] else if 1=1 then l else l++m)):=by show OwnZ _ _ _ _;simpa using own2
     have HB5:Hid (Below w.heap.size w w2):=HB3.out.grown hg2 HB3.out.size (λk e=>(HO4.out.blk e).1);clear own2 hg2 c0;go_roundg 1
     case rel=>exact ⟨1,_,rfl,by simp,rfl,by omega,HB5,HO5⟩
     case measure=>omega
    ·have HO4:Hid (OwnZ wr w.heap.size lv l):=HO3;have c1:=zAC HB3.out HA0.out.2;clear HO3;go_wp2_with (first | (refine zA6 rfl (.tmp 31) (.tmp 32) rfl wr w.heap.size HB3.out.size lv l rfl HO4.out (.slice ak lm ck) m rfl (HK.out.below HB3.out) HNC.out.2 (by have:=HLM.out;simp;omega) ?_;intro v2 w2 own2 hg2))
     have HO5:Hid (OwnZ w2 w.heap.size v2 (if 2=0 then [] else if 2=1 then l else l++m)):=by show OwnZ _ _ _ _;simpa using own2
     have HB5:Hid (Below w.heap.size w w2):=HB3.out.grown hg2 HB3.out.size (λk e=>(HO4.out.blk e).1);clear own2 hg2 c1;go_roundg 0
     case rel=>exact ⟨2,_,rfl,by simp,rfl,by omega,HB5,HO5⟩
     case measure=>omega
    ·have HO4:Hid (OwnZ wr w.heap.size lv (l++m)):=HO3;go_wp2;go_ret;exact ⟨⟨_,rfl,HO4.out⟩,HB3.out⟩
