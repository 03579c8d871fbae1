/- KRUses. -/
import Derived.Test.YtefkclbaflkheaaGreatDoorQ36
set_option maxHeartbeats 8000000
set_option maxRecDepth 100000
namespace Go.Proofs.YtefkclbaflkheaaGreatDoor
open Tryz
variable {w:World} {a:Act} {K:Act->World->Prop} {Q:Exit->Act->World->Prop} {A:List Wpl.Ar}
open Go.RowKit
set_option linter.unusedVariables false
theorem zMu (x y:Wpl.Ar) (w:World):(Instr.buildSlice 47 2 #[(0,arV x),(1,arV y)]).run prog w=.ok (.slice (some ⟨w.heap.size,0,none⟩) 2 2) (w.alloc (.cells (zA8 [x,y]).toArray 53)):=by kernel_rfl
theorem zKD {op:Oper} (y z:Operand) (ho:op.op=.buildSlice 47 2 #[(0,y),(1,z)]) (u v:Wpl.Ar) (hy:a.eval y=arV u) (hz:a.eval z=arV v)
  (h:K (a.put op.dst (.slice (some ⟨w.heap.size,0,none⟩) 2 2)) (w.alloc (.cells (zA8 [u,v]).toArray 53))):op.wp prog a w K Q:=by
 unfold Oper.wp execOp;simp only [ho,List.map_toArray,List.map_cons,List.map_nil,hy,hz,Sem.run_bind,Sem.run_pure,Result.andThen_ok,zMu];exact h
theorem zJA {o:Oper} {a:Act} {K:Act->World->Prop} {Q:Exit->Act->World->Prop} (s x:Operand) (ho:o.op=.call {callee:=.builtin .append,args:=#[s,x],argTypes:=#[47,47]})
  (w:World) (B:Nat) (hB:B<=w.heap.size) (v:Value) (A:List Wpl.Ar) (hs:a.eval s=v) (hown:OwnA w B v A) (g n:Nat) (L:List Wpl.Ar) (hn:n=L.length) (hx:a.eval x=.slice (some ⟨g,0,none⟩) n n) (hat:AtL w g (zA8 L)) (hl:A.length+L.length<=4000000)
  (h:∀ v' w',OwnA w' B v' (A++L)->w.grownBy w' v.ownBlock->K (a.put o.dst v') w'):o.wp prog a w K Q:=by
 subst hn;obtain ⟨i0,hi0,hz0,hz1,hz2⟩:=info_parts zCp;refine wp_append_own _ s x 47 ho B 53 i0 _ 5 40 underlying47 hi0 hz0 hz1 hz2 rfl (by decide) v A.length (zA8 A) hs hown ⟨g,0,none⟩ L.length L.length (zA8 L) hx (zBa L) (λj u hj=>?_) (zCG L) (by unfold maxLen;omega) (by omega) hB ?_
 ·have:=hat.2.1 j u hj;rw [show (⟨g,0,none⟩:Addr).add j=⟨g,j,none⟩ from by
   simp [Addr.add];try (intro h0;omega)]
  exact this
 ·intro v' w' own hg _;refine h v' w' ?_ hg;unfold OwnA;rw [List.length_append,zCF];exact own
theorem RdA.at' {a:Option Addr} {n c:Nat} (h:RdA w (.slice a n c) A) {i:Nat} (hi:i<A.length):∃ bb off,a=some ⟨bb,off,none⟩/\w.rangeAt bb (off+i * 5) (zAb (A[i])):=by
 obtain ⟨x1,x2,x3,x4⟩:=h;obtain ⟨x5,x6,x7,x8⟩:=x4 i hi;simp only [Value.slice.injEq] at x3;exact ⟨x5,x6,by rw [x3.1];exact x7,x8⟩
theorem RdA.len {v:Value} (h:RdA w v A):∃ a c,v=.slice a A.length c:=by
 obtain ⟨x1,x2,x3,_⟩:=h;exact ⟨x1,x2,x3⟩
theorem zGL (L:List (Wc.In × List Int)) (v:Value) (w:World) (h:RdC w v L) (hl:L.length<=1000000) (ht:∀ x ∈ L,x.2.length<=1000000/\Wt.FitV x.1.v) :
  Calls prog 20 #[v] w λe w'=>(∃ r B,e=.returned r/\OwnA w' B r (usA L)/\w.heap.size<=B)/\Below w.heap.size w w':=by
 have CK:=zCU L v w h hl ht;obtain ⟨a1,c1,rfl,r1⟩:=h;have HR:Hid (RdC w (.slice a1 L.length c1) L):=⟨a1,c1,rfl,r1⟩
 obtain ⟨n,hn⟩:∃ n,L.length=n:=⟨_,rfl⟩
 have HL:Hid (L.length=n):=hn;have HN:Hid (n<=1000000):=by show n<=_;omega
 rw [hn] at CK ⊢;obtain ⟨qc,hqc⟩:∃ b,Wc.chkP rgt L=b:=⟨_,rfl⟩
 have HU:Hid (usA L=if qc=true then ddA [] (zBM L) else []):=by show _=_;rw [<-hqc];rfl
 rw [hqc] at CK;obtain ⟨us,hus⟩:∃ u,usA L=u:=⟨_,rfl⟩
 rw [hus] at HU ⊢;clear hqc hus r1 hl ht hn;cases qc with
 | false =>
  have HE:Hid (us=[]):=HU;go_enter func20,ntmps20;go_wp2_with fail
  refine CK.mono ?_;rintro e w1 ⟨rfl,hb1⟩;go_wp2;go_ret;exact ⟨by rw [HE.out];exact ⟨_,_,rfl,OwnA.nil _ w.heap.size,Nat.le_refl _⟩,hb1⟩
 | true =>
  have HE:Hid (us=ddA [] (zBM L)):=HU;clear HU;go_enter func20,ntmps20;go_wp2_with fail
  refine CK.mono ?_;rintro e w1 ⟨rfl,hb1⟩;have HB1:Hid (Below w.heap.size w w1):=hb1;have HO1:Hid (OwnA w1 w.heap.size (.slice none 0 0) (zBM (L.take 0))):=by show OwnA _ _ _ _;rw [List.take_zero];exact OwnA.nil _ _
  clear CK hb1;go_wp2_with fail
  go_loopg [3,5] n (λgk u3 u5 wr=>∃ (i:Nat) (lv:Value),lv=u3/\u5=.int .i64 i/\gk=n - i/\i<=n/\Hid (Below w.heap.size w wr)/\Hid (OwnA wr w.heap.size lv (zBM (L.take i))))
  case atStart=>exact ⟨0,_,rfl,rfl,rfl,Nat.zero_le _,HB1,HO1⟩
  case round =>
   clear HB1 HO1;obtain ⟨i,lv,rfl,rfl,hg,hi,HB,HO⟩:=hrel;by_cases hlt:i<n
   ·have hli:(i:Int)<(n:Int):=by omega
    have hiz:(0:Int)<=(i:Int):=by omega
    have hwi:IntKind.i64.wrap ((i:Int)+1)=(i:Int)+1:=by rw [IntKind.wrap_i64];have:=HN.out;omega
    have hil:i<L.length:=by rw [HL.out];exact hlt
    have HBB:Hid (∀ bb off,a1=some ⟨bb,off,none⟩->bb<w.heap.size):=by
     intro bb off e;obtain ⟨q1,d1,e1,f1⟩:=HR.out;simp only [Value.slice.injEq] at e1;obtain ⟨b2,o2,p,mm,kk,ee,t1,_,_⟩:=f1 i hil;have hc:=t1 0 _ rfl;have:b2=bb:=by rw [<-e1.1,e] at ee;cases ee;rfl
     rw [<-this];exact zAV hc
    have H0:=HR.out.below HB.out;obtain ⟨q1,d1,e1,f1⟩:=H0;simp only [Value.slice.injEq] at e1;obtain ⟨ex1,ex2,ex3⟩:=e1;obtain ⟨bb,off,p,mm,kk,ee,t1,_,_⟩:=f1 i hil;rw [ee] at ex1;subst ex1;have HBB2:Hid (bb<w.heap.size):=HBB.out bb off rfl;clear HBB;obtain ⟨y,tl,hyt⟩:∃ y tl,L[i]=(y,tl):=⟨_,_,rfl⟩
    rw [hyt] at t1;have HTK:Hid (zBM (L.take (i+1))=zBM (L.take i)++rdA y):=by show _=_;rw [zDH hil,hyt]
    have HCL:Hid ((zBM (L.take i)).length<=2000000):=by show _<=_;have h2:=zB8 (L.take i);have:=HN.out;have:=HL.out;simp at h2;omega
    obtain ⟨cur,hcur⟩:∃ c,zBM (L.take i)=c:=⟨_,rfl⟩
    have HCU:Hid (zBM (L.take i)=cur):=hcur;rw [hcur] at HO HCL;have c0:wr.cell? ⟨bb,off+i * 23,none⟩=some (.int .i64 y.op):=by have:=t1 0 _ rfl;simpa using this
    clear f1 hyt ee ex2 ex3 hcur;by_cases h2:y.op=2
    ·have h2b:(y.op == 2)=true:=by simp [h2]
     have HRE:Hid (rdA y=[zBj y.ce.s y.ce.r y.ce.c]):=by show _=_;simp [rdA,h2]
     have s0:=t1 9 _ rfl;have s1:=t1 10 _ rfl;have s2:=t1 11 _ rfl;have ON:=zHO y.ce.s y.ce.r y.ce.c wr;generalize zBj y.ce.s y.ce.r y.ce.c=V at *;clear h2;go_wp2_with fail
     refine ON.mono ?_;rintro e w4 ⟨rfl,hb4⟩;have hB4:=zAB HB.out hb4;have hb5:=zAK (Below.refl _ w4) (.cells (zAb V).toArray 53);have p5:=AtL.new0 w4 53 (zAb V);have q0:=p5.2.1 0 _ rfl;have q1:=p5.2.1 1 _ rfl;have q2:=p5.2.1 2 _ rfl;have q3:=p5.2.1 3 _ rfl;have q4:=p5.2.1 4 _ rfl;have HB5:Hid (Below w.heap.size w (w4.alloc (.cells (zAb V).toArray 53))):=zAB hB4 hb5;have HO5:Hid (OwnA (w4.alloc (.cells (zAb V).toArray 53)) w.heap.size lv cur):=(HO.out.below hb4).below hb5;clear p5 hb5 ON hb4 hB4 c0 s0 s1 s2 t1 HB HO;go_upto_region 10 with fail
     generalize (w4.alloc (.cells (zAb V).toArray 53))=W5 at *;have hbs:=zAK (Below.refl _ W5) (.cells (zAb V).toArray 53);have HA:Hid (AtL (W5.alloc (.cells (zAb V).toArray 53)) W5.heap.size (zA8 [V])):=AtL.new0 W5 53 (zA8 [V]);have HO2:Hid (OwnA (W5.alloc (.cells (zAb V).toArray 53)) w.heap.size lv cur):=HO5.out.below hbs;have HB2:Hid (Below w.heap.size w (W5.alloc (.cells (zAb V).toArray 53))):=zAB HB5.out hbs;clear hbs;go_wp2_with (first | (refine zAs rfl (.tmp 36) (.tmp 38) rfl (W5.alloc (.cells (zAb V).toArray 53)) w.heap.size HB2.out.size lv cur rfl HO2.out W5.heap.size 1 [V] rfl rfl HA.out (by have:=HCL.out;simp;omega) ?_;intro v2 w2 own2 hg2))
     have HO3:Hid (OwnA w2 w.heap.size v2 (zBM (L.take (i+1)))):=by show OwnA _ _ _ _;rw [HTK.out,HRE.out,HCU.out];exact own2
     have HB3:Hid (Below w.heap.size w w2):=HB2.out.grown hg2 HB2.out.size (λk e=>(HO2.out.blk e).1);clear own2 hg2 HA HO2 HB2;go_roundg (n - (i+1))
     case rel=>exact ⟨i+1,_,rfl,by simp,rfl,hlt,HB3,HO3⟩
     case measure=>omega
    ·have h2b:(y.op == 2)=false:=by simp [h2]
     by_cases h8:y.op=8 \/ y.op=11
     ·have HRE:Hid (rdA y=[y.ar]):=by show _=_;simp [rdA,h2,h8]
      have q0:=t1 12 _ rfl;have q1:=t1 13 _ rfl;have q2:=t1 14 _ rfl;have q3:=t1 15 _ rfl;have q4:=t1 16 _ rfl;have hc:((y.op == 8)=true) \/ ((y.op == 8)=false/\(y.op == 11)=true):=by
       rcases h8 with h | h
       ·left;simp [h]
       ·right;simp [h]
      clear t1 h8 h2;rcases hc with e8 | ⟨e8,e11⟩
      ·have hbs:=zAK (Below.refl _ wr) (.cells (zAb y.ar).toArray 53);have HA:Hid (AtL (wr.alloc (.cells (zAb y.ar).toArray 53)) wr.heap.size (zA8 [y.ar])):=AtL.new0 wr 53 (zA8 [y.ar]);have HO2:Hid (OwnA (wr.alloc (.cells (zAb y.ar).toArray 53)) w.heap.size lv cur):=HO.out.below hbs;have HB2:Hid (Below w.heap.size w (wr.alloc (.cells (zAb y.ar).toArray 53))):=zAB HB.out hbs;clear hbs;go_wp2_with (first | (refine zAs rfl (.tmp 43) (.tmp 49) rfl (wr.alloc (.cells (zAb y.ar).toArray 53)) w.heap.size HB2.out.size lv cur rfl HO2.out wr.heap.size 1 [y.ar] rfl rfl HA.out (by have:=HCL.out;simp;omega) ?_;intro v2 w2 own2 hg2))
       have HO3:Hid (OwnA w2 w.heap.size v2 (zBM (L.take (i+1)))):=by show OwnA _ _ _ _;rw [HTK.out,HRE.out,HCU.out];exact own2
       have HB3:Hid (Below w.heap.size w w2):=HB2.out.grown hg2 HB2.out.size (λk e=>(HO2.out.blk e).1);clear own2 hg2 HA HO2 HB2;go_roundg (n - (i+1))
       case rel=>exact ⟨i+1,_,rfl,by simp,rfl,hlt,HB3,HO3⟩
       case measure=>omega
      ·have hbs:=zAK (Below.refl _ wr) (.cells (zAb y.ar).toArray 53);have HA:Hid (AtL (wr.alloc (.cells (zAb y.ar).toArray 53)) wr.heap.size (zA8 [y.ar])):=AtL.new0 wr 53 (zA8 [y.ar]);have HO2:Hid (OwnA (wr.alloc (.cells (zAb y.ar).toArray 53)) w.heap.size lv cur):=HO.out.below hbs;have HB2:Hid (Below w.heap.size w (wr.alloc (.cells (zAb y.ar).toArray 53))):=zAB HB.out hbs;clear hbs;go_wp2_with (first | (refine zAs rfl (.tmp 43) (.tmp 49) rfl (wr.alloc (.cells (zAb y.ar).toArray 53)) w.heap.size HB2.out.size lv cur rfl HO2.out wr.heap.size 1 [y.ar] rfl rfl HA.out (by have:=HCL.out;simp;omega) ?_;intro v2 w2 own2 hg2))
       have HO3:Hid (OwnA w2 w.heap.size v2 (zBM (L.take (i+1)))):=by show OwnA _ _ _ _;rw [HTK.out,HRE.out,HCU.out];exact own2
       have HB3:Hid (Below w.heap.size w w2):=HB2.out.grown hg2 HB2.out.size (λk e=>(HO2.out.blk e).1);clear own2 hg2 HA HO2 HB2;go_roundg (n - (i+1))
       case rel=>exact ⟨i+1,_,rfl,by simp,rfl,hlt,HB3,HO3⟩
       case measure=>omega
     ·have e8:(y.op == 8)=false:=by simp;omega
      have e11:(y.op == 11)=false:=by simp;omega
      by_cases h9:y.op=9
      ·have HRE:Hid (rdA y=[y.ar,y.pr]):=by show _=_;simp [rdA,h9]
       have e9:(y.op == 9)=true:=by simp [h9]
       have q0:=t1 12 _ rfl;have q1:=t1 13 _ rfl;have q2:=t1 14 _ rfl;have q3:=t1 15 _ rfl;have q4:=t1 16 _ rfl;have r0:=t1 17 _ rfl;have r1:=t1 18 _ rfl;have r2:=t1 19 _ rfl;have r3:=t1 20 _ rfl;have r4:=t1 21 _ rfl;clear h8 h2 h9;go_upto_region 15 with fail
       have rb:=(Below.refl wr.heap.size wr).drew;have s1:=zAI rb t1;have HB6:Hid (Below w.heap.size w wr.drew):=zAB HB.out rb;have HO6:Hid (OwnA wr.drew w.heap.size lv cur):=HO.out.below rb;clear rb t1 HB HO q0 q1 q2 q3 q4 r0 r1 r2 r3 r4 c0;have q0:=s1 12 _ rfl;have q1:=s1 13 _ rfl;have q2:=s1 14 _ rfl;have q3:=s1 15 _ rfl;have q4:=s1 16 _ rfl;have r0:=s1 17 _ rfl;have r1:=s1 18 _ rfl;have r2:=s1 19 _ rfl;have r3:=s1 20 _ rfl;have r4:=s1 21 _ rfl;refine wp_region_held_drew (S:=λW=>W.cell? ⟨bb,off+i * 23+12,none⟩=some (.int .i64 y.ar.s)/\W.cell? ⟨bb,off+i * 23+13,none⟩=some (.int .i64 y.ar.t)/\W.cell? ⟨bb,off+i * 23+14,none⟩=some (.int .i64 y.ar.l)/\W.cell? ⟨bb,off+i * 23+15,none⟩=some (.int .i64 y.ar.b)/\W.cell? ⟨bb,off+i * 23+16,none⟩=some (.int .i64 y.ar.r)/\W.cell? ⟨bb,off+i * 23+17,none⟩=some (.int .i64 y.pr.s)/\W.cell? ⟨bb,off+i * 23+18,none⟩=some (.int .i64 y.pr.t)/\W.cell? ⟨bb,off+i * 23+19,none⟩=some (.int .i64 y.pr.l)/\W.cell? ⟨bb,off+i * 23+20,none⟩=some (.int .i64 y.pr.b)/\W.cell? ⟨bb,off+i * 23+21,none⟩=some (.int .i64 y.pr.r)) (by kernel_rfl) ⟨q0,q1,q2,q3,q4,r0,r1,r2,r3,r4⟩ (λhHeld=>?_);generalize wr.drew=WD at *;refine tkQ 0 ?_
       refine tkQ 1 ?_
       refine tkQ 2 ?_
       refine tkQ 3 ?_
       refine tkQ 4 ?_
       refine tkQ 5 ?_
       refine tkQ 6 ?_
       refine tkQ 7 ?_
       refine tkQ 8 ?_
       refine tkQ 9 ?_
       refine tkQ 10 ?_
       refine rdQ 11 (λK hK=>?_);refine zKD (.tmp 58) (.tmp 63) rfl y.ar y.pr rfl rfl ?_;have hbs:=zAK (Below.refl _ WD) (.cells (zA8 [y.ar,y.pr]).toArray 53);have HA:Hid (AtL (WD.alloc (.cells (zA8 [y.ar,y.pr]).toArray 53)) WD.heap.size (zA8 [y.ar,y.pr])):=AtL.new0 WD 53 (zA8 [y.ar,y.pr]);have HO7:Hid (OwnA (WD.alloc (.cells (zA8 [y.ar,y.pr]).toArray 53)) w.heap.size lv cur):=HO6.out.below hbs;have HB7:Hid (Below w.heap.size w (WD.alloc (.cells (zA8 [y.ar,y.pr]).toArray 53))):=zAB HB6.out hbs;replace q0:=zAC hbs q0
       replace q1:=zAC hbs q1
       replace q2:=zAC hbs q2
       replace q3:=zAC hbs q3
       replace q4:=zAC hbs q4
       replace r0:=zAC hbs r0
       replace r1:=zAC hbs r1
       replace r2:=zAC hbs r2
       replace r3:=zAC hbs r3
       replace r4:=zAC hbs r4
       have HOB:Hid (∀ g,lv.ownBlock=some g->bb ≠ g \/ True):=λ_ _=>Or.inr trivial
       clear hbs HO6 HB6 s1 HOB;refine hkQ hK ⟨q0,q1,q2,q3,q4,r0,r1,r2,r3,r4⟩ (λhHeld=>?_);clear hK K
       generalize (WD.alloc (.cells (zA8 [y.ar,y.pr]).toArray 53))=W7 at *;obtain ⟨gg,hgg⟩:∃ g,WD.heap.size=g:=⟨_,rfl⟩
       rw [hgg] at HA;try simp only [hgg]
       clear hgg;have HBQ:Hid (bb<w.heap.size):=HBB2;refine rdQ 12 (λK hK=>?_);refine zJA (.tmp 53) (.tmp 64) rfl W7 w.heap.size HB7.out.size lv cur rfl HO7.out gg 2 [y.ar,y.pr] rfl rfl HA.out (by have:=HCL.out;simp;omega) ?_;intro v2 w2 own2 hg2;have fr2:Fr lv.ownBlock.toList W7 w2:=Fr.of_grown hg2 (λk e=>by simp [e]);have nb:bb ∉ lv.ownBlock.toList:=λe=>by have:=(HO7.out.blk (g:=bb) (by simpa using e)).1;have:=HBQ.out;omega
       have HO3:Hid (OwnA w2 w.heap.size v2 (zBM (L.take (i+1)))):=by show OwnA _ _ _ _;rw [HTK.out,HRE.out,HCU.out];exact own2
       have HB3:Hid (Below w.heap.size w w2):=HB7.out.grown hg2 HB7.out.size (λk e=>(HO7.out.blk e).1);have S2:=And.intro (fr2.cell q0 nb) (And.intro (fr2.cell q1 nb) (And.intro (fr2.cell q2 nb) (And.intro (fr2.cell q3 nb) (And.intro (fr2.cell q4 nb) (And.intro (fr2.cell r0 nb) (And.intro (fr2.cell r1 nb) (And.intro (fr2.cell r2 nb) (And.intro (fr2.cell r3 nb) (fr2.cell r4 nb)))))))));have HS2:Hid _:=S2;clear own2 hg2 HA HO7 HB7 fr2 nb S2 q0 q1 q2 q3 q4 r0 r1 r2 r3 r4;refine hkQ hK HS2.out (λhHeld=>?_);clear hK K
       refine rdQ 13 (λK hK=>?_);go_simp
       refine hkQ hK HS2.out (λhHeld=>?_);clear hK K
       refine wpAnyH_done (by kernel_rfl) ?_ _;clear hHeld HS2;go_wp2_with fail
       go_roundg (n - (i+1))
       case rel=>exact ⟨i+1,_,rfl,by simp,rfl,hlt,HB3,HO3⟩
       case measure=>omega
      ·have HRE:Hid (rdA y=[]):=by show _=_;simp [rdA,h2,h8,h9]
       have e9:(y.op == 9)=false:=by simp [h9]
       clear h8 h2 h9 t1;have HO3:Hid (OwnA wr w.heap.size lv (zBM (L.take (i+1)))):=by show OwnA _ _ _ _;rw [HTK.out,HRE.out,HCU.out,List.append_nil];exact HO.out
       go_wp2_with fail
       go_roundg (n - (i+1))
       case rel=>exact ⟨i+1,_,rfl,by simp,rfl,hlt,HB,HO3⟩
       case measure=>omega
   ·have hli:¬ (i:Int)<(n:Int):=by omega
    have HTT:Hid (L.take i=L):=List.take_of_length_le (by rw [HL.out];omega);rw [HTT.out] at HO;have HAL:Hid ((zBM L).length<=2000000):=by show _<=_;have h2:=zB8 L;have:=HN.out;have:=HL.out;omega
    obtain ⟨AL,hAL⟩:∃ A,zBM L=A:=⟨_,rfl⟩
    rw [hAL] at HO HAL HE;obtain ⟨m,hm⟩:∃ m,AL.length=m:=⟨_,rfl⟩
    have HM:Hid (AL.length=m):=hm;obtain ⟨ga,ca,ea⟩:=HO.out.rd.len;rw [hm] at ea HAL;subst ea;have HRA:Hid (RdA wr (.slice ga m ca) AL):=HO.out.rd;have HGA:Hid (∀ g,(Value.slice ga m ca).ownBlock=some g->g<wr.heap.size):=λg e=>(HO.out.blk e).2
    obtain ⟨B2,hB2⟩:∃ b,wr.heap.size=b:=⟨_,rfl⟩
    have HO0:Hid (OwnA wr B2 (.slice none 0 0) (ddA [] (AL.take 0))):=by show OwnA _ _ _ _;rw [List.take_zero];exact OwnA.nil _ _
    rw [hB2] at HGA;have HBB:Hid (B2<=wr.heap.size/\w.heap.size<=B2):=⟨by omega,by rw [<-hB2];exact HB.out.size⟩
    clear HO HTT hAL hm hB2 HL HR HN;go_wp2_with fail
    go_loopg [4,8] m (λgk u4 u8 wr=>∃ (k:Nat) (lo:Value),lo=u4/\u8=.int .i64 k/\gk=m - k/\k<=m/\Hid (Below w.heap.size w wr)/\Hid (RdA wr (.slice ga m ca) AL)/\Hid (OwnA wr B2 lo (ddA [] (AL.take k)))/\Hid (B2<=wr.heap.size))
    case atStart=>exact ⟨0,_,rfl,rfl,rfl,Nat.zero_le _,HB,HRA,HO0,HBB.out.1⟩
    case round =>
     clear HB HRA HO0;obtain ⟨k,lo,rfl,rfl,hgk,hk,HB,HRA,HO,HBH⟩:=hrel;by_cases hkm:k<m
     ·have hkl:(k:Int)<(m:Int):=by omega
      have hkz:(0:Int)<=(k:Int):=by omega
      have hwk:IntKind.i64.wrap ((k:Int)+1)=(k:Int)+1:=by rw [IntKind.wrap_i64];have:=HAL.out;omega
      have hkA:k<AL.length:=by rw [HM.out];exact hkm
      obtain ⟨z,hz⟩:∃ z,AL[k]=z:=⟨_,rfl⟩
      have HTZ:Hid (AL.take (k+1)=AL.take k++[z]):=by show _=_;rw [List.take_succ_eq_append_getElem hkA,hz]
      obtain ⟨ba,oa,ega,rz⟩:=HRA.out.at' hkA;rw [hz] at rz;subst ega;have HOL:Hid ((ddA [] (AL.take k)).length<=2000000):=by show _<=_;have h1:=zBz (AL.take k) [];have:=HAL.out;simp at h1;omega
      obtain ⟨out,hout⟩:∃ o,ddA [] (AL.take k)=o:=⟨_,rfl⟩
      have HOU:Hid (ddA [] (AL.take k)=out):=hout;rw [hout] at HO HOL;obtain ⟨cl,hcl⟩:∃ c,out.length=c:=⟨_,rfl⟩
      have HCLN:Hid (out.length=cl):=hcl;rw [hcl] at HOL;obtain ⟨go',co,eo⟩:=HO.out.rd.len;rw [hcl] at eo;subst eo;have HKZ:Hid (∀ W:World,RdA W (.slice (some ⟨ba,oa,none⟩) m ca) AL->W.rangeAt ba (oa+k * 5) (zAb z)):=by
       intro W hW;obtain ⟨b2,o2,e2,r2⟩:=hW.at' hkA;cases e2
       rw [hz] at r2;exact r2
      have HT0:Hid (false=(out.take 0).any (λy=>zBJ y z)):=by show _=_;rw [List.take_zero];rfl
      clear hout hcl hz hkA rz;go_wp2_with fail
      go_loopg [9,10] cl (λgk u9 u10 wr=>∃ (t:Nat) (th:Bool),u9=.bool th/\u10=.int .i64 t/\gk=cl - t/\t<=cl/\Hid (Below w.heap.size w wr)/\Hid (RdA wr (.slice (some ⟨ba,oa,none⟩) m ca) AL)/\Hid (OwnA wr B2 (.slice go' cl co) out)/\Hid (B2<=wr.heap.size)/\Hid (th=(out.take t).any (λy=>zBJ y z)))
      case atStart=>exact ⟨0,false,rfl,rfl,rfl,Nat.zero_le _,HB,HRA,HO,HBH,HT0⟩
      case round =>
       clear HB HRA HO HBH HT0;obtain ⟨t,th,rfl,rfl,hgt,ht,HB,HRA,HO,HBH,HTH⟩:=hrel;by_cases htc:t<cl
       ·have htl:(t:Int)<(cl:Int):=by omega
        have htz:(0:Int)<=(t:Int):=by omega
        have hwt:IntKind.i64.wrap ((t:Int)+1)=(t:Int)+1:=by rw [IntKind.wrap_i64];have:=HOL.out;omega
        have htA:t<out.length:=by rw [HCLN.out];exact htc
        obtain ⟨y,hy⟩:∃ y,out[t]=y:=⟨_,rfl⟩
        have HTY:Hid (out.take (t+1)=out.take t++[y]):=by show _=_;rw [List.take_succ_eq_append_getElem htA,hy]
        obtain ⟨bo,oo,ego,ry⟩:=HO.out.rd.at' htA;rw [hy] at ry;subst ego;have rz:=HKZ.out wr HRA.out;clear hy htA;go_upto_region 23 with fail
        have rb:=(Below.refl wr.heap.size wr).drew;have sy:=zAI rb ry;have sz:=zAI rb rz;have HB6:Hid (Below w.heap.size w wr.drew):=zAB HB.out rb;have HO6:Hid (OwnA wr.drew B2 (.slice (some ⟨bo,oo,none⟩) cl co) out):=HO.out.below rb;have HR6:Hid (RdA wr.drew (.slice (some ⟨ba,oa,none⟩) m ca) AL):=HRA.out.below rb;have HH6:Hid (B2<=wr.drew.heap.size):=Nat.le_trans HBH.out rb.size;clear rb ry rz HB HO HRA HBH;have heq:=λW=>zB9 y z W
        have y0:wr.drew.cell? ⟨bo,oo+t * 5,none⟩=some (.int .i64 y.s):=by have:=sy 0 _ rfl;simpa using this
        have y1:=sy 1 _ rfl;have y2:=sy 2 _ rfl;have y3:=sy 3 _ rfl;have y4:=sy 4 _ rfl;have z0:wr.drew.cell? ⟨ba,oa+k * 5,none⟩=some (.int .i64 z.s):=by have:=sz 0 _ rfl;simpa using this
        have z1:=sz 1 _ rfl;have z2:=sz 2 _ rfl;have z3:=sz 3 _ rfl;have z4:=sz 4 _ rfl;clear sy sz;obtain ⟨qe,hqe⟩:∃ b,zBJ y z=b:=⟨_,rfl⟩
        rw [hqe] at heq;have HT2:Hid ((th || qe)=(out.take (t+1)).any (λy=>zBJ y z)):=by show _=_;rw [HTY.out,List.any_append,<-HTH.out];simp [hqe]
        clear hqe HTH HTY;refine wp_region_held_drew (S:=λW=>W.cell? ⟨bo,oo+t * 5,none⟩=some (.int .i64 y.s)/\W.cell? ⟨bo,oo+t * 5+1,none⟩=some (.int .i64 y.t)/\W.cell? ⟨bo,oo+t * 5+2,none⟩=some (.int .i64 y.l)/\W.cell? ⟨bo,oo+t * 5+3,none⟩=some (.int .i64 y.b)/\W.cell? ⟨bo,oo+t * 5+4,none⟩=some (.int .i64 y.r)/\W.cell? ⟨ba,oa+k * 5,none⟩=some (.int .i64 z.s)/\W.cell? ⟨ba,oa+k * 5+1,none⟩=some (.int .i64 z.t)/\W.cell? ⟨ba,oa+k * 5+2,none⟩=some (.int .i64 z.l)/\W.cell? ⟨ba,oa+k * 5+3,none⟩=some (.int .i64 z.b)/\W.cell? ⟨ba,oa+k * 5+4,none⟩=some (.int .i64 z.r)) (by kernel_rfl) ⟨y0,y1,y2,y3,y4,z0,z1,z2,z3,z4⟩ (λhHeld=>?_);generalize wr.drew=WD at *;cases th with
        | false =>
         refine tkQ 0 ?_
         refine tkQ 1 ?_
         refine tkQ 2 ?_
         refine tkQ 3 ?_
         refine tkQ 4 ?_
         refine tkQ 5 ?_
         refine tkQ 6 ?_
         refine tkQ 7 ?_
         refine tkQ 8 ?_
         refine tkQ 9 ?_
         refine tkQ 10 ?_
         refine tkQ 11 ?_
         refine rdQ 12 (λK hK=>?_);go_simp
         refine hkQ hK ⟨y0,y1,y2,y3,y4,z0,z1,z2,z3,z4⟩ (λhHeld=>?_);clear hK K
         refine wpAnyH_done (by kernel_rfl) ?_ _;clear hHeld heq y0 y1 y2 y3 y4 z0 z1 z2 z3 z4;go_wp2_with fail
         go_roundg (cl - (t+1))
         case rel=>exact ⟨t+1,qe,rfl,by simp,rfl,htc,HB6,HR6,HO6,HH6,HT2⟩
         case measure=>omega
        | true =>
         refine tkQ 0 ?_
         refine tkQ 1 ?_
         refine tnQ 2 ?_
         refine tnQ 3 ?_
         refine tnQ 4 ?_
         refine tnQ 5 ?_
         refine tnQ 6 ?_
         refine tnQ 7 ?_
         refine tnQ 8 ?_
         refine tnQ 9 ?_
         refine tnQ 10 ?_
         refine tkQ 11 ?_
         refine rdQ 12 (λK hK=>?_);go_simp
         refine hkQ hK ⟨y0,y1,y2,y3,y4,z0,z1,z2,z3,z4⟩ (λhHeld=>?_);clear hK K
         refine wpAnyH_done (by kernel_rfl) ?_ _;clear hHeld heq y0 y1 y2 y3 y4 z0 z1 z2 z3 z4;go_wp2_with fail
         go_roundg (cl - (t+1))
         case rel=>exact ⟨t+1,true,rfl,by simp,rfl,htc,HB6,HR6,HO6,HH6,by show _=_;rw [<-HT2.out];rfl⟩
         case measure=>omega
       ·have htl:¬ (t:Int)<(cl:Int):=by omega
        have HAN:Hid (th=out.any (λy=>zBJ y z)):=by show _=_;rw [HTH.out,List.take_of_length_le (by rw [HCLN.out];omega)]
        have rz:=HKZ.out wr HRA.out;cases th with
        | true =>
         have HO9:Hid (OwnA wr B2 (.slice go' cl co) (ddA [] (AL.take (k+1)))):=by show OwnA _ _ _ _;rw [HTZ.out,zEF,HOU.out];simp only [ddA,<-HAN.out,if_true];exact HO.out
         clear rz HTH HAN;go_wp2_with fail
         go_roundg (m - (k+1))
         case rel=>exact ⟨k+1,_,rfl,by simp,rfl,hkm,HB,HRA,HO9,HBH⟩
         case measure=>omega
        | false =>
         have z0:wr.cell? ⟨ba,oa+k * 5,none⟩=some (.int .i64 z.s):=by have:=rz 0 _ rfl;simpa using this
         have z1:=rz 1 _ rfl;have z2:=rz 2 _ rfl;have z3:=rz 3 _ rfl;have z4:=rz 4 _ rfl;have hbs:=zAK (Below.refl _ wr) (.cells (zAb z).toArray 53);have HA:Hid (AtL (wr.alloc (.cells (zAb z).toArray 53)) wr.heap.size (zA8 [z])):=AtL.new0 wr 53 (zA8 [z]);have HO2:Hid (OwnA (wr.alloc (.cells (zAb z).toArray 53)) B2 (.slice go' cl co) out):=HO.out.below hbs;have HB2:Hid (Below w.heap.size w (wr.alloc (.cells (zAb z).toArray 53))):=zAB HB.out hbs;have HR2:Hid (RdA (wr.alloc (.cells (zAb z).toArray 53)) (.slice (some ⟨ba,oa,none⟩) m ca) AL):=HRA.out.below hbs;have HH2:Hid (B2<=(wr.alloc (.cells (zAb z).toArray 53)).heap.size):=Nat.le_trans HBH.out hbs.size;clear hbs rz HO HB HRA HBH HTH;go_wp2_with (first | (refine zAs rfl (.tmp 92) (.tmp 97) rfl (wr.alloc (.cells (zAb z).toArray 53)) B2 HH2.out (.slice go' cl co) out rfl HO2.out wr.heap.size 1 [z] rfl rfl HA.out (by have:=HOL.out;have:=HCLN.out;simp;omega) ?_;intro v2 w2 own2 hg2))
         have fr2:Fr (Value.slice go' cl co).ownBlock.toList (wr.alloc (.cells (zAb z).toArray 53)) w2:=Fr.of_grown hg2 (λk e=>by simp [e]);have HO3:Hid (OwnA w2 B2 v2 (ddA [] (AL.take (k+1)))):=by show OwnA _ _ _ _;rw [HTZ.out,zEF,HOU.out];simp only [ddA,<-HAN.out];exact own2
         have HB3:Hid (Below w.heap.size w w2):=zAO HB2.out fr2 (λk hk=>by have:=(HO2.out.blk (g:=k) (by simpa using hk)).1;have:=HBB.out;omega);have HR3:Hid (RdA w2 (.slice (some ⟨ba,oa,none⟩) m ca) AL):=by
          obtain ⟨x1,x2,x3,x4⟩:=HR2.out;refine ⟨x1,x2,x3,λi hi=>?_⟩;obtain ⟨x5,x6,x7,x8⟩:=x4 i hi;refine ⟨x5,x6,x7,fr2.range x8 (λe=>?_)⟩;simp only [Value.slice.injEq] at x3;have h1:=HGA.out x5 (by rw [x3.1,x7];rfl);have h2:=(HO2.out.blk (g:=x5) (by simpa using e)).1;omega
         have HH3:Hid (B2<=w2.heap.size):=Nat.le_trans HH2.out fr2.size;clear own2 hg2 fr2 HA HO2 HB2 HR2 HH2 z0 z1 z2 z3 z4 HAN;go_roundg (m - (k+1))
         case rel=>exact ⟨k+1,_,rfl,by simp,rfl,hkm,HB3,HR3,HO3,HH3⟩
         case measure=>omega
     ·have hkl:¬ (k:Int)<(m:Int):=by omega
      have HTT:Hid (AL.take k=AL):=List.take_of_length_le (by rw [HM.out];omega);rw [HTT.out,<-HE.out] at HO;go_wp2;go_ret;exact ⟨⟨_,rfl,_,HO.out,HBB.out.2⟩,HB.out⟩
