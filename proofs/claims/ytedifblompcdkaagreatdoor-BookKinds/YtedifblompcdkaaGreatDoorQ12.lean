/- KHtD, KHtE, KWalkN, KPt, KGrow. -/
import Derived.Test.YtedifblompcdkaaGreatDoorQ11
import Derived.Laws.OwnMore
import Derived.Maps.AppendAt
set_option maxHeartbeats 4000000
set_option maxRecDepth 100000
namespace Go.Proofs.YtedifblompcdkaaGreatDoor
open Tryz
open Go.RowKit
set_option linter.unusedVariables false
variable {w w' w1 w2:World} {x:Wt.Nd} {v lv sv:Value} {ops:Array Oper} {rest:List Oper} {a:Act} {Q:Exit->Act->World->Prop} {n b mb B lo hi b0 pb k:Nat} {F:List (Nat × Int)} {S:List Nat} {op:Oper} {A:List (Wt.Nd × Value)} {P:Program} {fn:Func} {t:Tmp}
def BPost (b mb:Nat) (lv:Value) (w w':World) (F2:List (Nat × Int)):Prop:=(∃ lv',FS w' b mb lv' F2)/\Fr (b::mb::lv.ownBlock.toList) w w'/\(∀ u,w.cell? ⟨b,0,none⟩=some u->w'.cell? ⟨b,0,none⟩=some u)
theorem BPost.of_below (h:FS w b mb lv F) (hb:Below w.heap.size w w'):BPost b mb lv w w' F:=⟨⟨lv,h.below hb⟩,Fr.of_below _ hb,λu hu=>zAC hb hu⟩
theorem BPost.front (hb:Below w.heap.size w w1) (h:BPost b mb lv w1 w2 F):BPost b mb lv w w2 F:=⟨h.1,(Fr.of_below _ hb).trans h.2.1,λu hu=>h.2.2 u (zAC hb hu)⟩
def zPI (F:List (Nat × Int)) (m:Nat):Nat × Int:=if m=0 then (0,0) else F.getD (m - 1) (0,0)
theorem zHO (b mb:Nat) (lv:Value) (F:List (Nat × Int)) (m:Nat) (w:World) (hfs:FS w b mb lv F) (hm:m<=F.length) (hlF:F.length<=1000000) :
  CR 143 #[.pointer (some ⟨b,1,none⟩),.int .i64 (m:Int)] w (.tuple #[.agg #[.int .i64 ((zPI F m).1:Int),.int .i64 (zPI F m).2],.bool (decide (m ≠ 0))]):=by
 cases m with
 | zero=>exact zJk b 1 w
 | succ i =>
  have h:=zMq b 1 (F.map λx=>((x.1:Int),x.2)) i w hfs.list (by simp;omega) (by simpa using hlF);have e:zPI F (i+1)=F[i]'(by omega):=by
   unfold zPI;rw [if_neg (by omega),Nat.add_sub_cancel,List.getD_eq_getElem?_getD,List.getElem?_eq_getElem (by omega)];rfl
  rw [e];simp only [List.getElem_map] at h;exact h
theorem zKE (x:Wc.In) (tv:Value) (b mb:Nat) (lv:Value) (F:List (Nat × Int)) (m:Nat) (w:World) (hfs:FS w b mb lv F) (hm:m<=F.length) (hlF:F.length<=1000000) (hk:x.op=16) :
  Calls prog 115 #[.pointer (some ⟨b,1,none⟩),inV x tv,.int .i64 (m:Int)] w λe w'=>(e=.returned (.tuple #[.int .i64 (m:Int),.bool (decide (m=0))]))/\Below w.heap.size w w':=by
 have pA:=AtL.new0 w 67 (zAM x tv);have hB:=zAH (Below.refl _ w) (.cells (zAM x tv).toArray 67);have TP:=λw1 (hb:Below w.heap.size w w1)=>zHO b mb lv F m w1 (hfs.below hb) hm hlF
 obtain ⟨tp,htp⟩:∃ t,zPI F m=t:=⟨_,rfl⟩
 rw [htp] at TP;obtain ⟨tn,ti⟩:=tp;simp only at TP;obtain ⟨sm,hsm⟩:∃ s,decide (m ≠ 0)=s:=⟨_,rfl⟩
 rw [hsm] at TP;have h16:decide (m=0) = !sm:=by rw [<-hsm];simp
 rw [h16];go_enter func115,ntmps115;go_upto_region 1 with fail
 generalize (w.alloc (.cells (zAM x tv).toArray 67))=W at *;have TP1:=TP W hB;clear TP;go_wp2_with fail
 refine TP1.mono ?_;rintro e w1 ⟨rfl,hb1⟩;replace pA:=AtL.below hb1 pA
 replace hB:=zAA hB hb1
 have hk0:(zAM x tv)[0]? = some (.int .i64 (16)):=by rw [<-hk];rfl
 have a0:=pA.2.1 0 _ hk0;have a1:=pA.2.1 1 _ rfl;have p8:=AtL.new0 w1 240 [.int .i64 (tn:Int),.int .i64 ti];have hB8:=zAH (Below.refl _ w1) (.cells #[.int .i64 (tn:Int),.int .i64 ti] 240);replace hB:=zAA hB hB8
 replace a0:=zAC hB8 a0
 replace a1:=zAC hB8 a1
 have t0:=p8.2.1 0 _ rfl;have t1:=p8.2.1 1 _ rfl;clear hb1 pA TP1 p8 hB8;go_upto_region 2 with fail
 generalize (w1.alloc (.cells #[.int .i64 (tn:Int),.int .i64 ti] 240))=W2 at *;cases sm
 ·go_wp2;go_ret2
  exact ⟨by simp,(clB hB)⟩
 ·go_wp2;go_ret2
  exact ⟨by simp,(clB hB)⟩
theorem zMN (x:Wc.In) (tv:Value) (b mb:Nat) (lv:Value) (F:List (Nat × Int)) (m:Nat) (w:World) (hfs:FS w b mb lv F) (hm:m<=F.length) (hlF:F.length<=1000000) (ho:x.op ≠ 6/\x.op ≠ 7/\x.op ≠ 8/\x.op ≠ 9/\x.op ≠ 10/\x.op ≠ 16) :
  Calls prog 115 #[.pointer (some ⟨b,1,none⟩),inV x tv,.int .i64 (m:Int)] w λe w'=>(e=.returned (.tuple #[.int .i64 (m:Int),.bool true]))/\Below w.heap.size w w':=by
 have pA:=AtL.new0 w 67 (zAM x tv);have hB:=zAH (Below.refl _ w) (.cells (zAM x tv).toArray 67);have TP:=λw1 (hb:Below w.heap.size w w1)=>zHO b mb lv F m w1 (hfs.below hb) hm hlF
 obtain ⟨tp,htp⟩:∃ t,zPI F m=t:=⟨_,rfl⟩
 rw [htp] at TP;obtain ⟨tn,ti⟩:=tp;simp only at TP;obtain ⟨sm,hsm⟩:∃ s,decide (m ≠ 0)=s:=⟨_,rfl⟩
 rw [hsm] at TP;have m6:¬ x.op=6:=by omega
 have m7:¬ x.op=7:=by omega
 have m8:¬ x.op=8:=by omega
 have m9:¬ x.op=9:=by omega
 have m10:¬ x.op=10:=by omega
 have m16:¬ x.op=16:=by omega
 go_enter func115,ntmps115;go_upto_region 1 with fail
 generalize (w.alloc (.cells (zAM x tv).toArray 67))=W at *;have TP1:=TP W hB;clear TP;go_wp2_with fail
 refine TP1.mono ?_;rintro e w1 ⟨rfl,hb1⟩;replace pA:=AtL.below hb1 pA
 replace hB:=zAA hB hb1
 have hk0:(zAM x tv)[0]? = some (.int .i64 x.op):=rfl;have a0:=pA.2.1 0 _ hk0;have a1:=pA.2.1 1 _ rfl;have p8:=AtL.new0 w1 240 [.int .i64 (tn:Int),.int .i64 ti];have hB8:=zAH (Below.refl _ w1) (.cells #[.int .i64 (tn:Int),.int .i64 ti] 240);replace hB:=zAA hB hB8
 replace a0:=zAC hB8 a0
 replace a1:=zAC hB8 a1
 have t0:=p8.2.1 0 _ rfl;have t1:=p8.2.1 1 _ rfl;clear hb1 pA TP1 p8 hB8;go_upto_region 2 with fail
 generalize (w1.alloc (.cells #[.int .i64 (tn:Int),.int .i64 ti] 240))=W2 at *;go_wp2;go_ret2
 exact ⟨by simp,(clB hB)⟩
def zRe (r:Option (Nat × List (Nat × Int))) (b mb:Nat) (lv:Value) (w:World) (e:Ending) (w':World):Prop:=match r with
 | some (k,F2)=>e=.returned (.tuple #[.int .i64 (k:Int),.bool true])/\BPost b mb lv w w' F2
 | none=>∃ z:Int,e=.returned (.tuple #[.int .i64 z,.bool false])/\Fr (b::mb::lv.ownBlock.toList) w w'
def zGQ (x:Wc.In):Prop:=∀ (tv:Value) (b mb:Nat) (lv:Value) (F:List (Nat × Int)) (m:Nat) (w:World),FS w b mb lv F->m<=F.length->F.length<=1000000->Calls prog 115 #[.pointer (some ⟨b,1,none⟩),inV x tv,.int .i64 (m:Int)] w λe w'=>zRe (Wc.behF F x.op x.a m) b mb lv w e w'
theorem zQT {x:Wc.In} (h:x.op=16):zGQ x:=by
 intro tv b mb lv F m w hfs hm hlF;refine (zKE x tv b mb lv F m w hfs hm hlF h).mono ?_;rintro e w' ⟨rfl,hb⟩;by_cases h0:m=0
 ·rw [show Wc.behF F x.op x.a m=some (m,F) from by simp [Wc.behF,h,h0]];exact ⟨by simp [h0],BPost.of_below hfs hb⟩
 ·rw [show Wc.behF F x.op x.a m=none from by simp [Wc.behF,h,h0]];exact ⟨_,by simp [h0];rfl,Fr.of_below _ hb⟩
theorem zOp {x:Wc.In} (h:x.op ≠ 6/\x.op ≠ 7/\x.op ≠ 8/\x.op ≠ 9/\x.op ≠ 10/\x.op ≠ 16):zGQ x:=by
 intro tv b mb lv F m w hfs hm hlF;refine (zMN x tv b mb lv F m w hfs hm hlF h).mono ?_;rintro e w' ⟨rfl,hb⟩;obtain ⟨n1,n2,n3,n4,n5,n6⟩:=h;rw [show Wc.behF F x.op x.a m=some (m,F) from by simp [Wc.behF,n1,n2,n3,n4,n5,n6]];exact ⟨rfl,BPost.of_below hfs hb⟩
def zG1 (F:List (Nat × Int)) (x:Wc.In) (v:Int) (m:Nat):Option ((Int × Nat) × List (Nat × Int)):=match Wc.behF F x.op x.a m with
 | none=>none
 | some (m2,F2)=>if v<(Wc.swO x.op x.b).1 \/ (x.op=16/\(Wc.swO x.op x.b).1<v) then none else some ((v - (Wc.swO x.op x.b).1+(Wc.swO x.op x.b).2,m2),F2)
def zNv (o:Int) (r:Option (Nat × List (Nat × Int))) (v o1 o2:Int):Option ((Int × Nat) × List (Nat × Int)):=match r with
 | none=>none
 | some (m2,F2)=>if v<o1 \/ (o=16/\o1<v) then none else some ((v - o1+o2,m2),F2)
def zPC (r:Option ((Int × Nat) × List (Nat × Int))) (b mb:Nat) (lv:Value) (w:World) (e:Ending) (w':World):Prop:=match r with
 | some ((v,k),F2)=>e=.returned (.tuple #[.agg #[.int .i64 v,.int .i64 (k:Int)],.bool true])/\BPost b mb lv w w' F2
 | none=>e=.returned (.tuple #[.agg #[.int .i64 0,.int .i64 0],.bool false])/\Fr (b::mb::lv.ownBlock.toList) w w'
theorem AtL.fr {l:List Value} (h:AtL w k l) (hf:Fr S w w') (hn:k ∉ S):AtL w' k l :=
 ⟨Nat.lt_of_lt_of_le h.1 hf.size,λi v hv=>hf.cell (h.2.1 i v hv) hn,λi hi=>by rw [hf.frozen h.1 hn];exact h.2.2 i hi⟩
theorem BPost.set (h:BPost b mb lv w w1 F) {k:Nat} (hk:w.heap.size<=k) (hb:b<w.heap.size) (hty:∃ c f,w1.heap[k]? = some (.cells c 160 f)) (i:Nat) (v:Value):BPost b mb lv w (w1.setCell ⟨k,i,none⟩ v) F/\∃ c f,(w1.setCell ⟨k,i,none⟩ v).heap[k]? = some (.cells c 160 f):=by
 obtain ⟨c,f,hty⟩:=hty;obtain ⟨⟨lv',h1⟩,h2,h3⟩:=h;have fr:Fr [k] w1 (w1.setCell ⟨k,i,none⟩ v):=Fr.of_grown (zAR _ _ _ _) (λj e=>by cases e;simp);have hlt:=h1.lt;refine ⟨⟨⟨lv',h1.fr fr (by simp;omega) (by simp;omega) (λg e hg=>?_)⟩,h2.new fr (λj hj=>by simp at hj;subst hj;exact Or.inr hk),λu hu=>fr.cell (h3 u hu) (by simp;omega)⟩,?_⟩
 ·simp at hg;subst hg;rcases h1.own.2 with ⟨q,_⟩ | ⟨g',cap,cur,q,_,q2,_⟩
  ·rw [q] at e;cases e
  ·rw [q] at e;have e2:g'=g:=by simpa [Value.ownBlock] using e
   subst e2;rw [hty] at q2;cases q2
 ·refine ⟨c.setIfInBounds i v,f,?_⟩;simp [World.setCell,Array.getElem?_modify,hty]
theorem zBt (w:World) (o:Obj) (k:Nat) (h:k=w.heap.size):(w.alloc o).heap[k]? = some o:=by
 subst h;exact Array.getElem?_push_size
theorem zIK (x:Wc.In) (tv:Value) (b mb:Nat) (lv:Value) (F:List (Nat × Int)) (m:Nat) (v:Int) (w:World) (hfs:FS w b mb lv F) (hm:m<=F.length) (hlF:F.length<=1000000) (hv:0<=v/\v<=100000000) (hsw:-1000<=(Wc.swO x.op x.b).1/\(Wc.swO x.op x.b).1<=1000/\0<=(Wc.swO x.op x.b).2/\(Wc.swO x.op x.b).2<=1) (hBI:zGQ x) :
  Calls prog 88 #[.pointer (some ⟨b,1,none⟩),inV x tv,.agg #[.int .i64 v,.int .i64 (m:Int)]] w λe w'=>zPC (zG1 F x v m) b mb lv w e w':=by
 have pI:AtL (((w.alloc (.cells (zAM x tv).toArray 67)).alloc (.cells #[.int .i64 v,.int .i64 (m:Int)] 160)).alloc (.cells #[.int .i64 0,.int .i64 0] 160)) w.heap.size (zAM x tv):=((AtL.new0 w _ _).alloc _).alloc _;have pH:AtL (((w.alloc (.cells (zAM x tv).toArray 67)).alloc (.cells #[.int .i64 v,.int .i64 (m:Int)] 160)).alloc (.cells #[.int .i64 0,.int .i64 0] 160)) (w.heap.size+1) [.int .i64 v,.int .i64 (m:Int)]:=(AtL.new1 w _ _ _).alloc _;have pR:AtL (((w.alloc (.cells (zAM x tv).toArray 67)).alloc (.cells #[.int .i64 v,.int .i64 (m:Int)] 160)).alloc (.cells #[.int .i64 0,.int .i64 0] 160)) (w.heap.size+1+1) [.int .i64 0,.int .i64 0]:=AtL.new _ _ (by simp only [World.size_alloc]) _;have tR:((((w.alloc (.cells (zAM x tv).toArray 67)).alloc (.cells #[.int .i64 v,.int .i64 (m:Int)] 160)).alloc (.cells #[.int .i64 0,.int .i64 0] 160))).heap[w.heap.size+1+1]? = some (.cells #[.int .i64 0,.int .i64 0] 160 (0,0)):=zBt _ _ _ (by simp only [World.size_alloc]);have hB:Below w.heap.size w ((((w.alloc (.cells (zAM x tv).toArray 67)).alloc (.cells #[.int .i64 v,.int .i64 (m:Int)] 160)).alloc (.cells #[.int .i64 0,.int .i64 0] 160))):=zAH (zAH (zAH (Below.refl _ w) _) _) _;have SW:=λw=>zII x tv w
 have BH:=λw1 (hb:Below w.heap.size w w1)=>hBI tv b mb lv F m w1 (hfs.below hb) hm hlF
 clear hBI;have HG:Hid (∀ k,k ∈ b::mb::lv.ownBlock.toList->k<w.heap.size):=by
  intro k hk;have h1:=zAp hfs.hd;have h2:=hfs.lt;simp only [List.mem_cons,Option.mem_toList] at hk;rcases hk with rfl | rfl | hk
  ·exact h1
  ·omega
  ·exact (zAL hfs.own hk).2
 have HB:Hid (b<w.heap.size):=zAp hfs.hd;obtain ⟨o1,ho1⟩:∃ o,(Wc.swO x.op x.b).1=o:=⟨_,rfl⟩
 obtain ⟨o2,ho2⟩:∃ o,(Wc.swO x.op x.b).2=o:=⟨_,rfl⟩
 obtain ⟨r,hr⟩:∃ r,Wc.behF F x.op x.a m=r:=⟨_,rfl⟩
 have hce:zG1 F x v m=zNv x.op r v o1 o2:=by rw [<-ho1,<-ho2,<-hr];rfl
 rw [hce];rw [ho1,ho2] at hsw;rw [hr] at BH;have SW2:∀ w:World,CR 114 #[inV x tv] w (.tuple #[.int .i64 o1,.int .i64 o2]):=λw=>by rw [<-ho1,<-ho2];exact SW w
 have wa:IntKind.i64.wrap (v - o1)=v - o1:=by rw [IntKind.wrap_i64];omega
 have wb:IntKind.i64.wrap (v - o1+o2)=v - o1+o2:=by rw [IntKind.wrap_i64];omega
 clear hce ho1 ho2 hr SW hfs hm hlF hv hsw;go_enter func88,ntmps88;go_upto_region 1 with fail
 generalize (((w.alloc (.cells (zAM x tv).toArray 67)).alloc (.cells #[.int .i64 v,.int .i64 (m:Int)] 160)).alloc (.cells #[.int .i64 0,.int .i64 0] 160))=W at *;have rI:=pI.range;go_wp2_with (first | (refine zAB (by rfl) 67 (.tmp 4) rfl w.heap.size 0 rfl (zAM x tv) _ rI underlying67 rfl (by kernel_rfl) ?_))
 refine (SW2 _).mono ?_;rintro e w1 ⟨rfl,hb1⟩;replace pI:=AtL.below hb1 pI
 replace pH:=AtL.below hb1 pH
 replace tR:=(hb1.block _ pR.1).trans tR
 replace pR:=AtL.below hb1 pR
 replace hB:=zAA hB hb1
 have BH1:=BH w1 hB;clear rI hb1 SW2 BH;have rI:=pI.range;have h0:=pH.2.1 0 _ rfl;have h1:=pH.2.1 1 _ rfl;go_wp2_with (first | (refine zAB (by rfl) 67 (.tmp 4) rfl w.heap.size 0 rfl (zAM x tv) _ rI underlying67 rfl (by kernel_rfl) ?_))
 refine BH1.mono ?_;intro e w2 hP;clear rI BH1;have nI:w.heap.size ∉ b::mb::lv.ownBlock.toList:=λe=>by have:=HG.out _ e;omega
 have nH:w.heap.size+1 ∉ b::mb::lv.ownBlock.toList:=λe=>by have:=HG.out _ e;omega
 have nR:w.heap.size+1+1 ∉ b::mb::lv.ownBlock.toList:=λe=>by have:=HG.out _ e;omega
 have f2:Fr (b::mb::lv.ownBlock.toList) w1 w2:=by
  cases r with
  | none =>
   obtain ⟨_,_,h⟩:=hP;exact h
  | some q =>
   obtain ⟨_,_,h,_⟩:=hP;exact h
 replace pI:=pI.fr f2 nI
 replace pH:=pH.fr f2 nH
 have t2:w2.heap[w.heap.size+1+1]? = some (.cells #[.int .i64 0,.int .i64 0] 160 (0,0)):=by rw [f2.block _ pR.1 nR];exact tR
 replace pR:=pR.fr f2 nR
 have i0:=pI.2.1 0 _ rfl;clear h0 h1 tR;have h0:=pH.2.1 0 _ rfl;have h1:=pH.2.1 1 _ rfl;have r0:=pR.2.1 0 _ rfl;have r1:=pR.2.1 1 _ rfl;have z0:=pR.2.2 0 (by decide);have z1:=pR.2.2 1 (by decide);cases r with
 | none =>
  obtain ⟨z,rfl,hf⟩:=hP;have FB:=(Fr.of_below (b::mb::lv.ownBlock.toList) hB).trans hf;have F3:Fr (b::mb::lv.ownBlock.toList) w ((w2.setCell ⟨w.heap.size+1+1,0,none⟩ (.int .i64 0)).setCell ⟨w.heap.size+1+1,1,none⟩ (.int .i64 0)):=(FB.new (Fr.of_grown (zAR _ _ _ _) (λj e=>by cases e;exact List.mem_singleton.2 rfl)) (λj hj=>by simp at hj;omega)).new (Fr.of_grown (zAR _ _ _ _) (λj e=>by cases e;exact List.mem_singleton.2 rfl)) (λj hj=>by simp at hj;omega);clear hf f2 hB;go_upto_region 4 with fail
  go_wp2;have q0:((w2.setCell ⟨w.heap.size+1+1,0,none⟩ (.int .i64 0)).setCell ⟨w.heap.size+1+1,1,none⟩ (.int .i64 0)).cell? ⟨w.heap.size+1+1,0,none⟩=some (.int .i64 0):=by rw [zAY _ _ _ (by decide)];exact zA4 r0 _
  have q1:((w2.setCell ⟨w.heap.size+1+1,0,none⟩ (.int .i64 0)).setCell ⟨w.heap.size+1+1,1,none⟩ (.int .i64 0)).cell? ⟨w.heap.size+1+1,1,none⟩=some (.int .i64 0):=zA4 (by rw [zAY _ _ _ (by decide)];exact r1) _;refine bodyPost_ret (v:=.tuple #[.agg #[.int .i64 0,.int .i64 0],.bool false]) (by simp [results,results88,go_sem,q0,q1]) rfl ?_;exact ⟨rfl,F3⟩
 | some q =>
  obtain ⟨k,F2⟩:=q;obtain ⟨rfl,hP⟩:=hP;have PB:=BPost.front hB hP;have P1:=PB.set (k:=w.heap.size+1+1) (by omega) HB.out ⟨_,_,t2⟩ 0 (.int .i64 (v - o1+o2));have P2:=P1.1.set (by omega) HB.out P1.2 1 (.int .i64 (k:Int));have FB:=PB.2.1;have F3:Fr (b::mb::lv.ownBlock.toList) w ((w2.setCell ⟨w.heap.size+1+1,0,none⟩ (.int .i64 0)).setCell ⟨w.heap.size+1+1,1,none⟩ (.int .i64 0)):=(FB.new (Fr.of_grown (zAR _ _ _ _) (λj e=>by cases e;exact List.mem_singleton.2 rfl)) (λj hj=>by simp at hj;omega)).new (Fr.of_grown (zAR _ _ _ _) (λj e=>by cases e;exact List.mem_singleton.2 rfl)) (λj hj=>by simp at hj;omega);have HP2:Hid (BPost b mb lv w ((w2.setCell ⟨w.heap.size+1+1,0,none⟩ (.int .i64 (v - o1+o2))).setCell ⟨w.heap.size+1+1,1,none⟩ (.int .i64 (k:Int))) F2):=P2.1;clear hP f2 hB PB P1 P2 FB t2;have NO:∀ (hc:v<o1 \/ (x.op=16/\o1<v)),zNv x.op (some (k,F2)) v o1 o2=none:=λhc=>if_pos hc
  have YES:∀ (hc:¬ (v<o1 \/ (x.op=16/\o1<v))),zNv x.op (some (k,F2)) v o1 o2=some ((v - o1+o2,k),F2):=λhc=>if_neg hc
  have q0:((w2.setCell ⟨w.heap.size+1+1,0,none⟩ (.int .i64 0)).setCell ⟨w.heap.size+1+1,1,none⟩ (.int .i64 0)).cell? ⟨w.heap.size+1+1,0,none⟩=some (.int .i64 0):=by rw [zAY _ _ _ (by decide)];exact zA4 r0 _
  have q1:((w2.setCell ⟨w.heap.size+1+1,0,none⟩ (.int .i64 0)).setCell ⟨w.heap.size+1+1,1,none⟩ (.int .i64 0)).cell? ⟨w.heap.size+1+1,1,none⟩=some (.int .i64 0):=zA4 (by rw [zAY _ _ _ (by decide)];exact r1) _;have Q0:Hid _:=q0;have Q1:Hid _:=q1;clear q0 q1;by_cases c1:v<o1
  ·go_upto_region 4 with fail
   go_wp2;refine bodyPost_ret (v:=.tuple #[.agg #[.int .i64 0,.int .i64 0],.bool false]) (by have q0:=Q0.out;have q1:=Q1.out;simp [results,results88,go_sem,q0,q1]) rfl ?_;show zPC (zNv x.op (some (k,F2)) v o1 o2) b mb lv w _ _
   rw [NO (Or.inl c1)];exact ⟨rfl,F3⟩
  ·by_cases c2:x.op=16
   ·by_cases c3:o1<v
    ·go_upto_region 4 with fail
     go_wp2;refine bodyPost_ret (v:=.tuple #[.agg #[.int .i64 0,.int .i64 0],.bool false]) (by have q0:=Q0.out;have q1:=Q1.out;simp [results,results88,go_sem,q0,q1]) rfl ?_;show zPC (zNv x.op (some (k,F2)) v o1 o2) b mb lv w _ _
     rw [NO (Or.inr ⟨c2,c3⟩)];exact ⟨rfl,F3⟩
    ·go_wp2;have d0:((w2.setCell ⟨w.heap.size+1+1,0,none⟩ (.int .i64 (v - o1+o2))).setCell ⟨w.heap.size+1+1,1,none⟩ (.int .i64 (k:Int))).cell? ⟨w.heap.size+1+1,0,none⟩=some (.int .i64 (v - o1+o2)):=by rw [zAY _ _ _ (by decide)];exact zA4 r0 _
     have d1:((w2.setCell ⟨w.heap.size+1+1,0,none⟩ (.int .i64 (v - o1+o2))).setCell ⟨w.heap.size+1+1,1,none⟩ (.int .i64 (k:Int))).cell? ⟨w.heap.size+1+1,1,none⟩=some (.int .i64 (k:Int)):=zA4 (by rw [zAY _ _ _ (by decide)];exact r1) _;refine bodyPost_ret (v:=.tuple #[.agg #[.int .i64 (v - o1+o2),.int .i64 (k:Int)],.bool true]) (by simp [results,results88,go_sem,d0,d1]) rfl ?_;show zPC (zNv x.op (some (k,F2)) v o1 o2) b mb lv w _ _
     rw [YES (by omega)];exact ⟨rfl,HP2.out⟩
   ·go_wp2;have d0:((w2.setCell ⟨w.heap.size+1+1,0,none⟩ (.int .i64 (v - o1+o2))).setCell ⟨w.heap.size+1+1,1,none⟩ (.int .i64 (k:Int))).cell? ⟨w.heap.size+1+1,0,none⟩=some (.int .i64 (v - o1+o2)):=by rw [zAY _ _ _ (by decide)];exact zA4 r0 _
    have d1:((w2.setCell ⟨w.heap.size+1+1,0,none⟩ (.int .i64 (v - o1+o2))).setCell ⟨w.heap.size+1+1,1,none⟩ (.int .i64 (k:Int))).cell? ⟨w.heap.size+1+1,1,none⟩=some (.int .i64 (k:Int)):=zA4 (by rw [zAY _ _ _ (by decide)];exact r1) _;refine bodyPost_ret (v:=.tuple #[.agg #[.int .i64 (v - o1+o2),.int .i64 (k:Int)],.bool true]) (by simp [results,results88,go_sem,d0,d1]) rfl ?_;show zPC (zNv x.op (some (k,F2)) v o1 o2) b mb lv w _ _
    rw [YES (by omega)];exact ⟨rfl,HP2.out⟩
theorem zAF (hb:Below w.heap.size w w') {b o:Nat} {l:List Value} (h:w.rangeAt b o l):w'.rangeAt b o l:=λj v hv=>zAC hb (h j v hv)
def RdC (w:World) (v:Value) (L:List (Wc.In × List Int)):Prop:=∃ av cap,v=.slice av L.length cap/\∀ i (h:i<L.length),∃ bb off p m k,av=some ⟨bb,off,none⟩/\w.rangeAt bb (off+i * 23) (zAM (L[i]).1 (.slice p m k))/\RdZ w (.slice p m k) (L[i]).2/\(p=none->k=0)
theorem RdC.below {L:List (Wc.In × List Int)} (h:RdC w v L) (hb:Below w.heap.size w w'):RdC w' v L:=by
 obtain ⟨av,cap,e,h⟩:=h;refine ⟨av,cap,e,λi hi=>?_⟩;obtain ⟨bb,off,p,m,k,e1,h1,h2,h3⟩:=h i hi;exact ⟨bb,off,p,m,k,e1,zAF hb h1,h2.below hb,h3⟩
theorem zEA {s:Tmp} {T:TypeId} (h:fn.results=#[.cell t T,.tmp s]) (tmps:Array Value) (w:World) (b:Nat) (cs:List Value) (d:TypeDesc) (ht:tmps.getD t undef=.pointer (some ⟨b,0,none⟩)) (hc:w.rangeAt b 0 cs)
  (hu:P.underlying T=some d) (hd:d.isRow=true) (hi:(P.info? T).map (·.size)=some cs.length):(results fn tmps).run P w=.ok (.tuple #[.agg cs.toArray,tmps.getD s undef]) w:=by
 have hl:=run_loadVar_mid (P:=P) w b 0 T cs d hc hu hd hi;have ht':tmps[t]?.getD undef=.pointer (some ⟨b,0,none⟩):=by rw [<-ht];simp
 simp only [results,h];simp [ht',hl,asAddr]
theorem zA2 {T:TypeId} (h:fn.results=#[.cell t T]) (tmps:Array Value) (w:World) (b:Nat) (cs:List Value) (d:TypeDesc) (ht:tmps.getD t undef=.pointer (some ⟨b,0,none⟩)) (hc:w.rangeAt b 0 cs)
  (hu:P.underlying T=some d) (hd:d.isRow=true) (hi:(P.info? T).map (·.size)=some cs.length):(results fn tmps).run P w=.ok (.agg cs.toArray) w:=by
 have hl:=run_loadVar_mid (P:=P) w b 0 T cs d hc hu hd hi;have ht':tmps[t]?.getD undef=.pointer (some ⟨b,0,none⟩):=by rw [<-ht];simp
 simp only [results,h];simp [ht',hl,asAddr]
def zAI (x:Wt.Nd) (sl:Value):List Value:=zAK x++[sl]
theorem zCj (x:Wt.Nd) (sl:Value):(zAI x sl).length=21:=rfl
theorem zMz (x:Wt.Nd) (av:Option Addr) (n c:Nat):∀ v ∈ zAI x (.slice av n c),v.oneCell'=true:=by
 intro v hv;rcases List.mem_append.1 hv with h | h
 ·exact zKa x v h
 ·simp at h;subst h;rfl
theorem zAn (x:Wt.Nd) (av:Option Addr) (n c:Nat):(zAI x (.slice av n c)).toArray.all (·.oneCell')=true:=all_oneCell_toArray (zMz x av n c)
theorem zRh (x:Wt.Nd) (w:World):(Instr.build 188 #[(0,.agg (zAK x).toArray)]).run prog w=.ok (.agg (zAI x (.slice none 0 0)).toArray) w:=by kernel_rfl
theorem zFb (hgd:op.guard=none) (y:Operand) (ho:op.op=.build 188 #[(0,y)]) (x:Wt.Nd) (hy:a.eval y=.agg (zAK x).toArray)
  (h:wpList prog ops Q rest (a.put op.dst (.agg (zAI x (.slice none 0 0)).toArray)) w):wpList prog ops Q (op::rest) a w:=by
 refine wpList_plain hgd λK hK=>?_
 unfold Oper.wp execOp;simp only [ho,List.map_toArray,List.map_cons,List.map_nil,hy,Sem.run_bind,Sem.run_pure,Result.andThen_ok,zRh];exact hK _ _ h
theorem zCP {o:Nat} {sl:Value} (h:w.rangeAt k o (zAI x sl)):w.rangeAt k o (zAK x):=λj v hv=>h j v (by
 unfold zAI;have hj:j<(zAK x).length:=by
  rcases Nat.lt_or_ge j (zAK x).length with q | q
  ·exact q
  ·rw [List.getElem?_eq_none q] at hv;cases hv
 rw [List.getElem?_append_left hj];exact hv)
abbrev zeros21:Array Value:=#[.int .i64 0,.int .i64 0,.int .i64 0,.int .i64 0,.string ⟨#[]⟩,.bool false,.int .i64 0,.int .i64 0,.string ⟨#[]⟩,.int .i64 0,.string ⟨#[]⟩,.int .i64 0,.int .i64 0,.bool false,.bool false,.string ⟨#[]⟩,.int .i64 0,.int .i64 0,.bool false,.bool false,.slice none 0 0]
def zB9:List (Wt.Nd × Value)->List Value
 | []=>[]
 | p::r=>zAI p.1 p.2++zB9 r
theorem zE4:∀ A:List (Wt.Nd × Value),(zB9 A).length=A.length * 21
 | []=>rfl
 | x::r=>by simp [zB9,zE4 r,zCj];omega
theorem zEk:∀ (A C:List (Wt.Nd × Value)),zB9 (A++C)=zB9 A++zB9 C
 | [],C=>rfl
 | x::r,C=>by simp [zB9,zEk r C]
theorem zF0:∀ (A:List (Wt.Nd × Value)),(∀ p ∈ A,∃ av n c,p.2=.slice av n c)->∀ v ∈ zB9 A,v.oneCell'=true
 | [],_,v,h=>by cases h
 | x::r,hs,v,h=>by
  obtain ⟨av,n,c,e⟩:=hs x (List.mem_cons_self ..);simp only [zB9,List.mem_append] at h;rcases h with h | h
  ·rw [e] at h;exact zMz _ _ _ _ v h
  ·exact zF0 r (λp hp=>hs p (List.mem_cons_of_mem _ hp)) v h
theorem zFG:∀ (A:List (Wt.Nd × Value)) (i:Nat) (h:i<A.length) (j:Nat) (v:Value),(zAI (A[i]).1 (A[i]).2)[j]? = some v->(zB9 A)[i * 21+j]? = some v
 | [],i,h,_,_,_=>absurd h (Nat.not_lt_zero _)
 | x::r,0,h,j,v,hv=>by
  have hj:j<(zAI x.1 x.2).length:=by
   rcases Nat.lt_or_ge j (zAI x.1 x.2).length with q | q
   ·exact q
   ·simp only [List.getElem_cons_zero] at hv;rw [List.getElem?_eq_none q] at hv;cases hv
  simp only [zB9,Nat.zero_mul,Nat.zero_add];rw [List.getElem?_append_left hj];exact hv
 | x::r,i+1,h,j,v,hv=>by
  simp only [zB9];rw [List.getElem?_append_right (by rw [zCj];omega),zCj,show (i+1) * 21+j - 21=i * 21+j from by omega];exact zFG r i (by simpa using h) j v (by simpa using hv)
def OwnP (w:World) (B:Nat) (v:Value) (A:List (Wt.Nd × Value)):Prop:=w.ownsRow B 188 21 v A.length (zB9 A)
theorem OwnP.nil (w:World) (B:Nat):OwnP w B (.slice none 0 0) []:=⟨rfl,Or.inl ⟨rfl,rfl⟩⟩
theorem OwnP.below (h:OwnP w B v A) (hb:Below w.heap.size w w'):OwnP w' B v A:=zAZ (Fr.of_below [] hb) h (by simp)
theorem OwnP.cases (h:OwnP w B v A):(v=.slice none 0 0/\A=[]) \/ ∃ g cap,v=.slice (some ⟨g,0,none⟩) A.length cap/\B<=g/\g<w.heap.size/\∀ i (hi:i<A.length),w.rangeAt g (i * 21) (zAI (A[i]).1 (A[i]).2):=by
 rcases h.2 with ⟨e,h0⟩ | ⟨g,cap,cur,e,hb1,hg,r1,r2,r3,r4⟩
 ·exact Or.inl ⟨e,List.eq_nil_of_length_eq_zero h0⟩
 ·refine Or.inr ⟨g,cap,e,hb1,(zAL h (by rw [e];rfl)).2,λi hi j v hv=>?_⟩;have:=h.cells (by rw [e];rfl) (i * 21+j) v (zFG A i hi j v hv);rw [show (⟨g,0,none⟩:Addr).add (i * 21+j)=⟨g,i * 21+j,none⟩ from by
   simp [Addr.add];try (intro h0;omega)] at this
  exact this
theorem OwnP.slice (h:OwnP w B v A):∃ a m c,v=.slice a m c:=by
 rcases OwnP.cases h with ⟨e,_⟩ | ⟨g,cap,e,_⟩
 ·exact ⟨_,_,_,e⟩
 ·exact ⟨_,_,_,e⟩
theorem zFk:(prog.info? 188).map (λi=>(i.zero,i.size,i.bytes))=some (some (.agg zeros21),21,200):=by kernel_rfl
theorem zBh {ops:Array Oper} {rest:List Oper} {o:Oper} {a:Act} {Q:Exit->Act->World->Prop} (hgd:o.guard=none) (s x:Operand) (ho:o.op=.call {callee:=.builtin .append,args:=#[s,x],argTypes:=#[186,186]})
  (w:World) (B:Nat) (hB:B<=w.heap.size) (v:Value) (A:List (Wt.Nd × Value)) (hs:a.eval s=v) (hown:OwnP w B v A) (g:Nat) (y:Wt.Nd) (av:Option Addr) (n c:Nat) (hx:a.eval x=.slice (some ⟨g,0,none⟩) 1 1) (hat:w.rangeAt g 0 (zAI y (.slice av n c))) (hl:True->A.length<=1000)
  (h:∀ v' w',OwnP w' B v' (A++[(y,.slice av n c)])->w.grownBy w' v.ownBlock->(v'.ownBlock=v.ownBlock \/ v'.ownBlock=some w.heap.size)->wpList prog ops Q rest (a.put o.dst v') w'):wpList prog ops Q (o::rest) a w:=by
 obtain ⟨i0,hi0,hz0,hz1,hz2⟩:=info_parts zFk;have hl:=hl trivial;refine wpList_plain hgd λK hK=>?_
 have hnews:∀ j u,(zB9 [(y,.slice av n c)])[j]? = some u->w.cell? ((⟨g,0,none⟩:Addr).add j)=some u:=λj u hj=>by
  simp only [zB9,List.append_nil] at hj;have:=hat j u hj;rw [Nat.zero_add] at this;rw [show (⟨g,0,none⟩:Addr).add j=⟨g,j,none⟩ from by
   simp [Addr.add];try (intro h0;omega)]
  exact this
 obtain ⟨v',w',hr,own,hg,_,hb⟩:=run_append_own_at (P:=prog) w B 186 o.type 188 i0 _ 21 200 underlying186 hi0 hz0 hz1 hz2 rfl (by decide) v A.length (zB9 A) hown ⟨g,0,none⟩ 1 1 (zB9 [(y,.slice av n c)]) (zE4 _) hnews (zF0 _ (λp hp=>by simp at hp;subst hp;exact ⟨_,_,_,rfl⟩)) (by unfold maxLen;omega) (by omega) hB;unfold Oper.wp execOp;simp only [ho,resolve,invoke,builtin,Sem.run_bind,Sem.run_pure,Result.andThen_ok,List.map_toArray,List.map_cons,List.map_nil,hs,hx,hr];refine hK _ _ (h v' w' ?_ hg hb);unfold OwnP;rw [List.length_append,zEk];exact own
theorem zRg (x:Wt.Nd) (av:Option Addr) (n c:Nat) (w:World):(Instr.buildSlice 186 1 #[(0,.agg (zAI x (.slice av n c)).toArray)]).run prog w=.ok (.slice (some ⟨w.heap.size,0,none⟩) 1 1) (w.alloc (.cells (zAI x (.slice av n c)).toArray 188)):=by kernel_rfl
theorem zBo (hgd:op.guard=none) (y:Operand) (ho:op.op=.buildSlice 186 1 #[(0,y)]) (x:Wt.Nd) (av:Option Addr) (n c:Nat) (hy:a.eval y=.agg (zAI x (.slice av n c)).toArray)
  (h:wpList prog ops Q rest (a.put op.dst (.slice (some ⟨w.heap.size,0,none⟩) 1 1)) (w.alloc (.cells (zAI x (.slice av n c)).toArray 188))):wpList prog ops Q (op::rest) a w:=by
 refine wpList_plain hgd λK hK=>?_
 unfold Oper.wp execOp;simp only [ho,List.map_toArray,List.map_cons,List.map_nil,hy,Sem.run_bind,Sem.run_pure,Result.andThen_ok,zRg];exact hK _ _ h
theorem zAf (b:Nat):∀ (vs:List Value) (o:Nat) (w:World),Fr [b] w (w.setCells b o vs)
 | [],o,w=>Fr.refl _ _
 | v::r,o,w=>(Fr.of_grown (zAR w b o v) (λj e=>by cases e;simp)).trans (zAf b r (o+1) _)
theorem zDL (h:Below w.heap.size w w1) (f:Fr S w1 w2) (hs:∀ k ∈ S,w.heap.size<=k):Below w.heap.size w w2:=(Fr.new (Fr.of_below [] h) f (λk hk=>Or.inr (hs k hk))).to_below (λk hk=>absurd hk (by simp))
open Wf
def RdT (n lo hi:Nat) (w:World) (av:Option Addr) (ps:List (Tr n × Value)):Prop:=∀ i (h:i<ps.length),∃ bb off,lo<=bb/\bb<hi/\av=some ⟨bb,off,none⟩/\w.rangeAt bb (off+i * 21) (zAI (hd n (ps[i]).1) (ps[i]).2)
def PA:(n:Nat)->Nat->Nat->World->Tr n->Value->Prop
 | 0,_,_,_,t,_=>Empty.elim t
 | n+1,lo,hi,w,t,sl=>∃ (av:Option Addr) (cap:Nat) (ps:List (Tr n × Value)),ps.map (·.1)=Br.ks t/\sl=.slice av ps.length cap/\ps.length<=cap/\RdT n lo hi w av ps/\∀ p ∈ ps,PA n lo hi w p.1 p.2
def Kept (lo hi:Nat) (w w':World):Prop:=∀ b o v,lo<=b->b<hi->w.cell? ⟨b,o,none⟩=some v->w'.cell? ⟨b,o,none⟩=some v
theorem Kept.of_fr (h:Fr S w w') (hs:∀ k ∈ S,k<lo \/ hi<=k):Kept lo hi w w':=λb o v h1 h2 hc=>h.cell hc (λhm=>by have:=hs b hm;omega)
theorem Kept.of_below (h:Below w.heap.size w w'):Kept lo hi w w':=λb o v _ _ hc=>zAC h hc
theorem RdT.kept {av:Option Addr} {ps:List (Tr n × Value)} (h:RdT n lo hi w av ps) (hk:Kept lo hi w w'):RdT n lo hi w' av ps:=λi hi'=>by
 obtain ⟨bb,off,h1,h2,h3,h4⟩:=h i hi';exact ⟨bb,off,h1,h2,h3,λj v hv=>hk _ _ _ h1 h2 (h4 j v hv)⟩
theorem PA.kept {lo hi:Nat} {w w':World} (hk:Kept lo hi w w'):∀ (n:Nat) (t:Tr n) (sl:Value),PA n lo hi w t sl->PA n lo hi w' t sl
 | 0,t,_,_=>Empty.elim t
 | n+1,t,sl,h=>by
  obtain ⟨av,cap,ps,h1,h2,h2c,h3,h4⟩:=h;exact ⟨av,cap,ps,h1,h2,h2c,h3.kept hk,λp hp=>PA.kept hk n p.1 p.2 (h4 p hp)⟩
theorem PA.wide {lo hi lo' hi':Nat} {w:World} (h1:lo'<=lo) (h2:hi<=hi'):∀ (n:Nat) (t:Tr n) (sl:Value),PA n lo hi w t sl->PA n lo' hi' w t sl
 | 0,t,_,_=>Empty.elim t
 | n+1,t,sl,h=>by
  obtain ⟨av,cap,ps,q1,q2,q2c,q3,q4⟩:=h;refine ⟨av,cap,ps,q1,q2,q2c,λi hi=>?_,λp hp=>PA.wide h1 h2 n p.1 p.2 (q4 p hp)⟩;obtain ⟨bb,off,r1,r2,r3,r4⟩:=q3 i hi;exact ⟨bb,off,by omega,by omega,r3,r4⟩
theorem PA.slice {lo hi:Nat} {w:World}:∀ {n:Nat} {t:Tr n} {sl:Value},PA n lo hi w t sl->∃ av m c,sl=.slice av m c
 | 0,t,_,_=>Empty.elim t
 | n+1,t,sl,h=>by
  obtain ⟨av,cap,ps,q1,q2,q2c,q3,q4⟩:=h;exact ⟨_,_,_,q2⟩
open Go.RowKit Wf
theorem zHZ (x:Wt.Nd) (w:World):CR 157 #[.agg (zAK x).toArray] w (.int .i64 (Wt.parts x)):=by
 have p:=AtL.new0 w 102 (zAK x);have hb:=zAH (Below.refl _ w) (.cells (zAK x).toArray 102);have c0:(w.alloc (.cells (zAK x).toArray 102)).cell? ⟨w.heap.size,0,none⟩=some (.int .i64 x.k):=p.2.1 0 _ rfl;have c9:(w.alloc (.cells (zAK x).toArray 102)).cell? ⟨w.heap.size,9,none⟩=some (.int .i64 x.ar):=p.2.1 9 _ rfl;clear p;unfold Wt.parts;by_cases h4:x.k=4
 ·rw [if_pos h4];rw [h4] at c0;clear h4;go_enter func157,ntmps157;go_upto_region 1 with fail
  generalize (w.alloc (.cells (zAK x).toArray 102))=W at *;go_wp2;go_ret;exact ⟨rfl,hb⟩
 rw [if_neg h4];by_cases h5:x.k=5
 ·rw [if_pos h5];rw [h5] at c0;clear h4 h5;go_enter func157,ntmps157;go_upto_region 1 with fail
  generalize (w.alloc (.cells (zAK x).toArray 102))=W at *;go_wp2;go_ret;exact ⟨rfl,hb⟩
 rw [if_neg h5];have e4:(x.k == 4)=false:=by simpa using h4
 have e5:(x.k == 5)=false:=by simpa using h5
 go_enter func157,ntmps157;go_upto_region 1 with fail
 generalize (w.alloc (.cells (zAK x).toArray 102))=W at *;go_wp2;go_ret;exact ⟨rfl,hb⟩
theorem zOQ (w:World) (g o m cap:Nat):(Instr.sliceAt 104 (.slice (some ⟨g,o,none⟩) (m+1) cap) (some (.int .i64 1)) none none).run prog w=.ok (sliced (some ⟨g,o,none⟩) 1 (m+1) cap 20) w:=by
 have hu:prog.underlying 104=some (.slice (prog.elem 104)):=by kernel_rfl
 have hz:(sizeOf (prog.elem 104)).run prog w=.ok 20 w:=by kernel_rfl
 rw [run_sliceAt_slice w _ _ _ _ _ hu,run_slice_l w _ _ _ _ hu _ 1 (by omega) (by omega),hz];rfl
theorem zH3 (hgd:op.guard=none) (s:Operand) (ho:op.op=.slice 104 s (some (.const (.int .i64 1))) none none) (g o m cap:Nat) (hs:a.eval s=.slice (some ⟨g,o,none⟩) (m+1) cap) (hc:m+1<=cap)
  (h:∀ X C:Nat,(m ≠ 0->X=o+20)->m<=C->wpList prog ops Q rest (a.put op.dst (.slice (some ⟨g,X,none⟩) m C)) w):wpList prog ops Q (op::rest) a w:=by
 refine wpList_plain hgd λK hK=>?_
 unfold Oper.wp execOp;have hr:=zOQ w g o m cap;have he:sliced (some ⟨g,o,none⟩) 1 (m+1) cap 20=.slice (some ⟨g,(if cap=1 then o else o+20),none⟩) m (cap - 1):=by
  unfold sliced;by_cases hc1:cap=1
  ·rw [if_pos hc1,if_pos hc1];rfl
  ·rw [if_neg hc1,if_neg hc1];rfl
 rw [he] at hr;have hv:a.eval (.const (.int .i64 1))=.int .i64 1:=rfl;simp only [ho,hs,hv,Option.map_some,Option.map_none,Sem.run_bind,Sem.run_pure,Result.andThen_ok,hr];exact hK _ _ (h _ _ (λhm=>by rw [if_neg (by omega)]) (by omega))
theorem RdN.tail {bb off X:Nat} {r:List Wt.Nd} (h:RdN w (some ⟨bb,off,none⟩) (x::r)) (hX:r.length ≠ 0->X=off+20):RdN w (some ⟨bb,X,none⟩) r:=λi hi=>by
 obtain ⟨b2,o2,e,hr⟩:=h (i+1) (by simp;omega);cases e
 refine ⟨bb,X,rfl,?_⟩;rw [hX (by omega),show off+20+i * 20=off+(i+1) * 20 from by omega];exact hr
structure GrS (n b0:Nat) (w:World) (pb:Nat) (x:Wt.Nd) (sv:Value) (ps:List (Tr n × Value)):Prop where
 at':AtL w pb (zAI x sv)
 own:OwnP w (pb+1) sv (ps.map λp=>(hd n p.1,p.2))
 kids:∀ p ∈ ps,∃ lo hi,b0<=lo/\hi<=w.heap.size/\(∀ j,sv.ownBlock=some j->j<lo \/ hi<=j)/\pb<lo/\PA n lo hi w p.1 p.2
theorem GrS.below {ps:List (Tr n × Value)} (h:GrS n b0 w pb x sv ps) (hb:Below w.heap.size w w'):GrS n b0 w' pb x sv ps :=
 ⟨AtL.below hb h.at',h.own.below hb,λp hp=>by
  obtain ⟨lo,hi,h1,h2,h3,h4,h5⟩:=h.kids p hp;exact ⟨lo,hi,h1,Nat.le_trans h2 hb.size,h3,h4,PA.kept (Kept.of_below hb) n _ _ h5⟩⟩
theorem GrS.done {ps:List (Tr n × Value)} (h:GrS n b0 w pb x sv ps) (t:Tr (n+1)) (ht:ps.map (·.1)=Br.ks t):PA (n+1) pb w.heap.size w t sv:=by
 have hk:∀ p ∈ ps,PA n pb w.heap.size w p.1 p.2:=λp hp=>by
  obtain ⟨lo,hi,h1,h2,h3,h4,h5⟩:=h.kids p hp;exact PA.wide (Nat.le_of_lt h4) h2 n _ _ h5
 have hl:(ps.map λp=>(hd n p.1,p.2)).length=ps.length:=by simp
 rcases OwnP.cases h.own with ⟨e,hp⟩ | ⟨g,cap,e,h1,h2,h3⟩
 ·have hp':ps=[]:=by simpa using hp
  subst hp';exact ⟨none,0,[],ht,e,Nat.le_refl _,λi hi=>absurd hi (Nat.not_lt_zero _),hk⟩
 ·rw [hl] at e;refine ⟨_,cap,ps,ht,e,?_,λi hi=>?_,hk⟩
  ·rcases h.own.2 with ⟨e2,h0⟩ | ⟨g2,cap2,cur,e2,_,_,r1,_⟩
   ·rw [e2] at e;cases e
   ·rw [e2] at e;simp only [Value.slice.injEq,List.length_map] at e r1;omega
  ·refine ⟨g,0,by omega,h2,rfl,?_⟩;have:=h3 i (by rw [hl];exact hi);simp only [List.getElem_map] at this;rw [Nat.zero_add];exact this
theorem GrS.app {v':Value} {ps:List (Tr n × Value)} (h:GrS n b0 w pb x sv ps) {k:Tr n} {sl:Value} {lo hi:Nat} (hk:PA n lo hi w k sl) (h1:b0<=lo) (h2:hi<=w.heap.size) (h3:∀ j,sv.ownBlock=some j->j<lo) (h4:pb<lo)
  (own:OwnP w1 (pb+1) v' ((ps.map λp=>(hd n p.1,p.2))++[(hd n k,sl)])) (hg:w.grownBy w1 sv.ownBlock) (hv:v'.ownBlock=sv.ownBlock \/ v'.ownBlock=some w.heap.size) :
  GrS n b0 (w1.setCell ⟨pb,20,none⟩ v') pb x v' (ps++[(k,sl)])/\Fr (pb::sv.ownBlock.toList) w (w1.setCell ⟨pb,20,none⟩ v'):=by
 have f1:Fr sv.ownBlock.toList w w1:=Fr.of_grown hg (λj e=>by simp [e]);have f2:Fr [pb] w1 (w1.setCell ⟨pb,20,none⟩ v'):=Fr.of_grown (zAR _ _ _ _) (λj e=>by cases e;simp);have ha:AtL w1 pb (zAI x sv):=h.at'.fr f1 (λe=>by have:=(zAL h.own (show sv.ownBlock=some pb by simpa using e)).1;omega);have hkeep:∀ (t:Tr n) (u:Value) (lo hi:Nat),(∀ j,sv.ownBlock=some j->j<lo \/ hi<=j)->pb<lo->PA n lo hi w t u->PA n lo hi (w1.setCell ⟨pb,20,none⟩ v') t u:=λt u lo hi q1 q2 q3 =>
  PA.kept (Kept.of_fr f2 (λj hj=>by simp at hj;omega)) n _ _ (PA.kept (Kept.of_fr f1 (λj hj=>q1 j (by simpa using hj))) n _ _ q3)
 have hs2:w.heap.size<=(w1.setCell ⟨pb,20,none⟩ v').heap.size:=Nat.le_trans f1.size f2.size;refine ⟨⟨ha.set 20 v',?_,λp hp=>?_⟩,(f1.mono (λj hj=>List.mem_cons_of_mem _ hj)).trans (f2.mono (λj hj=>by simp at hj;subst hj;exact List.mem_cons_self ..))⟩
 ·have:=zAZ f2 own (λj e=>by have:=(zAL own e).1;simp;omega);simpa [OwnP] using this
 ·rcases List.mem_append.1 hp with hp | hp
  ·obtain ⟨lo',hi',q1,q2,q3,q4,q5⟩:=h.kids p hp;refine ⟨lo',hi',q1,Nat.le_trans q2 hs2,λj e=>?_,q4,hkeep _ _ _ _ q3 q4 q5⟩;rcases hv with hv | hv
   ·exact q3 j (by rw [<-hv];exact e)
   ·rw [hv] at e;cases e;exact Or.inr q2
  ·simp only [List.mem_singleton] at hp;subst hp;refine ⟨lo,hi,h1,Nat.le_trans h2 hs2,λj e=>?_,h4,hkeep _ _ _ _ (λj e=>Or.inl (h3 j e)) h4 hk⟩;rcases hv with hv | hv
   ·exact Or.inl (h3 j (by rw [<-hv];exact e))
   ·rw [hv] at e;cases e;exact Or.inr h2
