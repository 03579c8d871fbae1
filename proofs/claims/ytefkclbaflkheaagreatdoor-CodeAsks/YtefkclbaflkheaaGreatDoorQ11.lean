/- KHtE, KWalkL, KWalkM, KWalkN, KPt. -/
import Derived.Test.YtefkclbaflkheaaGreatDoorQ10
import Derived.Laws.OwnMore
import Derived.Maps.AppendAt
set_option maxHeartbeats 4000000
set_option maxRecDepth 100000
namespace Go.Proofs.YtefkclbaflkheaaGreatDoor
open Tryz
open Go.RowKit
set_option linter.unusedVariables false
variable {w w' w1:World} {v:Value} {S:List Nat} {ops:Array Oper} {rest:List Oper} {a:Act} {Q:Exit->Act->World->Prop} {B lo hi k:Nat} {A:List (Wt.Nd × Value)} {F:List (Nat × Int)} {x:Wc.In} {P:Program} {fn:Func} {t:Tmp} {op:Oper}
def zMf (r:Option (Nat × List (Nat × Int))) (b mb:Nat) (lv:Value) (w:World) (e:Ending) (w':World):Prop:=match r with
 | some (k,F2)=>e=.returned (.tuple #[.int .i64 (k:Int),.bool true])/\BPost b mb lv w w' F2
 | none=>∃ z:Int,e=.returned (.tuple #[.int .i64 z,.bool false])/\Fr (b::mb::lv.ownBlock.toList) w w'
theorem zC4 {m:Nat} (h:m ≠ 0):zCy F m=F.getD (m - 1) (0,0):=if_neg h
def zCz (x:Wc.In):Prop:=∀ (tv:Value) (b mb:Nat) (lv:Value) (F:List (Nat × Int)) (m:Nat) (w:World),FS w b mb lv F->m<=F.length->F.length<=1000000->Calls prog 100 #[.pointer (some ⟨b,1,none⟩),inV x tv,.int .i64 (m:Int)] w λe w'=>zMf (Wc.behF F x.op x.a m) b mb lv w e w'
theorem zLa (h:x.op=16):zCz x:=by
 intro tv b mb lv F m w hfs hm hlF;refine (zHJ x tv b mb lv F m w hfs hm hlF h).mono ?_;rintro e w' ⟨rfl,hb⟩;by_cases h0:m=0
 ·rw [show Wc.behF F x.op x.a m=some (m,F) from by simp [Wc.behF,h,h0]];exact ⟨by simp [h0],BPost.of_below hfs hb⟩
 ·rw [show Wc.behF F x.op x.a m=none from by simp [Wc.behF,h,h0]];exact ⟨_,by simp [h0];rfl,Fr.of_below _ hb⟩
theorem zKk (h:x.op ≠ 6/\x.op ≠ 7/\x.op ≠ 8/\x.op ≠ 9/\x.op ≠ 10/\x.op ≠ 16):zCz x:=by
 intro tv b mb lv F m w hfs hm hlF;refine (zIS x tv b mb lv F m w hfs hm hlF h).mono ?_;rintro e w' ⟨rfl,hb⟩;obtain ⟨n1,n2,n3,n4,n5,n6⟩:=h;rw [show Wc.behF F x.op x.a m=some (m,F) from by simp [Wc.behF,n1,n2,n3,n4,n5,n6]];exact ⟨rfl,BPost.of_below hfs hb⟩
theorem zEu (x:Wc.In) (tv:Value) (b mb:Nat) (lv:Value) (F:List (Nat × Int)) (m:Nat) (w:World) (hfs:FS w b mb lv F) (hm:m<=F.length) (hlF:F.length<=1000000) :
  Calls prog 100 #[.pointer (some ⟨b,1,none⟩),inV x tv,.int .i64 (m:Int)] w λe w'=>zMf (Wc.behF F x.op x.a m) b mb lv w e w':=by
 rcases Wc.ops17 x.op with h | h | h | h | h | h | h
 ·refine (zIJ x tv b mb lv F m w hfs hm hlF h).mono ?_;rintro e w' ⟨k,F2,h1,h2,h3⟩;rw [h,h1];exact ⟨h2,h3⟩
 ·refine (zHr x tv b mb lv F m w hfs hm hlF h).mono ?_;rintro e w' ⟨rfl,hb⟩;by_cases h0:m=0
  ·rw [show Wc.behF F x.op x.a m=none from by simp [Wc.behF,h,h0]];exact ⟨_,by simp [h0];rfl,Fr.of_below _ hb⟩
  ·rw [show Wc.behF F x.op x.a m=some (m,F) from by simp [Wc.behF,h,h0]];exact ⟨by simp [h0],BPost.of_below hfs hb⟩
 ·refine (zIE x tv b mb lv F m w hfs hm hlF h).mono ?_;rintro e w' ⟨rfl,hb⟩;by_cases h0:m=0
  ·rw [show Wc.behF F x.op x.a m=none from by simp [Wc.behF,h,h0]];exact ⟨_,by simp [h0];rfl,Fr.of_below _ hb⟩
  ·rw [zC4 h0];cases hp:Wc.pairs (F.getD (m - 1) (0,0)).2 with
   | true =>
    rw [show Wc.behF F x.op x.a m=none from by simp only [Wc.behF,h,hp];simp];exact ⟨_,by simp;rfl,Fr.of_below _ hb⟩
   | false =>
    rw [show Wc.behF F x.op x.a m=some (m,F) from by simp only [Wc.behF,h,hp];simp [h0]];exact ⟨by simp [h0],BPost.of_below hfs hb⟩
 ·refine (zIT x tv b mb lv F m w hfs hm hlF h).mono ?_;rintro e w' ⟨rfl,hb⟩;by_cases h0:m=0
  ·rw [show Wc.behF F x.op x.a m=none from by simp [Wc.behF,h,h0]];exact ⟨_,by simp [h0];rfl,Fr.of_below _ hb⟩
  ·rw [zC4 h0];cases hp:Wc.pairs (F.getD (m - 1) (0,0)).2 with
   | false =>
    rw [show Wc.behF F x.op x.a m=none from by simp only [Wc.behF,h,hp];simp];exact ⟨_,by simp;rfl,Fr.of_below _ hb⟩
   | true =>
    rw [show Wc.behF F x.op x.a m=some (m,F) from by simp only [Wc.behF,h,hp];simp [h0]];exact ⟨by simp [h0],BPost.of_below hfs hb⟩
 ·refine (zFu x tv b mb lv F m w hfs hm hlF h).mono ?_;rintro e w' ⟨rfl,hb⟩;by_cases h0:m=0
  ·rw [show Wc.behF F x.op x.a m=none from by simp [Wc.behF,h,h0]];exact ⟨_,by simp [h0];rfl,Fr.of_below _ hb⟩
  ·rw [zC4 h0,show Wc.behF F x.op x.a m=some ((F.getD (m - 1) (0,0)).1,F) from by simp [Wc.behF,h,h0]];exact ⟨by simp [h0],BPost.of_below hfs hb⟩
 ·exact zLa h tv b mb lv F m w hfs hm hlF
 ·exact zKk h tv b mb lv F m w hfs hm hlF
theorem zJl (x:Wc.In):zCz x:=λtv b mb lv F m w hfs hm hlF=>zEu x tv b mb lv F m w hfs hm hlF
def zE4 (F:List (Nat × Int)) (x:Wc.In) (v:Int) (m:Nat):Option ((Int × Nat) × List (Nat × Int)):=match Wc.behF F x.op x.a m with
 | none=>none
 | some (m2,F2)=>if v<(Wc.swO x.op x.b).1 \/ (x.op=16/\(Wc.swO x.op x.b).1<v) then none else some ((v - (Wc.swO x.op x.b).1+(Wc.swO x.op x.b).2,m2),F2)
def zKV (o:Int) (r:Option (Nat × List (Nat × Int))) (v o1 o2:Int):Option ((Int × Nat) × List (Nat × Int)):=match r with
 | none=>none
 | some (m2,F2)=>if v<o1 \/ (o=16/\o1<v) then none else some ((v - o1+o2,m2),F2)
def zKH (r:Option ((Int × Nat) × List (Nat × Int))) (b mb:Nat) (lv:Value) (w:World) (e:Ending) (w':World):Prop:=match r with
 | some ((v,k),F2)=>e=.returned (.tuple #[.agg #[.int .i64 v,.int .i64 (k:Int)],.bool true])/\BPost b mb lv w w' F2
 | none=>e=.returned (.tuple #[.agg #[.int .i64 0,.int .i64 0],.bool false])/\Fr (b::mb::lv.ownBlock.toList) w w'
theorem AtL.fr {l:List Value} (h:AtL w k l) (hf:Fr S w w') (hn:k ∉ S):AtL w' k l :=
 ⟨Nat.lt_of_lt_of_le h.1 hf.size,λi v hv=>hf.cell (h.2.1 i v hv) hn,λi hi=>by rw [hf.frozen h.1 hn];exact h.2.2 i hi⟩
theorem BPost.set {b mb:Nat} {lv:Value} (h:BPost b mb lv w w1 F) {k:Nat} (hk:w.heap.size<=k) (hb:b<w.heap.size) (hty:∃ c f,w1.heap[k]? = some (.cells c 130 f)) (i:Nat) (v:Value):BPost b mb lv w (w1.setCell ⟨k,i,none⟩ v) F/\∃ c f,(w1.setCell ⟨k,i,none⟩ v).heap[k]? = some (.cells c 130 f):=by
 obtain ⟨c,f,hty⟩:=hty;obtain ⟨⟨lv',h1⟩,h2,h3⟩:=h;have fr:Fr [k] w1 (w1.setCell ⟨k,i,none⟩ v):=Fr.of_grown (zAL _ _ _ _) (λj e=>by cases e;simp);have hlt:=h1.lt;refine ⟨⟨⟨lv',h1.fr fr (by simp;omega) (by simp;omega) (λg e hg=>?_)⟩,h2.new fr (λj hj=>by simp at hj;subst hj;exact Or.inr hk),λu hu=>fr.cell (h3 u hu) (by simp;omega)⟩,?_⟩
 ·simp at hg;subst hg;rcases h1.own.2 with ⟨q,_⟩ | ⟨g',cap,cur,q,_,q2,_⟩
  ·rw [q] at e;cases e
  ·rw [q] at e;have e2:g'=g:=by simpa [Value.ownBlock] using e
   subst e2;rw [hty] at q2;cases q2
 ·refine ⟨c.setIfInBounds i v,f,?_⟩;simp [World.setCell,Array.getElem?_modify,hty]
theorem zAq (w:World) (o:Obj) (k:Nat) (h:k=w.heap.size):(w.alloc o).heap[k]? = some o:=by
 subst h;exact Array.getElem?_push_size
theorem zEr (x:Wc.In) (tv:Value) (b mb:Nat) (lv:Value) (F:List (Nat × Int)) (m:Nat) (v:Int) (w:World) (hfs:FS w b mb lv F) (hm:m<=F.length) (hlF:F.length<=1000000) (hv:0<=v/\v<=100000000) (hsw:-1000<=(Wc.swO x.op x.b).1/\(Wc.swO x.op x.b).1<=1000/\0<=(Wc.swO x.op x.b).2/\(Wc.swO x.op x.b).2<=1) (hBI:zCz x) :
  Calls prog 65 #[.pointer (some ⟨b,1,none⟩),inV x tv,.agg #[.int .i64 v,.int .i64 (m:Int)]] w λe w'=>zKH (zE4 F x v m) b mb lv w e w':=by
 have pI:AtL (((w.alloc (.cells (zAD x tv).toArray 56)).alloc (.cells #[.int .i64 v,.int .i64 (m:Int)] 130)).alloc (.cells #[.int .i64 0,.int .i64 0] 130)) w.heap.size (zAD x tv):=((AtL.new0 w _ _).alloc _).alloc _;have pH:AtL (((w.alloc (.cells (zAD x tv).toArray 56)).alloc (.cells #[.int .i64 v,.int .i64 (m:Int)] 130)).alloc (.cells #[.int .i64 0,.int .i64 0] 130)) (w.heap.size+1) [.int .i64 v,.int .i64 (m:Int)]:=(AtL.new1 w _ _ _).alloc _;have pR:AtL (((w.alloc (.cells (zAD x tv).toArray 56)).alloc (.cells #[.int .i64 v,.int .i64 (m:Int)] 130)).alloc (.cells #[.int .i64 0,.int .i64 0] 130)) (w.heap.size+1+1) [.int .i64 0,.int .i64 0]:=AtL.new _ _ (by simp only [World.size_alloc]) _;have tR:((((w.alloc (.cells (zAD x tv).toArray 56)).alloc (.cells #[.int .i64 v,.int .i64 (m:Int)] 130)).alloc (.cells #[.int .i64 0,.int .i64 0] 130))).heap[w.heap.size+1+1]? = some (.cells #[.int .i64 0,.int .i64 0] 130 (0,0)):=zAq _ _ _ (by simp only [World.size_alloc]);have hB:Below w.heap.size w ((((w.alloc (.cells (zAD x tv).toArray 56)).alloc (.cells #[.int .i64 v,.int .i64 (m:Int)] 130)).alloc (.cells #[.int .i64 0,.int .i64 0] 130))):=zAK (zAK (zAK (Below.refl _ w) _) _) _;have SW:=λw=>zEz x tv w
 have BH:=λw1 (hb:Below w.heap.size w w1)=>hBI tv b mb lv F m w1 (hfs.below hb) hm hlF
 clear hBI;have HG:Hid (∀ k,k ∈ b::mb::lv.ownBlock.toList->k<w.heap.size):=by
  intro k hk;have h1:=zAV hfs.hd;have h2:=hfs.lt;simp only [List.mem_cons,Option.mem_toList] at hk;rcases hk with rfl | rfl | hk
  ·exact h1
  ·omega
  ·exact (zAT hfs.own hk).2
 have HB:Hid (b<w.heap.size):=zAV hfs.hd;obtain ⟨o1,ho1⟩:∃ o,(Wc.swO x.op x.b).1=o:=⟨_,rfl⟩
 obtain ⟨o2,ho2⟩:∃ o,(Wc.swO x.op x.b).2=o:=⟨_,rfl⟩
 obtain ⟨r,hr⟩:∃ r,Wc.behF F x.op x.a m=r:=⟨_,rfl⟩
 have hce:zE4 F x v m=zKV x.op r v o1 o2:=by rw [<-ho1,<-ho2,<-hr];rfl
 rw [hce];rw [ho1,ho2] at hsw;rw [hr] at BH;have SW2:∀ w:World,CR 99 #[inV x tv] w (.tuple #[.int .i64 o1,.int .i64 o2]):=λw=>by rw [<-ho1,<-ho2];exact SW w
 have wa:IntKind.i64.wrap (v - o1)=v - o1:=by rw [IntKind.wrap_i64];omega
 have wb:IntKind.i64.wrap (v - o1+o2)=v - o1+o2:=by rw [IntKind.wrap_i64];omega
 clear hce ho1 ho2 hr SW hfs hm hlF hv hsw;go_enter func65,ntmps65;go_upto_region 1 with fail
 generalize (((w.alloc (.cells (zAD x tv).toArray 56)).alloc (.cells #[.int .i64 v,.int .i64 (m:Int)] 130)).alloc (.cells #[.int .i64 0,.int .i64 0] 130))=W at *;have rI:=pI.range;go_wp2_with (first | (refine zAA (by rfl) 56 (.tmp 4) rfl w.heap.size 0 rfl (zAD x tv) _ rI underlying56 rfl (by kernel_rfl) ?_))
 refine (SW2 _).mono ?_;rintro e w1 ⟨rfl,hb1⟩;replace pI:=AtL.below hb1 pI
 replace pH:=AtL.below hb1 pH
 replace tR:=(hb1.block _ pR.1).trans tR
 replace pR:=AtL.below hb1 pR
 replace hB:=zAB hB hb1
 have BH1:=BH w1 hB;clear rI hb1 SW2 BH;have rI:=pI.range;have h0:=pH.2.1 0 _ rfl;have h1:=pH.2.1 1 _ rfl;go_wp2_with (first | (refine zAA (by rfl) 56 (.tmp 4) rfl w.heap.size 0 rfl (zAD x tv) _ rI underlying56 rfl (by kernel_rfl) ?_))
 refine BH1.mono ?_;intro e w2 hP;clear rI BH1;have nI:w.heap.size ∉ b::mb::lv.ownBlock.toList:=λe=>by have:=HG.out _ e;omega
 have nH:w.heap.size+1 ∉ b::mb::lv.ownBlock.toList:=λe=>by have:=HG.out _ e;omega
 have nR:w.heap.size+1+1 ∉ b::mb::lv.ownBlock.toList:=λe=>by have:=HG.out _ e;omega
 have f2:Fr (b::mb::lv.ownBlock.toList) w1 w2:=by
  cases r with
  | none =>
   obtain ⟨_,_,h⟩:=hP;exact h
  | some q =>
   obtain ⟨_,_,h,_⟩:=hP;exact h
 replace pI:=pI.fr f2 nI
 replace pH:=pH.fr f2 nH
 have t2:w2.heap[w.heap.size+1+1]? = some (.cells #[.int .i64 0,.int .i64 0] 130 (0,0)):=by rw [f2.block _ pR.1 nR];exact tR
 replace pR:=pR.fr f2 nR
 have i0:=pI.2.1 0 _ rfl;clear h0 h1 tR;have h0:=pH.2.1 0 _ rfl;have h1:=pH.2.1 1 _ rfl;have r0:=pR.2.1 0 _ rfl;have r1:=pR.2.1 1 _ rfl;have z0:=pR.2.2 0 (by decide);have z1:=pR.2.2 1 (by decide);cases r with
 | none =>
  obtain ⟨z,rfl,hf⟩:=hP;have FB:=(Fr.of_below (b::mb::lv.ownBlock.toList) hB).trans hf;have F3:Fr (b::mb::lv.ownBlock.toList) w ((w2.setCell ⟨w.heap.size+1+1,0,none⟩ (.int .i64 0)).setCell ⟨w.heap.size+1+1,1,none⟩ (.int .i64 0)):=(FB.new (Fr.of_grown (zAL _ _ _ _) (λj e=>by cases e;exact List.mem_singleton.2 rfl)) (λj hj=>by simp at hj;omega)).new (Fr.of_grown (zAL _ _ _ _) (λj e=>by cases e;exact List.mem_singleton.2 rfl)) (λj hj=>by simp at hj;omega);clear hf f2 hB;go_upto_region 4 with fail
  go_wp2;have q0:((w2.setCell ⟨w.heap.size+1+1,0,none⟩ (.int .i64 0)).setCell ⟨w.heap.size+1+1,1,none⟩ (.int .i64 0)).cell? ⟨w.heap.size+1+1,0,none⟩=some (.int .i64 0):=by rw [zAM _ _ _ (by decide)];exact zAQ r0 _
  have q1:((w2.setCell ⟨w.heap.size+1+1,0,none⟩ (.int .i64 0)).setCell ⟨w.heap.size+1+1,1,none⟩ (.int .i64 0)).cell? ⟨w.heap.size+1+1,1,none⟩=some (.int .i64 0):=zAQ (by rw [zAM _ _ _ (by decide)];exact r1) _;refine bodyPost_ret (v:=.tuple #[.agg #[.int .i64 0,.int .i64 0],.bool false]) (by simp [results,results65,go_sem,q0,q1]) rfl ?_;exact ⟨rfl,F3⟩
 | some q =>
  obtain ⟨k,F2⟩:=q;obtain ⟨rfl,hP⟩:=hP;have PB:=BPost.front hB hP;have P1:=PB.set (k:=w.heap.size+1+1) (by omega) HB.out ⟨_,_,t2⟩ 0 (.int .i64 (v - o1+o2));have P2:=P1.1.set (by omega) HB.out P1.2 1 (.int .i64 (k:Int));have FB:=PB.2.1;have F3:Fr (b::mb::lv.ownBlock.toList) w ((w2.setCell ⟨w.heap.size+1+1,0,none⟩ (.int .i64 0)).setCell ⟨w.heap.size+1+1,1,none⟩ (.int .i64 0)):=(FB.new (Fr.of_grown (zAL _ _ _ _) (λj e=>by cases e;exact List.mem_singleton.2 rfl)) (λj hj=>by simp at hj;omega)).new (Fr.of_grown (zAL _ _ _ _) (λj e=>by cases e;exact List.mem_singleton.2 rfl)) (λj hj=>by simp at hj;omega);have HP2:Hid (BPost b mb lv w ((w2.setCell ⟨w.heap.size+1+1,0,none⟩ (.int .i64 (v - o1+o2))).setCell ⟨w.heap.size+1+1,1,none⟩ (.int .i64 (k:Int))) F2):=P2.1;clear hP f2 hB PB P1 P2 FB t2;have NO:∀ (hc:v<o1 \/ (x.op=16/\o1<v)),zKV x.op (some (k,F2)) v o1 o2=none:=λhc=>if_pos hc
  have YES:∀ (hc:¬ (v<o1 \/ (x.op=16/\o1<v))),zKV x.op (some (k,F2)) v o1 o2=some ((v - o1+o2,k),F2):=λhc=>if_neg hc
  have q0:((w2.setCell ⟨w.heap.size+1+1,0,none⟩ (.int .i64 0)).setCell ⟨w.heap.size+1+1,1,none⟩ (.int .i64 0)).cell? ⟨w.heap.size+1+1,0,none⟩=some (.int .i64 0):=by rw [zAM _ _ _ (by decide)];exact zAQ r0 _
  have q1:((w2.setCell ⟨w.heap.size+1+1,0,none⟩ (.int .i64 0)).setCell ⟨w.heap.size+1+1,1,none⟩ (.int .i64 0)).cell? ⟨w.heap.size+1+1,1,none⟩=some (.int .i64 0):=zAQ (by rw [zAM _ _ _ (by decide)];exact r1) _;have Q0:Hid _:=q0;have Q1:Hid _:=q1;clear q0 q1;by_cases c1:v<o1
  ·go_upto_region 4 with fail
   go_wp2;refine bodyPost_ret (v:=.tuple #[.agg #[.int .i64 0,.int .i64 0],.bool false]) (by have q0:=Q0.out;have q1:=Q1.out;simp [results,results65,go_sem,q0,q1]) rfl ?_;show zKH (zKV x.op (some (k,F2)) v o1 o2) b mb lv w _ _
   rw [NO (Or.inl c1)];exact ⟨rfl,F3⟩
  ·by_cases c2:x.op=16
   ·by_cases c3:o1<v
    ·go_upto_region 4 with fail
     go_wp2;refine bodyPost_ret (v:=.tuple #[.agg #[.int .i64 0,.int .i64 0],.bool false]) (by have q0:=Q0.out;have q1:=Q1.out;simp [results,results65,go_sem,q0,q1]) rfl ?_;show zKH (zKV x.op (some (k,F2)) v o1 o2) b mb lv w _ _
     rw [NO (Or.inr ⟨c2,c3⟩)];exact ⟨rfl,F3⟩
    ·go_wp2;have d0:((w2.setCell ⟨w.heap.size+1+1,0,none⟩ (.int .i64 (v - o1+o2))).setCell ⟨w.heap.size+1+1,1,none⟩ (.int .i64 (k:Int))).cell? ⟨w.heap.size+1+1,0,none⟩=some (.int .i64 (v - o1+o2)):=by rw [zAM _ _ _ (by decide)];exact zAQ r0 _
     have d1:((w2.setCell ⟨w.heap.size+1+1,0,none⟩ (.int .i64 (v - o1+o2))).setCell ⟨w.heap.size+1+1,1,none⟩ (.int .i64 (k:Int))).cell? ⟨w.heap.size+1+1,1,none⟩=some (.int .i64 (k:Int)):=zAQ (by rw [zAM _ _ _ (by decide)];exact r1) _;refine bodyPost_ret (v:=.tuple #[.agg #[.int .i64 (v - o1+o2),.int .i64 (k:Int)],.bool true]) (by simp [results,results65,go_sem,d0,d1]) rfl ?_;show zKH (zKV x.op (some (k,F2)) v o1 o2) b mb lv w _ _
     rw [YES (by omega)];exact ⟨rfl,HP2.out⟩
   ·go_wp2;have d0:((w2.setCell ⟨w.heap.size+1+1,0,none⟩ (.int .i64 (v - o1+o2))).setCell ⟨w.heap.size+1+1,1,none⟩ (.int .i64 (k:Int))).cell? ⟨w.heap.size+1+1,0,none⟩=some (.int .i64 (v - o1+o2)):=by rw [zAM _ _ _ (by decide)];exact zAQ r0 _
    have d1:((w2.setCell ⟨w.heap.size+1+1,0,none⟩ (.int .i64 (v - o1+o2))).setCell ⟨w.heap.size+1+1,1,none⟩ (.int .i64 (k:Int))).cell? ⟨w.heap.size+1+1,1,none⟩=some (.int .i64 (k:Int)):=zAQ (by rw [zAM _ _ _ (by decide)];exact r1) _;refine bodyPost_ret (v:=.tuple #[.agg #[.int .i64 (v - o1+o2),.int .i64 (k:Int)],.bool true]) (by simp [results,results65,go_sem,d0,d1]) rfl ?_;show zKH (zKV x.op (some (k,F2)) v o1 o2) b mb lv w _ _
    rw [YES (by omega)];exact ⟨rfl,HP2.out⟩
theorem zLd (l:List Int) (v1 v2:Value) (w:World) (h1:RdZ w v1 l) (h2:RdZ w v2 l) (hl:l.length<=1000000) :
  CR 60 #[v1,v2] w (.bool true):=by
 obtain ⟨a1,c1,rfl,r1⟩:=h1;obtain ⟨a2,c2,rfl,r2⟩:=h2;have H1:Hid (∀ i (h:i<l.length),∃ bb off,a1=some ⟨bb,off,none⟩/\w.cell? ⟨bb,off+i,none⟩=some (.int .i64 (l[i]))):=r1;have H2:Hid (∀ i (h:i<l.length),∃ bb off,a2=some ⟨bb,off,none⟩/\w.cell? ⟨bb,off+i,none⟩=some (.int .i64 (l[i]))):=r2;obtain ⟨n,hn⟩:∃ n,l.length=n:=⟨_,rfl⟩
 rw [hn] at hl ⊢;clear r1 r2;go_enter func60,ntmps60;go_wp2_with fail
 go_loopg [5] n (λgk x wr=>∃ i:Nat,x=.int .i64 i/\gk=n - i/\i<=n/\Below w.heap.size w wr)
 case atStart=>exact ⟨0,rfl,rfl,Nat.zero_le _,Below.refl _ _⟩
 case round =>
  obtain ⟨i,rfl,hg,hi,hb⟩:=hrel;by_cases hlt:i<n
  ·have hli:(i:Int)<(n:Int):=by omega
   have hwi:IntKind.i64.wrap ((i:Int)+1)=(i:Int)+1:=by rw [IntKind.wrap_i64];omega
   obtain ⟨b1,o1,rfl,q1⟩:=H1.out i (by omega);obtain ⟨b2,o2,rfl,q2⟩:=H2.out i (by omega);have d1:=zAC hb q1;have d2:=zAC hb q2;generalize l[i]=x at d1 d2;clear q1 q2;go_upto_region 6 with fail
   go_quiet (fail)
   go_wp2_with fail
   go_roundg (n - (i+1))
   case rel=>exact ⟨i+1,by simp,rfl,hlt,(clB hb)⟩
   case measure=>omega
  ·have hli:¬ (i:Int)<(n:Int):=by omega
   go_wp2;go_ret;exact ⟨rfl,hb⟩
theorem zMW (x:Wc.In) (tl:List Int) (a1 a2:Option Addr) (n1 n2 c1 c2:Nat) (w:World) (h1:RdZ w (.slice a1 n1 c1) tl) (h2:RdZ w (.slice a2 n2 c2) tl) (hl:tl.length<=1000000) :
  CR 34 #[inV x (.slice a1 n1 c1),inV x (.slice a2 n2 c2)] w (.bool true):=by
 have pA:=(AtL.new0 w 56 (zAD x (.slice a1 n1 c1))).alloc (.cells (zAD x (.slice a2 n2 c2)).toArray 56);have pB:=AtL.new1 w (.cells (zAD x (.slice a1 n1 c1)).toArray 56) 56 (zAD x (.slice a2 n2 c2));have hB:=zAK (zAK (Below.refl _ w) (.cells (zAD x (.slice a1 n1 c1)).toArray 56)) (.cells (zAD x (.slice a2 n2 c2)).toArray 56);have IZ:=λw h1 h2=>zLd tl (.slice a1 n1 c1) (.slice a2 n2 c2) w h1 h2 hl
 have g1:=h1.below hB;have g2:=h2.below hB;have e0:((w.alloc (.cells (zAD x (.slice a1 n1 c1)).toArray 56)).alloc (.cells (zAD x (.slice a2 n2 c2)).toArray 56)).cell? ⟨w.heap.size,0,none⟩=some (.int .i64 x.op):=pA.2.1 0 _ rfl;have d0:((w.alloc (.cells (zAD x (.slice a1 n1 c1)).toArray 56)).alloc (.cells (zAD x (.slice a2 n2 c2)).toArray 56)).cell? ⟨w.heap.size+1,0,none⟩=some (.int .i64 x.op):=pB.2.1 0 _ rfl;have e1:((w.alloc (.cells (zAD x (.slice a1 n1 c1)).toArray 56)).alloc (.cells (zAD x (.slice a2 n2 c2)).toArray 56)).cell? ⟨w.heap.size,1,none⟩=some (.int .i64 x.a):=pA.2.1 1 _ rfl;have d1:((w.alloc (.cells (zAD x (.slice a1 n1 c1)).toArray 56)).alloc (.cells (zAD x (.slice a2 n2 c2)).toArray 56)).cell? ⟨w.heap.size+1,1,none⟩=some (.int .i64 x.a):=pB.2.1 1 _ rfl;have e2:((w.alloc (.cells (zAD x (.slice a1 n1 c1)).toArray 56)).alloc (.cells (zAD x (.slice a2 n2 c2)).toArray 56)).cell? ⟨w.heap.size,2,none⟩=some (.int .i64 x.b):=pA.2.1 2 _ rfl;have d2:((w.alloc (.cells (zAD x (.slice a1 n1 c1)).toArray 56)).alloc (.cells (zAD x (.slice a2 n2 c2)).toArray 56)).cell? ⟨w.heap.size+1,2,none⟩=some (.int .i64 x.b):=pB.2.1 2 _ rfl;have e3:((w.alloc (.cells (zAD x (.slice a1 n1 c1)).toArray 56)).alloc (.cells (zAD x (.slice a2 n2 c2)).toArray 56)).cell? ⟨w.heap.size,3,none⟩=some (.int .i64 x.v.k):=pA.2.1 3 _ rfl;have d3:((w.alloc (.cells (zAD x (.slice a1 n1 c1)).toArray 56)).alloc (.cells (zAD x (.slice a2 n2 c2)).toArray 56)).cell? ⟨w.heap.size+1,3,none⟩=some (.int .i64 x.v.k):=pB.2.1 3 _ rfl
 have e4:((w.alloc (.cells (zAD x (.slice a1 n1 c1)).toArray 56)).alloc (.cells (zAD x (.slice a2 n2 c2)).toArray 56)).cell? ⟨w.heap.size,4,none⟩=some (.int .i64 x.v.n):=pA.2.1 4 _ rfl;have d4:((w.alloc (.cells (zAD x (.slice a1 n1 c1)).toArray 56)).alloc (.cells (zAD x (.slice a2 n2 c2)).toArray 56)).cell? ⟨w.heap.size+1,4,none⟩=some (.int .i64 x.v.n):=pB.2.1 4 _ rfl;have e5:((w.alloc (.cells (zAD x (.slice a1 n1 c1)).toArray 56)).alloc (.cells (zAD x (.slice a2 n2 c2)).toArray 56)).cell? ⟨w.heap.size,5,none⟩=some (.int .i64 x.v.d):=pA.2.1 5 _ rfl;have d5:((w.alloc (.cells (zAD x (.slice a1 n1 c1)).toArray 56)).alloc (.cells (zAD x (.slice a2 n2 c2)).toArray 56)).cell? ⟨w.heap.size+1,5,none⟩=some (.int .i64 x.v.d):=pB.2.1 5 _ rfl;have e6:((w.alloc (.cells (zAD x (.slice a1 n1 c1)).toArray 56)).alloc (.cells (zAD x (.slice a2 n2 c2)).toArray 56)).cell? ⟨w.heap.size,6,none⟩=some (.string x.v.t):=pA.2.1 6 _ rfl;have d6:((w.alloc (.cells (zAD x (.slice a1 n1 c1)).toArray 56)).alloc (.cells (zAD x (.slice a2 n2 c2)).toArray 56)).cell? ⟨w.heap.size+1,6,none⟩=some (.string x.v.t):=pB.2.1 6 _ rfl;have e7:((w.alloc (.cells (zAD x (.slice a1 n1 c1)).toArray 56)).alloc (.cells (zAD x (.slice a2 n2 c2)).toArray 56)).cell? ⟨w.heap.size,7,none⟩=some (.bool x.v.b):=pA.2.1 7 _ rfl;have d7:((w.alloc (.cells (zAD x (.slice a1 n1 c1)).toArray 56)).alloc (.cells (zAD x (.slice a2 n2 c2)).toArray 56)).cell? ⟨w.heap.size+1,7,none⟩=some (.bool x.v.b):=pB.2.1 7 _ rfl
 have e8:((w.alloc (.cells (zAD x (.slice a1 n1 c1)).toArray 56)).alloc (.cells (zAD x (.slice a2 n2 c2)).toArray 56)).cell? ⟨w.heap.size,8,none⟩=some (.int .i64 x.v.f):=pA.2.1 8 _ rfl;have d8:((w.alloc (.cells (zAD x (.slice a1 n1 c1)).toArray 56)).alloc (.cells (zAD x (.slice a2 n2 c2)).toArray 56)).cell? ⟨w.heap.size+1,8,none⟩=some (.int .i64 x.v.f):=pB.2.1 8 _ rfl;have e9:((w.alloc (.cells (zAD x (.slice a1 n1 c1)).toArray 56)).alloc (.cells (zAD x (.slice a2 n2 c2)).toArray 56)).cell? ⟨w.heap.size,9,none⟩=some (.int .i64 x.ce.s):=pA.2.1 9 _ rfl;have d9:((w.alloc (.cells (zAD x (.slice a1 n1 c1)).toArray 56)).alloc (.cells (zAD x (.slice a2 n2 c2)).toArray 56)).cell? ⟨w.heap.size+1,9,none⟩=some (.int .i64 x.ce.s):=pB.2.1 9 _ rfl;have e10:((w.alloc (.cells (zAD x (.slice a1 n1 c1)).toArray 56)).alloc (.cells (zAD x (.slice a2 n2 c2)).toArray 56)).cell? ⟨w.heap.size,10,none⟩=some (.int .i64 x.ce.r):=pA.2.1 10 _ rfl;have d10:((w.alloc (.cells (zAD x (.slice a1 n1 c1)).toArray 56)).alloc (.cells (zAD x (.slice a2 n2 c2)).toArray 56)).cell? ⟨w.heap.size+1,10,none⟩=some (.int .i64 x.ce.r):=pB.2.1 10 _ rfl;have e11:((w.alloc (.cells (zAD x (.slice a1 n1 c1)).toArray 56)).alloc (.cells (zAD x (.slice a2 n2 c2)).toArray 56)).cell? ⟨w.heap.size,11,none⟩=some (.int .i64 x.ce.c):=pA.2.1 11 _ rfl;have d11:((w.alloc (.cells (zAD x (.slice a1 n1 c1)).toArray 56)).alloc (.cells (zAD x (.slice a2 n2 c2)).toArray 56)).cell? ⟨w.heap.size+1,11,none⟩=some (.int .i64 x.ce.c):=pB.2.1 11 _ rfl
 have e12:((w.alloc (.cells (zAD x (.slice a1 n1 c1)).toArray 56)).alloc (.cells (zAD x (.slice a2 n2 c2)).toArray 56)).cell? ⟨w.heap.size,12,none⟩=some (.int .i64 x.ar.s):=pA.2.1 12 _ rfl;have d12:((w.alloc (.cells (zAD x (.slice a1 n1 c1)).toArray 56)).alloc (.cells (zAD x (.slice a2 n2 c2)).toArray 56)).cell? ⟨w.heap.size+1,12,none⟩=some (.int .i64 x.ar.s):=pB.2.1 12 _ rfl;have e13:((w.alloc (.cells (zAD x (.slice a1 n1 c1)).toArray 56)).alloc (.cells (zAD x (.slice a2 n2 c2)).toArray 56)).cell? ⟨w.heap.size,13,none⟩=some (.int .i64 x.ar.t):=pA.2.1 13 _ rfl;have d13:((w.alloc (.cells (zAD x (.slice a1 n1 c1)).toArray 56)).alloc (.cells (zAD x (.slice a2 n2 c2)).toArray 56)).cell? ⟨w.heap.size+1,13,none⟩=some (.int .i64 x.ar.t):=pB.2.1 13 _ rfl;have e14:((w.alloc (.cells (zAD x (.slice a1 n1 c1)).toArray 56)).alloc (.cells (zAD x (.slice a2 n2 c2)).toArray 56)).cell? ⟨w.heap.size,14,none⟩=some (.int .i64 x.ar.l):=pA.2.1 14 _ rfl;have d14:((w.alloc (.cells (zAD x (.slice a1 n1 c1)).toArray 56)).alloc (.cells (zAD x (.slice a2 n2 c2)).toArray 56)).cell? ⟨w.heap.size+1,14,none⟩=some (.int .i64 x.ar.l):=pB.2.1 14 _ rfl;have e15:((w.alloc (.cells (zAD x (.slice a1 n1 c1)).toArray 56)).alloc (.cells (zAD x (.slice a2 n2 c2)).toArray 56)).cell? ⟨w.heap.size,15,none⟩=some (.int .i64 x.ar.b):=pA.2.1 15 _ rfl;have d15:((w.alloc (.cells (zAD x (.slice a1 n1 c1)).toArray 56)).alloc (.cells (zAD x (.slice a2 n2 c2)).toArray 56)).cell? ⟨w.heap.size+1,15,none⟩=some (.int .i64 x.ar.b):=pB.2.1 15 _ rfl
 have e16:((w.alloc (.cells (zAD x (.slice a1 n1 c1)).toArray 56)).alloc (.cells (zAD x (.slice a2 n2 c2)).toArray 56)).cell? ⟨w.heap.size,16,none⟩=some (.int .i64 x.ar.r):=pA.2.1 16 _ rfl;have d16:((w.alloc (.cells (zAD x (.slice a1 n1 c1)).toArray 56)).alloc (.cells (zAD x (.slice a2 n2 c2)).toArray 56)).cell? ⟨w.heap.size+1,16,none⟩=some (.int .i64 x.ar.r):=pB.2.1 16 _ rfl;have e17:((w.alloc (.cells (zAD x (.slice a1 n1 c1)).toArray 56)).alloc (.cells (zAD x (.slice a2 n2 c2)).toArray 56)).cell? ⟨w.heap.size,17,none⟩=some (.int .i64 x.pr.s):=pA.2.1 17 _ rfl;have d17:((w.alloc (.cells (zAD x (.slice a1 n1 c1)).toArray 56)).alloc (.cells (zAD x (.slice a2 n2 c2)).toArray 56)).cell? ⟨w.heap.size+1,17,none⟩=some (.int .i64 x.pr.s):=pB.2.1 17 _ rfl;have e18:((w.alloc (.cells (zAD x (.slice a1 n1 c1)).toArray 56)).alloc (.cells (zAD x (.slice a2 n2 c2)).toArray 56)).cell? ⟨w.heap.size,18,none⟩=some (.int .i64 x.pr.t):=pA.2.1 18 _ rfl;have d18:((w.alloc (.cells (zAD x (.slice a1 n1 c1)).toArray 56)).alloc (.cells (zAD x (.slice a2 n2 c2)).toArray 56)).cell? ⟨w.heap.size+1,18,none⟩=some (.int .i64 x.pr.t):=pB.2.1 18 _ rfl;have e19:((w.alloc (.cells (zAD x (.slice a1 n1 c1)).toArray 56)).alloc (.cells (zAD x (.slice a2 n2 c2)).toArray 56)).cell? ⟨w.heap.size,19,none⟩=some (.int .i64 x.pr.l):=pA.2.1 19 _ rfl;have d19:((w.alloc (.cells (zAD x (.slice a1 n1 c1)).toArray 56)).alloc (.cells (zAD x (.slice a2 n2 c2)).toArray 56)).cell? ⟨w.heap.size+1,19,none⟩=some (.int .i64 x.pr.l):=pB.2.1 19 _ rfl
 have e20:((w.alloc (.cells (zAD x (.slice a1 n1 c1)).toArray 56)).alloc (.cells (zAD x (.slice a2 n2 c2)).toArray 56)).cell? ⟨w.heap.size,20,none⟩=some (.int .i64 x.pr.b):=pA.2.1 20 _ rfl;have d20:((w.alloc (.cells (zAD x (.slice a1 n1 c1)).toArray 56)).alloc (.cells (zAD x (.slice a2 n2 c2)).toArray 56)).cell? ⟨w.heap.size+1,20,none⟩=some (.int .i64 x.pr.b):=pB.2.1 20 _ rfl;have e21:((w.alloc (.cells (zAD x (.slice a1 n1 c1)).toArray 56)).alloc (.cells (zAD x (.slice a2 n2 c2)).toArray 56)).cell? ⟨w.heap.size,21,none⟩=some (.int .i64 x.pr.r):=pA.2.1 21 _ rfl;have d21:((w.alloc (.cells (zAD x (.slice a1 n1 c1)).toArray 56)).alloc (.cells (zAD x (.slice a2 n2 c2)).toArray 56)).cell? ⟨w.heap.size+1,21,none⟩=some (.int .i64 x.pr.r):=pB.2.1 21 _ rfl;have e22:((w.alloc (.cells (zAD x (.slice a1 n1 c1)).toArray 56)).alloc (.cells (zAD x (.slice a2 n2 c2)).toArray 56)).cell? ⟨w.heap.size,22,none⟩=some (.slice a1 n1 c1):=pA.2.1 22 _ rfl;have d22:((w.alloc (.cells (zAD x (.slice a1 n1 c1)).toArray 56)).alloc (.cells (zAD x (.slice a2 n2 c2)).toArray 56)).cell? ⟨w.heap.size+1,22,none⟩=some (.slice a2 n2 c2):=pB.2.1 22 _ rfl;have Z:=IZ _ g1 g2;clear pA pB h1 h2 hl IZ g1 g2;go_enter func34,ntmps34;go_upto_region 1 with fail
 generalize ((w.alloc (.cells (zAD x (.slice a1 n1 c1)).toArray 56)).alloc (.cells (zAD x (.slice a2 n2 c2)).toArray 56))=W at *;go_wp2_with fail
 refine Z.mono ?_;rintro e w1 ⟨rfl,hb1⟩;have hB1:=zAB hB hb1;go_wp2;go_ret;exact ⟨by simp,hB1⟩
theorem zAI (hb:Below w.heap.size w w') {b o:Nat} {l:List Value} (h:w.rangeAt b o l):w'.rangeAt b o l:=λj v hv=>zAC hb (h j v hv)
def RdC (w:World) (v:Value) (L:List (Wc.In × List Int)):Prop:=∃ av cap,v=.slice av L.length cap/\∀ i (h:i<L.length),∃ bb off p m k,av=some ⟨bb,off,none⟩/\w.rangeAt bb (off+i * 23) (zAD (L[i]).1 (.slice p m k))/\RdZ w (.slice p m k) (L[i]).2/\(p=none->k=0)
theorem RdC.below {L:List (Wc.In × List Int)} (h:RdC w v L) (hb:Below w.heap.size w w'):RdC w' v L:=by
 obtain ⟨av,cap,e,h⟩:=h;refine ⟨av,cap,e,λi hi=>?_⟩;obtain ⟨bb,off,p,m,k,e1,h1,h2,h3⟩:=h i hi;exact ⟨bb,off,p,m,k,e1,zAI hb h1,h2.below hb,h3⟩
theorem zL2 (L:List (Wc.In × List Int)) (v1 v2:Value) (w:World) (h1:RdC w v1 L) (h2:RdC w v2 L) (hl:L.length<=1000000) (ht:∀ x ∈ L,x.2.length<=1000000) :
  CR 10 #[v1,v2] w (.bool true):=by
 obtain ⟨a1,c1,rfl,r1⟩:=h1;obtain ⟨a2,c2,rfl,r2⟩:=h2;have H1:Hid (RdC w (.slice a1 L.length c1) L):=⟨a1,c1,rfl,r1⟩
 have H2:Hid (RdC w (.slice a2 L.length c2) L):=⟨a2,c2,rfl,r2⟩
 have HT:Hid (∀ x ∈ L,x.2.length<=1000000):=ht;obtain ⟨n,hn⟩:∃ n,L.length=n:=⟨_,rfl⟩
 rw [hn] at hl ⊢;clear r1 r2 ht;go_enter func10,ntmps10;go_wp2_with fail
 go_loopg [5] n (λgk x wr=>∃ i:Nat,x=.int .i64 i/\gk=n - i/\i<=n/\Below w.heap.size w wr)
 case atStart=>exact ⟨0,rfl,rfl,Nat.zero_le _,Below.refl _ _⟩
 case round =>
  obtain ⟨i,rfl,hg,hi,hb⟩:=hrel;by_cases hlt:i<n
  ·have hli:(i:Int)<(n:Int):=by omega
   have hwi:IntKind.i64.wrap ((i:Int)+1)=(i:Int)+1:=by rw [IntKind.wrap_i64];omega
   obtain ⟨q1,d1,e1,f1⟩:=H1.out.below hb;obtain ⟨q2,d2,e2,f2⟩:=H2.out.below hb;simp only [Value.slice.injEq,true_and] at e1 e2;obtain ⟨rfl,rfl⟩:=e1;obtain ⟨rfl,rfl⟩:=e2;obtain ⟨b1,o1,p1,m1,k1,rfl,t1,y1,_⟩:=f1 i (by omega);obtain ⟨b2,o2,p2,m2,k2,rfl,t2,y2,_⟩:=f2 i (by omega);have htl:=HT.out (L[i]) (List.getElem_mem _);generalize (L[i]).1=y at *;generalize (L[i]).2=tl at *;clear f1 f2;go_upto_region 6 with fail
   have rb:=(Below.refl wr.heap.size wr).drew;have s1:=zAI rb t1;have s2:=zAI rb t2;have z1:=y1.below rb;have z2:=y2.below rb;have hbd:=zAB hb rb;clear t1 t2 y1 y2;refine wp_region_held_drew (S:=λW=>W.rangeAt b1 (o1+i * 23) (zAD y (.slice p1 m1 k1))/\W.rangeAt b2 (o2+i * 23) (zAD y (.slice p2 m2 k2))) (by kernel_rfl) ⟨s1,s2⟩ (λhHeld=>?_);generalize wr.drew=WD at *;refine tkQ 0 ?_
   refine tkQ 1 ?_
   refine tkQ 2 ?_
   refine wpAnyH_take (i:=3) (v:=.agg (zAD y (.slice p1 m1 k1)).toArray) (atQ rfl) (by kernel_rfl) (by kernel_rfl) (by kernel_rfl) (λ_ _ _ h=>h) (yieldsIf_load_mid (by rfl) 56 (.tmp 19) rfl (b1) (o1+i * 23) rfl (zAD y (.slice p1 m1 k1)) _ (λ_ h=>h.1) underlying56 rfl (by kernel_rfl)) (by assumption) ?_;try simp only [Act.put,lA,lZ,lS]
   refine tkQ 4 ?_
   refine tkQ 5 ?_
   refine tkQ 6 ?_
   refine wpAnyH_take (i:=7) (v:=.agg (zAD y (.slice p2 m2 k2)).toArray) (atQ rfl) (by kernel_rfl) (by kernel_rfl) (by kernel_rfl) (λ_ _ _ h=>h) (yieldsIf_load_mid (by rfl) 56 (.tmp 23) rfl (b2) (o2+i * 23) rfl (zAD y (.slice p2 m2 k2)) _ (λ_ h=>h.2) underlying56 rfl (by kernel_rfl)) (by assumption) ?_;try simp only [Act.put,lA,lZ,lS]
   refine rdQ 8 (λK hK=>?_);go_simp
   refine (zMW y tl p1 p2 m1 m2 k1 k2 WD z1 z2 (by omega)).mono ?_;rintro e w1 ⟨rfl,hb1⟩;have hB1:=zAB hbd hb1;go_wp2_with fail
   refine hkQ hK ⟨zAI hb1 s1,zAI hb1 s2⟩ (λhHeld=>?_);clear hK K
   refine tkQ 9 ?_
   refine wpAnyH_done (by kernel_rfl) ?_ _;have HB1:Hid (Below w.heap.size w w1):=hB1;clear hHeld s1 s2 z1 z2 hb1 hbd hB1 hb;go_wp2_with fail
   go_roundg (n - (i+1))
   case rel=>exact ⟨i+1,by simp,rfl,hlt,HB1.out⟩
   case measure=>omega
  ·have hli:¬ (i:Int)<(n:Int):=by omega
   go_wp2;go_ret;exact ⟨rfl,hb⟩
theorem zC7 {s:Tmp} {T:TypeId} (h:fn.results=#[.cell t T,.tmp s]) (tmps:Array Value) (w:World) (b:Nat) (cs:List Value) (d:TypeDesc) (ht:tmps.getD t undef=.pointer (some ⟨b,0,none⟩)) (hc:w.rangeAt b 0 cs)
  (hu:P.underlying T=some d) (hd:d.isRow=true) (hi:(P.info? T).map (·.size)=some cs.length):(results fn tmps).run P w=.ok (.tuple #[.agg cs.toArray,tmps.getD s undef]) w:=by
 have hl:=run_loadVar_mid (P:=P) w b 0 T cs d hc hu hd hi;have ht':tmps[t]?.getD undef=.pointer (some ⟨b,0,none⟩):=by rw [<-ht];simp
 simp only [results,h];simp [ht',hl,asAddr]
theorem zAm {T:TypeId} (h:fn.results=#[.cell t T]) (tmps:Array Value) (w:World) (b:Nat) (cs:List Value) (d:TypeDesc) (ht:tmps.getD t undef=.pointer (some ⟨b,0,none⟩)) (hc:w.rangeAt b 0 cs)
  (hu:P.underlying T=some d) (hd:d.isRow=true) (hi:(P.info? T).map (·.size)=some cs.length):(results fn tmps).run P w=.ok (.agg cs.toArray) w:=by
 have hl:=run_loadVar_mid (P:=P) w b 0 T cs d hc hu hd hi;have ht':tmps[t]?.getD undef=.pointer (some ⟨b,0,none⟩):=by rw [<-ht];simp
 simp only [results,h];simp [ht',hl,asAddr]
def zAP (x:Wt.Nd) (sl:Value):List Value:=zAN x++[sl]
theorem zBl (x:Wt.Nd) (sl:Value):(zAP x sl).length=21:=rfl
theorem zJY (x:Wt.Nd) (av:Option Addr) (n c:Nat):∀ v ∈ zAP x (.slice av n c),v.oneCell'=true:=by
 intro v hv;rcases List.mem_append.1 hv with h | h
 ·exact zJQ x v h
 ·simp at h;subst h;rfl
theorem zBV (x:Wt.Nd) (av:Option Addr) (n c:Nat):(zAP x (.slice av n c)).toArray.all (·.oneCell')=true:=all_oneCell_toArray (zJY x av n c)
theorem zMs (x:Wt.Nd) (w:World):(Instr.build 64 #[(0,.agg (zAN x).toArray)]).run prog w=.ok (.agg (zAP x (.slice none 0 0)).toArray) w:=by kernel_rfl
theorem zDZ (hgd:op.guard=none) (y:Operand) (ho:op.op=.build 64 #[(0,y)]) (x:Wt.Nd) (hy:a.eval y=.agg (zAN x).toArray)
  (h:wpList prog ops Q rest (a.put op.dst (.agg (zAP x (.slice none 0 0)).toArray)) w):wpList prog ops Q (op::rest) a w:=by
 refine wpList_plain hgd λK hK=>?_
 unfold Oper.wp execOp;simp only [ho,List.map_toArray,List.map_cons,List.map_nil,hy,Sem.run_bind,Sem.run_pure,Result.andThen_ok,zMs];exact hK _ _ h
theorem zKm {o:Nat} {x:Wt.Nd} {sl:Value} (h:w.rangeAt k o (zAP x sl)):w.rangeAt k o (zAN x):=λj v hv=>h j v (by
 unfold zAP;have hj:j<(zAN x).length:=by
  rcases Nat.lt_or_ge j (zAN x).length with q | q
  ·exact q
  ·rw [List.getElem?_eq_none q] at hv;cases hv
 rw [List.getElem?_append_left hj];exact hv)
abbrev zeros21:Array Value:=#[.int .i64 0,.int .i64 0,.int .i64 0,.int .i64 0,.string ⟨#[]⟩,.bool false,.int .i64 0,.int .i64 0,.string ⟨#[]⟩,.int .i64 0,.string ⟨#[]⟩,.int .i64 0,.int .i64 0,.bool false,.bool false,.string ⟨#[]⟩,.int .i64 0,.int .i64 0,.bool false,.bool false,.slice none 0 0]
def zBN:List (Wt.Nd × Value)->List Value
 | []=>[]
 | p::r=>zAP p.1 p.2++zBN r
theorem zCk:∀ A:List (Wt.Nd × Value),(zBN A).length=A.length * 21
 | []=>rfl
 | x::r=>by simp [zBN,zCk r,zBl];omega
theorem zDE:∀ (A C:List (Wt.Nd × Value)),zBN (A++C)=zBN A++zBN C
 | [],C=>rfl
 | x::r,C=>by simp [zBN,zDE r C]
theorem zCw:∀ (A:List (Wt.Nd × Value)),(∀ p ∈ A,∃ av n c,p.2=.slice av n c)->∀ v ∈ zBN A,v.oneCell'=true
 | [],_,v,h=>by cases h
 | x::r,hs,v,h=>by
  obtain ⟨av,n,c,e⟩:=hs x (List.mem_cons_self ..);simp only [zBN,List.mem_append] at h;rcases h with h | h
  ·rw [e] at h;exact zJY _ _ _ _ v h
  ·exact zCw r (λp hp=>hs p (List.mem_cons_of_mem _ hp)) v h
theorem zDW:∀ (A:List (Wt.Nd × Value)) (i:Nat) (h:i<A.length) (j:Nat) (v:Value),(zAP (A[i]).1 (A[i]).2)[j]? = some v->(zBN A)[i * 21+j]? = some v
 | [],i,h,_,_,_=>absurd h (Nat.not_lt_zero _)
 | x::r,0,h,j,v,hv=>by
  have hj:j<(zAP x.1 x.2).length:=by
   rcases Nat.lt_or_ge j (zAP x.1 x.2).length with q | q
   ·exact q
   ·simp only [List.getElem_cons_zero] at hv;rw [List.getElem?_eq_none q] at hv;cases hv
  simp only [zBN,Nat.zero_mul,Nat.zero_add];rw [List.getElem?_append_left hj];exact hv
 | x::r,i+1,h,j,v,hv=>by
  simp only [zBN];rw [List.getElem?_append_right (by rw [zBl];omega),zBl,show (i+1) * 21+j - 21=i * 21+j from by omega];exact zDW r i (by simpa using h) j v (by simpa using hv)
def OwnP (w:World) (B:Nat) (v:Value) (A:List (Wt.Nd × Value)):Prop:=w.ownsRow B 64 21 v A.length (zBN A)
theorem OwnP.nil (w:World) (B:Nat):OwnP w B (.slice none 0 0) []:=⟨rfl,Or.inl ⟨rfl,rfl⟩⟩
theorem OwnP.below (h:OwnP w B v A) (hb:Below w.heap.size w w'):OwnP w' B v A:=zAc (Fr.of_below [] hb) h (by simp)
theorem OwnP.cases (h:OwnP w B v A):(v=.slice none 0 0/\A=[]) \/ ∃ g cap,v=.slice (some ⟨g,0,none⟩) A.length cap/\B<=g/\g<w.heap.size/\∀ i (hi:i<A.length),w.rangeAt g (i * 21) (zAP (A[i]).1 (A[i]).2):=by
 rcases h.2 with ⟨e,h0⟩ | ⟨g,cap,cur,e,hb1,hg,r1,r2,r3,r4⟩
 ·exact Or.inl ⟨e,List.eq_nil_of_length_eq_zero h0⟩
 ·refine Or.inr ⟨g,cap,e,hb1,(zAT h (by rw [e];rfl)).2,λi hi j v hv=>?_⟩;have:=h.cells (by rw [e];rfl) (i * 21+j) v (zDW A i hi j v hv);rw [show (⟨g,0,none⟩:Addr).add (i * 21+j)=⟨g,i * 21+j,none⟩ from by
   simp [Addr.add];try (intro h0;omega)] at this
  exact this
theorem OwnP.slice (h:OwnP w B v A):∃ a m c,v=.slice a m c:=by
 rcases OwnP.cases h with ⟨e,_⟩ | ⟨g,cap,e,_⟩
 ·exact ⟨_,_,_,e⟩
 ·exact ⟨_,_,_,e⟩
theorem zEE:(prog.info? 64).map (λi=>(i.zero,i.size,i.bytes))=some (some (.agg zeros21),21,200):=by kernel_rfl
theorem zEC {ops:Array Oper} {rest:List Oper} {o:Oper} {a:Act} {Q:Exit->Act->World->Prop} (hgd:o.guard=none) (s x:Operand) (ho:o.op=.call {callee:=.builtin .append,args:=#[s,x],argTypes:=#[62,62]})
  (w:World) (B:Nat) (hB:B<=w.heap.size) (v:Value) (A:List (Wt.Nd × Value)) (hs:a.eval s=v) (hown:OwnP w B v A) (g:Nat) (y:Wt.Nd) (av:Option Addr) (n c:Nat) (hx:a.eval x=.slice (some ⟨g,0,none⟩) 1 1) (hat:w.rangeAt g 0 (zAP y (.slice av n c))) (hl:True->A.length<=1000)
  (h:∀ v' w',OwnP w' B v' (A++[(y,.slice av n c)])->w.grownBy w' v.ownBlock->(v'.ownBlock=v.ownBlock \/ v'.ownBlock=some w.heap.size)->wpList prog ops Q rest (a.put o.dst v') w'):wpList prog ops Q (o::rest) a w:=by
 obtain ⟨i0,hi0,hz0,hz1,hz2⟩:=info_parts zEE;have hl:=hl trivial;refine wpList_plain hgd λK hK=>?_
 have hnews:∀ j u,(zBN [(y,.slice av n c)])[j]? = some u->w.cell? ((⟨g,0,none⟩:Addr).add j)=some u:=λj u hj=>by
  simp only [zBN,List.append_nil] at hj;have:=hat j u hj;rw [Nat.zero_add] at this;rw [show (⟨g,0,none⟩:Addr).add j=⟨g,j,none⟩ from by
   simp [Addr.add];try (intro h0;omega)]
  exact this
 obtain ⟨v',w',hr,own,hg,_,hb⟩:=run_append_own_at (P:=prog) w B 62 o.type 64 i0 _ 21 200 underlying62 hi0 hz0 hz1 hz2 rfl (by decide) v A.length (zBN A) hown ⟨g,0,none⟩ 1 1 (zBN [(y,.slice av n c)]) (zCk _) hnews (zCw _ (λp hp=>by simp at hp;subst hp;exact ⟨_,_,_,rfl⟩)) (by unfold maxLen;omega) (by omega) hB;unfold Oper.wp execOp;simp only [ho,resolve,invoke,builtin,Sem.run_bind,Sem.run_pure,Result.andThen_ok,List.map_toArray,List.map_cons,List.map_nil,hs,hx,hr];refine hK _ _ (h v' w' ?_ hg hb);unfold OwnP;rw [List.length_append,zDE];exact own
theorem zMp (x:Wt.Nd) (av:Option Addr) (n c:Nat) (w:World):(Instr.buildSlice 62 1 #[(0,.agg (zAP x (.slice av n c)).toArray)]).run prog w=.ok (.slice (some ⟨w.heap.size,0,none⟩) 1 1) (w.alloc (.cells (zAP x (.slice av n c)).toArray 64)):=by kernel_rfl
theorem zED (hgd:op.guard=none) (y:Operand) (ho:op.op=.buildSlice 62 1 #[(0,y)]) (x:Wt.Nd) (av:Option Addr) (n c:Nat) (hy:a.eval y=.agg (zAP x (.slice av n c)).toArray)
  (h:wpList prog ops Q rest (a.put op.dst (.slice (some ⟨w.heap.size,0,none⟩) 1 1)) (w.alloc (.cells (zAP x (.slice av n c)).toArray 64))):wpList prog ops Q (op::rest) a w:=by
 refine wpList_plain hgd λK hK=>?_
 unfold Oper.wp execOp;simp only [ho,List.map_toArray,List.map_cons,List.map_nil,hy,Sem.run_bind,Sem.run_pure,Result.andThen_ok,zMp];exact hK _ _ h
theorem zBn (b:Nat):∀ (vs:List Value) (o:Nat) (w:World),Fr [b] w (w.setCells b o vs)
 | [],o,w=>Fr.refl _ _
 | v::r,o,w=>(Fr.of_grown (zAL w b o v) (λj e=>by cases e;simp)).trans (zBn b r (o+1) _)
theorem zDs {w2:World} (h:Below w.heap.size w w1) (f:Fr S w1 w2) (hs:∀ k ∈ S,w.heap.size<=k):Below w.heap.size w w2:=(Fr.new (Fr.of_below [] h) f (λk hk=>Or.inr (hs k hk))).to_below (λk hk=>absurd hk (by simp))
open Wf
def RdT (n lo hi:Nat) (w:World) (av:Option Addr) (ps:List (Tr n × Value)):Prop:=∀ i (h:i<ps.length),∃ bb off,lo<=bb/\bb<hi/\av=some ⟨bb,off,none⟩/\w.rangeAt bb (off+i * 21) (zAP (hd n (ps[i]).1) (ps[i]).2)
def PA:(n:Nat)->Nat->Nat->World->Tr n->Value->Prop
 | 0,_,_,_,t,_=>Empty.elim t
 | n+1,lo,hi,w,t,sl=>∃ (av:Option Addr) (cap:Nat) (ps:List (Tr n × Value)),ps.map (·.1)=Br.ks t/\sl=.slice av ps.length cap/\ps.length<=cap/\RdT n lo hi w av ps/\∀ p ∈ ps,PA n lo hi w p.1 p.2
def Kept (lo hi:Nat) (w w':World):Prop:=∀ b o v,lo<=b->b<hi->w.cell? ⟨b,o,none⟩=some v->w'.cell? ⟨b,o,none⟩=some v
theorem Kept.of_fr (h:Fr S w w') (hs:∀ k ∈ S,k<lo \/ hi<=k):Kept lo hi w w':=λb o v h1 h2 hc=>h.cell hc (λhm=>by have:=hs b hm;omega)
theorem Kept.of_below (h:Below w.heap.size w w'):Kept lo hi w w':=λb o v _ _ hc=>zAC h hc
theorem RdT.kept {n:Nat} {av:Option Addr} {ps:List (Tr n × Value)} (h:RdT n lo hi w av ps) (hk:Kept lo hi w w'):RdT n lo hi w' av ps:=λi hi'=>by
 obtain ⟨bb,off,h1,h2,h3,h4⟩:=h i hi';exact ⟨bb,off,h1,h2,h3,λj v hv=>hk _ _ _ h1 h2 (h4 j v hv)⟩
theorem PA.kept {lo hi:Nat} {w w':World} (hk:Kept lo hi w w'):∀ (n:Nat) (t:Tr n) (sl:Value),PA n lo hi w t sl->PA n lo hi w' t sl
 | 0,t,_,_=>Empty.elim t
 | n+1,t,sl,h=>by
  obtain ⟨av,cap,ps,h1,h2,h2c,h3,h4⟩:=h;exact ⟨av,cap,ps,h1,h2,h2c,h3.kept hk,λp hp=>PA.kept hk n p.1 p.2 (h4 p hp)⟩
theorem PA.wide {lo hi lo' hi':Nat} {w:World} (h1:lo'<=lo) (h2:hi<=hi'):∀ (n:Nat) (t:Tr n) (sl:Value),PA n lo hi w t sl->PA n lo' hi' w t sl
 | 0,t,_,_=>Empty.elim t
 | n+1,t,sl,h=>by
  obtain ⟨av,cap,ps,q1,q2,q2c,q3,q4⟩:=h;refine ⟨av,cap,ps,q1,q2,q2c,λi hi=>?_,λp hp=>PA.wide h1 h2 n p.1 p.2 (q4 p hp)⟩;obtain ⟨bb,off,r1,r2,r3,r4⟩:=q3 i hi;exact ⟨bb,off,by omega,by omega,r3,r4⟩
theorem PA.slice {lo hi:Nat} {w:World}:∀ {n:Nat} {t:Tr n} {sl:Value},PA n lo hi w t sl->∃ av m c,sl=.slice av m c
 | 0,t,_,_=>Empty.elim t
 | n+1,t,sl,h=>by
  obtain ⟨av,cap,ps,q1,q2,q2c,q3,q4⟩:=h;exact ⟨_,_,_,q2⟩
