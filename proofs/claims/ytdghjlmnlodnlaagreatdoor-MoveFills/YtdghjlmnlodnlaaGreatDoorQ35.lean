/- TRefH, TRefI, TRefJ. -/
import Derived.Test.YtdghjlmnlodnlaaGreatDoorQ34
set_option maxHeartbeats 3200000
set_option maxRecDepth 100000
namespace Go.Proofs.YtdghjlmnlodnlaaGreatDoor
open Tryz
open Go.RowKit Go.Shelf
set_option linter.unusedVariables false
variable {x:Wt.Nd}
theorem zBD (h:Wt.right x=true):(¬ x.k=4/\¬ x.k=5/\tgh x=7) \/ (x.k=4/\(x.op=1 \/ x.op=2 \/ x.op=3)) \/ (x.k=5/\(x.op=11 \/ x.op=12 \/ x.op=13 \/ x.op=14 \/ x.op=15 \/ x.op=16 \/ x.op=21 \/ x.op=22 \/ x.op=23 \/ x.op=24 \/ x.op=25 \/ x.op=26)):=by
 by_cases h4:x.k=4
 ·refine Or.inr (Or.inl ⟨h4,?_⟩);unfold Wt.right at h;rw [if_neg (by omega),if_neg (by omega),if_neg (by omega),if_pos h4,Bool.and_eq_true,zMu] at h;have:=h.1;unfold zEG at this;simp only [Bool.or_eq_true,decide_eq_true_eq] at this;omega
 by_cases h5:x.k=5
 ·refine Or.inr (Or.inr ⟨h5,?_⟩);unfold Wt.right at h;rw [if_neg (by omega),if_neg (by omega),if_neg (by omega),if_neg (by omega),if_pos h5,Bool.and_eq_true,zIc] at h;have:=h.1;unfold Wt.isBin at this;simp only [Bool.or_eq_true,Bool.and_eq_true,decide_eq_true_eq] at this;omega
 ·refine Or.inl ⟨h4,h5,?_⟩;apply zC8
  unfold Wt.right at h;by_cases k1:x.k=1
  ·rw [if_pos k1,Bool.and_eq_true,zAb] at h;exact congrArg Wt.Nd.op h.2
  rw [if_neg k1] at h;by_cases k2:x.k=2
  ·rw [if_pos k2,Bool.and_eq_true,zAb] at h;exact congrArg Wt.Nd.op h.2
  rw [if_neg k2] at h;by_cases k3:x.k=3
  ·rw [if_pos k3,Bool.and_eq_true,zAb] at h;exact congrArg Wt.Nd.op h.2
  rw [if_neg k3,if_neg h4,if_neg h5] at h;by_cases k6:x.k=6
  ·rw [if_pos k6,Bool.and_eq_true,zAb] at h;exact congrArg Wt.Nd.op h.2
  rw [if_neg k6] at h;cases h
theorem zET (x:Wt.Nd) (w:World) (h:Wt.right x=true):CR 69 #[.agg (zAD x).toArray] w (.int .i64 (tgh x+1)):=by
 have pA:AtL (w.alloc (.cells (zAD x).toArray 30)) w.heap.size (zAD x):=AtL.new0 w _ _;have hBa:Below w.heap.size w (w.alloc (.cells (zAD x).toArray 30)):=zAI (Below.refl _ w) _;have a0:=pA.2.1 0 _ rfl;have a7:=pA.2.1 7 _ rfl;rcases zBD h with ⟨h4,h5,h7⟩ | ⟨h4,ho⟩ | ⟨h5,ho⟩
 ·rw [h7];have h4b:(x.k == 4)=false:=by simp [h4]
  have h5b:(x.k != 5)=true:=by simp [h5]
  clear h h7 h4 h5;generalize x.k=k at *;go_enter func69,ntmps69;go_upto_region 1 with fail
  generalize w.alloc (.cells (zAD x).toArray 30)=W0 at *;go_wp2;go_ret;exact ⟨rfl,hBa⟩
 ·rw [h4] at a0;rcases ho with ho | ho | ho
  all_goals
   rw [ho] at a7;have ht:Hid (tgh x=(if x.op=3 then 6 else 5)):=by show _=_;unfold tgh;rw [ho];rfl
   rw [ht.out,ho];clear ht h;go_enter func69,ntmps69;go_upto_region 1 with fail
   generalize w.alloc (.cells (zAD x).toArray 30)=W0 at *;go_wp2;go_ret;exact ⟨rfl,hBa⟩
 ·rw [h5] at a0;rcases ho with ho | ho | ho | ho | ho | ho | ho | ho | ho | ho | ho | ho
  all_goals
   rw [ho] at a7;have ht:Hid (tgh x=(if x.op=16 then 1 else if x.op<=12 then 2 else if x.op<=14 then 3 else if x.op=15 then 4 else 0)):=by show _=_;unfold tgh;rw [ho];rfl
   rw [ht.out,ho];clear ht h;go_enter func69,ntmps69;go_upto_region 1 with fail
   generalize w.alloc (.cells (zAD x).toArray 30)=W0 at *;go_wp2;go_ret;exact ⟨rfl,hBa⟩
def sgO:List Value:=[.int .i64 1,.int .i64 2,.int .i64 3,.int .i64 11,.int .i64 12,.int .i64 13,.int .i64 14,.int .i64 15,.int .i64 16,.int .i64 21,.int .i64 22,.int .i64 23,.int .i64 24,.int .i64 25,.int .i64 26]
def sgW:List Value:=[.string ⟨#[45]⟩,.string ⟨#[43]⟩,.string ⟨#[37]⟩,.string ⟨#[43]⟩,.string ⟨#[45]⟩,.string ⟨#[42]⟩,.string ⟨#[47]⟩,.string ⟨#[94]⟩,.string ⟨#[38]⟩,.string ⟨#[61]⟩,.string ⟨#[60,62]⟩,.string ⟨#[60]⟩,.string ⟨#[60,61]⟩,.string ⟨#[62]⟩,.string ⟨#[62,61]⟩]
def zRs (o:Int) (m:ByteArray) (j:Nat):Prop:=j<15/\sgO[j]? = some (.int .i64 o)/\sgW[j]? = some (.string m)/\∀ i,i<j->∃ q:Int,sgO[i]? = some (.int .i64 q)/\(q == o)=false
theorem zRG:∀ i,i<0->∃ q:Int,sgO[i]? = some (.int .i64 q)/\(q == 1)=false
 | _,h=>absurd h (Nat.not_lt_zero _)
theorem zRF:∀ i,i<1->∃ q:Int,sgO[i]? = some (.int .i64 q)/\(q == 2)=false
 | 0,_=>⟨1,rfl,by decide⟩
 | n+1,h=>absurd h (by omega)
theorem zRY:∀ i,i<2->∃ q:Int,sgO[i]? = some (.int .i64 q)/\(q == 3)=false
 | 0,_=>⟨1,rfl,by decide⟩
 | 1,_=>⟨2,rfl,by decide⟩
 | n+2,h=>absurd h (by omega)
theorem zRA:∀ i,i<3->∃ q:Int,sgO[i]? = some (.int .i64 q)/\(q == 11)=false
 | 0,_=>⟨1,rfl,by decide⟩
 | 1,_=>⟨2,rfl,by decide⟩
 | 2,_=>⟨3,rfl,by decide⟩
 | n+3,h=>absurd h (by omega)
theorem zRe:∀ i,i<4->∃ q:Int,sgO[i]? = some (.int .i64 q)/\(q == 12)=false
 | 0,_=>⟨1,rfl,by decide⟩
 | 1,_=>⟨2,rfl,by decide⟩
 | 2,_=>⟨3,rfl,by decide⟩
 | 3,_=>⟨11,rfl,by decide⟩
 | n+4,h=>absurd h (by omega)
theorem zRD:∀ i,i<5->∃ q:Int,sgO[i]? = some (.int .i64 q)/\(q == 13)=false
 | 0,_=>⟨1,rfl,by decide⟩
 | 1,_=>⟨2,rfl,by decide⟩
 | 2,_=>⟨3,rfl,by decide⟩
 | 3,_=>⟨11,rfl,by decide⟩
 | 4,_=>⟨12,rfl,by decide⟩
 | n+5,h=>absurd h (by omega)
theorem zR9:∀ i,i<6->∃ q:Int,sgO[i]? = some (.int .i64 q)/\(q == 14)=false
 | 0,_=>⟨1,rfl,by decide⟩
 | 1,_=>⟨2,rfl,by decide⟩
 | 2,_=>⟨3,rfl,by decide⟩
 | 3,_=>⟨11,rfl,by decide⟩
 | 4,_=>⟨12,rfl,by decide⟩
 | 5,_=>⟨13,rfl,by decide⟩
 | n+6,h=>absurd h (by omega)
theorem zRW:∀ i,i<7->∃ q:Int,sgO[i]? = some (.int .i64 q)/\(q == 15)=false
 | 0,_=>⟨1,rfl,by decide⟩
 | 1,_=>⟨2,rfl,by decide⟩
 | 2,_=>⟨3,rfl,by decide⟩
 | 3,_=>⟨11,rfl,by decide⟩
 | 4,_=>⟨12,rfl,by decide⟩
 | 5,_=>⟨13,rfl,by decide⟩
 | 6,_=>⟨14,rfl,by decide⟩
 | n+7,h=>absurd h (by omega)
theorem zRX:∀ i,i<8->∃ q:Int,sgO[i]? = some (.int .i64 q)/\(q == 16)=false
 | 0,_=>⟨1,rfl,by decide⟩
 | 1,_=>⟨2,rfl,by decide⟩
 | 2,_=>⟨3,rfl,by decide⟩
 | 3,_=>⟨11,rfl,by decide⟩
 | 4,_=>⟨12,rfl,by decide⟩
 | 5,_=>⟨13,rfl,by decide⟩
 | 6,_=>⟨14,rfl,by decide⟩
 | 7,_=>⟨15,rfl,by decide⟩
 | n+8,h=>absurd h (by omega)
theorem zRJ:∀ i,i<9->∃ q:Int,sgO[i]? = some (.int .i64 q)/\(q == 21)=false
 | 0,_=>⟨1,rfl,by decide⟩
 | 1,_=>⟨2,rfl,by decide⟩
 | 2,_=>⟨3,rfl,by decide⟩
 | 3,_=>⟨11,rfl,by decide⟩
 | 4,_=>⟨12,rfl,by decide⟩
 | 5,_=>⟨13,rfl,by decide⟩
 | 6,_=>⟨14,rfl,by decide⟩
 | 7,_=>⟨15,rfl,by decide⟩
 | 8,_=>⟨16,rfl,by decide⟩
 | n+9,h=>absurd h (by omega)
theorem zPw:∀ i,i<10->∃ q:Int,sgO[i]? = some (.int .i64 q)/\(q == 22)=false
 | 0,_=>⟨1,rfl,by decide⟩
 | 1,_=>⟨2,rfl,by decide⟩
 | 2,_=>⟨3,rfl,by decide⟩
 | 3,_=>⟨11,rfl,by decide⟩
 | 4,_=>⟨12,rfl,by decide⟩
 | 5,_=>⟨13,rfl,by decide⟩
 | 6,_=>⟨14,rfl,by decide⟩
 | 7,_=>⟨15,rfl,by decide⟩
 | 8,_=>⟨16,rfl,by decide⟩
 | 9,_=>⟨21,rfl,by decide⟩
 | n+10,h=>absurd h (by omega)
theorem zP9:∀ i,i<11->∃ q:Int,sgO[i]? = some (.int .i64 q)/\(q == 23)=false
 | 0,_=>⟨1,rfl,by decide⟩
 | 1,_=>⟨2,rfl,by decide⟩
 | 2,_=>⟨3,rfl,by decide⟩
 | 3,_=>⟨11,rfl,by decide⟩
 | 4,_=>⟨12,rfl,by decide⟩
 | 5,_=>⟨13,rfl,by decide⟩
 | 6,_=>⟨14,rfl,by decide⟩
 | 7,_=>⟨15,rfl,by decide⟩
 | 8,_=>⟨16,rfl,by decide⟩
 | 9,_=>⟨21,rfl,by decide⟩
 | 10,_=>⟨22,rfl,by decide⟩
 | n+11,h=>absurd h (by omega)
theorem zPN:∀ i,i<12->∃ q:Int,sgO[i]? = some (.int .i64 q)/\(q == 24)=false
 | 0,_=>⟨1,rfl,by decide⟩
 | 1,_=>⟨2,rfl,by decide⟩
 | 2,_=>⟨3,rfl,by decide⟩
 | 3,_=>⟨11,rfl,by decide⟩
 | 4,_=>⟨12,rfl,by decide⟩
 | 5,_=>⟨13,rfl,by decide⟩
 | 6,_=>⟨14,rfl,by decide⟩
 | 7,_=>⟨15,rfl,by decide⟩
 | 8,_=>⟨16,rfl,by decide⟩
 | 9,_=>⟨21,rfl,by decide⟩
 | 10,_=>⟨22,rfl,by decide⟩
 | 11,_=>⟨23,rfl,by decide⟩
 | n+12,h=>absurd h (by omega)
theorem zOi:∀ i,i<13->∃ q:Int,sgO[i]? = some (.int .i64 q)/\(q == 25)=false
 | 0,_=>⟨1,rfl,by decide⟩
 | 1,_=>⟨2,rfl,by decide⟩
 | 2,_=>⟨3,rfl,by decide⟩
 | 3,_=>⟨11,rfl,by decide⟩
 | 4,_=>⟨12,rfl,by decide⟩
 | 5,_=>⟨13,rfl,by decide⟩
 | 6,_=>⟨14,rfl,by decide⟩
 | 7,_=>⟨15,rfl,by decide⟩
 | 8,_=>⟨16,rfl,by decide⟩
 | 9,_=>⟨21,rfl,by decide⟩
 | 10,_=>⟨22,rfl,by decide⟩
 | 11,_=>⟨23,rfl,by decide⟩
 | 12,_=>⟨24,rfl,by decide⟩
 | n+13,h=>absurd h (by omega)
theorem zPJ:∀ i,i<14->∃ q:Int,sgO[i]? = some (.int .i64 q)/\(q == 26)=false
 | 0,_=>⟨1,rfl,by decide⟩
 | 1,_=>⟨2,rfl,by decide⟩
 | 2,_=>⟨3,rfl,by decide⟩
 | 3,_=>⟨11,rfl,by decide⟩
 | 4,_=>⟨12,rfl,by decide⟩
 | 5,_=>⟨13,rfl,by decide⟩
 | 6,_=>⟨14,rfl,by decide⟩
 | 7,_=>⟨15,rfl,by decide⟩
 | 8,_=>⟨16,rfl,by decide⟩
 | 9,_=>⟨21,rfl,by decide⟩
 | 10,_=>⟨22,rfl,by decide⟩
 | 11,_=>⟨23,rfl,by decide⟩
 | 12,_=>⟨24,rfl,by decide⟩
 | 13,_=>⟨25,rfl,by decide⟩
 | n+14,h=>absurd h (by omega)
theorem zIp (h:Wt.right x=true) (hk:x.k=4 \/ x.k=5):∃ j,zRs x.op ⟨(mrk x).toArray⟩ j:=by
 rcases zBD h with ⟨h4,h5,-⟩ | ⟨-,ho⟩ | ⟨-,ho⟩
 ·omega
 ·rcases ho with ho | ho | ho
  ·exact ⟨0,by decide,by rw [ho];rfl,by unfold mrk;rw [ho];rfl,by rw [ho];exact zRG⟩
  ·exact ⟨1,by decide,by rw [ho];rfl,by unfold mrk;rw [ho];rfl,by rw [ho];exact zRF⟩
  ·exact ⟨2,by decide,by rw [ho];rfl,by unfold mrk;rw [ho];rfl,by rw [ho];exact zRY⟩
 ·rcases ho with ho | ho | ho | ho | ho | ho | ho | ho | ho | ho | ho | ho
  ·exact ⟨3,by decide,by rw [ho];rfl,by unfold mrk;rw [ho];rfl,by rw [ho];exact zRA⟩
  ·exact ⟨4,by decide,by rw [ho];rfl,by unfold mrk;rw [ho];rfl,by rw [ho];exact zRe⟩
  ·exact ⟨5,by decide,by rw [ho];rfl,by unfold mrk;rw [ho];rfl,by rw [ho];exact zRD⟩
  ·exact ⟨6,by decide,by rw [ho];rfl,by unfold mrk;rw [ho];rfl,by rw [ho];exact zR9⟩
  ·exact ⟨7,by decide,by rw [ho];rfl,by unfold mrk;rw [ho];rfl,by rw [ho];exact zRW⟩
  ·exact ⟨8,by decide,by rw [ho];rfl,by unfold mrk;rw [ho];rfl,by rw [ho];exact zRX⟩
  ·exact ⟨9,by decide,by rw [ho];rfl,by unfold mrk;rw [ho];rfl,by rw [ho];exact zRJ⟩
  ·exact ⟨10,by decide,by rw [ho];rfl,by unfold mrk;rw [ho];rfl,by rw [ho];exact zPw⟩
  ·exact ⟨11,by decide,by rw [ho];rfl,by unfold mrk;rw [ho];rfl,by rw [ho];exact zP9⟩
  ·exact ⟨12,by decide,by rw [ho];rfl,by unfold mrk;rw [ho];rfl,by rw [ho];exact zPN⟩
  ·exact ⟨13,by decide,by rw [ho];rfl,by unfold mrk;rw [ho];rfl,by rw [ho];exact zOi⟩
  ·exact ⟨14,by decide,by rw [ho];rfl,by unfold mrk;rw [ho];rfl,by rw [ho];exact zPJ⟩
theorem zFJ (o:Int) (m:ByteArray) (j:Nat) (hj:zRs o m j) (w:World):CR 68 #[.int .i64 o] w (.string m):=by
 obtain ⟨hj15,ho,hm,hlt⟩:=hj;have pO:AtL ((w.alloc (.cells #[.int .i64 1,.int .i64 2,.int .i64 3,.int .i64 11,.int .i64 12,.int .i64 13,.int .i64 14,.int .i64 15,.int .i64 16,.int .i64 21,.int .i64 22,.int .i64 23,.int .i64 24,.int .i64 25,.int .i64 26] 3)).alloc (.cells #[.string ⟨#[45]⟩,.string ⟨#[43]⟩,.string ⟨#[37]⟩,.string ⟨#[43]⟩,.string ⟨#[45]⟩,.string ⟨#[42]⟩,.string ⟨#[47]⟩,.string ⟨#[94]⟩,.string ⟨#[38]⟩,.string ⟨#[61]⟩,.string ⟨#[60,62]⟩,.string ⟨#[60]⟩,.string ⟨#[60,61]⟩,.string ⟨#[62]⟩,.string ⟨#[62,61]⟩] 9)) w.heap.size sgO:=(AtL.new0 w _ _).alloc _;have pW:AtL ((w.alloc (.cells #[.int .i64 1,.int .i64 2,.int .i64 3,.int .i64 11,.int .i64 12,.int .i64 13,.int .i64 14,.int .i64 15,.int .i64 16,.int .i64 21,.int .i64 22,.int .i64 23,.int .i64 24,.int .i64 25,.int .i64 26] 3)).alloc (.cells #[.string ⟨#[45]⟩,.string ⟨#[43]⟩,.string ⟨#[37]⟩,.string ⟨#[43]⟩,.string ⟨#[45]⟩,.string ⟨#[42]⟩,.string ⟨#[47]⟩,.string ⟨#[94]⟩,.string ⟨#[38]⟩,.string ⟨#[61]⟩,.string ⟨#[60,62]⟩,.string ⟨#[60]⟩,.string ⟨#[60,61]⟩,.string ⟨#[62]⟩,.string ⟨#[62,61]⟩] 9)) (w.heap.size+1) sgW:=AtL.new1 w _ _ _;have hB:=zAI (zAI (Below.refl _ w) (.cells #[.int .i64 1,.int .i64 2,.int .i64 3,.int .i64 11,.int .i64 12,.int .i64 13,.int .i64 14,.int .i64 15,.int .i64 16,.int .i64 21,.int .i64 22,.int .i64 23,.int .i64 24,.int .i64 25,.int .i64 26] 3)) (.cells #[.string ⟨#[45]⟩,.string ⟨#[43]⟩,.string ⟨#[37]⟩,.string ⟨#[43]⟩,.string ⟨#[45]⟩,.string ⟨#[42]⟩,.string ⟨#[47]⟩,.string ⟨#[94]⟩,.string ⟨#[38]⟩,.string ⟨#[61]⟩,.string ⟨#[60,62]⟩,.string ⟨#[60]⟩,.string ⟨#[60,61]⟩,.string ⟨#[62]⟩,.string ⟨#[62,61]⟩] 9)
 have cO:=pO.2.1;have cW:=pW.2.1;clear pO pW;go_enter func68,ntmps68;go_upto_region 3 with fail
 generalize (w.alloc (.cells #[.int .i64 1,.int .i64 2,.int .i64 3,.int .i64 11,.int .i64 12,.int .i64 13,.int .i64 14,.int .i64 15,.int .i64 16,.int .i64 21,.int .i64 22,.int .i64 23,.int .i64 24,.int .i64 25,.int .i64 26] 3)).alloc (.cells #[.string ⟨#[45]⟩,.string ⟨#[43]⟩,.string ⟨#[37]⟩,.string ⟨#[43]⟩,.string ⟨#[45]⟩,.string ⟨#[42]⟩,.string ⟨#[47]⟩,.string ⟨#[94]⟩,.string ⟨#[38]⟩,.string ⟨#[61]⟩,.string ⟨#[60,62]⟩,.string ⟨#[60]⟩,.string ⟨#[60,61]⟩,.string ⟨#[62]⟩,.string ⟨#[62,61]⟩] 9)=W0 at *;have HO:Hid (∀ i v,sgO[i]? = some v->W0.cell? ⟨w.heap.size,i,none⟩=some v):=cO;have HW:Hid (∀ i v,sgW[i]? = some v->W0.cell? ⟨w.heap.size+1,i,none⟩=some v):=cW;have HLT:Hid (∀ i,i<j->∃ q:Int,sgO[i]? = some (.int .i64 q)/\(q == o)=false):=hlt;clear cO cW hlt;go_wp2_with fail
 go_loopg [5] j (λgk x wr=>∃ i:Nat,x=.int .i64 i/\gk=j - i/\i<=j/\wr=W0)
 case atStart=>exact ⟨0,rfl,rfl,Nat.zero_le _,rfl⟩
 case round =>
  obtain ⟨i,rfl,hg,hi,rfl⟩:=hrel;have hi15:(i:Int)<15:=by omega
  by_cases hij:i<j
  ·obtain ⟨q,hq1,hq2⟩:=HLT.out i hij;have c0:=HO.out i _ hq1;go_wp2_with fail
   go_roundg (j - (i+1))
   case rel=>exact ⟨i+1,by simp,rfl,hij,rfl⟩
   case measure=>omega
  ·obtain rfl:i=j:=by omega
   have c0:=HO.out i _ ho;have c1:=HW.out i _ hm;go_wp2;go_ret;exact ⟨rfl,hB⟩
theorem zE0 (u:ByteArray):u=⟨u.data.toList.toArray⟩:=by cases u;simp
theorem zOD (l:List UInt8) (c:UInt8):(⟨(c::l).toArray⟩:ByteArray).extract 1 (⟨(c::l).toArray⟩:ByteArray).size=⟨l.toArray⟩:=by
 apply ByteArray.ext
 apply Array.ext'
 simp [ByteArray.data_extract,ByteArray.size]
theorem zBf (a b:List UInt8):(⟨a.toArray⟩:ByteArray)++⟨b.toArray⟩=⟨(a++b).toArray⟩:=by
 apply ByteArray.ext
 simp
theorem zK2:Wpl.colS 0=[65]:=by decide
theorem zJc {r:Int} (h0:0<=r) (h1:r<65536):Wpl.nameS 0 r 0=65::Lib.decDigits (r+1).toNat:=by
 unfold Wpl.nameS;have:Wpl.rightC 0 r 0=true:=by rw [Wpl.rightC_iff];omega
 rw [if_pos this,zK2];rfl
theorem colS_len (c:Int):(Wpl.colS c).length<=2:=by
 unfold Wpl.colS;split
 ·unfold Wpl.colT;split <;> simp
 ·simp
theorem zBd (a:Wt.Rf) (w:World) (h0:0<=a.r) (h1:a.r<65536):CR 66 #[.agg (rf5 a).toArray] w (.string ⟨(cw a).toArray⟩):=by
 obtain ⟨s,r,c,fr,fc⟩:=a;simp only at h0 h1;unfold cw;simp only;show Calls _ _ #[.agg #[.string s,.int .i64 r,.int .i64 c,.bool fr,.bool fc]] _ _
 have C:=λw=>zHG c w
 have M:=λw=>zK0 0 r 0 w
 rw [zJc h0 h1] at M;have cl:=colS_len c;have dl:(Lib.decDigits (r+1).toNat).length<=40:=by
  have:=zCd ⟨s,r,c,fr,fc⟩ h0 h1;unfold cw at this;simp only [List.length_append] at this;omega
 generalize Wpl.colS c=lc at *;generalize Lib.decDigits (r+1).toNat=ld at *;obtain ⟨u,hu⟩:∃ u:ByteArray,(⟨lc.toArray⟩:ByteArray)=u:=⟨_,rfl⟩
 obtain ⟨v,hv⟩:∃ v:ByteArray,(⟨(65::ld).toArray⟩:ByteArray)=v:=⟨_,rfl⟩
 have us:(u.size:Int)<=2:=by rw [<-hu];show ((lc.toArray.size:Nat):Int)<=2;simp;omega
 have vs:(v.size:Int)<=41:=by rw [<-hv];show (((65::ld).toArray.size:Nat):Int)<=41;simp;omega
 have vs1:(1:Int)<=(v.size:Int):=by rw [<-hv];show (1:Int)<=(((65::ld).toArray.size:Nat):Int);simp;omega
 have HV:Hid (v.extract 1 v.size=⟨ld.toArray⟩):=by show _=_;rw [<-hv];exact zOD ld 65
 have HU:Hid (u=⟨lc.toArray⟩):=hu.symm;rw [hu] at C;rw [hv] at M;clear hu hv cl dl h0 h1;have pA:AtL (w.alloc (.cells #[.string s,.int .i64 r,.int .i64 c,.bool fr,.bool fc] 28)) w.heap.size [.string s,.int .i64 r,.int .i64 c,.bool fr,.bool fc]:=AtL.new0 w _ _;have hB:=zAI (Below.refl _ w) (.cells #[.string s,.int .i64 r,.int .i64 c,.bool fr,.bool fc] 28);go_enter func66,ntmps66;go_upto_region 1 with fail
 generalize w.alloc (.cells #[.string s,.int .i64 r,.int .i64 c,.bool fr,.bool fc] 28)=W0 at *;obtain ⟨c0,c1,c2,c3,c4⟩:=pA.f5;go_wp2_with fail
 refine (C _).mono ?_;rintro e w1 ⟨rfl,hb⟩;have pA1:=AtL.below hb pA;have hB1:=zAA hB hb;clear c0 c1 c2 c3 c4 C hb pA hB;obtain ⟨c0,c1,c2,c3,c4⟩:=pA1.f5;cases fc
 all_goals
  go_wp2_with fail
  refine (M _).mono ?_;rintro e w2 ⟨rfl,hb⟩;have pA2:=AtL.below hb pA1;have hB2:=zAA hB1 hb;clear c0 c1 c2 c3 c4 M hb pA1 hB1;obtain ⟨c0,c1,c2,c3,c4⟩:=pA2.f5;cases fr
  all_goals
   go_wp2;go_ret;refine ⟨?_,hB2⟩;rw [HV.out,HU.out];first
    | exact congrArg (λx=>Ending.returned (Value.string x)) (by rw [zBf];simp [fx])
    | exact congrArg (λx=>Ending.returned (Value.string x)) (by rw [show (⟨#[36]⟩:ByteArray)=⟨[36].toArray⟩ from rfl];simp only [zBf];simp [fx])
theorem zI3 (b:Bool) (w:World):Calls prog 100 #[.bool b] w λe w'=>e=.returned (.string ⟨(if b then [84,82,85,69] else [70,65,76,83,69]:List UInt8).toArray⟩)/\w=w':=by
 cases b
 all_goals
  go_enter func100,ntmps100;go_wp2;go_ret;exact ⟨rfl,rfl⟩
theorem zEf (k n d:Int) (t:ByteArray) (b:Bool) (f:Int) (w:World) (hr:Wv.right k n d t b f=true) (C:∀ w,CR 109 #[.agg #[.int .i64 k,.int .i64 n,.int .i64 d,.string t,.bool b,.int .i64 f]] w (.bool (Wv.right k n d t b f))) :
  CR 98 #[.agg #[.int .i64 k,.int .i64 n,.int .i64 d,.string t,.bool b,.int .i64 f]] w (.agg #[.int .i64 k,.int .i64 n,.int .i64 d,.string t,.bool b,.int .i64 f]):=by
 rw [hr] at C;have pA:=(AtL.new0 w 26 [.int .i64 k,.int .i64 n,.int .i64 d,.string t,.bool b,.int .i64 f]).alloc (.cells zV0 26);have pR:=AtL.new1 w (.cells #[.int .i64 k,.int .i64 n,.int .i64 d,.string t,.bool b,.int .i64 f] 26) 26 [.int .i64 0,.int .i64 0,.int .i64 0,.string ⟨#[]⟩,.bool false,.int .i64 0];have hB:=zAI (zAI (Below.refl _ w) (.cells #[.int .i64 k,.int .i64 n,.int .i64 d,.string t,.bool b,.int .i64 f] 26)) (.cells zV0 26);go_enter func98,ntmps98;go_upto_region 1 with fail
 generalize (w.alloc (.cells #[.int .i64 k,.int .i64 n,.int .i64 d,.string t,.bool b,.int .i64 f] 26)).alloc (.cells zV0 26)=W0 at *;obtain ⟨c0,c1,c2,c3,c4,c5⟩:=pA.f6;go_wp2_with fail
 refine (C _).mono ?_;rintro e w1 ⟨rfl,hb⟩;have qA:=(AtL.below hb pA).range;have qR:=AtL.below hb pR;have hB1:=zAA hB hb;have tR:w1.there (w.heap.size+1) 0 (#[.int .i64 k,.int .i64 n,.int .i64 d,.string t,.bool b,.int .i64 f]:Array Value).size:=qR.there;clear c0 c1 c2 c3 c4 c5 pA pR hB hb C;have one6:(#[.int .i64 k,.int .i64 n,.int .i64 d,.string t,.bool b,.int .i64 f]:Array Value).all (·.oneCell')=true:=by simp [Value.oneCell']
 go_wp2_with (first
  | ((with_reducible refine wpList_load_mid (cs:=[.int .i64 k,.int .i64 n,.int .i64 d,.string t,.bool b,.int .i64 f]) ?_ 26 (.tmp 1) ?_ w.heap.size 0 ?_ _ ?_ underlying26 ?_ ?_ ?_);rfl;rfl;rfl;exact qA;rfl;kernel_rfl)
  | ((with_reducible refine wpList_store_mid ?_ 26 (.tmp 2) (.tmp 7) ?_ (w.heap.size+1) 0 #[.int .i64 k,.int .i64 n,.int .i64 d,.string t,.bool b,.int .i64 f] ?_ ?_ ?_ ?_ ?_ ?_);rfl;rfl;rfl;rfl;exact tR;kernel_rfl;exact one6))
 have rR2:=AtL.setAll qR (vs:=[.int .i64 k,.int .i64 n,.int .i64 d,.string t,.bool b,.int .i64 f]) rfl;refine bodyPost_ret (v:=.agg [.int .i64 k,.int .i64 n,.int .i64 d,.string t,.bool b,.int .i64 f].toArray) (zAF (by rfl) _ _ (w.heap.size+1) [.int .i64 k,.int .i64 n,.int .i64 d,.string t,.bool b,.int .i64 f] _ (by rfl) rR2.range underlying26 rfl (by kernel_rfl)) rfl ⟨rfl,?_⟩;exact zAu hB1 (by omega) _ _
theorem zKv (n d:Int) (t:ByteArray) (b:Bool) (f:Int) (w:World) (hr:Wv.right 1 n d t b f=true) (h1:-9223372036854775808<=n) (h2:n<=9223372036854775807) (h3:-9223372036854775808<=d) (h4:d<=9223372036854775807) (C:∀ w,CR 109 #[.agg #[.int .i64 1,.int .i64 n,.int .i64 d,.string t,.bool b,.int .i64 f]] w (.bool (Wv.right 1 n d t b f))) :
  CR 65 #[.agg #[.int .i64 1,.int .i64 n,.int .i64 d,.string t,.bool b,.int .i64 f]] w (.string ⟨(Wnum.txt (Wnum.cN n d) (Wnum.cD n d).toNat).toArray⟩):=by
 have O:=λw=>zEf 1 n d t b f w hr C
 have X:=λw=>zIs n d w h1 h2 h3 h4
 generalize Wnum.txt (Wnum.cN n d) (Wnum.cD n d).toNat=lt at *;have pA:=AtL.new0 w 26 [.int .i64 1,.int .i64 n,.int .i64 d,.string t,.bool b,.int .i64 f];have hB:=zAI (Below.refl _ w) (.cells #[.int .i64 1,.int .i64 n,.int .i64 d,.string t,.bool b,.int .i64 f] 26);clear hr C;go_enter func65,ntmps65;go_upto_region 1 with fail
 generalize w.alloc (.cells #[.int .i64 1,.int .i64 n,.int .i64 d,.string t,.bool b,.int .i64 f] 26)=W0 at *;have rA:=pA.range;go_wp2_with ((with_reducible refine wpList_load_mid (cs:=[.int .i64 1,.int .i64 n,.int .i64 d,.string t,.bool b,.int .i64 f]) ?_ 26 (.tmp 1) ?_ w.heap.size 0 ?_ _ ?_ underlying26 ?_ ?_ ?_);rfl;rfl;rfl;exact rA;rfl;kernel_rfl)
 refine (O _).mono ?_;rintro e w1 ⟨rfl,hb⟩;have qA:=AtL.below hb pA;have hB1:=zAA hB hb;have tA:w1.there w.heap.size 0 (#[.int .i64 1,.int .i64 n,.int .i64 d,.string t,.bool b,.int .i64 f]:Array Value).size:=qA.there;have one6:(#[.int .i64 1,.int .i64 n,.int .i64 d,.string t,.bool b,.int .i64 f]:Array Value).all (·.oneCell')=true:=by simp [Value.oneCell']
 have sA:=AtL.setAll qA (vs:=[.int .i64 1,.int .i64 n,.int .i64 d,.string t,.bool b,.int .i64 f]) rfl;have hB2:=zAu hB1 (Nat.le_refl _) [.int .i64 1,.int .i64 n,.int .i64 d,.string t,.bool b,.int .i64 f] 0;clear pA hB rA O hb qA hB1;go_upto_region 2 with ((with_reducible refine wpList_store_mid ?_ 26 (.tmp 1) (.tmp 6) ?_ w.heap.size 0 #[.int .i64 1,.int .i64 n,.int .i64 d,.string t,.bool b,.int .i64 f] ?_ ?_ ?_ ?_ ?_ ?_);rfl;rfl;rfl;rfl;exact tA;kernel_rfl;exact one6)
 generalize w1.setCells w.heap.size 0 (#[.int .i64 1,.int .i64 n,.int .i64 d,.string t,.bool b,.int .i64 f]:Array Value).toList=W2 at *;obtain ⟨c0,c1,c2,c3,c4,c5⟩:=sA.f6;clear tA one6;go_wp2_with fail
 refine (X _).mono ?_;rintro e w3 ⟨rfl,hb⟩;have hB3:=zAA hB2 hb;go_wp2;go_ret;exact ⟨rfl,hB3⟩
theorem zLw (n d:Int) (t:ByteArray) (b:Bool) (f:Int) (w:World) (hr:Wv.right 3 n d t b f=true) (C:∀ w,CR 109 #[.agg #[.int .i64 3,.int .i64 n,.int .i64 d,.string t,.bool b,.int .i64 f]] w (.bool (Wv.right 3 n d t b f))) :
  CR 65 #[.agg #[.int .i64 3,.int .i64 n,.int .i64 d,.string t,.bool b,.int .i64 f]] w (.string ⟨(if b then [84,82,85,69] else [70,65,76,83,69]:List UInt8).toArray⟩):=by
 have O:=λw=>zEf 3 n d t b f w hr C
 have X:=λw=>zI3 b w
 generalize (if b then [84,82,85,69] else [70,65,76,83,69]:List UInt8)=lt at *;have pA:=AtL.new0 w 26 [.int .i64 3,.int .i64 n,.int .i64 d,.string t,.bool b,.int .i64 f];have hB:=zAI (Below.refl _ w) (.cells #[.int .i64 3,.int .i64 n,.int .i64 d,.string t,.bool b,.int .i64 f] 26);clear hr C;go_enter func65,ntmps65;go_upto_region 1 with fail
 generalize w.alloc (.cells #[.int .i64 3,.int .i64 n,.int .i64 d,.string t,.bool b,.int .i64 f] 26)=W0 at *;have rA:=pA.range;go_wp2_with ((with_reducible refine wpList_load_mid (cs:=[.int .i64 3,.int .i64 n,.int .i64 d,.string t,.bool b,.int .i64 f]) ?_ 26 (.tmp 1) ?_ w.heap.size 0 ?_ _ ?_ underlying26 ?_ ?_ ?_);rfl;rfl;rfl;exact rA;rfl;kernel_rfl)
 refine (O _).mono ?_;rintro e w1 ⟨rfl,hb⟩;have qA:=AtL.below hb pA;have hB1:=zAA hB hb;have tA:w1.there w.heap.size 0 (#[.int .i64 3,.int .i64 n,.int .i64 d,.string t,.bool b,.int .i64 f]:Array Value).size:=qA.there;have one6:(#[.int .i64 3,.int .i64 n,.int .i64 d,.string t,.bool b,.int .i64 f]:Array Value).all (·.oneCell')=true:=by simp [Value.oneCell']
 have sA:=AtL.setAll qA (vs:=[.int .i64 3,.int .i64 n,.int .i64 d,.string t,.bool b,.int .i64 f]) rfl;have hB2:=zAu hB1 (Nat.le_refl _) [.int .i64 3,.int .i64 n,.int .i64 d,.string t,.bool b,.int .i64 f] 0;clear pA hB rA O hb qA hB1;go_upto_region 2 with ((with_reducible refine wpList_store_mid ?_ 26 (.tmp 1) (.tmp 6) ?_ w.heap.size 0 #[.int .i64 3,.int .i64 n,.int .i64 d,.string t,.bool b,.int .i64 f] ?_ ?_ ?_ ?_ ?_ ?_);rfl;rfl;rfl;rfl;exact tA;kernel_rfl;exact one6)
 generalize w1.setCells w.heap.size 0 (#[.int .i64 3,.int .i64 n,.int .i64 d,.string t,.bool b,.int .i64 f]:Array Value).toList=W2 at *;obtain ⟨c0,c1,c2,c3,c4,c5⟩:=sA.f6;clear tA one6;go_wp2_with fail
 refine (X _).mono ?_;rintro e w3 ⟨rfl,rfl⟩;go_wp2;go_ret;exact ⟨rfl,hB2⟩
theorem zEQ (w:World):Calls prog 101 #[] w λe w'=>e=.returned (.slice (some ⟨w.heap.size,0,none⟩) 9 9)/\AtL w' w.heap.size fltR/\Below w.heap.size w w':=by
 go_enter func101,ntmps101;go_wp2;go_ret;exact ⟨rfl,AtL.new0 w _ _,zAI (Below.refl _ w) _⟩
theorem zLi (n d:Int) (t:ByteArray) (b:Bool) (f:Int) (w:World) (hr:Wv.right 4 n d t b f=true) (hf1:1<=f) (hf8:f<=8) (C:∀ w,CR 109 #[.agg #[.int .i64 4,.int .i64 n,.int .i64 d,.string t,.bool b,.int .i64 f]] w (.bool (Wv.right 4 n d t b f))) :
  CR 65 #[.agg #[.int .i64 4,.int .i64 n,.int .i64 d,.string t,.bool b,.int .i64 f]] w (.string ⟨(fNames.getD f.toNat []).toArray⟩):=by
 have O:=λw=>zEf 4 n d t b f w hr C
 have X:=λw=>zEQ w
 have hfn:fltR[f.toNat]? = some (.string ⟨(fNames.getD f.toNat []).toArray⟩):=by
  unfold fltR;rw [List.getElem?_map,List.getD_eq_getElem?_getD,List.getElem?_eq_getElem (by show f.toNat<9;omega)];rfl
 generalize fNames.getD f.toNat []=q at *;have pA:=AtL.new0 w 26 [.int .i64 4,.int .i64 n,.int .i64 d,.string t,.bool b,.int .i64 f];have hB:=zAI (Below.refl _ w) (.cells #[.int .i64 4,.int .i64 n,.int .i64 d,.string t,.bool b,.int .i64 f] 26);clear hr C;go_enter func65,ntmps65;go_upto_region 1 with fail
 generalize w.alloc (.cells #[.int .i64 4,.int .i64 n,.int .i64 d,.string t,.bool b,.int .i64 f] 26)=W0 at *;have rA:=pA.range;go_wp2_with ((with_reducible refine wpList_load_mid (cs:=[.int .i64 4,.int .i64 n,.int .i64 d,.string t,.bool b,.int .i64 f]) ?_ 26 (.tmp 1) ?_ w.heap.size 0 ?_ _ ?_ underlying26 ?_ ?_ ?_);rfl;rfl;rfl;exact rA;rfl;kernel_rfl)
 refine (O _).mono ?_;rintro e w1 ⟨rfl,hb⟩;have qA:=AtL.below hb pA;have hB1:=zAA hB hb;have tA:w1.there w.heap.size 0 (#[.int .i64 4,.int .i64 n,.int .i64 d,.string t,.bool b,.int .i64 f]:Array Value).size:=qA.there;have one6:(#[.int .i64 4,.int .i64 n,.int .i64 d,.string t,.bool b,.int .i64 f]:Array Value).all (·.oneCell')=true:=by simp [Value.oneCell']
 have sA:=AtL.setAll qA (vs:=[.int .i64 4,.int .i64 n,.int .i64 d,.string t,.bool b,.int .i64 f]) rfl;have hB2:=zAu hB1 (Nat.le_refl _) [.int .i64 4,.int .i64 n,.int .i64 d,.string t,.bool b,.int .i64 f] 0;clear pA hB rA O hb qA hB1;go_upto_region 2 with ((with_reducible refine wpList_store_mid ?_ 26 (.tmp 1) (.tmp 6) ?_ w.heap.size 0 #[.int .i64 4,.int .i64 n,.int .i64 d,.string t,.bool b,.int .i64 f] ?_ ?_ ?_ ?_ ?_ ?_);rfl;rfl;rfl;rfl;exact tA;kernel_rfl;exact one6)
 generalize w1.setCells w.heap.size 0 (#[.int .i64 4,.int .i64 n,.int .i64 d,.string t,.bool b,.int .i64 f]:Array Value).toList=W2 at *;obtain ⟨c0,c1,c2,c3,c4,c5⟩:=sA.f6;clear tA one6;go_wp2_with fail
 refine (X _).mono ?_;rintro e w3 ⟨rfl,pF,hb⟩;have hB3:=zAA hB2 hb;have qf:=pF.2.1 f.toNat _ hfn;obtain ⟨c0,c1,c2,c3,c4,c5⟩:=(AtL.below hb sA).f6;go_wp2;go_ret;exact ⟨rfl,hB3⟩
