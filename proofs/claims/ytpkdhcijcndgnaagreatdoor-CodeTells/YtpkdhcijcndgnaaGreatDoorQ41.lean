/- KUsP, KTelP, KTelQ, KFl3, KTelR, KNames. -/
import Derived.Test.YtpkdhcijcndgnaaGreatDoorQ40
set_option maxHeartbeats 1600000
set_option maxRecDepth 100000
namespace Go.Proofs.YtpkdhcijcndgnaaGreatDoor
open Tryz
open Go.RowKit
open Go.ChangeMaps (setBlock heap_setBlock_same heap_setBlock_other)
open Go.ChangeShapes Go.WideShapes Go.MapKept
set_option linter.unusedVariables false
variable {U T:List Wpl.Ar} {A a:Wpl.Ar} {k B n i:Nat} {l:List Wt.Nd} {w:World} {own:Int} {nm:List ByteArray} {s:ByteArray}
theorem OwnA.rd {v:Value} {A:List Wpl.Ar} (h:OwnA w B v A):RdA w v A:=by
 rcases h.2 with ⟨e,h0⟩ | ⟨g,cap,cur,e,hb,hg,h1,h2,h3,h4⟩
 ·have hA:A=[]:=List.eq_nil_of_length_eq_zero h0;subst hA;rw [e];exact RdA.nil w
 ·rw [e];refine RdA.at0 λj u hu=>?_
  have hl:=zFF A;have hj:j<A.length * 5:=by
   rw [<-hl];rcases Nat.lt_or_ge j (zBT A).length with q | q
   ·exact q
   ·rw [List.getElem?_eq_none q] at hu;cases hu
  rw [<-h4,List.getElem?_take_of_lt (by omega)] at hu;unfold World.cell?;simp only [hg];simpa using hu
open Go.RowKit Wf Wc
def zq23:ByteArray:=⟨#[82,79,87,83]⟩
def zq21:ByteArray:=⟨#[67,79,76,85,77,78,83]⟩
def rcN (x:Wt.Nd):Bool:=x.k == 6 && (decide (x.nm=zq23) || decide (x.nm=zq21))
theorem zq25 (h:zAc s<63):(⟨(fnN.getD (zAc s) []).toArray⟩:ByteArray)=s:=by
 have h1:fnN.findIdx (λl=>decide ((⟨l.toArray⟩:ByteArray)=s))<fnN.length:=h;have h2:=List.findIdx_getElem (w:=h1);rw [decide_eq_true_eq] at h2;unfold zAc;rw [List.getD_eq_getElem?_getD,List.getElem?_eq_getElem h1];exact h2
theorem zq70 (s:ByteArray):(decide (s=zq23) || decide (s=zq21))=(decide (zAc s=26) || decide (zAc s=27)):=by
 by_cases h1:s=zq23
 ·subst h1;have e:zAc zq23=26:=by kernel_rfl
  simp [e]
 ·by_cases h2:s=zq21
  ·subst h2;have e:zAc zq21=27:=by kernel_rfl
   simp [e]
  ·have a1:zAc s ≠ 26:=λe=>h1 (by
    have:=zq25 (s:=s) (by omega);rw [e] at this;exact this.symm.trans (by kernel_rfl))
   have a2:zAc s ≠ 27:=λe=>h2 (by
    have:=zq25 (s:=s) (by omega);rw [e] at this;exact this.symm.trans (by kernel_rfl))
   simp [h1,h2,a1,a2]
section
variable (own:Int) (nm:List ByteArray)
def arN (x:Wt.Nd):Wpl.Ar:=if x.k=3 then zA5 own nm x else zFM (shN own nm x.a.s) x.a.r x.a.c
def zq6 (p:Bool) (x:Wt.Nd):Bool:=(x.k == 2 || x.k == 3) && !p
def tel:Bool->List Wt.Nd->List Wpl.Ar
 | _,[]=>[]
 | p,x::r=>(if zq6 p x=true then [arN own nm x] else [])++tel (rcN x) r
end
def lst:Bool->List Wt.Nd->Bool
 | p,[]=>p
 | _,x::r=>lst (rcN x) r
theorem zq8 (own:Int) (nm:List ByteArray):∀ (l m:List Wt.Nd) (p:Bool),tel own nm p (l++m)=tel own nm p l++tel own nm (lst p l) m
 | [],m,p=>rfl
 | x::r,m,p=>by simp only [List.cons_append,tel,lst,zq8 own nm r m,List.append_assoc]
theorem zq10:∀ (l m:List Wt.Nd) (p:Bool),lst p (l++m)=lst (lst p l) m
 | [],_,_=>rfl
 | x::r,m,p=>zq10 r m _
theorem zq16 {α:Type} (own:Int) (nm:List ByteArray) (g:α->List Wt.Nd):∀ ks:List α,(∀ k ∈ ks,∀ p,lst p (g k)=false)->tel own nm false ((ks.map g).flatten)=(ks.map (λk=>tel own nm false (g k))).flatten
 | [],_=>rfl
 | k::r,h=>by simp only [List.map_cons,List.flatten_cons,zq8,h k (List.mem_cons_self ..),zq16 own nm g r (λx hx=>h x (List.mem_cons_of_mem _ hx))]
theorem zq15 {α:Type} (g:α->List Wt.Nd):∀ ks:List α,ks ≠ []->(∀ k ∈ ks,∀ p,lst p (g k)=false)->∀ p,lst p ((ks.map g).flatten)=false
 | [k],_,h,p=>by
  rw [List.map_cons,List.map_nil,List.flatten_cons,List.flatten_nil,List.append_nil];exact h k (List.mem_cons_self ..) p
 | k::k2::r,_,h,p=>by
  rw [List.map_cons,List.flatten_cons,zq10];exact zq15 g (k2::r) (by simp) (λx hx=>h x (List.mem_cons_of_mem _ hx)) _
def ma (A:Wpl.Ar) (l:List I):Prop:=A ∈ zDf l
theorem zq1 {l m:List I}:ma A (l++m) ↔ ma A l \/ ma A m:=by
 unfold ma zDf;rw [List.flatMap_append,List.mem_append]
theorem zq3 {x:I} {l:List I}:ma A (x::l) ↔ A ∈ rdA x.1 \/ ma A l:=by
 unfold ma zDf;rw [List.flatMap_cons,List.mem_append]
theorem zq0:ma A [] ↔ False:=by simp [ma,zDf]
theorem zq2 {o a b:Int} {l:List I} (ho:o ≠ 2/\o ≠ 8/\o ≠ 9/\o ≠ 11):ma A (ins o a b::l) ↔ ma A l:=by
 have e:rdA (ins o a b).1=[]:=by
  unfold rdA;show (if o=2 then _ else if o=8 \/ o=11 then _ else if o=9 then _ else [])=_
  rw [if_neg ho.1,if_neg (by omega),if_neg (by omega)]
 rw [zq3,e];simp
theorem zq9 {v:Wt.Vl} {l:List I}:ma A (zB5 v::l) ↔ ma A l:=by
 rw [zq3,show rdA (zB5 v).1=[] from rfl];simp
section
variable {α:Type} {A:Wpl.Ar} {f:α->Nat->List I} {T:α->Prop}
theorem zq4:∀ (ks:List α) (a:Nat),(∀ k ∈ ks,∀ a,ma A (f k a) ↔ T k)->(ma A (zA0 f ks a) ↔ ∃ k ∈ ks,T k)
 | [],a,_=>by simp [zA0,zq0]
 | k::r,a,h=>by
  rw [zA0,zq1,h k (List.mem_cons_self ..),zq4 r _ (λx hx=>h x (List.mem_cons_of_mem _ hx))];simp
theorem zq42 (e:Int):∀ (ks:List α) (a:Nat),(∀ k ∈ ks,∀ a,ma A (f k a) ↔ T k)->(ma A (chB f e ks a) ↔ ∃ k ∈ ks,T k)
 | [],a,_=>by simp [chB,zq0]
 | k::r,a,h=>by
  rw [chB,zq2 (by decide),zq1,h k (List.mem_cons_self ..),zq42 e r _ (λx hx=>h x (List.mem_cons_of_mem _ hx))];simp
theorem zq19 (ks:List α) (a:Nat) (h:∀ k ∈ ks,∀ a,ma A (f k a) ↔ T k):ma A (zBX f ks a) ↔ ∃ k ∈ ks,T k:=by
 cases ks with
 | nil=>simp [zBX,zq3,zq0,rdA]
 | cons k r =>
  simp only [zBX];rw [zq3,zq1,h k (List.mem_cons_self ..),zq42 _ r _ (λx hx=>h x (List.mem_cons_of_mem _ hx))];simp [rdA]
theorem zq53 (yes:α) (no:List α) (a:Nat) (h:∀ k ∈ yes::no,∀ a,ma A (f k a) ↔ T k):ma A (zCC f yes no a) ↔ ∃ k ∈ yes::no,T k:=by
 simp only [zCC];rw [zq2 (by decide),zq1,h yes (List.mem_cons_self ..),zq2 (by decide)];cases no with
 | nil=>simp [zq9,zq0]
 | cons z r =>
  simp only [List.isEmpty_cons,Bool.false_eq_true,if_false];rw [zq4 (z::r) _ (λx hx=>h x (List.mem_cons_of_mem _ hx))];simp
theorem zq44 (id:Int) (ks:List α) (a:Nat) (h31:id=31->ks.length<=2) (h:∀ k ∈ ks,∀ a,ma A (f k a) ↔ T k):ma A (zBm f id ks a) ↔ ∃ k ∈ ks,T k:=by
 cases ks with
 | nil=>simp [zBm,zq0]
 | cons c r =>
  have hr:∀ k ∈ r,∀ a,ma A (f k a) ↔ T k:=λx hx=>h x (List.mem_cons_of_mem _ hx)
  simp only [zBm];rw [zq1,h c (List.mem_cons_self ..)];cases r with
  | nil =>
   simp only;split
   ·rw [zq19 [] _ hr];simp
   ·simp [zq0]
  | cons u no =>
   simp only;split
   ·rw [zq53 u no _ hr];simp
   split
   ·rename_i q1 q2
    have h2:=h31 q2;have hno:no=[]:=by
     cases no with
     | nil=>rfl
     | cons z r=>simp at h2
    subst hno;rw [zq2 (by decide),hr u (List.mem_cons_self ..)];simp
   ·rw [zq19 (u::no) _ hr];simp
theorem zq69 {own:Int} {nm:List ByteArray} {h:α->Wt.Nd} {k:α} (h1:isA (h k)=true->(T k ↔ A=zA5 own nm (h k))) (h2:isA (h k)=false->∀ a,ma A (f k a) ↔ T k) (a:Nat):ma A (zCE own nm h f k a) ↔ T k:=by
 unfold zCE;cases q:isA (h k) with
 | true =>
  rw [if_pos rfl,h1 q,zq3,show rdA (zAw 8 0 (zA5 own nm (h k)) a0I).1=[zA5 own nm (h k)] from rfl];simp [zq0]
 | false =>
  rw [if_neg (by simp)];unfold zAd;rw [zq1,h2 q,zq2 (by decide)];simp [zq0]
theorem zq62 {k:α} (h:∀ a,ma A (f k a) ↔ T k) (a:Nat):ma A (zAd f k a) ↔ T k:=by
 unfold zAd;rw [zq1,h,zq2 (by decide)];simp [zq0]
end
theorem zq33 {id:Nat} (h1:20<=id) (h2:id<=25) {l:List Wt.Nd} (hl:(zAN ((id:Nat):Int)).l<=(l.length:Int)) (hm:(l.length:Int)<=(zAN ((id:Nat):Int)).m) (ht:zAi (zAN ((id:Nat):Int)).p.data.toList l 0=true):(∃ y,zAv l=[y]) \/ (pairs ((id:Nat):Int)=true/\∃ y z,zAv l=[y,z]):=by
 have h:id=20 \/ id=21 \/ id=22 \/ id=23 \/ id=24 \/ id=25:=by omega
 rcases h with rfl | rfl | rfl | rfl | rfl | rfl
 ·have e:zAN ((20:Nat):Int)=⟨2,2,2,⟨#[118,97]⟩⟩:=by kernel_rfl
  rw [e] at hl hm ht;simp only at hl hm ht;match l,hl,hm,ht with
  | [x,y],_,_,ht =>
   simp [zAi] at ht;simp [zAv,ht.1,ht.2]
  | [],hl,_,_=>simp at hl
  | [x],hl,_,_=>simp at hl
  | x::y::z::r,_,hm,_=>simp at hm;omega
 ·have e:zAN ((21:Nat):Int)=⟨2,2,2,⟨#[97,118]⟩⟩:=by kernel_rfl
  rw [e] at hl hm ht;simp only at hl hm ht;match l,hl,hm,ht with
  | [x,y],_,_,ht =>
   simp [zAi] at ht;simp [zAv,ht.1,ht.2]
  | [],hl,_,_=>simp at hl
  | [x],hl,_,_=>simp at hl
  | x::y::z::r,_,hm,_=>simp at hm;omega
 ·have e:zAN ((22:Nat):Int)=⟨2,2,3,⟨#[97,118,97]⟩⟩:=by kernel_rfl
  rw [e] at hl hm ht;simp only at hl hm ht;match l,hl,hm,ht with
  | [x,y],_,_,ht =>
   simp [zAi] at ht;simp [zAv,ht.1,ht.2]
  | [x,y,z],_,_,ht =>
   simp [zAi] at ht;simp [zAv,ht.1,ht.2.1,ht.2.2,pairs]
  | [],hl,_,_=>simp at hl
  | [x],hl,_,_=>simp at hl
  | x::y::z::u::r,_,hm,_=>simp at hm;omega
 ·have e:zAN ((23:Nat):Int)=⟨2,3,3,⟨#[118,97,97]⟩⟩:=by kernel_rfl
  rw [e] at hl hm ht;simp only at hl hm ht;match l,hl,hm,ht with
  | [x,y,z],_,_,ht =>
   simp [zAi] at ht;simp [zAv,ht.1,ht.2.1,ht.2.2,pairs]
  | [],hl,_,_=>simp at hl
  | [x],hl,_,_=>simp at hl
  | [x,y],hl,_,_=>simp at hl
  | x::y::z::u::r,_,hm,_=>simp at hm;omega
 ·have e:zAN ((24:Nat):Int)=⟨2,2,2,⟨#[97]⟩⟩:=by kernel_rfl
  rw [e] at hl hm ht;simp only at hl hm ht;match l,hl,hm,ht with
  | [x,y],_,_,ht =>
   simp [zAi] at ht;simp [zAv,ht.1,ht.2,pairs]
  | [],hl,_,_=>simp at hl
  | [x],hl,_,_=>simp at hl
  | x::y::z::r,_,hm,_=>simp at hm;omega
 ·have e:zAN ((25:Nat):Int)=⟨2,2,3,⟨#[97,118]⟩⟩:=by kernel_rfl
  rw [e] at hl hm ht;simp only at hl hm ht;match l,hl,hm,ht with
  | [x,y],_,_,ht =>
   simp [zAi] at ht;simp [zAv,ht.1,ht.2]
  | [x,y,z],_,_,ht =>
   simp [zAi] at ht;simp [zAv,ht.1,ht.2.1,ht.2.2]
  | [],hl,_,_=>simp at hl
  | [x],hl,_,_=>simp at hl
  | x::y::z::u::r,_,hm,_=>simp at hm;omega
section
variable {α:Type} {A:Wpl.Ar} {f:α->Nat->List I} {T:α->Prop} {own:Int} {nm:List ByteArray} {h:α->Wt.Nd}
theorem zq50 {ks:List α} (h1:∀ k ∈ ks,isA (h k)=true->(T k ↔ A=zA5 own nm (h k))):(∃ k ∈ ks,isA (h k)=true/\T k) ↔ ∃ y ∈ zAv (ks.map h),A=zA5 own nm y:=by
 constructor
 ·rintro ⟨k,hk,q,t⟩;exact ⟨h k,List.mem_filter.2 ⟨List.mem_map.2 ⟨k,hk,rfl⟩,q⟩,(h1 k hk q).1 t⟩
 ·rintro ⟨y,hy,e⟩;obtain ⟨k,hk,e1,q⟩:=zDS hy;subst e1;exact ⟨k,hk,q,(h1 k hk q).2 e⟩
theorem zq67 {ks:List α}:(∃ k ∈ ks.filter (λk=>!isA (h k)),T k) ↔ ∃ k ∈ ks,isA (h k)=false/\T k:=by
 constructor
 ·rintro ⟨k,hk,t⟩;obtain ⟨a,b⟩:=List.mem_filter.1 hk;exact ⟨k,a,by simpa using b,t⟩
 ·rintro ⟨k,hk,q,t⟩;exact ⟨k,List.mem_filter.2 ⟨hk,by simp [q]⟩,t⟩
theorem zq29 {ks:List α}:(∃ k ∈ ks,T k) ↔ (∃ k ∈ ks,isA (h k)=false/\T k) \/ (∃ k ∈ ks,isA (h k)=true/\T k):=by
 constructor
 ·rintro ⟨k,hk,t⟩;cases q:isA (h k) with
  | true=>exact Or.inr ⟨k,hk,q,t⟩
  | false=>exact Or.inl ⟨k,hk,q,t⟩
 ·rintro (⟨k,hk,_,t⟩ | ⟨k,hk,_,t⟩)
  ·exact ⟨k,hk,t⟩
  ·exact ⟨k,hk,t⟩
theorem zq55 {id:Nat} (hi1:20<=id) (hi2:id<=25) {ks:List α} (hl:(zAN ((id:Nat):Int)).l<=(ks.length:Int)) (hm:(ks.length:Int)<=(zAN ((id:Nat):Int)).m) (ht:zAi (zAN ((id:Nat):Int)).p.data.toList (ks.map h) 0=true)
  (h1:∀ k ∈ ks,isA (h k)=true->(T k ↔ A=zA5 own nm (h k))) (h2:∀ k ∈ ks,isA (h k)=false->∀ a,ma A (f k a) ↔ T k) (a:Nat):ma A (zCB own nm h f ((id:Nat):Int) ks a) ↔ ∃ k ∈ ks,T k:=by
 have hv:∀ k ∈ ks.filter (λk=>!isA (h k)),∀ a,ma A (f k a) ↔ T k:=λk hk a=>by
  obtain ⟨p,q⟩:=List.mem_filter.1 hk;exact h2 k p (by simpa using q) a
 have har:=zq33 hi1 hi2 (l:=ks.map h) (by rw [List.length_map];exact hl) (by rw [List.length_map];exact hm) ht;rw [zq29 (h:=h),zq50 h1,<-zq67];unfold zCB;simp only;rw [if_neg (by omega),if_neg (by omega)];by_cases q25:((id:Nat):Int)=25
 ·rw [if_pos q25,zq1,zq4 _ _ hv,zq3];rcases har with ⟨y,e⟩ | ⟨p,_⟩
  ·rw [e];simp [rdA,zAw,zq0]
  ·rw [q25] at p;simp [pairs] at p
 ·rw [if_neg q25,zq2 (by decide),zq1,zq4 _ _ (λk hk a=>zq62 (hv k hk) a),zq3,zq2 (by decide)];rcases har with ⟨y,e⟩ | ⟨p,y,z,e⟩
  ·rw [e];cases qp:pairs ((id:Nat):Int) <;> simp [rdA,zAw,zq0]
  ·rw [e,p];simp [rdA,zAw,zq0]
end
theorem zq37 {x:Wt.Nd} (hx:Wt.right x=true) (hk:x.k=1 \/ x.k=2 \/ x.k=3):x.ar=0:=by
 unfold Wt.right at hx;rcases hk with h | h | h
 ·rw [if_pos h] at hx;simp only [Bool.and_eq_true] at hx;rw [(zGG _ _).1 hx.2]
 ·rw [if_neg (by omega),if_pos h] at hx;simp only [Bool.and_eq_true] at hx;rw [(zGG _ _).1 hx.2]
 ·rw [if_neg (by omega),if_neg (by omega),if_pos h] at hx;simp only [Bool.and_eq_true] at hx;rw [(zGG _ _).1 hx.2]
theorem zq27 {own:Int} {nm:List ByteArray}:∀ (n:Nat) (t:Tr n),zCU n t->zB1 own nm n t=0->(∀ p,lst p (row n t)=false)/\(isA (hd n t)=true->row n t=[hd n t])/\(isA (hd n t)=false->∀ a A,ma A (cod own nm n t a) ↔ A ∈ tel own nm false (row n t))
 | 0,t,_,_=>Empty.elim t
 | n+1,t,hF,hR=>by
  obtain ⟨x,ks⟩:Br (Tr n):=t;have hx:Wt.right x=true:=hF.1;have hp:Wt.parts x=(ks.length:Int):=hF.2.1;have hks:∀ k ∈ ks,zCU n k:=hF.2.2;have hzz:∀ a ∈ zCD own nm x (ks.map (hd n))::ks.map (zB1 own nm n),a=0:=zB2 hR;have hrn:zCD own nm x (ks.map (hd n))=0:=hzz _ (List.mem_cons_self ..);have hrk:∀ t ∈ ks,zB1 own nm n t=0:=λt ht=>hzz _ (List.mem_cons_of_mem _ (List.mem_map.2 ⟨t,ht,rfl⟩))
  have ih:∀ k ∈ ks,_:=λk hk=>zq27 n k (hks k hk) (hrk k hk)
  have hlast:∀ k ∈ ks,∀ p,lst p (row n k)=false:=λk hk=>(ih k hk).1
  have hT1:∀ A,∀ k ∈ ks,isA (hd n k)=true->(A ∈ tel own nm false (row n k) ↔ A=zA5 own nm (hd n k)):=λA k hk q=>by
   rw [(ih k hk).2.1 q];have h3:(hd n k).k=3:=by simpa [isA] using q
   simp [tel,zq6,arN,h3]
  have hT2:∀ A,∀ k ∈ ks,isA (hd n k)=false->∀ a,ma A (cod own nm n k a) ↔ A ∈ tel own nm false (row n k):=λA k hk q a=>(ih k hk).2.2 q a A
  have hmem:∀ A,(A ∈ tel own nm false ((ks.map (row n)).flatten)) ↔ ∃ k ∈ ks,A ∈ tel own nm false (row n k):=λA=>by
   rw [zq16 own nm (row n) ks hlast,List.mem_flatten];constructor
   ·rintro ⟨z,hz,hA⟩;obtain ⟨k,hk,e⟩:=List.mem_map.1 hz;subst e;exact ⟨k,hk,hA⟩
   ·rintro ⟨k,hk,hA⟩;exact ⟨_,List.mem_map.2 ⟨k,hk,rfl⟩,hA⟩
  have hlst:rcN x=false \/ ks ≠ []->∀ p,lst p (x::(ks.map (row n)).flatten)=false:=λh p=>by
   show lst (rcN x) _=false
   by_cases q:ks=[]
   ·subst q;rcases h with h | h
    ·exact h
    ·exact absurd rfl h
   ·exact zq15 (row n) ks q hlast _
  have hnil:x.k=1 \/ x.k=2 \/ x.k=3->ks=[]:=λh=>by
   have h0:=zq37 hx h;unfold Wt.parts at hp;rw [if_neg (by omega),if_neg (by omega),h0] at hp;exact List.eq_nil_of_length_eq_zero (by omega)
  show (∀ p,lst p (x::(ks.map (row n)).flatten)=false)/\(isA x=true->x::(ks.map (row n)).flatten=[x])/\(isA x=false->∀ a A,ma A (zAo own nm (hd n) (cod own nm n) x ks a) ↔ A ∈ (if zq6 false x=true then [arN own nm x] else [])++tel own nm (rcN x) ((ks.map (row n)).flatten))
  have hnr:x.k ≠ 6->rcN x=false:=λh=>by simp [rcN,h]
  have hiA:x.k ≠ 3->isA x=true->x::(ks.map (row n)).flatten=[x]:=λh q=>absurd (by simpa [isA] using q) h
  unfold zAo;rcases zFy hx with h | h | h | h | h | h
  ·have hk:=hnil (Or.inl h);refine ⟨hlst (Or.inl (hnr (by omega))),hiA (by omega),λ_ a A=>?_⟩;subst hk;rw [if_pos h,zq9,zq0];simp [zq6,h,tel]
  ·have hk:=hnil (Or.inr (Or.inl h));refine ⟨hlst (Or.inl (hnr (by omega))),hiA (by omega),λ_ a A=>?_⟩;subst hk;rw [if_neg (by omega),if_pos h,zq3,zq0];simp [zq6,h,tel,arN,rdA,zFL,zEK]
  ·have hk:=hnil (Or.inr (Or.inr h));refine ⟨hlst (Or.inl (hnr (by omega))),λ_=>?_,λq=>?_⟩
   ·subst hk;rfl
   ·simp [isA,h] at q
  ·refine ⟨hlst (Or.inl (hnr (by omega))),hiA (by omega),λ_ a A=>?_⟩;rw [if_neg (by omega),if_neg (by omega),if_pos h,hnr (by omega),zq1];unfold zCD at hrn;rw [if_neg (by omega),if_pos (Or.inl h)] at hrn;have hna:∀ k ∈ ks,isA (hd n k)=false:=λk hk=>by
    cases q:isA (hd n k) with
    | false=>rfl
    | true =>
     rw [if_pos (List.any_eq_true.2 ⟨hd n k,List.mem_map.2 ⟨k,hk,rfl⟩,q⟩)] at hrn;omega
   rw [zq4 ks a (λk hk a=>hT2 A k hk (hna k hk) a),zq2 (by decide),List.mem_append,hmem];simp [zq6,h,zq0]
  ·refine ⟨hlst (Or.inl (hnr (by omega))),hiA (by omega),λ_ a A=>?_⟩;rw [if_neg (by omega),if_neg (by omega),if_neg (by omega),if_pos h,hnr (by omega),zq1];unfold zCD at hrn;rw [if_neg (by omega),if_pos (Or.inr h)] at hrn;have hna:∀ k ∈ ks,isA (hd n k)=false:=λk hk=>by
    cases q:isA (hd n k) with
    | false=>rfl
    | true =>
     rw [if_pos (List.any_eq_true.2 ⟨hd n k,List.mem_map.2 ⟨k,hk,rfl⟩,q⟩)] at hrn;omega
   rw [zq4 ks a (λk hk a=>hT2 A k hk (hna k hk) a),zq2 (by decide),List.mem_append,hmem];simp [zq6,h,zq0]
  ·have hrc:zHa x (ks.map (hd n))=0:=by
    unfold zCD at hrn;rw [if_neg (by omega),if_neg (by omega),if_pos h] at hrn;exact hrn
   obtain ⟨hkn,har,htk⟩:=zCw hrc;have hmx:x.ar<=(zAN ((zAc x.nm:Nat):Int)).m:=by
    unfold zHa at hrc;simp only at hrc;rw [if_neg (by simp [hkn])] at hrc;by_cases q:x.ar<(zAN ((zAc x.nm:Nat):Int)).l \/ (zAN ((zAc x.nm:Nat):Int)).m<x.ar
    ·rw [if_pos q] at hrc;omega
    ·omega
   have hpa:x.ar=(ks.length:Int):=by
    rw [<-hp];unfold Wt.parts;rw [if_neg (by omega),if_neg (by omega)]
   have hrcx:rcN x=(decide (zAc x.nm=26) || decide (zAc x.nm=27)):=by
    unfold rcN;rw [zq70];simp [h]
   have hcl:=zKG x.nm hkn;obtain ⟨id,hid⟩:∃ id,zAc x.nm=id:=⟨_,rfl⟩
   have hsel:zq6 false x=false:=by simp [zq6,h]
   rw [hid] at hkn har htk hmx hcl hrcx;by_cases hq:id=26 \/ id=27
   ·have hone:ks.length=1:=by
     have e:(zAN ((id:Nat):Int)).l=1/\(zAN ((id:Nat):Int)).m=1:=by
      rcases hq with rfl | rfl <;> exact ⟨by kernel_rfl,by kernel_rfl⟩
     omega
    have hr:rcN x=true:=by
     rw [hrcx];rcases hq with q | q <;> simp [q]
    refine ⟨hlst (Or.inr (λq=>by rw [q] at hone;cases hone)),hiA (by omega),λ_ a A=>?_⟩;match ks,hone,htk,ih with
    | [k],_,htk,ih =>
     have hk:isA (hd n k)=true:=by
      have ep:(zAN ((id:Nat):Int)).p.data.toList=[97]:=by
       rcases hq with rfl | rfl <;> kernel_rfl
      rw [ep] at htk;cases q:isA (hd n k) with
      | true=>rfl
      | false=>simp [zAi,q] at htk
     have hrw:=(ih k (List.mem_cons_self ..)).2.1 hk;rw [if_neg (by omega),if_neg (by omega),if_neg (by omega),if_neg (by omega),if_pos h,hr,hsel];have hc2:(zAN ((id:Nat):Int)).c=2:=by rcases hq with rfl | rfl <;> kernel_rfl
     unfold zBs;simp only [hid];rw [if_neg (by omega),if_neg (by omega),if_pos hc2];unfold zCB;simp only [List.map_cons,List.map_nil,List.flatten_cons,List.flatten_nil,List.append_nil,hrw];have h3:(hd n k).k=3:=by simpa [isA] using hk
     rcases hq with rfl | rfl
     ·rw [if_pos (show ((26:Nat):Int)=26 from rfl),zq9,zq0];simp [tel,zq6]
     ·rw [if_neg (by omega),if_pos (show ((27:Nat):Int)=27 from rfl),zq9,zq0];simp [tel,zq6]
   ·have hr:rcN x=false:=by
     rw [hrcx];simp only [Bool.or_eq_false_iff,decide_eq_false_iff_not];omega
    refine ⟨hlst (Or.inl hr),hiA (by omega),λ_ a A=>?_⟩;rw [if_neg (by omega),if_neg (by omega),if_neg (by omega),if_neg (by omega),if_pos h,hr,hsel,List.mem_append,hmem];simp only [Bool.false_eq_true,if_false,List.not_mem_nil,false_or];have hvv:(zAN ((id:Nat):Int)).p.data.toList=[118]->∀ k ∈ ks,∀ a,ma A (cod own nm n k a) ↔ A ∈ tel own nm false (row n k):=λe k hk=>by
     rw [e] at htk;exact hT2 A k hk (zF1 _ 0 htk _ (List.mem_map.2 ⟨k,hk,rfl⟩))
    unfold zBs;simp only [hid];rcases hcl with ⟨hc,hc1⟩ | ⟨hc,hc1,hc2⟩ | ⟨hc,hc1,hc2,hc3⟩ | ⟨hc,hc1⟩
    ·rw [if_neg (by omega),if_pos hc,zq2 (by decide),zq1,zq4 (f:=zCE own nm (hd n) (cod own nm n)) (T:=λk=>A ∈ tel own nm false (row n k)) ks _ (λk hk a=>zq69 (T:=λk=>A ∈ tel own nm false (row n k)) (hT1 A k hk) (hT2 A k hk) a),zq2 (by decide)];simp [zq0]
    ·rw [if_neg (by omega),if_neg (by omega),if_pos hc];exact zq55 (T:=λk=>A ∈ tel own nm false (row n k)) hc1 (by omega) (by omega) (by omega) htk (hT1 A) (hT2 A) a
    ·rw [if_neg (by omega),if_neg (by omega),if_neg (by omega)];refine zq44 _ ks a (λq=>?_) (hvv hc1);have e:(zAN 31).m=2:=by kernel_rfl
     rw [q,e] at hmx;omega
    ·rw [if_pos hc,zq1,zq4 (T:=λk=>A ∈ tel own nm false (row n k)) ks a (hvv hc1),zq2 (by decide)];simp [zq0]
open Go.RowKit Wf Wc
theorem zq39 {F:Nat->Wpl.Cl} {s r1 c1 r2 c2:Int} (h0:F 0=⟨s,r1,c1⟩) (h1:F 1=⟨s,r2,c2⟩) (g0:Wpl.rightC s r1 c1=true) (g1:Wpl.rightC s r2 c2=true):Wpl.hullOk F 2=true/\Wpl.hullV F 2=⟨s,min r1 r2,min c1 c2,max r1 r2,max c1 c2⟩:=by
 have ok:Wpl.hullOk F 2=true:=by simp [Wpl.hullOk,Wpl.anyN,h0,h1,Wpl.lacks,g0,g1]
 refine ⟨ok,?_⟩;unfold Wpl.hullV;rw [if_pos ok];simp [Wpl.hullU,Wpl.oneA,Wpl.grow,h0,h1]
theorem zq20 (A:Wpl.Ar):∀ (l out:List Wpl.Ar),A ∈ ddA out l ↔ A ∈ out \/ A ∈ l
 | [],out=>by simp [ddA]
 | a::r,out=>by
  unfold ddA;split
  ·rename_i h
   obtain ⟨y,hy,e⟩:=List.any_eq_true.1 h;rw [zCk] at e;rw [zq20 A r out,List.mem_cons];constructor
   ·rintro (h | h)
    ·exact Or.inl h
    ·exact Or.inr (Or.inr h)
   ·rintro (h | h | h)
    ·exact Or.inl h
    ·rw [h,<-e];exact Or.inl hy
    ·exact Or.inr h
  ·rw [zq20 A r,List.mem_append,List.mem_singleton,List.mem_cons];constructor
   ·rintro ((h | h) | h)
    ·exact Or.inl h
    ·exact Or.inr (Or.inl h)
    ·exact Or.inr (Or.inr h)
   ·rintro (h | h | h)
    ·exact Or.inl (Or.inl h)
    ·exact Or.inl (Or.inr h)
    ·exact Or.inr h
theorem zq22:∀ (l out:List Wpl.Ar),out.Nodup->(ddA out l).Nodup
 | [],out,h=>h
 | a::r,out,h=>by
  unfold ddA;split
  ·exact zq22 r out h
  ·rename_i q
   refine zq22 r _ (List.nodup_append.2 ⟨h,by simp,λx hx y hy=>?_⟩);rw [List.mem_singleton] at hy;intro e;rw [hy] at e;exact q (List.any_eq_true.2 ⟨x,hx,(zCk _ _).2 e⟩)
theorem zq26 {own:Int} {nm:List ByteArray}:∀ (n:Nat) (t:Tr n),zCU n t->zB1 own nm n t=0->∀ x ∈ row n t,Wt.right x=true/\(x.k=2 \/ x.k=3->0<=shN own nm x.a.s)
 | 0,t,_,_,_,_=>Empty.elim t
 | n+1,t,hF,hR,y,hy=>by
  obtain ⟨x,ks⟩:Br (Tr n):=t;have hzz:∀ a ∈ zCD own nm x (ks.map (hd n))::ks.map (zB1 own nm n),a=0:=zB2 hR;have hrn:zCD own nm x (ks.map (hd n))=0:=hzz _ (List.mem_cons_self ..);have hy':y ∈ x::(ks.map (row n)).flatten:=hy;rcases List.mem_cons.1 hy' with rfl | hy'
  ·refine ⟨hF.1,λh=>?_⟩;unfold zCD at hrn;rw [if_pos h] at hrn;by_cases q:shN own nm y.a.s<0
   ·rw [if_pos q] at hrn;omega
   ·omega
  ·obtain ⟨z,hz,hy2⟩:=List.mem_flatten.1 hy';obtain ⟨k,hk,e⟩:=List.mem_map.1 hz;subst e;exact zq26 n k (hF.2.2 k hk) (hzz _ (List.mem_cons_of_mem _ (List.mem_map.2 ⟨k,hk,rfl⟩))) y hy2
structure Tld (own:Int) (nm:List ByteArray) (l:List Wt.Nd) (U:List Wpl.Ar):Prop where
 nod:U.Nodup
 mem:∀ A,A ∈ U ↔ A ∈ tel own nm false l
 sh:∀ x ∈ l,x.k=2 \/ x.k=3->0<=shN own nm x.a.s
 ca:∀ x ∈ l,x.k=2 \/ x.k=3->Wpl.rightC (shN own nm x.a.s) x.a.r x.a.c=true
 cb:∀ x ∈ l,x.k=3->Wpl.rightC (shN own nm x.a.s) x.b.r x.b.c=true
theorem zq68 {r c:Int} {t:Tr n} (hrow:row n t=l) (hT:zCU n t) (hE:flE own r c nm n t=0):Tld own (nm.take 16) l (usA (flC own nm n t)):=by
 have hck:=(zCS hT hE).1;unfold flE at hE;have h1:Wpl.rightC own r c=true:=by
  cases q:Wpl.rightC own r c with
  | true=>rfl
  | false=>rw [q] at hE;simp at hE
 rw [if_neg (by simp [h1])] at hE;by_cases h2:(nm.length:Int)<=own
 ·rw [if_pos h2] at hE;omega
 rw [if_neg h2] at hE;by_cases h3:zB1 own (nm.take 16) n t=0
 ·rw [if_neg (by simp [h3])] at hE;cases h4:isA (hd n t) with
  | true=>rw [h4] at hE;simp at hE
  | false =>
   have hr:=Wpl.rightC_iff.1 h1;have hl:(nm.take 16).length<=16:=by rw [List.length_take];omega
   have hA:=zq26 n t hT h3;rw [hrow] at hA;have hlt:=λs=>zND (own:=own) (nm:=nm.take 16) ⟨hr.1,hr.2.1⟩ hl s
   have hrf:∀ x ∈ l,x.k=2 \/ x.k=3->Wt.rfOk x.a=true/\(x.k=3->Wt.rfOk x.b=true):=λx hx hk=>by
    have h5:=(hA x hx).1;unfold Wt.right at h5;rcases hk with h | h
    ·rw [if_neg (by omega),if_pos h] at h5;simp only [Bool.and_eq_true] at h5;exact ⟨h5.1,λq=>by omega⟩
    ·rw [if_neg (by omega),if_neg (by omega),if_pos h] at h5;simp only [Bool.and_eq_true] at h5;exact ⟨h5.1.1.1,λ_=>h5.1.1.2⟩
   refine ⟨?_,λA=>?_,λx hx hk=>(hA x hx).2 hk,λx hx hk=>?_,λx hx hk=>?_⟩
   ·unfold usA;rw [if_pos hck];exact zq22 _ _ (by simp)
   ·unfold usA;rw [if_pos hck,zq20,<-hrow,<-(zq27 n t hT h3).2.2 h4 0 A];show _ \/ ma A (cod own (nm.take 16) n t 0++[ins 16 0 0]) ↔ _
    rw [zq1,zq2 (by decide)];simp [zq0]
   ·have h6:=zOm (hrf x hx hk).1;have h7:=(hA x hx).2 hk;have h8:=hlt x.a.s;rw [Wpl.rightC_iff];omega
   ·have h6:=zOm ((hrf x hx (Or.inr hk)).2 hk);have h7:=(hA x hx).2 (Or.inr hk);have h8:=hlt x.a.s;rw [Wpl.rightC_iff];omega
 ·rw [if_pos h3] at hE;exact absurd hE h3
theorem zq38 (l:List Wt.Nd) (nm:List ByteArray) (hl:l.length<=20000) (hF:∀ x ∈ l,Wt.FitN x) (hn:nm.length<=20000):∃ E C,FlC l nm E C/\∀ own r c,E own r c=0->Tld own (nm.take 16) l (usA (C own)):=by
 by_cases q1:Wt.check l=0
 ·obtain ⟨t1,r1,f1,_⟩:=zHc q1;exact ⟨_,_,zDy l nm hF hn q1 _ t1 r1 f1,λown r c h=>zq68 r1 f1 h⟩
 ·exact ⟨_,_,zJA l nm hl hF q1,λown r c h=>absurd h q1⟩
def shF (own:Int) (L:List ByteArray) (s:ByteArray) (i:Nat):Int:=if s=⟨#[]⟩ then own else if idx s (L.drop i) i<0 then own else idx s (L.drop i) i
theorem zq48 (own:Int) (L:List ByteArray) (s:ByteArray):shF own L s L.length=own:=by
 unfold shF;rw [List.drop_length];split
 ·rfl
 ·rfl
theorem zq34 (own:Int) (L:List ByteArray) (s:ByteArray) (i:Nat) (h:i<L.length):shF own L s i=if s=L[i]/\s ≠ ⟨#[]⟩ then (i:Int) else shF own L s (i+1):=by
 unfold shF;rw [List.drop_eq_getElem_cons h];by_cases h1:s=⟨#[]⟩
 ·rw [if_pos h1,if_neg (λq=>q.2 h1),if_pos h1]
 ·rw [if_neg h1,if_neg h1];have e:idx s (L[i]::L.drop (i+1)) i=if L[i]=s then (i:Int) else idx s (L.drop (i+1)) (i+1):=rfl
  rw [e];by_cases h2:s=L[i]
  ·have h3:s=L[i]/\s ≠ ⟨#[]⟩:=⟨h2,h1⟩
   simp only [if_pos h2.symm,if_pos h3];rw [if_neg (by omega)]
  ·have h3:¬ (s=L[i]/\s ≠ ⟨#[]⟩):=λq=>h2 q.1
   have h4:¬ L[i]=s:=λq=>h2 q.symm
   simp only [if_neg h3,if_neg h4]
theorem zq40 {L:List ByteArray} (h:0<=shN own L s):shF own L s 0=shN own L s:=by
 unfold shF;unfold shN at h ⊢;split
 ·rfl
 ·rename_i q
  rw [if_neg q] at h;rw [List.drop_zero,if_neg (by omega)]
def dT (T:List Wpl.Ar) (A:Wpl.Ar):Bool:=T.any (λy=>zCJ y A)
theorem dT_iff:dT T A=true ↔ A ∈ T:=by
 unfold dT;rw [List.any_eq_true];constructor
 ·rintro ⟨y,hy,e⟩;rw [(zCk _ _).1 e] at hy;exact hy
 ·intro h;exact ⟨A,h,(zCk _ _).2 rfl⟩
theorem zq43 (T:List Wpl.Ar) (a A:Wpl.Ar):dT (T++[a]) A=(dT T A || zCJ a A):=by
 unfold dT;rw [List.any_append];simp
theorem zq12 (h:i<l.length) (p:Bool):tel own nm p (l.take (i+1))=tel own nm p (l.take i)++(if zq6 (lst p (l.take i)) l[i]=true then [arN own nm l[i]] else []):=by
 rw [List.take_succ_eq_append_getElem h,zq8];simp [tel]
theorem zq41 (h:i<l.length) (p:Bool):lst p (l.take (i+1))=rcN l[i]:=by
 rw [List.take_succ_eq_append_getElem h,zq10];rfl
open Go.RowKit Wf
theorem zFo {P:Program} {ops:Array Oper} {Q:Exit->Act->World->Prop} {rest:List Oper} {o:Oper} {a:Act} (v:Value) (h0:(Region.wanted o (yielded ops a.tmps)=true/\(execOp a.eval o).run P w=.ok (.value v) w) \/ (Region.wanted o (yielded ops a.tmps)=false/\v=undef)) (h:wpList P ops Q rest (a.put o.dst v) w):wpList P ops Q (o::rest) a w:=by
 rcases h0 with ⟨hw,hr⟩ | ⟨hw,rfl⟩
 ·refine BigFrame.wpList_want hw λK hK=>?_
  unfold Oper.wp;rw [hr];exact hK _ _ h
 ·exact wpList_skip hw h
theorem zq11 {W:World} (hb:Below w.heap.size w W) (hk:w.heap.size<=k) (o:Nat) (v:Value):Below w.heap.size w (W.setCell ⟨k,o,none⟩ v):=zAt hb hk [v] o
theorem zq71 {w2:World} {T:TypeId} {z:Value} {cs:Array Value} (hz:cs=#[z]) (own:w2.ownsRow B T 1 (.slice (some ⟨k,0,none⟩) n n) n (madeCells cs (n * 1)).toList):AtL w2 k (List.replicate n z):=by
 have hcl:=own.cells (g:=k) rfl;refine ⟨(zAK own (g:=k) rfl).2,λj v hv=>?_,λj hj=>?_⟩
 ·obtain ⟨hj,rfl⟩:j<n/\z=v:=by
   rw [List.getElem?_replicate] at hv;split at hv
   ·rename_i q
    exact ⟨q,by simpa using hv⟩
   ·cases hv
  have:=hcl j z (by subst hz;simp [madeCells,Nat.mod_one];exact ⟨j,by rw [List.getElem?_range (by omega)]⟩);rwa [show (⟨k,0,none⟩:Addr).add j=⟨k,j,none⟩ from by simp [Addr.add];intro h;exact h.symm] at this
 ·rcases own.2 with ⟨e,_⟩ | ⟨g,cap',cur,e,_,hg,_,_,hs,_⟩
  ·cases e
  ·simp only [Value.slice.injEq,Option.some.injEq,Addr.mk.injEq] at e;obtain ⟨⟨e1,-,-⟩,-,-⟩:=e;rw [<-e1] at hg;simp [World.frozen?,hg]
theorem zq18:(prog.info? 4).map (λi=>(i.zero,i.size,i.bytes))=some (some (.bool false),1,1):=by kernel_rfl
def foL (T:List Wpl.Ar) (a:Wpl.Ar) (U:List Wpl.Ar) (k:Nat):List Value:=(U.take k).map (λA=>Value.bool (dT (T++[a]) A))++(U.drop k).map (λA=>Value.bool (dT T A))
theorem zq36 (T:List Wpl.Ar) (a:Wpl.Ar) (U:List Wpl.Ar):foL T a U 0=U.map (λA=>Value.bool (dT T A)):=by simp [foL]
theorem zq45 (T:List Wpl.Ar) (a:Wpl.Ar) (U:List Wpl.Ar):foL T a U U.length=U.map (λA=>Value.bool (dT (T++[a]) A)):=by simp [foL]
theorem zq24 (T:List Wpl.Ar) (a:Wpl.Ar) (U:List Wpl.Ar) (k:Nat):(foL T a U k).length=U.length:=by
 simp [foL];omega
theorem zq5 (T:List Wpl.Ar) (a:Wpl.Ar) {U:List Wpl.Ar} {k:Nat} (h:k<U.length):foL T a U k=(U.take k).map (λA=>Value.bool (dT (T++[a]) A))++Value.bool (dT T U[k])::(U.drop (k+1)).map (λA=>Value.bool (dT T A)):=by
 unfold foL;rw [List.drop_eq_getElem_cons h,List.map_cons]
theorem zq14 (T:List Wpl.Ar) (a:Wpl.Ar) {U:List Wpl.Ar} {k:Nat} (h:k<U.length):foL T a U (k+1)=(U.take k).map (λA=>Value.bool (dT (T++[a]) A))++Value.bool (dT (T++[a]) U[k])::(U.drop (k+1)).map (λA=>Value.bool (dT T A)):=by
 unfold foL;rw [List.take_succ_eq_append_getElem h,List.map_append,List.append_assoc];rfl
theorem zq7 {f:Wpl.Ar->Value} (h:k<U.length):((U.take k).map f).length=k:=by
 rw [List.length_map,List.length_take];omega
theorem zq60 (T:List Wpl.Ar) (a:Wpl.Ar) (U:List Wpl.Ar) (k:Nat) (h:k<U.length):(foL T a U k)[k]? = some (.bool (dT T U[k])):=by
 rw [zq5 T a h,List.getElem?_append_right (by rw [zq7 h];omega),zq7 h,Nat.sub_self];rfl
theorem zq46 (h:k<U.length) (e:zCJ U[k] a=true):(foL T a U k).set k (.bool true)=foL T a U (k+1):=by
 have e1:dT (T++[a]) U[k]=true:=by rw [zq43,zJn,e];simp
 rw [zq5 T a h,zq14 T a h,List.set_append_right _ _ (by rw [zq7 h];omega),zq7 h,Nat.sub_self,e1];rfl
theorem zq30 (h:k<U.length) (e:zCJ U[k] a=false):foL T a U k=foL T a U (k+1):=by
 have e1:dT (T++[a]) U[k]=dT T U[k]:=by rw [zq43,zJn,e];simp
 rw [zq5 T a h,zq14 T a h,e1]
def anyT (U:List Wpl.Ar) (a:Wpl.Ar) (k:Nat):Bool:=(U.take k).any (λy=>zCJ y a)
theorem zq17 (h:k<U.length):anyT U a (k+1)=(anyT U a k || zCJ U[k] a):=by
 unfold anyT;rw [List.take_succ_eq_append_getElem h,List.any_append];simp
theorem zq32 (h:a ∈ U):anyT U a U.length=true:=by
 unfold anyT;rw [List.take_length];exact dT_iff.2 h
theorem zq31 {j:Nat} (h:j<l.length):lst false (l.take (j+1))=rcN l[j]:=zq41 h false
theorem zq64 (h:U.Nodup) {i k:Nat} (hi:i<k) (hk:k<U.length):zCJ (U[i]'(by omega)) U[k]=false:=by
 cases q:zCJ (U[i]'(by omega)) U[k] with
 | false=>rfl
 | true =>
  have e:=(zCk _ _).1 q;exact absurd e (List.pairwise_iff_getElem.1 h i k (by omega) hk hi)
theorem zq35 (h:Tld own nm l U) {x:Wt.Nd} (hx:x ∈ l) {s r2 c2:Int} (hs:s=shN own nm x.a.s) (hk:x.k=2 \/ x.k=3) (h3:x.k=3->r2=x.b.r/\c2=x.b.c) (h2:x.k=2->r2=x.a.r/\c2=x.a.c) {F:Nat->Wpl.Cl} (f0:F 0=⟨s,x.a.r,x.a.c⟩) (f1:F 1=⟨s,r2,c2⟩):Wpl.hullOk F 2=true/\Wpl.hullV F 2=arN own nm x:=by
 subst hs;have g0:=h.ca x hx hk;have g1:Wpl.rightC (shN own nm x.a.s) r2 c2=true:=by
  rcases hk with q | q
  ·obtain ⟨e1,e2⟩:=h2 q;rw [e1,e2];exact g0
  ·obtain ⟨e1,e2⟩:=h3 q;rw [e1,e2];exact h.cb x hx q
 obtain ⟨a,b⟩:=zq39 f0 f1 g0 g1;refine ⟨a,?_⟩;rw [b];unfold arN;rcases hk with q | q
 ·obtain ⟨e1,e2⟩:=h2 q;rw [e1,e2,if_neg (by omega)];unfold zFM;rw [if_pos g0];have e:∀ z:Int,min z z=z/\max z z=z:=λz=>by omega
  rw [(e _).1,(e _).1,(e _).2,(e _).2]
 ·obtain ⟨e1,e2⟩:=h3 q;rw [e1,e2,if_pos q];rfl
theorem zq28 (s:ByteArray) (l:List UInt8):(s.toList == l)=decide (s=⟨l.toArray⟩):=by
 rw [Bool.eq_iff_iff,beq_iff_eq,decide_eq_true_eq,<-str_eqb];rw [ByteArray.toList_eq (⟨l.toArray⟩:ByteArray)]
theorem zq65 {bb off:Nat} {L:List Wt.Nd} (h:RdN w (some ⟨bb,off,none⟩) L) (i:Nat) (hi:i<L.length):w.rangeAt bb (off+i * 20) (zAM L[i]):=by
 obtain ⟨b,o,e,h1⟩:=h i hi;simp only [Option.some.injEq,Addr.mk.injEq] at e;obtain ⟨e1,e2,_⟩:=e;subst e1 e2;exact h1
theorem zq63 (L:List I):(usA L).length<=2 * L.length:=by
 unfold usA;by_cases h:chkP rgt L=true
 ·rw [if_pos h];have h1:=zFU (zDf L) [];have h2:=zGX L;rw [List.length_nil,Nat.zero_add] at h1;omega
 ·rw [if_neg h];exact Nat.zero_le _
theorem zq13 (x y:Wpl.Ar) (w:World):(binOp .eql 45 (.agg #[.int .i64 x.s,.int .i64 x.t,.int .i64 x.l,.int .i64 x.b,.int .i64 x.r]) (.agg #[.int .i64 y.s,.int .i64 y.t,.int .i64 y.l,.int .i64 y.b,.int .i64 y.r])).run prog w=.ok (.bool (zCJ x y)) w:=by
 unfold zCJ;by_cases h1:x.s=y.s
 ·by_cases h2:x.t=y.t
  ·by_cases h3:x.l=y.l
   ·by_cases h4:x.b=y.b
    ·by_cases h5:x.r=y.r
     ·simp [go_sem,h1,h2,h3,h4,h5]
     ·simp [go_sem,h1,h2,h3,h4,h5]
    ·simp [go_sem,h1,h2,h3,h4]
   ·simp [go_sem,h1,h2,h3]
  ·simp [go_sem,h1,h2]
 ·simp [go_sem,h1]
def NaP (m:Nat) (w:World) (e:Ending) (w':World):Prop:=(∃ b,e=.returned (.bool b)/\(b=false->m<=20000))/\Below w.heap.size w w'
theorem zJH (nm:List ByteArray) (av:Option Addr) (m cap:Nat) (w:World) (hm:m=nm.length) (hl:nm.length<=9223372036854775807) (hR:RdS w av nm):Calls prog 10 #[.slice av m cap] w (NaP m w):=by
 have HM:Hid (m=nm.length/\nm.length<=9223372036854775807):=⟨hm,hl⟩
 have HR:Hid (RdS w av nm):=hR;clear hm hl hR;go_enter func10,ntmps10;go_wp2_with fail
 go_loopg [3,4] m (λgk u x wr=>∃ (i:Nat) (T:Int),u=.int .i64 T/\x=.int .i64 (i:Int)/\gk=m - i/\i<=m/\Hid (20000<m->T=(m:Int))/\w=wr)
 case atStart=>exact ⟨0,(m:Int),rfl,rfl,rfl,Nat.zero_le _,(λ_=>rfl:20000<m->(m:Int)=(m:Int)),rfl⟩
 case round =>
  obtain ⟨i,T,rfl,rfl,hg,hi,HQ,rfl⟩:=hrel;by_cases hlt:i<m
  ·have hli:(i:Int)<(m:Int):=by omega
   by_cases hT:T<=20000
   ·have hiz:(0:Int)<=(i:Int):=by omega
    have hwi:IntKind.i64.wrap ((i:Int)+1)=(i:Int)+1:=by have:=HM.out;rw [IntKind.wrap_i64];omega
    have hln:i<nm.length:=by have:=HM.out;omega
    obtain ⟨bb,off,rfl,hc⟩:=HR.out i hln;obtain ⟨x,hx⟩:∃ x,nm[i]=x:=⟨_,rfl⟩
    rw [hx] at hc;have HQ2:Hid (¬ 20000<m):=λh=>by have:=HQ.out h;omega
    clear hx hln HQ;go_wp2;go_roundg (m - (i+1))
    case rel=>exact ⟨i+1,_,rfl,by simp,rfl,hlt,(λh=>absurd h HQ2.out:20000<m->_),rfl⟩
    case measure=>omega
   ·have hT2:20000<T:=by omega
    clear HQ;go_wp2;go_ret;exact ⟨⟨true,rfl,λh=>by cases h⟩,Below.refl _ _⟩
  ·have hli:¬ (i:Int)<(m:Int):=by omega
   have HT:Hid (¬ 20000<T->m<=20000):=λh=>by
    rcases Nat.lt_or_ge 20000 m with q | q
    ·have:=HQ.out q;omega
    ·exact q
   clear HQ;by_cases hT:20000<T
   ·go_wp2;go_ret;exact ⟨⟨true,rfl,λh=>by cases h⟩,Below.refl _ _⟩
   ·go_wp2;go_ret;exact ⟨⟨false,rfl,λ_=>HT.out (by omega)⟩,Below.refl _ _⟩
