/- LRefF, LRefG, LRefH. -/
import Derived.Test.YtlggnpohhahdlaaGreatDoorQ44
set_option maxHeartbeats 3200000
set_option maxRecDepth 100000
namespace Wlx
theorem wrd_iff (c:UInt8):wrd c=((cap c || low c) || decide ((c.toNat:Int)=36) || dig c):=rfl
end Wlx
namespace Go.Proofs.YtlggnpohhahdlaaGreatDoor
open Go.Shelf Go.RowKit
set_option linter.unusedVariables false
theorem one_word (b:ByteArray) (q:Nat) (c:UInt8) (t:List UInt8) (w:World) (hs:b.size≤1024) (hq:q<b.size) (hd:b.data.toList.drop q=c::t) (hc:Wlx.wrd c=true) (hdg:Wlx.dig c=false):Calls Tryz.prog 41 #[.string b,.int .i64 q] w fun e w'=>OnePost q (c::t) e∧Below w.heap.size w w':=by
 obtain ⟨_,hbq⟩:=byte_of (x:=[]) (y:=t) (c:=c) hd;have hbq:b[q]=c:=hbq;have eb:(((b[q]).toNat:Nat):Int)=((c.toNat:Nat):Int):=by rw [hbq]
 have D0:=fun w=>rdigit_any c w
 rw [hdg] at D0;have L0:=fun w=>rletter_any c w
 have hqi:(q:Int)<(b.size:Int):=by omega
 have hcls:=(Wlx.cls c).1 hc;have h34:(((c.toNat:Nat):Int) == 34)=false:=by
  refine beq_eq_false_iff_ne.2 (fun e=>hcls.1 ?_);have:c.toNat=34:=by omega
  exact UInt8.toNat_inj.1 this
 have hhit:Wlx.hit (c::t)=3:=Wlx.hit_of (Or.inr (Or.inr (Or.inl ⟨rfl,hc,hdg⟩))) (Wlx.wrdSz_pos.2 hc);obtain ⟨R,hR⟩:∃ R,q+Wlx.sz 3 (c::t)=R:=⟨_,rfl⟩
 have E0:Hid (R=q+1+Wlx.runP Wlx.wrd (b.data.toList.drop (q+1))):=by
  show _=_
  rw [←hR,Wlx.sz3,Wlx.runP_pos hc,←List.drop_drop,hd];show q+(Wlx.runP Wlx.wrd t+1)=q+1+Wlx.runP Wlx.wrd t
  omega
 have HF:Hid (∀ (j:Nat) e,R=j→e=.returned (.tuple #[.agg #[.int .i64 3,.string (b.extract q j),.int .i64 q],.int .i64 j,.int .i64 0,.int .i64 0])→OnePost q (c::t) e):=by
  intro j e h1 h2;subst h1;refine post_plain hcls.2.2.2.1 hhit (by omega) (by omega) rfl (s:=b.extract q R) ?_ (by rw [h2,hR];rfl);rw [Lib.extract_data,hd,←hR,Nat.add_sub_cancel_left]
 cases hl0:(Wlx.cap c || Wlx.low c) with
 | true =>
  rw [hl0] at L0;clear hbq hcls hhit hR hl0 hd hc hdg;go_enter Tryz.func41,Tryz.ntmps41;go_wp2_with fail
  refine (D0 _).mono ?_;rintro e w1 ⟨rfl,rfl⟩;go_wp2_with fail
  refine (L0 _).mono ?_;rintro e w1 ⟨rfl,rfl⟩;go_wp2_with fail
  go_loopg [10] (b.size - (q+1)) (fun gk x wr=>∃ j:Nat,x=.int .i64 j∧gk=b.size - j∧q+1≤j∧j≤b.size∧Hid (R=j+Wlx.runP Wlx.wrd (b.data.toList.drop j))∧wr=((w.alloc (.cells #[.int .i64 0,.string ⟨#[]⟩,.int .i64 0] 79)).alloc (.cells #[.int .i64 3,.string ⟨#[]⟩,.int .i64 q] 79)))
  case atStart=>exact ⟨q+1,by simp,rfl,Nat.le_refl _,hq,E0,rfl⟩
  case round =>
   clear E0;obtain ⟨j,rfl,hg,hj0,hj,HR,rfl⟩:=hrel;have k1:(q:Int)≤(j:Int):=by omega
   have k2:(j:Int)≤(b.size:Int):=by omega
   by_cases hlt:j<b.size
   ·have hli:(j:Int)<(b.size:Int):=by omega
    have LT:=fun w=>rletter_any (b[j]) w
    have DG:=fun w=>rdigit_any (b[j]) w
    have hdj:=drop_at b j hlt;obtain ⟨x,hx⟩:∃ x,b[j]=x:=⟨_,rfl⟩
    rw [hx] at LT DG hdj;have ebj:(((b[j]).toNat:Nat):Int)=((x.toNat:Nat):Int):=by rw [hx]
    clear hx;cases hw:Wlx.wrd x with
    | true =>
     have E:Hid (R=(j+1)+Wlx.runP Wlx.wrd (b.data.toList.drop (j+1))):=by
      show _=_;rw [HR.out,hdj,Wlx.runP_pos hw];omega
     cases hlx:(Wlx.cap x || Wlx.low x) with
     | true =>
      rw [hlx] at LT;clear HR hdj hw hlx DG;go_wp2_with fail
      refine (LT _).mono ?_;rintro e w1 ⟨rfl,rfl⟩;go_wp2_with fail
      go_roundg (b.size - (j+1))
      case rel=>exact ⟨j+1,by simp,rfl,by omega,hlt,E,by first | trivial | rfl⟩
      case measure=>omega
     | false =>
      rw [hlx] at LT;cases hdx:Wlx.dig x with
      | true =>
       rw [hdx] at DG;clear HR hdj hw hlx hdx;go_wp2_with fail
       refine (LT _).mono ?_;rintro e w1 ⟨rfl,rfl⟩;go_wp2_with fail
       refine (DG _).mono ?_;rintro e w1 ⟨rfl,rfl⟩;go_wp2_with fail
       go_roundg (b.size - (j+1))
       case rel=>exact ⟨j+1,by simp,rfl,by omega,hlt,E,by first | trivial | rfl⟩
       case measure=>omega
      | false =>
       rw [hdx] at DG;have h36x:(((x.toNat:Nat):Int) == 36)=true:=by
        rw [Wlx.wrd_iff,hlx,hdx] at hw;simp at hw;rw [beq_iff_eq];omega
       clear HR hdj hw hlx hdx;go_wp2_with fail
       refine (LT _).mono ?_;rintro e w1 ⟨rfl,rfl⟩;go_wp2_with fail
       refine (DG _).mono ?_;rintro e w1 ⟨rfl,rfl⟩;go_wp2_with fail
       go_roundg (b.size - (j+1))
       case rel=>exact ⟨j+1,by simp,rfl,by omega,hlt,E,by first | trivial | rfl⟩
       case measure=>omega
    | false =>
     have E:Hid (R=j):=by show _=_;rw [HR.out,hdj,Wlx.runP_neg hw];rfl
     have hw2:=hw;rw [Wlx.wrd_iff] at hw2;simp only [Bool.or_eq_false_iff] at hw2;have hlx:(Wlx.cap x || Wlx.low x)=false:=by rw [hw2.1.1.1,hw2.1.1.2];rfl
     have h36x:(((x.toNat:Nat):Int) == 36)=false:=by
      have:=of_decide_eq_false hw2.1.2;exact beq_eq_false_iff_ne.2 this
     rw [hlx] at LT;rw [hw2.2] at DG;clear HR hdj hw hlx hw2;go_wp2_with fail
     refine (LT _).mono ?_;rintro e w1 ⟨rfl,rfl⟩;go_wp2_with fail
     refine (DG _).mono ?_;rintro e w1 ⟨rfl,rfl⟩;go_wp2;refine bodyPost_ret (v:=.tuple #[.agg #[.int .i64 3,.string (b.extract q j),.int .i64 q],.int .i64 j,.int .i64 0,.int .i64 0]) (by simp [results,Tryz.results41,go_sem]) rfl ⟨HF.out _ _ E.out rfl,?_⟩;exact ((Below.refl _ w).alloc (Nat.le_refl _) _).alloc (by simp) _
   ·have hli:¬ (j:Int)<(b.size:Int):=by omega
    have E:Hid (R=j):=by show _=_;rw [HR.out,drop_end b j hlt];rfl
    clear HR;go_wp2;refine bodyPost_ret (v:=.tuple #[.agg #[.int .i64 3,.string (b.extract q j),.int .i64 q],.int .i64 j,.int .i64 0,.int .i64 0]) (by simp [results,Tryz.results41,go_sem]) rfl ⟨HF.out _ _ E.out rfl,?_⟩;exact ((Below.refl _ w).alloc (Nat.le_refl _) _).alloc (by simp) _
 | false =>
  rw [hl0] at L0;have h36:(((c.toNat:Nat):Int) == 36)=true:=by
   rw [Wlx.wrd_iff,hl0,hdg] at hc;simp at hc;rw [beq_iff_eq];omega
  clear hbq hcls hhit hR hl0 hd hc hdg;go_enter Tryz.func41,Tryz.ntmps41;go_wp2_with fail
  refine (D0 _).mono ?_;rintro e w1 ⟨rfl,rfl⟩;go_wp2_with fail
  refine (L0 _).mono ?_;rintro e w1 ⟨rfl,rfl⟩;go_wp2_with fail
  go_loopg [10] (b.size - (q+1)) (fun gk x wr=>∃ j:Nat,x=.int .i64 j∧gk=b.size - j∧q+1≤j∧j≤b.size∧Hid (R=j+Wlx.runP Wlx.wrd (b.data.toList.drop j))∧wr=((w.alloc (.cells #[.int .i64 0,.string ⟨#[]⟩,.int .i64 0] 79)).alloc (.cells #[.int .i64 3,.string ⟨#[]⟩,.int .i64 q] 79)))
  case atStart=>exact ⟨q+1,by simp,rfl,Nat.le_refl _,hq,E0,rfl⟩
  case round =>
   clear E0;obtain ⟨j,rfl,hg,hj0,hj,HR,rfl⟩:=hrel;have k1:(q:Int)≤(j:Int):=by omega
   have k2:(j:Int)≤(b.size:Int):=by omega
   by_cases hlt:j<b.size
   ·have hli:(j:Int)<(b.size:Int):=by omega
    have LT:=fun w=>rletter_any (b[j]) w
    have DG:=fun w=>rdigit_any (b[j]) w
    have hdj:=drop_at b j hlt;obtain ⟨x,hx⟩:∃ x,b[j]=x:=⟨_,rfl⟩
    rw [hx] at LT DG hdj;have ebj:(((b[j]).toNat:Nat):Int)=((x.toNat:Nat):Int):=by rw [hx]
    clear hx;cases hw:Wlx.wrd x with
    | true =>
     have E:Hid (R=(j+1)+Wlx.runP Wlx.wrd (b.data.toList.drop (j+1))):=by
      show _=_;rw [HR.out,hdj,Wlx.runP_pos hw];omega
     cases hlx:(Wlx.cap x || Wlx.low x) with
     | true =>
      rw [hlx] at LT;clear HR hdj hw hlx DG;go_wp2_with fail
      refine (LT _).mono ?_;rintro e w1 ⟨rfl,rfl⟩;go_wp2_with fail
      go_roundg (b.size - (j+1))
      case rel=>exact ⟨j+1,by simp,rfl,by omega,hlt,E,by first | trivial | rfl⟩
      case measure=>omega
     | false =>
      rw [hlx] at LT;cases hdx:Wlx.dig x with
      | true =>
       rw [hdx] at DG;clear HR hdj hw hlx hdx;go_wp2_with fail
       refine (LT _).mono ?_;rintro e w1 ⟨rfl,rfl⟩;go_wp2_with fail
       refine (DG _).mono ?_;rintro e w1 ⟨rfl,rfl⟩;go_wp2_with fail
       go_roundg (b.size - (j+1))
       case rel=>exact ⟨j+1,by simp,rfl,by omega,hlt,E,by first | trivial | rfl⟩
       case measure=>omega
      | false =>
       rw [hdx] at DG;have h36x:(((x.toNat:Nat):Int) == 36)=true:=by
        rw [Wlx.wrd_iff,hlx,hdx] at hw;simp at hw;rw [beq_iff_eq];omega
       clear HR hdj hw hlx hdx;go_wp2_with fail
       refine (LT _).mono ?_;rintro e w1 ⟨rfl,rfl⟩;go_wp2_with fail
       refine (DG _).mono ?_;rintro e w1 ⟨rfl,rfl⟩;go_wp2_with fail
       go_roundg (b.size - (j+1))
       case rel=>exact ⟨j+1,by simp,rfl,by omega,hlt,E,by first | trivial | rfl⟩
       case measure=>omega
    | false =>
     have E:Hid (R=j):=by show _=_;rw [HR.out,hdj,Wlx.runP_neg hw];rfl
     have hw2:=hw;rw [Wlx.wrd_iff] at hw2;simp only [Bool.or_eq_false_iff] at hw2;have hlx:(Wlx.cap x || Wlx.low x)=false:=by rw [hw2.1.1.1,hw2.1.1.2];rfl
     have h36x:(((x.toNat:Nat):Int) == 36)=false:=by
      have:=of_decide_eq_false hw2.1.2;exact beq_eq_false_iff_ne.2 this
     rw [hlx] at LT;rw [hw2.2] at DG;clear HR hdj hw hlx hw2;go_wp2_with fail
     refine (LT _).mono ?_;rintro e w1 ⟨rfl,rfl⟩;go_wp2_with fail
     refine (DG _).mono ?_;rintro e w1 ⟨rfl,rfl⟩;go_wp2;refine bodyPost_ret (v:=.tuple #[.agg #[.int .i64 3,.string (b.extract q j),.int .i64 q],.int .i64 j,.int .i64 0,.int .i64 0]) (by simp [results,Tryz.results41,go_sem]) rfl ⟨HF.out _ _ E.out rfl,?_⟩;exact ((Below.refl _ w).alloc (Nat.le_refl _) _).alloc (by simp) _
   ·have hli:¬ (j:Int)<(b.size:Int):=by omega
    have E:Hid (R=j):=by show _=_;rw [HR.out,drop_end b j hlt];rfl
    clear HR;go_wp2;refine bodyPost_ret (v:=.tuple #[.agg #[.int .i64 3,.string (b.extract q j),.int .i64 q],.int .i64 j,.int .i64 0,.int .i64 0]) (by simp [results,Tryz.results41,go_sem]) rfl ⟨HF.out _ _ E.out rfl,?_⟩;exact ((Below.refl _ w).alloc (Nat.le_refl _) _).alloc (by simp) _
end Go.Proofs.YtlggnpohhahdlaaGreatDoor
namespace Wlx
theorem nameSz_pos {l:List UInt8}:∀ (ns:List (List UInt8)),0<nameSz l ns→∃ n ∈ ns,begins n l=true∧nameSz l ns=n.length
 | [],h=>by simp [nameSz] at h
 | n::r,h=>by
  unfold nameSz at h ⊢;cases hb:begins n l with
  | true=>rw [if_pos rfl];exact ⟨n,by simp,hb,rfl⟩
  | false =>
   rw [hb,if_neg (by decide)] at h;obtain ⟨x,hx,h1,h2⟩:=nameSz_pos r h;rw [if_neg (by decide)];exact ⟨x,by simp [hx],h1,h2⟩
theorem nameSz_cons (l x:List UInt8) (r:List (List UInt8)):nameSz l (x::r)=if begins x l then x.length else nameSz l r:=rfl
theorem nameSz_snoc {l:List UInt8} (n:List UInt8):∀ (ns:List (List UInt8)),(∀ x ∈ ns,0<x.length)→nameSz l (ns++[n])=if 0<nameSz l ns then nameSz l ns else if begins n l then n.length else 0
 | [],_=>by simp [nameSz]
 | x::r,h=>by
  have ih:=nameSz_snoc (l:=l) n r (fun y hy=>h y (by simp [hy]));have hx:=h x (by simp);rw [List.cons_append,nameSz_cons,nameSz_cons];cases hb:begins x l with
  | true=>simp only [if_true,hx]
  | false=>simp only [Bool.false_eq_true,if_false,ih]
theorem begins_two {a b l:List UInt8} (h1:begins a l=true) (h2:begins b l=true):begins a b=true ∨ begins b a=true:=by
 obtain ⟨s,hs⟩:=(begins_iff a l).1 h1;obtain ⟨t,ht⟩:=(begins_iff b l).1 h2;rw [hs] at ht;by_cases hl:a.length≤b.length
 ·left
  have e1:=congrArg (List.take a.length) ht;rw [List.take_left,List.take_append_of_le_length hl] at e1;exact (begins_iff a b).2 ⟨b.drop a.length,by conv=>lhs;rw [←List.take_append_drop a.length b,←e1]⟩
 ·right
  have e1:=congrArg (List.take b.length) ht;rw [List.take_append_of_le_length (by omega),List.take_left] at e1;exact (begins_iff b a).2 ⟨a.drop b.length,by conv=>lhs;rw [←List.take_append_drop b.length a,e1]⟩
theorem faults_apart:∀ i:Fin 8,∀ n ∈ faults.take i,begins n (faults[i]'(i.2))=false∧begins (faults[i]'(i.2)) n=false:=by decide
theorem faults_long:∀ x ∈ faults,0<x.length:=by decide
theorem faults_short:∀ x ∈ faults,x.length≤8:=by decide
theorem fault_once {l:List UInt8} {i:Nat} (hi:i<8) (h:0<nameSz l (faults.take i)):begins (faults[i]'hi) l=false:=by
 obtain ⟨n,hn,hb,_⟩:=nameSz_pos _ h;cases hc:begins (faults[i]'hi) l with
 | false=>rfl
 | true =>
  have g:begins n (faults[i]'hi)=false∧begins (faults[i]'hi) n=false:=faults_apart ⟨i,hi⟩ n hn;rcases begins_two hb hc with h1 | h1
  ·rw [g.1] at h1;cases h1
  ·rw [g.2] at h1;cases h1
theorem fault_step {l:List UInt8} {i:Nat} (hi:i<8):nameSz l (faults.take (i+1))=if 0<nameSz l (faults.take i) then nameSz l (faults.take i) else if begins (faults[i]'hi) l then (faults[i]'hi).length else 0:=by
 have e:faults.take (i+1)=faults.take i++[faults[i]'hi]:=List.take_succ_eq_append_getElem hi;rw [e];exact nameSz_snoc _ _ (fun x hx=>faults_long x (List.mem_of_mem_take hx))
end Wlx
namespace Go.Proofs.YtlggnpohhahdlaaGreatDoor
open Go.Shelf Go.RowKit
set_option linter.unusedVariables false
theorem hit_fault {t:List UInt8} (h:Wlx.nameSz (35::t) Wlx.faults=0):Wlx.hit (35::t)=6:=by
 refine Wlx.hit_none fun j a b=>?_
 have:j=1 ∨ j=2 ∨ j=3 ∨ j=4 ∨ j=5:=by omega
 rcases this with rfl | rfl | rfl | rfl | rfl
 ·have:¬ 0<Wlx.numSz (35::t):=fun h=>absurd (Wlx.numSz_pos.1 h) (by decide)
  rw [Wlx.sz1];omega
 ·have:¬ 0<Wlx.txtSz (35::t):=fun h=>absurd (Wlx.txtSz_pos h) (by decide)
  rw [Wlx.sz2];omega
 ·have:¬ 0<Wlx.runP Wlx.wrd (35::t):=fun h=>absurd (Wlx.wrdSz_pos.1 h) (by decide)
  rw [Wlx.sz3];omega
 ·exact h
 ·have:¬ 0<Wlx.nameSz (35::t) Wlx.marks:=fun h=>absurd (Wlx.markSz_pos h) (by decide)
  rw [Wlx.sz5];omega
theorem dig35:Wlx.dig 35=false:=rfl
theorem let35:(Wlx.cap 35 || Wlx.low 35)=false:=rfl
abbrev FaS (k4:Nat) (k q:Int) (W:World):Prop :=
 AtL W k4 [.int .i64 0,.string ⟨#[]⟩,.int .i64 0]∧AtL W (k4+1) [.int .i64 k,.string ⟨#[]⟩,.int .i64 q]
theorem one_fault (b:ByteArray) (q:Nat) (t:List UInt8) (w:World) (hs:b.size≤1024) (hq:q<b.size) (hd:b.data.toList.drop q=35::t):Calls Tryz.prog 41 #[.string b,.int .i64 q] w fun e w'=>OnePost q (35::t) e∧Below w.heap.size w w':=by
 obtain ⟨_,hbq⟩:=byte_of (x:=[]) (y:=t) (c:=35) hd;have hbq:b[q]=35:=hbq;have eb:(((b[q]).toNat:Nat):Int)=35:=by rw [hbq];rfl
 have e35:((((35:UInt8).toNat:Nat):Int))=35:=rfl;have D0:=fun w=>rdigit_any 35 w
 have L0:=fun w=>rletter_any 35 w
 rw [e35,dig35] at D0;rw [e35,let35] at L0;have hqi:(q:Int)<(b.size:Int):=by omega
 have BG:=fun (n:List UInt8) (h:n.length≤8) w=>rbegins_any b ⟨n.toArray⟩ q w (by omega) hs (by show n.length≤100;omega)
 rw [hd] at BG;have BG:Hid (∀ (n:List UInt8),n.length≤8→∀ w,Calls Tryz.prog 68 #[.string b,.int .i64 q,.string ⟨n.toArray⟩] w fun e w'=>e=.returned (.bool (Wlx.begins n (35::t)))∧w=w'):=BG;have hsz:=size_of (by omega:q≤b.size) hd;have hle:=Wlx.nameSz_le (35::t) Wlx.faults;have HF1:Hid (∀ (m:Nat) e,0<m→Wlx.nameSz (35::t) Wlx.faults=m→e=.returned (.tuple #[.agg #[.int .i64 4,.string (b.extract q (q+m)),.int .i64 q],.int .i64 ((q+m:Nat):Int),.int .i64 0,.int .i64 0])→OnePost q (35::t) e):=by
  intro m e h0 h1 h2;have hh:Wlx.hit (35::t)=4:=Wlx.hit_of (Or.inr (Or.inr (Or.inr (Or.inl ⟨rfl,rfl⟩)))) (by rw [Wlx.sz4,h1];exact h0);refine post_plain (by decide) hh (by omega) (by omega) h1 (s:=b.extract q (q+m)) ?_ h2;rw [Lib.extract_data,hd,Nat.add_sub_cancel_left]
 have HF2:Hid (Wlx.nameSz (35::t) Wlx.faults=0→OnePost q (35::t) (.returned (.tuple #[.agg #[.int .i64 0,.string ⟨#[]⟩,.int .i64 q],.int .i64 0,.int .i64 40,.int .i64 q]))):=fun h=>Or.inl ⟨hit_fault h,0,⟨#[]⟩,rfl⟩
 clear hbq hd e35;obtain ⟨l,hl⟩:∃ l,35::t=l:=⟨_,rfl⟩
 rw [hl] at BG HF1 HF2 hsz hle ⊢;clear hl;go_enter Tryz.func41,Tryz.ntmps41;go_wp2_with fail
 refine (D0 _).mono ?_;rintro e w1 ⟨rfl,rfl⟩;go_wp2_with fail
 refine (L0 _).mono ?_;rintro e w1 ⟨rfl,rfl⟩;go_wp2_with fail
 refine (rfaults_any _).mono ?_;rintro e w1 ⟨rfl,hw1⟩;have p4:AtL w1 w.heap.size [.int .i64 0,.string ⟨#[]⟩,.int .i64 0]:=by rw [hw1];exact ((AtL.new0 w 79 [.int .i64 0,.string ⟨#[]⟩,.int .i64 0]).alloc _).alloc _
 have p9:AtL w1 (w.heap.size+1) [.int .i64 0,.string ⟨#[]⟩,.int .i64 q]:=by rw [hw1];exact (AtL.new1 w _ 79 [.int .i64 0,.string ⟨#[]⟩,.int .i64 q]).alloc _
 have pS:AtL w1 (w.heap.size+2) (strs Wlx.faults):=by rw [hw1];exact AtL.new _ 9 (by simp) (strs Wlx.faults)
 have hB:Below w.heap.size w w1:=by rw [hw1];exact (((Below.refl _ w).alloc (Nat.le_refl _) _).alloc (by simp) _).alloc (by simp;omega) _
 have hsl:(((w.alloc (.cells #[.int .i64 0,.string ⟨#[]⟩,.int .i64 0] 79)).alloc (.cells #[.int .i64 0,.string ⟨#[]⟩,.int .i64 q] 79)).heap.size)=w.heap.size+2:=by simp
 have HFa:FaS w.heap.size 0 q w1:=⟨p4,p9⟩
 have HSt:Hid (AtL w1 (w.heap.size+2) (strs Wlx.faults)):=pS;clear p4 p9 pS hw1 D0 L0 hsl;go_wp2_with fail
 go_loopg [10,16] 8 (fun gk y x wr=>∃ (i m en:Nat) (kk:Int),x=.int .i64 i∧y=.int .i64 en∧gk=8 - i∧i≤8∧Hid (m=Wlx.nameSz l (Wlx.faults.take i))∧(m=0→en=q+1∧kk=0)∧(0<m→en=q+m∧kk=4)∧Hid (FaS w.heap.size kk q wr)∧Hid (AtL wr (w.heap.size+2) (strs Wlx.faults))∧Below w.heap.size w wr)
 case atStart=>exact ⟨0,0,q+1,0,rfl,by simp,rfl,by omega,(rfl:0=Wlx.nameSz l (Wlx.faults.take 0)),fun _=>⟨rfl,rfl⟩,fun h=>by omega,HFa,HSt,hB⟩
 case round =>
  clear HFa HSt hB;obtain ⟨i,m,en,kk,rfl,rfl,hg,hi8,HM,hm0,hm1,HFa,HSt,hB⟩:=hrel;obtain ⟨p4,p9⟩:=HFa.out;have ksz:=hB.size;by_cases hlt:i<8
  ·have hli:(i:Int)<8:=by omega
   obtain ⟨x,hx⟩:∃ x,Wlx.faults[i]'hlt=x:=⟨_,rfl⟩
   have hxm:x ∈ Wlx.faults:=by rw [←hx];exact List.getElem_mem hlt
   have hxs:=Wlx.faults_short x hxm;have hxl:=Wlx.faults_long x hxm;have ci:wr.cell? ⟨w.heap.size+2,i,none⟩=some (.string ⟨x.toArray⟩):=HSt.out.2.1 i _ (by unfold strs;rw [List.getElem?_map,List.getElem?_eq_getElem hlt,hx];rfl);have B:=BG.out x hxs wr;have hst:=Wlx.fault_step (l:=l) hlt;have hon:=Wlx.fault_once (l:=l) hlt;rw [hx] at hst hon;rw [←HM.out] at hst hon;obtain ⟨X,hX⟩:∃ X:ByteArray,(⟨x.toArray⟩:ByteArray)=X:=⟨_,rfl⟩
   have hXs:X.size=x.length:=by rw [←hX];rfl
   rw [hX] at ci B;obtain ⟨c0,c1,c2,c3,c4,c5⟩:=p9.three;cases hbx:Wlx.begins x l with
   | true =>
    have hmz:m=0:=by
     by_cases h:0<m
     ·have:=hon h;rw [hbx] at this;cases this
     ·omega
    obtain ⟨rfl,rfl⟩:=hm0 hmz;rw [hmz,if_neg (by omega),hbx,if_pos rfl] at hst;rw [hbx] at B;have HM2:Hid (X.size=Wlx.nameSz l (Wlx.faults.take (i+1))):=by show _=_;rw [hst,hXs]
    have HFa2:Hid (FaS w.heap.size 4 q (wr.setCell ⟨w.heap.size+1,0,none⟩ (.int .i64 4))):=⟨p4.far (by omega) _ _,p9.set 0 (.int .i64 4)⟩
    have HSt2:Hid (AtL (wr.setCell ⟨w.heap.size+1,0,none⟩ (.int .i64 4)) (w.heap.size+2) (strs Wlx.faults)):=HSt.out.far (by omega) _ _;have hB2:Below w.heap.size w (wr.setCell ⟨w.heap.size+1,0,none⟩ (.int .i64 4)):=hB.setCell (p:=⟨w.heap.size+1,0,none⟩) (by show w.heap.size≤w.heap.size+1;omega) _;have ci2:(wr.setCell ⟨w.heap.size+1,0,none⟩ (.int .i64 4)).cell? ⟨w.heap.size+2,i,none⟩=some (.string X):=by rw [World.cell?_setCell_far _ _ _ _ (by simp)];exact ci
    have hXb:X.size≤8:=by omega
    have hX0:0<X.size:=by omega
    clear hst hon hbx HM hm0 hm1 hX hXs hxm hxs hxl hx HFa HSt p4 p9 hmz BG hB;go_wp2_with fail
    refine B.mono ?_;rintro e w2 ⟨rfl,rfl⟩;go_wp2_with fail
    go_roundg (8 - (i+1))
    case rel=>exact ⟨i+1,X.size,q+X.size,4,by simp,by simp,rfl,by omega,HM2,fun h=>by omega,fun _=>⟨rfl,rfl⟩,HFa2,HSt2,hB2⟩
    case measure=>omega
   | false =>
    have HM2:Hid (m=Wlx.nameSz l (Wlx.faults.take (i+1))):=by
     show _=_
     rw [hst,hbx];by_cases h:0<m
     ·rw [if_pos h]
     ·rw [if_neg h,if_neg (by decide)];omega
    rw [hbx] at B;clear hst hon hbx HM hX hXs hxm hxs hxl hx p4 p9 BG;go_wp2_with fail
    refine B.mono ?_;rintro e w2 ⟨rfl,rfl⟩;go_wp2_with fail
    go_roundg (8 - (i+1))
    case rel=>exact ⟨i+1,m,en,kk,by simp,rfl,rfl,by omega,HM2,hm0,hm1,HFa,HSt,hB⟩
    case measure=>omega
  ·obtain rfl:i=8:=by omega
   have HM2:Hid (Wlx.nameSz l Wlx.faults=m):=by show _=_;rw [HM.out];rfl
   have hml:m≤l.length:=by rw [←HM2.out];exact hle
   obtain ⟨a0,a1,a2,a3,a4,a5⟩:=p4.three;obtain ⟨c0,c1,c2,c3,c4,c5⟩:=p9.three;generalize hk4:w.heap.size=k4 at *;have hn1:¬ (k4=k4+1):=by omega
   by_cases hm:0<m
   ·obtain ⟨rfl,rfl⟩:=hm1 hm;have HP:Hid (∀ e,e=.returned (.tuple #[.agg #[.int .i64 4,.string (b.extract q (q+m)),.int .i64 q],.int .i64 ((q+m:Nat):Int),.int .i64 0,.int .i64 0])→OnePost q l e):=fun e he=>HF1.out m e hm HM2.out he
    have k1:(q:Int)≤(q:Int)+(m:Int):=by omega
    have k2:(q:Int)+(m:Int)≤(b.size:Int):=by omega
    clear hm0 hm1 HM HM2 HF1 HF2 HFa HSt BG p4 p9;go_wp2;refine bodyPost_ret (v:=.tuple #[.agg #[.int .i64 4,.string (b.extract q (q+m)),.int .i64 q],.int .i64 ((q:Int)+(m:Int)),.int .i64 0,.int .i64 0]) (by simp [results,Tryz.results41,go_sem, *]) rfl ⟨HP.out _ (by simp),?_⟩;rw [hk4];exact put3_below (k:=k4) (hB.setCell (p:=⟨k4+1,1,none⟩) (by show k4≤k4+1;omega) _) (Nat.le_refl _) _ _ _
   ·have hmz:m=0:=by omega
    obtain ⟨rfl,rfl⟩:=hm0 hmz;have HP:Hid (OnePost q l (.returned (.tuple #[.agg #[.int .i64 0,.string ⟨#[]⟩,.int .i64 q],.int .i64 0,.int .i64 40,.int .i64 q]))):=HF2.out (by rw [HM2.out];exact hmz);clear hm0 hm1 HM HM2 HF1 HF2 HFa HSt BG p4 p9 hm hmz;go_wp2;refine bodyPost_ret (v:=.tuple #[.agg #[.int .i64 0,.string ⟨#[]⟩,.int .i64 q],.int .i64 0,.int .i64 40,.int .i64 q]) (by simp [results,Tryz.results41,go_sem, *]) rfl ⟨HP.out,?_⟩;rw [hk4];exact put3_below (k:=k4) hB (Nat.le_refl _) _ _ _
end Go.Proofs.YtlggnpohhahdlaaGreatDoor
namespace Wlx
def singles:List UInt8:=[43,45,42,47,94,38,37,40,41,44,58,33,61,60,62]
theorem marks_is:marks=[60,62]::[60,61]::[62,61]::singles.map (fun x=>[x]):=rfl
theorem nameSz_singles (c:UInt8) (t:List UInt8):∀ ss:List UInt8,nameSz (c::t) (ss.map (fun x=>[x]))=if c ∈ ss then 1 else 0
 | []=>by simp [nameSz]
 | x::r=>by
  rw [List.map_cons,nameSz_cons,nameSz_singles c t r];have hb:begins [x] (c::t)=decide (x=c):=by show (decide (x=c) && begins [] t)=_;simp [begins]
  rw [hb];by_cases h:x=c
  ·subst h;simp
  ·have h2:¬ c=x:=fun e=>h e.symm
   simp [h,h2]
theorem nameSz_marks (c:UInt8) (t:List UInt8):nameSz (c::t) marks=if begins [60,62] (c::t) || begins [60,61] (c::t) || begins [62,61] (c::t) then 2 else if c ∈ singles then 1 else 0:=by
 rw [marks_is,nameSz_cons,nameSz_cons,nameSz_cons,nameSz_singles];cases begins [60,62] (c::t) <;> cases begins [60,61] (c::t) <;> cases begins [62,61] (c::t) <;> simp
end Wlx
namespace Go.Proofs.YtlggnpohhahdlaaGreatDoor
open Go.Shelf Go.RowKit
set_option linter.unusedVariables false
theorem hit_other {c:UInt8} {t:List UInt8} (h1:Wlx.wrd c=false) (h2:¬ c=34) (h3:¬ c=35) (h:Wlx.nameSz (c::t) Wlx.marks=0):Wlx.hit (c::t)=6:=by
 refine Wlx.hit_none fun j a b=>?_
 have:j=1 ∨ j=2 ∨ j=3 ∨ j=4 ∨ j=5:=by omega
 rcases this with rfl | rfl | rfl | rfl | rfl
 ·have:¬ 0<Wlx.numSz (c::t):=fun h=>by have:=(Wlx.cls c).2.1 (Wlx.numSz_pos.1 h);rw [h1] at this;cases this
  rw [Wlx.sz1];omega
 ·have:¬ 0<Wlx.txtSz (c::t):=fun h=>h2 (Wlx.txtSz_pos h)
  rw [Wlx.sz2];omega
 ·have:¬ 0<Wlx.runP Wlx.wrd (c::t):=fun h=>by have:=Wlx.wrdSz_pos.1 h;rw [h1] at this;cases this
  rw [Wlx.sz3];omega
 ·have:¬ 0<Wlx.nameSz (c::t) Wlx.faults:=fun h=>h3 (Wlx.faultSz_pos h)
  rw [Wlx.sz4];omega
 ·exact h
theorem one_mark (b:ByteArray) (q:Nat) (c:UInt8) (t:List UInt8) (w:World) (hs:b.size≤1024) (hq:q<b.size) (hd:b.data.toList.drop q=c::t) (hw:Wlx.wrd c=false) (h34:¬ c=34) (h35:¬ c=35) (h32:¬ c=32):Calls Tryz.prog 41 #[.string b,.int .i64 q] w fun e w'=>OnePost q (c::t) e∧Below w.heap.size w w':=by
 obtain ⟨_,hbq⟩:=byte_of (x:=[]) (y:=t) (c:=c) hd;have hbq:b[q]=c:=hbq;have eb:(((b[q]).toNat:Nat):Int)=((c.toNat:Nat):Int):=by rw [hbq]
 have cb:=x4_byte_bd c;have D0:=fun w=>rdigit_any c w
 have L0:=fun w=>rletter_any c w
 have hw2:=hw;rw [Wlx.wrd_iff] at hw2;simp only [Bool.or_eq_false_iff] at hw2;have hlx:(Wlx.cap c || Wlx.low c)=false:=by rw [hw2.1.1.1,hw2.1.1.2];rfl
 rw [hlx] at L0;rw [hw2.2] at D0;have e36:(((c.toNat:Nat):Int) == 36)=false:=beq_eq_false_iff_ne.2 (of_decide_eq_false hw2.1.2);have ne:∀ d:UInt8,¬ c=d→(((c.toNat:Nat):Int) == ((d.toNat:Nat):Int))=false:=fun d h=>by
  refine beq_eq_false_iff_ne.2 (fun e=>h ?_);have:c.toNat=d.toNat:=by omega
  exact UInt8.toNat_inj.1 this
 have e34:(((c.toNat:Nat):Int) == 34)=false:=ne 34 h34;have e35:(((c.toNat:Nat):Int) == 35)=false:=ne 35 h35;have hqi:(q:Int)<(b.size:Int):=by omega
 have hsz:=size_of (by omega:q≤b.size) hd;simp only [List.length_cons] at hsz;have B1:=fun w=>rbegins_any b ⟨#[60,62]⟩ q w (by omega) hs (by decide)
 have B2:=fun w=>rbegins_any b ⟨#[60,61]⟩ q w (by omega) hs (by decide)
 have B3:=fun w=>rbegins_any b ⟨#[62,61]⟩ q w (by omega) hs (by decide)
 have l1:(⟨#[60,62]⟩:ByteArray).data.toList=[60,62]:=rfl;have l2:(⟨#[60,61]⟩:ByteArray).data.toList=[60,61]:=rfl;have l3:(⟨#[62,61]⟩:ByteArray).data.toList=[62,61]:=rfl;rw [l1,hd] at B1;rw [l2,hd] at B2;rw [l3,hd] at B3;have hM:=Wlx.nameSz_marks c t;have plain:∀ n,0<n→Wlx.nameSz (c::t) Wlx.marks=n→n≤t.length+1→∀ e,e=.returned (.tuple #[.agg #[.int .i64 5,.string (b.extract q (q+n)),.int .i64 q],.int .i64 ((q+n:Nat):Int),.int .i64 0,.int .i64 0])→OnePost q (c::t) e:=by
  intro n h0 h1 _ e he;have hmk:Wlx.mk c=true:=Wlx.markSz_pos (by rw [h1];exact h0);have hh:Wlx.hit (c::t)=5:=Wlx.hit_of (Or.inr (Or.inr (Or.inr (Or.inr ⟨rfl,hmk⟩)))) (by rw [Wlx.sz5,h1];exact h0);refine post_plain h32 hh (by omega) (by omega) h1 (s:=b.extract q (q+n)) ?_ he;rw [Lib.extract_data,hd,Nat.add_sub_cancel_left]
 have two:∀ p:List UInt8,p.length=2→Wlx.begins p (c::t)=true→q+2≤b.size:=fun p h1 h2=>by
  have:=Wlx.begins_length p (c::t) h2;simp only [List.length_cons] at this;omega
 cases hb1:Wlx.begins [60,62] (c::t) with
 | true =>
  rw [hb1] at B1 hM;have hm:Wlx.nameSz (c::t) Wlx.marks=2:=by rw [hM];rfl
  have h2:=two _ rfl hb1;have HF2:Hid (∀ e,e=.returned (.tuple #[.agg #[.int .i64 5,.string (b.extract q (q+2)),.int .i64 q],.int .i64 ((q+2:Nat):Int),.int .i64 0,.int .i64 0])→OnePost q (c::t) e):=plain 2 (by omega) hm (by omega);have k1:(q:Int)≤(q:Int)+2:=by omega
  have k2:(q:Int)+2≤(b.size:Int):=by omega
  clear plain two hM hm hb1 hbq hd hw hw2 hlx ne B2 B3 l1 l2 l3 h34 h35 h32;go_enter Tryz.func41,Tryz.ntmps41;go_wp2_with fail
  refine (D0 _).mono ?_;rintro e w1 ⟨rfl,rfl⟩;go_wp2_with fail
  refine (L0 _).mono ?_;rintro e w1 ⟨rfl,rfl⟩;go_wp2_with fail
  refine (B1 _).mono ?_;rintro e w1 ⟨rfl,rfl⟩;go_wp2;refine bodyPost_ret (v:=.tuple #[.agg #[.int .i64 5,.string (b.extract q (q+2)),.int .i64 q],.int .i64 ((q:Int)+2),.int .i64 0,.int .i64 0]) (by simp [results,Tryz.results41,go_sem]) rfl ⟨HF2.out _ (by simp),?_⟩;exact ((Below.refl _ w).alloc (Nat.le_refl _) _).alloc (by simp) _
 | false =>
  rw [hb1] at B1 hM;cases hb2:Wlx.begins [60,61] (c::t) with
  | true =>
   rw [hb2] at B2 hM;have hm:Wlx.nameSz (c::t) Wlx.marks=2:=by rw [hM];rfl
   have h2:=two _ rfl hb2;have HF2:Hid (∀ e,e=.returned (.tuple #[.agg #[.int .i64 5,.string (b.extract q (q+2)),.int .i64 q],.int .i64 ((q+2:Nat):Int),.int .i64 0,.int .i64 0])→OnePost q (c::t) e):=plain 2 (by omega) hm (by omega);have k1:(q:Int)≤(q:Int)+2:=by omega
   have k2:(q:Int)+2≤(b.size:Int):=by omega
   clear plain two hM hm hb1 hb2 hbq hd hw hw2 hlx ne B3 l1 l2 l3 h34 h35 h32;go_enter Tryz.func41,Tryz.ntmps41;go_wp2_with fail
   refine (D0 _).mono ?_;rintro e w1 ⟨rfl,rfl⟩;go_wp2_with fail
   refine (L0 _).mono ?_;rintro e w1 ⟨rfl,rfl⟩;go_wp2_with fail
   refine (B1 _).mono ?_;rintro e w1 ⟨rfl,rfl⟩;go_wp2_with fail
   refine (B2 _).mono ?_;rintro e w1 ⟨rfl,rfl⟩;go_wp2;refine bodyPost_ret (v:=.tuple #[.agg #[.int .i64 5,.string (b.extract q (q+2)),.int .i64 q],.int .i64 ((q:Int)+2),.int .i64 0,.int .i64 0]) (by simp [results,Tryz.results41,go_sem]) rfl ⟨HF2.out _ (by simp),?_⟩;exact ((Below.refl _ w).alloc (Nat.le_refl _) _).alloc (by simp) _
  | false =>
   rw [hb2] at B2 hM;cases hb3:Wlx.begins [62,61] (c::t) with
   | true =>
    rw [hb3] at B3 hM;have hm:Wlx.nameSz (c::t) Wlx.marks=2:=by rw [hM];rfl
    have h2:=two _ rfl hb3;have HF2:Hid (∀ e,e=.returned (.tuple #[.agg #[.int .i64 5,.string (b.extract q (q+2)),.int .i64 q],.int .i64 ((q+2:Nat):Int),.int .i64 0,.int .i64 0])→OnePost q (c::t) e):=plain 2 (by omega) hm (by omega);have k1:(q:Int)≤(q:Int)+2:=by omega
    have k2:(q:Int)+2≤(b.size:Int):=by omega
    clear plain two hM hm hb1 hb2 hb3 hbq hd hw hw2 hlx ne l1 l2 l3 h34 h35 h32;go_enter Tryz.func41,Tryz.ntmps41;go_wp2_with fail
    refine (D0 _).mono ?_;rintro e w1 ⟨rfl,rfl⟩;go_wp2_with fail
    refine (L0 _).mono ?_;rintro e w1 ⟨rfl,rfl⟩;go_wp2_with fail
    refine (B1 _).mono ?_;rintro e w1 ⟨rfl,rfl⟩;go_wp2_with fail
    refine (B2 _).mono ?_;rintro e w1 ⟨rfl,rfl⟩;go_wp2_with fail
    refine (B3 _).mono ?_;rintro e w1 ⟨rfl,rfl⟩;go_wp2;refine bodyPost_ret (v:=.tuple #[.agg #[.int .i64 5,.string (b.extract q (q+2)),.int .i64 q],.int .i64 ((q:Int)+2),.int .i64 0,.int .i64 0]) (by simp [results,Tryz.results41,go_sem]) rfl ⟨HF2.out _ (by simp),?_⟩;exact ((Below.refl _ w).alloc (Nat.le_refl _) _).alloc (by simp) _
   | false =>
    rw [hb3] at B3 hM;have hM2:Wlx.nameSz (c::t) Wlx.marks=if c ∈ Wlx.singles then 1 else 0:=by rw [hM];rfl
    have HF1:Hid (c ∈ Wlx.singles→∀ e,e=.returned (.tuple #[.agg #[.int .i64 5,.string (b.extract q (q+1)),.int .i64 q],.int .i64 ((q+1:Nat):Int),.int .i64 0,.int .i64 0])→OnePost q (c::t) e):=fun h=>plain 1 (by omega) (by rw [hM2,if_pos h]) (by omega)
    have HF0:Hid (¬ c ∈ Wlx.singles→OnePost q (c::t) (.returned (.tuple #[.agg #[.int .i64 0,.string ⟨#[]⟩,.int .i64 q],.int .i64 0,.int .i64 40,.int .i64 q]))):=fun h=>Or.inl ⟨hit_other hw h34 h35 (by rw [hM2,if_neg h]),0,⟨#[]⟩,by rw [if_neg (by simp;exact h34)];rfl⟩
    have k1:(q:Int)≤(q:Int)+1:=by omega
    have k2:(q:Int)+1≤(b.size:Int):=by omega
    have NE:Hid (∀ d:UInt8,¬ c=d→(((c.toNat:Nat):Int) == ((d.toNat:Nat):Int))=false):=ne;clear plain two hM hM2 hb1 hb2 hb3 hbq hd hw hw2 hlx ne l1 l2 l3 h34 h35 h32;go_enter Tryz.func41,Tryz.ntmps41;go_wp2_with fail
    refine (D0 _).mono ?_;rintro e w1 ⟨rfl,rfl⟩;go_wp2_with fail
    refine (L0 _).mono ?_;rintro e w1 ⟨rfl,rfl⟩;go_wp2_with fail
    refine (B1 _).mono ?_;rintro e w1 ⟨rfl,rfl⟩;go_wp2_with fail
    refine (B2 _).mono ?_;rintro e w1 ⟨rfl,rfl⟩;go_wp2_with fail
    refine (B3 _).mono ?_;rintro e w1 ⟨rfl,rfl⟩;go_wp2_with fail
    have p4:AtL ((w.alloc (.cells #[.int .i64 0,.string ⟨#[]⟩,.int .i64 0] 79)).alloc (.cells #[.int .i64 0,.string ⟨#[]⟩,.int .i64 q] 79)) w.heap.size [.int .i64 0,.string ⟨#[]⟩,.int .i64 0]:=(AtL.new0 w 79 [.int .i64 0,.string ⟨#[]⟩,.int .i64 0]).alloc _;have p9:AtL ((w.alloc (.cells #[.int .i64 0,.string ⟨#[]⟩,.int .i64 0] 79)).alloc (.cells #[.int .i64 0,.string ⟨#[]⟩,.int .i64 q] 79)) (w.heap.size+1) [.int .i64 0,.string ⟨#[]⟩,.int .i64 q]:=AtL.new1 w _ 79 [.int .i64 0,.string ⟨#[]⟩,.int .i64 q];have hB:Below w.heap.size w ((w.alloc (.cells #[.int .i64 0,.string ⟨#[]⟩,.int .i64 0] 79)).alloc (.cells #[.int .i64 0,.string ⟨#[]⟩,.int .i64 q] 79)):=((Below.refl _ w).alloc (Nat.le_refl _) _).alloc (by simp) _;generalize ((w.alloc (.cells #[.int .i64 0,.string ⟨#[]⟩,.int .i64 0] 79)).alloc (.cells #[.int .i64 0,.string ⟨#[]⟩,.int .i64 q] 79))=W1 at *;have hMl:(⟨#[43,45,42,47,94,38,37,40,41,44,58,33,61,60,62]⟩:ByteArray).data.toList=Wlx.singles:=rfl;have hMs:(⟨#[43,45,42,47,94,38,37,40,41,44,58,33,61,60,62]⟩:ByteArray).size=15:=rfl;generalize (⟨#[43,45,42,47,94,38,37,40,41,44,58,33,61,60,62]⟩:ByteArray)=MS at *;have HMl:Hid (MS.data.toList=Wlx.singles):=hMl;clear hMl;have HFa0:Hid (FaS w.heap.size 0 q W1):=⟨p4,p9⟩
    clear p4 p9 B1 B2 B3 D0 L0;go_loopg [18] 15 (fun gk x wr=>∃ (i:Nat) (kk:Int),x=.int .i64 i∧gk=15 - i∧i≤15∧Hid (kk=if c ∈ Wlx.singles.take i then 5 else 0)∧Hid (FaS w.heap.size kk q wr)∧Below w.heap.size w wr)
    case atStart=>exact ⟨0,0,rfl,rfl,by omega,(rfl:(0:Int)=if c ∈ Wlx.singles.take 0 then 5 else 0),HFa0,hB⟩
    case round =>
     clear HFa0 hB;obtain ⟨i,kk,rfl,hg,hi15,HK,HFa,hB⟩:=hrel;obtain ⟨p4,p9⟩:=HFa.out;have ksz:=hB.size;by_cases hlt:i<15
     ·have hli:(i:Int)<15:=by omega
      have hil:i<MS.size:=by omega
      have hil2:i<Wlx.singles.length:=hlt;have hx:MS[i]=Wlx.singles[i]'hlt:=by
       have e1:MS.data.toList[i]? = some MS[i]:=List.getElem?_eq_getElem (by exact hil);rw [HMl.out,List.getElem?_eq_getElem hil2] at e1;exact (Option.some.inj e1).symm
      have etk:Wlx.singles.take (i+1)=Wlx.singles.take i++[Wlx.singles[i]'hlt]:=List.take_succ_eq_append_getElem hil2;obtain ⟨x,hxx⟩:∃ x,Wlx.singles[i]'hlt=x:=⟨_,rfl⟩
      rw [hxx] at hx etk;have ebx:(((MS[i]).toNat:Nat):Int)=((x.toNat:Nat):Int):=by rw [hx]
      obtain ⟨c0,c1,c2,c3,c4,c5⟩:=p9.three;by_cases hcx:c=x
      ·have HK2:Hid ((5:Int)=if c ∈ Wlx.singles.take (i+1) then 5 else 0):=by
        show _=_
        rw [etk,if_pos (by rw [hcx];simp)]
       have HFa2:Hid (FaS w.heap.size 5 q (wr.setCell ⟨w.heap.size+1,0,none⟩ (.int .i64 5))):=⟨p4.far (by omega) _ _,p9.set 0 (.int .i64 5)⟩
       have hB2:Below w.heap.size w (wr.setCell ⟨w.heap.size+1,0,none⟩ (.int .i64 5)):=hB.setCell (p:=⟨w.heap.size+1,0,none⟩) (by show w.heap.size≤w.heap.size+1;omega) _;have eq1:(((c.toNat:Nat):Int) == ((x.toNat:Nat):Int))=true:=by rw [hcx];simp
       clear HK HFa hB hx hxx etk hcx p4 p9;go_wp2_with fail
       go_roundg (15 - (i+1))
       case rel=>exact ⟨i+1,5,by simp,rfl,by omega,HK2,HFa2,hB2⟩
       case measure=>omega
      ·have HK2:Hid (kk=if c ∈ Wlx.singles.take (i+1) then 5 else 0):=by
        show _=_
        rw [HK.out,etk];by_cases h:c ∈ Wlx.singles.take i
        ·rw [if_pos h,if_pos (by simp [h])]
        ·rw [if_neg h,if_neg (by simp [h,hcx])]
       have eq1:=NE.out x hcx;clear HK hx hxx etk hcx p4 p9;go_wp2_with fail
       go_roundg (15 - (i+1))
       case rel=>exact ⟨i+1,kk,by simp,rfl,by omega,HK2,HFa,hB⟩
       case measure=>omega
     ·obtain rfl:i=15:=by omega
      obtain ⟨a0,a1,a2,a3,a4,a5⟩:=p4.three;obtain ⟨c0,c1,c2,c3,c4,c5⟩:=p9.three;generalize hk4:w.heap.size=k4 at *;have hn1:¬ (k4=k4+1):=by omega
      have hK:=HK.out;have eT:Wlx.singles.take 15=Wlx.singles:=rfl;rw [eT] at hK;by_cases hcs:c ∈ Wlx.singles
      ·rw [if_pos hcs] at hK;subst hK;have HP:Hid (∀ e,e=.returned (.tuple #[.agg #[.int .i64 5,.string (b.extract q (q+1)),.int .i64 q],.int .i64 ((q+1:Nat):Int),.int .i64 0,.int .i64 0])→OnePost q (c::t) e):=HF1.out hcs;clear HK HF1 HF0 HFa p4 p9 eT hcs NE;go_wp2;refine bodyPost_ret (v:=.tuple #[.agg #[.int .i64 5,.string (b.extract q (q+1)),.int .i64 q],.int .i64 ((q:Int)+1),.int .i64 0,.int .i64 0]) (by simp [results,Tryz.results41,go_sem, *]) rfl ⟨HP.out _ (by simp),?_⟩;rw [hk4];exact put3_below (k:=k4) (hB.setCell (p:=⟨k4+1,1,none⟩) (by show k4≤k4+1;omega) _) (Nat.le_refl _) _ _ _
      ·rw [if_neg hcs] at hK;subst hK;have HP:Hid (OnePost q (c::t) (.returned (.tuple #[.agg #[.int .i64 0,.string ⟨#[]⟩,.int .i64 q],.int .i64 0,.int .i64 40,.int .i64 q]))):=HF0.out hcs;clear HK HF1 HF0 HFa p4 p9 eT hcs NE;go_wp2;refine bodyPost_ret (v:=.tuple #[.agg #[.int .i64 0,.string ⟨#[]⟩,.int .i64 q],.int .i64 0,.int .i64 40,.int .i64 q]) (by simp [results,Tryz.results41,go_sem, *]) rfl ⟨HP.out,?_⟩;rw [hk4];exact put3_below (k:=k4) hB (Nat.le_refl _) _ _ _
end Go.Proofs.YtlggnpohhahdlaaGreatDoor
