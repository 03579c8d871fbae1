/- LRun, LName, Plain, WalkA, WalkB, BKind. -/
import Derived.Test.YtedifblompcdkaaGreatDoorQ01
import Derived.Lib.Strings
set_option maxHeartbeats 800000
set_option maxRecDepth 100000
set_option linter.unusedVariables false
namespace Go.Proofs.YtedifblompcdkaaGreatDoor
open Tryz
open Go.RowKit
variable {c:UInt8} {r:Int}
theorem zAh (b:ByteArray) (i:Nat) (h:i<b.size):b.data.toList.drop i=b[i]::b.data.toList.drop (i+1):=List.drop_eq_getElem_cons (by simpa using h)
theorem zBQ (b:ByteArray) (i:Nat) (h:¬ i<b.size):b.data.toList.drop i=[]:=List.drop_eq_nil_of_le (by have:b.data.toList.length=b.size:=rfl;omega)
theorem zDE (b:ByteArray) (i:Nat) (h:i<b.size):((b[i]).toNat<128/\Utf8.decode b i=((b[i]).toNat,1)) \/ (128<=(b[i]).toNat/\128<=(Utf8.decode b i).1):=by
 by_cases c:(b[i]).toNat<128
 ·exact Or.inl ⟨c,decode_ascii b i h c⟩
 ·exact Or.inr ⟨by omega,(decode_high b i h (by omega)).1⟩
theorem zPM (h:128<=c.toNat):Wlx.dig c=false:=by unfold Wlx.dig;simp;omega
theorem zPt (h:128<=c.toNat):Wlx.prt c=false:=by unfold Wlx.prt;simp;omega
theorem zP8 (h:128<=c.toNat):Wlx.wrd c=false:=by unfold Wlx.wrd Wlx.cap Wlx.low Wlx.dig;simp;omega
def zDI (r:Int):Bool:=(decide (48<=r) && decide (r<=57))
theorem zH7 (h:128<=r):zDI r=false:=by unfold zDI;simp;omega
theorem zEr (b:ByteArray) (w:World) (hs:b.size<=9223372036854775807):CR 124 #[.string b,.func (.func 170) #[] #[]] w (.int .i64 (Wlx.runP Wlx.dig b.data.toList:Nat)):=by
 have C:∀ (r:Int) (w:World),Calls prog 170 #[.int .i32 r] w λe w'=>e=.returned (.bool (zDI r))/\w=w':=λr w=>zDR r w
 go_enter func124,ntmps124;go_wp2_with fail
 go_loopw [5] (λ_ wr=>∃ pos:Nat,pos<=b.size/\wr.heap[w.heap.size]? = some (.stringIter b pos)/\Hid (Wlx.runP Wlx.dig b.data.toList=pos+Wlx.runP Wlx.dig (b.data.toList.drop pos))/\Below w.heap.size w wr) (λ_ wr=>b.size - wr.iterPos w.heap.size)
 case atStart=>exact ⟨0,Nat.zero_le _,World.iter_heap w b 0,(by simp:Wlx.runP Wlx.dig b.data.toList=0+Wlx.runP Wlx.dig (b.data.toList.drop 0)),(Below.refl _ w).alloc (Nat.le_refl _) _⟩
 case round =>
  obtain ⟨pos,hp,hit,HR,hb⟩:=hrel;by_cases hlt:pos<b.size
  ·have nx:=λty=>Lib.run_next_any_at (P:=prog) wr w.heap.size b pos ty hit hlt
   have hk2:=λq=>Lib.iterAt_heap wr w.heap.size b pos q hit
   have hb2:=λq=>Lib.below_iterAt hb (Nat.le_refl w.heap.size) b q
   rcases zDE b pos hlt with ⟨hc,e⟩ | ⟨hc,e⟩
   ·rw [e] at nx;cases hq:zDI ((b[pos]).toNat:Int) with
    | true =>
     have E:Hid (Wlx.runP Wlx.dig b.data.toList=(pos+1)+Wlx.runP Wlx.dig (b.data.toList.drop (pos+1))):=by
      show _=_
      rw [HR.out,zAh b pos hlt,Wlx.runP_pos hq];omega
     have hi:=hk2 (pos+1);have hbb:=hb2 (pos+1);have hm:wr.iterPos w.heap.size=pos:=by simp [World.iterPos,hit]
     have hm2:(wr.iterAt w.heap.size b (pos+1)).iterPos w.heap.size=pos+1:=by simp [World.iterPos,hi]
     clear HR hk2 hb2;go_wp2_with fail
     refine (C _ _).mono ?_;rintro e w1 ⟨rfl,rfl⟩;go_wp2_with fail
     go_roundw
     case rel=>exact ⟨pos+1,hlt,hi,E,hbb⟩
     case measure=>rw [hm,hm2];omega
    | false =>
     have E:Hid (Wlx.runP Wlx.dig b.data.toList=pos):=by
      show _=_
      rw [HR.out,zAh b pos hlt,Wlx.runP_neg hq];rfl
     have hbb:=hb2 (pos+1);clear HR hk2 hb2;go_wp2_with fail
     refine (C _ _).mono ?_;rintro e w1 ⟨rfl,rfl⟩;go_wp2;go_ret;exact ⟨by rw [E.out];rfl,hbb⟩
   ·have E:Hid (Wlx.runP Wlx.dig b.data.toList=pos):=by
     show _=_
     rw [HR.out,zAh b pos hlt,Wlx.runP_neg (zPM hc)];rfl
    obtain ⟨rv,hrv⟩:∃ rv:Nat,(Utf8.decode b pos).1=rv:=⟨_,rfl⟩
    obtain ⟨n,hn⟩:∃ n:Nat,(Utf8.decode b pos).2=n:=⟨_,rfl⟩
    rw [hrv,hn] at nx;rw [hrv] at e;have hq:zDI (rv:Int)=false:=zH7 (by omega);have hbb:=hb2 (pos+n);clear HR hk2 hb2 hrv hn e;go_wp2_with fail
    refine (C _ _).mono ?_;rintro e w1 ⟨rfl,rfl⟩;go_wp2;go_ret;exact ⟨by rw [E.out];rfl,hbb⟩
  ·have nx:=λty=>Lib.run_next_end_at (P:=prog) wr w.heap.size b pos ty hit hlt
   have E:Hid (Wlx.runP Wlx.dig b.data.toList=b.size):=by
    show _=_
    rw [HR.out,zBQ b pos hlt];simp [Wlx.runP];omega
   clear HR;go_wp2;go_ret;exact ⟨by rw [E.out];rfl,hb⟩
def zD0 (r:Int):Bool:=(decide (32<=r) && decide (r<=126))
theorem zIL (h:128<=r):zD0 r=false:=by unfold zD0;simp;omega
theorem zIQ (b:ByteArray) (w:World) (hs:b.size<=9223372036854775807):CR 124 #[.string b,.func (.func 125) #[] #[]] w (.int .i64 (Wlx.runP Wlx.prt b.data.toList:Nat)):=by
 have C:∀ (r:Int) (w:World),Calls prog 125 #[.int .i32 r] w λe w'=>e=.returned (.bool (zD0 r))/\w=w':=λr w=>zDY r w
 go_enter func124,ntmps124;go_wp2_with fail
 go_loopw [5] (λ_ wr=>∃ pos:Nat,pos<=b.size/\wr.heap[w.heap.size]? = some (.stringIter b pos)/\Hid (Wlx.runP Wlx.prt b.data.toList=pos+Wlx.runP Wlx.prt (b.data.toList.drop pos))/\Below w.heap.size w wr) (λ_ wr=>b.size - wr.iterPos w.heap.size)
 case atStart=>exact ⟨0,Nat.zero_le _,World.iter_heap w b 0,(by simp:Wlx.runP Wlx.prt b.data.toList=0+Wlx.runP Wlx.prt (b.data.toList.drop 0)),(Below.refl _ w).alloc (Nat.le_refl _) _⟩
 case round =>
  obtain ⟨pos,hp,hit,HR,hb⟩:=hrel;by_cases hlt:pos<b.size
  ·have nx:=λty=>Lib.run_next_any_at (P:=prog) wr w.heap.size b pos ty hit hlt
   have hk2:=λq=>Lib.iterAt_heap wr w.heap.size b pos q hit
   have hb2:=λq=>Lib.below_iterAt hb (Nat.le_refl w.heap.size) b q
   rcases zDE b pos hlt with ⟨hc,e⟩ | ⟨hc,e⟩
   ·rw [e] at nx;cases hq:zD0 ((b[pos]).toNat:Int) with
    | true =>
     have E:Hid (Wlx.runP Wlx.prt b.data.toList=(pos+1)+Wlx.runP Wlx.prt (b.data.toList.drop (pos+1))):=by
      show _=_
      rw [HR.out,zAh b pos hlt,Wlx.runP_pos hq];omega
     have hi:=hk2 (pos+1);have hbb:=hb2 (pos+1);have hm:wr.iterPos w.heap.size=pos:=by simp [World.iterPos,hit]
     have hm2:(wr.iterAt w.heap.size b (pos+1)).iterPos w.heap.size=pos+1:=by simp [World.iterPos,hi]
     clear HR hk2 hb2;go_wp2_with fail
     refine (C _ _).mono ?_;rintro e w1 ⟨rfl,rfl⟩;go_wp2_with fail
     go_roundw
     case rel=>exact ⟨pos+1,hlt,hi,E,hbb⟩
     case measure=>rw [hm,hm2];omega
    | false =>
     have E:Hid (Wlx.runP Wlx.prt b.data.toList=pos):=by
      show _=_
      rw [HR.out,zAh b pos hlt,Wlx.runP_neg hq];rfl
     have hbb:=hb2 (pos+1);clear HR hk2 hb2;go_wp2_with fail
     refine (C _ _).mono ?_;rintro e w1 ⟨rfl,rfl⟩;go_wp2;go_ret;exact ⟨by rw [E.out];rfl,hbb⟩
   ·have E:Hid (Wlx.runP Wlx.prt b.data.toList=pos):=by
     show _=_
     rw [HR.out,zAh b pos hlt,Wlx.runP_neg (zPt hc)];rfl
    obtain ⟨rv,hrv⟩:∃ rv:Nat,(Utf8.decode b pos).1=rv:=⟨_,rfl⟩
    obtain ⟨n,hn⟩:∃ n:Nat,(Utf8.decode b pos).2=n:=⟨_,rfl⟩
    rw [hrv,hn] at nx;rw [hrv] at e;have hq:zD0 (rv:Int)=false:=zIL (by omega);have hbb:=hb2 (pos+n);clear HR hk2 hb2 hrv hn e;go_wp2_with fail
    refine (C _ _).mono ?_;rintro e w1 ⟨rfl,rfl⟩;go_wp2;go_ret;exact ⟨by rw [E.out];rfl,hbb⟩
  ·have nx:=λty=>Lib.run_next_end_at (P:=prog) wr w.heap.size b pos ty hit hlt
   have E:Hid (Wlx.runP Wlx.prt b.data.toList=b.size):=by
    show _=_
    rw [HR.out,zBQ b pos hlt];simp [Wlx.runP];omega
   clear HR;go_wp2;go_ret;exact ⟨by rw [E.out];rfl,hb⟩
def zEZ (r:Int):Bool:=((decide (65<=r) && decide (r<=90)) || (decide (97<=r) && decide (r<=122)) || decide (r=36) || (decide (48<=r) && decide (r<=57)))
theorem zIl (h:128<=r):zEZ r=false:=by unfold zEZ;simp;omega
theorem zLU (b:ByteArray) (w:World) (hs:b.size<=9223372036854775807):CR 124 #[.string b,.func (.func 152) #[] #[]] w (.int .i64 (Wlx.runP Wlx.wrd b.data.toList:Nat)):=by
 have C:∀ (r:Int) (w:World),Calls prog 152 #[.int .i32 r] w λe w'=>e=.returned (.bool (zEZ r))/\w=w':=λr w=>zFL r w
 go_enter func124,ntmps124;go_wp2_with fail
 go_loopw [5] (λ_ wr=>∃ pos:Nat,pos<=b.size/\wr.heap[w.heap.size]? = some (.stringIter b pos)/\Hid (Wlx.runP Wlx.wrd b.data.toList=pos+Wlx.runP Wlx.wrd (b.data.toList.drop pos))/\Below w.heap.size w wr) (λ_ wr=>b.size - wr.iterPos w.heap.size)
 case atStart=>exact ⟨0,Nat.zero_le _,World.iter_heap w b 0,(by simp:Wlx.runP Wlx.wrd b.data.toList=0+Wlx.runP Wlx.wrd (b.data.toList.drop 0)),(Below.refl _ w).alloc (Nat.le_refl _) _⟩
 case round =>
  obtain ⟨pos,hp,hit,HR,hb⟩:=hrel;by_cases hlt:pos<b.size
  ·have nx:=λty=>Lib.run_next_any_at (P:=prog) wr w.heap.size b pos ty hit hlt
   have hk2:=λq=>Lib.iterAt_heap wr w.heap.size b pos q hit
   have hb2:=λq=>Lib.below_iterAt hb (Nat.le_refl w.heap.size) b q
   rcases zDE b pos hlt with ⟨hc,e⟩ | ⟨hc,e⟩
   ·rw [e] at nx;cases hq:zEZ ((b[pos]).toNat:Int) with
    | true =>
     have E:Hid (Wlx.runP Wlx.wrd b.data.toList=(pos+1)+Wlx.runP Wlx.wrd (b.data.toList.drop (pos+1))):=by
      show _=_
      rw [HR.out,zAh b pos hlt,Wlx.runP_pos hq];omega
     have hi:=hk2 (pos+1);have hbb:=hb2 (pos+1);have hm:wr.iterPos w.heap.size=pos:=by simp [World.iterPos,hit]
     have hm2:(wr.iterAt w.heap.size b (pos+1)).iterPos w.heap.size=pos+1:=by simp [World.iterPos,hi]
     clear HR hk2 hb2;go_wp2_with fail
     refine (C _ _).mono ?_;rintro e w1 ⟨rfl,rfl⟩;go_wp2_with fail
     go_roundw
     case rel=>exact ⟨pos+1,hlt,hi,E,hbb⟩
     case measure=>rw [hm,hm2];omega
    | false =>
     have E:Hid (Wlx.runP Wlx.wrd b.data.toList=pos):=by
      show _=_
      rw [HR.out,zAh b pos hlt,Wlx.runP_neg hq];rfl
     have hbb:=hb2 (pos+1);clear HR hk2 hb2;go_wp2_with fail
     refine (C _ _).mono ?_;rintro e w1 ⟨rfl,rfl⟩;go_wp2;go_ret;exact ⟨by rw [E.out];rfl,hbb⟩
   ·have E:Hid (Wlx.runP Wlx.wrd b.data.toList=pos):=by
     show _=_
     rw [HR.out,zAh b pos hlt,Wlx.runP_neg (zP8 hc)];rfl
    obtain ⟨rv,hrv⟩:∃ rv:Nat,(Utf8.decode b pos).1=rv:=⟨_,rfl⟩
    obtain ⟨n,hn⟩:∃ n:Nat,(Utf8.decode b pos).2=n:=⟨_,rfl⟩
    rw [hrv,hn] at nx;rw [hrv] at e;have hq:zEZ (rv:Int)=false:=zIl (by omega);have hbb:=hb2 (pos+n);clear HR hk2 hb2 hrv hn e;go_wp2_with fail
    refine (C _ _).mono ?_;rintro e w1 ⟨rfl,rfl⟩;go_wp2;go_ret;exact ⟨by rw [E.out];rfl,hbb⟩
  ·have nx:=λty=>Lib.run_next_end_at (P:=prog) wr w.heap.size b pos ty hit hlt
   have E:Hid (Wlx.runP Wlx.wrd b.data.toList=b.size):=by
    show _=_
    rw [HR.out,zBQ b pos hlt];simp [Wlx.runP];omega
   clear HR;go_wp2;go_ret;exact ⟨by rw [E.out];rfl,hb⟩
theorem zFt (p:List UInt8):∀ l:List UInt8,Wlx.begins p l=(decide (p.length<=l.length) && (l.take p.length == p)):=by
 induction p with
 | nil=>intro l;simp [Wlx.begins]
 | cons a p ih =>
  intro l;cases l with
  | nil=>simp [Wlx.begins]
  | cons b t =>
   have e:((b::t).take (a::p).length == a::p)=(decide (a=b) && (t.take p.length == p)):=by
    simp only [List.length_cons,List.take_succ_cons];by_cases h:a=b
    ·subst h;simp
    ·have h2:¬ b=a:=λe=>h e.symm
     simp [h,h2]
   rw [e];have e2:decide ((a::p).length<=(b::t).length)=decide (p.length<=t.length):=by simp
   rw [e2];show (decide (a=b) && Wlx.begins p t)=_
   rw [ih t];cases decide (a=b) <;> cases decide (p.length<=t.length) <;> rfl
theorem zH1 (b p:ByteArray) (w:World) (hs:b.size<=9223372036854775807):Calls prog 60 #[.string b,.string p] w λe w'=>e=.returned (.bool (Wlx.begins p.data.toList b.data.toList))/\w=w':=by
 have E:Hid (Wlx.begins p.data.toList b.data.toList=(decide (p.size<=b.size) && ((b.extract 0 p.size).toList == p.toList))):=by
  show _=_
  rw [zFt,Lib.extract_toList,Lib.toList_data];rfl
 by_cases h:p.size<=b.size
 ·have E2:Hid (Wlx.begins p.data.toList b.data.toList=((b.extract 0 p.size).toList == p.toList)):=by
   show _=_;rw [E.out,decide_eq_true h];rfl
  clear E;have h1:(p.size:Int)<=(b.size:Int):=by omega
  generalize Wlx.begins p.data.toList b.data.toList=r at *;go_enter func60,ntmps60;go_wp2;go_ret;exact ⟨by rw [E2.out];rfl,rfl⟩
 ·have E2:Hid (Wlx.begins p.data.toList b.data.toList=false):=by
   show _=_;rw [E.out,decide_eq_false h];rfl
  clear E;have h1:¬ (p.size:Int)<=(b.size:Int):=by omega
  generalize Wlx.begins p.data.toList b.data.toList=r at *;go_enter func60,ntmps60;go_wp2;go_ret;exact ⟨by rw [E2.out];rfl,rfl⟩
theorem zAy (b p:ByteArray) (w:World) (hs:b.size<=9223372036854775807):Calls prog 36 #[.string b,.string p] w λe w'=>e=.returned (.bool (Wlx.begins p.data.toList b.data.toList))/\w=w':=by
 go_enter func36,ntmps36;go_wp2_with fail
 refine (zH1 _ _ _ hs).mono ?_;rintro e w1 ⟨rfl,rfl⟩;go_wp2;go_ret;exact ⟨rfl,rfl⟩
theorem zEa (b:ByteArray) (k:Nat) (ns:List (List UInt8)) (n:Nat) (w:World) (hs:b.size<=9223372036854775807) (hn:n=ns.length) (hn2:ns.length<=100) (hns:∀ x ∈ ns,x.length<=100)
  (hc:∀ i (h:i<ns.length),w.cell? ⟨k,i,none⟩=some (.string ⟨(ns[i]).toArray⟩)) :
  Calls prog 153 #[.string b,.slice (some ⟨k,0,none⟩) n n] w λe w'=>e=.returned (.int .i64 (Wlx.nameSz b.data.toList ns:Nat))/\w=w':=by
 subst hn;have HC:Hid (∀ i (h:i<ns.length),w.cell? ⟨k,i,none⟩=some (.string ⟨(ns[i]).toArray⟩)):=hc;clear hc;go_enter func153,ntmps153;go_wp2_with fail
 go_loopw [9] (λx wr=>∃ i:Nat,x=.int .i64 i/\i<=ns.length/\Hid (Wlx.nameSz b.data.toList ns=Wlx.nameSz b.data.toList (ns.drop i))/\wr=w) (λx _=>match x with | .int _ i=>ns.length - i.toNat | _=>0)
 case atStart=>exact ⟨0,rfl,Nat.zero_le _,(rfl:Wlx.nameSz b.data.toList ns=_),rfl⟩
 case round =>
  obtain ⟨i,rfl,hi,HR,rfl⟩:=hrel;by_cases hlt:i<ns.length
  ·have hli:(i:Int)<(ns.length:Int):=by omega
   have ci:=HC.out i hlt;obtain ⟨x,hx⟩:∃ x,ns[i]=x:=⟨_,rfl⟩
   have hxl:x.length<=100:=hns x (by rw [<-hx];exact List.getElem_mem hlt);rw [hx] at ci;have E0:Hid (Wlx.nameSz b.data.toList ns=if Wlx.begins x b.data.toList then x.length else Wlx.nameSz b.data.toList (ns.drop (i+1))):=by
    show _=_
    rw [HR.out,List.drop_eq_getElem_cons hlt,hx];rfl
   clear HR hx;have HP:=zAy b ⟨x.toArray⟩ wr hs;cases hbx:Wlx.begins x b.data.toList with
   | true =>
    have E:Hid (Wlx.nameSz b.data.toList ns=x.length):=by show _=_;rw [E0.out,if_pos hbx]
    have e1:Wlx.begins (⟨x.toArray⟩:ByteArray).data.toList b.data.toList=true:=by simpa using hbx
    rw [e1] at HP;clear E0 e1 hbx;go_wp2_with fail
    refine HP.mono ?_;rintro e w1 ⟨rfl,rfl⟩;go_wp2;go_ret;exact ⟨by rw [E.out];simp,rfl⟩
   | false =>
    have E:Hid (Wlx.nameSz b.data.toList ns=Wlx.nameSz b.data.toList (ns.drop (i+1))):=by show _=_;rw [E0.out,if_neg (by rw [hbx];decide)]
    have e1:Wlx.begins (⟨x.toArray⟩:ByteArray).data.toList b.data.toList=false:=by simpa using hbx
    rw [e1] at HP;clear E0 e1 hbx;go_wp2_with fail
    refine HP.mono ?_;rintro e w1 ⟨rfl,rfl⟩;go_wp2_with fail
    go_roundw
    case rel=>exact ⟨i+1,by simp,hlt,E,by first | trivial | rfl⟩
    case measure=>simp;omega
  ·have hli:¬ (i:Int)<(ns.length:Int):=by omega
   have E:Hid (Wlx.nameSz b.data.toList ns=0):=by
    show _=_;rw [HR.out,List.drop_eq_nil_of_le (by omega)];rfl
   clear HR;go_wp2;go_ret;exact ⟨by rw [E.out];rfl,rfl⟩
theorem zCk (b:ByteArray) (n:Nat):(b.extract n b.size).data.toList=b.data.toList.drop n:=by
 rw [Lib.extract_data];exact List.take_of_length_le (by rw [List.length_drop];exact Nat.le_refl _)
theorem zCS (c:UInt8) (l:List UInt8):Wlx.begins [c] l=match l with | []=>false | d::_=>decide (c=d):=by
 cases l with
 | nil=>rfl
 | cons d t=>show (decide (c=d) && Wlx.begins [] t)=_;simp [Wlx.begins]
theorem zD6 (b:ByteArray) (w:World) (hs:b.size<=9223372036854775806):CR 150 #[.string b] w (.int .i64 (Wlx.numSz b.data.toList:Nat)):=by
 obtain ⟨n,hn⟩:∃ n,Wlx.runP Wlx.dig b.data.toList=n:=⟨_,rfl⟩
 have hle:n<=b.size:=by rw [<-hn];exact Wlx.runP_le _ _
 have R1:=zEr b w (by omega);rw [hn] at R1;have E0:Hid (Wlx.numSz b.data.toList=if n=0 then 0 else Wlx.numTl n (b.data.toList.drop n)):=by
  show _=_;unfold Wlx.numSz;rw [hn]
 clear hn;by_cases h0:n=0
 ·subst h0;have E:Hid (Wlx.numSz b.data.toList=0):=by show _=_;rw [E0.out,if_pos rfl]
  clear E0;go_enter func150,ntmps150;go_wp2_with fail
  refine R1.mono ?_;rintro e w1 ⟨rfl,hb1⟩;go_wp2;go_ret;exact ⟨by rw [E.out];rfl,hb1⟩
 ·have hn0:((n:Int) == 0)=false:=beq_eq_false_iff_ne.2 (by omega);have c1:(n:Int)<=(b.size:Int):=by omega
  have c0:(0:Int)<=(n:Int):=by omega
  have HP:=λw=>zAy (b.extract n b.size) ⟨#[46]⟩ w (by rw [ByteArray.size_extract];omega)
  rw [zCk,zCS] at HP;cases hd:b.data.toList.drop n with
  | nil =>
   have E:Hid (Wlx.numSz b.data.toList=n):=by show _=_;rw [E0.out,if_neg h0,hd];rfl
   simp only [hd] at HP;clear E0 hd;go_enter func150,ntmps150;go_wp2_with fail
   refine R1.mono ?_;rintro e w1 ⟨rfl,hb1⟩;go_wp2_with fail
   refine (HP _).mono ?_;rintro e w2 ⟨rfl,rfl⟩;go_wp2;go_ret;exact ⟨by rw [E.out];rfl,hb1⟩
  | cons c t =>
   simp only [hd] at HP;by_cases hc:c=46
   ·subst hc;have hsz:n+1+t.length=b.size:=by
     have:=congrArg List.length hd;simp only [List.length_drop,List.length_cons] at this;have e:b.data.toList.length=b.size:=rfl;omega
    have c2:(n:Int)+1<=(b.size:Int):=by omega
    have R2:=λw=>zEr (b.extract (n+1) b.size) w (by rw [ByteArray.size_extract];omega)
    have e2:b.data.toList.drop (n+1)=t:=by rw [show n+1=n+1 from rfl,<-List.drop_drop,hd];rfl
    rw [zCk,e2] at R2;obtain ⟨m,hm⟩:∃ m,Wlx.runP Wlx.dig t=m:=⟨_,rfl⟩
    have hml:m<=t.length:=by rw [<-hm];exact Wlx.runP_le _ _
    rw [hm] at R2;by_cases h1:0<m
    ·have E:Hid (Wlx.numSz b.data.toList=n+1+m):=by show _=_;rw [E0.out,if_neg h0,hd];rw [Wlx.numTl_cons,hm,if_pos ⟨rfl,h1⟩]
     have h1i:(0:Int)<(m:Int):=by omega
     clear E0 hd e2 hm;go_enter func150,ntmps150;go_wp2_with fail
     refine R1.mono ?_;rintro e w1 ⟨rfl,hb1⟩;go_wp2_with fail
     refine (HP _).mono ?_;rintro e w2 ⟨rfl,rfl⟩;go_wp2_with fail
     refine (R2 _).mono ?_;rintro e w2 ⟨rfl,hb2⟩;go_wp2;go_ret;exact ⟨by rw [E.out];exact zH9 (by omega),hb1.trans (hb2.mono hb1.size)⟩
    ·have E:Hid (Wlx.numSz b.data.toList=n):=by show _=_;rw [E0.out,if_neg h0,hd];rw [Wlx.numTl_cons,hm,if_neg (λh=>h1 h.2)]
     have h1i:¬ (0:Int)<(m:Int):=by omega
     clear E0 hd e2 hm;go_enter func150,ntmps150;go_wp2_with fail
     refine R1.mono ?_;rintro e w1 ⟨rfl,hb1⟩;go_wp2_with fail
     refine (HP _).mono ?_;rintro e w2 ⟨rfl,rfl⟩;go_wp2_with fail
     refine (R2 _).mono ?_;rintro e w2 ⟨rfl,hb2⟩;go_wp2;go_ret;exact ⟨by rw [E.out];rfl,hb1.trans (hb2.mono hb1.size)⟩
   ·have hc':¬ (46:UInt8)=c:=λe=>hc e.symm
    rw [decide_eq_false hc'] at HP;have E:Hid (Wlx.numSz b.data.toList=n):=by show _=_;rw [E0.out,if_neg h0,hd];rw [Wlx.numTl_cons,if_neg (λh=>hc h.1)]
    clear E0 hd hc hc';go_enter func150,ntmps150;go_wp2_with fail
    refine R1.mono ?_;rintro e w1 ⟨rfl,hb1⟩;go_wp2_with fail
    refine (HP _).mono ?_;rintro e w2 ⟨rfl,rfl⟩;go_wp2;go_ret;exact ⟨by rw [E.out];rfl,hb1⟩
theorem zET (w:Bool) (i:Nat) (t:List UInt8):Wlx.quo w i (34::t)=Wlx.quo (!w) (i+1) t:=by
 conv=>lhs;unfold Wlx.quo
 rw [if_pos rfl]
theorem zNH (h:¬ c=34) (i:Nat) (t:List UInt8):Wlx.quo true i (c::t)=Wlx.quo true (i+1) t:=by
 conv=>lhs;unfold Wlx.quo
 rw [if_neg h,if_pos rfl]
theorem zK7 (h:¬ c=34) (i:Nat) (t:List UInt8):Wlx.quo false i (c::t)=i:=by
 conv=>lhs;unfold Wlx.quo
 rw [if_neg h,if_neg (by decide)]
end Go.Proofs.YtedifblompcdkaaGreatDoor
namespace Go.Proofs.YtedifblompcdkaaGreatDoor.Wnum
def rightB (n d:Int):Bool:=decide (-1000000000000<=n/\n<=1000000000000/\1<=d/\d<=1000000/\Int.gcd n d=1)
def cN (n d:Int):Int:=if rightB n d=true then n else 0
def cD (n d:Int):Int:=if rightB n d=true then d else 1
def okQ (r:Rat):Bool:=decide (-1000000000000<=r.num/\r.num<=1000000000000/\r.den<=1000000)
def oB:Option Rat->Bool
 | none=>false
 | some r=>okQ r
def oN:Option Rat->Int
 | none=>0
 | some r=>if okQ r=true then r.num else 0
def oD:Option Rat->Int
 | none=>0
 | some r=>if okQ r=true then (r.den:Int) else 0
def mk (n d:Int):Option Rat:=if d=0 then none else some (Rat.divInt n d)
theorem right_iff {n d:Int}:rightB n d=true ↔ (-1000000000000<=n/\n<=1000000000000/\1<=d/\d<=1000000/\Int.gcd n d=1):=by
 unfold rightB;exact decide_eq_true_iff
theorem cN_bd (n d:Int):-1000000000000<=cN n d/\cN n d<=1000000000000:=by
 unfold cN;split
 ·rename_i h;have:=right_iff.1 h;omega
 ·omega
theorem cD_bd (n d:Int):1<=cD n d/\cD n d<=1000000:=by
 unfold cD;split
 ·rename_i h;have:=right_iff.1 h;omega
 ·omega
theorem zC5 {n d:Int} (hd:1<=d) (hg:Int.gcd n d=1):(Rat.divInt n d).num=n/\((Rat.divInt n d).den:Int)=d:=by
 rw [Rat.num_divInt,Rat.den_divInt];have h1:d.sign=1:=Int.sign_eq_one_of_pos (by omega);have h2:Int.gcd d n=1:=by rw [Int.gcd_comm];exact hg
 rw [if_neg (by omega),h1,h2];constructor
 ·simp
 ·simp;omega
theorem mk_zero (n:Int):mk n 0=none:=by simp [mk]
theorem mk_pos {n d:Int} (h:d ≠ 0):mk n d=some (Rat.divInt n d):=by simp [mk,h]
theorem zPs {n d:Int} (hd:1<=d):let g:Int:=Int.gcd n d
  1<=g/\1<=d / g/\d / g<=d/\(mk n d=some (Rat.divInt (n / g) (d / g)))/\(Rat.divInt n d).num=n / g/\(((Rat.divInt n d).den:Nat):Int)=d / g:=by
 intro g;have hg0:Int.gcd n d ≠ 0:=by
  intro h;rw [Int.gcd_eq_zero_iff] at h;omega
 have hg:1<=g:=by show (1:Int)<=(Int.gcd n d:Int);omega
 have hdv:g ∣ d:=Int.gcd_dvd_right ..;have hnv:g ∣ n:=Int.gcd_dvd_left ..;obtain ⟨k,hk⟩:=hdv;obtain ⟨m,hm⟩:=hnv;have hdg:d / g=k:=by rw [hk];exact Int.mul_ediv_cancel_left _ (by omega)
 have hng:n / g=m:=by rw [hm];exact Int.mul_ediv_cancel_left _ (by omega)
 have hk1:1<=k:=by
  rcases Int.lt_or_le 0 k with h | h
  ·omega
  ·have:g * k<=g * 0:=Int.mul_le_mul_of_nonneg_left h (by omega);omega
 have hkd:k<=d:=by
  rw [hk];have:1 * k<=g * k:=Int.mul_le_mul_of_nonneg_right hg (by omega);omega
 have hq:Rat.divInt n d=Rat.divInt m k:=by
  rw [hm,hk];exact Rat.divInt_mul_left (by omega)
 have hc:Int.gcd m k=1:=by
  have:=Int.gcd_mul_left g m k;rw [<-hm,<-hk] at this;have h2:g.natAbs=Int.gcd n d:=by show (Int.natAbs (Int.gcd n d:Int))=_;simp
  rw [h2] at this;have e:Int.gcd n d * Int.gcd m k=Int.gcd n d * 1:=by rw [Nat.mul_one];exact this.symm
  exact Nat.eq_of_mul_eq_mul_left (by omega) e
 rw [hdg,hng];refine ⟨hg,hk1,hkd,?_,?_,?_⟩
 ·rw [mk_pos (by omega),hq]
 ·rw [hq];exact (zC5 hk1 hc).1
 ·rw [hq];exact (zC5 hk1 hc).2
theorem mk_tdiv {n d:Int} (hd:1<=d) (hn:-9223372036854775807<=n) (hn':n<=9223372036854775807) :
  1<=((Int.gcd n d:Nat):Int) /\ -9223372036854775807<=n.tdiv ((Int.gcd n d:Nat):Int)/\n.tdiv ((Int.gcd n d:Nat):Int)<=9223372036854775807/\(Rat.divInt n d).num=n.tdiv ((Int.gcd n d:Nat):Int)/\(((Rat.divInt n d).den:Nat):Int)=d / ((Int.gcd n d:Nat):Int):=by
 obtain ⟨h1,_,_,_,h5,h6⟩:=zPs (n:=n) hd;have hdv:((Int.gcd n d:Nat):Int) ∣ n:=Int.gcd_dvd_left ..;have e:n.tdiv ((Int.gcd n d:Nat):Int)=n / ((Int.gcd n d:Nat):Int):=Int.tdiv_eq_ediv_of_dvd hdv;have b1:(n.tdiv ((Int.gcd n d:Nat):Int)).natAbs<=n.natAbs:=Int.natAbs_tdiv_le_natAbs ..;refine ⟨h1,by omega,by omega,by rw [e];exact h5,h6⟩
end Go.Proofs.YtedifblompcdkaaGreatDoor.Wnum
namespace Go.Proofs.YtedifblompcdkaaGreatDoor
open Tryz
open Go.RowKit
variable {W w w1:World}
theorem zFj {k:IntKind} {a b:Int} (h:a=b):Ending.returned (.int k a)=.returned (.int k b):=by rw [h]
theorem zCn (a:Int) (w:World) (h1:-9223372036854775807<=a) (h2:a<=9223372036854775807) :
  Calls prog 106 #[.int .i64 a] w λe w'=>e=.returned (.int .i64 (a.natAbs:Int))/\w=w':=by
 by_cases h:a<0
 ·go_enter func106,ntmps106;go_wp2;go_ret;exact ⟨zFj (by omega),rfl⟩
 ·go_enter func106,ntmps106;go_wp2;go_ret;exact ⟨zFj (by omega),rfl⟩
theorem zBn (a b:Int) (w:World) (h1:-9223372036854775807<=a) (h2:a<=9223372036854775807) (h3:-9223372036854775807<=b) (h4:b<=9223372036854775807) :
  Calls prog 82 #[.int .i64 a,.int .i64 b] w λe w'=>e=.returned (.int .i64 (Int.gcd a b:Int))/\∃ n,w'=w.drewN n:=by
 have b1:a.natAbs<=9223372036854775807:=by omega
 have b2:b.natAbs<=9223372036854775807:=by omega
 have H:Hid (Nat.gcd a.natAbs b.natAbs=Int.gcd a b):=(rfl:Nat.gcd a.natAbs b.natAbs=Int.gcd a b)
 go_enter func82,ntmps82;go_wp2_with (go_at_call 106;refine (zCn _ _ (by assumption) (by assumption)).mono ?_;rintro e w' ⟨rfl,rfl⟩)
 go_loopw [0,1] (λx y wr=>∃ p q:Nat,x=.int .i64 p/\y=.int .i64 q/\p<=9223372036854775807/\q<=9223372036854775807/\Hid (Nat.gcd p q=Int.gcd a b)/\∃ n,wr=w.drewN n) (λ_ y _=>(intOf y).toNat)
 case atStart=>exact ⟨a.natAbs,b.natAbs,rfl,rfl,b1,b2,H,0,rfl⟩
 case round =>
  obtain ⟨p,q,rfl,rfl,hp,hq,hg,n,rfl⟩:=hrel;by_cases hz:q=0
  ·subst hz;go_wp2;go_ret;exact ⟨zFj (by rw [<-hg.out,Nat.gcd_zero_right]),n,rfl⟩
  ·have hz':((q:Int) != 0)=true:=by simp;omega
   go_wp2;go_quiet (fail)
   go_wp2;go_roundw
   case rel=>exact ⟨q,p % q,rfl,by go_num,hq,by have:=Nat.mod_lt p (Nat.pos_of_ne_zero hz);omega,by exact (show Nat.gcd q (p % q)=Int.gcd a b by rw [<-hg.out,Nat.gcd_comm p q,Nat.gcd_rec q p,Nat.gcd_comm]),_,World.drewN_drewN ..⟩
   case measure=>simp [intOf];have:=Nat.mod_lt p (Nat.pos_of_ne_zero hz);omega
theorem zCs (n d:Int) (r:Rat) (w:World) (h1:-9223372036854775807<=n) (h2:n<=9223372036854775807) (hn:Hid (r.num=n)) (hd:Hid ((r.den:Int)=d)) :
  CR 83 #[.int .i64 n,.int .i64 d] w (.tuple #[.agg #[.int .i64 (Wnum.oN (some r)),.int .i64 (Wnum.oD (some r))],.bool (Wnum.oB (some r))]):=by
 by_cases c:n.natAbs<=1000000000000/\d<=1000000
 ·obtain ⟨c1,c2⟩:=c;have hok:Wnum.okQ r=true:=by unfold Wnum.okQ;rw [decide_eq_true_iff,hn.out];have:=hd.out;omega
  have e1:Hid (Wnum.oN (some r)=n):=by show (if Wnum.okQ r=true then r.num else 0)=n;rw [if_pos hok];exact hn.out
  have e2:Hid (Wnum.oD (some r)=d):=by show (if Wnum.okQ r=true then (r.den:Int) else 0)=d;rw [if_pos hok];exact hd.out
  have e3:Hid (Wnum.oB (some r)=true):=hok;rw [e1.out,e2.out,e3.out];clear hok e1 e2 e3;have t1:decide ((1000000000000:Int)<(n.natAbs:Int))=false:=by simp;omega
  have t2:decide ((1000000:Int)<d)=false:=by simp;omega
  go_enter func83,ntmps83;go_wp2_with (go_at_call 106;refine (zCn _ _ (by assumption) (by assumption)).mono ?_;rintro e w' ⟨rfl,rfl⟩)
  exact bodyPost_ret (v:=.tuple #[.agg #[.int .i64 n,.int .i64 d],.bool true]) (by simp [results,results83,go_sem]) rfl ⟨rfl,(Below.refl _ _).alloc (Nat.le_refl _) _⟩
 ·have hok:Wnum.okQ r=false:=by unfold Wnum.okQ;rw [decide_eq_false_iff_not,hn.out];have:=hd.out;omega
  have e1:Hid (Wnum.oN (some r)=0):=by show (if Wnum.okQ r=true then r.num else 0)=0;rw [hok];rfl
  have e2:Hid (Wnum.oD (some r)=0):=by show (if Wnum.okQ r=true then (r.den:Int) else 0)=0;rw [hok];rfl
  have e3:Hid (Wnum.oB (some r)=false):=hok;rw [e1.out,e2.out,e3.out];clear hok e1 e2 e3;by_cases c1:n.natAbs<=1000000000000
  ·have t1:decide ((1000000000000:Int)<(n.natAbs:Int))=false:=by simp;omega
   have t2:decide ((1000000:Int)<d)=true:=by simp;omega
   clear c c1;go_enter func83,ntmps83;go_wp2_with (go_at_call 106;refine (zCn _ _ (by assumption) (by assumption)).mono ?_;rintro e w' ⟨rfl,rfl⟩)
   exact bodyPost_ret (v:=.tuple #[.agg #[.int .i64 0,.int .i64 0],.bool false]) (by simp [results,results83,go_sem]) rfl ⟨rfl,(Below.refl _ _).alloc (Nat.le_refl _) _⟩
  ·have t1:decide ((1000000000000:Int)<(n.natAbs:Int))=true:=by simp;omega
   clear c c1;go_enter func83,ntmps83;go_wp2_with (go_at_call 106;refine (zCn _ _ (by assumption) (by assumption)).mono ?_;rintro e w' ⟨rfl,rfl⟩)
   exact bodyPost_ret (v:=.tuple #[.agg #[.int .i64 0,.int .i64 0],.bool false]) (by simp [results,results83,go_sem]) rfl ⟨rfl,(Below.refl _ _).alloc (Nat.le_refl _) _⟩
theorem zAX {B:Nat} {a:World} (h:Below B a w) (n:Nat):Below B a (w.drewN n):=⟨h.os,h.tape,h.output,h.size,h.block⟩
theorem zQI (hb:Below W.heap.size W w1):(∀ b o,b<W.heap.size->w1.cell? ⟨b,o,none⟩=W.cell? ⟨b,o,none⟩)/\(∀ b o,b<W.heap.size->w1.frozen? ⟨b,o,none⟩=W.frozen? ⟨b,o,none⟩) :=
 ⟨λb o h=>hb.cell (p:=⟨b,o,none⟩) h,λb o h=>hb.frozen (p:=⟨b,o,none⟩) h⟩
theorem zAA (h0:Below w.heap.size w W) (hb:Below W.heap.size W w1):Below w.heap.size w w1:=h0.trans (hb.mono h0.size)
theorem zAH (h:Below w.heap.size w W) (o:Obj):Below w.heap.size w (W.alloc o):=h.alloc h.size o
theorem bsz {k:Nat} (hb:Below W.heap.size W w1) (h:k<W.heap.size):k<w1.heap.size:=Nat.lt_of_lt_of_le h hb.size
theorem zAm {a b:Bool} (h:a=b):Ending.returned (.bool a)=.returned (.bool b):=by rw [h]
theorem zFY (n d:Int) (w:World) (h1:-9223372036854775808<=n) (h2:n<=9223372036854775807) (h3:-9223372036854775808<=d) (h4:d<=9223372036854775807) :
  CR 65 #[.agg #[.int .i64 n,.int .i64 d]] w (.bool (Wnum.rightB n d)):=by
 by_cases c1:n < -1000000000000
 ·have e:Hid (Wnum.rightB n d=false):=by show Wnum.rightB n d=false;unfold Wnum.rightB;rw [decide_eq_false_iff_not];omega
  rw [e.out];clear e;go_enter func65,ntmps65;go_wp2;go_ret;exact ⟨rfl,(Below.refl _ _).alloc (Nat.le_refl _) _⟩
 by_cases c2:1000000000000<n
 ·have e:Hid (Wnum.rightB n d=false):=by show Wnum.rightB n d=false;unfold Wnum.rightB;rw [decide_eq_false_iff_not];omega
  rw [e.out];clear e;go_enter func65,ntmps65;go_wp2;go_ret;exact ⟨rfl,(Below.refl _ _).alloc (Nat.le_refl _) _⟩
 by_cases c3:d<1
 ·have e:Hid (Wnum.rightB n d=false):=by show Wnum.rightB n d=false;unfold Wnum.rightB;rw [decide_eq_false_iff_not];omega
  rw [e.out];clear e;go_enter func65,ntmps65;go_wp2;go_ret;exact ⟨rfl,(Below.refl _ _).alloc (Nat.le_refl _) _⟩
 by_cases c4:1000000<d
 ·have e:Hid (Wnum.rightB n d=false):=by show Wnum.rightB n d=false;unfold Wnum.rightB;rw [decide_eq_false_iff_not];omega
  rw [e.out];clear e;go_enter func65,ntmps65;go_wp2;go_ret;exact ⟨rfl,(Below.refl _ _).alloc (Nat.le_refl _) _⟩
 have e:Hid ((((Int.gcd n d:Nat):Int) == 1)=Wnum.rightB n d):=by
  show _=_
  unfold Wnum.rightB;by_cases g:Int.gcd n d=1
  ·rw [g,decide_eq_true (by omega)];rfl
  ·rw [decide_eq_false (by omega),beq_eq_false_iff_ne];omega
 rw [<-e.out];clear e;go_enter func65,ntmps65;go_wp2_with (go_at_call 82;refine (zBn _ _ _ (by omega) (by omega) (by omega) (by omega)).mono ?_;rintro e w' ⟨rfl,nq,rfl⟩)
 go_ret;exact ⟨rfl,zAX ((Below.refl _ _).alloc (Nat.le_refl _) _) _⟩
theorem zIB {t:ByteArray} (h:¬ t=⟨#[]⟩):(t.toList == [])=false:=by
 rw [beq_eq_false_iff_ne];intro e;rw [ByteArray.toList_eq] at e;exact h (ByteArray.ext (Array.ext' e))
def knd (t:ByteArray):Int:=if t=⟨#[]⟩ then 0 else if Wlx.begins [61] t.data.toList then 2 else 1
theorem zHM (f:Ct) (w:World) (hs:f.t.size<=9223372036854775807):CR 20 #[ctV f] w (.int .i64 (knd f.t)):=by
 obtain ⟨t,a,n,k⟩:=f;have hb0:=zAH (Below.refl _ w) (.cells #[.string t,.slice a n k] 61);have p:=AtL.new0 w 61 [.string t,.slice a n k];have PX:=zAy t ⟨#[61]⟩ (w.alloc (.cells #[.string t,.slice a n k] 61)) hs;unfold knd;simp only at hs ⊢;by_cases h0:t=⟨#[]⟩
 ·rw [if_pos h0];subst h0;clear PX;go_enter func20,ntmps20;go_upto_region 1 with fail
  generalize w.alloc (.cells #[.string ⟨#[]⟩,.slice a n k] 61)=W0 at *;obtain ⟨c0,_,_,_⟩:=p.two;go_wp2;go_ret;exact ⟨rfl,hb0⟩
 ·rw [if_neg h0];obtain ⟨q,hq⟩:∃ q,Wlx.begins [61] t.data.toList=q:=⟨_,rfl⟩
  rw [hq];have PX:Calls prog 36 #[.string t,.string ⟨#[61]⟩] (w.alloc (.cells #[.string t,.slice a n k] 61)) λe w'=>e=.returned (.bool q)/\(w.alloc (.cells #[.string t,.slice a n k] 61))=w':=by rw [<-hq];exact PX
  have x1:=zIB h0;clear hq hs;go_enter func20,ntmps20;go_upto_region 1 with fail
  generalize w.alloc (.cells #[.string t,.slice a n k] 61)=W0 at *;obtain ⟨c0,_,_,_⟩:=p.two;go_wp2_with fail
  refine PX.mono ?_;rintro e w1 ⟨rfl,rfl⟩;clear PX;cases q with
  | true =>
   go_wp2;go_ret;exact ⟨rfl,hb0⟩
  | false =>
   go_wp2;go_ret;exact ⟨rfl,hb0⟩
theorem zNu (s:ByteArray) (w:World) (hx:¬ s.data.toList.head? = some 61) :
  Calls prog 37 #[.string s,.string ⟨#[61]⟩] w λe w'=>e=.returned (.tuple #[.string s,.bool false])/\w=w':=by
 by_cases h0:0<s.size
 ·have h1:(1:Int)<=(s.size:Int):=by omega
  have hx1:((s.extract 0 1).toList == [61])=false:=by
   rw [beq_eq_false_iff_ne];intro e;apply hx
   rw [ByteArray.toList_eq,ByteArray.data_extract,Array.toList_extract] at e;cases hq:s.data.toList with
   | nil=>rw [hq] at e;simp at e
   | cons c t=>rw [hq] at e;simp [List.extract] at e;rw [e];rfl
  clear hx;go_enter func37,ntmps37;go_wp2;go_ret2
  exact ⟨rfl,rfl⟩
 ·have h1:¬ (1:Int)<=(s.size:Int):=by omega
  clear hx;go_enter func37,ntmps37;go_wp2;go_ret2
  exact ⟨rfl,rfl⟩
theorem zEC (t:List UInt8) (w:World) (ht:t.length<=9223372036854775806) :
  Calls prog 37 #[.string ⟨(61::t).toArray⟩,.string ⟨#[61]⟩] w λe w'=>e=.returned (.tuple #[.string ⟨t.toArray⟩,.bool true])/\w=w':=by
 obtain ⟨s,hs⟩:∃ s:ByteArray,s=⟨(61::t).toArray⟩:=⟨_,rfl⟩
 have h0:s.size=t.length+1:=by rw [hs];rfl
 have hx1:((s.extract 0 1).toList == [61])=true:=by rw [hs];simp [ByteArray.toList_eq,ByteArray.data_extract,List.extract]
 have hx2:s.extract 1 s.size=⟨t.toArray⟩:=by
  rw [h0,hs];apply ByteArray.ext
  rw [ByteArray.data_extract];apply Array.ext'
  simp [List.extract]
 have h1:(1:Int)<=(s.size:Int):=by omega
 rw [<-hs];clear hs h0;go_enter func37,ntmps37;go_wp2;go_ret2
 exact ⟨rfl,rfl⟩
def fgn:List UInt8->Nat->Int
 | [],_=>-1
 | b::r,i=>if b.toNat<32 \/ 126<b.toNat then (i:Int) else fgn r (i+1)
theorem zBM (t:ByteArray) (w:World) (hs:t.size<=1024):CR 72 #[.string t] w (.int .i64 (fgn t.data.toList 0)):=by
 obtain ⟨l,hl⟩:∃ l,t=(⟨l.toArray⟩:ByteArray):=⟨t.data.toList,by apply ByteArray.ext;simp⟩
 have hn:t.size=l.length:=by rw [hl];rfl
 have hR:t.data.toList=l:=by rw [hl]
 rw [hR];rw [hn] at hs;have HG:Hid (∀ (i:Nat) (h:i<l.length) (h':i<t.size),t[i]=l[i]):=λi h h'=>by
  subst hl;rfl
 obtain ⟨R,hR2⟩:∃ R,fgn l 0=R:=⟨_,rfl⟩
 rw [hR2];have HR0:Hid (fgn (l.drop 0) 0=R):=hR2;clear hl hR hR2;go_enter func72,ntmps72;go_upto_region 2 with fail
 go_loopg [6,3] l.length (λgk x y wr=>∃ i:Nat,x=.int .i64 (i:Int)/\gk=l.length - i/\Hid (i<=l.length)/\Hid (fgn (l.drop i) i=R)/\wr=w)
 case atStart=>exact ⟨0,rfl,rfl,Nat.zero_le _,HR0,rfl⟩
 case round =>
  obtain ⟨i,rfl,hg,HI,HR,rfl⟩:=hrel;by_cases hlt:i<l.length
  ·have hii:(i:Int)<(t.size:Int):=by omega
   have hiz:(0:Int)<=(i:Int):=by omega
   have hwi:IntKind.i64.wrap ((i:Int)+1)=(i:Int)+1:=by rw [IntKind.wrap_i64];omega
   have hlz:i<t.size:=by omega
   obtain ⟨b,hb⟩:∃ b,l[i]=b:=⟨_,rfl⟩
   have hgt:t[i]=b:=by rw [HG.out i hlt hlz,hb]
   have HD:Hid (fgn (l.drop i) i=if b.toNat<32 \/ 126<b.toNat then (i:Int) else fgn (l.drop (i+1)) (i+1)):=by
    show _=_
    rw [List.drop_eq_getElem_cons hlt,hb];rfl
   clear hb;by_cases h1:b.toNat<32
   ·have h2:((t[i]).toNat:Int)<32:=by rw [hgt];omega
    have HE:Hid (R=(i:Int)):=by show _=_;rw [<-HR.out,HD.out,if_pos (Or.inl h1)]
    clear HD HR HG h1 hgt;go_wp2;go_ret;exact ⟨by rw [HE.out];rfl,Below.refl _ _⟩
   ·have h2:¬ ((t[i]).toNat:Int)<32:=by rw [hgt];omega
    by_cases h3:126<b.toNat
    ·have h4:(126:Int)<((t[i]).toNat:Int):=by rw [hgt];omega
     have HE:Hid (R=(i:Int)):=by show _=_;rw [<-HR.out,HD.out,if_pos (Or.inr h3)]
     clear HD HR HG h1 h3 hgt;go_wp2;go_ret;exact ⟨by rw [HE.out];rfl,Below.refl _ _⟩
    ·have h4:¬ (126:Int)<((t[i]).toNat:Int):=by rw [hgt];omega
     have HR2:Hid (fgn (l.drop (i+1)) (i+1)=R):=by show _=_;rw [<-HR.out,HD.out,if_neg (by omega)]
     clear HD HR HG h1 h3 hgt;go_wp2_with fail
     go_roundg (l.length - (i+1))
     case rel=>exact ⟨i+1,by simp,rfl,hlt,HR2,rfl⟩
     case measure=>omega
  ·have hii:¬ (i:Int)<(t.size:Int):=by omega
   have HE:Hid (R = -1):=by
    show _=_
    rw [<-HR.out,List.drop_eq_nil_of_le (by omega)];rfl
   clear HR HG;go_wp2;go_ret;exact ⟨by rw [HE.out];rfl,Below.refl _ _⟩
