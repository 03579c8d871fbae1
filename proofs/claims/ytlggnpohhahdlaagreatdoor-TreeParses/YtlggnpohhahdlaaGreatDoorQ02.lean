/- LRun, VWalkA, VEq, PPlain, PWalkA, VWalkB, VWalkC, TKit. -/
import Derived.Test.YtlggnpohhahdlaaGreatDoorQ01
import Derived.Deep.LoopGhost
import Derived.Deep.MidRow
set_option maxHeartbeats 400000
set_option maxRecDepth 100000
namespace Go.Proofs.YtlggnpohhahdlaaGreatDoor
open Go.RowKit
set_option linter.unusedVariables false
theorem drop_at (b:ByteArray) (i:Nat) (h:i<b.size):b.data.toList.drop i=b[i]::b.data.toList.drop (i+1):=List.drop_eq_getElem_cons (by simpa using h)
theorem drop_end (b:ByteArray) (i:Nat) (h:¬ i<b.size):b.data.toList.drop i=[]:=List.drop_eq_nil_of_le (by have:b.data.toList.length=b.size:=rfl;omega)
theorem rune_at (b:ByteArray) (i:Nat) (h:i<b.size):((b[i]).toNat<128∧Utf8.decode b i=((b[i]).toNat,1)) ∨ (128≤(b[i]).toNat∧128≤(Utf8.decode b i).1):=by
 by_cases c:(b[i]).toNat<128
 ·exact Or.inl ⟨c,decode_ascii b i h c⟩
 ·exact Or.inr ⟨by omega,(decode_high b i h (by omega)).1⟩
theorem dig_hi {c:UInt8} (h:128≤c.toNat):Wlx.dig c=false:=by unfold Wlx.dig;simp;omega
theorem prt_hi {c:UInt8} (h:128≤c.toNat):Wlx.prt c=false:=by unfold Wlx.prt;simp;omega
theorem wrd_hi {c:UInt8} (h:128≤c.toNat):Wlx.wrd c=false:=by unfold Wlx.wrd Wlx.cap Wlx.low Wlx.dig;simp;omega
def q_digit (r:Int):Bool:=(decide (48≤r) && decide (r≤57))
theorem q_digit_hi {r:Int} (h:128≤r):q_digit r=false:=by unfold q_digit;simp;omega
theorem run_digit (b:ByteArray) (w:World) (hs:b.size≤9223372036854775807):Calls Tryz.prog 35 #[.string b,.func (.func 89) #[] #[]] w fun e w'=>e=.returned (.int .i64 (Wlx.runP Wlx.dig b.data.toList:Nat))∧Below w.heap.size w w':=by
 have C:∀ (r:Int) (w:World),Calls Tryz.prog 89 #[.int .i32 r] w fun e w'=>e=.returned (.bool (q_digit r))∧w=w':=fun r w=>isDigit_any r w
 go_enter Tryz.func35,Tryz.ntmps35;go_wp2_with fail
 go_loopw [5] (fun _ wr=>∃ pos:Nat,pos≤b.size∧wr.heap[w.heap.size]? = some (.stringIter b pos)∧Hid (Wlx.runP Wlx.dig b.data.toList=pos+Wlx.runP Wlx.dig (b.data.toList.drop pos))∧Below w.heap.size w wr) (fun _ wr=>b.size - wr.iterPos w.heap.size)
 case atStart=>exact ⟨0,Nat.zero_le _,World.iter_heap w b 0,(by simp:Wlx.runP Wlx.dig b.data.toList=0+Wlx.runP Wlx.dig (b.data.toList.drop 0)),(Below.refl _ w).alloc (Nat.le_refl _) _⟩
 case round =>
  obtain ⟨pos,hp,hit,HR,hb⟩:=hrel;by_cases hlt:pos<b.size
  ·have nx:=fun ty=>Lib.run_next_any_at (P:=Tryz.prog) wr w.heap.size b pos ty hit hlt
   have hk2:=fun q=>Lib.iterAt_heap wr w.heap.size b pos q hit
   have hb2:=fun q=>Lib.below_iterAt hb (Nat.le_refl w.heap.size) b q
   rcases rune_at b pos hlt with ⟨hc,e⟩ | ⟨hc,e⟩
   ·rw [e] at nx;cases hq:q_digit ((b[pos]).toNat:Int) with
    | true =>
     have E:Hid (Wlx.runP Wlx.dig b.data.toList=(pos+1)+Wlx.runP Wlx.dig (b.data.toList.drop (pos+1))):=by
      show _=_
      rw [HR.out,drop_at b pos hlt,Wlx.runP_pos hq];omega
     have hi:=hk2 (pos+1);have hbb:=hb2 (pos+1);have hm:wr.iterPos w.heap.size=pos:=by simp [World.iterPos,hit]
     have hm2:(wr.iterAt w.heap.size b (pos+1)).iterPos w.heap.size=pos+1:=by simp [World.iterPos,hi]
     clear HR hk2 hb2;go_wp2_with fail
     refine (C _ _).mono ?_;rintro e w1 ⟨rfl,rfl⟩;go_wp2_with fail
     go_roundw
     case rel=>exact ⟨pos+1,hlt,hi,E,hbb⟩
     case measure=>rw [hm,hm2];omega
    | false =>
     have E:Hid (Wlx.runP Wlx.dig b.data.toList=pos):=by
      show _=_
      rw [HR.out,drop_at b pos hlt,Wlx.runP_neg hq];rfl
     have hbb:=hb2 (pos+1);clear HR hk2 hb2;go_wp2_with fail
     refine (C _ _).mono ?_;rintro e w1 ⟨rfl,rfl⟩;go_wp2;go_ret;exact ⟨by rw [E.out];rfl,hbb⟩
   ·have E:Hid (Wlx.runP Wlx.dig b.data.toList=pos):=by
     show _=_
     rw [HR.out,drop_at b pos hlt,Wlx.runP_neg (dig_hi hc)];rfl
    obtain ⟨rv,hrv⟩:∃ rv:Nat,(Utf8.decode b pos).1=rv:=⟨_,rfl⟩
    obtain ⟨n,hn⟩:∃ n:Nat,(Utf8.decode b pos).2=n:=⟨_,rfl⟩
    rw [hrv,hn] at nx;rw [hrv] at e;have hq:q_digit (rv:Int)=false:=q_digit_hi (by omega);have hbb:=hb2 (pos+n);clear HR hk2 hb2 hrv hn e;go_wp2_with fail
    refine (C _ _).mono ?_;rintro e w1 ⟨rfl,rfl⟩;go_wp2;go_ret;exact ⟨by rw [E.out];rfl,hbb⟩
  ·have nx:=fun ty=>Lib.run_next_end_at (P:=Tryz.prog) wr w.heap.size b pos ty hit hlt
   have E:Hid (Wlx.runP Wlx.dig b.data.toList=b.size):=by
    show _=_
    rw [HR.out,drop_end b pos hlt];simp [Wlx.runP];omega
   clear HR;go_wp2;go_ret;exact ⟨by rw [E.out];rfl,hb⟩
def q_print (r:Int):Bool:=(decide (32≤r) && decide (r≤126))
theorem q_print_hi {r:Int} (h:128≤r):q_print r=false:=by unfold q_print;simp;omega
theorem run_print (b:ByteArray) (w:World) (hs:b.size≤9223372036854775807):Calls Tryz.prog 35 #[.string b,.func (.func 36) #[] #[]] w fun e w'=>e=.returned (.int .i64 (Wlx.runP Wlx.prt b.data.toList:Nat))∧Below w.heap.size w w':=by
 have C:∀ (r:Int) (w:World),Calls Tryz.prog 36 #[.int .i32 r] w fun e w'=>e=.returned (.bool (q_print r))∧w=w':=fun r w=>isPrintable_any r w
 go_enter Tryz.func35,Tryz.ntmps35;go_wp2_with fail
 go_loopw [5] (fun _ wr=>∃ pos:Nat,pos≤b.size∧wr.heap[w.heap.size]? = some (.stringIter b pos)∧Hid (Wlx.runP Wlx.prt b.data.toList=pos+Wlx.runP Wlx.prt (b.data.toList.drop pos))∧Below w.heap.size w wr) (fun _ wr=>b.size - wr.iterPos w.heap.size)
 case atStart=>exact ⟨0,Nat.zero_le _,World.iter_heap w b 0,(by simp:Wlx.runP Wlx.prt b.data.toList=0+Wlx.runP Wlx.prt (b.data.toList.drop 0)),(Below.refl _ w).alloc (Nat.le_refl _) _⟩
 case round =>
  obtain ⟨pos,hp,hit,HR,hb⟩:=hrel;by_cases hlt:pos<b.size
  ·have nx:=fun ty=>Lib.run_next_any_at (P:=Tryz.prog) wr w.heap.size b pos ty hit hlt
   have hk2:=fun q=>Lib.iterAt_heap wr w.heap.size b pos q hit
   have hb2:=fun q=>Lib.below_iterAt hb (Nat.le_refl w.heap.size) b q
   rcases rune_at b pos hlt with ⟨hc,e⟩ | ⟨hc,e⟩
   ·rw [e] at nx;cases hq:q_print ((b[pos]).toNat:Int) with
    | true =>
     have E:Hid (Wlx.runP Wlx.prt b.data.toList=(pos+1)+Wlx.runP Wlx.prt (b.data.toList.drop (pos+1))):=by
      show _=_
      rw [HR.out,drop_at b pos hlt,Wlx.runP_pos hq];omega
     have hi:=hk2 (pos+1);have hbb:=hb2 (pos+1);have hm:wr.iterPos w.heap.size=pos:=by simp [World.iterPos,hit]
     have hm2:(wr.iterAt w.heap.size b (pos+1)).iterPos w.heap.size=pos+1:=by simp [World.iterPos,hi]
     clear HR hk2 hb2;go_wp2_with fail
     refine (C _ _).mono ?_;rintro e w1 ⟨rfl,rfl⟩;go_wp2_with fail
     go_roundw
     case rel=>exact ⟨pos+1,hlt,hi,E,hbb⟩
     case measure=>rw [hm,hm2];omega
    | false =>
     have E:Hid (Wlx.runP Wlx.prt b.data.toList=pos):=by
      show _=_
      rw [HR.out,drop_at b pos hlt,Wlx.runP_neg hq];rfl
     have hbb:=hb2 (pos+1);clear HR hk2 hb2;go_wp2_with fail
     refine (C _ _).mono ?_;rintro e w1 ⟨rfl,rfl⟩;go_wp2;go_ret;exact ⟨by rw [E.out];rfl,hbb⟩
   ·have E:Hid (Wlx.runP Wlx.prt b.data.toList=pos):=by
     show _=_
     rw [HR.out,drop_at b pos hlt,Wlx.runP_neg (prt_hi hc)];rfl
    obtain ⟨rv,hrv⟩:∃ rv:Nat,(Utf8.decode b pos).1=rv:=⟨_,rfl⟩
    obtain ⟨n,hn⟩:∃ n:Nat,(Utf8.decode b pos).2=n:=⟨_,rfl⟩
    rw [hrv,hn] at nx;rw [hrv] at e;have hq:q_print (rv:Int)=false:=q_print_hi (by omega);have hbb:=hb2 (pos+n);clear HR hk2 hb2 hrv hn e;go_wp2_with fail
    refine (C _ _).mono ?_;rintro e w1 ⟨rfl,rfl⟩;go_wp2;go_ret;exact ⟨by rw [E.out];rfl,hbb⟩
  ·have nx:=fun ty=>Lib.run_next_end_at (P:=Tryz.prog) wr w.heap.size b pos ty hit hlt
   have E:Hid (Wlx.runP Wlx.prt b.data.toList=b.size):=by
    show _=_
    rw [HR.out,drop_end b pos hlt];simp [Wlx.runP];omega
   clear HR;go_wp2;go_ret;exact ⟨by rw [E.out];rfl,hb⟩
def q_word (r:Int):Bool:=((decide (65≤r) && decide (r≤90)) || (decide (97≤r) && decide (r≤122)) || decide (r=36) || (decide (48≤r) && decide (r≤57)))
theorem q_word_hi {r:Int} (h:128≤r):q_word r=false:=by unfold q_word;simp;omega
theorem run_word (b:ByteArray) (w:World) (hs:b.size≤9223372036854775807):Calls Tryz.prog 35 #[.string b,.func (.func 57) #[] #[]] w fun e w'=>e=.returned (.int .i64 (Wlx.runP Wlx.wrd b.data.toList:Nat))∧Below w.heap.size w w':=by
 have C:∀ (r:Int) (w:World),Calls Tryz.prog 57 #[.int .i32 r] w fun e w'=>e=.returned (.bool (q_word r))∧w=w':=fun r w=>isOfWord_any r w
 go_enter Tryz.func35,Tryz.ntmps35;go_wp2_with fail
 go_loopw [5] (fun _ wr=>∃ pos:Nat,pos≤b.size∧wr.heap[w.heap.size]? = some (.stringIter b pos)∧Hid (Wlx.runP Wlx.wrd b.data.toList=pos+Wlx.runP Wlx.wrd (b.data.toList.drop pos))∧Below w.heap.size w wr) (fun _ wr=>b.size - wr.iterPos w.heap.size)
 case atStart=>exact ⟨0,Nat.zero_le _,World.iter_heap w b 0,(by simp:Wlx.runP Wlx.wrd b.data.toList=0+Wlx.runP Wlx.wrd (b.data.toList.drop 0)),(Below.refl _ w).alloc (Nat.le_refl _) _⟩
 case round =>
  obtain ⟨pos,hp,hit,HR,hb⟩:=hrel;by_cases hlt:pos<b.size
  ·have nx:=fun ty=>Lib.run_next_any_at (P:=Tryz.prog) wr w.heap.size b pos ty hit hlt
   have hk2:=fun q=>Lib.iterAt_heap wr w.heap.size b pos q hit
   have hb2:=fun q=>Lib.below_iterAt hb (Nat.le_refl w.heap.size) b q
   rcases rune_at b pos hlt with ⟨hc,e⟩ | ⟨hc,e⟩
   ·rw [e] at nx;cases hq:q_word ((b[pos]).toNat:Int) with
    | true =>
     have E:Hid (Wlx.runP Wlx.wrd b.data.toList=(pos+1)+Wlx.runP Wlx.wrd (b.data.toList.drop (pos+1))):=by
      show _=_
      rw [HR.out,drop_at b pos hlt,Wlx.runP_pos hq];omega
     have hi:=hk2 (pos+1);have hbb:=hb2 (pos+1);have hm:wr.iterPos w.heap.size=pos:=by simp [World.iterPos,hit]
     have hm2:(wr.iterAt w.heap.size b (pos+1)).iterPos w.heap.size=pos+1:=by simp [World.iterPos,hi]
     clear HR hk2 hb2;go_wp2_with fail
     refine (C _ _).mono ?_;rintro e w1 ⟨rfl,rfl⟩;go_wp2_with fail
     go_roundw
     case rel=>exact ⟨pos+1,hlt,hi,E,hbb⟩
     case measure=>rw [hm,hm2];omega
    | false =>
     have E:Hid (Wlx.runP Wlx.wrd b.data.toList=pos):=by
      show _=_
      rw [HR.out,drop_at b pos hlt,Wlx.runP_neg hq];rfl
     have hbb:=hb2 (pos+1);clear HR hk2 hb2;go_wp2_with fail
     refine (C _ _).mono ?_;rintro e w1 ⟨rfl,rfl⟩;go_wp2;go_ret;exact ⟨by rw [E.out];rfl,hbb⟩
   ·have E:Hid (Wlx.runP Wlx.wrd b.data.toList=pos):=by
     show _=_
     rw [HR.out,drop_at b pos hlt,Wlx.runP_neg (wrd_hi hc)];rfl
    obtain ⟨rv,hrv⟩:∃ rv:Nat,(Utf8.decode b pos).1=rv:=⟨_,rfl⟩
    obtain ⟨n,hn⟩:∃ n:Nat,(Utf8.decode b pos).2=n:=⟨_,rfl⟩
    rw [hrv,hn] at nx;rw [hrv] at e;have hq:q_word (rv:Int)=false:=q_word_hi (by omega);have hbb:=hb2 (pos+n);clear HR hk2 hb2 hrv hn e;go_wp2_with fail
    refine (C _ _).mono ?_;rintro e w1 ⟨rfl,rfl⟩;go_wp2;go_ret;exact ⟨by rw [E.out];rfl,hbb⟩
  ·have nx:=fun ty=>Lib.run_next_end_at (P:=Tryz.prog) wr w.heap.size b pos ty hit hlt
   have E:Hid (Wlx.runP Wlx.wrd b.data.toList=b.size):=by
    show _=_
    rw [HR.out,drop_end b pos hlt];simp [Wlx.runP];omega
   clear HR;go_wp2;go_ret;exact ⟨by rw [E.out];rfl,hb⟩
theorem vfault_any (f:Int) (w:World):Calls Tryz.prog 137 #[.int .i64 f] w fun e w'=>e=.returned (.bool (Wv.flt f))∧w=w':=by
 unfold Wv.flt;go_enter Tryz.func137,Tryz.ntmps137;by_cases a:1≤f
 ·go_wp2;go_ret;exact ⟨ret_bool (by simp [a]),rfl⟩
 ·go_wp2;go_ret;exact ⟨ret_bool (by rw [decide_eq_false (by omega)];rfl),rfl⟩
theorem prt_nat (c:UInt8):Wlx.prt c=(decide (32≤(c.toNat:Int)) && decide ((c.toNat:Int)≤126)):=by
 unfold Wlx.prt;simp
theorem vprt_any (b:ByteArray) (w:World) (hs:b.size≤9223372036854775807):Calls Tryz.prog 136 #[.string b] w fun e w'=>e=.returned (.bool (Wv.prts b.data.toList))∧w=w':=by
 obtain ⟨R,hR⟩:∃ R,Wv.prts b.data.toList=R:=⟨_,rfl⟩
 have E0:Hid (R=Wv.prts (b.data.toList.drop 0)):=hR.symm;rw [hR];clear hR;go_enter Tryz.func136,Tryz.ntmps136;go_wp2_with fail
 go_loopg [6] (b.size) (fun gk x wr=>∃ j:Nat,x=.int .i64 j∧gk=b.size - j∧j≤b.size∧Hid (R=Wv.prts (b.data.toList.drop j))∧wr=w)
 case atStart=>exact ⟨0,rfl,rfl,Nat.zero_le _,E0,rfl⟩
 case round =>
  obtain ⟨j,rfl,hg,hj,HR,rfl⟩:=hrel;by_cases hlt:j<b.size
  ·have hli:(j:Int)<(b.size:Int):=by omega
   have hd:=drop_at b j hlt;have hp:=prt_nat (b[j]);by_cases c1:((b[j]).toNat:Int)<32
   ·have E:Hid (R=false):=by show _=_;rw [HR.out,hd,Wv.prts_cons,hp,decide_eq_false (by omega)];rfl
    clear HR hd hp;go_wp2;go_ret;exact ⟨by rw [E.out];rfl,rfl⟩
   ·by_cases c2:(126:Int)<((b[j]).toNat:Int)
    ·have E:Hid (R=false):=by show _=_;rw [HR.out,hd,Wv.prts_cons,hp,decide_eq_false (p:=((b[j]).toNat:Int)≤126) (by omega)];simp
     clear HR hd hp;go_wp2;go_ret;exact ⟨by rw [E.out];rfl,rfl⟩
    ·have E:Hid (R=Wv.prts (b.data.toList.drop (j+1))):=by show _=_;rw [HR.out,hd,Wv.prts_cons,hp,decide_eq_true (by omega),decide_eq_true (by omega)];rfl
     clear HR hd hp;go_wp2_with fail
     go_roundg (b.size - (j+1))
     case rel=>exact ⟨j+1,by simp,rfl,hlt,E,by first | trivial | rfl⟩
     case measure=>omega
  ·have hli:¬ (j:Int)<(b.size:Int):=by omega
   have E:Hid (R=true):=by show _=_;rw [HR.out,drop_end b j hlt];rfl
   clear HR;go_wp2;go_ret;exact ⟨by rw [E.out];rfl,rfl⟩
theorem if_beq (a b:Int) (w:World):(if a=b then (Result.ok true w:Result Bool) else Result.ok false w)=Result.ok (a == b) w:=by by_cases h:a=b <;> simp [h]
theorem if_bbeq (a b:Bool) (w:World):(if a=b then (Result.ok true w:Result Bool) else Result.ok false w)=Result.ok (a == b) w:=by by_cases h:a=b <;> simp [h]
theorem ba_beq (a b:ByteArray):((a == b)=true)=(a=b):=by
 obtain ⟨⟨x⟩⟩:=a;obtain ⟨⟨y⟩⟩:=b;have h:((⟨⟨x⟩⟩:ByteArray) == ⟨⟨y⟩⟩)=(x == y):=by
  show ((⟨x⟩:Array UInt8) == ⟨y⟩)=(x == y)
  simp
 rw [h];simp
def eqV (k n d:Int) (t:ByteArray) (b:Bool) (f:Int) (k' n' d':Int) (t':ByteArray) (b':Bool) (f':Int):Bool :=
 (k == k') && ((n == n') && ((d == d') && ((t == t') && ((b == b') && (f == f')))))
theorem eqV_at (x:Nat) (k n d:Int) (t:ByteArray) (b:Bool) (f:Int) (k' n' d':Int) (t':ByteArray) (b':Bool) (f':Int) (w:World) :
  (Op.equalIn (x+3) 41 (.agg #[.int .i64 k,.int .i64 n,.int .i64 d,.string t,.bool b,.int .i64 f]) (.agg #[.int .i64 k',.int .i64 n',.int .i64 d',.string t',.bool b',.int .i64 f'])).run Tryz.prog w=.ok (eqV k n d t b f k' n' d' t' b' f') w:=by
 unfold eqV;rw [beq_toListBytes];by_cases h1:k=k'
 ·by_cases h2:n=n'
  ·by_cases h3:d=d'
   ·by_cases h4:t.toList=t'.toList
    ·by_cases h5:b=b'
     ·simp [go_sem,h1,h2,h3,h4,h5,if_beq]
     ·simp [go_sem,h1,h2,h3,h4,h5]
    ·simp [go_sem,h1,h2,h3,h4]
   ·simp [go_sem,h1,h2,h3]
  ·simp [go_sem,h1,h2]
 ·simp [go_sem,h1]
theorem eqV_run (k n d:Int) (t:ByteArray) (b:Bool) (f:Int) (k' n' d':Int) (t':ByteArray) (b':Bool) (f':Int) (w:World) :
  (binOp .eql 41 (.agg #[.int .i64 k,.int .i64 n,.int .i64 d,.string t,.bool b,.int .i64 f]) (.agg #[.int .i64 k',.int .i64 n',.int .i64 d',.string t',.bool b',.int .i64 f'])).run Tryz.prog w=.ok (.bool (eqV k n d t b f k' n' d' t' b' f')) w:=by
 rw [run_eql_struct,show (10000:Nat)=9997+3 from rfl,eqV_at];rfl
def eqR (s:ByteArray) (r c:Int) (fr fc:Bool) (s':ByteArray) (r' c':Int) (fr' fc':Bool):Bool :=
 (s == s') && ((r == r') && ((c == c') && ((fr == fr') && (fc == fc'))))
theorem eqR_at (x:Nat) (s:ByteArray) (r c:Int) (fr fc:Bool) (s':ByteArray) (r' c':Int) (fr' fc':Bool) (w:World) :
  (Op.equalIn (x+2) 43 (.agg #[.string s,.int .i64 r,.int .i64 c,.bool fr,.bool fc]) (.agg #[.string s',.int .i64 r',.int .i64 c',.bool fr',.bool fc'])).run Tryz.prog w=.ok (eqR s r c fr fc s' r' c' fr' fc') w:=by
 unfold eqR;rw [beq_toListBytes];by_cases h1:s.toList=s'.toList
 ·by_cases h2:r=r'
  ·by_cases h3:c=c'
   ·by_cases h4:fr=fr'
    ·simp [go_sem,h1,h2,h3,h4,if_bbeq]
    ·simp [go_sem,h1,h2,h3,h4]
   ·simp [go_sem,h1,h2,h3]
  ·simp [go_sem,h1,h2]
 ·simp [go_sem,h1]
end Go.Proofs.YtlggnpohhahdlaaGreatDoor
namespace Wpl
structure Cl where
 s:Int
 r:Int
 c:Int
structure Ar where
 s:Int
 t:Int
 l:Int
 b:Int
 r:Int
def inB (n m:Int):Bool:=decide (0≤n) && decide (n<m)
theorem inB_iff {n m:Int}:inB n m=true ↔ 0≤n∧n<m:=by simp [inB]
def rightC (s r c:Int):Bool:=inB s 16 && inB r 65536 && inB c 256
theorem rightC_iff {s r c:Int}:rightC s r c=true ↔ 0≤s∧s<16∧0≤r∧r<65536∧0≤c∧c<256:=by simp [rightC,inB];omega
def lacks (q:Int) (c:Cl):Bool:=decide (c.s ≠ q) || !rightC c.s c.r c.c
def grow (a:Ar) (c:Cl):Ar:=⟨a.s,min a.t c.r,min a.l c.c,max a.b c.r,max a.r c.c⟩
def before (s r c s' r' c':Int):Bool:=if s ≠ s' then decide (s<s') else if r ≠ r' then decide (r<r') else decide (c<c')
end Wpl
namespace Go.Proofs.YtlggnpohhahdlaaGreatDoor
open Go.RowKit
set_option linter.unusedVariables false
theorem x3_below_drewN {B:Nat} {a w:World} (h:Below B a w) (n:Nat):Below B a (w.drewN n):=⟨h.os,h.tape,h.output,h.size,h.block⟩
theorem x3_below_end {w W w1:World} (h0:Below w.heap.size w W) (hb:Below W.heap.size W w1):Below w.heap.size w w1:=h0.trans (hb.mono h0.size)
theorem x3_ball {w W:World} (h:Below w.heap.size w W) (o:Obj):Below w.heap.size w (W.alloc o):=h.alloc h.size o
theorem below_any (n m:Int) (w:World) :
  Calls Tryz.prog 138 #[.int .i64 n,.int .i64 m] w fun e w'=>e=.returned (.bool (Wpl.inB n m))∧w=w':=by
 unfold Wpl.inB;by_cases h:0≤n
 ·rw [decide_eq_true h];go_enter Tryz.func138,Tryz.ntmps138;go_wp2;go_ret;exact ⟨by simp,rfl⟩
 ·rw [decide_eq_false h];go_enter Tryz.func138,Tryz.ntmps138;go_wp2;go_ret;exact ⟨by simp,rfl⟩
theorem x3_right_any (s r c:Int) (w:World) :
  Calls Tryz.prog 113 #[.agg #[.int .i64 s,.int .i64 r,.int .i64 c]] w fun e w'=>e=.returned (.bool (Wpl.rightC s r c))∧Below w.heap.size w w':=by
 have B1:=fun w=>below_any s 16 w
 have B2:=fun w=>below_any r 65536 w
 have B3:=fun w=>below_any c 256 w
 unfold Wpl.rightC;generalize Wpl.inB s 16=b1 at *;generalize Wpl.inB r 65536=b2 at *;generalize Wpl.inB c 256=b3 at *;cases b1
 ·go_enter Tryz.func113,Tryz.ntmps113;go_wp2_with fail
  refine (B1 _).mono ?_;rintro e w1 ⟨rfl,rfl⟩;go_wp2;go_ret;exact ⟨rfl,by with_reducible repeat (first | exact Below.refl _ _ | refine x3_below_drewN ?_ _ | refine Below.setCell ?_ (by first | (simp;done) | (simp;omega) | omega) _ | refine Below.drew ?_ | refine x3_below_end ?_ (by assumption) | refine x3_ball ?_ _)⟩
 cases b2
 ·go_enter Tryz.func113,Tryz.ntmps113;go_wp2_with fail
  refine (B1 _).mono ?_;rintro e w1 ⟨rfl,rfl⟩;go_wp2_with fail
  refine (B2 _).mono ?_;rintro e w1 ⟨rfl,rfl⟩;go_wp2;go_ret;exact ⟨rfl,by with_reducible repeat (first | exact Below.refl _ _ | refine x3_below_drewN ?_ _ | refine Below.setCell ?_ (by first | (simp;done) | (simp;omega) | omega) _ | refine Below.drew ?_ | refine x3_below_end ?_ (by assumption) | refine x3_ball ?_ _)⟩
 ·go_enter Tryz.func113,Tryz.ntmps113;go_wp2_with fail
  refine (B1 _).mono ?_;rintro e w1 ⟨rfl,rfl⟩;go_wp2_with fail
  refine (B2 _).mono ?_;rintro e w1 ⟨rfl,rfl⟩;go_wp2_with fail
  refine (B3 _).mono ?_;rintro e w1 ⟨rfl,rfl⟩;go_wp2;go_ret;exact ⟨rfl,by with_reducible repeat (first | exact Below.refl _ _ | refine x3_below_drewN ?_ _ | refine Below.setCell ?_ (by first | (simp;done) | (simp;omega) | omega) _ | refine Below.drew ?_ | refine x3_below_end ?_ (by assumption) | refine x3_ball ?_ _)⟩
abbrev Six (W:World) (k:Nat) (a b c d e f:Value):Prop :=
 W.cell? ⟨k,0,none⟩=some a∧W.cell? ⟨k,1,none⟩=some b∧W.cell? ⟨k,2,none⟩=some c∧W.cell? ⟨k,3,none⟩=some d∧W.cell? ⟨k,4,none⟩=some e∧W.cell? ⟨k,5,none⟩=some f
theorem AtL.f6 {W:World} {k:Nat} {a b c d e f:Value} (h:AtL W k [a,b,c,d,e,f]):Six W k a b c d e f:=⟨h.2.1 0 a rfl,h.2.1 1 b rfl,h.2.1 2 c rfl,h.2.1 3 d rfl,h.2.1 4 e rfl,h.2.1 5 f rfl⟩
theorem eqV_0 (n d:Int) (t:ByteArray) (b:Bool) (f:Int):eqV 0 n d t b f 0 0 0 ⟨#[]⟩ false 0=Wv.right 0 n d t b f:=by
 unfold eqV Wv.right;rw [if_pos rfl];rw [Bool.eq_iff_iff];simp [and_assoc,ba_beq]
theorem vright_0 (n d:Int) (t:ByteArray) (b:Bool) (f:Int) (w:World) :
  Calls Tryz.prog 112 #[.agg #[.int .i64 0,.int .i64 n,.int .i64 d,.string t,.bool b,.int .i64 f]] w fun e w'=>e=.returned (.bool (Wv.right 0 n d t b f))∧Below w.heap.size w w':=by
 rw [←eqV_0];have hq:=eqV_run 0 n d t b f 0 0 0 ⟨#[]⟩ false 0;generalize eqV 0 n d t b f 0 0 0 ⟨#[]⟩ false 0=R at *;go_enter Tryz.func112,Tryz.ntmps112;go_wp2;go_ret;exact ⟨rfl,by with_reducible repeat (first | exact Below.refl _ _ | refine below_drewN ?_ _ | refine Below.setCell ?_ (by first | (simp;done) | (simp;omega) | omega) _ | refine Below.drew ?_ | refine below_end ?_ (by assumption) | refine ball ?_ _)⟩
abbrev VrS (ka kb:Nat) (k n d:Int) (t:ByteArray) (b:Bool) (f:Int) (W:World):Prop :=
 Six W ka (.int .i64 k) (.int .i64 n) (.int .i64 d) (.string t) (.bool b) (.int .i64 f)∧W.frozen? ⟨kb,0,none⟩=false∧W.frozen? ⟨kb,1,none⟩=false∧W.frozen? ⟨kb,2,none⟩=false∧W.frozen? ⟨kb,3,none⟩=false∧W.frozen? ⟨kb,4,none⟩=false∧W.frozen? ⟨kb,5,none⟩=false
theorem VrS_mk {ka kb:Nat} {k n d:Int} {t:ByteArray} {b:Bool} {f:Int} {W:World} {us:List Value} (h0:AtL W ka [.int .i64 k,.int .i64 n,.int .i64 d,.string t,.bool b,.int .i64 f]) (h1:AtL W kb us) (hl:us.length=6):VrS ka kb k n d t b f W :=
 ⟨h0.f6,h1.2.2 0 (by omega),h1.2.2 1 (by omega),h1.2.2 2 (by omega),h1.2.2 3 (by omega),h1.2.2 4 (by omega),h1.2.2 5 (by omega)⟩
theorem VrS_set {ka kb:Nat} {k n d:Int} {t:ByteArray} {b:Bool} {f:Int} {W:World} (h:VrS ka kb k n d t b f W) (hne:kb ≠ ka) (o:Nat) (u:Value):VrS ka kb k n d t b f (W.setCell ⟨kb,o,none⟩ u):=by
 obtain ⟨⟨h0,h1,h2,h3,h4,h5⟩,g0,g1,g2,g3,g4,g5⟩:=h;refine ⟨⟨?_,?_,?_,?_,?_,?_⟩,?_,?_,?_,?_,?_,?_⟩;any_goals rw [World.cell?_setCell_far _ _ _ _ (by simpa using hne)];assumption
 all_goals rw [World.frozen?_setCell];assumption
theorem vfault_any4 (f:Int) (w:World):Calls Tryz.prog 137 #[.int .i64 f] w fun e w'=>e=.returned (.bool (Wv.flt f))∧Below w.heap.size w w':=(vfault_any f w).mono fun e w' h=>⟨h.1,h.2 ▸ Below.refl _ _⟩
theorem vprt_any4 (b:ByteArray) (w:World) (hs:b.size≤9223372036854775807):Calls Tryz.prog 136 #[.string b] w fun e w'=>e=.returned (.bool (Wv.prts b.data.toList))∧Below w.heap.size w w':=(vprt_any b w hs).mono fun e w' h=>⟨h.1,h.2 ▸ Below.refl _ _⟩
theorem eqV_1 (n d:Int) (t:ByteArray) (b:Bool) (f:Int):(Wnum.rightB n d && eqV 1 n d t b f 1 n d ⟨#[]⟩ false 0)=Wv.right 1 n d t b f:=by
 unfold eqV Wv.right;rw [if_neg (by decide)];rw [if_pos rfl];rw [Bool.eq_iff_iff];simp [and_assoc,ba_beq]
theorem vright_1 (n d:Int) (t:ByteArray) (b:Bool) (f:Int) (w:World) (h1:-9223372036854775808≤n) (h2:n≤9223372036854775807) (h3:-9223372036854775808≤d) (h4:d≤9223372036854775807) :
  Calls Tryz.prog 112 #[.agg #[.int .i64 1,.int .i64 n,.int .i64 d,.string t,.bool b,.int .i64 f]] w fun e w'=>e=.returned (.bool (Wv.right 1 n d t b f))∧Below w.heap.size w w':=by
 rw [←eqV_1];have C:=fun w=>right_any n d w h1 h2 h3 h4
 have hq:=eqV_run 1 n d t b f 1 n d ⟨#[]⟩ false 0;generalize eqV 1 n d t b f 1 n d ⟨#[]⟩ false 0=R at *;generalize Wnum.rightB n d=q at *;have pA:AtL ((w.alloc (.cells #[.int .i64 1,.int .i64 n,.int .i64 d,.string t,.bool b,.int .i64 f] 41)).alloc (.cells #[.int .i64 1,.int .i64 0,.int .i64 0,.string ⟨#[]⟩,.bool false,.int .i64 0] 41)) w.heap.size [.int .i64 1,.int .i64 n,.int .i64 d,.string t,.bool b,.int .i64 f]:=(AtL.new0 w _ _).alloc _;have pO:AtL ((w.alloc (.cells #[.int .i64 1,.int .i64 n,.int .i64 d,.string t,.bool b,.int .i64 f] 41)).alloc (.cells #[.int .i64 1,.int .i64 0,.int .i64 0,.string ⟨#[]⟩,.bool false,.int .i64 0] 41)) (w.heap.size+1) [.int .i64 1,.int .i64 0,.int .i64 0,.string ⟨#[]⟩,.bool false,.int .i64 0]:=AtL.new1 w _ _ _;have hS:VrS w.heap.size (w.heap.size+1) 1 n d t b f ((w.alloc (.cells #[.int .i64 1,.int .i64 n,.int .i64 d,.string t,.bool b,.int .i64 f] 41)).alloc (.cells #[.int .i64 1,.int .i64 0,.int .i64 0,.string ⟨#[]⟩,.bool false,.int .i64 0] 41)):=VrS_mk pA pO rfl;cases q
 all_goals
  go_enter Tryz.func112,Tryz.ntmps112;go_upto_region 6 with fail
  go_region_held3 (VrS w.heap.size (w.heap.size+1) 1 n d t b f)
   (with_reducible first | exact hS | assumption | exact VrS_mk pA1 pO1 rfl | exact VrS_set (by assumption) (by omega) _ _ | exact VrS_set (VrS_set (by assumption) (by omega) _ _) (by omega) _ _ | exact VrS_mk (AtL.drew pA) (AtL.drew pO) rfl)
   (first | (go_at_call 135;refine (C _).mono ?_;rintro e w1 ⟨rfl,hb⟩;have pA1:=AtL.below hb (AtL.drew pA);have pO1:=AtL.below hb (AtL.drew pO);obtain ⟨a0,a1,a2,a3,a4,a5⟩:=pA1.f6;obtain ⟨o0,o1,o2,o3,o4,o5⟩:=pO1.f6;have hB1:=below_end (ball (ball (Below.refl _ w) _) _).drew hb))
  all_goals
   go_wp2;go_ret;exact ⟨by simp,by with_reducible repeat (first | exact hB1 | refine Below.setCell ?_ (by first | (simp;done) | (simp;omega) | omega) _ | refine Below.drew ?_)⟩
theorem eqV_4 (n d:Int) (t:ByteArray) (b:Bool) (f:Int):(Wv.flt f && eqV 4 n d t b f 4 0 0 ⟨#[]⟩ false f)=Wv.right 4 n d t b f:=by
 unfold eqV Wv.right;rw [if_neg (by decide)];rw [if_neg (by decide)];rw [if_neg (by decide)];rw [if_neg (by decide)];rw [if_pos rfl];rw [Bool.eq_iff_iff];simp [and_assoc,ba_beq]
theorem vright_4 (n d:Int) (t:ByteArray) (b:Bool) (f:Int) (w:World) :
  Calls Tryz.prog 112 #[.agg #[.int .i64 4,.int .i64 n,.int .i64 d,.string t,.bool b,.int .i64 f]] w fun e w'=>e=.returned (.bool (Wv.right 4 n d t b f))∧Below w.heap.size w w':=by
 rw [←eqV_4];have C:=fun w=>vfault_any4 f w
 have hq:=eqV_run 4 n d t b f 4 0 0 ⟨#[]⟩ false f;generalize eqV 4 n d t b f 4 0 0 ⟨#[]⟩ false f=R at *;generalize Wv.flt f=q at *;have pA:AtL ((w.alloc (.cells #[.int .i64 4,.int .i64 n,.int .i64 d,.string t,.bool b,.int .i64 f] 41)).alloc (.cells #[.int .i64 4,.int .i64 0,.int .i64 0,.string ⟨#[]⟩,.bool false,.int .i64 0] 41)) w.heap.size [.int .i64 4,.int .i64 n,.int .i64 d,.string t,.bool b,.int .i64 f]:=(AtL.new0 w _ _).alloc _;have pO:AtL ((w.alloc (.cells #[.int .i64 4,.int .i64 n,.int .i64 d,.string t,.bool b,.int .i64 f] 41)).alloc (.cells #[.int .i64 4,.int .i64 0,.int .i64 0,.string ⟨#[]⟩,.bool false,.int .i64 0] 41)) (w.heap.size+1) [.int .i64 4,.int .i64 0,.int .i64 0,.string ⟨#[]⟩,.bool false,.int .i64 0]:=AtL.new1 w _ _ _;have hS:VrS w.heap.size (w.heap.size+1) 4 n d t b f ((w.alloc (.cells #[.int .i64 4,.int .i64 n,.int .i64 d,.string t,.bool b,.int .i64 f] 41)).alloc (.cells #[.int .i64 4,.int .i64 0,.int .i64 0,.string ⟨#[]⟩,.bool false,.int .i64 0] 41)):=VrS_mk pA pO rfl;cases q
 all_goals
  go_enter Tryz.func112,Tryz.ntmps112;go_upto_region 12 with fail
  go_region_held3 (VrS w.heap.size (w.heap.size+1) 4 n d t b f)
   (with_reducible first | exact hS | assumption | exact VrS_mk pA1 pO1 rfl | exact VrS_set (by assumption) (by omega) _ _ | exact VrS_set (VrS_set (by assumption) (by omega) _ _) (by omega) _ _ | exact VrS_mk (AtL.drew pA) (AtL.drew pO) rfl)
   (first | (go_at_call 137;refine (C _).mono ?_;rintro e w1 ⟨rfl,hb⟩;have pA1:=AtL.below hb (AtL.drew pA);have pO1:=AtL.below hb (AtL.drew pO);obtain ⟨a0,a1,a2,a3,a4,a5⟩:=pA1.f6;obtain ⟨o0,o1,o2,o3,o4,o5⟩:=pO1.f6;have hB1:=below_end (ball (ball (Below.refl _ w) _) _).drew hb))
  all_goals
   go_wp2;go_ret;exact ⟨by simp,by with_reducible repeat (first | exact hB1 | refine Below.setCell ?_ (by first | (simp;done) | (simp;omega) | omega) _ | refine Below.drew ?_)⟩
theorem eqV_2 (n d:Int) (t:ByteArray) (b:Bool) (f:Int):((decide (t.size≤256) && Wv.prts t.data.toList) && eqV 2 n d t b f 2 0 0 t false 0)=Wv.right 2 n d t b f:=by
 unfold eqV Wv.right;rw [if_neg (by decide)];rw [if_neg (by decide)];rw [if_pos rfl];rw [Bool.eq_iff_iff];simp [and_assoc,ba_beq]
theorem eqV_3 (n d:Int) (t:ByteArray) (b:Bool) (f:Int):eqV 3 n d t b f 3 0 0 ⟨#[]⟩ b 0=Wv.right 3 n d t b f:=by
 unfold eqV Wv.right;rw [if_neg (by decide)];rw [if_neg (by decide)];rw [if_neg (by decide)];rw [if_pos rfl];rw [Bool.eq_iff_iff];simp [and_assoc,ba_beq]
theorem vright_3 (n d:Int) (t:ByteArray) (b:Bool) (f:Int) (w:World) :
  Calls Tryz.prog 112 #[.agg #[.int .i64 3,.int .i64 n,.int .i64 d,.string t,.bool b,.int .i64 f]] w fun e w'=>e=.returned (.bool (Wv.right 3 n d t b f))∧Below w.heap.size w w':=by
 rw [←eqV_3];have hq:=eqV_run 3 n d t b f 3 0 0 ⟨#[]⟩ b 0;generalize eqV 3 n d t b f 3 0 0 ⟨#[]⟩ b 0=R at *;go_enter Tryz.func112,Tryz.ntmps112;go_wp2;go_ret;exact ⟨rfl,by with_reducible repeat (first | exact Below.refl _ _ | refine below_drewN ?_ _ | refine Below.setCell ?_ (by first | (simp;done) | (simp;omega) | omega) _ | refine Below.drew ?_ | refine below_end ?_ (by assumption) | refine ball ?_ _)⟩
theorem vright_n (k n d:Int) (t:ByteArray) (b:Bool) (f:Int) (w:World) (hk:k<0 ∨ 4<k) :
  Calls Tryz.prog 112 #[.agg #[.int .i64 k,.int .i64 n,.int .i64 d,.string t,.bool b,.int .i64 f]] w fun e w'=>e=.returned (.bool (Wv.right k n d t b f))∧Below w.heap.size w w':=by
 have E:Hid (Wv.right k n d t b f=false):=by
  show _=_
  unfold Wv.right;rw [if_neg (by omega),if_neg (by omega),if_neg (by omega),if_neg (by omega),if_neg (by omega)]
 rw [E.out];clear E;go_enter Tryz.func112,Tryz.ntmps112;go_wp2;go_ret;exact ⟨rfl,by with_reducible repeat (first | exact Below.refl _ _ | refine below_drewN ?_ _ | refine Below.setCell ?_ (by first | (simp;done) | (simp;omega) | omega) _ | refine Below.drew ?_ | refine below_end ?_ (by assumption) | refine ball ?_ _)⟩
theorem vright_2 (n d:Int) (t:ByteArray) (b:Bool) (f:Int) (w:World) (hs:t.size≤9223372036854775807) :
  Calls Tryz.prog 112 #[.agg #[.int .i64 2,.int .i64 n,.int .i64 d,.string t,.bool b,.int .i64 f]] w fun e w'=>e=.returned (.bool (Wv.right 2 n d t b f))∧Below w.heap.size w w':=by
 rw [←eqV_2];have C:=fun w=>vprt_any4 t w hs
 have hq:=eqV_run 2 n d t b f 2 0 0 t false 0;generalize eqV 2 n d t b f 2 0 0 t false 0=R at *;generalize Wv.prts t.data.toList=q at *;have pA:AtL ((w.alloc (.cells #[.int .i64 2,.int .i64 n,.int .i64 d,.string t,.bool b,.int .i64 f] 41)).alloc (.cells #[.int .i64 2,.int .i64 0,.int .i64 0,.string ⟨#[]⟩,.bool false,.int .i64 0] 41)) w.heap.size [.int .i64 2,.int .i64 n,.int .i64 d,.string t,.bool b,.int .i64 f]:=(AtL.new0 w _ _).alloc _;have pO:AtL ((w.alloc (.cells #[.int .i64 2,.int .i64 n,.int .i64 d,.string t,.bool b,.int .i64 f] 41)).alloc (.cells #[.int .i64 2,.int .i64 0,.int .i64 0,.string ⟨#[]⟩,.bool false,.int .i64 0] 41)) (w.heap.size+1) [.int .i64 2,.int .i64 0,.int .i64 0,.string ⟨#[]⟩,.bool false,.int .i64 0]:=AtL.new1 w _ _ _;have hS:VrS w.heap.size (w.heap.size+1) 2 n d t b f ((w.alloc (.cells #[.int .i64 2,.int .i64 n,.int .i64 d,.string t,.bool b,.int .i64 f] 41)).alloc (.cells #[.int .i64 2,.int .i64 0,.int .i64 0,.string ⟨#[]⟩,.bool false,.int .i64 0] 41)):=VrS_mk pA pO rfl;by_cases hl:t.size≤256
 ·have hli:(t.size:Int)≤256:=by omega
  rw [decide_eq_true hl];cases q
  all_goals
   go_enter Tryz.func112,Tryz.ntmps112;go_upto_region 8 with fail
   go_region_held3 (VrS w.heap.size (w.heap.size+1) 2 n d t b f)
    (with_reducible first | exact hS | assumption | exact VrS_mk pA1 pO1 rfl | exact VrS_set (by assumption) (by omega) _ _ | exact VrS_mk (AtL.drew pA) (AtL.drew pO) rfl)
    (first | (go_at_call 136;refine (C _).mono ?_;rintro e w1 ⟨rfl,hb⟩;have pA1:=AtL.below hb (AtL.drew pA);have pO1:=AtL.below hb (AtL.drew pO);obtain ⟨a0,a1,a2,a3,a4,a5⟩:=pA1.f6;obtain ⟨o0,o1,o2,o3,o4,o5⟩:=pO1.f6;have hB1:=below_end (ball (ball (Below.refl _ w) _) _).drew hb))
   all_goals
    go_wp2;go_ret;exact ⟨by simp,by with_reducible repeat (first | exact hB1 | refine Below.setCell ?_ (by first | (simp;done) | (simp;omega) | omega) _ | refine Below.drew ?_)⟩
 ·have hli:¬ (t.size:Int)≤256:=by omega
  rw [decide_eq_false hl];go_enter Tryz.func112,Tryz.ntmps112;go_upto_region 8 with fail
  go_big_region
  all_goals
   go_wp2;go_ret;exact ⟨by simp,by with_reducible repeat (first | exact Below.refl _ _ | refine below_drewN ?_ _ | refine Below.setCell ?_ (by first | (simp;done) | (simp;omega) | omega) _ | refine Below.drew ?_ | refine below_end ?_ (by assumption) | refine ball ?_ _)⟩
def vl6 (v:Wt.Vl):List Value:=[.int .i64 v.k,.int .i64 v.n,.int .i64 v.d,.string v.t,.bool v.b,.int .i64 v.f]
def rf5 (a:Wt.Rf):List Value:=[.string a.s,.int .i64 a.r,.int .i64 a.c,.bool a.fr,.bool a.fc]
def nd20 (x:Wt.Nd):List Value:=[.int .i64 x.k,.int .i64 x.v.k,.int .i64 x.v.n,.int .i64 x.v.d,.string x.v.t,.bool x.v.b,.int .i64 x.v.f,.int .i64 x.op,.string x.nm,.int .i64 x.ar,.string x.a.s,.int .i64 x.a.r,.int .i64 x.a.c,.bool x.a.fr,.bool x.a.fc,.string x.b.s,.int .i64 x.b.r,.int .i64 x.b.c,.bool x.b.fr,.bool x.b.fc]
def vlV (v:Wt.Vl):Value:=.agg (vl6 v).toArray
def rfV (a:Wt.Rf):Value:=.agg (rf5 a).toArray
def ndV (x:Wt.Nd):Value:=.agg (nd20 x).toArray
theorem nodeInfo:(Tryz.prog.info? 45).map (fun i=>(i.zero,i.size,i.bytes))=some (some (.agg #[.int .i64 0,.int .i64 0,.int .i64 0,.int .i64 0,.string ⟨#[]⟩,.bool false,.int .i64 0,.int .i64 0,.string ⟨#[]⟩,.int .i64 0,.string ⟨#[]⟩,.int .i64 0,.int .i64 0,.bool false,.bool false,.string ⟨#[]⟩,.int .i64 0,.int .i64 0,.bool false,.bool false]),20,176):=by kernel_rfl
def opsR:List Value:=Wt.opsT.flatMap fun x=>[.int .i64 x.1,.string ⟨x.2.1.toArray⟩,.int .i64 x.2.2]
def OpsAt (w:World):Prop:=w.rangeAt 0 0 opsR
theorem OpsAt.below {w w':World} (h:OpsAt w) (hb:Below w.heap.size w w'):OpsAt w':=fun j v hv=>cell_below hb (h j v hv)
theorem OpsAt.drew {w:World} (h:OpsAt w):OpsAt w.drew:=h.below (Below.refl _ _).drew
theorem OpsAt.alloc {w:World} (h:OpsAt w) (o:Obj):OpsAt (w.alloc o):=h.below ((Below.refl _ _).alloc (Nat.le_refl _) _)
theorem OpsAt.load {w:World} (h:OpsAt w):(Instr.loadAt 137 (.pointer (some ⟨0,0,none⟩))).run Tryz.prog w=.ok (.agg opsR.toArray) w :=
 run_loadAt_mid w _ 0 137 opsR _ h Tryz.underlying137 rfl (by kernel_rfl)
theorem AtL.there {W:World} {k:Nat} {us:List Value} (h:AtL W k us):W.there k 0 us.length:=fun j hj =>
 ⟨by rw [Nat.zero_add,h.2.1 j us[j] (List.getElem?_eq_getElem hj)];rfl,by rw [Nat.zero_add];exact h.2.2 j hj⟩
theorem AtL.range {W:World} {k:Nat} {us:List Value} (h:AtL W k us):W.rangeAt k 0 us:=fun j v hv=>by rw [Nat.zero_add];exact h.2.1 j v hv
theorem size_setCells (k:Nat):∀ (vs:List Value) (o:Nat) (W:World),(W.setCells k o vs).heap.size=W.heap.size
 | [],_,_=>rfl
 | v::r,o,W=>by rw [World.setCells,size_setCells k r];simp [go_sem]
theorem AtL.setAll {W:World} {k:Nat} {us vs:List Value} (h:AtL W k us) (hl:vs.length=us.length):AtL (W.setCells k 0 vs) k vs:=by
 refine ⟨by rw [size_setCells];exact h.1,fun i v hv=>?_,fun i hi=>?_⟩
 ·have:=World.rangeAt_setCells_same W k 0 vs (by rw [hl];exact h.there) i v hv;rw [Nat.zero_add] at this;exact this
 ·rw [World.frozen?_setCells];exact h.2.2 i (by omega)
theorem AtL.farAll {W:World} {k b:Nat} {us:List Value} (h:AtL W k us) (hb:b ≠ k) (o:Nat) (vs:List Value):AtL (W.setCells b o vs) k us:=by
 refine ⟨by rw [size_setCells];exact h.1,fun i v hv=>?_,fun i hi=>?_⟩
 ·rw [World.cell?_setCells_out b vs o W _ (fun h1=>absurd h1.symm hb)];exact h.2.1 i v hv
 ·rw [World.frozen?_setCells];exact h.2.2 i hi
theorem bset {w W:World} {k:Nat} (hb:Below w.heap.size w W) (hk:w.heap.size≤k):∀ (vs:List Value) (o:Nat),Below w.heap.size w (W.setCells k o vs):=by
 intro vs;induction vs generalizing W with
 | nil=>intro o;exact hb
 | cons v r ih=>intro o;rw [World.setCells];exact ih (hb.setCell (p:=⟨k,o,none⟩) hk v) (o+1)
end Go.Proofs.YtlggnpohhahdlaaGreatDoor
