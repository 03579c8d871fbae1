/- TQTie, LRefA, LPlainC, LPlainD, LPlainE, LPlainF, LRefB, LRefC. -/
import Derived.Test.YtdghjlmnlodnlaaGreatDoorQ37
set_option maxHeartbeats 1600000
set_option maxRecDepth 100000
set_option linter.unusedVariables false
namespace Go.Proofs.YtdghjlmnlodnlaaGreatDoor
open Tryz
open Go.RowKit Go.Shelf
theorem zKV (tn lo kp:Nat) (en:Int) (sub:List Wlx.TV->PR) (n:Nat) (HL:QLv tn lo kp en 0 sub n) (hsuf:∀ ts row r,sub ts=.inl (row,r)->r <:+ ts) (hfit:∀ ts row r2,(∀ t ∈ ts,zAP t)->sub ts=.inl (row,r2)->zE5 ts.length row r2) (t:Wlx.TV) (r:List Wlx.TV) (w:World) (hn:r.length<=n) (hok:∀ x ∈ t::r,zAP x) (h:RS tn lo kp en w (t::r) 0 0) :
  Calls prog 148 #[.pointer (some ⟨kp,0,none⟩),.string ⟨t.t.toArray⟩] w λe w'=>QPost tn lo kp en (t::r).length (zCF sub en (t::r)) w e w':=by
 have hh:hd (t::r) en=t:=rfl;unfold zCF;rw [hh];cases hm0:mkk (t::r) 1 [40] with
 | true =>
  rw [<-zBn,hm0,if_pos rfl];cases hf:Wt.fnNm ⟨t.t.toArray⟩ with
  | true =>
   rw [if_pos rfl];obtain ⟨u,r2,rfl⟩:=zKN hm0;exact zNw tn lo kp en w t (u::r2) hok h hm0 hf _ (zKD tn lo kp en sub n HL hsuf hfit t u r2 w (by simp only [List.length_cons] at hn;omega) hok h t.t _ rfl) _ rfl
  | false =>
   rw [if_neg (by decide)];exact zNf tn lo kp en w t r hok h hm0 hf _ rfl
 | false =>
  rw [<-zBn,hm0,if_neg (by decide)];cases hm1:mkk (t::r) 1 [33] with
  | true =>
   rw [<-zBn,hm1,if_pos rfl];cases hf:Wt.shNm ⟨t.t.toArray⟩ with
   | true=>rw [if_pos rfl];exact zN1 tn lo kp en w t r hok h hm0 hm1 hf _ rfl
   | false=>rw [if_neg (by decide)];exact zNU tn lo kp en w t r hok h hm0 hm1 hf _ rfl
  | false =>
   rw [<-zBn,hm1,if_neg (by decide)];by_cases h1:t.t=[84,82,85,69]
   ·rw [if_pos h1];exact zOc tn lo kp en w t r hok h hm0 hm1 h1 _ rfl
   ·rw [if_neg h1];by_cases h2:t.t=[70,65,76,83,69]
    ·rw [if_pos h2];exact zNK tn lo kp en w t r hok h hm0 hm1 h2 _ rfl
    ·rw [if_neg h2];exact zN7 tn lo kp en w t r hok h hm0 hm1 h1 h2 _ rfl
theorem zIH (tn lo kp:Nat) (en:Int) (sub:List Wlx.TV->PR):QFn tn lo kp en 120 (psi en (zCF sub en) (zB3 sub en)) 0:=by
 intro ts w hn hok h;obtain rfl:=List.eq_nil_of_length_eq_zero (Nat.le_zero.1 hn);exact zHZ tn lo kp en w h
theorem zHr (tn lo kp:Nat) (en:Int) (sub:List Wlx.TV->PR) (n:Nat) (HL:QLv tn lo kp en 0 sub n) (hsuf:∀ ts row r,sub ts=.inl (row,r)->r <:+ ts) (hfit:∀ ts row r2,(∀ t ∈ ts,zAP t)->sub ts=.inl (row,r2)->zE5 ts.length row r2):QFn tn lo kp en 120 (psi en (zCF sub en) (zB3 sub en)) (n+1):=by
 intro ts w hn hok h;cases ts with
 | nil=>exact zHZ tn lo kp en w h
 | cons t r =>
  have hrn:r.length<=n:=by simp only [List.length_cons] at hn;omega
  have hh:hd (t::r) en=t:=rfl;unfold psi;rw [hh];by_cases h3:t.k=3
  ·rw [if_pos h3];exact zKw tn lo kp en w t r hok h h3 _ (λw' hR=>zKV tn lo kp en sub n HL hsuf hfit t r w' hrn hok hR) _ rfl
  rw [if_neg h3];by_cases h5:t.k=5
  ·rw [if_pos h5];unfold zB3;cases hm:mkk (t::r) 0 [40] with
   | false =>
    rw [zBJ hm];exact zHe tn lo kp en w t r hok h (by omega) (by omega) h3 (by omega) hm _ rfl
   | true =>
    have htk:tk (t::r) [40]=some r:=by
     obtain ⟨t',r',e,ht⟩:=zB4 hm;rw [ht,(List.cons.inj e).2]
    rw [htk];simp only;cases hs:sub r with
    | inr q =>
     obtain ⟨c,p⟩:=q;exact zJC tn lo kp en w t r hok h h5 hm sub n hrn HL c p hs _ rfl
    | inl q =>
     obtain ⟨row,r2⟩:=q;simp only;cases hm6:mkk r2 0 [41] with
     | false =>
      rw [zBJ hm6];exact zKo tn lo kp en w t r hok h h5 hm sub n hrn HL row r2 hs hm6 _ rfl
     | true =>
      obtain ⟨t6,r6,e6,ht6⟩:=zB4 hm6;subst e6;rw [ht6];exact zKU tn lo kp en w t r hok h h5 hm sub n hrn HL row t6 r6 hs hm6 _ rfl
  ·rw [if_neg h5];unfold pl zJt;rw [hh];by_cases h1:t.k=1
   ·rw [if_pos h1];cases hb:Wnum.oB (Wnum.rdO ⟨t.t.toArray⟩) with
    | true=>rw [if_pos rfl];exact zJS tn lo kp en w t r hok h h1 hb _ rfl
    | false=>rw [if_neg (by decide)];exact zK9 tn lo kp en w t r hok h h1 hb _ rfl
   rw [if_neg h1];by_cases h2:t.k=2
   ·rw [if_pos h2];by_cases hl:t.t.length<=256
    ·rw [if_pos hl];exact zJp tn lo kp en w t r hok h h2 hl _ rfl
    ·rw [if_neg hl];exact zIk tn lo kp en w t r hok h h2 hl _ rfl
   rw [if_neg h2];by_cases h4:t.k=4
   ·rw [if_pos h4];exact zMM tn lo kp en w t r hok h h4 _ rfl
   ·rw [if_neg h4];have hm:mkk (t::r) 0 [40]=false:=by
     show zCX t [40]=false
     unfold zCX;have:(t.k == 5)=false:=by simpa using h5
     rw [this,Bool.false_and]
    exact zHe tn lo kp en w t r hok h h1 h2 h3 h4 hm _ rfl
theorem zLX (tn lo kp:Nat) (en:Int) (sub:List Wlx.TV->PR) (n:Nat) (HS:QFn tn lo kp en 61 sub n):QLv tn lo kp en 5 sub n:=by
 intro ts w hn hok h;have S:=HS ts w hn hok h;clear HS h;refine zDN S (λS=>?_) (λe w' q=>q.val);go_enter func40,ntmps40;go_wp2_with fail
 refine S.mono ?_;rintro e w2 ⟨⟨v,rfl⟩,hQ⟩;go_wp2;go_ret;exact hQ
theorem zGJ (tn lo kp:Nat) (en:Int) (sub5 sub6:List Wlx.TV->PR) (HP:QFn tn lo kp en 97 sub6 0):QFn tn lo kp en 61 (psg sub5 sub6) 0:=by
 intro ts w hn hok h;obtain rfl:=List.eq_nil_of_length_eq_zero (Nat.le_zero.1 hn);exact zF3 tn lo kp en sub6 0 HP [] w hn hok h rfl rfl
def QTd (tn lo kp:Nat) (en:Int) (f:Nat):Prop :=
 (∀ k n,k<=5->10 * n+9 - k<=f->QLv tn lo kp en k (lv en f k) n)/\(∀ n,10 * n+4<=f->QFn tn lo kp en 61 (lv en f 5) n)/\(∀ n,10 * n+3<=f->QFn tn lo kp en 97 (lv en f 6) n)/\(∀ n,10 * n+2<=f->QFn tn lo kp en 120 (lv en f 7) n)
theorem zRI (tn lo kp:Nat) (en:Int):∀ f,QTd tn lo kp en f:=by
 intro f;induction f with
 | zero=>exact ⟨λk n h1 h2=>by omega,λn h=>by omega,λn h=>by omega,λn h=>by omega⟩
 | succ f ih =>
  obtain ⟨i1,i2,i3,i4⟩:=ih;have s2:∀ n,10 * n+4<=f+1->QFn tn lo kp en 61 (lv en (f+1) 5) n:=by
   intro n hn;rw [show lv en (f+1) 5=psg (lv en f 5) (lv en f 6) from funext (zM2 en f)];cases n with
   | zero=>exact zGJ tn lo kp en _ _ (i3 0 (by omega))
   | succ n=>exact zGa tn lo kp en _ _ n (i2 n (by omega)) (i3 (n+1) (by omega)) (zDp en f 5)
  refine ⟨?_,s2,?_,?_⟩
  ·intro k n hk hn;by_cases h5:k=5
   ·subst h5;exact zLX tn lo kp en _ n (s2 n (by omega))
   ·rw [show lv en (f+1) k=pbt (lv en f (k+1)) k from funext (zLH en f k (by omega))];exact zHl tn lo kp en k (by omega) _ n (i1 (k+1) n (by omega) (by omega)) (zCI en f (k+1)) (zDp en f (k+1))
  ·intro n hn;rw [show lv en (f+1) 6=ppc (lv en f 7) from funext (zLg en f)];exact zIh tn lo kp en _ n (i4 n (by omega)) (zDp en f 7)
  ·intro n hn;rw [show lv en (f+1) 7=psi en (zCF (lv en f 0) en) (zB3 (lv en f 0) en) from funext (zMN en f)];cases n with
   | zero=>exact zIH tn lo kp en _
   | succ n=>exact zHr tn lo kp en _ n (i1 0 n (by omega) (by omega)) (zCI en f 0) (zDp en f 0)
theorem zK8 (tn lo kp:Nat) (en:Int) (n:Nat):QLv tn lo kp en 0 (lv en (10 * n+9) 0) n:=(zRI tn lo kp en _).1 0 n (by omega) (by omega)
open Go.RowKit
theorem zAm (c:UInt8) (w:World):Calls prog 90 #[.int .u8 ((c.toNat:Nat):Int)] w λe w'=>e=.returned (.bool (Wlx.dig c))/\w=w':=by
 unfold Wlx.dig;have hb:=zCA c;generalize ((c.toNat:Nat):Int)=r at *;go_enter func90,ntmps90;by_cases a:48<=r
 ·go_wp2;go_ret;exact ⟨zAU (by first | rfl | (simp;done) | (simp;omega)),rfl⟩
 ·go_wp2;go_ret;exact ⟨zAU (by first | rfl | (simp;done) | (simp;omega)),rfl⟩
theorem zBX (c:UInt8) (w:World):Calls prog 93 #[.int .u8 ((c.toNat:Nat):Int)] w λe w'=>e=.returned (.bool (Wlx.cap c || Wlx.low c))/\w=w':=by
 unfold Wlx.cap Wlx.low;have hb:=zCA c;generalize ((c.toNat:Nat):Int)=r at *;have hU:undef=Value.tuple #[]:=rfl;go_enter func93,ntmps93;by_cases a:65<=r
 ·by_cases b:r<=90
  ·have a3:¬ 97<=r:=by omega
   go_wp2;go_ret;exact ⟨zAU (by first | rfl | (simp;done) | (simp;omega)),rfl⟩
  ·by_cases d:97<=r
   ·go_wp2;go_ret;exact ⟨zAU (by first | rfl | (simp;done) | (simp;omega)),rfl⟩
   ·go_wp2;go_ret;exact ⟨zAU (by first | rfl | (simp;done) | (simp;omega)),rfl⟩
 ·have d:¬ 97<=r:=by omega
  go_wp2;go_ret;exact ⟨zAU (by first | rfl | (simp;done) | (simp;omega)),rfl⟩
theorem zCH (b:ByteArray) (q:Nat) (w:World) (hq:q<=b.size) (hs:b.size<=1024):Calls prog 91 #[.string b,.int .i64 q] w λe w'=>e=.returned (.int .i64 ((q+Wlx.runP Wlx.dig (b.data.toList.drop q):Nat):Int))/\w=w':=by
 obtain ⟨R,hR⟩:∃ R,q+Wlx.runP Wlx.dig (b.data.toList.drop q)=R:=⟨_,rfl⟩
 have E0:Hid (R=q+Wlx.runP Wlx.dig (b.data.toList.drop q)):=hR.symm;rw [hR];clear hR;go_enter func91,ntmps91;go_wp2_with fail
 go_loopg [1] (b.size - q) (λgk x wr=>∃ j:Nat,x=.int .i64 j/\gk=b.size - j/\j<=b.size/\Hid (R=j+Wlx.runP Wlx.dig (b.data.toList.drop j))/\wr=w)
 case atStart=>exact ⟨q,rfl,rfl,hq,E0,rfl⟩
 case round =>
  obtain ⟨j,rfl,hg,hj,HR,rfl⟩:=hrel;by_cases hlt:j<b.size
  ·have hli:(j:Int)<(b.size:Int):=by omega
   have D:=zAm (b[j]) wr;have hd:=zA7 b j hlt;cases hdg:Wlx.dig (b[j]) with
   | true =>
    have E:Hid (R=(j+1)+Wlx.runP Wlx.dig (b.data.toList.drop (j+1))):=by
     show _=_;rw [HR.out,hd,Wlx.runP_pos hdg];omega
    rw [hdg] at D;clear HR hd hdg;go_wp2_with fail
    refine D.mono ?_;rintro e w1 ⟨rfl,rfl⟩;go_wp2_with fail
    go_roundg (b.size - (j+1))
    case rel=>exact ⟨j+1,by simp,rfl,hlt,E,by first | trivial | rfl⟩
    case measure=>omega
   | false =>
    have E:Hid (R=j):=by show _=_;rw [HR.out,hd,Wlx.runP_neg hdg];rfl
    rw [hdg] at D;clear HR hd hdg;go_wp2_with fail
    refine D.mono ?_;rintro e w1 ⟨rfl,rfl⟩;go_wp2;go_ret;exact ⟨by rw [E.out];rfl,by first | trivial | rfl⟩
  ·have hli:¬ (j:Int)<(b.size:Int):=by omega
   have E:Hid (R=j):=by show _=_;rw [HR.out,zAk b j hlt];rfl
   clear HR;go_wp2;go_ret;exact ⟨by rw [E.out];rfl,by first | trivial | rfl⟩
theorem zBp (b p:ByteArray) (q:Nat) (w:World) (hq:q<=b.size) (hs:b.size<=1024) (hp:p.size<=100):Calls prog 95 #[.string b,.int .i64 q,.string p] w λe w'=>e=.returned (.bool (Wlx.begins p.data.toList (b.data.toList.drop q)))/\w=w':=by
 have E:Hid (Wlx.begins p.data.toList (b.data.toList.drop q)=(decide (p.size<=b.size - q) && ((b.extract q (q+p.size)).toList == p.toList))):=by
  show _=_
  rw [zD6,Lib.extract_toList,Lib.toList_data,List.length_drop,Nat.add_sub_cancel_left];rfl
 by_cases h:p.size<=b.size - q
 ·have E2:Hid (Wlx.begins p.data.toList (b.data.toList.drop q)=((b.extract q (q+p.size)).toList == p.toList)):=by
   show _=_;rw [E.out,decide_eq_true h];rfl
  clear E;have h1:(p.size:Int)<=(b.size:Int) - (q:Int):=by omega
  have h2:(q:Int)<=(q:Int)+(p.size:Int):=by omega
  have h3:(q:Int)+(p.size:Int)<=(b.size:Int):=by omega
  generalize Wlx.begins p.data.toList (b.data.toList.drop q)=r at *;go_enter func95,ntmps95;go_wp2;go_ret;exact ⟨by rw [E2.out];rfl,rfl⟩
 ·have E2:Hid (Wlx.begins p.data.toList (b.data.toList.drop q)=false):=by
   show _=_;rw [E.out,decide_eq_false h];rfl
  clear E;have h1:¬ (p.size:Int)<=(b.size:Int) - (q:Int):=by omega
  generalize Wlx.begins p.data.toList (b.data.toList.drop q)=r at *;go_enter func95,ntmps95;go_wp2;go_ret;exact ⟨by rw [E2.out];rfl,rfl⟩
theorem zGC (w:World):Calls prog 94 #[] w λe w'=>e=.returned (.slice (some ⟨w.heap.size,0,none⟩) 8 8)/\w'=w.alloc (.cells (zKs Wlx.faults).toArray 9):=by
 go_enter func94,ntmps94;go_wp2;go_ret;exact ⟨rfl,rfl⟩
end Go.Proofs.YtdghjlmnlodnlaaGreatDoor
namespace Wlx
def mk (c:UInt8):Bool:=marks.any λn=>n.head? == some c
theorem numSz_pos {c:UInt8} {t:List UInt8}:0<numSz (c::t) ↔ dig c=true:=by
 unfold numSz;cases h:dig c with
 | false=>rw [runP_neg h,if_pos rfl];simp
 | true =>
  rw [runP_pos h,if_neg (by omega)];have g:∀ n l,0<n->0<numTl n l:=by
   intro n l hn;cases l with
   | nil=>exact hn
   | cons c t=>rw [numTl_cons];split <;> omega
  simp [g]
theorem txtSz_pos {c:UInt8} {t:List UInt8} (h:0<txtSz (c::t)):c=34:=by
 have e:txtSz (c::t)=if c=34 then quo true 1 t else 0:=rfl
 rw [e] at h;by_cases hc:c=34
 ·exact hc
 ·rw [if_neg hc] at h;omega
theorem wrdSz_pos {c:UInt8} {t:List UInt8}:0<runP wrd (c::t) ↔ wrd c=true:=by
 cases h:wrd c with
 | false=>rw [runP_neg h];simp
 | true=>rw [runP_pos h];simp
theorem zCU {c:UInt8} {t:List UInt8}:∀ (ns:List (List UInt8)),0<nameSz (c::t) ns->∃ n ∈ ns,n.head? = some c
 | [],h=>by simp [nameSz] at h
 | n::r,h=>by
  unfold nameSz at h;by_cases hb:begins n (c::t)=true
  ·rw [if_pos hb] at h;cases n with
   | nil=>simp at h
   | cons a p =>
    simp only [begins,Bool.and_eq_true,decide_eq_true_eq] at hb;exact ⟨a::p,by simp,by rw [hb.1];rfl⟩
  ·rw [if_neg hb] at h;obtain ⟨x,hx,hh⟩:=zCU r h;exact ⟨x,by simp [hx],hh⟩
theorem faultSz_pos {c:UInt8} {t:List UInt8} (h:0<nameSz (c::t) faults):c=35:=by
 obtain ⟨n,hn,hh⟩:=zCU faults h;have:∀ n ∈ faults,n.head? = some 35:=by decide
 rw [this n hn] at hh;exact (Option.some.inj hh).symm
theorem markSz_pos {c:UInt8} {t:List UInt8} (h:0<nameSz (c::t) marks):mk c=true:=by
 obtain ⟨n,hn,hh⟩:=zCU marks h;unfold mk;exact List.any_eq_true.2 ⟨n,hn,by rw [hh];simp⟩
theorem sz1 (l:List UInt8):sz 1 l=numSz l:=rfl
theorem sz2 (l:List UInt8):sz 2 l=txtSz l:=rfl
theorem sz3 (l:List UInt8):sz 3 l=runP wrd l:=rfl
theorem sz4 (l:List UInt8):sz 4 l=nameSz l faults:=rfl
theorem sz5 (l:List UInt8):sz 5 l=nameSz l marks:=rfl
theorem cls:∀ c:UInt8,(wrd c=true->¬ c=34/\¬ c=35/\mk c=false/\¬ c=32/\¬ c=46)/\(dig c=true->wrd c=true)/\(mk c=true->¬ c=34/\¬ c=35/\wrd c=false/\¬ c=32/\¬ c=46):=by
 intro c;have key:∀ n:Fin 256,(wrd (UInt8.ofNat n)=true->¬ UInt8.ofNat n=34/\¬ UInt8.ofNat n=35/\mk (UInt8.ofNat n)=false/\¬ UInt8.ofNat n=32/\¬ UInt8.ofNat n=46)/\(dig (UInt8.ofNat n)=true->wrd (UInt8.ofNat n)=true)/\(mk (UInt8.ofNat n)=true->¬ UInt8.ofNat n=34/\¬ UInt8.ofNat n=35/\wrd (UInt8.ofNat n)=false/\¬ UInt8.ofNat n=32/\¬ UInt8.ofNat n=46):=by decide +kernel
 have:=key ⟨c.toNat,c.toNat_lt⟩;simpa using this
theorem zRC {c:UInt8} {t:List UInt8} {k:Nat} (hk:hit (c::t)=k) (h6:¬ k=6) :
  (k=1/\dig c=true \/ k=2/\c=34 \/ k=3/\wrd c=true/\dig c=false \/ k=4/\c=35 \/ k=5/\mk c=true):=by
 have hp:=hit_pos (l:=c::t) (by rw [hk];exact h6);have h1:=zK5 (c::t);have h2:=zHa (c::t);rw [hk] at hp h1 h2;have:k=1 \/ k=2 \/ k=3 \/ k=4 \/ k=5:=by omega
 rcases this with rfl | rfl | rfl | rfl | rfl
 ·exact Or.inl ⟨rfl,numSz_pos.1 hp⟩
 ·exact Or.inr (Or.inl ⟨rfl,txtSz_pos hp⟩)
 ·refine Or.inr (Or.inr (Or.inl ⟨rfl,wrdSz_pos.1 hp,?_⟩));cases hd:dig c with
  | false=>rfl
  | true =>
   have:hit (c::t)=1:=hit_first (by omega) (by omega) (numSz_pos.2 hd) (λj a b=>by omega);rw [this] at hk;omega
 ·exact Or.inr (Or.inr (Or.inr (Or.inl ⟨rfl,faultSz_pos hp⟩)))
 ·exact Or.inr (Or.inr (Or.inr (Or.inr ⟨rfl,markSz_pos hp⟩)))
theorem hit_of {c:UInt8} {t:List UInt8} {k:Nat} (h:k=1/\dig c=true \/ k=2/\c=34 \/ k=3/\wrd c=true/\dig c=false \/ k=4/\c=35 \/ k=5/\mk c=true) (hp:0<sz k (c::t)):hit (c::t)=k:=by
 obtain ⟨c1,c2,c3⟩:=cls c;have z1:dig c=false->sz 1 (c::t)=0:=λhd=>by
  have:¬ 0<numSz (c::t):=λh=>by rw [numSz_pos.1 h] at hd;cases hd
  rw [sz1];omega
 have z2:¬ c=34->sz 2 (c::t)=0:=λhd=>by
  have:¬ 0<txtSz (c::t):=λh=>hd (txtSz_pos h)
  rw [sz2];omega
 have z3:wrd c=false->sz 3 (c::t)=0:=λhd=>by
  have:¬ 0<runP wrd (c::t):=λh=>by rw [wrdSz_pos.1 h] at hd;cases hd
  rw [sz3];omega
 have z4:¬ c=35->sz 4 (c::t)=0:=λhd=>by
  have:¬ 0<nameSz (c::t) faults:=λh=>hd (faultSz_pos h)
  rw [sz4];omega
 have nd:wrd c=false->dig c=false:=λh=>by
  cases hd:dig c with
  | false=>rfl
  | true=>rw [c2 hd] at h;cases h
 rcases h with ⟨rfl,hd⟩ | ⟨rfl,rfl⟩ | ⟨rfl,hw,hd⟩ | ⟨rfl,rfl⟩ | ⟨rfl,hm⟩
 ·exact hit_first (by omega) (by omega) hp (λj a b=>by omega)
 ·exact hit_first (by omega) (by omega) hp (λj a b=>by
   obtain rfl:j=1:=by omega
   exact z1 (by decide))
 ·obtain ⟨a1,a2,a3,a4,a5⟩:=c1 hw;exact hit_first (by omega) (by omega) hp (λj a b=>by
   have:j=1 \/ j=2:=by omega
   rcases this with rfl | rfl
   ·exact z1 hd
   ·exact z2 a1)
 ·exact hit_first (by omega) (by omega) hp (λj a b=>by
   have:j=1 \/ j=2 \/ j=3:=by omega
   rcases this with rfl | rfl | rfl
   ·exact z1 (by decide)
   ·exact z2 (by decide)
   ·exact z3 (by decide))
 ·obtain ⟨a1,a2,a3,a4,a5⟩:=c3 hm;exact hit_first (by omega) (by omega) hp (λj a b=>by
   have:j=1 \/ j=2 \/ j=3 \/ j=4:=by omega
   rcases this with rfl | rfl | rfl | rfl
   ·exact z1 (nd a3)
   ·exact z2 a1
   ·exact z3 a3
   ·exact z4 a2)
end Wlx
namespace Wlx
theorem zBR:∀ (p l:List UInt8),begins p l=true ↔ ∃ s,l=p++s
 | [],l=>⟨λ_=>⟨l,rfl⟩,λ_=>rfl⟩
 | a::p,[]=>⟨λh=>by simp [begins] at h,λ⟨s,h⟩=>by simp at h⟩
 | a::p,b::t=>by
  simp only [begins,Bool.and_eq_true,decide_eq_true_eq,zBR p t];constructor
  ·rintro ⟨rfl,s,rfl⟩;exact ⟨s,rfl⟩
  ·rintro ⟨s,h⟩;simp only [List.cons_append,List.cons.injEq] at h;exact ⟨h.1.symm,s,h.2⟩
theorem runP_app (p:UInt8->Bool) (u r:List UInt8):runP p (u++r)=if runP p u<u.length then runP p u else u.length+runP p r:=by
 induction u with
 | nil=>simp
 | cons c t ih =>
  cases h:p c with
  | false=>rw [List.cons_append,runP_neg h,runP_neg h,if_pos (by simp)]
  | true =>
   rw [List.cons_append,runP_pos h,runP_pos h,ih];simp only [List.length_cons];split <;> split <;> omega
def Nx (k:Nat) (r' r:List UInt8):Prop:=(r.head? = r'.head? \/ r.head? = none \/ r.head? = some 32 \/ ∃ d,r.head? = some d/\(d=40 \/ d=41 \/ d=44))/\(k=1->¬ r.head? = some 46)
theorem zIn {p:UInt8->Bool} {r:List UInt8}:runP p r=0 ↔ ∀ c,r.head? = some c->p c=false:=by
 cases r with
 | nil=>simp [runP]
 | cons c t =>
  cases h:p c with
  | false=>rw [runP_neg h];simp [h]
  | true=>rw [runP_pos h];simp [h]
theorem zKA {p:UInt8->Bool} (h32:p 32=false/\p 40=false/\p 41=false/\p 44=false) {k:Nat} {r' r:List UInt8} (h:Nx k r' r) (h0:runP p r'=0):runP p r=0:=by
 rw [zIn] at h0 ⊢;intro c hc;rcases h.1 with e | e | e | ⟨d,e,hd⟩
 ·exact h0 c (by rw [<-e];exact hc)
 ·rw [e] at hc;cases hc
 ·rw [e] at hc;cases hc;exact h32.1
 ·rw [e] at hc;cases hc
  rcases hd with rfl | rfl | rfl
  ·exact h32.2.1
  ·exact h32.2.2.1
  ·exact h32.2.2.2
theorem zRH {u r' r:List UInt8} (h0:0<u.length) (h:numSz (u++r')=u.length) (hx:Nx 1 r' r):numSz (u++r)=u.length:=by
 have key:∀ r,numSz (u++r)=if runP dig u<u.length then (if runP dig u=0 then 0 else numTl (runP dig u) (u.drop (runP dig u)++r)) else numTl (u.length+runP dig r) (r.drop (runP dig r)):=by
  intro r;unfold numSz;rw [runP_app];by_cases ha:runP dig u<u.length
  ·rw [if_pos ha,if_pos ha];rw [List.drop_append_of_le_length (by omega)]
  ·rw [if_neg ha,if_neg ha,if_neg (by omega)];congr 1
   rw [List.drop_append,List.drop_eq_nil_of_le (by omega),List.nil_append,Nat.add_sub_cancel_left]
 rw [key] at h ⊢;have hle:=runP_le dig u;by_cases ha:runP dig u<u.length
 ·rw [if_pos ha] at h ⊢;by_cases hz:runP dig u=0
  ·rw [if_pos hz] at h;omega
  ·rw [if_neg hz] at h ⊢;cases hd:u.drop (runP dig u) with
   | nil =>
    have:=congrArg List.length hd;simp only [List.length_drop,List.length_nil] at this;omega
   | cons x y =>
    have hy:runP dig u+1+y.length=u.length:=by
     have:=congrArg List.length hd;simp only [List.length_drop,List.length_cons] at this;omega
    rw [hd,List.cons_append,numTl_cons] at h;rw [List.cons_append,numTl_cons];by_cases hc:x=46/\0<runP dig (y++r')
    ·rw [if_pos hc] at h;have e:runP dig (y++r')=y.length:=by omega
     rw [runP_app] at e;have hyl:=runP_le dig y;by_cases hb:runP dig y<y.length
     ·rw [if_pos hb] at e;omega
     ·rw [if_neg hb] at e;have e2:runP dig (y++r)=y.length:=by rw [runP_app,if_neg hb,zKA (by decide) hx (by omega)];rfl
      have hpos:0<y.length:=by have:=hc.2;rw [runP_app,if_neg hb] at this;omega
      rw [e2,if_pos ⟨hc.1,hpos⟩];omega
    ·rw [if_neg hc] at h;omega
 ·rw [if_neg ha] at h ⊢;have hr:runP dig r'=0:=by
   have g:∀ n l,n<=numTl n l:=by
    intro n l;cases l with
    | nil=>exact Nat.le_refl _
    | cons c t=>rw [numTl_cons];split <;> omega
   have:=g (u.length+runP dig r') (r'.drop (runP dig r'));omega
  have hr2:=zKA (by decide) hx hr;rw [hr2];show numTl (u.length+0) r=_
  cases r with
  | nil=>rfl
  | cons x y =>
   rw [numTl_cons,if_neg (λhh=>hx.2 rfl (by rw [hh.1];rfl))];rfl
theorem quo_hit (w:Bool) (i:Nat) (t:List UInt8):quo w i (34::t)=quo (!w) (i+1) t:=by
 conv=>lhs;unfold quo
 rw [if_pos rfl]
theorem quo_in {c:UInt8} (h:¬ c=34) (i:Nat) (t:List UInt8):quo true i (c::t)=quo true (i+1) t:=by
 conv=>lhs;unfold quo
 rw [if_neg h,if_pos rfl]
theorem quo_out {c:UInt8} (h:¬ c=34) (i:Nat) (t:List UInt8):quo false i (c::t)=i:=by
 conv=>lhs;unfold quo
 rw [if_neg h,if_neg (by decide)]
theorem zHT:∀ (l:List UInt8) (i:Nat),(quo true i l=0 \/ i+1<=quo true i l)/\(quo false i l=0 \/ i<=quo false i l):=by
 intro l;induction l with
 | nil=>intro i;exact ⟨Or.inl rfl,Or.inr (Nat.le_refl _)⟩
 | cons c t ih =>
  intro i;obtain ⟨h1,h2⟩:=ih (i+1);by_cases hc:c=34
  ·subst hc;rw [quo_hit,quo_hit];exact ⟨h2,h1.imp id (λh=>Nat.le_of_succ_le (Nat.le_of_succ_le h))⟩
  ·rw [quo_in hc,quo_out hc];exact ⟨h1.imp id (λh=>Nat.le_of_succ_le h),Or.inr (Nat.le_refl _)⟩
theorem zEy {u r':List UInt8} (h0:0<u.length):∀ (ms:List (List UInt8)),nameSz (u++r') ms=u.length->u ∈ ms
 | [],h=>by simp [nameSz] at h;omega
 | n::ms,h=>by
  unfold nameSz at h;cases hb:begins n (u++r') with
  | true =>
   rw [hb,if_pos rfl] at h;obtain ⟨s,hs⟩:=(zBR _ _).1 hb;rw [(List.append_inj hs h.symm).1];simp
  | false =>
   rw [hb,if_neg (by decide)] at h;exact List.mem_cons_of_mem _ (zEy h0 ms h)
end Wlx
namespace Wlx
structure At (k:Nat) (u r:List UInt8):Prop where
 hk:hit (u++r)=k
 h6:¬ k=6
 hn:sz k (u++r)=u.length
 h32:¬ (u++r).head? = some 32
theorem At.pos {k:Nat} {u r:List UInt8} (h:At k u r):0<u.length:=by
 have:=hit_pos (l:=u++r) (by rw [h.hk];exact h.h6);rw [h.hk,h.hn] at this;exact this
theorem at_of {c:UInt8} {t:List UInt8} (h:¬ c=32) (h6:¬ hit (c::t)=6):At (hit (c::t)) ((c::t).take (sz (hit (c::t)) (c::t))) ((c::t).drop (sz (hit (c::t)) (c::t))):=by
 have hl:((c::t).take (sz (hit (c::t)) (c::t))).length=sz (hit (c::t)) (c::t):=by
  rw [List.length_take];exact Nat.min_eq_left (sz_le _ _)
 refine ⟨by rw [List.take_append_drop],h6,by rw [List.take_append_drop,hl],?_⟩;rw [List.take_append_drop];exact λe=>h (Option.some.inj e)
end Wlx
namespace Wlx
theorem undbl_other {c:UInt8} (h:¬ c=34) (m:List UInt8):undbl (c::m)=c::undbl m:=by
 cases m with
 | nil=>rfl
 | cons d t =>
  conv=>lhs;unfold undbl
  rw [if_neg (λe=>h e.1)]
theorem undbl_two (m:List UInt8):undbl (34::34::m)=34::undbl m:=by
 conv=>lhs;unfold undbl
 rw [if_pos ⟨rfl,rfl⟩]
def zBe:Bool->List Tok->List UInt8
 | _,[]=>[]
 | f,t::r=>(if f then [] else [32])++zSX t.k t.t++zBe false r
theorem zEg:∀ c:UInt8,(wrd c=true->prt c=true)/\(dig c=true->prt c=true)/\prt 34=true/\prt 46=true:=by
 intro c;have key:∀ n:Fin 256,(wrd (UInt8.ofNat n)=true->prt (UInt8.ofNat n)=true)/\(dig (UInt8.ofNat n)=true->prt (UInt8.ofNat n)=true)/\prt 34=true/\prt 46=true:=by decide +kernel
 have:=key ⟨c.toNat,c.toNat_lt⟩;simpa using this
theorem zD5 {p:UInt8->Bool}:∀ (u:List UInt8),(∀ c ∈ u,p c=true)->runP p u=u.length
 | [],_=>rfl
 | c::t,h=>by rw [runP_pos (h c (by simp)),zD5 t (λx hx=>h x (by simp [hx]))];rfl
theorem zDL {p:UInt8->Bool}:∀ (u:List UInt8),¬ runP p u<u.length->∀ c ∈ u,p c=true
 | [],_,c,hc=>by cases hc
 | d::t,h,c,hc=>by
  cases hd:p d with
  | false=>rw [runP_neg hd] at h;simp at h
  | true =>
   rw [runP_pos hd] at h;simp only [List.length_cons] at h;rcases List.mem_cons.1 hc with rfl | hc
   ·exact hd
   ·exact zDL t (by omega) c hc
theorem bad_text {k:Nat} {u r:List UInt8} (ha:At k u r) (hp:runP prt u<u.length):k=2:=by
 have h0:=ha.pos;have hn:=ha.hn;have h1:=zK5 (u++r);have h2:=zHa (u++r);rw [ha.hk] at h1 h2;have h6:=ha.h6;have:k=1 \/ k=2 \/ k=3 \/ k=4 \/ k=5:=by omega
 rcases this with rfl | rfl | rfl | rfl | rfl
 ·exfalso
  have hn:numSz (u++r)=u.length:=hn;have hall:∀ c ∈ u,prt c=true:=by
   unfold numSz at hn;by_cases hz:runP dig (u++r)=0
   ·rw [if_pos hz] at hn;omega
   ·rw [if_neg hz,runP_app] at hn;by_cases hd:runP dig u<u.length
    ·rw [if_pos hd,List.drop_append_of_le_length (by omega)] at hn;have hu:u=u.take (runP dig u)++u.drop (runP dig u):=(List.take_append_drop _ _).symm;have htk:∀ (l:List UInt8),∀ c ∈ l.take (runP dig l),dig c=true:=by
      intro l;induction l with
      | nil=>intro c hc;simp [runP] at hc
      | cons a b ih =>
       intro c hc;cases hda:dig a with
       | false=>rw [runP_neg hda] at hc;simp at hc
       | true =>
        rw [runP_pos hda,List.take_succ_cons] at hc;rcases List.mem_cons.1 hc with rfl | hc
        ·exact hda
        ·exact ih c hc
     cases hdd:u.drop (runP dig u) with
     | nil =>
      have:=congrArg List.length hdd;simp only [List.length_drop,List.length_nil] at this;omega
     | cons x y =>
      have hy:runP dig u+1+y.length=u.length:=by
       have:=congrArg List.length hdd;simp only [List.length_drop,List.length_cons] at this;omega
      rw [hdd,List.cons_append,numTl_cons] at hn;by_cases hc:x=46/\0<runP dig (y++r)
      ·rw [if_pos hc] at hn;have e:runP dig (y++r)=y.length:=by omega
       rw [runP_app] at e;have hyl:=runP_le dig y;have hb:¬ runP dig y<y.length:=λhb=>by rw [if_pos hb] at e;omega
       intro c hc2;rw [hu,hdd] at hc2;rcases List.mem_append.1 hc2 with h | h
       ·exact (zEg c).2.1 (htk u c h)
       ·rcases List.mem_cons.1 h with rfl | h
        ·rw [hc.1];decide
        ·exact (zEg c).2.1 (zDL y hb c h)
      ·rw [if_neg hc] at hn;omega
    ·exact λc hc=>(zEg c).2.1 (zDL u hd c hc)
  rw [zD5 u hall] at hp;omega
 ·rfl
 ·exfalso
  have hn:runP wrd (u++r)=u.length:=hn;rw [runP_app] at hn;have hd:¬ runP wrd u<u.length:=λhd=>by rw [if_pos hd] at hn;omega
  rw [zD5 u (λc hc=>(zEg c).1 (zDL u hd c hc))] at hp;omega
 ·exfalso
  have:=zEy h0 faults hn;have g:∀ n ∈ faults,runP prt n=n.length:=by decide
  rw [g u this] at hp;omega
 ·exfalso
  have:=zEy h0 marks hn;have g:∀ n ∈ marks,runP prt n=n.length:=by decide
  rw [g u this] at hp;omega
end Wlx
namespace Wlx
def badV (q:Nat) (x:List UInt8):Int:=if runP prt x<x.length then ((q+1+runP prt x:Nat):Int) else -1
theorem badV_neg {q:Nat} {x:List UInt8}:badV q x<0 ↔ ¬ runP prt x<x.length:=by
 unfold badV;by_cases h:runP prt x<x.length
 ·rw [if_pos h];omega
 ·rw [if_neg h];omega
theorem badV_good {q:Nat} {x:List UInt8} {c:UInt8} (hc:prt c=true):badV q (x++[c])=badV q x:=by
 unfold badV;rw [runP_app,List.length_append];have hl:=runP_le prt x;by_cases h:runP prt x<x.length
 ·rw [if_pos h,if_pos h,if_pos (by simp only [List.length_cons,List.length_nil];omega)]
 ·rw [if_neg h,if_neg h,runP_pos hc];rw [if_neg (by simp [runP])]
theorem badV_bad {q:Nat} {x:List UInt8} {c:UInt8} (hc:prt c=false) (h:badV q x<0):badV q (x++[c])=((q+1+x.length:Nat):Int):=by
 have h:=badV_neg.1 h;unfold badV;rw [runP_app,List.length_append,if_neg h,runP_neg hc,if_pos (by simp)];rfl
theorem badV_old {q:Nat} {x:List UInt8} {c:UInt8} (h:¬ badV q x<0):badV q (x++[c])=badV q x:=by
 have h:runP prt x<x.length:=by
  by_cases hh:runP prt x<x.length
  ·exact hh
  ·exact absurd (badV_neg.2 hh) h
 unfold badV;rw [runP_app,List.length_append,if_pos h,if_pos h,if_pos (by omega)]
end Wlx
namespace Go.Proofs.YtdghjlmnlodnlaaGreatDoor
open Tryz
open Go.Shelf Go.RowKit
variable {x y:List UInt8} {b:ByteArray} {e:Nat}
theorem zBY {c:UInt8} (hd:b.data.toList.drop e=x++c::y):∃ h:e+x.length<b.size,b[e+x.length]=c:=by
 have hlen:e+x.length<b.size:=by
  have:=congrArg List.length hd;simp only [List.length_drop,List.length_append,List.length_cons] at this;have e2:b.data.toList.length=b.size:=rfl;omega
 refine ⟨hlen,?_⟩;have e1:b.data.toList[e+x.length]? = some b[e+x.length]:=List.getElem?_eq_getElem (by exact hlen);rw [<-List.getElem?_drop,hd,List.getElem?_append_right (Nat.le_refl _),Nat.sub_self] at e1;exact (Option.some.inj e1).symm
theorem zDU (he:e<=b.size) (hd:b.data.toList.drop e=x):e+x.length=b.size:=by
 have:=congrArg List.length hd;simp only [List.length_drop] at this;have e2:b.data.toList.length=b.size:=rfl;omega
def zCY (q:Nat) (l:List UInt8) (e:Ending):Prop :=
 (Wlx.txtSz l=0/\e=.returned (.tuple #[.string ⟨#[]⟩,.int .i64 0,.int .i64 41,.int .i64 q])) \/
 (0<Wlx.txtSz l/\Wlx.runP Wlx.prt (l.take (Wlx.txtSz l))<Wlx.txtSz l/\e=.returned (.tuple #[.string ⟨#[]⟩,.int .i64 0,.int .i64 40,.int .i64 ((q+Wlx.runP Wlx.prt (l.take (Wlx.txtSz l)):Nat):Int)])) \/
 (0<Wlx.txtSz l/\¬ Wlx.runP Wlx.prt (l.take (Wlx.txtSz l))<Wlx.txtSz l/\e=.returned (.tuple #[.string ⟨(Wlx.said 2 (l.take (Wlx.txtSz l))).toArray⟩,.int .i64 ((q+Wlx.txtSz l:Nat):Int),.int .i64 0,.int .i64 0]))
theorem zLY {q:Nat} {acc:List UInt8} {e:Ending} (hu:∀ z,Wlx.undbl (x++z)=acc++Wlx.undbl z) (hq:Wlx.quo true 1 (x++34::y)=x.length+2)
  (h:(Wlx.badV q x<0/\e=.returned (.tuple #[.string ⟨acc.toArray⟩,.int .i64 ((q+1+x.length+1:Nat):Int),.int .i64 0,.int .i64 0])) \/ (¬ Wlx.badV q x<0/\e=.returned (.tuple #[.string ⟨#[]⟩,.int .i64 0,.int .i64 40,.int .i64 (Wlx.badV q x)]))) :
  zCY q (34::(x++34::y)) e:=by
 have hs:Wlx.txtSz (34::(x++34::y))=x.length+2:=hq;have ht:(34::(x++34::y)).take (x.length+2)=34::(x++[34]):=by
  rw [List.take_succ_cons,List.take_append,List.take_of_length_le (by omega)];have:x.length+1 - x.length=1:=by omega
  rw [this];rfl
 have hr:Wlx.runP Wlx.prt (34::(x++[34]))=if Wlx.runP Wlx.prt x<x.length then 1+Wlx.runP Wlx.prt x else x.length+2:=by
  rw [Wlx.runP_pos (by decide),Wlx.runP_app];split
  ·omega
  ·rw [Wlx.runP_pos (by decide)];show x.length+(0+1)+1=_;omega
 unfold zCY;rw [hs,ht,hr];right
 have hle:=Wlx.runP_le Wlx.prt x;rcases h with ⟨hb,rfl⟩ | ⟨hb,rfl⟩
 ·right
  have hb:=Wlx.badV_neg.1 hb;rw [if_neg hb];have hsd:Wlx.said 2 (34::(x++[34]))=acc:=by
   unfold Wlx.said;rw [if_pos rfl];have:(((34::(x++[34])):List UInt8).drop 1).take ((34::(x++[34])).length - 2)=x:=by
    have e1:(34::(x++[34])).length - 2=x.length:=by simp
    rw [e1];exact List.take_left
   rw [this];have:=hu [];rw [List.append_nil] at this;rw [this];show acc++[]=acc
   rw [List.append_nil]
  refine ⟨by omega,by omega,?_⟩;rw [hsd];exact congrArg (λz=>Ending.returned (.tuple #[.string ⟨acc.toArray⟩,.int .i64 z,.int .i64 0,.int .i64 0])) (by omega)
 ·left
  have hb2:Wlx.runP Wlx.prt x<x.length:=by
   by_cases hh:Wlx.runP Wlx.prt x<x.length
   ·exact hh
   ·exact absurd (Wlx.badV_neg.2 hh) hb
  rw [if_pos hb2];refine ⟨by omega,by omega,?_⟩;have:Wlx.badV q x=((q+(1+Wlx.runP Wlx.prt x):Nat):Int):=by unfold Wlx.badV;rw [if_pos hb2];omega
  rw [this]
theorem zBE {fn:Func} {t u v x:Tmp} (h:fn.results=#[.tmp t,.tmp u,.tmp v,.tmp x]) (tmps:Array Value) (P:Program) (w:World) :
  (results fn tmps).run P w=.ok (.tuple #[tmps.getD t undef,tmps.getD u undef,tmps.getD v undef,tmps.getD x undef]) w:=by
 simp [results,h]
theorem zIK (b:ByteArray) (q:Nat) (a:List UInt8) (w:World) (hs:b.size<=1024) (hq:q<b.size) (hd:b.data.toList.drop (q+1)=a):Calls prog 92 #[.string b,.int .i64 q] w λe w'=>zCY q (34::a) e/\Below w.heap.size w w':=by
 obtain ⟨i0,hi,hz0,hz1,hz2⟩:=info_parts zDo;have hsz:=zDU hq hd;have HD:Hid (b.data.toList.drop (q+1)=a):=hd;have own0:Hid (zEr w w.heap.size (.slice none 0 0) []):=World.ownsRow_nil _ _ _ _;have hal:a.length<=1024:=by omega
 clear hd;go_enter func92,ntmps92;go_wp2_with fail
 go_loopg [8,9,10] (b.size - (q+1)) (λgk y z t wr=>∃ (x r acc:List UInt8) (I:Nat) (bd:Int),t=.int .i64 I/\z=.int .i64 bd/\gk=b.size - I/\I<=b.size/\Hid (I=q+1+x.length)/\Hid (a=x++r)/\Hid (∀ z,Wlx.undbl (x++z)=acc++Wlx.undbl z)/\Hid (Wlx.quo true 1 a=Wlx.quo true (1+x.length) r)/\Hid (bd=Wlx.badV q x)/\Hid (zEr wr w.heap.size y acc)/\acc.length<=x.length/\Below w.heap.size w wr)
 case atStart=>exact ⟨[],a,[],q+1,-1,by simp,rfl,rfl,hq,(rfl:q+1=q+1+([]:List UInt8).length),(rfl:a=[]++a),(λz=>rfl:∀ z,Wlx.undbl ([]++z)=[]++Wlx.undbl z),(rfl:Wlx.quo true 1 a=Wlx.quo true (1+([]:List UInt8).length) a),(rfl:(-1:Int)=Wlx.badV q []),own0,Nat.le_refl _,Below.refl _ _⟩
 case round =>
  obtain ⟨x,r,acc,I,bd,rfl,rfl,hg,hIs,HI,HA,HU,HQ,HB,HO,hac,hb⟩:=hrel;have sw:=hb.size;have hxl:x.length<=1024:=by have:=congrArg List.length HA.out;rw [List.length_append] at this;omega
  have bb1:bd<=4096 /\ -1<=bd:=by
   rw [HB.out];unfold Wlx.badV;have:=Wlx.runP_le Wlx.prt x;split <;> omega
  obtain ⟨bb1,bb2⟩:=bb1;cases r with
  | nil =>
   have hIe:I=b.size:=by have h1:=HI.out;have h2:=congrArg List.length HA.out;rw [List.append_nil] at h2;omega
   have hIi:¬ (I:Int)<(b.size:Int):=by omega
   have hIj:(b.size:Int)<=(I:Int):=by omega
   have HT:Hid (zCY q (34::a) (.returned (.tuple #[.string ⟨#[]⟩,.int .i64 0,.int .i64 41,.int .i64 q]))):=Or.inl ⟨by show Wlx.quo true 1 a=0;rw [HQ.out];rfl,rfl⟩;clear HQ HU HB HA HI HO hIe;go_wp2;try simp only [Exit.inBlock,Exit.then]
   refine bodyPost_ret (zBE rfl _ _ _) rfl ?_;exact ⟨HT.out,hb⟩
  | cons c r =>
   obtain ⟨hIlt,hbc⟩:=zBY (HD.out.trans HA.out);have hIl:I<b.size:=by have h1:=HI.out;omega
   have hIi:(I:Int)<(b.size:Int):=by omega
   have hbI:b[I]=c:=by have h1:=HI.out;simp only [h1];exact hbc
   have eb:(((b[I]).toNat:Nat):Int)=((c.toNat:Nat):Int):=by rw [hbI]
   have own:=HO.out;have cb:=zCA c;clear hbc HO hIlt hbI;by_cases hc:c=34
   ·subst hc;have e34:((((34:UInt8).toNat:Nat):Int))=34:=rfl;rw [e34] at eb;have fin:∀ y,Hid (a=x++34::y)->¬ y.head? = some 34->Hid (∀ e,((Wlx.badV q x<0/\e=.returned (.tuple #[.string ⟨acc.toArray⟩,.int .i64 ((q+1+x.length+1:Nat):Int),.int .i64 0,.int .i64 0])) \/ (¬ Wlx.badV q x<0/\e=.returned (.tuple #[.string ⟨#[]⟩,.int .i64 0,.int .i64 40,.int .i64 (Wlx.badV q x)])))->zCY q (34::a) e):=by
     intro y hy hh e he;rw [hy.out];refine zLY HU.out ?_ he;rw [<-hy.out,HQ.out];have hr:r=y:=by
      have:=HA.out.symm.trans hy.out;have:=List.append_cancel_left this;exact (List.cons.inj this).2
     rw [hr,Wlx.quo_hit];show Wlx.quo false (1+x.length+1) y=_
     cases y with
     | nil=>show 1+x.length+1=_;omega
     | cons d y'=>rw [Wlx.quo_out (λe=>hh (by rw [e];rfl))];omega
    by_cases hr34:r.head? = some 34
    ·obtain ⟨r',rfl⟩:∃ r',r=34::r':=by
      cases r with
      | nil=>cases hr34
      | cons d r'=>exact ⟨r',by rw [Option.some.inj hr34]⟩
     have hI1:I+1<b.size:=by
      have h1:=HI.out;have h2:=congrArg List.length HA.out;simp only [List.length_append,List.length_cons] at h2;omega
     have hI1i:(I:Int)+1<(b.size:Int):=by omega
     have hA1:b.data.toList.drop (q+1)=(x++[34])++34::r':=by rw [HD.out,HA.out];simp
     obtain ⟨_,hb1⟩:=zBY hA1;have eb1:(((b[I+1]).toNat:Nat):Int)=34:=by
      have h1:=HI.out;have:b[I+1]=34:=by
       simp only [h1];simp only [List.length_append,List.length_cons,List.length_nil] at hb1;have e1:q+1+(x.length+(0+1))=q+1+x.length+1:=by omega
       simp only [e1] at hb1;exact hb1
      rw [this];rfl
     have HI2:Hid (I+1+1=q+1+(x++[34,34]).length):=by show _=_;rw [HI.out,List.length_append];simp;omega
     have HA2:Hid (a=(x++[34,34])++r'):=by show _=_;rw [HA.out];simp
     have HU2:Hid (∀ z,Wlx.undbl ((x++[34,34])++z)=(acc++[34])++Wlx.undbl z):=by
      intro z;rw [List.append_assoc,HU.out];show acc++Wlx.undbl (34::34::z)=_
      rw [Wlx.undbl_two];simp
     have HQ2:Hid (Wlx.quo true 1 a=Wlx.quo true (1+(x++[34,34]).length) r'):=by
      show _=_
      rw [HQ.out,Wlx.quo_hit,Wlx.quo_hit,List.length_append];rfl
     have HB2:Hid (bd=Wlx.badV q (x++[34,34])):=by
      show _=_
      rw [HB.out,show x++[34,34]=(x++[34])++[34] by simp,Wlx.badV_good (by decide),Wlx.badV_good (by decide)]
     clear fin hr34 hA1 hb1 HI HA HU HQ HB;by_cases hbd:bd<0
     all_goals
      go_wp2_with (at_builtin;refine wpList_append_own _ rfl _ _ 82 rfl w.heap.size 5 i0 (.int .u8 0) 1 1 underlying82 hi hz0 hz1 hz2 rfl (by decide) _ _ _ rfl (own.alloc _) ⟨wr.heap.size,0,none⟩ 1 1 [.int .u8 34] rfl rfl (zA3 _ _ _) (by intro u hu;simp at hu;subst hu;rfl) (by unfold maxLen;omega) (by omega) (by simp;omega) ?_)
      intro v3 w3 hown3 hgrow3 _;have hb3:=zAd hb sw own hgrow3;have HO3:Hid (zEr w3 w.heap.size v3 (acc++[34])):=zAs (n:=0) hown3;clear hown3 hgrow3 own;go_wp2_with fail
      go_roundg (b.size - (I+1+1))
      case rel=>exact ⟨x++[34,34],r',acc++[34],I+1+1,bd,by simp,rfl,rfl,by omega,HI2,HA2,HU2,HQ2,HB2,HO3,by rw [List.length_append,List.length_append];simp only [List.length_cons,List.length_nil];omega,hb3⟩
      case measure=>omega
    ·have HF:=fin r HA hr34;have hnx:∀ h:I+1<b.size,¬ b[I+1]=34:=by
      intro h h34;apply hr34
      have h1:=HI.out;have h2:=congrArg List.length HA.out;simp only [List.length_append,List.length_cons] at h2;cases r with
      | nil=>simp only [List.length_nil] at h2;omega
      | cons d r' =>
       have hA1:b.data.toList.drop (q+1)=(x++[34])++d::r':=by rw [HD.out,HA.out];simp
       obtain ⟨_,hb1⟩:=zBY hA1;simp only [List.length_append,List.length_cons,List.length_nil] at hb1;have e1:q+1+(x.length+(0+1))=q+1+x.length+1:=by omega
       simp only [e1] at hb1;simp only [h1] at h34;rw [<-hb1,h34];rfl
     have hIge:¬ (b.size:Int)<=(I:Int):=by omega
     have hcv:=zFF own;have HZ:Hid ((I:Int)+1=((q+1+x.length+1:Nat):Int)):=by show _=_;have:=HI.out;omega
     have HBv:=HB;clear fin HA HU HQ hr34;by_cases hI1:I+1<b.size
     ·have hI1i:(I:Int)+1<(b.size:Int):=by omega
      have eb1:((((b[I+1]).toNat:Nat):Int) == 34)=false:=by
       refine beq_eq_false_iff_ne.2 (λe=>hnx hI1 ?_);have:(b[I+1]).toNat=34:=by omega
       exact UInt8.toNat_inj.1 this
      clear hnx;by_cases hbd:bd<0
      ·have hbd2:¬ (0:Int)<=bd:=by omega
       go_wp2;try simp only [Exit.inBlock,Exit.then]
       refine bodyPost_ret (zBE rfl _ _ _) rfl ?_;exact ⟨HF.out _ (Or.inl ⟨by rw [<-HB.out];exact hbd,congrArg (λz=>Ending.returned (.tuple #[.string ⟨acc.toArray⟩,.int .i64 z,.int .i64 0,.int .i64 0])) HZ.out⟩),hb⟩
      ·have hbd2:(0:Int)<=bd:=by omega
       go_wp2;try simp only [Exit.inBlock,Exit.then]
       refine bodyPost_ret (zBE rfl _ _ _) rfl ?_;exact ⟨HF.out _ (Or.inr ⟨by rw [<-HB.out];exact hbd,by rw [<-HB.out];rfl⟩),hb⟩
     ·have hI1i:¬ (I:Int)+1<(b.size:Int):=by omega
      clear hnx;by_cases hbd:bd<0
      ·have hbd2:¬ (0:Int)<=bd:=by omega
       go_wp2;try simp only [Exit.inBlock,Exit.then]
       refine bodyPost_ret (zBE rfl _ _ _) rfl ?_;exact ⟨HF.out _ (Or.inl ⟨by rw [<-HB.out];exact hbd,congrArg (λz=>Ending.returned (.tuple #[.string ⟨acc.toArray⟩,.int .i64 z,.int .i64 0,.int .i64 0])) HZ.out⟩),hb⟩
      ·have hbd2:(0:Int)<=bd:=by omega
       go_wp2;try simp only [Exit.inBlock,Exit.then]
       refine bodyPost_ret (zBE rfl _ _ _) rfl ?_;exact ⟨HF.out _ (Or.inr ⟨by rw [<-HB.out];exact hbd,by rw [<-HB.out];rfl⟩),hb⟩
   ·have hc34:(((c.toNat:Nat):Int) == 34)=false:=by
     refine beq_eq_false_iff_ne.2 (λe=>hc ?_);have:c.toNat=34:=by omega
     exact UInt8.toNat_inj.1 this
    have HI2:Hid (I+1=q+1+(x++[c]).length):=by show _=_;rw [HI.out,List.length_append];rfl
    have HA2:Hid (a=(x++[c])++r):=by show _=_;rw [HA.out];simp
    have HU2:Hid (∀ z,Wlx.undbl ((x++[c])++z)=(acc++[c])++Wlx.undbl z):=by
     intro z;rw [List.append_assoc,HU.out];show acc++Wlx.undbl (c::z)=_
     rw [Wlx.undbl_other hc];simp
    have HQ2:Hid (Wlx.quo true 1 a=Wlx.quo true (1+(x++[c]).length) r):=by
     show _=_
     rw [HQ.out,Wlx.quo_in hc,List.length_append];rfl
    by_cases hbd:bd<0
    ·by_cases hlo:((c.toNat:Nat):Int)<32
     ·have HB2:Hid ((I:Int)=Wlx.badV q (x++[c])):=by
       show _=_
       rw [Wlx.badV_bad (by unfold Wlx.prt;simp;omega) (by rw [<-HB.out];exact hbd),HI.out]
      clear HI HA HU HQ HB hc;go_wp2_with (at_builtin;refine wpList_append_own _ rfl _ _ 82 rfl w.heap.size 5 i0 (.int .u8 0) 1 1 underlying82 hi hz0 hz1 hz2 rfl (by decide) _ _ _ rfl (own.alloc _) ⟨wr.heap.size,0,none⟩ 1 1 [.int .u8 ((c.toNat:Nat):Int)] rfl rfl (zA3 _ _ _) (by intro u hu;simp at hu;subst hu;rfl) (by unfold maxLen;omega) (by omega) (by simp;omega) ?_)
      intro v3 w3 hown3 hgrow3 _;have hb3:=zAd hb sw own hgrow3;have HO3:Hid (zEr w3 w.heap.size v3 (acc++[c])):=zAs (n:=0) hown3;clear hown3 hgrow3 own;go_wp2_with fail
      go_roundg (b.size - (I+1))
      case rel=>exact ⟨x++[c],r,acc++[c],I+1,(I:Int),by simp,rfl,rfl,by omega,HI2,HA2,HU2,HQ2,HB2,HO3,by rw [List.length_append,List.length_append];simp only [List.length_cons,List.length_nil];omega,hb3⟩
      case measure=>omega
     ·by_cases hhi:(126:Int)<((c.toNat:Nat):Int)
      ·have HB2:Hid ((I:Int)=Wlx.badV q (x++[c])):=by
        show _=_
        rw [Wlx.badV_bad (by unfold Wlx.prt;simp;omega) (by rw [<-HB.out];exact hbd),HI.out]
       clear HI HA HU HQ HB hc;go_wp2_with (at_builtin;refine wpList_append_own _ rfl _ _ 82 rfl w.heap.size 5 i0 (.int .u8 0) 1 1 underlying82 hi hz0 hz1 hz2 rfl (by decide) _ _ _ rfl (own.alloc _) ⟨wr.heap.size,0,none⟩ 1 1 [.int .u8 ((c.toNat:Nat):Int)] rfl rfl (zA3 _ _ _) (by intro u hu;simp at hu;subst hu;rfl) (by unfold maxLen;omega) (by omega) (by simp;omega) ?_)
       intro v3 w3 hown3 hgrow3 _;have hb3:=zAd hb sw own hgrow3;have HO3:Hid (zEr w3 w.heap.size v3 (acc++[c])):=zAs (n:=0) hown3;clear hown3 hgrow3 own;go_wp2_with fail
       go_roundg (b.size - (I+1))
       case rel=>exact ⟨x++[c],r,acc++[c],I+1,(I:Int),by simp,rfl,rfl,by omega,HI2,HA2,HU2,HQ2,HB2,HO3,by rw [List.length_append,List.length_append];simp only [List.length_cons,List.length_nil];omega,hb3⟩
       case measure=>omega
      ·have HB2:Hid (bd=Wlx.badV q (x++[c])):=by
        show _=_
        rw [Wlx.badV_good (by unfold Wlx.prt;simp;omega),HB.out]
       clear HI HA HU HQ HB hc;go_wp2_with (at_builtin;refine wpList_append_own _ rfl _ _ 82 rfl w.heap.size 5 i0 (.int .u8 0) 1 1 underlying82 hi hz0 hz1 hz2 rfl (by decide) _ _ _ rfl (own.alloc _) ⟨wr.heap.size,0,none⟩ 1 1 [.int .u8 ((c.toNat:Nat):Int)] rfl rfl (zA3 _ _ _) (by intro u hu;simp at hu;subst hu;rfl) (by unfold maxLen;omega) (by omega) (by simp;omega) ?_)
       intro v3 w3 hown3 hgrow3 _;have hb3:=zAd hb sw own hgrow3;have HO3:Hid (zEr w3 w.heap.size v3 (acc++[c])):=zAs (n:=0) hown3;clear hown3 hgrow3 own;go_wp2_with fail
       go_roundg (b.size - (I+1))
       case rel=>exact ⟨x++[c],r,acc++[c],I+1,bd,by simp,rfl,rfl,by omega,HI2,HA2,HU2,HQ2,HB2,HO3,by rw [List.length_append,List.length_append];simp only [List.length_cons,List.length_nil];omega,hb3⟩
       case measure=>omega
    ·have HB2:Hid (bd=Wlx.badV q (x++[c])):=by
      show _=_
      rw [Wlx.badV_old (by rw [<-HB.out];exact hbd),HB.out]
     clear HI HA HU HQ HB hc;go_wp2_with (at_builtin;refine wpList_append_own _ rfl _ _ 82 rfl w.heap.size 5 i0 (.int .u8 0) 1 1 underlying82 hi hz0 hz1 hz2 rfl (by decide) _ _ _ rfl (own.alloc _) ⟨wr.heap.size,0,none⟩ 1 1 [.int .u8 ((c.toNat:Nat):Int)] rfl rfl (zA3 _ _ _) (by intro u hu;simp at hu;subst hu;rfl) (by unfold maxLen;omega) (by omega) (by simp;omega) ?_)
     intro v3 w3 hown3 hgrow3 _;have hb3:=zAd hb sw own hgrow3;have HO3:Hid (zEr w3 w.heap.size v3 (acc++[c])):=zAs (n:=0) hown3;clear hown3 hgrow3 own;go_wp2_with fail
     go_roundg (b.size - (I+1))
     case rel=>exact ⟨x++[c],r,acc++[c],I+1,bd,by simp,rfl,rfl,by omega,HI2,HA2,HU2,HQ2,HB2,HO3,by rw [List.length_append,List.length_append];simp only [List.length_cons,List.length_nil];omega,hb3⟩
     case measure=>omega
