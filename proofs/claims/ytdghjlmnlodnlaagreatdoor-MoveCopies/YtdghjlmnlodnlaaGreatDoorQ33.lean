/- TQCellA, TQCellB, TQWord. -/
import Derived.Test.YtdghjlmnlodnlaaGreatDoorQ32
set_option maxHeartbeats 3200000
set_option maxRecDepth 100000
namespace Go.Proofs.YtdghjlmnlodnlaaGreatDoor
open Tryz
open Go.RowKit Go.Shelf
set_option linter.unusedVariables false
variable {b:ByteArray} {l A m:List UInt8} {ts:List Wlx.TV}
def zEL (tn lo kp:Nat) (en:Int) (r:(Wt.Rf × List Wlx.TV) ⊕ (Int × Int)) (w:World) (e:Ending) (w':World):Prop:=w.grownBy w' (some kp)/\match r with
 | .inl (a,rest)=>e=.returned (.agg (rf5 a).toArray)/\RS tn lo kp en w' rest 0 0
 | .inr (c,p)=>¬ c=0/\e=.returned (.agg (rf5 Wt.r0).toArray)/\∃ ts,RS tn lo kp en w' ts c p
theorem zNg (tn lo kp:Nat) (en:Int) (w:World) (h:RS tn lo kp en w [] 0 0) :
  Calls prog 171 #[.pointer (some ⟨kp,0,none⟩)] w λe w'=>zEL tn lo kp en (.inr (50,pos [] en)) w e w':=by
 obtain ⟨hkl,hlo,h1024⟩:=h.lo;have pZ:AtL (w.alloc (.cells zR0 28)) w.heap.size (rf5 Wt.r0):=AtL.new0 w _ _;have hB0:=zAI (Below.refl _ w) (.cells zR0 28);have h0:=h.below hB0;have hkw:kp<w.heap.size:=by omega
 obtain ⟨av,len,cap,a,c0,c1,c3,hal⟩:=zJi h0;have hge:decide (len<=a)=true:=by simp;omega
 have hge2:len<=a:=by omega
 clear h;go_enter func171,ntmps171;go_upto_region 1 with fail
 generalize w.alloc (.cells zR0 28)=W0 at *;go_quiet (fail)
 have hb9:Below W0.heap.size W0 (W0.drewN nq):=zAG (Below.refl _ _) nq;have hB9:=zAA hB0 hb9;have hR9:=h0.below hb9;have pZ9:=AtL.below hb9 pZ;generalize W0.drewN nq=W9 at *;have F:=zAw tn lo kp en 50 W9 _ hR9;go_wp2_with fail
 refine F.mono ?_;rintro e w2 ⟨rfl,hR2,hg2⟩;have hG2:w.grownBy w2 (some kp):=zAB (zAC hB9 _) hg2;have pZ2:AtL w2 w.heap.size (rf5 Wt.r0):=pZ9.grown hg2 (λe=>by have:=Option.some.inj e;omega);have tR:w2.there w.heap.size 0 (rf5 Wt.r0).toArray.size:=pZ2.there;go_wp2_with ((with_reducible refine wpList_store_mid ?_ 28 (.tmp 2) (.tmp 51) ?_ (w.heap.size) 0 (rf5 Wt.r0).toArray ?_ ?_ ?_ ?_ ?_ ?_);rfl;rfl;rfl;rfl;exact tR;kernel_rfl;exact zDH _)
 have rR2:=AtL.setAll pZ2 (vs:=rf5 Wt.r0) rfl;refine bodyPost_ret (v:=.agg (rf5 Wt.r0).toArray) (zAF (by rfl) _ _ w.heap.size (rf5 Wt.r0) _ (by rfl) rR2.range underlying28 rfl (by kernel_rfl)) rfl ?_;exact ⟨zAJ hG2 (Nat.le_refl _) _ 0,by decide,rfl,_,hR2.row (zAV w2 w.heap.size _ 0) (λb e=>by have:=Option.some.inj e;omega)⟩
theorem zOX (tn lo kp:Nat) (en:Int) (w:World) (t:Wlx.TV) (r:List Wlx.TV) (h:RS tn lo kp en w (t::r) 0 0) (hk:¬ t.k=3):
  Calls prog 171 #[.pointer (some ⟨kp,0,none⟩)] w λe w'=>zEL tn lo kp en (.inr (50,pos (t::r) en)) w e w':=by
 obtain ⟨hkl,hlo,h1024⟩:=h.lo;have pZ:AtL (w.alloc (.cells zR0 28)) w.heap.size (rf5 Wt.r0):=AtL.new0 w _ _;have hB0:=zAI (Below.refl _ w) (.cells zR0 28);have h0:=h.below hB0;have hkw:kp<w.heap.size:=by omega
 obtain ⟨g,len,cap,a,c0,c1,c3,hal,ha,t0,t1,t2⟩:=zAl h0;have hge:decide (len<=a)=false:=by simp;omega
 have hk3:(t.k != 3)=true:=by simpa using hk
 clear h;go_enter func171,ntmps171;go_upto_region 1 with fail
 generalize w.alloc (.cells zR0 28)=W0 at *;go_quiet (fail)
 have hb9:Below W0.heap.size W0 (W0.drewN nq):=zAG (Below.refl _ _) nq;have hB9:=zAA hB0 hb9;have hR9:=h0.below hb9;have pZ9:=AtL.below hb9 pZ;generalize W0.drewN nq=W9 at *;have F:=zAw tn lo kp en 50 W9 _ hR9;go_wp2_with fail
 refine F.mono ?_;rintro e w2 ⟨rfl,hR2,hg2⟩;have hG2:w.grownBy w2 (some kp):=zAB (zAC hB9 _) hg2;have pZ2:AtL w2 w.heap.size (rf5 Wt.r0):=pZ9.grown hg2 (λe=>by have:=Option.some.inj e;omega);have tR:w2.there w.heap.size 0 (rf5 Wt.r0).toArray.size:=pZ2.there;go_wp2_with ((with_reducible refine wpList_store_mid ?_ 28 (.tmp 2) (.tmp 51) ?_ (w.heap.size) 0 (rf5 Wt.r0).toArray ?_ ?_ ?_ ?_ ?_ ?_);rfl;rfl;rfl;rfl;exact tR;kernel_rfl;exact zDH _)
 have rR2:=AtL.setAll pZ2 (vs:=rf5 Wt.r0) rfl;refine bodyPost_ret (v:=.agg (rf5 Wt.r0).toArray) (zAF (by rfl) _ _ w.heap.size (rf5 Wt.r0) _ (by rfl) rR2.range underlying28 rfl (by kernel_rfl)) rfl ?_;exact ⟨zAJ hG2 (Nat.le_refl _) _ 0,by decide,rfl,_,hR2.row (zAV w2 w.heap.size _ 0) (λb e=>by have:=Option.some.inj e;omega)⟩
theorem zOV (tn lo kp:Nat) (en:Int) (w:World) (t:Wlx.TV) (r:List Wlx.TV) (h:RS tn lo kp en w (t::r) 0 0) (hk:t.k=3) (hm:mkk (t::r) 1 [40]=true):
  Calls prog 171 #[.pointer (some ⟨kp,0,none⟩)] w λe w'=>zEL tn lo kp en (.inr (50,pos (t::r) en)) w e w':=by
 obtain ⟨hkl,hlo,h1024⟩:=h.lo;have pZ:AtL (w.alloc (.cells zR0 28)) w.heap.size (rf5 Wt.r0):=AtL.new0 w _ _;have hB0:=zAI (Below.refl _ w) (.cells zR0 28);have h0:=h.below hB0;have hkw:kp<w.heap.size:=by omega
 obtain ⟨g,len,cap,a,c0,c1,c3,hal,ha,t0,t1,t2⟩:=zAl h0;have hge:decide (len<=a)=false:=by simp;omega
 rw [hk] at t0;have K40:∀ n,Calls prog 96 #[.pointer (some ⟨kp,0,none⟩),.int .i64 1,.string ⟨#[40]⟩] ((w.alloc (.cells zR0 28)).drewN n) λe w'=>e=.returned (.bool true)/\(w.alloc (.cells zR0 28)).drewN n=w':=λn=>by
  have:=zAK tn lo kp en _ _ 0 0 1 (by omega) [40] (h0.below (zAG (Below.refl _ _) n));rw [hm] at this;exact this
 clear h;go_enter func171,ntmps171;go_upto_region 1 with fail
 generalize w.alloc (.cells zR0 28)=W0 at *;go_quiet (first | (go_at_call_of 96 (Value.string ⟨#[40]⟩);exact Calls.quiet_of_same (zDE (K40 _))))
 have hb9:Below W0.heap.size W0 (W0.drewN nq):=zAG (Below.refl _ _) nq;have hB9:=zAA hB0 hb9;have hR9:=h0.below hb9;have pZ9:=AtL.below hb9 pZ;generalize W0.drewN nq=W9 at *;have F:=zAw tn lo kp en 50 W9 _ hR9;go_wp2_with fail
 refine F.mono ?_;rintro e w2 ⟨rfl,hR2,hg2⟩;have hG2:w.grownBy w2 (some kp):=zAB (zAC hB9 _) hg2;have pZ2:AtL w2 w.heap.size (rf5 Wt.r0):=pZ9.grown hg2 (λe=>by have:=Option.some.inj e;omega);have tR:w2.there w.heap.size 0 (rf5 Wt.r0).toArray.size:=pZ2.there;go_wp2_with ((with_reducible refine wpList_store_mid ?_ 28 (.tmp 2) (.tmp 51) ?_ (w.heap.size) 0 (rf5 Wt.r0).toArray ?_ ?_ ?_ ?_ ?_ ?_);rfl;rfl;rfl;rfl;exact tR;kernel_rfl;exact zDH _)
 have rR2:=AtL.setAll pZ2 (vs:=rf5 Wt.r0) rfl;refine bodyPost_ret (v:=.agg (rf5 Wt.r0).toArray) (zAF (by rfl) _ _ w.heap.size (rf5 Wt.r0) _ (by rfl) rR2.range underlying28 rfl (by kernel_rfl)) rfl ?_;exact ⟨zAJ hG2 (Nat.le_refl _) _ 0,by decide,rfl,_,hR2.row (zAV w2 w.heap.size _ 0) (λb e=>by have:=Option.some.inj e;omega)⟩
theorem zOG (tn lo kp:Nat) (en:Int) (w:World) (t:Wlx.TV) (r:List Wlx.TV) (h:RS tn lo kp en w (t::r) 0 0) (hk:t.k=3) (hm0:mkk (t::r) 1 [40]=false) (hm:mkk (t::r) 1 [33]=true):
  Calls prog 171 #[.pointer (some ⟨kp,0,none⟩)] w λe w'=>zEL tn lo kp en (.inr (50,pos (t::r) en)) w e w':=by
 obtain ⟨hkl,hlo,h1024⟩:=h.lo;have pZ:AtL (w.alloc (.cells zR0 28)) w.heap.size (rf5 Wt.r0):=AtL.new0 w _ _;have hB0:=zAI (Below.refl _ w) (.cells zR0 28);have h0:=h.below hB0;have hkw:kp<w.heap.size:=by omega
 obtain ⟨g,len,cap,a,c0,c1,c3,hal,ha,t0,t1,t2⟩:=zAl h0;have hge:decide (len<=a)=false:=by simp;omega
 rw [hk] at t0;have K40:∀ n,Calls prog 96 #[.pointer (some ⟨kp,0,none⟩),.int .i64 1,.string ⟨#[40]⟩] ((w.alloc (.cells zR0 28)).drewN n) λe w'=>e=.returned (.bool false)/\(w.alloc (.cells zR0 28)).drewN n=w':=λn=>by
  have:=zAK tn lo kp en _ _ 0 0 1 (by omega) [40] (h0.below (zAG (Below.refl _ _) n));rw [hm0] at this;exact this
 have K33:∀ n,Calls prog 96 #[.pointer (some ⟨kp,0,none⟩),.int .i64 1,.string ⟨#[33]⟩] ((w.alloc (.cells zR0 28)).drewN n) λe w'=>e=.returned (.bool true)/\(w.alloc (.cells zR0 28)).drewN n=w':=λn=>by
  have:=zAK tn lo kp en _ _ 0 0 1 (by omega) [33] (h0.below (zAG (Below.refl _ _) n));rw [hm] at this;exact this
 clear h;go_enter func171,ntmps171;go_upto_region 1 with fail
 generalize w.alloc (.cells zR0 28)=W0 at *;go_quiet (first | (go_at_call_of 96 (Value.string ⟨#[40]⟩);exact Calls.quiet_of_same (zDE (K40 _))) | (go_at_call_of 96 (Value.string ⟨#[33]⟩);exact Calls.quiet_of_same (zDE (K33 _))))
 have hb9:Below W0.heap.size W0 (W0.drewN nq):=zAG (Below.refl _ _) nq;have hB9:=zAA hB0 hb9;have hR9:=h0.below hb9;have pZ9:=AtL.below hb9 pZ;generalize W0.drewN nq=W9 at *;have F:=zAw tn lo kp en 50 W9 _ hR9;go_wp2_with fail
 refine F.mono ?_;rintro e w2 ⟨rfl,hR2,hg2⟩;have hG2:w.grownBy w2 (some kp):=zAB (zAC hB9 _) hg2;have pZ2:AtL w2 w.heap.size (rf5 Wt.r0):=pZ9.grown hg2 (λe=>by have:=Option.some.inj e;omega);have tR:w2.there w.heap.size 0 (rf5 Wt.r0).toArray.size:=pZ2.there;go_wp2_with ((with_reducible refine wpList_store_mid ?_ 28 (.tmp 2) (.tmp 51) ?_ (w.heap.size) 0 (rf5 Wt.r0).toArray ?_ ?_ ?_ ?_ ?_ ?_);rfl;rfl;rfl;rfl;exact tR;kernel_rfl;exact zDH _)
 have rR2:=AtL.setAll pZ2 (vs:=rf5 Wt.r0) rfl;refine bodyPost_ret (v:=.agg (rf5 Wt.r0).toArray) (zAF (by rfl) _ _ w.heap.size (rf5 Wt.r0) _ (by rfl) rR2.range underlying28 rfl (by kernel_rfl)) rfl ?_;exact ⟨zAJ hG2 (Nat.le_refl _) _ 0,by decide,rfl,_,hR2.row (zAV w2 w.heap.size _ 0) (λb e=>by have:=Option.some.inj e;omega)⟩
theorem zOn (u:ByteArray):u=⟨u.data.toList.toArray⟩:=by cases u;simp
theorem zDb (hb:b.data.toList=l) (i:Nat) (c:UInt8) (hc:l[i]? = some c):∃ h:i<b.size,b[i]=c:=by
 subst hb;obtain ⟨h,e⟩:=List.getElem?_eq_some_iff.1 hc;exact ⟨by simpa using h,e⟩
theorem zBC (hb:b.data.toList=l):b.size=l.length:=by subst hb;rfl
theorem zMb (b:ByteArray) (n:Nat):(b.extract 0 n).data.toList=b.data.toList.take n:=by
 rw [Lib.extract_data];simp
theorem zPk (hb:b.data.toList=l):b=⟨l.toArray⟩:=by subst hb;exact zOn b
theorem zGB (hb:b.data.toList=l) (hd:dol l=true):(∃ h:0<b.size,((b[0]).toNat:Int)=36)/\(0:Int)<(b.size:Int)/\(1:Int)<=(b.size:Int)/\(b.extract 1 b.size).data.toList=qS l:=by
 cases l with
 | nil=>cases hd
 | cons c l1 =>
  have hc:c=36:=by simpa [dol] using hd
  obtain ⟨h0,e0⟩:=zDb hb 0 c rfl;refine ⟨⟨h0,by rw [e0,hc];rfl⟩,by omega,by omega,?_⟩;rw [zBz,hb];unfold qS;rw [hd];rfl
theorem zIy (hb:b.data.toList=l) (hd:dol l=false):((¬ (0:Int)<(b.size:Int)/\decide ((0:Int)<(b.size:Int))=false) \/ (∃ h:0<b.size,(0:Int)<(b.size:Int)/\(((b[0]).toNat:Int) == 36)=false))/\b.data.toList=qS l:=by
 refine ⟨?_,by rw [hb];unfold qS;rw [hd];rfl⟩;cases l with
 | nil =>
  have:=zBC hb;simp only [List.length_nil] at this;exact Or.inl ⟨by omega,decide_eq_false (by omega)⟩
 | cons c l1 =>
  right
  obtain ⟨h0,e0⟩:=zDb hb 0 c rfl;refine ⟨h0,by omega,?_⟩;rw [e0];have hc:¬ c=36:=by simpa [dol] using hd
  simp only [beq_eq_false_iff_ne];intro e;exact hc (UInt8.toNat_inj.1 (by
    have:c.toNat=36:=by omega
    rw [this];rfl))
theorem zG9 {Q:List UInt8} (hb:b.data.toList=A++Q) (hQ:∀ c r,Q=c::r->Wpl.isL c=false):(¬ (A.length:Int)<(b.size:Int)/\decide ((A.length:Int)<(b.size:Int))=false) \/ (∃ h:A.length<b.size,(A.length:Int)<(b.size:Int)/\¬ 65<=((b[A.length]).toNat:Int)/\decide (65<=((b[A.length]).toNat:Int))=false) \/ (∃ h:A.length<b.size,(A.length:Int)<(b.size:Int)/\65<=((b[A.length]).toNat:Int)/\decide (((b[A.length]).toNat:Int)<=90)=false):=by
 have hs:=zBC hb;rw [List.length_append] at hs;cases hq:Q with
 | nil=>rw [hq] at hs;left;simp only [List.length_nil] at hs;exact ⟨by omega,decide_eq_false (by omega)⟩
 | cons c q =>
  right
  rw [hq] at hs;simp only [List.length_cons] at hs;obtain ⟨hjb,ejb⟩:=zDb hb A.length c (by rw [hq,List.getElem?_append_right (Nat.le_refl _)];simp);have hn:=hQ c q hq;by_cases l1:65<=((b[A.length]).toNat:Int)
  ·right
   refine ⟨hjb,by omega,l1,?_⟩;simp only [decide_eq_false_iff_not];intro l2;rw [ejb] at l1 l2;rw [isL_iff.2 ⟨by omega,by omega⟩] at hn;cases hn
  ·exact Or.inl ⟨hjb,by omega,l1,by simpa using l1⟩
theorem zLc {d:ByteArray} {D:List UInt8} (hd:d.data.toList=D) (ok:Bool) :
  ((ok && !A.isEmpty && !D.isEmpty && Wpl.isG (D.headD 0))=false/\(ok=false \/ (ok=true/\((A.length:Int) == 0)=true) \/ (ok=true/\((A.length:Int) == 0)=false/\((d.size:Int) == 0)=true) \/ (ok=true/\((A.length:Int) == 0)=false/\((d.size:Int) == 0)=false/\(0:Int)<(d.size:Int)/\∃ h:0<d.size,((d[0]).toNat:Int)<48) \/ (ok=true/\((A.length:Int) == 0)=false/\((d.size:Int) == 0)=false/\(0:Int)<(d.size:Int)/\∃ h:0<d.size,decide (((d[0]).toNat:Int)<48)=false/\(57:Int)<((d[0]).toNat:Int)))) \/
  ((ok && !A.isEmpty && !D.isEmpty && Wpl.isG (D.headD 0))=true/\ok=true/\((A.length:Int) == 0)=false/\((d.size:Int) == 0)=false/\(0:Int)<(d.size:Int)/\∃ h:0<d.size,decide (((d[0]).toNat:Int)<48)=false/\decide ((57:Int)<((d[0]).toNat:Int))=false):=by
 have hs:=zBC hd;cases ok with
 | false=>exact Or.inl ⟨by simp,Or.inl rfl⟩
 | true =>
  cases A with
  | nil=>exact Or.inl ⟨by simp,Or.inr (Or.inl ⟨rfl,rfl⟩)⟩
  | cons x A =>
   have hA:(((x::A).length:Int) == 0)=false:=beq_eq_false_iff_ne.2 (by simp only [List.length_cons];omega);cases D with
   | nil=>exact Or.inl ⟨by simp,Or.inr (Or.inr (Or.inl ⟨rfl,hA,beq_iff_eq.2 (by simp only [List.length_nil] at hs;omega)⟩))⟩
   | cons c q =>
    simp only [List.length_cons] at hs;have hz:((d.size:Int) == 0)=false:=beq_eq_false_iff_ne.2 (by omega);obtain ⟨h0,e0⟩:=zDb hd 0 c rfl;by_cases g1:((d[0]).toNat:Int)<48
    ·refine Or.inl ⟨?_,Or.inr (Or.inr (Or.inr (Or.inl ⟨rfl,hA,hz,by omega,h0,g1⟩)))⟩;have:Wpl.isG c=false:=by
      cases hq:Wpl.isG c with
      | false=>rfl
      | true=>have:=isG_iff.1 hq;rw [e0] at g1;omega
     simp [this]
    ·by_cases g2:(57:Int)<((d[0]).toNat:Int)
     ·refine Or.inl ⟨?_,Or.inr (Or.inr (Or.inr (Or.inr ⟨rfl,hA,hz,by omega,h0,by simpa using g1,g2⟩)))⟩;have:Wpl.isG c=false:=by
       cases hq:Wpl.isG c with
       | false=>rfl
       | true=>have:=isG_iff.1 hq;rw [e0] at g2;omega
      simp [this]
     ·refine Or.inr ⟨?_,rfl,hA,hz,by omega,h0,by simpa using g1,by simpa using g2⟩;rw [e0] at g1 g2;have:Wpl.isG c=true:=isG_iff.2 ⟨by omega,by omega⟩;simp [this]
theorem zNp (p:UInt8->Bool) (l:List UInt8) (c:UInt8) (r:List UInt8) (h:l.dropWhile p=c::r):p c=false:=by
 induction l with
 | nil=>cases h
 | cons x t ih =>
  rw [List.dropWhile_cons] at h;split at h
  ·exact ih h
  ·rename_i hp
   have:=(List.cons.inj h).1;rw [<-this];simpa using hp
theorem zOQ (tn lo kp:Nat) (en:Int) (w:World) (t:Wlx.TV) (r:List Wlx.TV) (h:RS tn lo kp en w (t::r) 0 0) (hk:t.k=3) (hm0:mkk (t::r) 1 [40]=false) (hm:mkk (t::r) 1 [33]=false) (hlen:t.t.length<=1024) (RES:(Wt.Rf × List Wlx.TV) ⊕ (Int × Int)) (hres:RES=match rw1 t.t with | some a=>.inl (a,r) | none=>.inr (50,pos (t::r) en)) :
  Calls prog 171 #[.pointer (some ⟨kp,0,none⟩)] w λe w'=>zEL tn lo kp en RES w e w':=by
 obtain ⟨hkl,hlo,h1024⟩:=h.lo;have pZ:AtL (w.alloc (.cells zR0 28)) w.heap.size (rf5 Wt.r0):=AtL.new0 w _ _;have hB0:=zAI (Below.refl _ w) (.cells zR0 28);have h0:=h.below hB0;have hkw:kp<w.heap.size:=by omega
 obtain ⟨g,len,cap,a,c0,c1,c3,hal,ha,t0,t1,t2⟩:=zAl h0;have hge:decide (len<=a)=false:=by simp;omega
 rw [hk] at t0;have K40:∀ n,Calls prog 96 #[.pointer (some ⟨kp,0,none⟩),.int .i64 1,.string ⟨#[40]⟩] ((w.alloc (.cells zR0 28)).drewN n) λe w'=>e=.returned (.bool false)/\(w.alloc (.cells zR0 28)).drewN n=w':=λn=>by
  have:=zAK tn lo kp en _ _ 0 0 1 (by omega) [40] (h0.below (zAG (Below.refl _ _) n));rw [hm0] at this;exact this
 have K33:∀ n,Calls prog 96 #[.pointer (some ⟨kp,0,none⟩),.int .i64 1,.string ⟨#[33]⟩] ((w.alloc (.cells zR0 28)).drewN n) λe w'=>e=.returned (.bool false)/\(w.alloc (.cells zR0 28)).drewN n=w':=λn=>by
  have:=zAK tn lo kp en _ _ 0 0 1 (by omega) [33] (h0.below (zAG (Below.refl _ _) n));rw [hm] at this;exact this
 obtain ⟨A,hA⟩:∃ A,qA t.t=A:=⟨_,rfl⟩
 obtain ⟨Q,hQ⟩:∃ Q,qD0 t.t=Q:=⟨_,rfl⟩
 obtain ⟨fc,hfc⟩:∃ fc,dol t.t=fc:=⟨_,rfl⟩
 obtain ⟨fr,hfr⟩:∃ fr,dol Q=fr:=⟨_,rfl⟩
 have hSA:qS t.t=A++Q:=by rw [<-hA,<-hQ];exact (List.takeWhile_append_dropWhile).symm
 have HAL:Hid (A.all Wpl.isL=true):=by show _=_;rw [<-hA];exact zC0 _ _
 have HQL:Hid (∀ c r,Q=c::r->Wpl.isL c=false):=λc r e=>zNp _ (qS t.t) c r (by rw [<-e,<-hQ];rfl)
 have lS:(qS t.t).length<=t.t.length:=by unfold qS;split <;> simp
 have lAQ:A.length+Q.length<=1024:=by rw [hSA,List.length_append] at lS;omega
 have lD:(qS Q).length<=Q.length:=by unfold qS;split <;> simp
 have HR0:Hid (RES=if Wpl.rdOk (A++qS Q) && !A.isEmpty && !(qS Q).isEmpty && Wpl.isG ((qS Q).headD 0) then .inl (⟨⟨#[]⟩,Wpl.rdR (A++qS Q),Wpl.rdC (A++qS Q),fr,fc⟩,r) else .inr (50,pos (t::r) en)):=by
  have hD:qD t.t=qS Q:=by rw [<-hQ];rfl
  show _=_
  rw [hres,<-zPt];unfold qW;rw [hA,hD,hQ,hfr,hfc];by_cases hc:(Wpl.rdOk (A++qS Q) && !A.isEmpty && !(qS Q).isEmpty && Wpl.isG ((qS Q).headD 0))=true
  ·rw [if_pos hc,if_pos hc]
  ·rw [if_neg hc,if_neg hc]
 have HRD:Hid (∀ s w,s.length<=9223372036854774000->Calls prog 190 #[.string ⟨s.toArray⟩] w λe w'=>e=.returned (RD s)/\w=w'):=λs w hs=>zF7 s w hs
 obtain ⟨b,hb⟩:∃ b:ByteArray,(⟨t.t.toArray⟩:ByteArray)=b:=⟨_,rfl⟩
 have hbl:b.data.toList=t.t:=by rw [<-hb]
 rw [hb] at t1;have hbs:=zBC hbl;have hbi:(b.size:Int)<=1024:=by omega
 have HY:Hid (fc=true->(∃ h:0<b.size,((b[0]).toNat:Int)=36)/\(0:Int)<(b.size:Int)/\(1:Int)<=(b.size:Int)/\(b.extract 1 b.size).data.toList=A++Q):=λh=>by
  have:=zGB hbl (hfc.trans h);rw [hSA] at this;exact this
 have HN:Hid (fc=false->((¬ (0:Int)<(b.size:Int)/\decide ((0:Int)<(b.size:Int))=false) \/ (∃ h:0<b.size,(0:Int)<(b.size:Int)/\(((b[0]).toNat:Int) == 36)=false))/\b.data.toList=A++Q):=λh=>by
  have:=zIy hbl (hfc.trans h);rw [hSA] at this;exact this
 have HFR:Hid (dol Q=fr):=hfr;clear hres hA hQ hbl hbs hb hSA lS h hfc hfr;go_enter func171,ntmps171;go_upto_region 1 with fail
 generalize w.alloc (.cells zR0 28)=W0 at *;go_quiet (first | (go_at_call_of 96 (Value.string ⟨#[40]⟩);exact Calls.quiet_of_same (zDE (K40 _))) | (go_at_call_of 96 (Value.string ⟨#[33]⟩);exact Calls.quiet_of_same (zDE (K33 _))))
 have hb9:Below W0.heap.size W0 (W0.drewN nq):=zAG (Below.refl _ _) nq;have hB9:=zAA hB0 hb9;have hR9:=h0.below hb9;have pZ9:=AtL.below hb9 pZ;have c0':=zAM hb9 c0;have c1':=zAM hb9 c1;have t1':=zAM hb9 t1;generalize W0.drewN nq=W9 at *;clear c0 c1 c3 t0 t1 t2 K40 K33 hb9 pZ h0 hB0;go_wp2_with fail
 go_quiet (fail)
 have hb8:Below W9.heap.size W9 (W9.drewN nq):=zAG (Below.refl _ _) nq;have hR8:=(hR9.below hb8).below (zAI (Below.refl _ _) (.cells zR0 28));have pZ8:=(AtL.below hb8 pZ9).alloc (.cells zR0 28);have pA8:AtL ((W9.drewN nq).alloc (.cells zR0 28)) W9.heap.size (rf5 Wt.r0):=AtL.new _ _ (by simp) _;have hB7:=zAI (zAA hB9 hb8) (.cells zR0 28);have hka:w.heap.size<W9.heap.size:=pZ9.1;clear c0' c1' t1' hb8 hB9 hR9 pZ9;go_upto_region 6 with fail
 obtain ⟨ka,hkae⟩:∃ ka,W9.heap.size=ka:=⟨_,rfl⟩
 rw [hkae] at pA8 hka ⊢;generalize (W9.drewN nq).alloc (.cells zR0 28)=W at *;clear hkae;go_cut [70] from 63 to 69 (λv wx=>v=.bool fc/\W=wx)
 case first =>
  cases fc with
  | true =>
   obtain ⟨⟨h0b,e36⟩,hsz,hone,-⟩:=HY.out rfl;go_wp2_with fail
   go_meet
   case rel=>exact ⟨rfl,rfl⟩
  | false =>
   rcases (HN.out rfl).1 with ⟨y1,y2⟩ | ⟨h0b,y1,y2⟩
   all_goals
    go_wp2_with fail
    go_meet
    case rel=>exact ⟨rfl,rfl⟩
 case rest =>
  obtain ⟨rfl,rfl⟩:=hcut;go_upto_if 70 with fail
  go_cut [3] from 71 to 73 (λv wx=>∃ b1:ByteArray,v=.string b1/\Hid (b1.data.toList=A++Q)/\AtL wx ka (rf5 ⟨⟨#[]⟩,0,0,false,fc⟩)/\AtL wx w.heap.size (rf5 Wt.r0)/\RS tn lo kp en wx (t::r) 0 0/\Below w.heap.size w wx)
  case first =>
   cases fc with
   | true =>
    obtain ⟨-,hsz,hone,hex⟩:=HY.out rfl;have pA7:=pA8.set 4 (.bool true);have pZ7:=pZ8.far (j:=ka) (by omega) 4 (.bool true);have hR7:=hR8.row (zAQ W ka 4 (.bool true)) (λb e=>by have:=Option.some.inj e;omega);have hB6:=hB7.setCell (p:=⟨ka,4,none⟩) (by show w.heap.size<=ka;omega) (.bool true);have x4:=pA8.2.1 4 _ rfl;have f4:=pA8.2.2 4 (by show 4<5;omega);clear pA8 pZ8 hR8 hB7;go_wp2_with fail
    go_meet
    case rel=>exact ⟨_,rfl,hex,pA7,pZ7,hR7,hB6⟩
   | false =>
    have hex:=(HN.out rfl).2;go_wp2_with fail
    go_meet
    case rel=>exact ⟨_,rfl,hex,pA8,pZ8,hR8,hB7⟩
  case rest =>
   obtain ⟨b1,rfl,HS1,pA7,pZ7,hR7,hB6⟩:=hcut;clear HY HN pA8 pZ8 hR8 hB7;generalize wc=W1 at *;have HSL:=zBC HS1.out;have hsl:(b1.size:Int)=(A.length:Int)+(Q.length:Int):=by rw [HSL,List.length_append];omega
   clear HSL;go_upto_block 0 with fail
   go_cut [5] from 74 to 91 (λv wx=>v=.int .i64 (A.length:Int)/\W1=wx)
   case first =>
    go_wp2_with fail
    go_loopg [5] (A.length) (λgk x wr=>∃ j:Nat,x=.int .i64 j/\gk=A.length - j/\j<=A.length/\W1=wr)
    case atStart=>exact ⟨0,rfl,rfl,Nat.zero_le _,rfl⟩
    case round =>
     obtain ⟨j,rfl,hg,hj,rfl⟩:=hrel;by_cases hjl:j<A.length
     ·have hli:(j:Int)<(b1.size:Int):=by omega
      obtain ⟨hjb,ejb⟩:=zDb HS1.out j A[j] (by rw [List.getElem?_append_left hjl,List.getElem?_eq_getElem hjl]);have hL:=isL_iff.1 (List.all_eq_true.1 HAL.out A[j] (List.getElem_mem hjl));rw [<-ejb] at hL;have l1:65<=((b1[j]).toNat:Int):=by omega
      have l2:((b1[j]).toNat:Int)<=90:=by omega
      clear hL ejb;go_wp2_with fail
      go_roundg (A.length - (j+1))
      case rel=>exact ⟨j+1,by simp,rfl,hjl,rfl⟩
      case measure=>omega
     ·obtain rfl:j=A.length:=by omega
      rcases zG9 HS1.out HQL.out with ⟨y1,y2⟩ | ⟨hjb,y0,y1,y2⟩ | ⟨hjb,y0,y1,y2⟩
      all_goals
       go_wp2_with fail
       go_meet
       case rel=>exact ⟨rfl,rfl⟩
   case rest =>
    obtain ⟨rfl,rfl⟩:=hcut;have hsub:(A.length:Int)<=(b1.size:Int):=by omega
    have HD0:Hid ((b1.extract A.length b1.size).data.toList=Q):=by show _=_;rw [zBz,HS1.out,List.drop_left]
    have HA0:Hid ((b1.extract 0 A.length).data.toList=A):=by show _=_;rw [zMb,HS1.out,List.take_left]
    go_upto_region 13 with fail
    obtain ⟨d0,hd0⟩:∃ d0,b1.extract A.length b1.size=d0:=⟨_,rfl⟩
    rw [hd0] at HD0 ⊢;clear hd0;have hd1:(d0.size:Int)<=1024:=by have:=zBC HD0.out;omega
    go_cut [102] from 95 to 101 (λv wx=>v=.bool fr/\W1=wx)
    case first =>
     cases fr with
     | true =>
      obtain ⟨⟨h0b,e36⟩,hsz,hone,-⟩:=zGB HD0.out HFR.out;go_wp2_with fail
      go_meet
      case rel=>exact ⟨rfl,rfl⟩
     | false =>
      rcases (zIy HD0.out HFR.out).1 with ⟨y1,y2⟩ | ⟨h0b,y1,y2⟩
      all_goals
       go_wp2_with fail
       go_meet
       case rel=>exact ⟨rfl,rfl⟩
    case rest =>
     obtain ⟨rfl,rfl⟩:=hcut;go_upto_if 102 with fail
     go_cut [6] from 103 to 105 (λv wx=>∃ d1:ByteArray,v=.string d1/\Hid (d1.data.toList=qS Q)/\AtL wx ka (rf5 ⟨⟨#[]⟩,0,0,fr,fc⟩)/\AtL wx w.heap.size (rf5 Wt.r0)/\RS tn lo kp en wx (t::r) 0 0/\Below w.heap.size w wx)
     case first =>
      cases fr with
      | true =>
       obtain ⟨-,hsz,hone,hex⟩:=zGB HD0.out HFR.out;have pA6:=pA7.set 3 (.bool true);have pZ6:=pZ7.far (j:=ka) (by omega) 3 (.bool true);have hR6:=hR7.row (zAQ W1 ka 3 (.bool true)) (λb e=>by have:=Option.some.inj e;omega);have hB5:=hB6.setCell (p:=⟨ka,3,none⟩) (by show w.heap.size<=ka;omega) (.bool true);have x3:=pA7.2.1 3 _ rfl;have f3:=pA7.2.2 3 (by show 3<5;omega);clear pA7 pZ7 hR7 hB6;go_wp2_with fail
       go_meet
       case rel=>exact ⟨_,rfl,hex,pA6,pZ6,hR6,hB5⟩
      | false =>
       have hex:=(zIy HD0.out HFR.out).2;go_wp2_with fail
       go_meet
       case rel=>exact ⟨_,rfl,hex,pA7,pZ7,hR7,hB6⟩
     case rest =>
      obtain ⟨d1,rfl,HD1,pA6,pZ6,hR6,hB5⟩:=hcut;clear HD0 hd1 pA7 pZ7 hR7 hB6 HFR;generalize wc=W2 at *;have hd1i:(d1.size:Int)<=1024:=by have:=zBC HD1.out;omega
      have CR:Calls prog 190 #[.string (b1.extract 0 A.length++d1)] W2 λe w'=>e=.returned (.tuple #[.int .i64 (Wpl.rdR (A++qS Q)),.int .i64 (Wpl.rdC (A++qS Q)),.bool (Wpl.rdOk (A++qS Q))])/\W2=w':=by
       rw [show b1.extract 0 A.length++d1=⟨(A++qS Q).toArray⟩ by rw [zPk HA0.out,zPk HD1.out];exact zBH A (qS Q)];exact HRD.out (A++qS Q) _ (by rw [List.length_append];omega)
      have hcat:¬ 9223372036854775807<(b1.extract 0 A.length).size+d1.size:=by have:=zBC HA0.out;omega
      have hcat2:¬ 9223372036854775807<A.length+d1.size:=by omega
      have HCE:Hid _:=zLc (A:=A) HD1.out (Wpl.rdOk (A++qS Q));generalize Wpl.rdR (A++qS Q)=rr at *;generalize Wpl.rdC (A++qS Q)=rc at *;generalize Wpl.rdOk (A++qS Q)=ok at *;clear HD1;go_wp2_with fail
      refine CR.mono ?_;rintro e w5 ⟨rfl,rfl⟩;clear CR hcat hcat2;obtain ⟨cd,hcd⟩:∃ cd,(ok && !A.isEmpty && !(qS Q).isEmpty && Wpl.isG ((qS Q).headD 0))=cd:=⟨_,rfl⟩
      rw [hcd] at HCE HR0;go_upto_region 17 with fail
      go_cut [136] from 116 to 135 (λv wx=>v=.bool (!cd)/\W2=wx)
      case first =>
       rcases HCE.out with ⟨rfl,hf⟩ | ⟨rfl,rfl,y1,y2,y3,hdz,y4,y5⟩
       ·rcases hf with rfl | ⟨rfl,y1⟩ | ⟨rfl,y1,y2⟩ | ⟨rfl,y1,y2,y3,hdz,y4⟩ | ⟨rfl,y1,y2,y3,hdz,y4,y5⟩
        all_goals
         go_wp2_with fail
         go_meet
         case rel=>exact ⟨by first | rfl | (rw [decide_eq_true y5];rfl) | (rw [y5];rfl),rfl⟩
       ·go_wp2_with fail
        go_meet
        case rel=>exact ⟨by first | rfl | (rw [decide_eq_true y5];rfl) | (rw [y5];rfl),rfl⟩
      case rest =>
       obtain ⟨rfl,rfl⟩:=hcut;clear HCE hcd;cases cd with
       | false =>
        have HRX:Hid (RES=.inr (50,pos (t::r) en)):=HR0.out;clear HR0;have F:=zAw tn lo kp en 50 W2 _ hR6;go_wp2_with fail
        refine F.mono ?_;rintro e w2 ⟨rfl,hR2,hg2⟩;have hG2:w.grownBy w2 (some kp):=zAB (zAC hB5 _) hg2;have pZ2:AtL w2 w.heap.size (rf5 Wt.r0):=pZ6.grown hg2 (λe=>by have:=Option.some.inj e;omega);have tR:w2.there w.heap.size 0 (rf5 Wt.r0).toArray.size:=pZ2.there;go_wp2_with ((with_reducible refine wpList_store_mid ?_ 28 (.tmp 2) (.tmp 139) ?_ (w.heap.size) 0 (rf5 Wt.r0).toArray ?_ ?_ ?_ ?_ ?_ ?_);rfl;rfl;rfl;rfl;exact tR;kernel_rfl;exact zDH _)
        have rR2:=AtL.setAll pZ2 (vs:=rf5 Wt.r0) rfl;refine bodyPost_ret (v:=.agg (rf5 Wt.r0).toArray) (zAF (by rfl) _ _ w.heap.size (rf5 Wt.r0) _ (by rfl) rR2.range underlying28 rfl (by kernel_rfl)) rfl ?_;rw [HRX.out];exact ⟨zAJ hG2 (Nat.le_refl _) _ 0,by decide,rfl,_,hR2.row (zAV w2 w.heap.size _ 0) (λb e=>by have:=Option.some.inj e;omega)⟩
       | true =>
        have HRX:Hid (RES=.inl (⟨⟨#[]⟩,rr,rc,fr,fc⟩,r)):=HR0.out;clear HR0;have pA5:=(pA6.set 1 (.int .i64 rr)).set 2 (.int .i64 rc);have pZ5:=(pZ6.far (j:=ka) (by omega) 1 (.int .i64 rr)).far (j:=ka) (by omega) 2 (.int .i64 rc);have hR5:=(hR6.row (zAQ W2 ka 1 (.int .i64 rr)) (λb e=>by have:=Option.some.inj e;omega)).row (zAQ _ ka 2 (.int .i64 rc)) (λb e=>by have:=Option.some.inj e;omega);have hB4:=(hB5.setCell (p:=⟨ka,1,none⟩) (by show w.heap.size<=ka;omega) (.int .i64 rr)).setCell (p:=⟨ka,2,none⟩) (by show w.heap.size<=ka;omega) (.int .i64 rc);have x1:=pA6.2.1 1 _ rfl;have x2:=pA6.2.1 2 _ rfl;have f1:=pA6.2.2 1 (by show 1<5;omega);have f2:=pA6.2.2 2 (by show 2<5;omega);clear pA6 pZ6 hR6 hB5;go_upto_region 22 with fail
        clear x1 x2 f1 f2;generalize (W2.setCell ⟨ka,1,none⟩ (.int .i64 rr)).setCell ⟨ka,2,none⟩ (.int .i64 rc)=W5 at *;obtain ⟨a5,ha5,c1,z1,hR,hG⟩:=zAg hR5;have pA4:=pA5.far (j:=kp) (by omega) 1 (.int .i64 ((a5:Int)+1));have pZ4:=pZ5.far (j:=kp) (by omega) 1 (.int .i64 ((a5:Int)+1));have hGx:w.grownBy (W5.setCell ⟨kp,1,none⟩ (.int .i64 ((a5:Int)+1))) (some kp):=zAB (zAC hB4 _) hG;clear hG hR5 hB4 pA5 pZ5;go_upto_region 23 with fail
        clear c1 z1;generalize W5.setCell ⟨kp,1,none⟩ (.int .i64 ((a5:Int)+1))=W6 at *;have rA:W6.rangeAt ka 0 (rf5 ⟨⟨#[]⟩,rr,rc,fr,fc⟩):=AtL.range pA4;have tR:W6.there w.heap.size 0 (rf5 ⟨⟨#[]⟩,rr,rc,fr,fc⟩).toArray.size:=pZ4.there;go_wp2_with (first
         | ((with_reducible refine wpList_load_mid (cs:=rf5 ⟨⟨#[]⟩,rr,rc,fr,fc⟩) ?_ 28 (.tmp 4) ?_ (ka) 0 ?_ _ ?_ underlying28 ?_ ?_ ?_);rfl;rfl;rfl;exact rA;rfl;kernel_rfl)
         | ((with_reducible refine wpList_store_mid ?_ 28 (.tmp 2) (.tmp 151) ?_ (w.heap.size) 0 (rf5 ⟨⟨#[]⟩,rr,rc,fr,fc⟩).toArray ?_ ?_ ?_ ?_ ?_ ?_);rfl;rfl;rfl;rfl;exact tR;kernel_rfl;exact zDH _))
        have rR2:=AtL.setAll pZ4 (vs:=rf5 ⟨⟨#[]⟩,rr,rc,fr,fc⟩) rfl;refine bodyPost_ret (v:=.agg (rf5 ⟨⟨#[]⟩,rr,rc,fr,fc⟩).toArray) (zAF (by rfl) _ _ w.heap.size (rf5 ⟨⟨#[]⟩,rr,rc,fr,fc⟩) _ (by rfl) rR2.range underlying28 rfl (by kernel_rfl)) rfl ?_;rw [HRX.out];exact ⟨zAJ hGx (Nat.le_refl _) _ 0,rfl,hR.row (zAV W6 w.heap.size _ 0) (λb e=>by have:=Option.some.inj e;omega)⟩
theorem zBn (ts:List Wlx.TV) (m:List UInt8):mkk ts 1 m=fol ts m:=by
 match ts with
 | []=>rfl
 | [t]=>rfl
 | t::u::r=>rfl
def CL (tn lo kp:Nat) (en:Int) (ts:List Wlx.TV) (w:World) (e:Ending) (w':World):Prop:=w.grownBy w' (some kp)/\∃ (a:Wt.Rf) (ts2:List Wlx.TV) (c p:Int),e=.returned (.agg (rf5 a).toArray)/\RS tn lo kp en w' ts2 c p/\((c=0/\p=0/\pc ts en=.inl (a,ts2)) \/ (¬ c=0/\pc ts en=.inr (c,p)))
theorem zCc (tn lo kp:Nat) (en:Int) (ts:List Wlx.TV) (w:World) (hok:∀ t ∈ ts,zAP t) (h:RS tn lo kp en w ts 0 0) :
  Calls prog 171 #[.pointer (some ⟨kp,0,none⟩)] w λe w'=>CL tn lo kp en ts w e w':=by
 have key:∀ (R:(Wt.Rf × List Wlx.TV) ⊕ (Int × Int)),pc ts en=R->(Calls prog 171 #[.pointer (some ⟨kp,0,none⟩)] w λe w'=>zEL tn lo kp en R w e w')->Calls prog 171 #[.pointer (some ⟨kp,0,none⟩)] w λe w'=>CL tn lo kp en ts w e w':=by
  intro R hR C;refine C.mono ?_;rintro e w' ⟨hg,hp⟩;cases R with
  | inl q=>obtain ⟨a,r⟩:=q;exact ⟨hg,a,r,0,0,hp.1,hp.2,Or.inl ⟨rfl,rfl,hR⟩⟩
  | inr q=>obtain ⟨c,p⟩:=q;obtain ⟨hc,e1,t2,hr⟩:=hp;exact ⟨hg,_,t2,c,p,e1,hr,Or.inr ⟨hc,hR⟩⟩
 cases ts with
 | nil=>exact key _ (by unfold pc;rw [if_neg (by rw [zD3];decide)]) (zNg tn lo kp en w h)
 | cons t r =>
  have hh:hd (t::r) en=t:=rfl;by_cases hk:t.k=3
  ·cases hm0:mkk (t::r) 1 [40] with
   | true=>exact key _ (by unfold pc;rw [hh,if_pos hk,<-zBn,hm0];rfl) (zOV tn lo kp en w t r h hk hm0)
   | false =>
    cases hm:mkk (t::r) 1 [33] with
    | true=>exact key _ (by unfold pc;rw [hh,if_pos hk,<-zBn,hm0,<-zBn,hm];rfl) (zOG tn lo kp en w t r h hk hm0 hm)
    | false =>
     refine key _ ?_ (zOQ tn lo kp en w t r h hk hm0 hm (hok t (by simp)).1 _ rfl);unfold pc;rw [hh,if_pos hk,<-zBn,hm0,<-zBn,hm];rfl
  ·exact key _ (by unfold pc;rw [hh,if_neg hk]) (zOX tn lo kp en w t r h hk)
theorem zSK (k:Int) (a:Wt.Rf) (w:World):(Instr.build 30 #[(0,.int .i64 k),(5,.agg (rf5 a).toArray)]).run prog w=.ok (.agg (zAD ⟨k,Wt.v0,0,⟨#[]⟩,0,a,Wt.r0⟩).toArray) w:=by kernel_rfl
theorem zDi {ops:Array Oper} {rest:List Oper} {op:Oper} {a:Act} {w:World} {Q:Exit->Act->World->Prop} (hgd:op.guard=none) (x y:Operand) (ho:op.op=.build 30 #[(0,x),(5,y)]) (k:Int) (ra:Wt.Rf) (hx:a.eval x=.int .i64 k) (hy:a.eval y=.agg (rf5 ra).toArray)
  (h:wpList prog ops Q rest (a.put op.dst (.agg (zAD ⟨k,Wt.v0,0,⟨#[]⟩,0,ra,Wt.r0⟩).toArray)) w):wpList prog ops Q (op::rest) a w:=by
 refine wpList_plain hgd λ_ hK=>?_
 unfold Oper.wp execOp;simp only [ho,List.map_toArray,List.map_cons,List.map_nil,hx,hy,Sem.run_bind,Sem.run_pure,Result.andThen_ok,zSK];exact hK _ _ h
theorem zBJ (h:mkk ts 0 m=false):tk ts m=none:=by
 cases ts with
 | nil=>rfl
 | cons t r =>
  have h':zCX t m=false:=h;simp [tk,h']
theorem zB4 (h:mkk ts 0 m=true):∃ t r,ts=t::r/\tk ts m=some r:=by
 cases ts with
 | nil=>cases h
 | cons t r =>
  have h':zCX t m=true:=h;exact ⟨t,r,rfl,by simp [tk,h']⟩
theorem zN7 (tn lo kp:Nat) (en:Int) (w:World) (t:Wlx.TV) (r:List Wlx.TV) (hok:∀ x ∈ t::r,zAP x) (h:RS tn lo kp en w (t::r) 0 0) (hm0:mkk (t::r) 1 [40]=false) (hm1:mkk (t::r) 1 [33]=false) (ht1:¬ t.t=[84,82,85,69]) (ht2:¬ t.t=[70,65,76,83,69]) (RES:PR) (hres:RES=pcs ⟨#[]⟩ (t::r) en) :
  Calls prog 148 #[.pointer (some ⟨kp,0,none⟩),.string ⟨t.t.toArray⟩] w λe w'=>QPost tn lo kp en (t::r).length RES w e w':=by
 obtain ⟨hkl,hlo,h1024⟩:=h.lo;have hkw:kp<w.heap.size:=by omega
 have HRES:Hid (RES=pcs ⟨#[]⟩ (t::r) en):=hres;have M1:=zAK tn lo kp en w _ 0 0 1 (by omega) [40] h;have M2:=zAK tn lo kp en w _ 0 0 1 (by omega) [33] h;rw [hm0] at M1;rw [hm1] at M2;have e1:(t.t == [84,82,85,69])=false:=by simpa using ht1
 have e2:(t.t == [70,65,76,83,69])=false:=by simpa using ht2
 have hRW:RS tn lo kp en w (t::r) 0 0:=h;have hGW:w.grownBy w (some kp):=World.grownBy.refl _ _;have hok1:=hok;obtain ⟨ts1,hts1⟩:∃ ts1,t::r=ts1:=⟨_,rfl⟩
 rw [hts1] at hRW hok1 HRES ⊢;clear hm0 hm1 hres h hts1;generalize t.t=tt at *;go_enter func148,ntmps148;go_wp2_with fail
 refine M1.mono ?_;rintro e w1 ⟨rfl,rfl⟩;go_wp2_with fail
 refine M2.mono ?_;rintro e w1 ⟨rfl,rfl⟩;clear M1 M2;go_upto_region 16 with fail
 have C1:=zCc tn lo kp en ts1 w hok1 hRW;go_wp2_with fail
 refine C1.mono ?_;rintro e w1 ⟨hg1,a1,u1,c1,p1,rfl,hR1,hL1⟩;have hG1:w.grownBy w1 (some kp):=zAB hGW hg1;have hs1:=hG1.size;obtain ⟨RA,hRA⟩:∃ RA:Wt.Rf,(⟨⟨#[]⟩,a1.r,a1.c,a1.fr,a1.fc⟩:Wt.Rf)=RA:=⟨_,rfl⟩
 have pR0:AtL (w1.alloc (.cells zR0 28)) w1.heap.size (rf5 Wt.r0):=AtL.new0 _ _ _;have tR0:(w1.alloc (.cells zR0 28)).there w1.heap.size 0 (rf5 a1).toArray.size:=pR0.there;have pR1:AtL ((w1.alloc (.cells zR0 28)).setCells w1.heap.size 0 (rf5 a1)) w1.heap.size (rf5 a1):=pR0.setAll rfl;have hb1:Below w1.heap.size w1 ((w1.alloc (.cells zR0 28)).setCells w1.heap.size 0 (rf5 a1)):=zAu (zAI (Below.refl _ w1) _) (Nat.le_refl _) _ 0;clear C1 hg1 pR0 hRW hGW;go_upto_region 17 with ((with_reducible refine wpList_store_mid ?_ 28 (.tmp 8) (.tmp 57) ?_ (w1.heap.size) 0 (rf5 a1).toArray ?_ ?_ ?_ ?_ ?_ ?_);rfl;rfl;rfl;rfl;exact tR0;kernel_rfl;exact zDH _)
 generalize (w1.alloc (.cells zR0 28)).setCells w1.heap.size 0 (rf5 a1).toArray.toList=W2 at *;have pR2:AtL (W2.setCell ⟨w1.heap.size,0,none⟩ (.string ⟨#[]⟩)) w1.heap.size (rf5 RA):=by rw [<-hRA];exact pR1.set 0 (.string ⟨#[]⟩)
 have hb2:=hb1.setCell (p:=⟨w1.heap.size,0,none⟩) (Nat.le_refl _) (.string ⟨#[]⟩);have x0:=pR1.2.1 0 _ rfl;have f0:=pR1.2.2 0 (by show 0<5;omega);have HRA:Hid (⟨⟨#[]⟩,a1.r,a1.c,a1.fr,a1.fc⟩=RA):=hRA;clear tR0 pR1 hb1 hRA;go_upto_region 18 with fail
 clear x0 f0;generalize W2.setCell ⟨w1.heap.size,0,none⟩ (.string ⟨#[]⟩)=W3 at *;have rR:=AtL.range pR2;have pN0:AtL (W3.alloc (.cells zN0 30)) W3.heap.size (zAD ⟨0,Wt.v0,0,⟨#[]⟩,0,Wt.r0,Wt.r0⟩):=AtL.new0 _ _ _;have tN0:(W3.alloc (.cells zN0 30)).there W3.heap.size 0 (zAD (⟨2,Wt.v0,0,⟨#[]⟩,0,RA,Wt.r0⟩:Wt.Nd)).toArray.size:=pN0.there;have pN:AtL ((W3.alloc (.cells zN0 30)).setCells W3.heap.size 0 (zAD (⟨2,Wt.v0,0,⟨#[]⟩,0,RA,Wt.r0⟩:Wt.Nd))) W3.heap.size (zAD ⟨2,Wt.v0,0,⟨#[]⟩,0,RA,Wt.r0⟩):=pN0.setAll rfl;have hz3:w1.heap.size<=W3.heap.size:=hb2.size;have hb3:Below w1.heap.size w1 ((W3.alloc (.cells zN0 30)).setCells W3.heap.size 0 (zAD (⟨2,Wt.v0,0,⟨#[]⟩,0,RA,Wt.r0⟩:Wt.Nd))):=zAu (zAI hb2 _) hz3 _ 0;clear pN0 pR2 hb2;go_upto_region 19 with (first
  | ((with_reducible refine wpList_load_mid (cs:=rf5 RA) ?_ 28 (.tmp 8) ?_ (w1.heap.size) 0 ?_ _ ?_ underlying28 ?_ ?_ ?_);rfl;rfl;rfl;exact rR;rfl;kernel_rfl)
  | ((with_reducible refine zDi ?_ (.const (.int .i64 2)) (.tmp 60) ?_ 2 RA ?_ ?_ ?_);rfl;rfl;rfl;rfl)
  | ((with_reducible refine wpList_store_mid ?_ 30 (.tmp 9) (.tmp 61) ?_ (W3.heap.size) 0 (zAD (⟨2,Wt.v0,0,⟨#[]⟩,0,RA,Wt.r0⟩:Wt.Nd)).toArray ?_ ?_ ?_ ?_ ?_ ?_);rfl;rfl;rfl;rfl;exact tN0;kernel_rfl;exact zAc _))
 generalize (W3.alloc (.cells zN0 30)).setCells W3.heap.size 0 (zAD (⟨2,Wt.v0,0,⟨#[]⟩,0,RA,Wt.r0⟩:Wt.Nd)).toArray.toList=W4 at *;obtain ⟨kn,hkn⟩:∃ kn,W3.heap.size=kn:=⟨_,rfl⟩
 rw [hkn] at pN hz3 ⊢;clear rR tN0 hkn;have hR4:=hR1.below hb3;have hG4:w.grownBy W4 (some kp):=zAB hG1 (zAC hb3 _);have M:=zAK tn lo kp en W4 _ c1 p1 0 (by omega) [58] hR4;clear hR1 hG1 hb3;have hsz4:=hG4.size;cases hbm:(decide (c1=0) && mkk u1 0 [58]) with
 | false =>
  rw [hbm] at M;have rN:=AtL.range pN;have HQ:Hid (RES=pcs ⟨#[]⟩ ts1 en):=HRES.out;go_wp2_with fail
  refine M.mono ?_;rintro e w5 ⟨rfl,rfl⟩;clear M;go_wp2_with (first
   | ((with_reducible refine wpList_load_mid (cs:=zAD (⟨2,Wt.v0,0,⟨#[]⟩,0,RA,Wt.r0⟩:Wt.Nd)) ?_ 30 (.tmp 9) ?_ (kn) 0 ?_ _ ?_ underlying30 ?_ ?_ ?_);rfl;rfl;rfl;exact rN;rfl;kernel_rfl)
   | ((with_reducible refine zAR ?_ (.tmp 76) ?_ (⟨2,Wt.v0,0,⟨#[]⟩,0,RA,Wt.r0⟩:Wt.Nd) ?_ ?_);rfl;rfl;rfl)
   | (at_builtin;refine zAL (by rfl) (.tmp 75) (.tmp 77) (by rfl) _ w.heap.size (by simp only [World.size_alloc];omega) _ [] (by rfl) (World.ownsRow_nil _ _ _ _) _ _ [(⟨2,Wt.v0,0,⟨#[]⟩,0,RA,Wt.r0⟩:Wt.Nd)] (by rfl) (zAf W4 _) (λ_=>by simp) ?_))
  intro va wa rowa owna hga hra hva;have hGa:w.grownBy wa (some kp):=zAO (zAB hG4 (World.grownBy_alloc _ _ _)) hga hra;have hRa:=(hR4.row (World.grownBy_alloc W4 _ none) (by simp)).row hga (λb e=>Nat.le_trans hlo (hra b e));clear hga hra hva hR4 hG4;go_wp2;go_ret;rw [HQ.out];unfold pcs;rcases hL1 with ⟨rfl,rfl,hp1⟩ | ⟨hc1,hp1⟩
  ·have hm:mkk u1 0 [58]=false:=by simpa using hbm
   rw [hp1];simp only;rw [zBJ hm];simp only;rw [HRA.out];exact ⟨hGa,va,rfl,owna,hRa⟩
  ·rw [hp1];exact ⟨hGa,hc1,va,_,u1,rfl,owna,by simp,hRa⟩
 | true =>
  rw [hbm] at M;simp only [Bool.and_eq_true,decide_eq_true_eq] at hbm;obtain ⟨hc1,hm⟩:=hbm;obtain ⟨t5,r5,hu1,htk⟩:=zB4 hm;obtain ⟨hpz,hp1⟩:p1=0/\pc ts1 en=.inl (a1,u1):=by
   rcases hL1 with ⟨-,x,y⟩ | ⟨x,-⟩
   ·exact ⟨x,y⟩
   ·exact absurd hc1 x
  clear hL1;rw [hc1,hpz,hu1] at hR4;have hok5:∀ x ∈ r5,zAP x:=λx hx=>hok1 x ((zH2 hp1).subset (by rw [hu1];exact List.mem_cons_of_mem _ hx))
  obtain ⟨a5,ha5,d1,z1,hR5,hG5⟩:=zAg hR4;have HR5:Hid (RS tn lo kp en (W4.setCell ⟨kp,1,none⟩ (.int .i64 ((a5:Int)+1))) r5 0 0):=hR5;have HG5:Hid (w.grownBy (W4.setCell ⟨kp,1,none⟩ (.int .i64 ((a5:Int)+1))) (some kp)):=zAB hG4 hG5;have pN5:=pN.far (j:=kp) (by omega) 1 (.int .i64 ((a5:Int)+1));have HQ:Hid (RES=pcs ⟨#[]⟩ ts1 en):=HRES.out;clear hR4 hG4 hR5 hG5 pN;go_wp2_with fail
  refine M.mono ?_;rintro e w5 ⟨rfl,rfl⟩;clear M;go_upto_region 21 with fail
  clear d1 z1;generalize W4.setCell ⟨kp,1,none⟩ (.int .i64 ((a5:Int)+1))=W5 at *;have pN6:AtL (W5.setCell ⟨kn,0,none⟩ (.int .i64 3)) kn (zAD ⟨3,Wt.v0,0,⟨#[]⟩,0,RA,Wt.r0⟩):=pN5.set 0 (.int .i64 3);have hR6:=HR5.out.row (zAQ W5 kn 0 (.int .i64 3)) (λb e=>by have:=Option.some.inj e;omega);have hG6:w.grownBy (W5.setCell ⟨kn,0,none⟩ (.int .i64 3)) (some kp):=zAO HG5.out (zAQ W5 kn 0 (.int .i64 3)) (λb e=>by have:=Option.some.inj e;omega);have x0:=pN5.2.1 0 _ rfl;have f0:=pN5.2.2 0 (by show 0<20;omega);clear HR5 HG5 pN5;go_upto_region 22 with fail
  clear x0 f0;generalize W5.setCell ⟨kn,0,none⟩ (.int .i64 3)=W6 at *;have C2:=zCc tn lo kp en r5 W6 hok5 hR6;go_wp2_with fail
  refine C2.mono ?_;rintro e w7 ⟨hg7,b1,u2,c2,p2,rfl,hR7,hL2⟩;have hG7:w.grownBy w7 (some kp):=zAB hG6 hg7;have hs7:=hG7.size;have pN7:=pN6.grown hg7 (λe=>by have:=Option.some.inj e;omega);have tN7:w7.there kn 15 (rf5 b1).toArray.size:=pN7.thereSub 15 5 (by show 15+5<=20;omega);have pN8:=zCV pN7 b1;have hR8:=hR7.row (zAV w7 kn (rf5 b1) 15) (λb e=>by have:=Option.some.inj e;omega);have hG8:w.grownBy (w7.setCells kn 15 (rf5 b1)) (some kp):=zAO hG7 (zAV w7 kn (rf5 b1) 15) (λb e=>by have:=Option.some.inj e;omega);clear C2 hg7 hR6 hG6 pN6 pN7 hR7 hG7;go_upto_region 23 with ((with_reducible refine wpList_store_mid ?_ 28 (.tmp 74) (.tmp 73) ?_ (kn) 15 (rf5 b1).toArray ?_ ?_ ?_ ?_ ?_ ?_);rfl;rfl;rfl;rfl;exact tN7;kernel_rfl;exact zDH _)
  generalize w7.setCells kn 15 (rf5 b1).toArray.toList=W8 at *;have rN:=AtL.range pN8;have hs8:=hG8.size;clear tN7;go_wp2_with (first
   | ((with_reducible refine wpList_load_mid (cs:=zAD (⟨3,Wt.v0,0,⟨#[]⟩,0,RA,b1⟩:Wt.Nd)) ?_ 30 (.tmp 9) ?_ (kn) 0 ?_ _ ?_ underlying30 ?_ ?_ ?_);rfl;rfl;rfl;exact rN;rfl;kernel_rfl)
   | ((with_reducible refine zAR ?_ (.tmp 76) ?_ (⟨3,Wt.v0,0,⟨#[]⟩,0,RA,b1⟩:Wt.Nd) ?_ ?_);rfl;rfl;rfl)
   | (at_builtin;refine zAL (by rfl) (.tmp 75) (.tmp 77) (by rfl) _ w.heap.size (by simp only [World.size_alloc];omega) _ [] (by rfl) (World.ownsRow_nil _ _ _ _) _ _ [(⟨3,Wt.v0,0,⟨#[]⟩,0,RA,b1⟩:Wt.Nd)] (by rfl) (zAf W8 _) (λ_=>by simp) ?_))
  intro va wa rowa owna hga hra hva;have hGa:w.grownBy wa (some kp):=zAO (zAB hG8 (World.grownBy_alloc _ _ _)) hga hra;have hRa:=(hR8.row (World.grownBy_alloc W8 _ none) (by simp)).row hga (λb e=>Nat.le_trans hlo (hra b e));clear hga hra hva hR8 hG8;go_wp2;go_ret;rw [HQ.out];unfold pcs;rw [hp1];simp only;rw [htk];simp only;rcases hL2 with ⟨rfl,rfl,hp2⟩ | ⟨hc2,hp2⟩
  ·rw [hp2];simp only;rw [HRA.out];exact ⟨hGa,va,rfl,owna,hRa⟩
  ·rw [hp2];exact ⟨hGa,hc2,va,_,u2,rfl,owna,by simp,hRa⟩
