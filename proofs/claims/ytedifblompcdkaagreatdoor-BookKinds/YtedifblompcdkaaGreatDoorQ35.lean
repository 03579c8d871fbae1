/- TAll, TWd, TCall, LAppend. -/
import Derived.Test.YtedifblompcdkaaGreatDoorQ34
import Derived.Laws.AppendOwnNone
set_option maxHeartbeats 8000000
set_option maxRecDepth 100000
namespace Go.Proofs.YtedifblompcdkaaGreatDoor
open Tryz
open Go.RowKit Go.Shelf
set_option linter.unusedVariables false
theorem zE5 (kp:Nat) (en:Int) (sub:List Wlx.TV->PR) (n:Nat) (HS:zNQ kp en 172 sub n):zLJ kp en 5 sub n:=by
 intro ts w h hn hts hok hE;have hB0:=zAH (Below.refl _ w) (.cells zP0 180);have pZ:AtL (w.alloc (.cells zP0 180)) w.heap.size (zAJ (bare 0) (.slice none 0 0)):=AtL.new0 w _ _;have h0:=h.below hB0;have hE0:=hE.below hB0;have hkp:=h.lt;cases hs:sub ts with
 | inr q =>
  obtain ⟨c,p⟩:=q;simp only [zAQ];go_enter func155,ntmps155;have pZ1:=pZ;have h1:=h0;have hE1:=hE0;have hG1:=zAE hB0 (some kp);clear pZ h0 hB0 hE0;go_wp2_with fail
  refine (HS ts _ h1 hn hts hok hE1).mono ?_;rintro e w3 hc;rw [hs] at hc;simp only [zAQ] at hc;obtain ⟨rfl,hg⟩:=hc;unfold zB2;go_wp2;exact ⟨rfl,rfl,zAD hG1 hg⟩
 | inl q =>
  obtain ⟨row,r2⟩:=q;simp only [zAQ];go_enter func155,ntmps155;have pZ1:=pZ;have h1:=h0;have hE1:=hE0;have hG1:=zAE hB0 (some kp);clear pZ h0 hB0 hE0;have hz1:=pZ1.lt;go_wp2_with fail
  refine (HS ts _ h1 hn hts hok hE1).mono ?_;rintro e w3 hc;rw [hs] at hc;simp only [zAQ] at hc;obtain ⟨v,rfl,hP,h3,hg⟩:=hc;have pZ3:=pZ1.grown hg (by intro e;have:=Option.some.inj e;omega);have hG3:=zAD hG1 hg;obtain ⟨nn,x,sl,rfl,hp⟩:=hP;obtain ⟨av,len,cap,rfl⟩:=hp.one;have hth:World.there w3 w.heap.size 0 (zAJ x (.slice av len cap)).toArray.size:=pZ3.there;clear pZ1 hG1 hE1 h1 hg;unfold ptV;go_wp2_with ((with_reducible refine wpList_store_mid ?_ 180 (.tmp 4) (.tmp 11) ?_ (w.heap.size) 0 (zAJ x (.slice av len cap)).toArray ?_ ?_ ?_ ?_ ?_ ?_);rfl;rfl;rfl;rfl;exact hth;kernel_rfl;exact zAi _ _ rfl)
  have pZ9:AtL (w3.setCells w.heap.size 0 (zAJ x (.slice av len cap))) w.heap.size (zAJ x (.slice av len cap)):=pZ3.setAll rfl;refine bodyPost_ret (zAO rfl _ _ w.heap.size (zAJ x (.slice av len cap)) _ rfl pZ9.range underlying180 rfl (by kernel_rfl)) rfl ?_;exact ⟨_,rfl,(Pt.far (show Pt w3 _ (ptV x (.slice av len cap)) row from ⟨nn,x,_,rfl,hp⟩) (by omega) 0 _).mono (by omega),h3.farAll hkp _ 0,zAN hG3 (Nat.le_refl _) _ 0⟩
def zJQ (sub:List Wlx.TV->PR) (en:Int) (ts:List Wlx.TV):PR:=match sub ts with
 | .inr e=>.inr e
 | .inl (row,[])=>.inl (row,[])
 | .inl (_,t::r)=>.inr (50,pos (t::r) en)
theorem zOd (kp:Nat) (en:Int) (sub:List Wlx.TV->PR) (n:Nat) (HF:zDp kp en sub n) (hsub:∀ ts row r,sub ts=.inl (row,r)->r <:+ ts) (ts:List Wlx.TV) (w:World) (h:PSt w kp ts en) (hn:ts.length<=n) (hts:ts.length<=1024) (hok:∀ t ∈ ts,zA5 t) (hE:Env w) :
  Calls prog 96 #[.pointer (some ⟨kp,0,none⟩)] w λe w'=>zAQ kp en (zJQ sub en ts) w e w':=by
 have hB0:=zAH (Below.refl _ w) (.cells zP0 180);have pZ:AtL (w.alloc (.cells zP0 180)) w.heap.size (zAJ (bare 0) (.slice none 0 0)):=AtL.new0 w _ _;have h0:=h.below hB0;have hE0:=hE.below hB0;have hkp:=h.lt;unfold zJQ;cases hs:sub ts with
 | inr q =>
  obtain ⟨c,p⟩:=q;simp only [zAQ];go_enter func96,ntmps96;go_wp2_with fail
  generalize w.alloc (.cells zP0 180)=wa at *;refine (HF ts _ h0 hn hts hok hE0).mono ?_;rintro e w2 hc;rw [hs] at hc;simp only [zAQ] at hc;obtain ⟨rfl,hg⟩:=hc;unfold zB2;go_wp2;exact ⟨rfl,rfl,zAD (zAE hB0 (some kp)) hg⟩
 | inl q =>
  obtain ⟨row,r⟩:=q;have hl:=(hsub _ _ _ hs).length_le;cases r with
  | cons t r =>
   simp only [zAQ];have M0:=λw h=>zAe kp (t::r) en w h
   unfold zB2 at M0 ⊢;go_enter func96,ntmps96;go_wp2_with fail
   generalize w.alloc (.cells zP0 180)=wa at *;refine (HF ts _ h0 hn hts hok hE0).mono ?_;rintro e w2 hc;rw [hs] at hc;simp only [zAQ] at hc;obtain ⟨v,rfl,hP,h2,hg2⟩:=hc;have hza:=pZ.lt;have pZ2:=pZ.grown hg2 (by intro e;have:=Option.some.inj e;omega);have hG2:=zAD (zAE hB0 (some kp)) hg2;obtain ⟨nn,x,sl,rfl,hp⟩:=hP;obtain ⟨av,len,cap,rfl⟩:=hp.one;clear pZ hB0 hE0 h0;unfold ptV;have pX0:AtL (w2.alloc (.cells zP0 180)) w2.heap.size (zAJ (bare 0) (.slice none 0 0)):=AtL.new0 w2 _ _;have hthX:World.there (w2.alloc (.cells zP0 180)) w2.heap.size 0 (zAJ x (.slice av len cap)).toArray.size:=pX0.there;go_upto_region 2 with ((with_reducible refine wpList_store_mid ?_ 180 (.tmp 3) (.tmp 5) ?_ (w2.heap.size) 0 (zAJ x (.slice av len cap)).toArray ?_ ?_ ?_ ?_ ?_ ?_);rfl;rfl;rfl;rfl;exact hthX;kernel_rfl;exact zAi _ _ rfl)
   have hbX:=zBJ (zAH (Below.refl _ w2) (.cells zP0 180)) (Nat.le_refl w2.heap.size) (zAJ x (.slice av len cap)) 0;have pX:AtL ((w2.alloc (.cells zP0 180)).setCells w2.heap.size 0 (zAJ x (.slice av len cap))) w2.heap.size (zAJ x (.slice av len cap)):=pX0.setAll rfl;have pZ3:=AtL.below hbX pZ2;have h3:=h2.below hbX;have hG3:=zAD hG2 (zAE hbX (some kp));have hP3:=Pt.below (v:=ptV x (.slice av len cap)) ⟨nn,x,_,rfl,hp⟩ hbX;have hkx:kp<w2.heap.size:=h2.lt;have hzx:=pZ2.lt;clear pX0 hthX hbX pZ2 h2 hG2 hp;generalize (w2.alloc (.cells zP0 180)).setCells w2.heap.size 0 (zAJ x (.slice av len cap))=w3 at *;generalize w2.heap.size=kx at *;have h3s:=h3;obtain ⟨tv,tc,q1,q2,q3⟩:=h3s;obtain ⟨c0,c1,f0,f1⟩:=q2.two;have hm0:(((t::r).length:Int) == 0)=false:=by rw [beq_eq_false_iff_ne];simp;omega
   clear q1 q2 q3 h;generalize (t::r).length=ln at *;go_wp2_with fail
   refine (M0 _ h3).mono ?_;rintro e w5 ⟨rfl,hb⟩;go_wp2;exact ⟨rfl,rfl,zAD hG3 (zAE hb (some kp))⟩
  | nil =>
   simp only [zAQ];go_enter func96,ntmps96;go_wp2_with fail
   generalize w.alloc (.cells zP0 180)=wa at *;refine (HF ts _ h0 hn hts hok hE0).mono ?_;rintro e w2 hc;rw [hs] at hc;simp only [zAQ] at hc;obtain ⟨v,rfl,hP,h2,hg2⟩:=hc;have hza:=pZ.lt;have pZ2:=pZ.grown hg2 (by intro e;have:=Option.some.inj e;omega);have hG2:=zAD (zAE hB0 (some kp)) hg2;obtain ⟨nn,x,sl,rfl,hp⟩:=hP;obtain ⟨av,len,cap,rfl⟩:=hp.one;clear pZ hB0 hE0 h0;unfold ptV;have pX0:AtL (w2.alloc (.cells zP0 180)) w2.heap.size (zAJ (bare 0) (.slice none 0 0)):=AtL.new0 w2 _ _;have hthX:World.there (w2.alloc (.cells zP0 180)) w2.heap.size 0 (zAJ x (.slice av len cap)).toArray.size:=pX0.there;go_upto_region 2 with ((with_reducible refine wpList_store_mid ?_ 180 (.tmp 3) (.tmp 5) ?_ (w2.heap.size) 0 (zAJ x (.slice av len cap)).toArray ?_ ?_ ?_ ?_ ?_ ?_);rfl;rfl;rfl;rfl;exact hthX;kernel_rfl;exact zAi _ _ rfl)
   have hbX:=zBJ (zAH (Below.refl _ w2) (.cells zP0 180)) (Nat.le_refl w2.heap.size) (zAJ x (.slice av len cap)) 0;have pX:AtL ((w2.alloc (.cells zP0 180)).setCells w2.heap.size 0 (zAJ x (.slice av len cap))) w2.heap.size (zAJ x (.slice av len cap)):=pX0.setAll rfl;have pZ3:=AtL.below hbX pZ2;have h3:=h2.below hbX;have hG3:=zAD hG2 (zAE hbX (some kp));have hP3:=Pt.below (v:=ptV x (.slice av len cap)) ⟨nn,x,_,rfl,hp⟩ hbX;have hkx:kp<w2.heap.size:=h2.lt;have hzx:=pZ2.lt;clear pX0 hthX hbX pZ2 h2 hG2 hp;generalize (w2.alloc (.cells zP0 180)).setCells w2.heap.size 0 (zAJ x (.slice av len cap))=w3 at *;generalize w2.heap.size=kx at *;have h3s:=h3;obtain ⟨tv,tc,q1,q2,q3⟩:=h3s;obtain ⟨c0,c1,f0,f1⟩:=q2.two;simp only [List.length_nil] at c0;go_wp2_with fail
   refine (zA3 kp _).mono ?_;rintro e w5 ⟨rfl,rfl⟩;have rX:=pX.range;have hth:World.there w3 w.heap.size 0 (zAJ x (.slice av len cap)).toArray.size:=pZ3.there;go_wp2_with (first | ((with_reducible refine wpList_load_mid (cs:=zAJ x (.slice av len cap)) ?_ 180 (.tmp 3) ?_ kx 0 ?_ _ ?_ underlying180 ?_ ?_ ?_);rfl;rfl;rfl;exact rX;rfl;kernel_rfl) | ((with_reducible refine wpList_store_mid ?_ 180 (.tmp 2) (.tmp 14) ?_ (w.heap.size) 0 (zAJ x (.slice av len cap)).toArray ?_ ?_ ?_ ?_ ?_ ?_);rfl;rfl;rfl;rfl;exact hth;kernel_rfl;exact zAi _ _ rfl))
   have pZ9:AtL (w3.setCells w.heap.size 0 (zAJ x (.slice av len cap))) w.heap.size (zAJ x (.slice av len cap)):=pZ3.setAll rfl;refine bodyPost_ret (zAO rfl _ _ w.heap.size (zAJ x (.slice av len cap)) _ rfl pZ9.range underlying180 rfl (by kernel_rfl)) rfl ?_;exact ⟨_,rfl,(hP3.far (by omega) 0 _).mono (by omega),h3.farAll hkp _ 0,zAN hG3 (Nat.le_refl _) _ 0⟩
theorem zGf {ts:List Wlx.TV} {m:List UInt8} (h:fol ts m=true):∃ a b r,ts=a::b::r:=by
 match ts,h with
 | a::b::r,_=>exact ⟨a,b,r,rfl⟩
def zMu (kp:Nat) (en:Int) (sub:List UInt8->List Wlx.TV->PR) (n:Nat):Prop :=
 ∀ (nm:List UInt8) (ts:List Wlx.TV) (w:World),PSt w kp ts en->ts.length<=n->ts.length<=1024->(∀ t ∈ ts,zA5 t)->(hd ts en).t=nm->fol ts [40]=true->Env w->Calls prog 247 #[.pointer (some ⟨kp,0,none⟩),.string ⟨nm.toArray⟩] w λe w'=>zAQ kp en (sub nm ts) w e w'
def pwd (subC:List UInt8->List Wlx.TV->PR) (en:Int) (ts:List Wlx.TV):PR :=
 if fol ts [40] then subC (hd ts en).t ts
 else if fol ts [33] then (if Wt.shNm ⟨(hd ts en).t.toArray⟩ then pcs ⟨(hd ts en).t.toArray⟩ (ts.drop 2) en else .inr (50,pos ts en))
 else if (hd ts en).t=[84,82,85,69] then .inl ([zBN (zA8 true)],ts.drop 1)
 else if (hd ts en).t=[70,65,76,83,69] then .inl ([zBN (zA8 false)],ts.drop 1)
 else pcs ⟨#[]⟩ ts en
theorem zMC (kp:Nat) (en:Int) (subC:List UInt8->List Wlx.TV->PR) (n:Nat) (HC:zMu kp en subC n) (ts:List Wlx.TV) (w:World) (h:PSt w kp ts en) (hn:ts.length<=n) (hts:ts.length<=1024) (hok:∀ t ∈ ts,zA5 t) (hw3:(hd ts en).k=3) (hE:Env w) (hk8:8<=kp) :
  Calls prog 241 #[.pointer (some ⟨kp,0,none⟩)] w λe w'=>zAQ kp en (pwd subC en ts) w e w':=by
 have hB0:=zAH (Below.refl _ w) (.cells zP0 180);have pZ:AtL (w.alloc (.cells zP0 180)) w.heap.size (zAJ (bare 0) (.slice none 0 0)):=AtL.new0 w _ _;have h0:=h.below hB0;have hE0:=hE.below hB0;have hkp:=h.lt;have N:=λw h=>zBH kp ts en w h
 have F1:=λw h=>zBZ kp ts en [40] w h hts
 have F2:=λw h=>zBZ kp ts en [33] w h hts
 have hfl:=zHV;have hlen:(hd ts en).t.length<=1024:=(zCA en hok).1;have SN:=λw=>zIi ⟨(hd ts en).t.toArray⟩ w (by show (hd ts en).t.length<=_;omega)
 have HC:=λw h hf hE=>HC (hd ts en).t ts w h hn hts hok rfl hf hE
 have M0:=λw h=>zAe kp ts en w h
 obtain ⟨r0,hr0⟩:∃ r,ts=hd ts en::r:=by
  cases ts with
  | nil=>exact absurd hw3 (by show ¬ (0:Int)=3;decide)
  | cons a r=>exact ⟨r,rfl⟩
 unfold pwd;unfold pos zB2 at M0;unfold pos;obtain ⟨t,ht⟩:∃ t,hd ts en=t:=⟨_,rfl⟩
 rw [ht] at N SN HC M0 hr0 ⊢;clear ht hlen hw3;obtain ⟨k,x,p⟩:=t;unfold tkV at N;simp only at N SN HC M0 ⊢;cases hf1:fol ts [40] with
 | true =>
  rw [hf1] at F1;replace HC:=λw h hE=>HC w h hf1 hE
  rw [if_pos rfl];clear hr0;cases hs:subC x ts with
  | inr q =>
   obtain ⟨c,pq⟩:=q;simp only [zAQ];go_enter func241,ntmps241;go_wp2_with fail
   generalize w.alloc (.cells zP0 180)=wa at *;refine (N _ h0).mono ?_;rintro e wb ⟨rfl,hb⟩;replace pZ:=AtL.below hb pZ
   replace h0:=h0.below hb
   replace hE0:=hE0.below hb
   replace hB0:=zAA hB0 hb
   clear hb;go_wp2_with fail
   refine (F1 _ h0).mono ?_;rintro e w1 ⟨rfl,hb⟩;have pZ1:=AtL.below hb pZ;have h1:=h0.below hb;have hE1:=hE0.below hb;have hB1:=zAA hB0 hb;have hG1:=zAE hB1 (some kp);clear hb pZ h0 hB0 hE0 N F1;go_wp2_with fail
   refine (HC _ h1 hE1).mono ?_;rintro e w3 hc;rw [hs] at hc;simp only [zAQ] at hc;obtain ⟨rfl,hg⟩:=hc;unfold zB2;go_wp2;exact ⟨rfl,rfl,zAD hG1 hg⟩
  | inl q =>
   obtain ⟨row,r2⟩:=q;simp only [zAQ];go_enter func241,ntmps241;go_wp2_with fail
   generalize w.alloc (.cells zP0 180)=wa at *;refine (N _ h0).mono ?_;rintro e wb ⟨rfl,hb⟩;replace pZ:=AtL.below hb pZ
   replace h0:=h0.below hb
   replace hE0:=hE0.below hb
   replace hB0:=zAA hB0 hb
   clear hb;go_wp2_with fail
   refine (F1 _ h0).mono ?_;rintro e w1 ⟨rfl,hb⟩;have pZ1:=AtL.below hb pZ;have h1:=h0.below hb;have hE1:=hE0.below hb;have hB1:=zAA hB0 hb;have hG1:=zAE hB1 (some kp);clear hb pZ h0 hB0 hE0 N F1;have hz1:=pZ1.lt;go_wp2_with fail
   refine (HC _ h1 hE1).mono ?_;rintro e w3 hc;rw [hs] at hc;simp only [zAQ] at hc;obtain ⟨v,rfl,hP,h3,hg⟩:=hc;have pZ3:=pZ1.grown hg (by intro e;have:=Option.some.inj e;omega);have hG3:=zAD hG1 hg;obtain ⟨nn,x,sl,rfl,hp⟩:=hP;obtain ⟨av,len,cap,rfl⟩:=hp.one;have hth:World.there w3 w.heap.size 0 (zAJ x (.slice av len cap)).toArray.size:=pZ3.there;clear pZ1 hG1 hE1 h1 hg;unfold ptV;go_wp2_with ((with_reducible refine wpList_store_mid ?_ 180 (.tmp 2) (.tmp 12) ?_ (w.heap.size) 0 (zAJ x (.slice av len cap)).toArray ?_ ?_ ?_ ?_ ?_ ?_);rfl;rfl;rfl;rfl;exact hth;kernel_rfl;exact zAi _ _ rfl)
   have pZ9:AtL (w3.setCells w.heap.size 0 (zAJ x (.slice av len cap))) w.heap.size (zAJ x (.slice av len cap)):=pZ3.setAll rfl;refine bodyPost_ret (zAO rfl _ _ w.heap.size (zAJ x (.slice av len cap)) _ rfl pZ9.range underlying180 rfl (by kernel_rfl)) rfl ?_;exact ⟨_,rfl,(Pt.far (show Pt w3 _ (ptV x (.slice av len cap)) row from ⟨nn,x,_,rfl,hp⟩) (by omega) 0 _).mono (by omega),h3.farAll hkp _ 0,zAN hG3 (Nat.le_refl _) _ 0⟩
 | false =>
  rw [hf1] at F1;rw [if_neg (by decide)];clear HC;cases hf2:fol ts [33] with
  | true =>
   rw [hf2] at F2;rw [if_pos rfl];obtain ⟨a,b,r,hr⟩:=zGf hf2;have hab:a=⟨k,x,p⟩:=by rw [hr] at hr0;exact (List.cons.inj hr0).1
   subst hab;cases hsn:Wt.shNm ⟨x.toArray⟩ with
   | false =>
    rw [hsn] at SN;rw [if_neg (by decide)];simp only [zAQ];unfold zB2;go_enter func241,ntmps241;go_wp2_with fail
    generalize w.alloc (.cells zP0 180)=wa at *;refine (N _ h0).mono ?_;rintro e wb ⟨rfl,hb⟩;replace pZ:=AtL.below hb pZ
    replace h0:=h0.below hb
    replace hE0:=hE0.below hb
    replace hB0:=zAA hB0 hb
    clear hb;go_wp2_with fail
    refine (F1 _ h0).mono ?_;rintro e w1 ⟨rfl,hb⟩;have pZ1:=AtL.below hb pZ;have h1:=h0.below hb;have hE1:=hE0.below hb;have hB1:=zAA hB0 hb;have hG1:=zAE hB1 (some kp);clear hb pZ h0 hB0 hE0 N F1;go_wp2_with fail
    refine (F2 _ h1).mono ?_;rintro e w2 ⟨rfl,hb⟩;replace pZ1:=AtL.below hb pZ1
    replace h1:=h1.below hb
    replace hE1:=hE1.below hb
    replace hB1:=zAA hB1 hb
    clear hG1;have hG1:=zAE hB1 (some kp);clear hb F2;go_wp2_with fail
    refine (SN _).mono ?_;rintro e w4 ⟨rfl,rfl⟩;go_wp2_with fail
    refine (M0 _ h1).mono ?_;rintro e w5 ⟨rfl,hb⟩;go_wp2;exact ⟨rfl,rfl,zAD hG1 (zAE hb (some kp))⟩
   | true =>
    rw [hsn] at SN;rw [if_pos rfl];subst hr;clear hr0 hf1 hf2;simp only [List.drop_succ_cons,List.drop_zero];cases hs:pcs ⟨x.toArray⟩ r en with
    | inr q =>
     obtain ⟨c,pq⟩:=q;simp only [zAQ];go_enter func241,ntmps241;go_wp2_with fail
     generalize w.alloc (.cells zP0 180)=wa at *;refine (N _ h0).mono ?_;rintro e wb ⟨rfl,hb⟩;replace pZ:=AtL.below hb pZ
     replace h0:=h0.below hb
     replace hE0:=hE0.below hb
     replace hB0:=zAA hB0 hb
     clear hb;go_wp2_with fail
     refine (F1 _ h0).mono ?_;rintro e w1 ⟨rfl,hb⟩;have pZ1:=AtL.below hb pZ;have h1:=h0.below hb;have hE1:=hE0.below hb;have hB1:=zAA hB0 hb;have hG1:=zAE hB1 (some kp);clear hb pZ h0 hB0 hE0 N F1;go_wp2_with fail
     refine (F2 _ h1).mono ?_;rintro e w2 ⟨rfl,hb⟩;replace pZ1:=AtL.below hb pZ1
     replace h1:=h1.below hb
     replace hE1:=hE1.below hb
     replace hB1:=zAA hB1 hb
     clear hG1;have hG1:=zAE hB1 (some kp);clear hb F2;go_wp2_with fail
     refine (SN _).mono ?_;rintro e w4 ⟨rfl,rfl⟩;go_wp2_with fail
     refine (zA3 kp _).mono ?_;rintro e w4 ⟨rfl,rfl⟩;have P:=zBB 2 kp [⟨k,x,p⟩,b] r en _ h1 rfl (by decide) hts;go_wp2_with fail
     refine P.mono ?_;rintro e w4 ⟨rfl,h4,hg4⟩;have hz4:=pZ1.lt;replace pZ1:=pZ1.grown hg4 (by intro e;have:=Option.some.inj e;omega)
     replace hG1:=zAD hG1 hg4
     replace hE1:=hE1.grown hg4 hk8
     clear h1 P hg4;have h1:=h4;clear h4;go_wp2_with fail
     refine (zBz kp ⟨x.toArray⟩ r en _ h1 (by simp at hts;omega) (λt ht=>hok t (by simp [ht])) hE1 hk8).mono ?_;rintro e w3 hc;rw [hs] at hc;simp only [zAQ] at hc;obtain ⟨rfl,hg⟩:=hc;unfold zB2;go_wp2;exact ⟨rfl,rfl,zAD hG1 hg⟩
    | inl q =>
     obtain ⟨row,r2⟩:=q;simp only [zAQ];go_enter func241,ntmps241;go_wp2_with fail
     generalize w.alloc (.cells zP0 180)=wa at *;refine (N _ h0).mono ?_;rintro e wb ⟨rfl,hb⟩;replace pZ:=AtL.below hb pZ
     replace h0:=h0.below hb
     replace hE0:=hE0.below hb
     replace hB0:=zAA hB0 hb
     clear hb;go_wp2_with fail
     refine (F1 _ h0).mono ?_;rintro e w1 ⟨rfl,hb⟩;have pZ1:=AtL.below hb pZ;have h1:=h0.below hb;have hE1:=hE0.below hb;have hB1:=zAA hB0 hb;have hG1:=zAE hB1 (some kp);clear hb pZ h0 hB0 hE0 N F1;go_wp2_with fail
     refine (F2 _ h1).mono ?_;rintro e w2 ⟨rfl,hb⟩;replace pZ1:=AtL.below hb pZ1
     replace h1:=h1.below hb
     replace hE1:=hE1.below hb
     replace hB1:=zAA hB1 hb
     clear hG1;have hG1:=zAE hB1 (some kp);clear hb F2;go_wp2_with fail
     refine (SN _).mono ?_;rintro e w4 ⟨rfl,rfl⟩;go_wp2_with fail
     refine (zA3 kp _).mono ?_;rintro e w4 ⟨rfl,rfl⟩;have P:=zBB 2 kp [⟨k,x,p⟩,b] r en _ h1 rfl (by decide) hts;go_wp2_with fail
     refine P.mono ?_;rintro e w4 ⟨rfl,h4,hg4⟩;have hz4:=pZ1.lt;replace pZ1:=pZ1.grown hg4 (by intro e;have:=Option.some.inj e;omega)
     replace hG1:=zAD hG1 hg4
     replace hE1:=hE1.grown hg4 hk8
     clear h1 P hg4;have h1:=h4;clear h4;have hz1:=pZ1.lt;go_wp2_with fail
     refine (zBz kp ⟨x.toArray⟩ r en _ h1 (by simp at hts;omega) (λt ht=>hok t (by simp [ht])) hE1 hk8).mono ?_;rintro e w3 hc;rw [hs] at hc;simp only [zAQ] at hc;obtain ⟨v,rfl,hP,h3,hg⟩:=hc;have pZ3:=pZ1.grown hg (by intro e;have:=Option.some.inj e;omega);have hG3:=zAD hG1 hg;obtain ⟨nn,x,sl,rfl,hp⟩:=hP;obtain ⟨av,len,cap,rfl⟩:=hp.one;have hth:World.there w3 w.heap.size 0 (zAJ x (.slice av len cap)).toArray.size:=pZ3.there;clear pZ1 hG1 hE1 h1 hg;unfold ptV;go_wp2_with ((with_reducible refine wpList_store_mid ?_ 180 (.tmp 2) (.tmp 24) ?_ (w.heap.size) 0 (zAJ x (.slice av len cap)).toArray ?_ ?_ ?_ ?_ ?_ ?_);rfl;rfl;rfl;rfl;exact hth;kernel_rfl;exact zAi _ _ rfl)
     have pZ9:AtL (w3.setCells w.heap.size 0 (zAJ x (.slice av len cap))) w.heap.size (zAJ x (.slice av len cap)):=pZ3.setAll rfl;refine bodyPost_ret (zAO rfl _ _ w.heap.size (zAJ x (.slice av len cap)) _ rfl pZ9.range underlying180 rfl (by kernel_rfl)) rfl ?_;exact ⟨_,rfl,(Pt.far (show Pt w3 _ (ptV x (.slice av len cap)) row from ⟨nn,x,_,rfl,hp⟩) (by omega) 0 _).mono (by omega),h3.farAll hkp _ 0,zAN hG3 (Nat.le_refl _) _ 0⟩
  | false =>
   rw [hf2] at F2;rw [if_neg (by decide)];by_cases hT:x=[84,82,85,69]
   ·rw [if_pos hT];subst hr0;generalize r0=r at *;subst hT;clear hf1 hf2;simp only [List.drop_succ_cons,List.drop_zero,zAQ];go_enter func241,ntmps241;go_wp2_with fail
    generalize w.alloc (.cells zP0 180)=wa at *;refine (N _ h0).mono ?_;rintro e wb ⟨rfl,hb⟩;replace pZ:=AtL.below hb pZ
    replace h0:=h0.below hb
    replace hE0:=hE0.below hb
    replace hB0:=zAA hB0 hb
    clear hb;go_wp2_with fail
    refine (F1 _ h0).mono ?_;rintro e w1 ⟨rfl,hb⟩;have pZ1:=AtL.below hb pZ;have h1:=h0.below hb;have hE1:=hE0.below hb;have hB1:=zAA hB0 hb;have hG1:=zAE hB1 (some kp);clear hb pZ h0 hB0 hE0 N F1;go_wp2_with fail
    refine (F2 _ h1).mono ?_;rintro e w2 ⟨rfl,hb⟩;replace pZ1:=AtL.below hb pZ1
    replace h1:=h1.below hb
    replace hE1:=hE1.below hb
    replace hB1:=zAA hB1 hb
    clear hG1;have hG1:=zAE hB1 (some kp);clear hb F2;have P:=zBB 1 kp [_] r en _ h1 rfl (by decide) hts;go_wp2_with fail
    refine P.mono ?_;rintro e w4 ⟨rfl,h4,hg4⟩;have hz4:=pZ1.lt;have pZ4:=pZ1.grown hg4 (by intro e;have:=Option.some.inj e;omega);have hG4:=zAD hG1 hg4;clear h1 P hg4 pZ1 hG1 hE1;have V1:=λw=>zCN true w
    have K1:=λw=>zDH (zA8 true) w
    simp only [vlV,vl6,zA8] at V1 K1;go_wp2_with fail
    refine (V1 _).mono ?_;rintro e w5 ⟨rfl,hb5⟩;go_wp2_with fail
    refine (K1 _).mono ?_;rintro e w6 ⟨rfl,hb6⟩;have hb:=zAA hb5 hb6;have pZ6:=AtL.below hb pZ4;have h6:=h4.below hb;have hG6:=zAD hG4 (zAE hb (some kp));have hth:World.there w6 w.heap.size 0 (zAJ (zBN (zA8 true)) (.slice none 0 0)).toArray.size:=pZ6.there;clear hb5 hb6 hb pZ4 h4 hG4;unfold ptV;go_wp2_with ((with_reducible refine wpList_store_mid ?_ 180 (.tmp 2) (.tmp 37) ?_ (w.heap.size) 0 (zAJ (zBN (zA8 true)) (.slice none 0 0)).toArray ?_ ?_ ?_ ?_ ?_ ?_);rfl;rfl;rfl;rfl;exact hth;kernel_rfl;exact zAi _ _ rfl)
    have pZ9:AtL (w6.setCells w.heap.size 0 (zAJ (zBN (zA8 true)) (.slice none 0 0))) w.heap.size (zAJ (zBN (zA8 true)) (.slice none 0 0)):=pZ6.setAll rfl;refine bodyPost_ret (zAO rfl _ _ w.heap.size (zAJ (zBN (zA8 true)) (.slice none 0 0)) _ rfl pZ9.range underlying180 rfl (by kernel_rfl)) rfl ?_;exact ⟨_,rfl,⟨1,_,_,rfl,PtIs.leaf _ _ _⟩,h6.farAll hkp _ 0,zAN hG6 (Nat.le_refl _) _ 0⟩
   rw [if_neg hT];have hT1:(x == [84,82,85,69])=false:=by simp [hT]
   by_cases hU:x=[70,65,76,83,69]
   ·rw [if_pos hU];subst hr0;generalize r0=r at *;subst hU;clear hf1 hf2;simp only [List.drop_succ_cons,List.drop_zero,zAQ];go_enter func241,ntmps241;go_wp2_with fail
    generalize w.alloc (.cells zP0 180)=wa at *;refine (N _ h0).mono ?_;rintro e wb ⟨rfl,hb⟩;replace pZ:=AtL.below hb pZ
    replace h0:=h0.below hb
    replace hE0:=hE0.below hb
    replace hB0:=zAA hB0 hb
    clear hb;go_wp2_with fail
    refine (F1 _ h0).mono ?_;rintro e w1 ⟨rfl,hb⟩;have pZ1:=AtL.below hb pZ;have h1:=h0.below hb;have hE1:=hE0.below hb;have hB1:=zAA hB0 hb;have hG1:=zAE hB1 (some kp);clear hb pZ h0 hB0 hE0 N F1;go_wp2_with fail
    refine (F2 _ h1).mono ?_;rintro e w2 ⟨rfl,hb⟩;replace pZ1:=AtL.below hb pZ1
    replace h1:=h1.below hb
    replace hE1:=hE1.below hb
    replace hB1:=zAA hB1 hb
    clear hG1;have hG1:=zAE hB1 (some kp);clear hb F2;have P:=zBB 1 kp [_] r en _ h1 rfl (by decide) hts;go_wp2_with fail
    refine P.mono ?_;rintro e w4 ⟨rfl,h4,hg4⟩;have hz4:=pZ1.lt;have pZ4:=pZ1.grown hg4 (by intro e;have:=Option.some.inj e;omega);have hG4:=zAD hG1 hg4;clear h1 P hg4 pZ1 hG1 hE1;have V1:=λw=>zCN false w
    have K1:=λw=>zDH (zA8 false) w
    simp only [vlV,vl6,zA8] at V1 K1;go_wp2_with fail
    refine (V1 _).mono ?_;rintro e w5 ⟨rfl,hb5⟩;go_wp2_with fail
    refine (K1 _).mono ?_;rintro e w6 ⟨rfl,hb6⟩;have hb:=zAA hb5 hb6;have pZ6:=AtL.below hb pZ4;have h6:=h4.below hb;have hG6:=zAD hG4 (zAE hb (some kp));have hth:World.there w6 w.heap.size 0 (zAJ (zBN (zA8 false)) (.slice none 0 0)).toArray.size:=pZ6.there;clear hb5 hb6 hb pZ4 h4 hG4;unfold ptV;go_wp2_with ((with_reducible refine wpList_store_mid ?_ 180 (.tmp 2) (.tmp 37) ?_ (w.heap.size) 0 (zAJ (zBN (zA8 false)) (.slice none 0 0)).toArray ?_ ?_ ?_ ?_ ?_ ?_);rfl;rfl;rfl;rfl;exact hth;kernel_rfl;exact zAi _ _ rfl)
    have pZ9:AtL (w6.setCells w.heap.size 0 (zAJ (zBN (zA8 false)) (.slice none 0 0))) w.heap.size (zAJ (zBN (zA8 false)) (.slice none 0 0)):=pZ6.setAll rfl;refine bodyPost_ret (zAO rfl _ _ w.heap.size (zAJ (zBN (zA8 false)) (.slice none 0 0)) _ rfl pZ9.range underlying180 rfl (by kernel_rfl)) rfl ?_;exact ⟨_,rfl,⟨1,_,_,rfl,PtIs.leaf _ _ _⟩,h6.farAll hkp _ 0,zAN hG6 (Nat.le_refl _) _ 0⟩
   rw [if_neg hU];have hU1:(x == [70,65,76,83,69])=false:=by simp [hU]
   clear hr0;cases hs:pcs ⟨#[]⟩ ts en with
   | inr q =>
    obtain ⟨c,pq⟩:=q;simp only [zAQ];go_enter func241,ntmps241;go_wp2_with fail
    generalize w.alloc (.cells zP0 180)=wa at *;refine (N _ h0).mono ?_;rintro e wb ⟨rfl,hb⟩;replace pZ:=AtL.below hb pZ
    replace h0:=h0.below hb
    replace hE0:=hE0.below hb
    replace hB0:=zAA hB0 hb
    clear hb;go_wp2_with fail
    refine (F1 _ h0).mono ?_;rintro e w1 ⟨rfl,hb⟩;have pZ1:=AtL.below hb pZ;have h1:=h0.below hb;have hE1:=hE0.below hb;have hB1:=zAA hB0 hb;have hG1:=zAE hB1 (some kp);clear hb pZ h0 hB0 hE0 N F1;go_wp2_with fail
    refine (F2 _ h1).mono ?_;rintro e w2 ⟨rfl,hb⟩;replace pZ1:=AtL.below hb pZ1
    replace h1:=h1.below hb
    replace hE1:=hE1.below hb
    replace hB1:=zAA hB1 hb
    clear hG1;have hG1:=zAE hB1 (some kp);clear hb F2;go_wp2_with fail
    refine (zBz kp ⟨#[]⟩ ts en _ h1 hts hok hE1 hk8).mono ?_;rintro e w3 hc;rw [hs] at hc;simp only [zAQ] at hc;obtain ⟨rfl,hg⟩:=hc;unfold zB2;go_wp2;exact ⟨rfl,rfl,zAD hG1 hg⟩
   | inl q =>
    obtain ⟨row,r2⟩:=q;simp only [zAQ];go_enter func241,ntmps241;go_wp2_with fail
    generalize w.alloc (.cells zP0 180)=wa at *;refine (N _ h0).mono ?_;rintro e wb ⟨rfl,hb⟩;replace pZ:=AtL.below hb pZ
    replace h0:=h0.below hb
    replace hE0:=hE0.below hb
    replace hB0:=zAA hB0 hb
    clear hb;go_wp2_with fail
    refine (F1 _ h0).mono ?_;rintro e w1 ⟨rfl,hb⟩;have pZ1:=AtL.below hb pZ;have h1:=h0.below hb;have hE1:=hE0.below hb;have hB1:=zAA hB0 hb;have hG1:=zAE hB1 (some kp);clear hb pZ h0 hB0 hE0 N F1;go_wp2_with fail
    refine (F2 _ h1).mono ?_;rintro e w2 ⟨rfl,hb⟩;replace pZ1:=AtL.below hb pZ1
    replace h1:=h1.below hb
    replace hE1:=hE1.below hb
    replace hB1:=zAA hB1 hb
    clear hG1;have hG1:=zAE hB1 (some kp);clear hb F2;have hz1:=pZ1.lt;go_wp2_with fail
    refine (zBz kp ⟨#[]⟩ ts en _ h1 hts hok hE1 hk8).mono ?_;rintro e w3 hc;rw [hs] at hc;simp only [zAQ] at hc;obtain ⟨v,rfl,hP,h3,hg⟩:=hc;have pZ3:=pZ1.grown hg (by intro e;have:=Option.some.inj e;omega);have hG3:=zAD hG1 hg;obtain ⟨nn,x,sl,rfl,hp⟩:=hP;obtain ⟨av,len,cap,rfl⟩:=hp.one;have hth:World.there w3 w.heap.size 0 (zAJ x (.slice av len cap)).toArray.size:=pZ3.there;clear pZ1 hG1 hE1 h1 hg;unfold ptV;go_wp2_with ((with_reducible refine wpList_store_mid ?_ 180 (.tmp 2) (.tmp 39) ?_ (w.heap.size) 0 (zAJ x (.slice av len cap)).toArray ?_ ?_ ?_ ?_ ?_ ?_);rfl;rfl;rfl;rfl;exact hth;kernel_rfl;exact zAi _ _ rfl)
    have pZ9:AtL (w3.setCells w.heap.size 0 (zAJ x (.slice av len cap))) w.heap.size (zAJ x (.slice av len cap)):=pZ3.setAll rfl;refine bodyPost_ret (zAO rfl _ _ w.heap.size (zAJ x (.slice av len cap)) _ rfl pZ9.range underlying180 rfl (by kernel_rfl)) rfl ?_;exact ⟨_,rfl,(Pt.far (show Pt w3 _ (ptV x (.slice av len cap)) row from ⟨nn,x,_,rfl,hp⟩) (by omega) 0 _).mono (by omega),h3.farAll hkp _ 0,zAN hG3 (Nat.le_refl _) _ 0⟩
def Pts (w:World) (lo:Nat) (sl:Value) (c:Nat) (rows:List Wt.Nd):Prop :=
 ∃ (n:Nat) (av:Option Addr) (cap:Nat) (ps:List (Wt.Nd × Value)) (rws:List (List Wt.Nd)),sl=.slice av c cap/\ps.length=c/\rws.length=c/\rows=rws.flatten /\
  ∀ i (h:i<ps.length) (h':i<rws.length),∃ bb,av=some ⟨bb,0,none⟩/\lo<=bb/\w.rangeAt bb (i * 21) (zAJ (ps[i]).1 (ps[i]).2)/\PtIs w (λb=>lo<=b) n (ps[i]).1 (ps[i]).2 (rws[i])
theorem Pts.node {w:World} {lo:Nat} {sl:Value} {c:Nat} {rows:List Wt.Nd} (h:Pts w lo sl c rows) (x:Wt.Nd):∃ n,PtIs w (λb=>lo<=b) n x sl (x::rows):=by
 obtain ⟨n,av,cap,ps,rws,rfl,h1,h2,rfl,h3⟩:=h;exact ⟨n+1,av,cap,ps,rws,by rw [h1],by rw [h1,h2],rfl,h3⟩
abbrev AR:Type:=(Nat × List Wt.Nd × List Wlx.TV) ⊕ (Int × Int)
def zI1 (kp:Nat) (en:Int) (r:AR) (w:World) (e:Ending) (w':World):Prop:=match r with
 | .inl (c,rows,rest)=>∃ sl,e=.returned sl/\Pts w' w.heap.size sl c rows/\PSt w' kp rest en/\w.grownBy w' (some kp)
 | .inr (c,p)=>e=zB2 c p/\w.grownBy w' (some kp)
def zPZ (kp:Nat) (en:Int) (sub:List Wlx.TV->AR) (n:Nat):Prop :=
 ∀ (ts:List Wlx.TV) (w:World),PSt w kp ts en->ts.length<=n->ts.length<=1024->(∀ t ∈ ts,zA5 t)->Env w->Calls prog 253 #[.pointer (some ⟨kp,0,none⟩)] w λe w'=>zI1 kp en (sub ts) w e w'
def pca (suba:List Wlx.TV->AR) (en:Int) (nm:List UInt8) (ts:List Wlx.TV):PR :=
 if Wt.fnNm ⟨nm.toArray⟩ then (match suba (ts.drop 2) with
  | .inr e=>.inr e
  | .inl (c,rows,r)=>.inl (zCb ⟨nm.toArray⟩ c::rows,r))
 else .inr (50,pos ts en)
theorem zMS (kp:Nat) (en:Int) (suba:List Wlx.TV->AR) (n:Nat) (HA:zPZ kp en suba n) (hk8:8<=kp):zMu kp en (pca suba en) (n+2):=by
 intro nm ts w h hn hts hok hnm hfo hE;have hB0:=zAH (Below.refl _ w) (.cells zP0 180);have pZ:AtL (w.alloc (.cells zP0 180)) w.heap.size (zAJ (bare 0) (.slice none 0 0)):=AtL.new0 w _ _;have h0:=h.below hB0;have hE0:=hE.below hB0;have hkp:=h.lt;obtain ⟨a,b,r,hr⟩:=zGf hfo;have hlen:nm.length<=1024:=by rw [<-hnm];exact (zCA en hok).1
 have FN:=λw=>zIy ⟨nm.toArray⟩ w (by show nm.length<=_;omega)
 have M0:=λw h=>zAe kp ts en w h
 unfold pca;clear hnm hfo;cases hq:Wt.fnNm ⟨nm.toArray⟩ with
 | false =>
  rw [hq] at FN;rw [if_neg (by decide)];simp only [zAQ];unfold zB2 at M0 ⊢;clear hr;go_enter func247,ntmps247;go_wp2_with fail
  generalize w.alloc (.cells zP0 180)=wa at *;refine (FN _).mono ?_;rintro e wb ⟨rfl,rfl⟩;go_wp2_with fail
  refine (M0 _ h0).mono ?_;rintro e w5 ⟨rfl,hb⟩;go_wp2;exact ⟨rfl,rfl,zAD (zAE hB0 (some kp)) (zAE hb (some kp))⟩
 | true =>
  rw [hq] at FN;rw [if_pos rfl];subst hr;simp only [List.drop_succ_cons,List.drop_zero];cases hs:suba r with
  | inr q =>
   obtain ⟨c,p⟩:=q;simp only [zAQ];go_enter func247,ntmps247;go_wp2_with fail
   generalize w.alloc (.cells zP0 180)=wa at *;refine (FN _).mono ?_;rintro e wb ⟨rfl,rfl⟩;go_wp2_with fail
   refine (zA3 kp _).mono ?_;rintro e w4 ⟨rfl,rfl⟩;have P:=zBB 2 kp [a,b] r en _ h0 rfl (by decide) hts;go_wp2_with fail
   refine P.mono ?_;rintro e w1 ⟨rfl,h1,hg1⟩;have hz:=pZ.lt;have pZ1:=pZ.grown hg1 (by intro e;have:=Option.some.inj e;omega);have hG1:=zAD (zAE hB0 (some kp)) hg1;have hE1:=hE0.grown hg1 hk8;have hs1:=hg1.size;clear pZ h0 hB0 hE0 P hg1;go_wp2_with fail
   refine (HA r _ h1 (by simp at hn;omega) (by simp at hts;omega) (λt ht=>hok t (by simp [ht])) hE1).mono ?_;rintro e w2 hc;rw [hs] at hc;simp only [zI1] at hc;obtain ⟨rfl,hg⟩:=hc;unfold zB2;go_wp2;exact ⟨rfl,rfl,zAD hG1 hg⟩
  | inl q =>
   obtain ⟨c,rows,r2⟩:=q;simp only [zAQ];go_enter func247,ntmps247;go_wp2_with fail
   generalize w.alloc (.cells zP0 180)=wa at *;refine (FN _).mono ?_;rintro e wb ⟨rfl,rfl⟩;go_wp2_with fail
   refine (zA3 kp _).mono ?_;rintro e w4 ⟨rfl,rfl⟩;have P:=zBB 2 kp [a,b] r en _ h0 rfl (by decide) hts;go_wp2_with fail
   refine P.mono ?_;rintro e w1 ⟨rfl,h1,hg1⟩;have hz:=pZ.lt;have pZ1:=pZ.grown hg1 (by intro e;have:=Option.some.inj e;omega);have hG1:=zAD (zAE hB0 (some kp)) hg1;have hE1:=hE0.grown hg1 hk8;have hs1:=hg1.size;clear pZ h0 hB0 hE0 P hg1;go_wp2_with fail
   refine (HA r _ h1 (by simp at hn;omega) (by simp at hts;omega) (λt ht=>hok t (by simp [ht])) hE1).mono ?_;rintro e w2 hc;rw [hs] at hc;simp only [zI1] at hc;obtain ⟨sl,rfl,hP,h2,hg⟩:=hc;obtain ⟨nn,hp⟩:=hP.node (zCb ⟨nm.toArray⟩ c);obtain ⟨_,av,cap,_,_,rfl,_⟩:=hP;have hz1:=pZ1.lt;have pZ2:=pZ1.grown hg (by intro e;have:=Option.some.inj e;omega);have hG2:=zAD hG1 hg;have hth:World.there w2 w.heap.size 0 (zAJ (zCb ⟨nm.toArray⟩ c) (.slice av c cap)).toArray.size:=pZ2.there;clear pZ1 hG1 hE1 h1 hg;go_wp2_with ((with_reducible refine wpList_store_mid ?_ 180 (.tmp 4) (.tmp 19) ?_ (w.heap.size) 0 (zAJ (zCb ⟨nm.toArray⟩ c) (.slice av c cap)).toArray ?_ ?_ ?_ ?_ ?_ ?_);rfl;rfl;rfl;rfl;exact hth;kernel_rfl;exact zAi _ _ rfl)
   have pZ9:AtL (w2.setCells w.heap.size 0 (zAJ (zCb ⟨nm.toArray⟩ c) (.slice av c cap))) w.heap.size (zAJ (zCb ⟨nm.toArray⟩ c) (.slice av c cap)):=pZ2.setAll rfl;refine bodyPost_ret (zAO rfl _ _ w.heap.size (zAJ (zCb ⟨nm.toArray⟩ c) (.slice av c cap)) _ rfl pZ9.range underlying180 rfl (by kernel_rfl)) rfl ?_;exact ⟨_,rfl,(Pt.far (show Pt w2 _ (ptV (zCb ⟨nm.toArray⟩ c) (.slice av c cap)) _ from ⟨nn,_,_,rfl,hp⟩) (by omega) 0 _).mono (by omega),h2.farAll hkp _ 0,zAN hG2 (Nat.le_refl _) _ 0⟩
open Go.RowKit
def tv3 (t:Wlx.TV):List Value:=[.int .i64 t.k,.string ⟨t.t.toArray⟩,.int .i64 t.p]
def zME (ts:List Wlx.TV):List Value:=ts.flatMap tv3
theorem zGi:∀ (ts:List Wlx.TV) (i:Nat) (h:i<ts.length),(zME ts)[i * 3]? = some (.int .i64 (ts[i]).k)/\(zME ts)[i * 3+1]? = some (.string ⟨(ts[i]).t.toArray⟩)/\(zME ts)[i * 3+2]? = some (.int .i64 (ts[i]).p)
 | [],i,h=>by simp at h
 | t::r,0,_=>⟨rfl,rfl,rfl⟩
 | t::r,i+1,h=>by
  obtain ⟨h0,h1,h2⟩:=zGi r i (by simpa using h);have e:∀ j,(zME (t::r))[j+3]? = (zME r)[j]?:=λj=>rfl
  rw [show (i+1) * 3=i * 3+3 by omega,show i * 3+3+1=i * 3+1+3 by omega,show i * 3+3+2=i * 3+2+3 by omega,e,e,e];exact ⟨h0,h1,h2⟩
theorem zOa (ts:List Wlx.Tok):zME (ts.map Wlx.tv)=zOV ts:=by
 induction ts with
 | nil=>rfl
 | cons t r ih =>
  show tv3 (Wlx.tv t)++zME (r.map Wlx.tv)=zQx t++zOV r
  rw [ih];rfl
