/- LPlainE, LPlainF, LRefB. -/
import Derived.Test.YtlggnpohhahdlaaGreatDoorQ42
set_option maxHeartbeats 400000
set_option maxRecDepth 100000
namespace Wlx
set_option linter.unusedVariables false
structure At (k:Nat) (u r:List UInt8):Prop where
 hk:hit (u++r)=k
 h6:¬ k=6
 hn:sz k (u++r)=u.length
 h32:¬ (u++r).head? = some 32
theorem At.pos {k:Nat} {u r:List UInt8} (h:At k u r):0<u.length:=by
 have:=hit_pos (l:=u++r) (by rw [h.hk];exact h.h6);rw [h.hk,h.hn] at this;exact this
theorem At.cons {k:Nat} {u r:List UInt8} (h:At k u r):∃ c t,u=c::t:=by
 have:=h.pos;cases u with
 | nil=>simp at this
 | cons c t=>exact ⟨c,t,rfl⟩
theorem At.ctx {k:Nat} {u r' r:List UInt8} (h:At k u r') (hx:Nx k r' r):At k u r:=by
 obtain ⟨h1,h2⟩:=Wlx.ctx h.hk h.h6 h.hn hx;obtain ⟨c,t,rfl⟩:=h.cons;exact ⟨h1,h.h6,h2,h.h32⟩
def Ok (p:Nat) (l:List UInt8) (ts:List Tok):Prop:=scan p l=Res.ok ts
def Er (p:Nat) (l:List UInt8) (c q:Nat):Prop:=scan p l=Res.err c q
theorem at_of {c:UInt8} {t:List UInt8} (h:¬ c=32) (h6:¬ hit (c::t)=6):At (hit (c::t)) ((c::t).take (sz (hit (c::t)) (c::t))) ((c::t).drop (sz (hit (c::t)) (c::t))):=by
 have hl:((c::t).take (sz (hit (c::t)) (c::t))).length=sz (hit (c::t)) (c::t):=by
  rw [List.length_take];exact Nat.min_eq_left (sz_le _ _)
 refine ⟨by rw [List.take_append_drop],h6,by rw [List.take_append_drop,hl],?_⟩;rw [List.take_append_drop];exact fun e=>h (Option.some.inj e)
theorem scan_at {p k:Nat} {u r:List UInt8} (ha:At k u r):scan p (u++r)=if runP prt u<u.length then Res.err 40 (p+runP prt u) else Res.cons ⟨k,said k u,p⟩ (scan (p+u.length) r):=by
 obtain ⟨c,t,rfl⟩:=ha.cons;have e1:(c::t++r).take (c::t).length=c::t:=List.take_left;have e2:(c::t++r).drop (c::t).length=r:=List.drop_left;have hc:¬ c=32:=fun e=>ha.h32 (by rw [e];rfl)
 by_cases hb:runP prt (c::t)<(c::t).length
 ·rw [if_pos hb];have:=scan_bad (p:=p) hc (c:=c) (t:=t++r) (n:=(c::t).length) ha.hk ha.h6 ha.hn (by have:=e1;rw [List.cons_append] at this;rw [this];exact hb);rw [List.cons_append] at e1;rw [e1] at this;exact this
 ·rw [if_neg hb];rw [List.cons_append] at e1 e2;have:=scan_tok (p:=p) hc (c:=c) (t:=t++r) (n:=(c::t).length) ha.hk ha.h6 ha.hn (by rw [e1];exact hb);rw [e1,e2] at this;exact this
theorem Ok.nil (p:Nat):Ok p [] []:=scan_nil p
theorem Ok.blank {p:Nat} {t:List UInt8} {ts:List Tok} (h:Ok (p+1) t ts):Ok p (32::t) ts:=by unfold Ok;rw [scan_blank];exact h
theorem Ok.tok {p k:Nat} {u r:List UInt8} {ts:List Tok} (ha:At k u r) (hp:¬ runP prt u<u.length) (h:Ok (p+u.length) r ts):Ok p (u++r) (⟨k,said k u,p⟩::ts):=by
 unfold Ok at *;rw [scan_at ha,if_neg hp,h];rfl
theorem Er.blank {p:Nat} {t:List UInt8} {c q:Nat} (h:Er (p+1) t c q):Er p (32::t) c q:=by unfold Er;rw [scan_blank];exact h
theorem Er.none {p:Nat} {c:UInt8} {t:List UInt8} (h:¬ c=32) (h6:hit (c::t)=6):Er p (c::t) (if c=34 then 41 else 40) p:=scan_none h h6
theorem Er.bad {p k:Nat} {u r:List UInt8} (ha:At k u r) (hp:runP prt u<u.length):Er p (u++r) 40 (p+runP prt u):=by
 unfold Er;rw [scan_at ha,if_pos hp]
theorem Er.tok {p k:Nat} {u r:List UInt8} {c q:Nat} (ha:At k u r) (hp:¬ runP prt u<u.length) (h:Er (p+u.length) r c q):Er p (u++r) c q:=by
 unfold Er at *;rw [scan_at ha,if_neg hp,h];rfl
theorem ok_inj {a b:List Tok} (h:Res.ok a=Res.ok b):a=b:=Sum.inl.inj h
theorem err_inj {a b c d:Nat} (h:Res.err a b=Res.err c d):a=c∧b=d:=by
 have:=Sum.inr.inj h;exact ⟨(Prod.mk.inj this).1,(Prod.mk.inj this).2⟩
theorem view (p:Nat) (l:List UInt8):l=[] ∨ (∃ t,l=32::t) ∨ (∃ c t,l=c::t∧¬ c=32∧hit (c::t)=6) ∨ ∃ k u r,l=u++r∧At k u r:=by
 cases l with
 | nil=>exact Or.inl rfl
 | cons c t =>
  by_cases hc:c=32
  ·exact Or.inr (Or.inl ⟨t,by rw [hc]⟩)
  ·by_cases h6:hit (c::t)=6
   ·exact Or.inr (Or.inr (Or.inl ⟨c,t,rfl,hc,h6⟩))
   ·exact Or.inr (Or.inr (Or.inr ⟨_,_,_,(List.take_append_drop _ _).symm,at_of hc h6⟩))
theorem ok_steps {motive:Nat→List UInt8→List Tok→Prop} (nil:∀ p,motive p [] []) (blank:∀ p t ts,Ok (p+1) t ts→motive (p+1) t ts→motive p (32::t) ts)
  (tok:∀ p k u r ts,At k u r→¬ runP prt u<u.length→Ok (p+u.length) r ts→motive (p+u.length) r ts→motive p (u++r) (⟨k,said k u,p⟩::ts)) :
  ∀ (n p:Nat) (l:List UInt8) (ts:List Tok),l.length≤n→Ok p l ts→motive p l ts:=by
 intro n;induction n with
 | zero =>
  intro p l ts hl h;obtain rfl:=List.eq_nil_of_length_eq_zero (Nat.le_zero.1 hl);obtain rfl:=ok_inj ((scan_nil p).symm.trans h);exact nil p
 | succ n ih =>
  intro p l ts hl h;rcases view p l with rfl | ⟨t,rfl⟩ | ⟨c,t,rfl,hc,h6⟩ | ⟨k,u,r,rfl,ha⟩
  ·obtain rfl:=ok_inj ((scan_nil p).symm.trans h);exact nil p
  ·simp only [List.length_cons] at hl;have h2:Ok (p+1) t ts:=by unfold Ok at *;rw [scan_blank] at h;exact h
   exact blank p t ts h2 (ih _ _ _ (by omega) h2)
  ·unfold Ok at h;rw [scan_none hc h6] at h;cases h
  ·have hpos:=ha.pos;rw [List.length_append] at hl;unfold Ok at h;rw [scan_at ha] at h;by_cases hb:runP prt u<u.length
   ·rw [if_pos hb] at h;cases h
   ·rw [if_neg hb] at h;cases hs:scan (p+u.length) r with
    | inl ts' =>
     rw [hs] at h;obtain rfl:=ok_inj h;exact tok p k u r ts' ha hb hs (ih _ _ _ (by omega) hs)
    | inr x=>rw [hs] at h;cases h
theorem er_steps {motive:Nat→List UInt8→Nat→Nat→Prop} (blank:∀ p t c q,Er (p+1) t c q→motive (p+1) t c q→motive p (32::t) c q)
  (none:∀ p c t,¬ c=32→hit (c::t)=6→motive p (c::t) (if c=34 then 41 else 40) p) (bad:∀ p k u r,At k u r→runP prt u<u.length→motive p (u++r) 40 (p+runP prt u))
  (tok:∀ p k u r c q,At k u r→¬ runP prt u<u.length→Er (p+u.length) r c q→motive (p+u.length) r c q→motive p (u++r) c q) :
  ∀ (n p:Nat) (l:List UInt8) (c q:Nat),l.length≤n→Er p l c q→motive p l c q:=by
 intro n;induction n with
 | zero =>
  intro p l c q hl h;obtain rfl:=List.eq_nil_of_length_eq_zero (Nat.le_zero.1 hl);unfold Er at h;rw [scan_nil] at h;cases h
 | succ n ih =>
  intro p l c q hl h;rcases view p l with rfl | ⟨t,rfl⟩ | ⟨c',t,rfl,hc,h6⟩ | ⟨k,u,r,rfl,ha⟩
  ·unfold Er at h;rw [scan_nil] at h;cases h
  ·simp only [List.length_cons] at hl;have h2:Er (p+1) t c q:=by unfold Er at *;rw [scan_blank] at h;exact h
   exact blank p t c q h2 (ih _ _ _ _ (by omega) h2)
  ·unfold Er at h;rw [scan_none hc h6] at h;obtain ⟨rfl,rfl⟩:=err_inj h;exact none p c' t hc h6
  ·have hpos:=ha.pos;rw [List.length_append] at hl;unfold Er at h;rw [scan_at ha] at h;by_cases hb:runP prt u<u.length
   ·rw [if_pos hb] at h;obtain ⟨rfl,rfl⟩:=err_inj h;exact bad p k u r ha hb
   ·rw [if_neg hb] at h;cases hs:scan (p+u.length) r with
    | inl ts'=>rw [hs] at h;cases h
    | inr x =>
     obtain ⟨c',q'⟩:=x;rw [hs] at h;obtain ⟨rfl,rfl⟩:=err_inj h;exact tok p k u r c' q' ha hb hs (ih _ _ _ _ (by omega) hs)
theorem Ok.ind {motive:∀ p l ts,Ok p l ts→Prop} (nil:∀ p,motive p [] [] (Ok.nil p)) (blank:∀ {p:Nat} {t:List UInt8} {ts:List Tok} (h:Ok (p+1) t ts),motive (p+1) t ts h→motive p (32::t) ts (Ok.blank h))
  (tok:∀ {p k:Nat} {u r:List UInt8} {ts:List Tok} (ha:At k u r) (hp:¬ runP prt u<u.length) (h:Ok (p+u.length) r ts),motive (p+u.length) r ts h→motive p (u++r) (⟨k,said k u,p⟩::ts) (Ok.tok ha hp h))
  {p:Nat} {l:List UInt8} {ts:List Tok} (h:Ok p l ts):motive p l ts h :=
 ok_steps (motive:=fun p l ts=>∀ h:Ok p l ts,motive p l ts h) (fun p _=>nil p) (fun p t ts h ih _=>blank h (ih h)) (fun p k u r ts ha hp h ih _=>tok ha hp h (ih h)) l.length p l ts (Nat.le_refl _) h h
theorem Er.ind {motive:∀ p l c q,Er p l c q→Prop} (blank:∀ {p:Nat} {t:List UInt8} {c q:Nat} (h:Er (p+1) t c q),motive (p+1) t c q h→motive p (32::t) c q (Er.blank h))
  (none:∀ {p:Nat} {c:UInt8} {t:List UInt8} (h:¬ c=32) (h6:hit (c::t)=6),motive p (c::t) (if c=34 then 41 else 40) p (Er.none h h6)) (bad:∀ {p k:Nat} {u r:List UInt8} (ha:At k u r) (hp:runP prt u<u.length),motive p (u++r) 40 (p+runP prt u) (Er.bad ha hp))
  (tok:∀ {p k:Nat} {u r:List UInt8} {c q:Nat} (ha:At k u r) (hp:¬ runP prt u<u.length) (h:Er (p+u.length) r c q),motive (p+u.length) r c q h→motive p (u++r) c q (Er.tok ha hp h))
  {p:Nat} {l:List UInt8} {c q:Nat} (h:Er p l c q):motive p l c q h :=
 er_steps (motive:=fun p l c q=>∀ h:Er p l c q,motive p l c q h) (fun p t c q h ih _=>blank h (ih h)) (fun p c t h h6 _=>none h h6) (fun p k u r ha hp _=>bad ha hp) (fun p k u r c q ha hp h ih _=>tok ha hp h (ih h)) l.length p l c q (Nat.le_refl _) h h
theorem Ok.scan {p:Nat} {l:List UInt8} {ts:List Tok} (h:Ok p l ts):scan p l=Res.ok ts:=h
theorem Er.scan {p:Nat} {l:List UInt8} {c q:Nat} (h:Er p l c q):scan p l=Res.err c q:=h
theorem hit_point (t:List UInt8):hit (46::t)=6:=by
 by_cases h:hit (46::t)=6
 ·exact h
 ·rcases kind_of rfl h with h | h | h | h | h <;> exact absurd h.2 (by decide)
theorem Ok.head {p:Nat} {l:List UInt8} {ts:List Tok} (h:Ok p l ts):¬ l.head? = some 46:=by
 induction h using Ok.ind with
 | nil=>simp
 | blank h=>simp
 | tok ha hp h =>
  obtain ⟨c,t,rfl⟩:=ha.cons;intro e;obtain rfl:c=46:=Option.some.inj e;have:=ha.hk;rw [List.cons_append,hit_point] at this;exact ha.h6 this.symm
theorem Ok.count {p:Nat} {l:List UInt8} {ts:List Tok} (h:Ok p l ts):ts.length≤l.length∧∀ t ∈ ts,p≤t.p∧t.p<p+l.length∧1≤t.k∧t.k≤5∧t.t.length≤l.length:=by
 induction h using Ok.ind with
 | nil p=>simp
 | blank h ih =>
  refine ⟨by simp only [List.length_cons];omega,fun t ht=>?_⟩;have:=ih.2 t ht;simp only [List.length_cons];omega
 | @tok p k u r ts ha hp h ih =>
  have h0:=ha.pos;rw [List.length_append];refine ⟨by simp only [List.length_cons];omega,fun t ht=>?_⟩;rcases List.mem_cons.1 ht with rfl | ht
  ·have h1:=hit_low (u++r);have h2:=hit_high (u++r);have h6:=ha.h6;rw [ha.hk] at h1 h2;refine ⟨Nat.le_refl _,by show p<_;omega,h1,by show k≤5;omega,?_⟩;show (said k u).length≤_
   have hu:∀ l:List UInt8,(undbl l).length≤l.length:=by
    intro l;fun_induction undbl l with
    | case1=>exact Nat.le_refl _
    | case2=>exact Nat.le_refl _
    | case3 c d t hcd ih=>simp only [List.length_cons];omega
    | case4 c d t hcd ih=>simp only [List.length_cons] at *;omega
   unfold said;split
   ·have:=hu ((u.drop 1).take (u.length - 2));rw [List.length_take,List.length_drop] at this;omega
   ·omega
  ·have:=ih.2 t ht;omega
end Wlx
namespace Wlx
theorem undbl_other {c:UInt8} (h:¬ c=34) (m:List UInt8):undbl (c::m)=c::undbl m:=by
 cases m with
 | nil=>rfl
 | cons d t =>
  conv=>lhs;unfold undbl
  rw [if_neg (fun e=>h e.1)]
theorem undbl_two (m:List UInt8):undbl (34::34::m)=34::undbl m:=by
 conv=>lhs;unfold undbl
 rw [if_pos ⟨rfl,rfl⟩]
theorem dbl_other {c:UInt8} (h:¬ c=34) (m:List UInt8):dbl (c::m)=c::dbl m:=by
 show (if c=34 then 34::34::dbl m else c::dbl m)=_
 rw [if_neg h]
theorem dbl_quote (m:List UInt8):dbl (34::m)=34::34::dbl m:=rfl
theorem text_form:∀ (n:Nat) (a:List UInt8) (i:Nat) (r:List UInt8),a.length≤n→1≤i→quo true i (a++r)=i+a.length→∃ mid,a=mid++[34]∧dbl (undbl mid)=mid:=by
 intro n;induction n with
 | zero =>
  intro a i r hl hi h;obtain rfl:=List.eq_nil_of_length_eq_zero (Nat.le_zero.1 hl);have:=(quo_stop hi h).1;cases this
 | succ n ih =>
  intro a i r hl hi h;cases a with
  | nil=>have:=(quo_stop hi h).1;cases this
  | cons c a =>
   simp only [List.length_cons] at hl h;rw [List.cons_append] at h;by_cases hc:c=34
   ·subst hc;rw [quo_hit] at h;cases a with
    | nil=>exact ⟨[],rfl,rfl⟩
    | cons d a =>
     simp only [List.length_cons] at hl h;rw [List.cons_append] at h;by_cases hd:d=34
     ·subst hd;rw [quo_hit] at h;obtain ⟨mid,rfl,hm⟩:=ih a (i+1+1) r (by omega) (by omega) (by have:(!!true)=true:=rfl;rw [this] at h;omega);exact ⟨34::34::mid,rfl,by rw [undbl_two,dbl_quote,hm]⟩
     ·rw [show (!true)=false from rfl,quo_out hd] at h;omega
   ·rw [quo_in hc] at h;obtain ⟨mid,rfl,hm⟩:=ih a (i+1) r (by omega) (by omega) (by omega);exact ⟨c::mid,rfl,by rw [undbl_other hc,dbl_other hc,hm]⟩
theorem At.writ {k:Nat} {u r:List UInt8} (h:At k u r):writ k (said k u)=u:=by
 by_cases hk:k=2
 ·subst hk;obtain ⟨c,t,rfl⟩:=h.cons;have hn:txtSz (c::(t++r))=(c::t).length:=h.hn;have hc:c=34:=txtSz_pos (by rw [hn];exact h.pos);subst hc;have e:txtSz (34::(t++r))=quo true 1 (t++r):=rfl;rw [e] at hn;simp only [List.length_cons] at hn;obtain ⟨mid,rfl,hm⟩:=text_form _ t 1 r (Nat.le_refl _) (Nat.le_refl _) (by omega);unfold Wlx.writ said;rw [if_pos rfl,if_pos rfl];have e2:(((34::(mid++[34])).drop 1).take ((34::(mid++[34])).length - 2))=mid:=by
   have:(34::(mid++[34])).length - 2=mid.length:=by simp
   rw [this];exact List.take_left
  rw [e2,hm]
 ·unfold Wlx.writ said;rw [if_neg hk,if_neg hk]
def joinT:Bool→List Tok→List UInt8
 | _,[]=>[]
 | f,t::r=>(if f then [] else [32])++writ t.k t.t++joinT false r
theorem joinT_nx (k:Nat) (r':List UInt8) (ts:List Tok):Nx k r' (joinT false ts):=by
 cases ts with
 | nil=>exact ⟨Or.inr (Or.inl rfl),fun _ h=>by cases h⟩
 | cons t r=>exact ⟨Or.inr (Or.inr (Or.inl rfl)),fun _ h=>absurd (Option.some.inj h) (by decide)⟩
theorem Ok.back {p:Nat} {l:List UInt8} {ts:List Tok} (h:Ok p l ts):∀ (q:Nat) (f:Bool),∃ ts',Ok q (joinT f ts) ts'∧ts'.map (fun t=>(t.k,t.t))=ts.map (fun t=>(t.k,t.t)):=by
 induction h using Ok.ind with
 | nil p=>intro q f;exact ⟨[],Ok.nil q,rfl⟩
 | blank h ih=>exact ih
 | @tok p k u r ts ha hp h ih =>
  intro q f;have hw:∀ q,∃ ts',Ok q (u++joinT false ts) ts'∧ts'.map (fun t=>(t.k,t.t))=(⟨k,said k u,p⟩::ts:List Tok).map (fun t=>(t.k,t.t)):=by
   intro q;obtain ⟨ts',h1,h2⟩:=ih (q+u.length) false;exact ⟨⟨k,said k u,q⟩::ts',Ok.tok (ha.ctx (joinT_nx k r ts)) hp h1,by simp [h2]⟩
  have e:joinT f (⟨k,said k u,p⟩::ts)=(if f then [] else [32])++u++joinT false ts:=by
   show (if f then [] else [32])++Wlx.writ k (said k u)++joinT false ts=_
   rw [ha.writ]
  rw [e];cases f with
  | true=>exact hw q
  | false =>
   obtain ⟨ts',h1,h2⟩:=hw (q+1);exact ⟨ts',Ok.blank h1,h2⟩
def shift (b:Nat) (t:Tok):Tok:=⟨t.k,t.t,t.p+b⟩
theorem Ok.shift {p:Nat} {l:List UInt8} {ts:List Tok} (h:Ok p l ts) (b:Nat):Ok (p+b) l (ts.map (shift b)):=by
 induction h using Ok.ind with
 | nil p=>exact Ok.nil _
 | blank h ih=>exact Ok.blank (by rw [Nat.add_right_comm];exact ih)
 | tok ha hp h ih=>exact Ok.tok ha hp (by rw [Nat.add_right_comm];exact ih)
theorem Ok.blanks {l:List UInt8} {ts:List Tok}:∀ (b p:Nat),Ok (p+b) l ts→Ok p (List.replicate b 32++l) ts
 | 0,p,h=>h
 | b+1,p,h=>by
  rw [List.replicate_succ,List.cons_append];exact Ok.blank (Ok.blanks b (p+1) (by rw [Nat.add_right_comm,Nat.add_assoc];exact h))
def place (p:Nat) (l:List UInt8) (ts:List Tok) (i:Nat):Nat:=if h:i<ts.length then (ts[i]).p - p else l.length
theorem Ok.put {p:Nat} {l:List UInt8} {ts:List Tok} (h:Ok p l ts) (b:Nat) (hb:0<b):∀ i,i≤ts.length→Ok p (l.take (place p l ts i)++(List.replicate b 32++l.drop (place p l ts i))) (ts.take i++(ts.drop i).map (Wlx.shift b)):=by
 induction h using Ok.ind with
 | nil p =>
  intro i hi;have e:place p [] [] i=0:=by unfold place;rw [dif_neg (by simp)];rfl
  rw [e];have:=Ok.blanks b p (Ok.nil (p+b));simpa using this
 | @blank p t ts h ih =>
  intro i hi;have e:place p (32::t) ts i=place (p+1) t ts i+1:=by
   unfold place;by_cases hl:i<ts.length
   ·rw [dif_pos hl,dif_pos hl];have:=(h.count.2 (ts[i]) (List.getElem_mem hl)).1;omega
   ·rw [dif_neg hl,dif_neg hl];rfl
  rw [e];exact Ok.blank (ih i hi)
 | @tok p k u r ts ha hp h ih =>
  intro i hi;cases i with
  | zero =>
   have e:place p (u++r) (⟨k,said k u,p⟩::ts) 0=0:=by unfold place;rw [dif_pos (by simp)];exact Nat.sub_self p
   rw [e];exact Ok.blanks b p ((Ok.tok ha hp h).shift b)
  | succ i =>
   simp only [List.length_cons] at hi;have e:place p (u++r) (⟨k,said k u,p⟩::ts) (i+1)=u.length+place (p+u.length) r ts i:=by
    unfold place;by_cases hl:i<ts.length
    ·rw [dif_pos hl,dif_pos (by simpa using hl),List.getElem_cons_succ];have:=(h.count.2 (ts[i]) (List.getElem_mem hl)).1;omega
    ·rw [dif_neg hl,dif_neg (by simpa using hl),List.length_append]
   have hi2:=ih i (by omega);generalize place (p+u.length) r ts i=A at e hi2;rw [e,List.take_append,List.drop_append,Nat.add_sub_cancel_left,List.take_of_length_le (by omega),List.drop_eq_nil_of_le (by omega),List.nil_append,List.append_assoc];have hx:Nx k r (r.take A++(List.replicate b 32++r.drop A)):=by
    obtain ⟨b',rfl⟩:∃ b',b=b'+1:=⟨b - 1,by omega⟩
    cases r with
    | nil=>exact ⟨Or.inr (Or.inr (Or.inl (by simp [List.replicate_succ]))),fun _ h=>by simp [List.replicate_succ] at h⟩
    | cons x y =>
     cases A with
     | zero=>exact ⟨Or.inr (Or.inr (Or.inl (by simp [List.replicate_succ]))),fun _ h=>by simp [List.replicate_succ] at h⟩
     | succ A=>exact ⟨Or.inl rfl,fun _ h2=>h.head h2⟩
   exact Ok.tok (ha.ctx hx) hp hi2
theorem Ok.next {p:Nat} {l:List UInt8} {t:Tok} {ts:List Tok} (h:Ok p l (t::ts)):∃ (b:Nat) (u r:List UInt8),l=List.replicate b 32++(u++r)∧t=⟨t.k,said t.k u,p+b⟩∧At t.k u r∧Ok (p+b+u.length) r ts:=by
 generalize hx:t::ts=xs at h;induction h using Ok.ind with
 | nil p=>cases hx
 | blank h ih =>
  obtain ⟨b,u,r,rfl,h2,h3,h4⟩:=ih hx;refine ⟨b+1,u,r,rfl,?_,h3,?_⟩
  ·rw [show ∀ p:Nat,p+(b+1)=p+1+b by intro p;omega];exact h2
  ·rw [show ∀ p:Nat,p+(b+1)+u.length=p+1+b+u.length by intro p;omega];exact h4
 | tok ha hp h ih =>
  cases hx
  exact ⟨0,_,_,rfl,rfl,ha,h⟩
theorem Ok.last {p:Nat} {l:List UInt8} (h:Ok p l []):l=List.replicate l.length 32:=by
 generalize hx:([]:List Tok)=xs at h;induction h using Ok.ind with
 | nil p=>rfl
 | blank h ih=>rw [List.length_cons,List.replicate_succ,←ih hx]
 | tok ha hp h ih=>cases hx
theorem prt_wrd:∀ c:UInt8,(wrd c=true→prt c=true)∧(dig c=true→prt c=true)∧prt 34=true∧prt 46=true:=by
 intro c;have key:∀ n:Fin 256,(wrd (UInt8.ofNat n)=true→prt (UInt8.ofNat n)=true)∧(dig (UInt8.ofNat n)=true→prt (UInt8.ofNat n)=true)∧prt 34=true∧prt 46=true:=by decide +kernel
 have:=key ⟨c.toNat,c.toNat_lt⟩;simpa using this
theorem runP_full {p:UInt8→Bool}:∀ (u:List UInt8),(∀ c ∈ u,p c=true)→runP p u=u.length
 | [],_=>rfl
 | c::t,h=>by rw [runP_pos (h c (by simp)),runP_full t (fun x hx=>h x (by simp [hx]))];rfl
theorem runP_mem {p:UInt8→Bool}:∀ (u:List UInt8),¬ runP p u<u.length→∀ c ∈ u,p c=true
 | [],_,c,hc=>by cases hc
 | d::t,h,c,hc=>by
  cases hd:p d with
  | false=>rw [runP_neg hd] at h;simp at h
  | true =>
   rw [runP_pos hd] at h;simp only [List.length_cons] at h;rcases List.mem_cons.1 hc with rfl | hc
   ·exact hd
   ·exact runP_mem t (by omega) c hc
theorem bad_text {k:Nat} {u r:List UInt8} (ha:At k u r) (hp:runP prt u<u.length):k=2:=by
 have h0:=ha.pos;have hn:=ha.hn;have h1:=hit_low (u++r);have h2:=hit_high (u++r);rw [ha.hk] at h1 h2;have h6:=ha.h6;have:k=1 ∨ k=2 ∨ k=3 ∨ k=4 ∨ k=5:=by omega
 rcases this with rfl | rfl | rfl | rfl | rfl
 ·exfalso
  have hn:numSz (u++r)=u.length:=hn;have hall:∀ c ∈ u,prt c=true:=by
   unfold numSz at hn;by_cases hz:runP dig (u++r)=0
   ·rw [if_pos hz] at hn;omega
   ·rw [if_neg hz,runP_app] at hn;by_cases hd:runP dig u<u.length
    ·rw [if_pos hd,List.drop_append_of_le_length (by omega)] at hn;have hu:u=u.take (runP dig u)++u.drop (runP dig u):=(List.take_append_drop _ _).symm;have htk:∀ (l:List UInt8),∀ c ∈ l.take (runP dig l),dig c=true:=by
      intro l;induction l with
      | nil=>intro c hc;simp [runP] at hc
      | cons a b ih =>
       intro c hc;cases hda:dig a with
       | false=>rw [runP_neg hda] at hc;simp at hc
       | true =>
        rw [runP_pos hda,List.take_succ_cons] at hc;rcases List.mem_cons.1 hc with rfl | hc
        ·exact hda
        ·exact ih c hc
     cases hdd:u.drop (runP dig u) with
     | nil =>
      have:=congrArg List.length hdd;simp only [List.length_drop,List.length_nil] at this;omega
     | cons x y =>
      have hy:runP dig u+1+y.length=u.length:=by
       have:=congrArg List.length hdd;simp only [List.length_drop,List.length_cons] at this;omega
      rw [hdd,List.cons_append,numTl_cons] at hn;by_cases hc:x=46∧0<runP dig (y++r)
      ·rw [if_pos hc] at hn;have e:runP dig (y++r)=y.length:=by omega
       rw [runP_app] at e;have hyl:=runP_le dig y;have hb:¬ runP dig y<y.length:=fun hb=>by rw [if_pos hb] at e;omega
       intro c hc2;rw [hu,hdd] at hc2;rcases List.mem_append.1 hc2 with h | h
       ·exact (prt_wrd c).2.1 (htk u c h)
       ·rcases List.mem_cons.1 h with rfl | h
        ·rw [hc.1];decide
        ·exact (prt_wrd c).2.1 (runP_mem y hb c h)
      ·rw [if_neg hc] at hn;omega
    ·exact fun c hc=>(prt_wrd c).2.1 (runP_mem u hd c hc)
  rw [runP_full u hall] at hp;omega
 ·rfl
 ·exfalso
  have hn:runP wrd (u++r)=u.length:=hn;rw [runP_app] at hn;have hd:¬ runP wrd u<u.length:=fun hd=>by rw [if_pos hd] at hn;omega
  rw [runP_full u (fun c hc=>(prt_wrd c).1 (runP_mem u hd c hc))] at hp;omega
 ·exfalso
  have:=name_mem h0 faults hn;have g:∀ n ∈ faults,runP prt n=n.length:=by decide
  rw [g u this] at hp;omega
 ·exfalso
  have:=name_mem h0 marks hn;have g:∀ n ∈ marks,runP prt n=n.length:=by decide
  rw [g u this] at hp;omega
end Wlx
namespace Wlx
def badV (q:Nat) (x:List UInt8):Int:=if runP prt x<x.length then ((q+1+runP prt x:Nat):Int) else -1
theorem badV_neg {q:Nat} {x:List UInt8}:badV q x<0 ↔ ¬ runP prt x<x.length:=by
 unfold badV;by_cases h:runP prt x<x.length
 ·rw [if_pos h];omega
 ·rw [if_neg h];omega
theorem badV_good {q:Nat} {x:List UInt8} {c:UInt8} (hc:prt c=true):badV q (x++[c])=badV q x:=by
 unfold badV;rw [runP_app,List.length_append];have hl:=runP_le prt x;by_cases h:runP prt x<x.length
 ·rw [if_pos h,if_pos h,if_pos (by simp only [List.length_cons,List.length_nil];omega)]
 ·rw [if_neg h,if_neg h,runP_pos hc];rw [if_neg (by simp [runP])]
theorem badV_bad {q:Nat} {x:List UInt8} {c:UInt8} (hc:prt c=false) (h:badV q x<0):badV q (x++[c])=((q+1+x.length:Nat):Int):=by
 have h:=badV_neg.1 h;unfold badV;rw [runP_app,List.length_append,if_neg h,runP_neg hc,if_pos (by simp)];rfl
theorem badV_old {q:Nat} {x:List UInt8} {c:UInt8} (h:¬ badV q x<0):badV q (x++[c])=badV q x:=by
 have h:runP prt x<x.length:=by
  by_cases hh:runP prt x<x.length
  ·exact hh
  ·exact absurd (badV_neg.2 hh) h
 unfold badV;rw [runP_app,List.length_append,if_pos h,if_pos h,if_pos (by omega)]
end Wlx
namespace Go.Proofs.YtlggnpohhahdlaaGreatDoor
open Go.Shelf Go.RowKit
set_option linter.unusedVariables false
theorem byte_of {b:ByteArray} {e:Nat} {x:List UInt8} {c:UInt8} {y:List UInt8} (hd:b.data.toList.drop e=x++c::y):∃ h:e+x.length<b.size,b[e+x.length]=c:=by
 have hlen:e+x.length<b.size:=by
  have:=congrArg List.length hd;simp only [List.length_drop,List.length_append,List.length_cons] at this;have e2:b.data.toList.length=b.size:=rfl;omega
 refine ⟨hlen,?_⟩;have e1:b.data.toList[e+x.length]? = some b[e+x.length]:=List.getElem?_eq_getElem (by exact hlen);rw [←List.getElem?_drop,hd,List.getElem?_append_right (Nat.le_refl _),Nat.sub_self] at e1;exact (Option.some.inj e1).symm
theorem size_of {b:ByteArray} {e:Nat} {x:List UInt8} (he:e≤b.size) (hd:b.data.toList.drop e=x):e+x.length=b.size:=by
 have:=congrArg List.length hd;simp only [List.length_drop] at this;have e2:b.data.toList.length=b.size:=rfl;omega
def TextPost (q:Nat) (l:List UInt8) (e:Ending):Prop :=
 (Wlx.txtSz l=0∧e=.returned (.tuple #[.string ⟨#[]⟩,.int .i64 0,.int .i64 41,.int .i64 q])) ∨
 (0<Wlx.txtSz l∧Wlx.runP Wlx.prt (l.take (Wlx.txtSz l))<Wlx.txtSz l∧e=.returned (.tuple #[.string ⟨#[]⟩,.int .i64 0,.int .i64 40,.int .i64 ((q+Wlx.runP Wlx.prt (l.take (Wlx.txtSz l)):Nat):Int)])) ∨
 (0<Wlx.txtSz l∧¬ Wlx.runP Wlx.prt (l.take (Wlx.txtSz l))<Wlx.txtSz l∧e=.returned (.tuple #[.string ⟨(Wlx.said 2 (l.take (Wlx.txtSz l))).toArray⟩,.int .i64 ((q+Wlx.txtSz l:Nat):Int),.int .i64 0,.int .i64 0]))
theorem text_end {q:Nat} {x y acc:List UInt8} {e:Ending} (hu:∀ z,Wlx.undbl (x++z)=acc++Wlx.undbl z) (hq:Wlx.quo true 1 (x++34::y)=x.length+2)
  (h:(Wlx.badV q x<0∧e=.returned (.tuple #[.string ⟨acc.toArray⟩,.int .i64 ((q+1+x.length+1:Nat):Int),.int .i64 0,.int .i64 0])) ∨ (¬ Wlx.badV q x<0∧e=.returned (.tuple #[.string ⟨#[]⟩,.int .i64 0,.int .i64 40,.int .i64 (Wlx.badV q x)]))) :
  TextPost q (34::(x++34::y)) e:=by
 have hs:Wlx.txtSz (34::(x++34::y))=x.length+2:=hq;have ht:(34::(x++34::y)).take (x.length+2)=34::(x++[34]):=by
  rw [List.take_succ_cons,List.take_append,List.take_of_length_le (by omega)];have:x.length+1 - x.length=1:=by omega
  rw [this];rfl
 have hr:Wlx.runP Wlx.prt (34::(x++[34]))=if Wlx.runP Wlx.prt x<x.length then 1+Wlx.runP Wlx.prt x else x.length+2:=by
  rw [Wlx.runP_pos (by decide),Wlx.runP_app];split
  ·omega
  ·rw [Wlx.runP_pos (by decide)];show x.length+(0+1)+1=_;omega
 unfold TextPost;rw [hs,ht,hr];right
 have hle:=Wlx.runP_le Wlx.prt x;rcases h with ⟨hb,rfl⟩ | ⟨hb,rfl⟩
 ·right
  have hb:=Wlx.badV_neg.1 hb;rw [if_neg hb];have hsd:Wlx.said 2 (34::(x++[34]))=acc:=by
   unfold Wlx.said;rw [if_pos rfl];have:(((34::(x++[34])):List UInt8).drop 1).take ((34::(x++[34])).length - 2)=x:=by
    have e1:(34::(x++[34])).length - 2=x.length:=by simp
    rw [e1];exact List.take_left
   rw [this];have:=hu [];rw [List.append_nil] at this;rw [this];show acc++[]=acc
   rw [List.append_nil]
  refine ⟨by omega,by omega,?_⟩;rw [hsd];exact congrArg (fun z=>Ending.returned (.tuple #[.string ⟨acc.toArray⟩,.int .i64 z,.int .i64 0,.int .i64 0])) (by omega)
 ·left
  have hb2:Wlx.runP Wlx.prt x<x.length:=by
   by_cases hh:Wlx.runP Wlx.prt x<x.length
   ·exact hh
   ·exact absurd (Wlx.badV_neg.2 hh) hb
  rw [if_pos hb2];refine ⟨by omega,by omega,?_⟩;have:Wlx.badV q x=((q+(1+Wlx.runP Wlx.prt x):Nat):Int):=by unfold Wlx.badV;rw [if_pos hb2];omega
  rw [this]
end Go.Proofs.YtlggnpohhahdlaaGreatDoor
