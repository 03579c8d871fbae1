/- TSiB, TTie, TRow, MKit, MWalkB. -/
import Derived.Test.YtdghjlmnlodnlaaGreatDoorQ18
set_option maxHeartbeats 8000000
set_option maxRecDepth 100000
namespace Go.Proofs.YtdghjlmnlodnlaaGreatDoor
open Tryz
open Go.RowKit Go.Shelf
set_option linter.unusedVariables false
variable {W w:World} {k:Nat} {x:Wt.Nd} {op:Oper} {a:Act} {Q:Exit->Act->World->Prop} {us:List Value}
def zOt (kp:Nat) (en:Int) (F:Nat) (K:Int) (sub:List Wlx.TV->PR) (n:Nat):Prop :=
 ∀ (ts:List Wlx.TV) (w:World),PSt w kp ts en->ts.length<=n->ts.length<=1024->(∀ t ∈ ts,zAP t)->(hd ts en).k=K->Env w->Calls prog F #[.pointer (some ⟨kp,0,none⟩)] w λe w'=>zAN kp en (sub ts) w e w'
theorem zMI (kp:Nat) (en:Int) (subW subB:List Wlx.TV->PR) (n:Nat) (HW:zOt kp en 177 3 subW n) (HB:zOt kp en 178 5 subB n) (ts:List Wlx.TV) (w:World) (h:PSt w kp ts en) (hn:ts.length<=n) (hts:ts.length<=1024) (hok:∀ t ∈ ts,zAP t) (hE:Env w) (hk8:8<=kp) :
  Calls prog 159 #[.pointer (some ⟨kp,0,none⟩)] w λe w'=>zAN kp en (psi en subW subB ts) w e w':=by
 have hB0:=zAI (Below.refl _ w) (.cells zP0 78);have pZ:AtL (w.alloc (.cells zP0 78)) w.heap.size (zAH (bare 0) (.slice none 0 0)):=AtL.new0 w _ _;have h0:=h.below hB0;have hE0:=hE.below hB0;have hkp:=h.lt;have N:=λw h=>zBO kp ts en w h
 have hfl:=zHd;unfold psi;obtain ⟨t,ht⟩:∃ t,hd ts en=t:=⟨_,rfl⟩
 rw [ht] at N ⊢;obtain ⟨k,x0,p0⟩:=t;have hkk:Hid ((hd ts en).k=k):=by show _=_;rw [ht]
 clear ht;unfold tkV at N;simp only at N ⊢;by_cases h3:k=3
 ·subst h3;rw [if_pos rfl];cases hs:subW ts with
  | inr q =>
   obtain ⟨c,p⟩:=q;simp only [zAN];go_enter func159,ntmps159;go_wp2_with fail
   generalize w.alloc (.cells zP0 78)=wa at *;refine (N _ h0).mono ?_;rintro e w1 ⟨rfl,hb⟩;have pZ1:=AtL.below hb pZ;have h1:=h0.below hb;have hE1:=hE0.below hb;have hG1:=zAC (zAA hB0 hb) (some kp);clear hb pZ h0 hB0 hE0 N;go_wp2_with fail
   refine (HW ts _ h1 hn hts hok hkk.out hE1).mono ?_;rintro e w3 hc;rw [hs] at hc;simp only [zAN] at hc;obtain ⟨rfl,hg⟩:=hc;unfold zBj;go_wp2;exact ⟨rfl,rfl,zAB hG1 hg⟩
  | inl q =>
   obtain ⟨row,r2⟩:=q;simp only [zAN];go_enter func159,ntmps159;go_wp2_with fail
   generalize w.alloc (.cells zP0 78)=wa at *;refine (N _ h0).mono ?_;rintro e w1 ⟨rfl,hb⟩;have pZ1:=AtL.below hb pZ;have h1:=h0.below hb;have hE1:=hE0.below hb;have hG1:=zAC (zAA hB0 hb) (some kp);clear hb pZ h0 hB0 hE0 N;have hz1:=pZ1.lt;go_wp2_with fail
   refine (HW ts _ h1 hn hts hok hkk.out hE1).mono ?_;rintro e w3 hc;rw [hs] at hc;simp only [zAN] at hc;obtain ⟨v,rfl,hP,h3,hg⟩:=hc;have pZ3:=pZ1.grown hg (by intro e;have:=Option.some.inj e;omega);have hG3:=zAB hG1 hg;obtain ⟨nn,x,sl,rfl,hp⟩:=hP;obtain ⟨av,len,cap,rfl⟩:=hp.one;have hth:World.there w3 w.heap.size 0 (zAH x (.slice av len cap)).toArray.size:=pZ3.there;clear pZ1 hG1 hE1 h1 hg;unfold ptV;go_wp2_with ((with_reducible refine wpList_store_mid ?_ 78 (.tmp 2) (.tmp 9) ?_ (w.heap.size) 0 (zAH x (.slice av len cap)).toArray ?_ ?_ ?_ ?_ ?_ ?_);rfl;rfl;rfl;rfl;exact hth;kernel_rfl;exact zAr _ _ rfl)
   have pZ9:AtL (w3.setCells w.heap.size 0 (zAH x (.slice av len cap))) w.heap.size (zAH x (.slice av len cap)):=pZ3.setAll rfl;refine bodyPost_ret (zAF rfl _ _ w.heap.size (zAH x (.slice av len cap)) _ rfl pZ9.range underlying78 rfl (by kernel_rfl)) rfl ?_;exact ⟨_,rfl,(Pt.far (show Pt w3 _ (ptV x (.slice av len cap)) row from ⟨nn,x,_,rfl,hp⟩) (by omega) 0 _).mono (by omega),h3.farAll hkp _ 0,zAJ hG3 (Nat.le_refl _) _ 0⟩
 rw [if_neg h3];have h3':(k == 3)=false:=by simp [h3]
 by_cases h5:k=5
 ·subst h5;rw [if_pos rfl];cases hs:subB ts with
  | inr q =>
   obtain ⟨c,p⟩:=q;simp only [zAN];go_enter func159,ntmps159;go_wp2_with fail
   generalize w.alloc (.cells zP0 78)=wa at *;refine (N _ h0).mono ?_;rintro e w1 ⟨rfl,hb⟩;have pZ1:=AtL.below hb pZ;have h1:=h0.below hb;have hE1:=hE0.below hb;have hG1:=zAC (zAA hB0 hb) (some kp);clear hb pZ h0 hB0 hE0 N;go_wp2_with fail
   refine (HB ts _ h1 hn hts hok hkk.out hE1).mono ?_;rintro e w3 hc;rw [hs] at hc;simp only [zAN] at hc;obtain ⟨rfl,hg⟩:=hc;unfold zBj;go_wp2;exact ⟨rfl,rfl,zAB hG1 hg⟩
  | inl q =>
   obtain ⟨row,r2⟩:=q;simp only [zAN];go_enter func159,ntmps159;go_wp2_with fail
   generalize w.alloc (.cells zP0 78)=wa at *;refine (N _ h0).mono ?_;rintro e w1 ⟨rfl,hb⟩;have pZ1:=AtL.below hb pZ;have h1:=h0.below hb;have hE1:=hE0.below hb;have hG1:=zAC (zAA hB0 hb) (some kp);clear hb pZ h0 hB0 hE0 N;have hz1:=pZ1.lt;go_wp2_with fail
   refine (HB ts _ h1 hn hts hok hkk.out hE1).mono ?_;rintro e w3 hc;rw [hs] at hc;simp only [zAN] at hc;obtain ⟨v,rfl,hP,h3,hg⟩:=hc;have pZ3:=pZ1.grown hg (by intro e;have:=Option.some.inj e;omega);have hG3:=zAB hG1 hg;obtain ⟨nn,x,sl,rfl,hp⟩:=hP;obtain ⟨av,len,cap,rfl⟩:=hp.one;have hth:World.there w3 w.heap.size 0 (zAH x (.slice av len cap)).toArray.size:=pZ3.there;clear pZ1 hG1 hE1 h1 hg;unfold ptV;go_wp2_with ((with_reducible refine wpList_store_mid ?_ 78 (.tmp 2) (.tmp 13) ?_ (w.heap.size) 0 (zAH x (.slice av len cap)).toArray ?_ ?_ ?_ ?_ ?_ ?_);rfl;rfl;rfl;rfl;exact hth;kernel_rfl;exact zAr _ _ rfl)
   have pZ9:AtL (w3.setCells w.heap.size 0 (zAH x (.slice av len cap))) w.heap.size (zAH x (.slice av len cap)):=pZ3.setAll rfl;refine bodyPost_ret (zAF rfl _ _ w.heap.size (zAH x (.slice av len cap)) _ rfl pZ9.range underlying78 rfl (by kernel_rfl)) rfl ?_;exact ⟨_,rfl,(Pt.far (show Pt w3 _ (ptV x (.slice av len cap)) row from ⟨nn,x,_,rfl,hp⟩) (by omega) 0 _).mono (by omega),h3.farAll hkp _ 0,zAJ hG3 (Nat.le_refl _) _ 0⟩
 rw [if_neg h5];have h5':(k == 5)=false:=by simp [h5]
 cases hs:pl ts en with
 | inr q =>
  obtain ⟨c,p⟩:=q;simp only [zAN];go_enter func159,ntmps159;go_wp2_with fail
  generalize w.alloc (.cells zP0 78)=wa at *;refine (N _ h0).mono ?_;rintro e w1 ⟨rfl,hb⟩;have pZ1:=AtL.below hb pZ;have h1:=h0.below hb;have hE1:=hE0.below hb;have hG1:=zAC (zAA hB0 hb) (some kp);clear hb pZ h0 hB0 hE0 N;go_wp2_with fail
  refine (zDa kp ts en _ h1 hts hok hE1 hk8).mono ?_;rintro e w3 hc;rw [hs] at hc;simp only [zAN] at hc;obtain ⟨rfl,hg⟩:=hc;unfold zBj;go_wp2;exact ⟨rfl,rfl,zAB hG1 hg⟩
 | inl q =>
  obtain ⟨row,r2⟩:=q;simp only [zAN];go_enter func159,ntmps159;go_wp2_with fail
  generalize w.alloc (.cells zP0 78)=wa at *;refine (N _ h0).mono ?_;rintro e w1 ⟨rfl,hb⟩;have pZ1:=AtL.below hb pZ;have h1:=h0.below hb;have hE1:=hE0.below hb;have hG1:=zAC (zAA hB0 hb) (some kp);clear hb pZ h0 hB0 hE0 N;have hz1:=pZ1.lt;go_wp2_with fail
  refine (zDa kp ts en _ h1 hts hok hE1 hk8).mono ?_;rintro e w3 hc;rw [hs] at hc;simp only [zAN] at hc;obtain ⟨v,rfl,hP,h3,hg⟩:=hc;have pZ3:=pZ1.grown hg (by intro e;have:=Option.some.inj e;omega);have hG3:=zAB hG1 hg;obtain ⟨nn,x,sl,rfl,hp⟩:=hP;obtain ⟨av,len,cap,rfl⟩:=hp.one;have hth:World.there w3 w.heap.size 0 (zAH x (.slice av len cap)).toArray.size:=pZ3.there;clear pZ1 hG1 hE1 h1 hg;unfold ptV;go_wp2_with ((with_reducible refine wpList_store_mid ?_ 78 (.tmp 2) (.tmp 15) ?_ (w.heap.size) 0 (zAH x (.slice av len cap)).toArray ?_ ?_ ?_ ?_ ?_ ?_);rfl;rfl;rfl;rfl;exact hth;kernel_rfl;exact zAr _ _ rfl)
  have pZ9:AtL (w3.setCells w.heap.size 0 (zAH x (.slice av len cap))) w.heap.size (zAH x (.slice av len cap)):=pZ3.setAll rfl;refine bodyPost_ret (zAF rfl _ _ w.heap.size (zAH x (.slice av len cap)) _ rfl pZ9.range underlying78 rfl (by kernel_rfl)) rfl ?_;exact ⟨_,rfl,(Pt.far (show Pt w3 _ (ptV x (.slice av len cap)) row from ⟨nn,x,_,rfl,hp⟩) (by omega) 0 _).mono (by omega),h3.farAll hkp _ 0,zAJ hG3 (Nat.le_refl _) _ 0⟩
theorem zLy (sub:List Wlx.TV->PR) (en:Int) (nm:List UInt8) (ts:List Wlx.TV):zCo sub en nm ts=(match paa sub en ts with
  | .inr e=>.inr e
  | .inl (c,rows,r)=>.inl (zBK ⟨nm.toArray⟩ c::rows,r)):=by
 unfold zCo paa;cases tk ts [41] with
 | some r=>rfl
 | none =>
  simp only;cases sub ts with
  | inr e=>rfl
  | inl q =>
   obtain ⟨row,r⟩:=q;simp only;cases zCD sub en (r.length+1) 1 row r with
   | inr e=>rfl
   | inl q=>rfl
theorem zMe (sub:List Wlx.TV->PR) (en:Int) (ts:List Wlx.TV):zCF sub en ts=pwd (pca (paa sub en) en) en ts:=by
 unfold zCF pwd pca;simp only [zLy];rfl
theorem zLH (en:Int) (f k:Nat) (hk:k<5) (ts:List Wlx.TV):lv en (f+1) k ts=pbt (lv en f (k+1)) k ts:=by
 rw [lv,if_pos hk];rfl
theorem zM2 (en:Int) (f:Nat) (ts:List Wlx.TV):lv en (f+1) 5 ts=psg (lv en f 5) (lv en f 6) ts:=by
 rw [lv,if_neg (by decide),if_pos rfl];rfl
theorem zLg (en:Int) (f:Nat) (ts:List Wlx.TV):lv en (f+1) 6 ts=ppc (lv en f 7) ts:=by
 rw [lv,if_neg (by decide),if_neg (by decide),if_pos rfl];rfl
theorem zMN (en:Int) (f:Nat) (ts:List Wlx.TV):lv en (f+1) 7 ts=psi en (zCF (lv en f 0) en) (zB3 (lv en f 0) en) ts:=by
 rw [lv,if_neg (by decide),if_neg (by decide),if_neg (by decide)];rfl
structure Tied (kp:Nat) (en:Int) (f:Nat):Prop where
 bet:∀ k n,k<=5->10 * n+9 - k<=f->zL9 kp en k (lv en f k) n
 sgn:∀ n,10 * n+4<=f->zMs kp en 112 (lv en f 5) n
 pct:∀ n,10 * n+3<=f->zMs kp en 140 (lv en f 6) n
 sin:∀ n,10 * n+2<=f->zMs kp en 159 (lv en f 7) n
theorem Tied.form {kp:Nat} {en:Int} {f:Nat} (h:Tied kp en f) (n:Nat) (hf:10 * n+9<=f):zEI kp en (lv en f 0) n:=zGm kp en _ n (h.bet 0 n (by omega) (by omega))
theorem zD3 (en:Int):(hd [] en).k=0:=rfl
theorem zST (kp:Nat) (en:Int) (hk8:8<=kp):∀ f,Tied kp en f:=by
 intro f;induction f with
 | zero=>exact ⟨λk n _ h=>by omega,λn h=>by omega,λn h=>by omega,λn h=>by omega⟩
 | succ f ih =>
  have hsub:=λk=>zCI en f k
  have S:∀ n,10 * n+4<=f+1->zMs kp en 112 (lv en (f+1) 5) n:=by
   intro n hf ts w h hn hts hok hE;rw [zM2];exact zKb kp en _ _ n (λm hm=>ih.sgn m (by omega)) (ih.pct n (by omega)) ts w h hn hts hok hE hk8
  refine ⟨?_,S,?_,?_⟩
  ·intro k n hk hf;rcases Nat.lt_or_ge k 5 with h5 | h5
   ·intro ts w h hn hts hok hE;rw [zLH en f k h5];exact zGT kp en k h5 _ n (ih.bet (k+1) n (by omega) (by omega)) (hsub (k+1)) ts w h hn hts hok hE hk8
   ·obtain rfl:k=5:=by omega
    exact zF9 kp en _ n (S n (by omega))
  ·intro n hf ts w h hn hts hok hE;rw [zLg];exact zFg kp en _ n (ih.sin n (by omega)) (hsub 7) ts w h hn hts hok hE hk8
  ·intro n hf ts w h hn hts hok hE;rw [zMN];refine zMI kp en _ _ n ?_ ?_ ts w h hn hts hok hE hk8
   ·intro ts w h hn hts hok h3 hE;cases ts with
    | nil=>exact absurd h3 (by rw [zD3];decide)
    | cons t r =>
     have HF:=ih.form r.length (by simp at hn;omega);rw [zMe];exact zKu kp en _ (r.length+2) (zLZ kp en _ r.length (zEo kp en _ r.length HF (hsub 0) hk8) hk8) _ w h (by simp) hts hok h3 hE hk8
   ·intro ts w h hn hts hok h3 hE;cases ts with
    | nil=>exact absurd h3 (by rw [zD3];decide)
    | cons t r=>exact zF1 kp en _ r.length (ih.form r.length (by simp at hn;omega)) (hsub 0) _ w h (by simp) hts hok hE hk8
theorem zHs (kp:Nat) (en:Int) (hk8:8<=kp) (n:Nat):zEI kp en (lv en (10 * n+9) 0) n:=(zST kp en hk8 _).form n (Nat.le_refl _)
theorem zKk {P:Prop} (h:Hid P):P:=h.out
theorem zFL {a b c:World} {row:Option Nat} (h1:a.grownBy b row) (h2:b.grownBy c row):a.grownBy c row :=
 ⟨h2.os.trans h1.os,h2.tape.trans h1.tape,h2.output.trans h1.output,Nat.le_trans h1.size h2.size,λk hk hn=>(h2.block k (Nat.lt_of_lt_of_le hk h1.size) hn).trans (h1.block k hk hn)⟩
theorem PtIs.pos {G:Nat->Prop} {n:Nat} {sl:Value} {row:List Wt.Nd} (h:PtIs w G n x sl row):0<row.length:=by
 cases n with
 | zero=>exact absurd h (by simp [PtIs])
 | succ n =>
  obtain ⟨_,_,_,_,_,_,rfl,_⟩:=h;simp
theorem zJW:∀ (rows:List (List Wt.Nd)),(∀ r ∈ rows,0<r.length)->rows.length<=rows.flatten.length
 | [],_=>by simp
 | r::l,h=>by
  have h1:=h r (by simp);have h2:=zJW l (λq hq=>h q (by simp [hq]));simp only [List.length_cons,List.flatten_cons,List.length_append];omega
theorem zS0 (x:Wt.Nd) (w:World):(Instr.buildSlice 22 1 #[(0,.agg (zAD x).toArray)]).run prog w=.ok (.slice (some ⟨w.heap.size,0,none⟩) 1 1) (w.alloc (.cells (zAD x).toArray 30)):=by kernel_rfl
theorem zOF {K:Act->World->Prop} (y:Operand) (ho:op.op=.buildSlice 22 1 #[(0,y)]) (x:Wt.Nd) (hy:a.eval y=.agg (zAD x).toArray)
  (h:K (a.put op.dst (.slice (some ⟨w.heap.size,0,none⟩) 1 1)) (w.alloc (.cells (zAD x).toArray 30))):op.wp prog a w K Q:=by
 unfold Oper.wp execOp;simp only [ho,List.map_toArray,List.map_cons,List.map_nil,hy,Sem.run_bind,Sem.run_pure,Result.andThen_ok,zS0];exact h
theorem zAR {ops:Array Oper} {rest:List Oper} (hgd:op.guard=none) (y:Operand) (ho:op.op=.buildSlice 22 1 #[(0,y)]) (x:Wt.Nd) (hy:a.eval y=.agg (zAD x).toArray)
  (h:wpList prog ops Q rest (a.put op.dst (.slice (some ⟨w.heap.size,0,none⟩) 1 1)) (w.alloc (.cells (zAD x).toArray 30))):wpList prog ops Q (op::rest) a w :=
 wpList_plain hgd λ_ hK=>zOF y ho x hy (hK _ _ h)
theorem zPu (w:World) (x:Wt.Nd) (j:Nat) (u:Value) (hu:(zAD x)[j]? = some u):(w.alloc (.cells (zAD x).toArray 30)).cell? ((⟨w.heap.size,0,none⟩:Addr).add j)=some u:=by
 have hadd:(⟨w.heap.size,0,none⟩:Addr).add j=⟨w.heap.size,0+j,none⟩:=by unfold Addr.add;split <;> simp_all
 rw [hadd];exact (AtL.new0 w 30 (zAD x)).range j u hu
theorem zMq (x:Wt.Nd) (u:Value) (hu:u ∈ zAD x):u.oneCell'=true:=zNE x (.slice none 0 0) rfl u (by unfold zAH;exact List.mem_append_left _ hu)
def zA5 (l:List Wt.Nd):List Value:=l.flatMap zAD
theorem zI9 (a b:List Wt.Nd):zA5 (a++b)=zA5 a++zA5 b:=by simp [zA5]
theorem zKK (x:Wt.Nd):zA5 [x]=zAD x:=by simp [zA5]
def zRP (base:Nat) (v:Value) (l:List Wt.Nd) (w:World) (e:Ending) (w':World):Prop :=
 ∃ v',e=.returned v'/\w'.ownsRow base 30 20 v' l.length (zA5 l)/\w.grownBy w' v.ownBlock/\(v'.ownBlock=v.ownBlock \/ ∃ b,v'.ownBlock=some b/\w.heap.size<=b)
theorem zO4 (base:Nat):∀ (n:Nat) (x:Wt.Nd) (sl:Value) (row:List Wt.Nd) (G:Nat->Prop) (v:Value) (pre:List Wt.Nd) (w:World),PtIs w G n x sl row->w.ownsRow base 30 20 v pre.length (zA5 pre)->(∀ b,G b->some b ≠ v.ownBlock)->base<=w.heap.size->pre.length+row.length<=100000 ->
  Calls prog 36 #[ptV x sl,v] w λe w'=>zRP base v (pre++row) w e w':=by
 intro n;induction n with
 | zero=>intro x sl row G v pre w h;exact absurd h (by simp [PtIs])
 | succ n ih =>
  intro x sl row G v pre w h hown hG hbase hlen;obtain ⟨av,cap,ps,rows,rfl,hl,rfl,hp⟩:=h;obtain ⟨i0,hi,hz0,hz1,hz2⟩:=info_parts zC6;unfold ptV;have pX:=AtL.new0 w 78 (zAH x (.slice av ps.length cap));have rX:(w.alloc (.cells (zAH x (.slice av ps.length cap)).toArray 78)).rangeAt w.heap.size 0 (zAD x):=λj u hu=>pX.range j u (by
   unfold zAH;rw [List.getElem?_append_left (List.getElem?_eq_some_iff.1 hu).1];exact hu)
  have cX:(w.alloc (.cells (zAH x (.slice av ps.length cap)).toArray 78)).cell? ⟨w.heap.size,20,none⟩=some (.slice av ps.length cap):=pX.range 20 _ rfl;have hlo:∀ k,v.ownBlock=some k->k<w.heap.size:=λk hk=>(hown.lt k hk).2
  have hpl:ps.length<=100000:=by
   have:=zJW rows (λr hr=>by
    obtain ⟨j,hj,e⟩:=List.getElem_of_mem hr;obtain ⟨_,_,_,_,hq⟩:=hp j (by omega) hj;rw [<-e];exact hq.pos)
   simp only [List.length_cons] at hlen;omega
  have hln:pre.length+1<=100000:=by simp at hlen;omega
  have hs1:(w.alloc (.cells (zAH x (.slice av ps.length cap)).toArray 78)).heap.size=w.heap.size+1:=by simp
  have N5:∀ j u,(zAD x)[j]? = some u->((w.alloc (.cells (zAH x (.slice av ps.length cap)).toArray 78)).alloc (.cells (zAD x).toArray 30)).cell? ((⟨w.heap.size+1,0,none⟩:Addr).add j)=some u:=by
   intro j u hu;have:=zPu (w.alloc (.cells (zAH x (.slice av ps.length cap)).toArray 78)) x j u hu;rw [hs1] at this;exact this
  have hb5:base<=((w.alloc (.cells (zAH x (.slice av ps.length cap)).toArray 78)).alloc (.cells (zAD x).toArray 30)).heap.size:=by simp;omega
  have hown2:=(hown.alloc (.cells (zAH x (.slice av ps.length cap)).toArray 78)).alloc (.cells (zAD x).toArray 30);go_enter func36,ntmps36;go_wp2_with (first | ((with_reducible refine wpList_load_mid (cs:=zAD x) ?_ 30 (.tmp 8) ?_ w.heap.size 0 ?_ _ ?_ underlying30 ?_ ?_ ?_);rfl;rfl;rfl;exact rX;rfl;kernel_rfl) | ((with_reducible refine zAR ?_ (.tmp 9) ?_ x ?_ ?_);rfl;rfl;rfl) | (at_builtin;refine zKk ?_))
  show wpList _ _ _ _ _ _
  refine zB6 _ rfl _ _ 22 rfl base 30 i0 (.agg #[.int .i64 0,.int .i64 0,.int .i64 0,.int .i64 0,.string ⟨#[]⟩,.bool false,.int .i64 0,.int .i64 0,.string ⟨#[]⟩,.int .i64 0,.string ⟨#[]⟩,.int .i64 0,.int .i64 0,.bool false,.bool false,.string ⟨#[]⟩,.int .i64 0,.int .i64 0,.bool false,.bool false]) 20 176 underlying22 hi hz0 hz1 hz2 rfl (by decide) _ _ _ rfl hown2 ⟨w.heap.size+1,0,none⟩ 1 1 (zAD x) rfl rfl N5 (zMq x) (by unfold maxLen;omega) (by omega) hb5 ?_;intro v5 w5 hown5 hgrow hat hkeep;have hg2:((w.alloc (.cells (zAH x (.slice av ps.length cap)).toArray 78)).alloc (.cells (zAD x).toArray 30)).grownBy w5 v.ownBlock:=hgrow;have hne:some w.heap.size ≠ v.ownBlock:=λe=>by have:=hlo _ e.symm;omega
  have c5:w5.cell? ⟨w.heap.size,20,none⟩=some (.slice av ps.length cap):=hg2.cell ((World.grownBy_alloc _ _ v.ownBlock).cell cX hne) hne;have g5:w.grownBy w5 v.ownBlock:=zFL (World.grownBy_alloc w _ _) (zFL (World.grownBy_alloc _ _ _) hg2);have own5:Hid (w5.ownsRow base 30 20 v5 (pre++[x]).length (zA5 (pre++[x]))):=by
   show World.ownsRow _ _ _ _ _ _ _
   rw [zI9,zKK,List.length_append];exact hown5
  have at5:Hid (v5.ownBlock=v.ownBlock \/ ∃ b,v5.ownBlock=some b/\w.heap.size<=b):=by
   rcases hat with h | h
   ·exact .inl h
   ·exact .inr ⟨_,h,by simp;omega⟩
  have hform:∃ a c,v5=.slice a (pre.length+1) c:=by
   rcases hown5.2 with ⟨_,h0⟩ | ⟨g,cap,cur,e,_⟩
   ·omega
   ·exact ⟨_,_,e⟩
  have G5:Hid (w.grownBy w5 v.ownBlock):=g5;clear hgrow hg2 hat hkeep hown5 hown2 cX rX pX N5 hb5 hs1;go_wp2_with fail
  go_loopg [1,15] (ps.length) (λgk a b wr=>∃ i:Nat,b=.int .i64 i/\gk=ps.length - i/\i<=ps.length/\Hid (wr.ownsRow base 30 20 a (pre++x::(rows.take i).flatten).length (zA5 (pre++x::(rows.take i).flatten)))/\Hid (w.grownBy wr v.ownBlock)/\Hid (a.ownBlock=v.ownBlock \/ ∃ b,a.ownBlock=some b/\w.heap.size<=b))
  case atStart=>exact ⟨0,rfl,rfl,by omega,own5,G5,at5⟩
  case round =>
   clear own5 G5 at5;obtain ⟨i,rfl,hgk,hile,OW,GR,AT⟩:=hrel;by_cases hlt:i<ps.length
   ·have hlti:(i:Int)<ps.length:=by omega
    obtain ⟨bb,rfl,hGb,hr,hpt⟩:=hp i hlt (by omega);have hrr:wr.rangeAt bb (i * 21) (zAH (ps[i]).1 (ps[i]).2):=λj u hu=>GR.out.cell (hr j u hu) (hG bb hGb)
    obtain ⟨av',len',cap',hsl⟩:=hpt.one;generalize hxx:(ps[i]).1=x' at *;generalize hss:(ps[i]).2=sl' at *;subst hsl;have pN:=AtL.new0 wr 78 (zAH (bare 0) (.slice none 0 0));have hthN:World.there (wr.alloc (.cells zP0 78)) wr.heap.size 0 (zAH x' (.slice av' len' cap')).toArray.size:=pN.there;have pM:AtL ((wr.alloc (.cells zP0 78)).setCells wr.heap.size 0 (zAH x' (.slice av' len' cap'))) wr.heap.size (zAH x' (.slice av' len' cap')):=AtL.setAll pN rfl;have rM:=pM.range;have hbM:=zAu (zAI (Below.refl _ wr) (.cells zP0 78)) (Nat.le_refl wr.heap.size) (zAH x' (.slice av' len' cap')) 0;go_wp2_with (first | ((with_reducible refine wpList_load_mid (cs:=zAH x' (.slice av' len' cap')) ?_ 78 (.tmp 17) ?_ bb (i * 21) ?_ _ ?_ underlying78 ?_ ?_ ?_);rfl;rfl;rfl;exact hrr;rfl;kernel_rfl) | ((with_reducible refine wpList_store_mid ?_ 78 (.tmp 6) (.tmp 18) ?_ (wr.heap.size) 0 (zAH x' (.slice av' len' cap')).toArray ?_ ?_ ?_ ?_ ?_ ?_);rfl;rfl;rfl;rfl;exact hthN;kernel_rfl;exact zAr _ _ rfl) | ((with_reducible refine wpList_load_mid (cs:=zAH x' (.slice av' len' cap')) ?_ 78 (.tmp 6) ?_ wr.heap.size 0 ?_ _ ?_ underlying78 ?_ ?_ ?_);rfl;rfl;rfl;exact rM;rfl;kernel_rfl))
    generalize ((wr.alloc (.cells zP0 78)).setCells wr.heap.size 0 (zAH x' (.slice av' len' cap')))=wM at *;have hir:i<rows.length:=by omega
    have htk:rows.take (i+1)=rows.take i++[rows[i]]:=by rw [List.take_add_one,List.getElem?_eq_getElem hir];rfl
    have hfl:(rows.take i).flatten.length+(rows[i]).length<=rows.flatten.length:=by
     have:=congrArg (λl=>l.flatten.length) (List.take_append_drop (i+1) rows);simp only [htk,List.flatten_append,List.length_append,List.flatten_cons,List.flatten_nil,List.append_nil] at this;omega
    have hsz1:=GR.out.size;have hsz2:=hbM.size;have hP1:=PtIs.inside (G':=λb=>G b/\b<w.heap.size) (λb hb hl=>⟨hb,hl⟩) n hpt;have hP2:=PtIs.keep (λk hk h2=>GR.out.block k h2 (hG k hk.1)) n hP1;have hP3:=PtIs.keep (λk hk h2=>hbM.block k h2) n hP2;have OWM:=OW.out.kept (row:=none) ⟨hbM.os,hbM.tape,hbM.output,hbM.size,λk hk _=>hbM.block k hk⟩ (by cases u1.ownBlock <;> simp);have hGM:∀ b,G b/\b<w.heap.size->some b ≠ u1.ownBlock:=by
     intro b hb e;rcases AT.out with h | ⟨b',h,h'⟩
     ·exact hG b hb.1 (e.trans h)
     ·rw [h] at e;have:=Option.some.inj e;omega
    refine (ih x' (.slice av' len' cap') (rows[i]) _ u1 _ wM hP3 OWM hGM (by omega) (by simp only [List.length_append,List.length_cons] at hlen ⊢;omega)).mono ?_;rintro e w7 ⟨v7,rfl,own7,g7,at7⟩;have hsz3:=g7.size;have OW7:Hid (w7.ownsRow base 30 20 v7 (pre++x::(rows.take (i+1)).flatten).length (zA5 (pre++x::(rows.take (i+1)).flatten))):=by
     show World.ownsRow _ _ _ _ _ _ _
     rw [htk,List.flatten_append,List.flatten_cons,List.flatten_nil,List.append_nil,<-List.cons_append,<-List.append_assoc];exact own7
    have G7:Hid (w.grownBy w7 v.ownBlock):=⟨g7.os.trans (hbM.os.trans GR.out.os),g7.tape.trans (hbM.tape.trans GR.out.tape),g7.output.trans (hbM.output.trans GR.out.output),by omega,λk hk hn=>(g7.block k (by omega) (by
      intro e;rcases AT.out with h | ⟨b',h,h'⟩
      ·exact hn (e.trans h)
      ·rw [h] at e;have:=Option.some.inj e;omega)).trans ((hbM.block k (by omega)).trans (GR.out.block k hk hn))⟩
    have A7:Hid (v7.ownBlock=v.ownBlock \/ ∃ b,v7.ownBlock=some b/\w.heap.size<=b):=by
     rcases at7 with h | ⟨b,h,h'⟩
     ·rcases AT.out with h2 | ⟨b',h2,h3⟩
      ·exact .inl (h.trans h2)
      ·exact .inr ⟨b',h.trans h2,h3⟩
     ·exact .inr ⟨b,h,by omega⟩
    clear own7 g7 at7 OWM hP1 hP2 hP3 hbM pM rM hthN pN OW GR AT hGM;go_wp2_with fail
    go_roundg (ps.length - (i+1))
    case rel=>exact ⟨i+1,rfl,rfl,by omega,OW7,G7,A7⟩
    case measure=>omega
   ·obtain rfl:i=ps.length:=by omega
    have hlti:¬ (ps.length:Int)<ps.length:=by omega
    go_wp2_with fail
    go_ret;have hfull:rows.take ps.length=rows:=by rw [<-hl];exact List.take_length
    have OW':=OW.out;rw [hfull] at OW';exact ⟨_,rfl,OW',GR.out,AT.out⟩
def zNn:List Value->Nat->List Value->List Value
 | us,_,[]=>us
 | us,o,v::r=>zNn (us.set o v) (o+1) r
theorem AtL.setSub {k:Nat}:∀ (vs:List Value) (o:Nat) {W:World} {us:List Value},AtL W k us->AtL (W.setCells k o vs) k (zNn us o vs)
 | [],o,W,us,h=>h
 | v::r,o,W,us,h=>by
  rw [World.setCells,zNn];exact AtL.setSub r (o+1) (h.set o v)
theorem AtL.sub (h:AtL W k us) (o:Nat) (vs:List Value) (hv:∀ j v,vs[j]? = some v->us[o+j]? = some v):W.rangeAt k o vs:=λj v hj=>h.2.1 (o+j) v (hv j v hj)
theorem AtL.thereSub (h:AtL W k us) (o n:Nat) (hn:o+n<=us.length):W.there k o n:=λj hj =>
 ⟨by rw [h.2.1 (o+j) (us[o+j]'(by omega)) (List.getElem?_eq_getElem (by omega))];rfl,h.2.2 (o+j) (by omega)⟩
theorem zI7 (h:AtL W k (zAD x)):W.rangeAt k 10 (rf5 x.a):=h.sub 10 _ (λj v hv=>by
 match j,hv with
 | 0,hv=>exact hv
 | 1,hv=>exact hv
 | 2,hv=>exact hv
 | 3,hv=>exact hv
 | 4,hv=>exact hv
 | j+5,hv=>simp [rf5] at hv)
theorem zOf (h:AtL W k (zAD x)):W.rangeAt k 15 (rf5 x.b):=h.sub 15 _ (λj v hv=>by
 match j,hv with
 | 0,hv=>exact hv
 | 1,hv=>exact hv
 | 2,hv=>exact hv
 | 3,hv=>exact hv
 | 4,hv=>exact hv
 | j+5,hv=>simp [rf5] at hv)
theorem zBm (h:AtL W k (zAD x)) (a:Wt.Rf):AtL (W.setCells k 10 (rf5 a)) k (zAD ⟨x.k,x.v,x.op,x.nm,x.ar,a,x.b⟩):=h.setSub (rf5 a) 10
theorem zCV (h:AtL W k (zAD x)) (b:Wt.Rf):AtL (W.setCells k 15 (rf5 b)) k (zAD ⟨x.k,x.v,x.op,x.nm,x.ar,x.a,b⟩):=h.setSub (rf5 b) 15
theorem zDH (a:Wt.Rf):(rf5 a).toArray.all (·.oneCell')=true:=all_oneCell_toArray (λv hv=>by
 simp only [rf5,List.mem_cons,List.not_mem_nil,or_false] at hv;rcases hv with rfl | rfl | rfl | rfl | rfl <;> rfl)
abbrev zC:Array Value:=#[.int .i64 0,.int .i64 0,.int .i64 0,.int .i64 0,.string ⟨#[]⟩,.bool false,.int .i64 0,.int .i64 0,.string ⟨#[]⟩,.int .i64 0,.string ⟨#[]⟩,.int .i64 0,.int .i64 0,.bool false,.bool false,.string ⟨#[]⟩,.int .i64 0,.int .i64 0,.bool false,.bool false]
def zHt:Wt.Nd:=⟨0,Wt.v0,0,⟨#[]⟩,0,Wt.r0,Wt.r0⟩
theorem zO6 (x y:Int) (n:Wt.Nd) (h2:¬ n.k=2) (h3:¬ n.k=3) (w:World):CR 15 #[.agg #[.int .i64 x,.int .i64 y],.agg (zAD n).toArray] w (.agg (zAD (mvN x y n)).toArray):=by
 have hm:Hid (mvN x y n=n):=by show _=_;unfold mvN;rw [if_neg h2,if_neg h3]
 rw [hm.out];clear hm;have pB:=((AtL.new0 w 50 [.int .i64 x,.int .i64 y]).alloc (.cells (zAD n).toArray 30)).alloc (.cells zC 30);have pN:=(AtL.new1 w (.cells #[.int .i64 x,.int .i64 y] 50) 30 (zAD n)).alloc (.cells zC 30);have pR:AtL (((w.alloc (.cells #[.int .i64 x,.int .i64 y] 50)).alloc (.cells (zAD n).toArray 30)).alloc (.cells zC 30)) (w.heap.size+2) (zAD zHt):=AtL.new _ _ (by simp) _;have hB:=zAI (zAI (zAI (Below.refl _ w) (.cells #[.int .i64 x,.int .i64 y] 50)) (.cells (zAD n).toArray 30)) (.cells zC 30);go_enter func15,ntmps15;go_upto_region 1 with fail
 generalize (((w.alloc (.cells #[.int .i64 x,.int .i64 y] 50)).alloc (.cells (zAD n).toArray 30)).alloc (.cells zC 30))=W at *;obtain ⟨b0,b1,k0,k1⟩:=pB.two;have n0:W.cell? ⟨w.heap.size+1,0,none⟩=some (.int .i64 n.k):=pN.2.1 0 _ rfl;have rN:W.rangeAt (w.heap.size+1) 0 (zAD n):=pN.range;have rT:W.there (w.heap.size+2) 0 (zAD n).toArray.size:=pR.there;go_wp2_with (first | ((with_reducible refine wpList_load_mid (cs:=zAD n) ?_ 30 (.tmp 3) ?_ (w.heap.size+1) 0 ?_ _ ?_ underlying30 ?_ ?_ ?_);rfl;rfl;rfl;exact rN;rfl;kernel_rfl) | ((with_reducible refine wpList_store_mid ?_ 30 (.tmp 4) (.tmp 50) ?_ (w.heap.size+2) 0 (zAD n).toArray ?_ ?_ ?_ ?_ ?_ ?_);rfl;rfl;rfl;rfl;exact rT;kernel_rfl;exact zAc _))
 have rR2:=AtL.setAll pR (vs:=zAD n) rfl;refine bodyPost_ret (v:=.agg (zAD n).toArray) (zAF (by rfl) _ _ (w.heap.size+2) (zAD n) _ (by rfl) rR2.range underlying30 rfl (by kernel_rfl)) rfl ⟨rfl,?_⟩;exact zAu hB (by omega) _ _
theorem zMQ (x y:Int) (n:Wt.Nd) (h2:n.k=2) (hq:okR x y n.a=true) (w:World):CR 15 #[.agg #[.int .i64 x,.int .i64 y],.agg (zAD n).toArray] w (.agg (zAD (mvN x y n)).toArray):=by
 have C:=λw=>zDO x y n.a w
 have hm:Hid (mvN x y n=⟨n.k,n.v,n.op,n.nm,n.ar,mvR x y n.a,n.b⟩):=by show _=_;unfold mvN;rw [if_pos h2,hq];rfl
 rw [hm.out];rw [hq] at C;clear hm hq;obtain ⟨n2,hn2⟩:∃ n2:Wt.Nd,(⟨n.k,n.v,n.op,n.nm,n.ar,mvR x y n.a,n.b⟩:Wt.Nd)=n2:=⟨_,rfl⟩
 rw [hn2];have Hn2:Hid ((⟨n.k,n.v,n.op,n.nm,n.ar,mvR x y n.a,n.b⟩:Wt.Nd)=n2):=hn2;clear hn2;generalize mvR x y n.a=a' at *;have pB:=((AtL.new0 w 50 [.int .i64 x,.int .i64 y]).alloc (.cells (zAD n).toArray 30)).alloc (.cells zC 30);have pN:=(AtL.new1 w (.cells #[.int .i64 x,.int .i64 y] 50) 30 (zAD n)).alloc (.cells zC 30);have pR:AtL (((w.alloc (.cells #[.int .i64 x,.int .i64 y] 50)).alloc (.cells (zAD n).toArray 30)).alloc (.cells zC 30)) (w.heap.size+2) (zAD zHt):=AtL.new _ _ (by simp) _;have hB:=zAI (zAI (zAI (Below.refl _ w) (.cells #[.int .i64 x,.int .i64 y] 50)) (.cells (zAD n).toArray 30)) (.cells zC 30);go_enter func15,ntmps15;go_upto_region 1 with fail
 generalize (((w.alloc (.cells #[.int .i64 x,.int .i64 y] 50)).alloc (.cells (zAD n).toArray 30)).alloc (.cells zC 30))=W at *;obtain ⟨b0,b1,k0,k1⟩:=pB.two;have n0:W.cell? ⟨w.heap.size+1,0,none⟩=some (.int .i64 n.k):=pN.2.1 0 _ rfl;have rA:=zI7 pN;rw [h2] at n0;go_wp2_with ((with_reducible refine wpList_load_mid (cs:=rf5 n.a) ?_ 28 (.tmp 16) ?_ (w.heap.size+1) 10 ?_ _ ?_ underlying28 ?_ ?_ ?_);rfl;rfl;rfl;exact rA;rfl;kernel_rfl)
 refine (C _).mono ?_;rintro e w1 ⟨rfl,hb⟩;have qN:=AtL.below hb pN;have qR:=AtL.below hb pR;have qB:=zAA hB hb;have sT:w1.there (w.heap.size+1) 10 (rf5 a').toArray.size:=qN.thereSub 10 5 (by show 10+5<=20;omega);have sN:=zBm qN a';have sR:=AtL.farAll qR (b:=w.heap.size+1) (by omega) 10 (rf5 a');have sB:=zAu qB (k:=w.heap.size+1) (by omega) (rf5 a') 10;clear hb pN pR hB pB b0 b1 k0 k1 n0 rA C qN qR qB;go_upto_region 9 with ((with_reducible refine wpList_store_mid ?_ 28 (.tmp 21) (.tmp 19) ?_ (w.heap.size+1) 10 (rf5 a').toArray ?_ ?_ ?_ ?_ ?_ ?_);rfl;rfl;rfl;rfl;exact sT;kernel_rfl;exact zDH _)
 generalize w1.setCells (w.heap.size+1) 10 (rf5 a').toArray.toList=W2 at *;clear sT;rw [Hn2.out] at sN;have rN:W2.rangeAt (w.heap.size+1) 0 (zAD n2):=sN.range;have rT:W2.there (w.heap.size+2) 0 (zAD n2).toArray.size:=sR.there;go_wp2_with (first | ((with_reducible refine wpList_load_mid (cs:=zAD n2) ?_ 30 (.tmp 3) ?_ (w.heap.size+1) 0 ?_ _ ?_ underlying30 ?_ ?_ ?_);rfl;rfl;rfl;exact rN;rfl;kernel_rfl) | ((with_reducible refine wpList_store_mid ?_ 30 (.tmp 4) (.tmp 50) ?_ (w.heap.size+2) 0 (zAD n2).toArray ?_ ?_ ?_ ?_ ?_ ?_);rfl;rfl;rfl;rfl;exact rT;kernel_rfl;exact zAc _))
 have rR2:=AtL.setAll sR (vs:=zAD n2) rfl;refine bodyPost_ret (v:=.agg (zAD n2).toArray) (zAF (by rfl) _ _ (w.heap.size+2) (zAD n2) _ (by rfl) rR2.range underlying30 rfl (by kernel_rfl)) rfl ⟨rfl,?_⟩;exact zAu sB (by omega) _ _
theorem zLJ (x y:Int) (n:Wt.Nd) (h2:n.k=2) (hq:okR x y n.a=false) (w:World):CR 15 #[.agg #[.int .i64 x,.int .i64 y],.agg (zAD n).toArray] w (.agg (zAD (mvN x y n)).toArray):=by
 have C:=λw=>zDO x y n.a w
 have hm:Hid (mvN x y n=zA0):=by show _=_;unfold mvN;rw [if_pos h2,hq];rfl
 rw [hm.out];rw [hq] at C;clear hm hq;generalize mvR x y n.a=a' at *;have pB:=((AtL.new0 w 50 [.int .i64 x,.int .i64 y]).alloc (.cells (zAD n).toArray 30)).alloc (.cells zC 30);have pN:=(AtL.new1 w (.cells #[.int .i64 x,.int .i64 y] 50) 30 (zAD n)).alloc (.cells zC 30);have pR:AtL (((w.alloc (.cells #[.int .i64 x,.int .i64 y] 50)).alloc (.cells (zAD n).toArray 30)).alloc (.cells zC 30)) (w.heap.size+2) (zAD zHt):=AtL.new _ _ (by simp) _;have hB:=zAI (zAI (zAI (Below.refl _ w) (.cells #[.int .i64 x,.int .i64 y] 50)) (.cells (zAD n).toArray 30)) (.cells zC 30);go_enter func15,ntmps15;go_upto_region 1 with fail
 generalize (((w.alloc (.cells #[.int .i64 x,.int .i64 y] 50)).alloc (.cells (zAD n).toArray 30)).alloc (.cells zC 30))=W at *;obtain ⟨b0,b1,k0,k1⟩:=pB.two;have n0:W.cell? ⟨w.heap.size+1,0,none⟩=some (.int .i64 n.k):=pN.2.1 0 _ rfl;have rA:=zI7 pN;rw [h2] at n0;go_wp2_with ((with_reducible refine wpList_load_mid (cs:=rf5 n.a) ?_ 28 (.tmp 16) ?_ (w.heap.size+1) 10 ?_ _ ?_ underlying28 ?_ ?_ ?_);rfl;rfl;rfl;exact rA;rfl;kernel_rfl)
 refine (C _).mono ?_;rintro e w1 ⟨rfl,hb⟩;have qN:=AtL.below hb pN;have qR:=AtL.below hb pR;have qB:=zAA hB hb;have sT:w1.there (w.heap.size+1) 10 (rf5 a').toArray.size:=qN.thereSub 10 5 (by show 10+5<=20;omega);have sN:=zBm qN a';have sR:=AtL.farAll qR (b:=w.heap.size+1) (by omega) 10 (rf5 a');have sB:=zAu qB (k:=w.heap.size+1) (by omega) (rf5 a') 10;clear hb pN pR hB pB b0 b1 k0 k1 n0 rA C qN qR qB;go_upto_region 9 with ((with_reducible refine wpList_store_mid ?_ 28 (.tmp 21) (.tmp 19) ?_ (w.heap.size+1) 10 (rf5 a').toArray ?_ ?_ ?_ ?_ ?_ ?_);rfl;rfl;rfl;rfl;exact sT;kernel_rfl;exact zDH _)
 generalize w1.setCells (w.heap.size+1) 10 (rf5 a').toArray.toList=W2 at *;clear sT;have VF:=λw=>zBU 3 w
 have ev:vlV (zC9 3)=.agg #[.int .i64 4,.int .i64 0,.int .i64 0,.string ⟨#[]⟩,.bool false,.int .i64 3]:=rfl;rw [ev] at VF;clear ev;go_wp2_with fail
 refine (VF _).mono ?_;rintro e w9 ⟨rfl,hb9⟩;have rR:=AtL.below hb9 sR;have rB:=zAA sB hb9;have rT:w9.there (w.heap.size+2) 0 (zAD zA0).toArray.size:=rR.there;go_wp2_with ((with_reducible refine wpList_store_mid ?_ 30 (.tmp 4) (.tmp 49) ?_ (w.heap.size+2) 0 (zAD zA0).toArray ?_ ?_ ?_ ?_ ?_ ?_);rfl;rfl;rfl;rfl;exact rT;kernel_rfl;exact zAc _)
 have rR2:=AtL.setAll rR (vs:=zAD zA0) rfl;refine bodyPost_ret (v:=.agg (zAD zA0).toArray) (zAF (by rfl) _ _ (w.heap.size+2) (zAD zA0) _ (by rfl) rR2.range underlying30 rfl (by kernel_rfl)) rfl ⟨rfl,?_⟩;exact zAu rB (by omega) _ _
