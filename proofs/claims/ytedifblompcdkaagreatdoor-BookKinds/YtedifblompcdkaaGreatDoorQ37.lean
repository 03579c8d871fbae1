/- TSiB, TTie, TRow, TFit. -/
import Derived.Test.YtedifblompcdkaaGreatDoorQ36
set_option maxHeartbeats 8000000
set_option maxRecDepth 100000
namespace Go.Proofs.YtedifblompcdkaaGreatDoor
open Tryz
open Go.RowKit Go.Shelf
set_option linter.unusedVariables false
variable {sub:List Wlx.TV->PR} {en:Int} {w:World} {ts r:List Wlx.TV} {op:Oper} {a:Act} {Q:Exit->Act->World->Prop}
def zPd (kp:Nat) (en:Int) (F:Nat) (K:Int) (sub:List Wlx.TV->PR) (n:Nat):Prop :=
 ∀ (ts:List Wlx.TV) (w:World),PSt w kp ts en->ts.length<=n->ts.length<=1024->(∀ t ∈ ts,zA5 t)->(hd ts en).k=K->Env w->Calls prog F #[.pointer (some ⟨kp,0,none⟩)] w λe w'=>zAQ kp en (sub ts) w e w'
theorem zLl (kp:Nat) (en:Int) (subW subB:List Wlx.TV->PR) (n:Nat) (HW:zPd kp en 241 3 subW n) (HB:zPd kp en 242 5 subB n) (ts:List Wlx.TV) (w:World) (h:PSt w kp ts en) (hn:ts.length<=n) (hts:ts.length<=1024) (hok:∀ t ∈ ts,zA5 t) (hE:Env w) (hk8:8<=kp) :
  Calls prog 233 #[.pointer (some ⟨kp,0,none⟩)] w λe w'=>zAQ kp en (psi en subW subB ts) w e w':=by
 have hB0:=zAH (Below.refl _ w) (.cells zP0 180);have pZ:AtL (w.alloc (.cells zP0 180)) w.heap.size (zAJ (bare 0) (.slice none 0 0)):=AtL.new0 w _ _;have h0:=h.below hB0;have hE0:=hE.below hB0;have hkp:=h.lt;have N:=λw h=>zBH kp ts en w h
 have hfl:=zG3;unfold psi;obtain ⟨t,ht⟩:∃ t,hd ts en=t:=⟨_,rfl⟩
 rw [ht] at N ⊢;obtain ⟨k,x0,p0⟩:=t;have hkk:Hid ((hd ts en).k=k):=by show _=_;rw [ht]
 clear ht;unfold tkV at N;simp only at N ⊢;by_cases h3:k=3
 ·subst h3;rw [if_pos rfl];cases hs:subW ts with
  | inr q =>
   obtain ⟨c,p⟩:=q;simp only [zAQ];go_enter func233,ntmps233;go_wp2_with fail
   generalize w.alloc (.cells zP0 180)=wa at *;refine (N _ h0).mono ?_;rintro e w1 ⟨rfl,hb⟩;have pZ1:=AtL.below hb pZ;have h1:=h0.below hb;have hE1:=hE0.below hb;have hG1:=zAE (zAA hB0 hb) (some kp);clear hb pZ h0 hB0 hE0 N;go_wp2_with fail
   refine (HW ts _ h1 hn hts hok hkk.out hE1).mono ?_;rintro e w3 hc;rw [hs] at hc;simp only [zAQ] at hc;obtain ⟨rfl,hg⟩:=hc;unfold zB2;go_wp2;exact ⟨rfl,rfl,zAD hG1 hg⟩
  | inl q =>
   obtain ⟨row,r2⟩:=q;simp only [zAQ];go_enter func233,ntmps233;go_wp2_with fail
   generalize w.alloc (.cells zP0 180)=wa at *;refine (N _ h0).mono ?_;rintro e w1 ⟨rfl,hb⟩;have pZ1:=AtL.below hb pZ;have h1:=h0.below hb;have hE1:=hE0.below hb;have hG1:=zAE (zAA hB0 hb) (some kp);clear hb pZ h0 hB0 hE0 N;have hz1:=pZ1.lt;go_wp2_with fail
   refine (HW ts _ h1 hn hts hok hkk.out hE1).mono ?_;rintro e w3 hc;rw [hs] at hc;simp only [zAQ] at hc;obtain ⟨v,rfl,hP,h3,hg⟩:=hc;have pZ3:=pZ1.grown hg (by intro e;have:=Option.some.inj e;omega);have hG3:=zAD hG1 hg;obtain ⟨nn,x,sl,rfl,hp⟩:=hP;obtain ⟨av,len,cap,rfl⟩:=hp.one;have hth:World.there w3 w.heap.size 0 (zAJ x (.slice av len cap)).toArray.size:=pZ3.there;clear pZ1 hG1 hE1 h1 hg;unfold ptV;go_wp2_with ((with_reducible refine wpList_store_mid ?_ 180 (.tmp 2) (.tmp 9) ?_ (w.heap.size) 0 (zAJ x (.slice av len cap)).toArray ?_ ?_ ?_ ?_ ?_ ?_);rfl;rfl;rfl;rfl;exact hth;kernel_rfl;exact zAi _ _ rfl)
   have pZ9:AtL (w3.setCells w.heap.size 0 (zAJ x (.slice av len cap))) w.heap.size (zAJ x (.slice av len cap)):=pZ3.setAll rfl;refine bodyPost_ret (zAO rfl _ _ w.heap.size (zAJ x (.slice av len cap)) _ rfl pZ9.range underlying180 rfl (by kernel_rfl)) rfl ?_;exact ⟨_,rfl,(Pt.far (show Pt w3 _ (ptV x (.slice av len cap)) row from ⟨nn,x,_,rfl,hp⟩) (by omega) 0 _).mono (by omega),h3.farAll hkp _ 0,zAN hG3 (Nat.le_refl _) _ 0⟩
 rw [if_neg h3];have h3':(k == 3)=false:=by simp [h3]
 by_cases h5:k=5
 ·subst h5;rw [if_pos rfl];cases hs:subB ts with
  | inr q =>
   obtain ⟨c,p⟩:=q;simp only [zAQ];go_enter func233,ntmps233;go_wp2_with fail
   generalize w.alloc (.cells zP0 180)=wa at *;refine (N _ h0).mono ?_;rintro e w1 ⟨rfl,hb⟩;have pZ1:=AtL.below hb pZ;have h1:=h0.below hb;have hE1:=hE0.below hb;have hG1:=zAE (zAA hB0 hb) (some kp);clear hb pZ h0 hB0 hE0 N;go_wp2_with fail
   refine (HB ts _ h1 hn hts hok hkk.out hE1).mono ?_;rintro e w3 hc;rw [hs] at hc;simp only [zAQ] at hc;obtain ⟨rfl,hg⟩:=hc;unfold zB2;go_wp2;exact ⟨rfl,rfl,zAD hG1 hg⟩
  | inl q =>
   obtain ⟨row,r2⟩:=q;simp only [zAQ];go_enter func233,ntmps233;go_wp2_with fail
   generalize w.alloc (.cells zP0 180)=wa at *;refine (N _ h0).mono ?_;rintro e w1 ⟨rfl,hb⟩;have pZ1:=AtL.below hb pZ;have h1:=h0.below hb;have hE1:=hE0.below hb;have hG1:=zAE (zAA hB0 hb) (some kp);clear hb pZ h0 hB0 hE0 N;have hz1:=pZ1.lt;go_wp2_with fail
   refine (HB ts _ h1 hn hts hok hkk.out hE1).mono ?_;rintro e w3 hc;rw [hs] at hc;simp only [zAQ] at hc;obtain ⟨v,rfl,hP,h3,hg⟩:=hc;have pZ3:=pZ1.grown hg (by intro e;have:=Option.some.inj e;omega);have hG3:=zAD hG1 hg;obtain ⟨nn,x,sl,rfl,hp⟩:=hP;obtain ⟨av,len,cap,rfl⟩:=hp.one;have hth:World.there w3 w.heap.size 0 (zAJ x (.slice av len cap)).toArray.size:=pZ3.there;clear pZ1 hG1 hE1 h1 hg;unfold ptV;go_wp2_with ((with_reducible refine wpList_store_mid ?_ 180 (.tmp 2) (.tmp 13) ?_ (w.heap.size) 0 (zAJ x (.slice av len cap)).toArray ?_ ?_ ?_ ?_ ?_ ?_);rfl;rfl;rfl;rfl;exact hth;kernel_rfl;exact zAi _ _ rfl)
   have pZ9:AtL (w3.setCells w.heap.size 0 (zAJ x (.slice av len cap))) w.heap.size (zAJ x (.slice av len cap)):=pZ3.setAll rfl;refine bodyPost_ret (zAO rfl _ _ w.heap.size (zAJ x (.slice av len cap)) _ rfl pZ9.range underlying180 rfl (by kernel_rfl)) rfl ?_;exact ⟨_,rfl,(Pt.far (show Pt w3 _ (ptV x (.slice av len cap)) row from ⟨nn,x,_,rfl,hp⟩) (by omega) 0 _).mono (by omega),h3.farAll hkp _ 0,zAN hG3 (Nat.le_refl _) _ 0⟩
 rw [if_neg h5];have h5':(k == 5)=false:=by simp [h5]
 cases hs:pl ts en with
 | inr q =>
  obtain ⟨c,p⟩:=q;simp only [zAQ];go_enter func233,ntmps233;go_wp2_with fail
  generalize w.alloc (.cells zP0 180)=wa at *;refine (N _ h0).mono ?_;rintro e w1 ⟨rfl,hb⟩;have pZ1:=AtL.below hb pZ;have h1:=h0.below hb;have hE1:=hE0.below hb;have hG1:=zAE (zAA hB0 hb) (some kp);clear hb pZ h0 hB0 hE0 N;go_wp2_with fail
  refine (zDK kp ts en _ h1 hts hok hE1 hk8).mono ?_;rintro e w3 hc;rw [hs] at hc;simp only [zAQ] at hc;obtain ⟨rfl,hg⟩:=hc;unfold zB2;go_wp2;exact ⟨rfl,rfl,zAD hG1 hg⟩
 | inl q =>
  obtain ⟨row,r2⟩:=q;simp only [zAQ];go_enter func233,ntmps233;go_wp2_with fail
  generalize w.alloc (.cells zP0 180)=wa at *;refine (N _ h0).mono ?_;rintro e w1 ⟨rfl,hb⟩;have pZ1:=AtL.below hb pZ;have h1:=h0.below hb;have hE1:=hE0.below hb;have hG1:=zAE (zAA hB0 hb) (some kp);clear hb pZ h0 hB0 hE0 N;have hz1:=pZ1.lt;go_wp2_with fail
  refine (zDK kp ts en _ h1 hts hok hE1 hk8).mono ?_;rintro e w3 hc;rw [hs] at hc;simp only [zAQ] at hc;obtain ⟨v,rfl,hP,h3,hg⟩:=hc;have pZ3:=pZ1.grown hg (by intro e;have:=Option.some.inj e;omega);have hG3:=zAD hG1 hg;obtain ⟨nn,x,sl,rfl,hp⟩:=hP;obtain ⟨av,len,cap,rfl⟩:=hp.one;have hth:World.there w3 w.heap.size 0 (zAJ x (.slice av len cap)).toArray.size:=pZ3.there;clear pZ1 hG1 hE1 h1 hg;unfold ptV;go_wp2_with ((with_reducible refine wpList_store_mid ?_ 180 (.tmp 2) (.tmp 15) ?_ (w.heap.size) 0 (zAJ x (.slice av len cap)).toArray ?_ ?_ ?_ ?_ ?_ ?_);rfl;rfl;rfl;rfl;exact hth;kernel_rfl;exact zAi _ _ rfl)
  have pZ9:AtL (w3.setCells w.heap.size 0 (zAJ x (.slice av len cap))) w.heap.size (zAJ x (.slice av len cap)):=pZ3.setAll rfl;refine bodyPost_ret (zAO rfl _ _ w.heap.size (zAJ x (.slice av len cap)) _ rfl pZ9.range underlying180 rfl (by kernel_rfl)) rfl ?_;exact ⟨_,rfl,(Pt.far (show Pt w3 _ (ptV x (.slice av len cap)) row from ⟨nn,x,_,rfl,hp⟩) (by omega) 0 _).mono (by omega),h3.farAll hkp _ 0,zAN hG3 (Nat.le_refl _) _ 0⟩
theorem zLN (sub:List Wlx.TV->PR) (en:Int) (nm:List UInt8) (ts:List Wlx.TV):zEB sub en nm ts=(match paa sub en ts with
  | .inr e=>.inr e
  | .inl (c,rows,r)=>.inl (zCb ⟨nm.toArray⟩ c::rows,r)):=by
 unfold zEB paa;cases tk ts [41] with
 | some r=>rfl
 | none =>
  simp only;cases sub ts with
  | inr e=>rfl
  | inl q =>
   obtain ⟨row,r⟩:=q;simp only;cases zDZ sub en (r.length+1) 1 row r with
   | inr e=>rfl
   | inl q=>rfl
theorem zMh (sub:List Wlx.TV->PR) (en:Int) (ts:List Wlx.TV):zCq sub en ts=pwd (pca (paa sub en) en) en ts:=by
 unfold zCq pwd pca;simp only [zLN];rfl
theorem zN7 (en:Int) (f k:Nat) (hk:k<5) (ts:List Wlx.TV):lv en (f+1) k ts=pbt (lv en f (k+1)) k ts:=by
 rw [lv,if_pos hk];rfl
theorem zOi (en:Int) (f:Nat) (ts:List Wlx.TV):lv en (f+1) 5 ts=psg (lv en f 5) (lv en f 6) ts:=by
 rw [lv,if_neg (by decide),if_pos rfl];rfl
theorem zPG (en:Int) (f:Nat) (ts:List Wlx.TV):lv en (f+1) 6 ts=ppc (lv en f 7) ts:=by
 rw [lv,if_neg (by decide),if_neg (by decide),if_pos rfl];rfl
theorem zOM (en:Int) (f:Nat) (ts:List Wlx.TV):lv en (f+1) 7 ts=psi en (zCq (lv en f 0) en) (zBg (lv en f 0) en) ts:=by
 rw [lv,if_neg (by decide),if_neg (by decide),if_neg (by decide)];rfl
structure Tied (kp:Nat) (en:Int) (f:Nat):Prop where
 bet:∀ k n,k<=5->10 * n+9 - k<=f->zLJ kp en k (lv en f k) n
 sgn:∀ n,10 * n+4<=f->zNQ kp en 172 (lv en f 5) n
 pct:∀ n,10 * n+3<=f->zNQ kp en 198 (lv en f 6) n
 sin:∀ n,10 * n+2<=f->zNQ kp en 233 (lv en f 7) n
theorem Tied.form {kp:Nat} {f:Nat} (h:Tied kp en f) (n:Nat) (hf:10 * n+9<=f):zDp kp en (lv en f 0) n:=zF4 kp en _ n (h.bet 0 n (by omega) (by omega))
theorem zDm (en:Int):(hd [] en).k=0:=rfl
theorem zR7 (kp:Nat) (en:Int) (hk8:8<=kp):∀ f,Tied kp en f:=by
 intro f;induction f with
 | zero=>exact ⟨λk n _ h=>by omega,λn h=>by omega,λn h=>by omega,λn h=>by omega⟩
 | succ f ih =>
  have hsub:=λk=>zC6 en f k
  have S:∀ n,10 * n+4<=f+1->zNQ kp en 172 (lv en (f+1) 5) n:=by
   intro n hf ts w h hn hts hok hE;rw [zOi];exact zJM kp en _ _ n (λm hm=>ih.sgn m (by omega)) (ih.pct n (by omega)) ts w h hn hts hok hE hk8
  refine ⟨?_,S,?_,?_⟩
  ·intro k n hk hf;rcases Nat.lt_or_ge k 5 with h5 | h5
   ·intro ts w h hn hts hok hE;rw [zN7 en f k h5];exact zGU kp en k h5 _ n (ih.bet (k+1) n (by omega) (by omega)) (hsub (k+1)) ts w h hn hts hok hE hk8
   ·obtain rfl:k=5:=by omega
    exact zE5 kp en _ n (S n (by omega))
  ·intro n hf ts w h hn hts hok hE;rw [zPG];exact zEl kp en _ n (ih.sin n (by omega)) (hsub 7) ts w h hn hts hok hE hk8
  ·intro n hf ts w h hn hts hok hE;rw [zOM];refine zLl kp en _ _ n ?_ ?_ ts w h hn hts hok hE hk8
   ·intro ts w h hn hts hok h3 hE;cases ts with
    | nil=>exact absurd h3 (by rw [zDm];decide)
    | cons t r =>
     have HF:=ih.form r.length (by simp at hn;omega);rw [zMh];exact zMC kp en _ (r.length+2) (zMS kp en _ r.length (zDt kp en _ r.length HF (hsub 0) hk8) hk8) _ w h (by simp) hts hok h3 hE hk8
   ·intro ts w h hn hts hok h3 hE;cases ts with
    | nil=>exact absurd h3 (by rw [zDm];decide)
    | cons t r=>exact zFT kp en _ r.length (ih.form r.length (by simp at hn;omega)) (hsub 0) _ w h (by simp) hts hok hE hk8
theorem zHw (kp:Nat) (en:Int) (hk8:8<=kp) (n:Nat):zDp kp en (lv en (10 * n+9) 0) n:=(zR7 kp en hk8 _).form n (Nat.le_refl _)
theorem zJJ {P:Prop} (h:Hid P):P:=h.out
theorem zEY {a b c:World} {row:Option Nat} (h1:a.grownBy b row) (h2:b.grownBy c row):a.grownBy c row :=
 ⟨h2.os.trans h1.os,h2.tape.trans h1.tape,h2.output.trans h1.output,Nat.le_trans h1.size h2.size,λk hk hn=>(h2.block k (Nat.lt_of_lt_of_le hk h1.size) hn).trans (h1.block k hk hn)⟩
theorem PtIs.pos {G:Nat->Prop} {n:Nat} {x:Wt.Nd} {sl:Value} {row:List Wt.Nd} (h:PtIs w G n x sl row):0<row.length:=by
 cases n with
 | zero=>exact absurd h (by simp [PtIs])
 | succ n =>
  obtain ⟨_,_,_,_,_,_,rfl,_⟩:=h;simp
theorem zJV:∀ (rows:List (List Wt.Nd)),(∀ r ∈ rows,0<r.length)->rows.length<=rows.flatten.length
 | [],_=>by simp
 | r::l,h=>by
  have h1:=h r (by simp);have h2:=zJV l (λq hq=>h q (by simp [hq]));simp only [List.length_cons,List.flatten_cons,List.length_append];omega
theorem zSC (x:Wt.Nd) (w:World):(Instr.buildSlice 104 1 #[(0,.agg (zAK x).toArray)]).run prog w=.ok (.slice (some ⟨w.heap.size,0,none⟩) 1 1) (w.alloc (.cells (zAK x).toArray 102)):=by kernel_rfl
theorem zOg {K:Act->World->Prop} (y:Operand) (ho:op.op=.buildSlice 104 1 #[(0,y)]) (x:Wt.Nd) (hy:a.eval y=.agg (zAK x).toArray)
  (h:K (a.put op.dst (.slice (some ⟨w.heap.size,0,none⟩) 1 1)) (w.alloc (.cells (zAK x).toArray 102))):op.wp prog a w K Q:=by
 unfold Oper.wp execOp;simp only [ho,List.map_toArray,List.map_cons,List.map_nil,hy,Sem.run_bind,Sem.run_pure,Result.andThen_ok,zSC];exact h
theorem zFg {ops:Array Oper} {rest:List Oper} (hgd:op.guard=none) (y:Operand) (ho:op.op=.buildSlice 104 1 #[(0,y)]) (x:Wt.Nd) (hy:a.eval y=.agg (zAK x).toArray)
  (h:wpList prog ops Q rest (a.put op.dst (.slice (some ⟨w.heap.size,0,none⟩) 1 1)) (w.alloc (.cells (zAK x).toArray 102))):wpList prog ops Q (op::rest) a w :=
 wpList_plain hgd λ_ hK=>zOg y ho x hy (hK _ _ h)
theorem zPl (w:World) (x:Wt.Nd) (j:Nat) (u:Value) (hu:(zAK x)[j]? = some u):(w.alloc (.cells (zAK x).toArray 102)).cell? ((⟨w.heap.size,0,none⟩:Addr).add j)=some u:=by
 have hadd:(⟨w.heap.size,0,none⟩:Addr).add j=⟨w.heap.size,0+j,none⟩:=by unfold Addr.add;split <;> simp_all
 rw [hadd];exact (AtL.new0 w 102 (zAK x)).range j u hu
theorem zPn (x:Wt.Nd) (u:Value) (hu:u ∈ zAK x):u.oneCell'=true:=zNU x (.slice none 0 0) rfl u (by unfold zAJ;exact List.mem_append_left _ hu)
def zBf (l:List Wt.Nd):List Value:=l.flatMap zAK
theorem zJd (a b:List Wt.Nd):zBf (a++b)=zBf a++zBf b:=by simp [zBf]
theorem zK1 (x:Wt.Nd):zBf [x]=zAK x:=by simp [zBf]
def zQb (base:Nat) (v:Value) (l:List Wt.Nd) (w:World) (e:Ending) (w':World):Prop :=
 ∃ v',e=.returned v'/\w'.ownsRow base 102 20 v' l.length (zBf l)/\w.grownBy w' v.ownBlock/\(v'.ownBlock=v.ownBlock \/ ∃ b,v'.ownBlock=some b/\w.heap.size<=b)
theorem zOT (base:Nat):∀ (n:Nat) (x:Wt.Nd) (sl:Value) (row:List Wt.Nd) (G:Nat->Prop) (v:Value) (pre:List Wt.Nd) (w:World),PtIs w G n x sl row->w.ownsRow base 102 20 v pre.length (zBf pre)->(∀ b,G b->some b ≠ v.ownBlock)->base<=w.heap.size->pre.length+row.length<=100000 ->
  Calls prog 97 #[ptV x sl,v] w λe w'=>zQb base v (pre++row) w e w':=by
 intro n;induction n with
 | zero=>intro x sl row G v pre w h;exact absurd h (by simp [PtIs])
 | succ n ih =>
  intro x sl row G v pre w h hown hG hbase hlen;obtain ⟨av,cap,ps,rows,rfl,hl,rfl,hp⟩:=h;obtain ⟨i0,hi,hz0,hz1,hz2⟩:=info_parts zLa;unfold ptV;have pX:=AtL.new0 w 180 (zAJ x (.slice av ps.length cap));have rX:(w.alloc (.cells (zAJ x (.slice av ps.length cap)).toArray 180)).rangeAt w.heap.size 0 (zAK x):=λj u hu=>pX.range j u (by
   unfold zAJ;rw [List.getElem?_append_left (List.getElem?_eq_some_iff.1 hu).1];exact hu)
  have cX:(w.alloc (.cells (zAJ x (.slice av ps.length cap)).toArray 180)).cell? ⟨w.heap.size,20,none⟩=some (.slice av ps.length cap):=pX.range 20 _ rfl;have hlo:∀ k,v.ownBlock=some k->k<w.heap.size:=λk hk=>(hown.lt k hk).2
  have hpl:ps.length<=100000:=by
   have:=zJV rows (λr hr=>by
    obtain ⟨j,hj,e⟩:=List.getElem_of_mem hr;obtain ⟨_,_,_,_,hq⟩:=hp j (by omega) hj;rw [<-e];exact hq.pos)
   simp only [List.length_cons] at hlen;omega
  have hln:pre.length+1<=100000:=by simp at hlen;omega
  have hs1:(w.alloc (.cells (zAJ x (.slice av ps.length cap)).toArray 180)).heap.size=w.heap.size+1:=by simp
  have N5:∀ j u,(zAK x)[j]? = some u->((w.alloc (.cells (zAJ x (.slice av ps.length cap)).toArray 180)).alloc (.cells (zAK x).toArray 102)).cell? ((⟨w.heap.size+1,0,none⟩:Addr).add j)=some u:=by
   intro j u hu;have:=zPl (w.alloc (.cells (zAJ x (.slice av ps.length cap)).toArray 180)) x j u hu;rw [hs1] at this;exact this
  have hb5:base<=((w.alloc (.cells (zAJ x (.slice av ps.length cap)).toArray 180)).alloc (.cells (zAK x).toArray 102)).heap.size:=by simp;omega
  have hown2:=(hown.alloc (.cells (zAJ x (.slice av ps.length cap)).toArray 180)).alloc (.cells (zAK x).toArray 102);go_enter func97,ntmps97;go_wp2_with (first | ((with_reducible refine wpList_load_mid (cs:=zAK x) ?_ 102 (.tmp 8) ?_ w.heap.size 0 ?_ _ ?_ underlying102 ?_ ?_ ?_);rfl;rfl;rfl;exact rX;rfl;kernel_rfl) | ((with_reducible refine zFg ?_ (.tmp 9) ?_ x ?_ ?_);rfl;rfl;rfl) | (at_builtin;refine zJJ ?_))
  show wpList _ _ _ _ _ _
  refine zBP _ rfl _ _ 104 rfl base 102 i0 (.agg #[.int .i64 0,.int .i64 0,.int .i64 0,.int .i64 0,.string ⟨#[]⟩,.bool false,.int .i64 0,.int .i64 0,.string ⟨#[]⟩,.int .i64 0,.string ⟨#[]⟩,.int .i64 0,.int .i64 0,.bool false,.bool false,.string ⟨#[]⟩,.int .i64 0,.int .i64 0,.bool false,.bool false]) 20 176 underlying104 hi hz0 hz1 hz2 rfl (by decide) _ _ _ rfl hown2 ⟨w.heap.size+1,0,none⟩ 1 1 (zAK x) rfl rfl N5 (zPn x) (by unfold maxLen;omega) (by omega) hb5 ?_;intro v5 w5 hown5 hgrow hat hkeep;have hg2:((w.alloc (.cells (zAJ x (.slice av ps.length cap)).toArray 180)).alloc (.cells (zAK x).toArray 102)).grownBy w5 v.ownBlock:=hgrow;have hne:some w.heap.size ≠ v.ownBlock:=λe=>by have:=hlo _ e.symm;omega
  have c5:w5.cell? ⟨w.heap.size,20,none⟩=some (.slice av ps.length cap):=hg2.cell ((World.grownBy_alloc _ _ v.ownBlock).cell cX hne) hne;have g5:w.grownBy w5 v.ownBlock:=zEY (World.grownBy_alloc w _ _) (zEY (World.grownBy_alloc _ _ _) hg2);have own5:Hid (w5.ownsRow base 102 20 v5 (pre++[x]).length (zBf (pre++[x]))):=by
   show World.ownsRow _ _ _ _ _ _ _
   rw [zJd,zK1,List.length_append];exact hown5
  have at5:Hid (v5.ownBlock=v.ownBlock \/ ∃ b,v5.ownBlock=some b/\w.heap.size<=b):=by
   rcases hat with h | h
   ·exact .inl h
   ·exact .inr ⟨_,h,by simp;omega⟩
  have hform:∃ a c,v5=.slice a (pre.length+1) c:=by
   rcases hown5.2 with ⟨_,h0⟩ | ⟨g,cap,cur,e,_⟩
   ·omega
   ·exact ⟨_,_,e⟩
  have G5:Hid (w.grownBy w5 v.ownBlock):=g5;clear hgrow hg2 hat hkeep hown5 hown2 cX rX pX N5 hb5 hs1;go_wp2_with fail
  go_loopg [1,15] (ps.length) (λgk a b wr=>∃ i:Nat,b=.int .i64 i/\gk=ps.length - i/\i<=ps.length/\Hid (wr.ownsRow base 102 20 a (pre++x::(rows.take i).flatten).length (zBf (pre++x::(rows.take i).flatten)))/\Hid (w.grownBy wr v.ownBlock)/\Hid (a.ownBlock=v.ownBlock \/ ∃ b,a.ownBlock=some b/\w.heap.size<=b))
  case atStart=>exact ⟨0,rfl,rfl,by omega,own5,G5,at5⟩
  case round =>
   clear own5 G5 at5;obtain ⟨i,rfl,hgk,hile,OW,GR,AT⟩:=hrel;by_cases hlt:i<ps.length
   ·have hlti:(i:Int)<ps.length:=by omega
    obtain ⟨bb,rfl,hGb,hr,hpt⟩:=hp i hlt (by omega);have hrr:wr.rangeAt bb (i * 21) (zAJ (ps[i]).1 (ps[i]).2):=λj u hu=>GR.out.cell (hr j u hu) (hG bb hGb)
    obtain ⟨av',len',cap',hsl⟩:=hpt.one;generalize hxx:(ps[i]).1=x' at *;generalize hss:(ps[i]).2=sl' at *;subst hsl;have pN:=AtL.new0 wr 180 (zAJ (bare 0) (.slice none 0 0));have hthN:World.there (wr.alloc (.cells zP0 180)) wr.heap.size 0 (zAJ x' (.slice av' len' cap')).toArray.size:=pN.there;have pM:AtL ((wr.alloc (.cells zP0 180)).setCells wr.heap.size 0 (zAJ x' (.slice av' len' cap'))) wr.heap.size (zAJ x' (.slice av' len' cap')):=AtL.setAll pN rfl;have rM:=pM.range;have hbM:=zBJ (zAH (Below.refl _ wr) (.cells zP0 180)) (Nat.le_refl wr.heap.size) (zAJ x' (.slice av' len' cap')) 0;go_wp2_with (first | ((with_reducible refine wpList_load_mid (cs:=zAJ x' (.slice av' len' cap')) ?_ 180 (.tmp 17) ?_ bb (i * 21) ?_ _ ?_ underlying180 ?_ ?_ ?_);rfl;rfl;rfl;exact hrr;rfl;kernel_rfl) | ((with_reducible refine wpList_store_mid ?_ 180 (.tmp 6) (.tmp 18) ?_ (wr.heap.size) 0 (zAJ x' (.slice av' len' cap')).toArray ?_ ?_ ?_ ?_ ?_ ?_);rfl;rfl;rfl;rfl;exact hthN;kernel_rfl;exact zAi _ _ rfl) | ((with_reducible refine wpList_load_mid (cs:=zAJ x' (.slice av' len' cap')) ?_ 180 (.tmp 6) ?_ wr.heap.size 0 ?_ _ ?_ underlying180 ?_ ?_ ?_);rfl;rfl;rfl;exact rM;rfl;kernel_rfl))
    generalize ((wr.alloc (.cells zP0 180)).setCells wr.heap.size 0 (zAJ x' (.slice av' len' cap')))=wM at *;have hir:i<rows.length:=by omega
    have htk:rows.take (i+1)=rows.take i++[rows[i]]:=by rw [List.take_add_one,List.getElem?_eq_getElem hir];rfl
    have hfl:(rows.take i).flatten.length+(rows[i]).length<=rows.flatten.length:=by
     have:=congrArg (λl=>l.flatten.length) (List.take_append_drop (i+1) rows);simp only [htk,List.flatten_append,List.length_append,List.flatten_cons,List.flatten_nil,List.append_nil] at this;omega
    have hsz1:=GR.out.size;have hsz2:=hbM.size;have hP1:=PtIs.inside (G':=λb=>G b/\b<w.heap.size) (λb hb hl=>⟨hb,hl⟩) n hpt;have hP2:=PtIs.keep (λk hk h2=>GR.out.block k h2 (hG k hk.1)) n hP1;have hP3:=PtIs.keep (λk hk h2=>hbM.block k h2) n hP2;have OWM:=OW.out.kept (row:=none) ⟨hbM.os,hbM.tape,hbM.output,hbM.size,λk hk _=>hbM.block k hk⟩ (by cases u1.ownBlock <;> simp);have hGM:∀ b,G b/\b<w.heap.size->some b ≠ u1.ownBlock:=by
     intro b hb e;rcases AT.out with h | ⟨b',h,h'⟩
     ·exact hG b hb.1 (e.trans h)
     ·rw [h] at e;have:=Option.some.inj e;omega
    refine (ih x' (.slice av' len' cap') (rows[i]) _ u1 _ wM hP3 OWM hGM (by omega) (by simp only [List.length_append,List.length_cons] at hlen ⊢;omega)).mono ?_;rintro e w7 ⟨v7,rfl,own7,g7,at7⟩;have hsz3:=g7.size;have OW7:Hid (w7.ownsRow base 102 20 v7 (pre++x::(rows.take (i+1)).flatten).length (zBf (pre++x::(rows.take (i+1)).flatten))):=by
     show World.ownsRow _ _ _ _ _ _ _
     rw [htk,List.flatten_append,List.flatten_cons,List.flatten_nil,List.append_nil,<-List.cons_append,<-List.append_assoc];exact own7
    have G7:Hid (w.grownBy w7 v.ownBlock):=⟨g7.os.trans (hbM.os.trans GR.out.os),g7.tape.trans (hbM.tape.trans GR.out.tape),g7.output.trans (hbM.output.trans GR.out.output),by omega,λk hk hn=>(g7.block k (by omega) (by
      intro e;rcases AT.out with h | ⟨b',h,h'⟩
      ·exact hn (e.trans h)
      ·rw [h] at e;have:=Option.some.inj e;omega)).trans ((hbM.block k (by omega)).trans (GR.out.block k hk hn))⟩
    have A7:Hid (v7.ownBlock=v.ownBlock \/ ∃ b,v7.ownBlock=some b/\w.heap.size<=b):=by
     rcases at7 with h | ⟨b,h,h'⟩
     ·rcases AT.out with h2 | ⟨b',h2,h3⟩
      ·exact .inl (h.trans h2)
      ·exact .inr ⟨b',h.trans h2,h3⟩
     ·exact .inr ⟨b,h,by omega⟩
    clear own7 g7 at7 OWM hP1 hP2 hP3 hbM pM rM hthN pN OW GR AT hGM;go_wp2_with fail
    go_roundg (ps.length - (i+1))
    case rel=>exact ⟨i+1,rfl,rfl,by omega,OW7,G7,A7⟩
    case measure=>omega
   ·obtain rfl:i=ps.length:=by omega
    have hlti:¬ (ps.length:Int)<ps.length:=by omega
    go_wp2_with fail
    go_ret;have hfull:rows.take ps.length=rows:=by rw [<-hl];exact List.take_length
    have OW':=OW.out;rw [hfull] at OW';exact ⟨_,rfl,OW',GR.out,AT.out⟩
theorem zKk:Wt.FitV Wt.v0:=⟨by decide,by decide,by decide⟩
theorem e0:(⟨#[]⟩:ByteArray).size<=9223372036854775807:=by decide
theorem zIg (k o:Int):Wt.FitN (opN k o):=⟨zKk,e0,e0,e0⟩
theorem zGz {nm:List UInt8} (c:Nat) (h:nm.length<=1024):Wt.FitN (zCb ⟨nm.toArray⟩ c):=⟨zKk,by show nm.length<=_;omega,e0,e0⟩
theorem zDu {v:Wt.Vl} (h:Wt.FitV v):Wt.FitN (zBN v):=⟨h,e0,e0,e0⟩
theorem zN2 {t:Wlx.TV} (ht:zA5 t) {v:Wt.Vl} (h:zLB t=some v):Wt.FitV v:=by
 unfold zLB at h;split at h
 ·split at h
  ·rw [<-Option.some.inj h];generalize Wnum.oN (Wnum.rdO ⟨t.t.toArray⟩)=a;generalize Wnum.oD (Wnum.rdO ⟨t.t.toArray⟩)=b;obtain ⟨n1,n2⟩:=Wnum.cN_bd a b;obtain ⟨n3,n4⟩:=Wnum.cD_bd a b;refine ⟨?_,?_,e0⟩
   ·show _<=Wnum.cN a b/\Wnum.cN a b<=_
    omega
   ·show _<=Wnum.cD a b/\Wnum.cD a b<=_
    omega
  ·cases h
 split at h
 ·split at h
  ·rw [<-Option.some.inj h];unfold zHp;split
   ·split
    ·exact ⟨⟨by decide,by decide⟩,⟨by decide,by decide⟩,e0⟩
    ·exact ⟨⟨by simp,by simp⟩,⟨by simp,by simp⟩,by show t.t.length<=_;omega⟩
   ·exact ⟨⟨by decide,by decide⟩,⟨by decide,by decide⟩,e0⟩
  ·cases h
 split at h
 ·rw [<-Option.some.inj h];exact ⟨⟨by simp,by simp⟩,⟨by simp,by simp⟩,e0⟩
 ·cases h
theorem zQj {l:List UInt8} {a:Wt.Rf} (h:rw1 l=some a):a.s=⟨#[]⟩:=by
 unfold rw1 at h;split at h
 ·split at h
  ·rw [<-Option.some.inj h];rfl
  ·cases h
 ·cases h
theorem zMx {a:Wt.Rf} (h:pc ts en=.inl (a,r)):a.s=⟨#[]⟩/\r.length<ts.length:=by
 have hr:=zFe h;unfold pc at h;split at h
 ·rename_i hk
  split at h
  ·cases h
  split at h
  ·cases h
  split at h
  ·rename_i a' ha
   simp only [Sum.inl.injEq,Prod.mk.injEq] at h;refine ⟨by rw [<-h.1];exact zQj ha,?_⟩;cases ts with
   | nil=>exact absurd hk (by rw [zDm];decide)
   | cons t q=>rw [hr];simp
  ·cases h
 ·cases h
def zHg (n:Nat) (row:List Wt.Nd) (r:List Wlx.TV):Prop:=(∀ x ∈ row,Wt.FitN x)/\row.length+r.length<=n
theorem zPq (hok:∀ t ∈ ts,zA5 t) {row:List Wt.Nd} {r:List Wlx.TV} (h:pl ts en=.inl (row,r)):zHg ts.length row r:=by
 unfold pl at h;split at h
 ·rename_i v hv
  simp only [Sum.inl.injEq,Prod.mk.injEq] at h;obtain ⟨q,hq⟩:=zFH hv;refine ⟨?_,?_⟩
  ·rw [<-h.1];intro x hx;rw [List.mem_singleton.1 hx];exact zDu (zN2 (zCA en hok) hv)
  ·rw [<-h.1,<-h.2];rw [hq];simp;omega
 ·cases h
theorem zGm (k:Int) {s:ByteArray} (hs:s.size<=1024) (a b:Wt.Rf) (hb:b.s=⟨#[]⟩):Wt.FitN ⟨k,Wt.v0,0,⟨#[]⟩,0,⟨s,a.r,a.c,a.fr,a.fc⟩,b⟩:=⟨zKk,e0,by show s.size<=_;omega,by show b.s.size<=_;rw [hb];exact e0⟩
theorem zIW {s:ByteArray} (hs:s.size<=1024) {ts:List Wlx.TV} {en:Int} {row:List Wt.Nd} {r:List Wlx.TV} (h:pcs s ts en=.inl (row,r)):zHg ts.length row r:=by
 unfold pcs at h;cases h1:pc ts en with
 | inr e=>rw [h1] at h;cases h
 | inl q =>
  obtain ⟨a,r1⟩:=q;rw [h1] at h;simp only at h;have f1:=zMx h1;cases h2:tk r1 [58] with
  | none =>
   rw [h2] at h;simp only [Sum.inl.injEq,Prod.mk.injEq] at h;rw [<-h.1,<-h.2];exact ⟨λx hx=>by rw [List.mem_singleton.1 hx];exact zGm 2 hs a Wt.r0 rfl,by simp;omega⟩
  | some r2 =>
   rw [h2] at h;simp only at h;have s2:=(zBC h2).2;cases h3:pc r2 en with
   | inr e=>rw [h3] at h;cases h
   | inl q =>
    obtain ⟨b,r3⟩:=q;rw [h3] at h;simp only [Sum.inl.injEq,Prod.mk.injEq] at h;have f3:=zMx h3;rw [<-h.1,<-h.2];exact ⟨λx hx=>by rw [List.mem_singleton.1 hx];exact zGm 3 hs a b f3.1,by simp;omega⟩
theorem zBu (hok:∀ t ∈ ts,zA5 t) (h:r <:+ ts):∀ t ∈ r,zA5 t:=λt ht=>hok t (h.subset ht)
theorem zM2 (hsub:∀ ts row r,sub ts=.inl (row,r)->r <:+ ts) (hfit:∀ ts row r,(∀ t ∈ ts,zA5 t)->sub ts=.inl (row,r)->zHg ts.length row r) (k:Int):∀ (n:Nat) (row:List Wt.Nd) (ts:List Wlx.TV) (row':List Wt.Nd) (r:List Wlx.TV),(∀ t ∈ ts,zA5 t)->(∀ x ∈ row,Wt.FitN x)->more sub k n row ts=.inl (row',r)->zHg (row.length+ts.length) row' r:=by
 intro n;induction n with
 | zero=>intro row ts row' r hok hf h;simp only [more,Sum.inl.injEq,Prod.mk.injEq] at h;rw [<-h.2,<-h.1];exact ⟨hf,Nat.le_refl _⟩
 | succ n ih =>
  intro row ts row' r hok hf h;simp only [more] at h;cases h1:zBk k ts with
  | none=>rw [h1] at h;simp only [Sum.inl.injEq,Prod.mk.injEq] at h;rw [<-h.2,<-h.1];exact ⟨hf,Nat.le_refl _⟩
  | some q =>
   obtain ⟨o,r1⟩:=q;rw [h1] at h;simp only at h;have s1:=zAl h1;cases h2:sub r1 with
   | inr e=>rw [h2] at h;cases h
   | inl q =>
    obtain ⟨row2,r2⟩:=q;rw [h2] at h;simp only at h;have f2:=hfit _ _ _ (zBu hok s1.1) h2;have s2:=hsub _ _ _ h2;have:=ih _ _ _ _ (zBu hok (s2.trans s1.1)) (by
     intro x hx;rcases List.mem_cons.1 hx with rfl | hx
     ·exact zIg _ _
     rcases List.mem_append.1 hx with hx | hx
     ·exact hf x hx
     ·exact f2.1 x hx) h
    refine ⟨this.1,Nat.le_trans this.2 ?_⟩;have:=f2.2;simp only [List.length_cons,List.length_append];omega
theorem zL9 (hsub:∀ ts row r,sub ts=.inl (row,r)->r <:+ ts) (hfit:∀ ts row r,(∀ t ∈ ts,zA5 t)->sub ts=.inl (row,r)->zHg ts.length row r) (en:Int):∀ (n c:Nat) (rows:List Wt.Nd) (ts:List Wlx.TV) (c':Nat) (rows':List Wt.Nd) (r:List Wlx.TV),(∀ t ∈ ts,zA5 t)->(∀ x ∈ rows,Wt.FitN x)->zDZ sub en n c rows ts=.inl (c',rows',r)->(∀ x ∈ rows',Wt.FitN x)/\rows'.length+r.length<rows.length+ts.length:=by
 intro n;induction n with
 | zero=>intro c rows ts c' rows' r _ _ h;cases h
 | succ n ih =>
  intro c rows ts c' rows' r hok hf h;simp only [zDZ] at h;cases h1:tk ts [41] with
  | some q=>rw [h1] at h;simp only [Sum.inl.injEq,Prod.mk.injEq] at h;have:=(zBC h1).2;rw [<-h.2.2,<-h.2.1];exact ⟨hf,by omega⟩
  | none =>
   rw [h1] at h;simp only at h;split at h
   ·cases h
   ·cases h2:tk ts [44] with
    | none=>rw [h2] at h;cases h
    | some r1 =>
     rw [h2] at h;simp only at h;have s1:=zBC h2;cases h3:sub r1 with
     | inr e=>rw [h3] at h;cases h
     | inl q =>
      obtain ⟨row,r2⟩:=q;rw [h3] at h;simp only at h;have f2:=hfit _ _ _ (zBu hok s1.1) h3;have s2:=hsub _ _ _ h3;have:=ih _ _ _ _ _ _ (zBu hok (s2.trans s1.1)) (by
       intro x hx;rcases List.mem_append.1 hx with hx | hx
       ·exact hf x hx
       ·exact f2.1 x hx) h
      have f3:=f2.2;refine ⟨this.1,Nat.lt_of_lt_of_le this.2 ?_⟩;simp only [List.length_append];omega
theorem zKr (hsub:∀ ts row r,sub ts=.inl (row,r)->r <:+ ts) (hfit:∀ ts row r,(∀ t ∈ ts,zA5 t)->sub ts=.inl (row,r)->zHg ts.length row r) (en:Int) (nm:List UInt8) (hnm:nm.length<=1024) (ts:List Wlx.TV) (row:List Wt.Nd) (r:List Wlx.TV) (hok:∀ t ∈ ts,zA5 t) (h:zEB sub en nm ts=.inl (row,r)):zHg ts.length row r:=by
 unfold zEB at h;cases h1:tk ts [41] with
 | some q =>
  rw [h1] at h;simp only [Sum.inl.injEq,Prod.mk.injEq] at h;have:=(zBC h1).2;rw [<-h.2,<-h.1];exact ⟨λx hx=>by rw [List.mem_singleton.1 hx];exact zGz 0 hnm,by simp;omega⟩
 | none =>
  rw [h1] at h;simp only at h;cases h2:sub ts with
  | inr e=>rw [h2] at h;cases h
  | inl q =>
   obtain ⟨row1,r1⟩:=q;rw [h2] at h;simp only at h;have f2:=hfit _ _ _ hok h2;have s2:=hsub _ _ _ h2;cases h3:zDZ sub en (r1.length+1) 1 row1 r1 with
   | inr e=>rw [h3] at h;cases h
   | inl q =>
    obtain ⟨c,rows,r2⟩:=q;rw [h3] at h;simp only [Sum.inl.injEq,Prod.mk.injEq] at h;have f3:=zL9 hsub hfit en _ _ _ _ _ _ _ (zBu hok s2) f2.1 h3;rw [<-h.2,<-h.1];refine ⟨?_,?_⟩
    ·intro x hx;rcases List.mem_cons.1 hx with rfl | hx
     ·exact zGz c hnm
     ·exact f3.1 x hx
    ·have:=f3.2;have:=f2.2;simp only [List.length_cons];omega
theorem zJo (hsub:∀ ts row r,sub ts=.inl (row,r)->r <:+ ts) (hfit:∀ ts row r,(∀ t ∈ ts,zA5 t)->sub ts=.inl (row,r)->zHg ts.length row r) (en:Int) (ts:List Wlx.TV) (row:List Wt.Nd) (r:List Wlx.TV) (hok:∀ t ∈ ts,zA5 t) (h3:(hd ts en).k=3) (h:zCq sub en ts=.inl (row,r)):zHg ts.length row r:=by
 have hl:=(zCA en hok).1;have hne:0<ts.length:=by
  cases ts with
  | nil=>exact absurd h3 (by rw [zDm];decide)
  | cons t q=>simp
 have hdr:∀ k,(ts.drop k).length<=ts.length:=λk=>by rw [List.length_drop];omega
 have hb:ByteArray.size ⟨(hd ts en).t.toArray⟩<=1024:=hl;unfold zCq at h;split at h
 ·split at h
  ·have:=zKr hsub hfit en _ hl _ _ _ (zBu hok (List.drop_suffix 2 ts)) h;exact ⟨this.1,Nat.le_trans this.2 (hdr 2)⟩
  ·cases h
 split at h
 ·split at h
  ·have:=zIW hb h;exact ⟨this.1,Nat.le_trans this.2 (hdr 2)⟩
  ·cases h
 split at h
 ·simp only [Sum.inl.injEq,Prod.mk.injEq] at h;rw [<-h.2,<-h.1];exact ⟨λx hx=>by rw [List.mem_singleton.1 hx];exact zDu ⟨by decide,by decide,by decide⟩,by simp;omega⟩
 split at h
 ·simp only [Sum.inl.injEq,Prod.mk.injEq] at h;rw [<-h.2,<-h.1];exact ⟨λx hx=>by rw [List.mem_singleton.1 hx];exact zDu ⟨by decide,by decide,by decide⟩,by simp;omega⟩
 ·exact zIW (by decide) h
theorem zH2  (hfit:∀ ts row r,(∀ t ∈ ts,zA5 t)->sub ts=.inl (row,r)->zHg ts.length row r) (en:Int) (ts:List Wlx.TV) (row:List Wt.Nd) (r:List Wlx.TV) (hok:∀ t ∈ ts,zA5 t) (h:zBg sub en ts=.inl (row,r)):zHg ts.length row r:=by
 unfold zBg at h;cases h1:tk ts [40] with
 | none=>rw [h1] at h;cases h
 | some r1 =>
  rw [h1] at h;simp only at h;have s1:=zBC h1;cases h2:sub r1 with
  | inr e=>rw [h2] at h;cases h
  | inl q =>
   obtain ⟨row2,r2⟩:=q;rw [h2] at h;simp only at h;have f2:=hfit _ _ _ (zBu hok s1.1) h2;cases h3:tk r2 [41] with
   | none=>rw [h3] at h;cases h
   | some r3 =>
    rw [h3] at h;simp only [Sum.inl.injEq,Prod.mk.injEq] at h;have s3:=zBC h3;have:=f2.2;rw [<-h.2,<-h.1];exact ⟨f2.1,by omega⟩
theorem zOh:∀ (n:Nat) (row:List Wt.Nd) (ts:List Wlx.TV) (row':List Wt.Nd) (r:List Wlx.TV),(∀ x ∈ row,Wt.FitN x)->pct n row ts=.inl (row',r)->zHg (row.length+ts.length) row' r:=by
 intro n;induction n with
 | zero=>intro row ts row' r hf h;simp only [pct,Sum.inl.injEq,Prod.mk.injEq] at h;rw [<-h.2,<-h.1];exact ⟨hf,Nat.le_refl _⟩
 | succ n ih =>
  intro row ts row' r hf h;simp only [pct] at h;cases h1:zBk 6 ts with
  | none=>rw [h1] at h;simp only [Sum.inl.injEq,Prod.mk.injEq] at h;rw [<-h.2,<-h.1];exact ⟨hf,Nat.le_refl _⟩
  | some q =>
   obtain ⟨o,r1⟩:=q;rw [h1] at h;simp only at h;have s1:=zAl h1;have:=ih _ _ _ _ (λx hx=>by
    rcases List.mem_cons.1 hx with rfl | hx
    ·exact zIg _ _
    ·exact hf x hx) h
   refine ⟨this.1,Nat.le_trans this.2 ?_⟩;simp only [List.length_cons];omega
theorem zNP (en:Int):∀ (f k:Nat) (ts:List Wlx.TV) (row:List Wt.Nd) (r:List Wlx.TV),(∀ t ∈ ts,zA5 t)->lv en f k ts=.inl (row,r)->zHg ts.length row r:=by
 intro f;induction f with
 | zero=>intro k ts row r _ h;cases h
 | succ f ih =>
  intro k ts row r hok h;simp only [lv] at h;split at h
  ·cases h1:lv en f (k+1) ts with
   | inr e=>rw [h1] at h;cases h
   | inl q =>
    obtain ⟨row1,r1⟩:=q;rw [h1] at h;simp only at h;have f1:=ih _ _ _ _ hok h1;have:=zM2 (zC6 en f (k+1)) (ih (k+1)) _ _ _ _ _ _ (zBu hok (zC6 en _ _ _ _ _ h1)) f1.1 h;exact ⟨this.1,Nat.le_trans this.2 f1.2⟩
  split at h
  ·cases h1:zBk 5 ts with
   | none=>rw [h1] at h;exact ih _ _ _ _ hok h
   | some q =>
    obtain ⟨o,r1⟩:=q;rw [h1] at h;simp only at h;have s1:=zAl h1;cases h2:lv en f 5 r1 with
    | inr e=>rw [h2] at h;cases h
    | inl q =>
     obtain ⟨row2,r2⟩:=q;rw [h2] at h;simp only [Sum.inl.injEq,Prod.mk.injEq] at h;have f2:=ih _ _ _ _ (zBu hok s1.1) h2;rw [<-h.2,<-h.1];refine ⟨λx hx=>?_,?_⟩
     ·rcases List.mem_cons.1 hx with rfl | hx
      ·exact zIg _ _
      ·exact f2.1 x hx
     ·have:=f2.2;simp only [List.length_cons];omega
  split at h
  ·cases h1:lv en f 7 ts with
   | inr e=>rw [h1] at h;cases h
   | inl q =>
    obtain ⟨row1,r1⟩:=q;rw [h1] at h;simp only at h;have f1:=ih _ _ _ _ hok h1;have:=zOh _ _ _ _ _ f1.1 h;exact ⟨this.1,Nat.le_trans this.2 f1.2⟩
  split at h
  ·rename_i h3
   exact zJo (zC6 en f 0) (ih 0) _ _ _ _ hok h3 h
  split at h
  ·exact zH2 (ih 0) _ _ _ _ hok h
  ·exact zPq hok h
