/- TPartB, TPartC, TCell, TLitP. -/
import Derived.Test.YtdghjlmnlodnlaaGreatDoorQ13
set_option maxHeartbeats 8000000
set_option maxRecDepth 100000
namespace Go.Proofs.YtdghjlmnlodnlaaGreatDoor
open Go.RowKit Go.Shelf Tryz
set_option linter.unusedVariables false
variable {ts:List Wlx.TV} {W w:World} {en:Int}
theorem zAs (x:Wt.Nd) (sl:Value) (h:sl.oneCell'=true):(zAJ x sl).toArray.all (·.oneCell')=true:=all_oneCell_toArray (λv hv=>by
 unfold zAJ at hv;rcases List.mem_append.1 hv with h1 | h1
 ·exact zNL x v h1
 ·simp only [List.mem_cons,List.not_mem_nil,or_false] at h1;rw [h1];exact h)
def zAk (v:Wt.Vl):Wt.Nd:=⟨1,v,0,⟨#[]⟩,0,Wt.r0,Wt.r0⟩
theorem zDa (v:Wt.Vl) (w:World):CR 196 #[vlV v] w (ptV (zAk v) (.slice none 0 0)):=by
 obtain ⟨vk,vn,vd,vt,vb,vf⟩:=v;show Calls _ _ #[.agg #[.int .i64 vk,.int .i64 vn,.int .i64 vd,.string vt,.bool vb,.int .i64 vf]] _ _
 have pR:AtL ((w.alloc (.cells #[.int .i64 vk,.int .i64 vn,.int .i64 vd,.string vt,.bool vb,.int .i64 vf] 26)).alloc (.cells zP0 78)) (w.heap.size+1) (zAJ (bare 0) (.slice none 0 0)):=AtL.new1 w _ _ _;have hth:World.there ((w.alloc (.cells #[.int .i64 vk,.int .i64 vn,.int .i64 vd,.string vt,.bool vb,.int .i64 vf] 26)).alloc (.cells zP0 78)) (w.heap.size+1) 0 (zAJ ⟨1,⟨vk,vn,vd,vt,vb,vf⟩,0,⟨#[]⟩,0,Wt.r0,Wt.r0⟩ (.slice none 0 0)).toArray.size:=pR.there;have pR2:AtL (((w.alloc (.cells #[.int .i64 vk,.int .i64 vn,.int .i64 vd,.string vt,.bool vb,.int .i64 vf] 26)).alloc (.cells zP0 78)).setCells (w.heap.size+1) 0 (zAJ ⟨1,⟨vk,vn,vd,vt,vb,vf⟩,0,⟨#[]⟩,0,Wt.r0,Wt.r0⟩ (.slice none 0 0))) (w.heap.size+1) (zAJ ⟨1,⟨vk,vn,vd,vt,vb,vf⟩,0,⟨#[]⟩,0,Wt.r0,Wt.r0⟩ (.slice none 0 0)):=pR.setAll rfl;have hB:=zAg (zAI (zAI (Below.refl _ w) (.cells #[.int .i64 vk,.int .i64 vn,.int .i64 vd,.string vt,.bool vb,.int .i64 vf] 26)) (.cells zP0 78)) (Nat.le_succ w.heap.size) (zAJ ⟨1,⟨vk,vn,vd,vt,vb,vf⟩,0,⟨#[]⟩,0,Wt.r0,Wt.r0⟩ (.slice none 0 0)) 0;go_enter func196,ntmps196;go_upto_region 1 with fail
 go_wp2_with ((with_reducible refine wpList_store_mid ?_ 78 (.tmp 2) (.tmp 5) ?_ (w.heap.size+1) 0 (zAJ ⟨1,⟨vk,vn,vd,vt,vb,vf⟩,0,⟨#[]⟩,0,Wt.r0,Wt.r0⟩ (.slice none 0 0)).toArray ?_ ?_ ?_ ?_ ?_ ?_);rfl;rfl;rfl;rfl;exact hth;kernel_rfl;exact zAs _ _ rfl)
 refine bodyPost_ret (zAG rfl _ _ (w.heap.size+1) (zAJ ⟨1,⟨vk,vn,vd,vt,vb,vf⟩,0,⟨#[]⟩,0,Wt.r0,Wt.r0⟩ (.slice none 0 0)) _ rfl pR2.range underlying78 rfl (by kernel_rfl)) rfl ⟨rfl,hB⟩
abbrev OpS (ka kb:Nat) (o:Int) (m:ByteArray) (t:Int) (W:World):Prop :=
 W.cell? ⟨ka,0,none⟩=some (.int .i64 o)/\W.cell? ⟨ka,1,none⟩=some (.string m)/\W.cell? ⟨ka,2,none⟩=some (.int .i64 t)
theorem zAr {ka kb:Nat} {o:Int} {m:ByteArray} {t:Int} (h:AtL W ka [.int .i64 o,.string m,.int .i64 t]):OpS ka kb o m t W:=h.f3
def opN (k o:Int):Wt.Nd:=⟨k,Wt.v0,o,⟨#[]⟩,0,Wt.r0,Wt.r0⟩
def zAt (t:Int):Int:=if t<5 then 5 else 4
theorem zBM (o:Int) (m:ByteArray) (t:Int) (av:Option Addr) (len cap:Nat) (w:World):CR 114 #[.agg #[.int .i64 o,.string m,.int .i64 t],.slice av len cap] w (ptV (opN (zAt t) o) (.slice av len cap)):=by
 have C:=λw=>zBv o m t w
 have pA:=(AtL.new0 w 131 [.int .i64 o,.string m,.int .i64 t]).alloc (.cells zP0 78);have pR:AtL ((w.alloc (.cells #[.int .i64 o,.string m,.int .i64 t] 131)).alloc (.cells zP0 78)) (w.heap.size+1) (zAJ (bare 0) (.slice none 0 0)):=AtL.new1 w _ _ _;have hB0:=zAI (zAI (Below.refl _ w) (.cells #[.int .i64 o,.string m,.int .i64 t] 131)) (.cells zP0 78);unfold zAt;generalize (if t<5 then (5:Int) else 4)=kd at *;go_enter func114,ntmps114;go_upto_region 1 with fail
 refine wp_region_held_drew (S:=OpS w.heap.size (w.heap.size+1) o m t) (by kernel_rfl) (zAr (AtL.drew pA)) (λhHeld=>?_);refine tkQ 0 ⟨some 5,.load 131 (.tmp 2),131,"parse.go:51",#[],none⟩ ?_
 refine tkQ 2 ⟨some 7,.fieldAddr 131 (.tmp 2) 0,0,"parse.go:51",#[],none⟩ ?_
 refine tkQ 3 ⟨some 8,.load 3 (.tmp 7),3,"parse.go:51",#[⟨2,.data⟩],none⟩ ?_
 refine tkQ 5 ⟨some 10,.move (.tmp 1),76,"parse.go:51",#[],none⟩ ?_
 refine rdQ 1 ⟨some 6,.call {callee:=Callee.value (Operand.func 73),args:=#[.tmp 5],argTypes:=#[131]},3,"parse.go:51",#[⟨0,.data⟩],none⟩ (λK hK=>?_);go_simp
 refine (C _).mono ?_;rintro e w1 ⟨rfl,hb⟩;have pA1:=AtL.below hb (AtL.drew pA);have pR1:=AtL.below hb (AtL.drew pR);have hB1:=zAA hB0.drew hb;clear hb;go_wp2_with fail
 refine hK.out _ _ (zAr pA1) (λhHeld=>?_);clear hK K;try simp only [Act.put,lA,lZ,lS]
 refine tkQ 4 ⟨some 9,.build 30 #[(0,.tmp 6),(2,.tmp 8)],30,"parse.go:51",#[⟨1,.data⟩,⟨3,.data⟩],none⟩ ?_
 refine tkQ 6 ⟨some 11,.build 78 #[(0,.tmp 9),(1,.tmp 10)],78,"parse.go:51",#[⟨4,.data⟩,⟨5,.data⟩],none⟩ ?_
 refine rdQ 7 ⟨none,.store 78 (.tmp 4) (.tmp 11),0,"parse.go:51",#[⟨6,.data⟩,⟨1,.chain⟩,⟨0,.phase⟩,⟨1,.phase⟩,⟨2,.phase⟩,⟨3,.phase⟩,⟨4,.phase⟩,⟨5,.phase⟩,⟨6,.phase⟩],none⟩ (λK hK=>?_);refine wp_store_mid 78 (.tmp 4) (.tmp 11) rfl (w.heap.size+1) 0 (zAJ (opN kd o) (.slice av len cap)).toArray rfl rfl pR1.there (by kernel_rfl) (zAs _ _ rfl) ?_;have pR2:AtL (w1.setCells (w.heap.size+1) 0 (zAJ (opN kd o) (.slice av len cap))) (w.heap.size+1) (zAJ (opN kd o) (.slice av len cap)):=pR1.setAll rfl;have hB2:Below w.heap.size w (w1.setCells (w.heap.size+1) 0 (zAJ (opN kd o) (.slice av len cap))):=zAg hB1 (Nat.le_succ _) _ 0;refine hK.out _ _ (zAr (pA1.farAll (by omega) 0 _)) (λhHeld=>?_);clear hK K;try simp only [Act.put]
 refine wpAnyH_done (by kernel_rfl) ?_ _;go_wp2_with fail
 refine bodyPost_ret (zAG rfl _ _ (w.heap.size+1) (zAJ (opN kd o) (.slice av len cap)) _ rfl pR2.range underlying78 rfl (by kernel_rfl)) rfl ⟨rfl,hB2⟩
def pc (ts:List Wlx.TV) (en:Int):(Wt.Rf × List Wlx.TV) ⊕ (Int × Int) :=
 if (hd ts en).k=3 then (if fol ts [40] then .inr (50,pos ts en) else if fol ts [33] then .inr (50,pos ts en) else (match rw1 (hd ts en).t with | some a=>.inl (a,ts.tail) | none=>.inr (50,pos ts en))) else .inr (50,pos ts en)
def zF2 (kp:Nat) (en:Int) (r:(Wt.Rf × List Wlx.TV) ⊕ (Int × Int)) (w:World) (e:Ending) (w':World):Prop:=match r with
 | .inl (a,rest)=>e=.returned (rfV a)/\PSt w' kp rest en/\w.grownBy w' (some kp)
 | .inr (c,p)=>e=zBp c p/\w.grownBy w' (some kp)
theorem zHi (kp:Nat) (ts:List Wlx.TV) (en:Int) (w:World) (h:PSt w kp ts en) (hts:ts.length<=1024) (hok:∀ t ∈ ts,zAP t) (hE:Env w) (hk8:8<=kp):Calls prog 204 #[.pointer (some ⟨kp,0,none⟩)] w λe w'=>zF2 kp en (pc ts en) w e w':=by
 have hB0:=zAI (Below.refl _ w) (.cells zR0 28);have pZ:=AtL.new0 w 28 [.string ⟨#[]⟩,.int .i64 0,.int .i64 0,.bool false,.bool false];have h0:=h.below hB0;have hE0:=hE.below hB0;have N:=λw h=>zBO kp ts en w h
 have F1:=λw h=>zBr kp ts en [40] w h hts
 have F2:=λw h=>zBr kp ts en [33] w h hts
 have hfl:=zHA;have hfl2:=zHm;unfold pc pos;have hne:(hd ts en).k=3->∃ r,ts=hd ts en::r:=by
  intro h3;cases ts with
  | nil=>exact absurd h3 (by show ¬ (0:Int)=3;decide)
  | cons a r=>exact ⟨r,rfl⟩
 have M0:=λw h=>zAp kp ts en w h
 unfold pos zBp at M0;have hto:(hd ts en).k=3->(hd ts en).t.length<=1024:=by
  intro h3;obtain ⟨r,hr⟩:=hne h3;exact (hok (hd ts en) (by rw [hr];simp [hd])).1
 obtain ⟨t,ht⟩:∃ t,hd ts en=t:=⟨_,rfl⟩
 rw [ht] at N M0 hne hto ⊢;clear ht;obtain ⟨k,x,p⟩:=t;unfold tkV at N;simp only at N M0 hto hne ⊢;have bad:∀ (w1:World) (e:Ending),e=.panicked [{v:=.iface 72 (.agg #[.int .i64 50,.int .i64 p]),recovered:=false}]->Below w.heap.size w w1->zF2 kp en (.inr (50,p)) w e w1:=λw1 e he hb=>⟨he,zAC hb _⟩
 by_cases hk3:k=3
 ·subst hk3;rw [if_pos rfl];cases hf1:fol ts [40] with
  | true =>
   rw [hf1] at F1;rw [if_pos rfl];clear F2;go_enter func204,ntmps204;go_wp2_with fail
   refine (N _ h0).mono ?_;rintro e w1 ⟨rfl,hb⟩;have h1:=h0.below hb;have hB1:=zAA hB0 hb;clear hb h0 hB0;go_wp2_with fail
   refine (F1 _ h1).mono ?_;rintro e w2 ⟨rfl,hb⟩;have h2:=h1.below hb;have hB2:=zAA hB1 hb;clear hb h1 hB1;go_wp2_with fail
   refine (M0 _ h2).mono ?_;rintro e w3 ⟨rfl,hb⟩;have hB3:=zAA hB2 hb;go_wp2;exact ⟨rfl,bad _ _ rfl hB3⟩
  | false =>
   rw [hf1] at F1;rw [if_neg (by decide)];cases hf2:fol ts [33] with
   | true =>
    rw [hf2] at F2;rw [if_pos rfl];go_enter func204,ntmps204;go_wp2_with fail
    refine (N _ h0).mono ?_;rintro e w1 ⟨rfl,hb⟩;have h1:=h0.below hb;have hB1:=zAA hB0 hb;clear hb h0 hB0;go_wp2_with fail
    refine (F1 _ h1).mono ?_;rintro e w2 ⟨rfl,hb⟩;have h2:=h1.below hb;have hB2:=zAA hB1 hb;clear hb h1 hB1;go_wp2_with fail
    refine (F2 _ h2).mono ?_;rintro e w3 ⟨rfl,hb⟩;have h3:=h2.below hb;have hB3:=zAA hB2 hb;clear hb h2 hB2;go_wp2_with fail
    refine (M0 _ h3).mono ?_;rintro e w4 ⟨rfl,hb⟩;have hB4:=zAA hB3 hb;go_wp2;exact ⟨rfl,bad _ _ rfl hB4⟩
   | false =>
    rw [hf2] at F2;rw [if_neg (by decide)];have RW:=λw hm ht=>zFx x w hm ht (hto rfl)
    obtain ⟨r,hr⟩:=hne rfl;cases hrw:rw1 x with
    | none =>
     rw [hrw] at RW;simp only [RwV,rfV,rf5,Wt.r0] at RW;go_enter func204,ntmps204;go_wp2_with fail
     refine (N _ h0).mono ?_;rintro e w1 ⟨rfl,hb⟩;have h1:=h0.below hb;have hB1:=zAA hB0 hb;have pZ1:=AtL.below hb pZ;have hE1:=hE0.below hb;clear hb h0 hB0 pZ hE0;go_wp2_with fail
     refine (F1 _ h1).mono ?_;rintro e w2 ⟨rfl,hb⟩;have h2:=h1.below hb;have hB2:=zAA hB1 hb;have pZ2:=AtL.below hb pZ1;have hE2:=hE1.below hb;clear hb h1 hB1 pZ1 hE1;go_wp2_with fail
     refine (F2 _ h2).mono ?_;rintro e w3 ⟨rfl,hb⟩;have h3:=h2.below hb;have hB3:=zAA hB2 hb;have pZ3:=AtL.below hb pZ2;have hE3:=hE2.below hb;clear hb h2 hB2 pZ2 hE2;go_wp2_with fail
     refine (zA8 kp _).mono ?_;rintro e w4 ⟨rfl,rfl⟩;go_wp2_with fail
     refine (N _ h3).mono ?_;rintro e w4 ⟨rfl,hb⟩;have h4:=h3.below hb;have hB4:=zAA hB3 hb;have pZ4:=AtL.below hb pZ3;have hE4:=hE3.below hb;clear hb h3 hB3 pZ3 hE3;go_wp2_with fail
     refine (RW _ hE4.2.2.1 hE4.2.2.2).mono ?_;rintro e w5 ⟨rfl,hb⟩;have h5:=h4.below hb;have hB5:=zAA hB4 hb;have pZ5:=AtL.below hb pZ4;clear hb h4 hB4 pZ4 hE4 N F1 F2 RW;have h6:=h5.below (zAI (Below.refl _ w5) (.cells zR0 28));have hB6:=zAI hB5 (.cells zR0 28);go_wp2_with fail
     refine (M0 _ h6).mono ?_;rintro e w7 ⟨rfl,hb⟩;have hB7:=zAA hB6 hb;go_wp2;exact ⟨rfl,bad _ _ rfl hB7⟩
    | some a =>
     obtain ⟨as1,ar,ac,afr,afc⟩:=a;rw [hrw] at RW;simp only [RwV,rfV,rf5] at RW;subst hr;go_enter func204,ntmps204;go_wp2_with fail
     refine (N _ h0).mono ?_;rintro e w1 ⟨rfl,hb⟩;have h1:=h0.below hb;have hB1:=zAA hB0 hb;have pZ1:=AtL.below hb pZ;have hE1:=hE0.below hb;clear hb h0 hB0 pZ hE0;go_wp2_with fail
     refine (F1 _ h1).mono ?_;rintro e w2 ⟨rfl,hb⟩;have h2:=h1.below hb;have hB2:=zAA hB1 hb;have pZ2:=AtL.below hb pZ1;have hE2:=hE1.below hb;clear hb h1 hB1 pZ1 hE1;go_wp2_with fail
     refine (F2 _ h2).mono ?_;rintro e w3 ⟨rfl,hb⟩;have h3:=h2.below hb;have hB3:=zAA hB2 hb;have pZ3:=AtL.below hb pZ2;have hE3:=hE2.below hb;clear hb h2 hB2 pZ2 hE2;go_wp2_with fail
     refine (zA8 kp _).mono ?_;rintro e w4 ⟨rfl,rfl⟩;go_wp2_with fail
     refine (N _ h3).mono ?_;rintro e w4 ⟨rfl,hb⟩;have h4:=h3.below hb;have hB4:=zAA hB3 hb;have pZ4:=AtL.below hb pZ3;have hE4:=hE3.below hb;clear hb h3 hB3 pZ3 hE3;go_wp2_with fail
     refine (RW _ hE4.2.2.1 hE4.2.2.2).mono ?_;rintro e w5 ⟨rfl,hb⟩;have h5:=h4.below hb;have hB5:=zAA hB4 hb;have pZ5:=AtL.below hb pZ4;clear hb h4 hB4 pZ4 hE4 N F1 F2 RW;have h6:=h5.below (zAI (Below.refl _ w5) (.cells #[.string as1,.int .i64 ar,.int .i64 ac,.bool afr,.bool afc] 28));have hB6:=zAI hB5 (.cells #[.string as1,.int .i64 ar,.int .i64 ac,.bool afr,.bool afc] 28);have pZ6:=AtL.alloc pZ5 (.cells #[.string as1,.int .i64 ar,.int .i64 ac,.bool afr,.bool afc] 28);have pY6:=AtL.new0 w5 28 [.string as1,.int .i64 ar,.int .i64 ac,.bool afr,.bool afc];have hw5:=hB5.size;have hlt5:=pZ5.lt;have hkp:=h.lt;clear h5 hB5 pZ5;go_wp2_with fail
     refine (zA8 kp _).mono ?_;rintro e w6 ⟨rfl,rfl⟩;have P:=zBC 1 kp [⟨3,x,p⟩] r en _ h6 rfl (by decide) hts;go_wp2_with fail
     refine P.mono ?_;rintro e w7 ⟨rfl,hp,hg⟩;have pZ7:=pZ6.grown hg (by intro e;have:=Option.some.inj e;omega);have pY7:=pY6.grown hg (by intro e;have:=Option.some.inj e;omega);have hG:=zAB (zAC hB6 (some kp)) hg;clear P h6 hB6 pZ6 pY6 hg;obtain ⟨y0,y1,y2,y3,y4⟩:=pY7.f5;obtain ⟨z0,z1,z2,z3,z4,g0,g1,g2,g3,g4⟩:=pZ7.five;go_wp2;have pZ8:=((((pZ7.set 0 (.string as1)).set 1 (.int .i64 ar)).set 2 (.int .i64 ac)).set 3 (.bool afr)).set 4 (.bool afc);refine bodyPost_ret (zAG rfl _ _ w.heap.size [.string as1,.int .i64 ar,.int .i64 ac,.bool afr,.bool afc] _ rfl pZ8.range underlying28 rfl (by kernel_rfl)) rfl ?_;exact ⟨rfl,((((hp.far hkp _ _).far hkp _ _).far hkp _ _).far hkp _ _).far hkp _ _,zAS (zAS (zAS (zAS (zAS hG (Nat.le_refl _) _ _) (Nat.le_refl _) _ _) (Nat.le_refl _) _ _) (Nat.le_refl _) _ _) (Nat.le_refl _) _ _⟩
 ·rw [if_neg hk3];have hk':(k == 3)=false:=by simp [hk3]
  clear F1 F2;go_enter func204,ntmps204;go_wp2_with fail
  refine (N _ h0).mono ?_;rintro e w1 ⟨rfl,hb⟩;have h1:=h0.below hb;have hB1:=zAA hB0 hb;clear hb h0 hB0;go_wp2_with fail
  refine (M0 _ h1).mono ?_;rintro e w2 ⟨rfl,hb⟩;have hB2:=zAA hB1 hb;go_wp2;exact ⟨rfl,bad _ _ rfl hB2⟩
abbrev PR:Type:=(List Wt.Nd × List Wlx.TV) ⊕ (Int × Int)
def zAN (kp:Nat) (en:Int) (r:PR) (w:World) (e:Ending) (w':World):Prop:=match r with
 | .inl (row,rest)=>∃ v,e=.returned v/\Pt w' w.heap.size v row/\PSt w' kp rest en/\w.grownBy w' (some kp)
 | .inr (c,p)=>e=zBp c p/\w.grownBy w' (some kp)
theorem PSt.farAll {kp:Nat} (h:PSt w kp ts en) {b:Nat} (hb:kp<b):∀ (vs:List Value) (o:Nat),PSt (w.setCells b o vs) kp ts en:=by
 intro vs;induction vs generalizing w with
 | nil=>intro o;exact h
 | cons v r ih=>intro o;rw [World.setCells];exact ih (h.far hb o v) (o+1)
theorem zAK {row:Option Nat} (h:w.grownBy W row) {b:Nat} (hb:w.heap.size<=b):∀ (vs:List Value) (o:Nat),w.grownBy (W.setCells b o vs) row:=by
 intro vs;induction vs generalizing W with
 | nil=>intro o;exact h
 | cons v r ih=>intro o;rw [World.setCells];exact ih (zAS h hb o v) (o+1)
def pl (ts:List Wlx.TV) (en:Int):PR:=match zKG (hd ts en) with
 | some v=>.inl ([zAk v],ts.tail)
 | none=>.inr (50,pos ts en)
theorem zF6 {v:Wt.Vl} (h:zKG (hd ts en)=some v):∃ r,ts=hd ts en::r:=by
 cases ts with
 | nil=>exact absurd h (by simp [zKG,hd])
 | cons t r=>exact ⟨r,rfl⟩
theorem zC7 (en:Int) (h:∀ t ∈ ts,zAP t):zAP (hd ts en):=by
 cases ts with
 | nil=>exact ⟨by show 0<=1024;omega,λh=>absurd h (by show ¬ (0:Int)=4;decide)⟩
 | cons t r=>exact h t (by simp)
theorem zDq (kp:Nat) (ts:List Wlx.TV) (en:Int) (w:World) (h:PSt w kp ts en) (hts:ts.length<=1024) (hok:∀ t ∈ ts,zAP t) (hE:Env w) (hk8:8<=kp):Calls prog 179 #[.pointer (some ⟨kp,0,none⟩)] w λe w'=>zAN kp en (pl ts en) w e w':=by
 have hB0:=zAI (Below.refl _ w) (.cells zP0 78);have pZ:AtL (w.alloc (.cells zP0 78)) w.heap.size (zAJ (bare 0) (.slice none 0 0)):=AtL.new0 w _ _;have h0:=h.below hB0;have hE0:=hE.below hB0;have N:=λw h=>zBO kp ts en w h
 have LV:=λw h=>zMJ (hd ts en) w h (zC7 en hok)
 have M0:=λw h=>zAp kp ts en w h
 have LC:=λv=>@zF6 ts en v
 unfold pl;unfold pos at M0 ⊢;obtain ⟨t,ht⟩:∃ t,hd ts en=t:=⟨_,rfl⟩
 rw [ht] at N M0 LV LC ⊢;clear ht;cases hl:zKG t with
 | none =>
  simp only;unfold zBp at M0;go_enter func179,ntmps179;go_wp2_with fail
  generalize w.alloc (.cells zP0 78)=wa at *;refine (N _ h0).mono ?_;rintro e w1 ⟨rfl,hb⟩;have h1:=h0.below hb;have hB1:=zAA hB0 hb;have hE1:=hE0.below hb;clear hb h0 hB0 hE0;go_wp2_with fail
  refine (LV _ hE1.2.1).mono ?_;rintro e w2 ⟨⟨v,ok,rfl,hv⟩,hb⟩;rw [hl] at hv;have hk:ok=false:=by
   cases ok with
   | false=>rfl
   | true=>exact absurd hv (by simp)
  subst hk;obtain ⟨v1,v2,v3,v4,v5,v6⟩:=v;simp only [vlV,vl6];have h2:=(h1.below hb).below (zAI (Below.refl _ w2) (.cells #[.int .i64 v1,.int .i64 v2,.int .i64 v3,.string v4,.bool v5,.int .i64 v6] 26));have hB2:=zAI (zAA hB1 hb) (.cells #[.int .i64 v1,.int .i64 v2,.int .i64 v3,.string v4,.bool v5,.int .i64 v6] 26);clear hb h1 hB1;go_wp2_with fail
  refine (M0 _ h2).mono ?_;rintro e w3 ⟨rfl,hb⟩;have hB3:=zAA hB2 hb;go_wp2;exact ⟨rfl,rfl,zAC hB3 _⟩
 | some v =>
  simp only;obtain ⟨r,hr⟩:=LC v hl;have hkp:=h.lt;have KC:=λw=>zDa v w
  go_enter func179,ntmps179;go_wp2_with fail
  generalize w.alloc (.cells zP0 78)=wa at *;refine (N _ h0).mono ?_;rintro e w1 ⟨rfl,hb⟩;have h1:=h0.below hb;have hB1:=zAA hB0 hb;have hE1:=hE0.below hb;have pZ1:=AtL.below hb pZ;clear hb h0 hB0 hE0 pZ;go_wp2_with fail
  refine (LV _ hE1.2.1).mono ?_;rintro e w2 ⟨⟨v',ok,rfl,hv⟩,hb⟩;rw [hl] at hv;have hk:ok=true/\v=v':=by
   cases ok with
   | false=>exact absurd hv (by simp)
   | true=>exact ⟨rfl,by simpa using hv⟩
  obtain ⟨rfl,rfl⟩:=hk;obtain ⟨v1,v2,v3,v4,v5,v6⟩:=v;simp only [vlV,vl6] at KC ⊢;have h2:=(h1.below hb).below (zAI (Below.refl _ w2) (.cells #[.int .i64 v1,.int .i64 v2,.int .i64 v3,.string v4,.bool v5,.int .i64 v6] 26));have hB2:=zAI (zAA hB1 hb) (.cells #[.int .i64 v1,.int .i64 v2,.int .i64 v3,.string v4,.bool v5,.int .i64 v6] 26);have pZ2:=(AtL.below hb pZ1).alloc (.cells #[.int .i64 v1,.int .i64 v2,.int .i64 v3,.string v4,.bool v5,.int .i64 v6] 26);have pY2:=AtL.new0 w2 26 [.int .i64 v1,.int .i64 v2,.int .i64 v3,.string v4,.bool v5,.int .i64 v6];have hlt2:=(AtL.below hb pZ1).lt;clear hb h1 hB1 pZ1 hl hv LC M0;subst hr;have P:=zBC 1 kp [t] r en _ h2 rfl (by decide) hts;go_wp2_with fail
  refine (zA8 kp _).mono ?_;rintro e w3 ⟨rfl,rfl⟩;go_wp2_with fail
  refine P.mono ?_;rintro e w3 ⟨rfl,hp,hg⟩;have pZ3:=pZ2.grown hg (by intro e;have:=Option.some.inj e;omega);have pY3:=pY2.grown hg (by intro e;have:=Option.some.inj e;omega);have hG:=zAB (zAC hB2 (some kp)) hg;clear P h2 hB2 pZ2 pY2 hg;obtain ⟨y0,y1,y2,y3,y4,y5⟩:=pY3.f6;go_wp2_with fail
  refine (KC _).mono ?_;rintro e w4 ⟨rfl,hb⟩;have pZ4:=AtL.below hb pZ3;have hp4:=hp.below hb;have hG4:=zAB hG (zAC hb (some kp));have hth:World.there w4 w.heap.size 0 (zAJ (zAk ⟨v1,v2,v3,v4,v5,v6⟩) (.slice none 0 0)).toArray.size:=pZ4.there;clear pZ3 hp hG hb y0 y1 y2 y3 y4 y5 pY3;unfold ptV;go_wp2_with ((with_reducible refine wpList_store_mid ?_ 78 (.tmp 2) (.tmp 17) ?_ (w.heap.size) 0 (zAJ (zAk ⟨v1,v2,v3,v4,v5,v6⟩) (.slice none 0 0)).toArray ?_ ?_ ?_ ?_ ?_ ?_);rfl;rfl;rfl;rfl;exact hth;kernel_rfl;exact zAs _ _ rfl)
  have pZ5:AtL (w4.setCells w.heap.size 0 (zAJ (zAk ⟨v1,v2,v3,v4,v5,v6⟩) (.slice none 0 0))) w.heap.size (zAJ (zAk ⟨v1,v2,v3,v4,v5,v6⟩) (.slice none 0 0)):=pZ4.setAll rfl;refine bodyPost_ret (zAG rfl _ _ w.heap.size (zAJ (zAk ⟨v1,v2,v3,v4,v5,v6⟩) (.slice none 0 0)) _ rfl pZ5.range underlying78 rfl (by kernel_rfl)) rfl ?_;exact ⟨_,rfl,⟨1,_,_,rfl,PtIs.leaf _ _ _⟩,hp4.farAll hkp _ 0,zAK hG4 (Nat.le_refl _) _ 0⟩
end Go.Proofs.YtdghjlmnlodnlaaGreatDoor
