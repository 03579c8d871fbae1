/- KFrF, KFrG, KFrH, KFrI, KFrJ, KFrK. -/
import Derived.Test.YtnloiaoogofklaaGreatDoorQ38
set_option maxHeartbeats 400000
set_option maxRecDepth 100000
namespace Go.Proofs.YtnloiaoogofklaaGreatDoor
open Tryz
open Go.RowKit Wf
set_option linter.unusedVariables false
variable {w w':World} {n B i s B' s' c k:Nat} {zs R os:List Rg} {v:Value} {ops:Array Oper} {rest:List Oper} {op:Oper} {a:Act} {Q:Exit->Act->World->Prop} {l:List Value} {P P':List (Wc.In × Value)} {L:List Wf.I}
structure M3 (B:Nat) (lv uv x y u v tv:Value) (A D:List (Wc.In × Value)) (U1 U2:List Wpl.Ar) (zs:List Rg) (ts:List Value) (w:World):Prop where
 l:w.ownsRow B 30 1 lv 2 [x,y]
 s:w.ownsRow B 34 1 uv 2 [u,v]
 xs:ZF 48 23 w B (xR x y A D)
 ar:ZF 45 5 w B (aR u v U1 U2)
 zr:ZF 3 1 w B zs
 t:w.ownsRow B 46 1 tv ts.length ts
section
variable {B:Nat} {lv uv x y u v tv:Value} {A D:List (Wc.In × Value)} {U1 U2:List Wpl.Ar} {zs:List Rg} {ts:List Value} {w w':World}
theorem M3.below (h:M3 B lv uv x y u v tv A D U1 U2 zs ts w) (hb:Below w.heap.size w w'):M3 B lv uv x y u v tv A D U1 U2 zs ts w' :=
 ⟨zAR (Fr.of_below [] hb) h.l (by simp),zAR (Fr.of_below [] hb) h.s (by simp),h.xs.below hb,h.ar.below hb,h.zr.below hb,zAR (Fr.of_below [] hb) h.t (by simp)⟩
theorem M3.grow (h:M3 B lv uv x y u v tv A D U1 U2 zs ts w) {tv' z:Value} (hg:w.grownBy w' tv.ownBlock) (ho:w'.ownsRow B 46 1 tv' (ts++[z]).length (ts++[z])):M3 B lv uv x y u v tv' A D U1 U2 zs (ts++[z]) w' :=
 ⟨zAS h.l h.t (by decide) hg,zAS h.s h.t (by decide) hg,h.xs.other h.t (by decide) hg,h.ar.other h.t (by decide) hg,h.zr.other h.t (by decide) hg,ho⟩
theorem M3.mark0 (h:M3 B lv uv x y u v tv A D U1 U2 zs ts w) {g cap:Nat} (e:x=.slice (some ⟨g,0,none⟩) A.length cap) {i:Nat} (hi:i<A.length) (p:Wc.In × Value):M3 B lv uv x y u v tv (A.set i p) D U1 U2 zs ts (w.setCells g (i * 23) (zAD p.1 p.2)):=by
 obtain ⟨a,b⟩:=xR.put0 h.xs e hi p;have ho:w.ownsRow B 48 23 x A.length (zAN A):=h.xs.1 0 (by simp);have hg:w.grownBy (w.setCells g (i * 23) (zAD p.1 p.2)) x.ownBlock:=by rw [e];exact b
 exact ⟨zAS h.l ho (by decide) hg,zAS h.s ho (by decide) hg,a,h.ar.other ho (by decide) hg,h.zr.other ho (by decide) hg,zAS h.t ho (by decide) hg⟩
theorem M3.mark1 (h:M3 B lv uv x y u v tv A D U1 U2 zs ts w) {g cap:Nat} (e:y=.slice (some ⟨g,0,none⟩) D.length cap) {i:Nat} (hi:i<D.length) (p:Wc.In × Value):M3 B lv uv x y u v tv A (D.set i p) U1 U2 zs ts (w.setCells g (i * 23) (zAD p.1 p.2)):=by
 obtain ⟨a,b⟩:=xR.put1 h.xs e hi p;have ho:w.ownsRow B 48 23 y D.length (zAN D):=h.xs.1 1 (by simp);have hg:w.grownBy (w.setCells g (i * 23) (zAD p.1 p.2)) y.ownBlock:=by rw [e];exact b
 exact ⟨zAS h.l ho (by decide) hg,zAS h.s ho (by decide) hg,a,h.ar.other ho (by decide) hg,h.zr.other ho (by decide) hg,zAS h.t ho (by decide) hg⟩
theorem M3.area0 (h:M3 B lv uv x y u v tv A D U1 U2 zs ts w) {g cap:Nat} (e:u=.slice (some ⟨g,0,none⟩) U1.length cap) {i:Nat} (hi:i<U1.length) (p:Wpl.Ar):M3 B lv uv x y u v tv A D (U1.set i p) U2 zs ts (w.setCells g (i * 5) (zA7 p)):=by
 obtain ⟨a,b⟩:=aR.put0 h.ar e hi p;have ho:w.ownsRow B 45 5 u U1.length (zAQ U1):=h.ar.1 0 (by simp);have hg:w.grownBy (w.setCells g (i * 5) (zA7 p)) u.ownBlock:=by rw [e];exact b
 exact ⟨zAS h.l ho (by decide) hg,zAS h.s ho (by decide) hg,h.xs.other ho (by decide) hg,a,h.zr.other ho (by decide) hg,zAS h.t ho (by decide) hg⟩
theorem M3.area1 (h:M3 B lv uv x y u v tv A D U1 U2 zs ts w) {g cap:Nat} (e:v=.slice (some ⟨g,0,none⟩) U2.length cap) {i:Nat} (hi:i<U2.length) (p:Wpl.Ar):M3 B lv uv x y u v tv A D U1 (U2.set i p) zs ts (w.setCells g (i * 5) (zA7 p)):=by
 obtain ⟨a,b⟩:=aR.put1 h.ar e hi p;have ho:w.ownsRow B 45 5 v U2.length (zAQ U2):=h.ar.1 1 (by simp);have hg:w.grownBy (w.setCells g (i * 5) (zA7 p)) v.ownBlock:=by rw [e];exact b
 exact ⟨zAS h.l ho (by decide) hg,zAS h.s ho (by decide) hg,h.xs.other ho (by decide) hg,a,h.zr.other ho (by decide) hg,zAS h.t ho (by decide) hg⟩
theorem M3.place (h:M3 B lv uv x y u v tv A D U1 U2 zs ts w) {i:Nat} (hi:i<zs.length) {g cap:Nat} (e:(zs[i]).1=.slice (some ⟨g,0,none⟩) (zs[i]).2.1 cap) (k:Nat) (a:Value):M3 B lv uv x y u v tv A D U1 U2 (zs.set i ((zs[i]).1,(zs[i]).2.1,(zs[i]).2.2.set k a)) ts (w.setCell ⟨g,k,none⟩ a):=by
 have ho:=h.zr.1 i hi;have hg:w.grownBy (w.setCell ⟨g,k,none⟩ a) (zs[i]).1.ownBlock:=by
  have h1:=ho;rw [e] at h1 ⊢;exact (World.ownsRow.stored h1 k a).2
 exact ⟨zAS h.l ho (by decide) hg,zAS h.s ho (by decide) hg,h.xs.other ho (by decide) hg,h.ar.other ho (by decide) hg,h.zr.put hi e k a,zAS h.t ho (by decide) hg⟩
end
theorem M3.start {C D':Nat} {U:List Wpl.Ar} {lv uv x y u:Value} (hl:w.ownsRow B 30 1 lv 2 [x,y]) (hs:w.ownsRow B 34 1 uv 2 [u,v]) (h0:FxC w B C x L P) (h1:FxC w C D' y L P') (hB:B<=C) (a0:OwnA w B u U) (a1:OwnA w C v U) (ha:∀ g,u.ownBlock=some g->g<C):M3 B lv uv x y u v (.slice none 0 0) P P' U U (zrs P L++zrs P' L) [] w :=
 ⟨hl,hs,(zQC h0 h1 hB).1,zRR a0 a1 hB ha,(zQC h0 h1 hB).2,⟨rfl,Or.inl ⟨rfl,rfl⟩⟩⟩
theorem zEr (hgd:op.guard=none) (x y:Operand) (ho:op.op=.build 48 #[(0,x),(1,y)]) (o b:Int) (hx:a.eval x=.int .i64 o) (hy:a.eval y=.int .i64 b)
  (h:wpList prog ops Q rest (a.put op.dst (.agg (zAD (ins o b 0).1 zAH).toArray)) w):wpList prog ops Q (op::rest) a w:=by
 refine wpList_plain hgd λK hK=>?_
 unfold Oper.wp execOp;simp only [ho,List.map_toArray,List.map_cons,List.map_nil,hx,hy,Sem.run_bind,Sem.run_pure,Result.andThen_ok,zRE];exact hK _ _ h
theorem zFe:(prog.info? 46).map (λi=>(i.zero,i.size,i.bytes))=some (some (.slice none 0 0),1,24):=by kernel_rfl
theorem zQJ:prog.underlying 39=some (.slice 46):=by kernel_rfl
open Go.RowKit Wf
def Rds (w:World) (R:List Rg):Prop:=∀ r ∈ R,RdO w r.1 r.2.1 r.2.2
def Apt (R zs:List Rg):Prop:=∀ r ∈ R,∀ z ∈ zs,∀ b,r.1.ownBlock=some b->z.1.ownBlock ≠ some b
theorem RdO.lt (h:RdO w v n l) {b:Nat} (e:v.ownBlock=some b):b<w.heap.size:=by
 rcases h with ⟨d,_⟩ | ⟨g,cap,d,hlt,_⟩
 ·rw [d] at e;cases e
 ·rw [d] at e;have:some g=some b:=e;simp only [Option.some.injEq] at this;omega
theorem Rds.below (h:Rds w R) (hb:Below w.heap.size w w'):Rds w' R:=λr hr=>(h r hr).below hb
theorem Rds.keep (h:Rds w R) (hA:Apt R zs) {i:Nat} (hi:i<zs.length) (hg:w.grownBy w' (zs[i]).1.ownBlock):Rds w' R:=λr hr=>(h r hr).keep hg (λg e=>Or.inl (hA r hr _ (List.getElem_mem hi) g e))
theorem Rds.ff {T:TypeId} (h:FF T s w B os zs):Rds w os:=λr hr=>by
 obtain ⟨i,hi,rfl⟩:=List.getElem_of_mem hr;exact h.rd i hi
theorem Rds.zf {T:TypeId} (h:ZF T s w B zs):Rds w zs:=λr hr=>by
 obtain ⟨i,hi,rfl⟩:=List.getElem_of_mem hr;exact RdO.of (h.1 i hi)
theorem Apt.set (h:Apt R zs) (hr:Rds w R) {i:Nat} (hi:i<zs.length) {z:Value} {n:Nat} {l:List Value} (hz:z.ownBlock=(zs[i]).1.ownBlock \/ z.ownBlock=some w.heap.size):Apt R (zs.set i (z,n,l)):=by
 intro r hm y hy b e1 e2;rcases List.mem_or_eq_of_mem_set hy with q | q
 ·exact h r hm y q b e1 e2
 ·subst q;rcases hz with q | q
  ·exact h r hm _ (List.getElem_mem hi) b e1 (by rw [<-q];exact e2)
  ·have e3:z.ownBlock=some b:=e2;rw [q] at e3;have:=(hr r hm).lt e1;simp only [Option.some.injEq] at e3;omega
theorem Apt.own {T T':TypeId} (h:w.ownsRow B' T' s' v n l) (hz:ZF T s w B zs) (hT:T' ≠ T):∀ z ∈ zs,∀ b,v.ownBlock=some b->z.1.ownBlock ≠ some b:=λz hm b e=>by
 obtain ⟨i,hi,rfl⟩:=List.getElem_of_mem hm;exact zAc h (hz.1 i hi) hT b e
theorem Apt.zf {T T':TypeId} (h:ZF T' s' w B' R) (hz:ZF T s w B zs) (hT:T' ≠ T):Apt R zs:=λr hm=>by
 obtain ⟨i,hi,rfl⟩:=List.getElem_of_mem hm;exact Apt.own (h.1 i hi) hz hT
structure M9 (B:Nat) (R ox zx oa za:List Rg) (w:World):Prop where
 x:FF 48 23 w B ox zx
 a:FF 45 5 w B oa za
 r:Rds w R
 rx:Apt R zx
 ra:Apt R za
 xa:Apt ox za
 ax:Apt oa zx
section
variable {B:Nat} {R ox zx oa za:List Rg} {w w':World}
theorem M9.below (h:M9 B R ox zx oa za w) (hb:Below w.heap.size w w'):M9 B R ox zx oa za w':=⟨h.x.below hb,h.a.below hb,h.r.below hb,h.rx,h.ra,h.xa,h.ax⟩
theorem M9.growX (h:M9 B R ox zx oa za w) {i:Nat} (hi:i<zx.length) {z:Value} {n:Nat} {l:List Value} (ho:w'.ownsRow B 48 23 z n l) (hg:w.grownBy w' (zx[i]).1.ownBlock) (hz:z.ownBlock=(zx[i]).1.ownBlock \/ z.ownBlock=some w.heap.size) (hl:(zx[i]).2.1 * 23<=n * 23) (hk:∀ g j,(zx[i]).1.ownBlock=some g->j<(zx[i]).2.1 * 23->w'.cell? ⟨g,j,none⟩=w.cell? ⟨g,j,none⟩):M9 B R ox (zx.set i (z,n,l)) oa za w' :=
 ⟨h.x.grow hi ho hg hz hl hk,h.a.other hg (λj hj g e e2=>zAc (h.a.z.1 j hj) (h.x.z.1 i hi) (by decide) g e e2) (λj hj g e=>h.ax _ (List.getElem_mem hj) _ (List.getElem_mem hi) g e),h.r.keep h.rx hi hg,h.rx.set h.r hi hz,h.ra,h.xa,h.ax.set (Rds.ff h.a) hi hz⟩
theorem M9.growA (h:M9 B R ox zx oa za w) {i:Nat} (hi:i<za.length) {z:Value} {n:Nat} {l:List Value} (ho:w'.ownsRow B 45 5 z n l) (hg:w.grownBy w' (za[i]).1.ownBlock) (hz:z.ownBlock=(za[i]).1.ownBlock \/ z.ownBlock=some w.heap.size) (hl:(za[i]).2.1 * 5<=n * 5) (hk:∀ g j,(za[i]).1.ownBlock=some g->j<(za[i]).2.1 * 5->w'.cell? ⟨g,j,none⟩=w.cell? ⟨g,j,none⟩):M9 B R ox zx oa (za.set i (z,n,l)) w' :=
 ⟨h.x.other hg (λj hj g e e2=>zAc (h.x.z.1 j hj) (h.a.z.1 i hi) (by decide) g e e2) (λj hj g e=>h.xa _ (List.getElem_mem hj) _ (List.getElem_mem hi) g e),h.a.grow hi ho hg hz hl hk,h.r.keep h.ra hi hg,h.rx,h.ra.set h.r hi hz,h.xa.set (Rds.ff h.x) hi hz,h.ax⟩
end
structure M8 (B C:Nat) (lv uv x y u v tv fv:Value) (A D:List (Wc.In × Value)) (U1 U2:List Wpl.Ar) (os zs:List Rg) (ts fs:List Value) (w:World):Prop where
 l:w.ownsRow B 30 1 lv 2 [x,y]
 s:w.ownsRow B 34 1 uv 2 [u,v]
 xs:ZF 48 23 w B (xR x y A D)
 ar:ZF 45 5 w B (aR u v U1 U2)
 z:FF 3 1 w B os zs
 t:w.ownsRow B 46 1 tv ts.length ts
 f:w.ownsRow C 46 1 fv fs.length fs
 tc:∀ g,tv.ownBlock=some g->g<C
 oc:∀ r ∈ os,∀ g,r.1.ownBlock=some g->g<C
 ox:Apt os (xR x y A D)
 oa:Apt os (aR u v U1 U2)
section
variable {B C:Nat} {lv uv x y u v tv fv:Value} {A D:List (Wc.In × Value)} {U1 U2:List Wpl.Ar} {os zs:List Rg} {ts fs:List Value} {w w':World}
theorem M8.start (h:M3 B lv uv x y u v tv A D U1 U2 zs ts w):M8 B w.heap.size lv uv x y u v tv (.slice none 0 0) A D U1 U2 zs zs ts [] w :=
 ⟨h.l,h.s,h.xs,h.ar,FF.start h.zr,h.t,⟨rfl,Or.inl ⟨rfl,rfl⟩⟩,λg e=>(zAI h.t e).2,λr hr g e=>(Rds.zf h.zr r hr).lt e,Apt.zf h.zr h.xs (by decide),Apt.zf h.zr h.ar (by decide)⟩
theorem M8.below (h:M8 B C lv uv x y u v tv fv A D U1 U2 os zs ts fs w) (hb:Below w.heap.size w w'):M8 B C lv uv x y u v tv fv A D U1 U2 os zs ts fs w' :=
 ⟨zAR (Fr.of_below [] hb) h.l (by simp),zAR (Fr.of_below [] hb) h.s (by simp),h.xs.below hb,h.ar.below hb,h.z.below hb,zAR (Fr.of_below [] hb) h.t (by simp),zAR (Fr.of_below [] hb) h.f (by simp),h.tc,h.oc,h.ox,h.oa⟩
theorem M8.growZ (h:M8 B C lv uv x y u v tv fv A D U1 U2 os zs ts fs w) {i:Nat} (hi:i<zs.length) {z:Value} {n:Nat} {l:List Value} (ho:w'.ownsRow B 3 1 z n l) (hg:w.grownBy w' (zs[i]).1.ownBlock) (hz:z.ownBlock=(zs[i]).1.ownBlock \/ z.ownBlock=some w.heap.size) (hl:(zs[i]).2.1 * 1<=n * 1) (hk:∀ g j,(zs[i]).1.ownBlock=some g->j<(zs[i]).2.1 * 1->w'.cell? ⟨g,j,none⟩=w.cell? ⟨g,j,none⟩):M8 B C lv uv x y u v tv fv A D U1 U2 os (zs.set i (z,n,l)) ts fs w':=by
 have o:=h.z.z.1 i hi;exact ⟨zAS h.l o (by decide) hg,zAS h.s o (by decide) hg,h.xs.other o (by decide) hg,h.ar.other o (by decide) hg,h.z.grow hi ho hg hz hl hk,zAS h.t o (by decide) hg,zAS h.f o (by decide) hg,h.tc,h.oc,h.ox,h.oa⟩
theorem M8.growF (h:M8 B C lv uv x y u v tv fv A D U1 U2 os zs ts fs w) {fv' z:Value} (hg:w.grownBy w' fv.ownBlock) (ho:w'.ownsRow C 46 1 fv' (fs++[z]).length (fs++[z])):M8 B C lv uv x y u v tv fv' A D U1 U2 os zs ts (fs++[z]) w':=by
 have nn:∀ g,fv.ownBlock=some g->C<=g:=λg e=>(zAI h.f e).1
 refine ⟨zAS h.l h.f (by decide) hg,zAS h.s h.f (by decide) hg,h.xs.other h.f (by decide) hg,h.ar.other h.f (by decide) hg,h.z.other hg (λi hi g e e2=>zAc (h.z.z.1 i hi) h.f (by decide) g e e2) (λi hi g e e2=>?_),?_,ho,h.tc,h.oc,h.ox,h.oa⟩
 ·have:=h.oc _ (List.getElem_mem hi) g e;have:=nn g e2;omega
 ·refine zAR (S:=fv.ownBlock.toList) (Fr.of_grown hg (λk e=>by rw [e];simp)) h.t (λg e hm=>?_);have a1:=h.tc g e;cases c:fv.ownBlock with
  | none=>rw [c] at hm;simp at hm
  | some q =>
   rw [c] at hm;simp at hm;have:=nn q c;omega
abbrev rdR (lv uv x y u v tv fv:Value) (os zs:List Rg) (ts fs:List Value):List Rg:=(lv,2,[x,y])::(uv,2,[u,v])::(tv,ts.length,ts)::(fv,fs.length,fs)::(os++zs)
theorem M8.m9 (h:M8 B C lv uv x y u v tv fv A D U1 U2 os zs ts fs w):M9 B (rdR lv uv x y u v tv fv os zs ts fs) (xR x y A D) (xR x y A D) (aR u v U1 U2) (aR u v U1 U2) w:=by
 refine ⟨FF.start h.xs,FF.start h.ar,λr hr=>?_,λr hr=>?_,λr hr=>?_,Apt.zf h.xs h.ar (by decide),Apt.zf h.ar h.xs (by decide)⟩
 ·simp only [rdR,List.mem_cons,List.mem_append] at hr;rcases hr with rfl | rfl | rfl | rfl | q | q
  ·exact RdO.of h.l
  ·exact RdO.of h.s
  ·exact RdO.of h.t
  ·exact RdO.of h.f
  ·exact Rds.ff h.z r q
  ·exact Rds.zf h.z.z r q
 ·simp only [rdR,List.mem_cons,List.mem_append] at hr;rcases hr with rfl | rfl | rfl | rfl | q | q
  ·exact Apt.own h.l h.xs (by decide)
  ·exact Apt.own h.s h.xs (by decide)
  ·exact Apt.own h.t h.xs (by decide)
  ·exact Apt.own h.f h.xs (by decide)
  ·exact h.ox r q
  ·exact Apt.zf h.z.z h.xs (by decide) r q
 ·simp only [rdR,List.mem_cons,List.mem_append] at hr;rcases hr with rfl | rfl | rfl | rfl | q | q
  ·exact Apt.own h.l h.ar (by decide)
  ·exact Apt.own h.s h.ar (by decide)
  ·exact Apt.own h.t h.ar (by decide)
  ·exact Apt.own h.f h.ar (by decide)
  ·exact h.oa r q
  ·exact Apt.zf h.z.z h.ar (by decide) r q
end
def flZ (i:Nat) (zs:List Rg):List Rg:=zs.mapIdx (λj z=>if j<i then (z.1,z.2.1,List.replicate z.2.1 (Value.int .i64 (1000+(j:Int)))) else z)
theorem zBv (i:Nat) (zs:List Rg):(flZ i zs).length=zs.length:=List.length_mapIdx
theorem zK6 (zs:List Rg):flZ 0 zs=zs:=by
 unfold flZ;refine List.ext_getElem (by simp) (λj h1 h2=>?_);rw [List.getElem_mapIdx,if_neg (by omega)]
theorem zD4 (i:Nat) (zs:List Rg) (j:Nat) (h:j<zs.length):(flZ i zs)[j]'(by rw [zBv];exact h)=if j<i then ((zs[j]).1,(zs[j]).2.1,List.replicate (zs[j]).2.1 (Value.int .i64 (1000+(j:Int)))) else zs[j]:=List.getElem_mapIdx
def rwZ (z:Rg) (i k:Nat):Rg:=(z.1,z.2.1,List.replicate k (Value.int .i64 (1000+(i:Int)))++z.2.2.drop k)
theorem zJv (i:Nat) (zs:List Rg) (h:i<zs.length):flZ i zs=(flZ i zs).set i (rwZ zs[i] i 0):=by
 have e:rwZ zs[i] i 0=(flZ i zs)[i]'(by rw [zBv];exact h):=by
  rw [zD4 i zs i h,if_neg (by omega)];simp [rwZ]
 rw [e,List.set_getElem_self]
theorem zKd (i:Nat) (zs:List Rg) (h:i<zs.length) (hn:(zs[i]).2.2.length=(zs[i]).2.1):(flZ i zs).set i (rwZ zs[i] i (zs[i]).2.1)=flZ (i+1) zs:=by
 refine List.ext_getElem (by simp [zBv]) (λj h1 h2=>?_);rw [zBv] at h2;rw [List.getElem_set,zD4 i zs j h2,zD4 (i+1) zs j h2];by_cases q:i=j
 ·subst q;rw [if_pos rfl,if_pos (by omega)];simp [rwZ,hn]
 ·rw [if_neg q];by_cases c:j<i
  ·rw [if_pos c,if_pos (by omega)]
  ·rw [if_neg c,if_neg (by omega)]
theorem zL9 (z:Rg) (i k:Nat) (h:k<z.2.2.length):(rwZ z i k).2.2.set k (Value.int .i64 (1000+(i:Int)))=(rwZ z i (k+1)).2.2:=by
 unfold rwZ;show (List.replicate k _++z.2.2.drop k).set k _=List.replicate (k+1) _++z.2.2.drop (k+1)
 rw [List.set_append_right _ _ (by simp),List.length_replicate,Nat.sub_self,List.drop_eq_getElem_cons h,List.set_cons_zero,List.replicate_succ',List.append_assoc];rfl
open Go.RowKit Wf
theorem zA9 {T:TypeId} {xs:List Value} (h:w.ownsRow B T s v n xs):∃ a c,v=.slice a n c/\n<=c/\(0<n->∃ g,a=some ⟨g,0,none⟩/\(∀ i,i<n->w.there g (i * s) s)/\∀ j (hj:j<xs.length),w.cell? ⟨g,j,none⟩=some xs[j]):=by
 rcases h.2 with ⟨e,h0⟩ | ⟨g,cap,cur,e,hb,hg,h1,h2,h3,h4⟩
 ·exact ⟨none,0,by rw [e,h0],by omega,λz=>by omega⟩
 ·refine ⟨some ⟨g,0,none⟩,cap,e,h1,λ_=>⟨g,rfl,λi hi j hj=>⟨?_,?_⟩,λj hj=>?_⟩⟩
  ·rw [cell_of_row w g (i * s+j) cur T (0,0) hg];have:(i+1) * s<=cap * s:=Nat.mul_le_mul_right _ (by omega);rw [Nat.add_mul,Nat.one_mul] at this;rw [Array.getElem?_eq_getElem (by rw [h3];omega)];rfl
  ·simp [World.frozen?,hg]
  ·have hc:=h.cells (g:=g) (by rw [e];rfl) j (xs[j]) (List.getElem?_eq_getElem hj);rwa [show (⟨g,0,none⟩:Addr).add j=⟨g,j,none⟩ from by simp [Addr.add];intro h;exact h.symm] at hc
theorem zCE:∀ (A:List (Wc.In × Value)) (i:Nat) (h:i<A.length) (c:Nat),c<23->(zAN A)[i * 23+c]? = (zAD (A[i]).1 (A[i]).2)[c]?
 | [],i,h,c,hc=>absurd h (Nat.not_lt_zero _)
 | x::r,0,h,c,hc=>by
  show (zAD x.1 x.2++zAN r)[0 * 23+c]? = _
  rw [Nat.zero_mul,Nat.zero_add,List.getElem?_append_left (by simpa [zAD] using hc)];rfl
 | x::r,i+1,h,c,hc=>by
  show (zAD x.1 x.2++zAN r)[(i+1) * 23+c]? = _
  rw [List.getElem?_append_right (by simp [zAD];omega),show (i+1) * 23+c - (zAD x.1 x.2).length=i * 23+c from by simp [zAD];omega,zCE r i (by simpa using h) c hc];rfl
theorem zFy:∀ (A:List Wpl.Ar) (i:Nat) (h:i<A.length) (c:Nat),c<5->(zAQ A)[i * 5+c]? = (zA7 (A[i]))[c]?
 | [],i,h,c,hc=>absurd h (Nat.not_lt_zero _)
 | x::r,0,h,c,hc=>by
  show (zA7 x++zAQ r)[0 * 5+c]? = _
  rw [Nat.zero_mul,Nat.zero_add,List.getElem?_append_left (by simpa [zA7] using hc)];rfl
 | x::r,i+1,h,c,hc=>by
  show (zA7 x++zAQ r)[(i+1) * 5+c]? = _
  rw [List.getElem?_append_right (by simp [zA7];omega),show (i+1) * 5+c - (zA7 x).length=i * 5+c from by simp [zA7];omega,zFy r i (by simpa using h) c hc];rfl
def Rk (B n q:Nat) (lv uv x y u v:Value) (P P':List (Wc.In × Value)) (U:List Wpl.Ar) (zs:List Rg) (k i j t:Nat) (tv:Value) (w:World):Prop :=
 M3 B lv uv x y u v tv (if k=0 then pM 0 i P else pM 0 n P) (if k=0 then P' else if k=1 then pM 1 i P' else pM 1 n P') (if k=0 then aM 0 j U else aM 0 q U) (if k=0 then U else if k=1 then aM 1 j U else aM 1 q U) zs ((zs.map (λz=>z.1)).take t) w
section
variable {B n q:Nat} {lv uv x y u v:Value} {P P':List (Wc.In × Value)} {U:List Wpl.Ar} {zs:List Rg} {k i j t:Nat} {tv:Value} {w w':World}
theorem Rk.below (h:Rk B n q lv uv x y u v P P' U zs k i j t tv w) (hb:Below w.heap.size w w'):Rk B n q lv uv x y u v P P' U zs k i j t tv w':=M3.below h hb
theorem Rk.start (h:M3 B lv uv x y u v tv P P' U U zs [] w):Rk B n q lv uv x y u v P P' U zs 0 0 0 0 tv w:=by
 unfold Rk;rw [if_pos rfl,if_pos rfl,if_pos rfl,if_pos rfl,zHw,zH2];exact h
theorem Rk.next (h:Rk B n q lv uv x y u v P P' U zs k n q t tv w) (hk:k<2):Rk B n q lv uv x y u v P P' U zs (k+1) 0 0 t tv w:=by
 have e:k=0 \/ k=1:=by omega
 rcases e with rfl | rfl
 ·unfold Rk at *;simpa [zHw,zH2] using h
 ·unfold Rk at *;simpa using h
theorem Rk.last (h:Rk B n q lv uv x y u v P P' U zs 2 i j t tv w):M3 B lv uv x y u v tv (pM 0 n P) (pM 1 n P') (aM 0 q U) (aM 1 q U) zs ((zs.map (λz=>z.1)).take t) w:=by
 unfold Rk at h;simpa using h
theorem Rk.list (h:Rk B n q lv uv x y u v P P' U zs k i j t tv w) (hk:k<2) {g c:Nat} (e:lv=.slice (some ⟨g,0,none⟩) 2 c):w.cell? ⟨g,k,none⟩=some (if k=0 then x else y):=by
 have o:=M3.l h;obtain ⟨a,c',e1,_,hr⟩:=zA9 o;obtain ⟨g',e2,_,hc⟩:=hr (by omega);rw [e,e2] at e1;simp only [Value.slice.injEq,Option.some.injEq,Addr.mk.injEq,and_true,true_and] at e1;rw [e1.1];have e:k=0 \/ k=1:=by omega
 rcases e with rfl | rfl
 ·exact hc 0 (by simp)
 ·exact hc 1 (by simp)
theorem Rk.uses (h:Rk B n q lv uv x y u v P P' U zs k i j t tv w) (hk:k<2) {g c:Nat} (e:uv=.slice (some ⟨g,0,none⟩) 2 c):w.cell? ⟨g,k,none⟩=some (if k=0 then u else v):=by
 have o:=M3.s h;obtain ⟨a,c',e1,_,hr⟩:=zA9 o;obtain ⟨g',e2,_,hc⟩:=hr (by omega);rw [e,e2] at e1;simp only [Value.slice.injEq,Option.some.injEq,Addr.mk.injEq,and_true,true_and] at e1;rw [e1.1];have e:k=0 \/ k=1:=by omega
 rcases e with rfl | rfl
 ·exact hc 0 (by simp)
 ·exact hc 1 (by simp)
theorem Rk.code {L:List I} (h:Rk B n q lv uv x y u v P P' U zs k i j t tv w) (hk:k<2) (hi:i<n) (hP:P.length=n) (hP':P'.length=n) (hL:L.length=n) (hz:zrs P L++zrs P' L=zs) {pa:Option Addr} {pc:Nat} (e:(if k=0 then x else y)=.slice pa n pc):∃ g z,pa=some ⟨g,0,none⟩/\B<=g/\w.there g (i * 23) 23/\w.cell? ⟨g,i * 23+22,none⟩=some z/\(zs.map (λz=>z.1))[k * n+i]? = some z:=by
 have hl1:(zrs P L).length=n:=by rw [zBQ (by omega)];exact hL
 have hl2:(zrs P' L).length=n:=by rw [zBQ (by omega)];exact hL
 have e0:k=0 \/ k=1:=by omega
 rcases e0 with rfl | rfl
 ·rw [if_pos rfl] at e;have o':w.ownsRow B 48 23 x (pM 0 i P).length (zAN (pM 0 i P)):=(M3.xs h).1 0 (by simp);rw [zB9 0 i P (by omega),hP] at o';obtain ⟨a,c',e1,_,hr⟩:=zA9 o';obtain ⟨g,e2,ht,hc⟩:=hr (by omega);rw [e,e2] at e1;simp only [Value.slice.injEq,true_and] at e1;refine ⟨g,(P[i]).2,e1.1,(zAI o' (by rw [e,e1.1];rfl)).1,ht i hi,?_,?_⟩
  ·have hlen:i<(pM 0 i P).length:=by rw [zB9 0 i P (by omega)];omega
   have q1:=zCE (pM 0 i P) i hlen 22 (by omega);have q2:(pM 0 i P)[i]=P[i]:=by
    have:=zLn 0 i P (by omega);rw [List.getElem?_eq_getElem hlen] at this;simpa using this
   rw [q2] at q1;have q3:(zAN (pM 0 i P))[i * 23+22]? = some (P[i]).2:=q1;obtain ⟨hj,q4⟩:=List.getElem?_eq_some_iff.1 q3;rw [hc _ hj,q4]
  ·rw [Nat.zero_mul,Nat.zero_add,<-hz,List.map_append,List.getElem?_append_left (by rw [List.length_map];omega),List.getElem?_map,List.getElem?_eq_getElem (by omega),zCQ (by omega)];rfl
 ·rw [if_neg (by decide)] at e;have o':w.ownsRow B 48 23 y (pM 1 i P').length (zAN (pM 1 i P')):=(M3.xs h).1 1 (by simp);rw [zB9 1 i P' (by omega),hP'] at o';obtain ⟨a,c',e1,_,hr⟩:=zA9 o';obtain ⟨g,e2,ht,hc⟩:=hr (by omega);rw [e,e2] at e1;simp only [Value.slice.injEq,true_and] at e1;refine ⟨g,(P'[i]).2,e1.1,(zAI o' (by rw [e,e1.1];rfl)).1,ht i hi,?_,?_⟩
  ·have hlen:i<(pM 1 i P').length:=by rw [zB9 1 i P' (by omega)];omega
   have q1:=zCE (pM 1 i P') i hlen 22 (by omega);have q2:(pM 1 i P')[i]=P'[i]:=by
    have:=zLn 1 i P' (by omega);rw [List.getElem?_eq_getElem hlen] at this;simpa using this
   rw [q2] at q1;have q3:(zAN (pM 1 i P'))[i * 23+22]? = some (P'[i]).2:=q1;obtain ⟨hj,q4⟩:=List.getElem?_eq_some_iff.1 q3;rw [hc _ hj,q4]
  ·rw [Nat.one_mul,<-hz,List.map_append,List.getElem?_append_right (by rw [List.length_map];omega),List.length_map,hl1,Nat.add_sub_cancel_left,List.getElem?_map,List.getElem?_eq_getElem (by omega),zCQ (by omega)];rfl
theorem Rk.grow (h:Rk B n q lv uv x y u v P P' U zs k i j t tv w) {tv' z:Value} (hz:(zs.map (λz=>z.1))[t]? = some z) (hg:w.grownBy w' tv.ownBlock) (ho:w'.ownsRow B 46 1 tv' ((zs.map (λz=>z.1)).take t++[z]).length ((zs.map (λz=>z.1)).take t++[z])):Rk B n q lv uv x y u v P P' U zs k i j (t+1) tv' w':=by
 have:=M3.grow h hg ho;unfold Rk;rw [List.take_add_one,hz];exact this
theorem Rk.mark (h:Rk B n q lv uv x y u v P P' U zs k i j t tv w) (hk:k<2) (hi:i<n) (hP:P.length=n) (hP':P'.length=n) {g pc:Nat} (e:(if k=0 then x else y)=.slice (some ⟨g,0,none⟩) n pc):Rk B n q lv uv x y u v P P' U zs k (i+1) j t tv (w.setCells g (i * 23) (zAD (mkI k i).1 (mkI k i).2)):=by
 have e0:k=0 \/ k=1:=by omega
 rcases e0 with rfl | rfl
 ·unfold Rk at *;rw [if_pos rfl] at e h ⊢;rw [<-zH0 0 i P (by omega)];have:=M3.mark0 h (g:=g) (cap:=pc) (i:=i) (by rw [zB9 0 i P (by omega),hP];exact e) (by rw [zB9 0 i P (by omega),hP];exact hi) (mkI 0 i);exact this
 ·unfold Rk at *;rw [if_neg (by decide)] at e;simp only [if_neg (show ¬ (1=0) by decide),if_pos] at h ⊢;rw [<-zH0 1 i P' (by omega)];exact M3.mark1 h (g:=g) (cap:=pc) (i:=i) (by rw [zB9 1 i P' (by omega),hP'];exact e) (by rw [zB9 1 i P' (by omega),hP'];exact hi) (mkI 1 i)
theorem Rk.area (h:Rk B n q lv uv x y u v P P' U zs k i j t tv w) (hk:k<2) (hj:j<q) (hU:U.length=q) {pa:Option Addr} {pc:Nat} (e:(if k=0 then u else v)=.slice pa q pc):∃ g,pa=some ⟨g,0,none⟩/\B<=g/\w.there g (j * 5) 5/\Rk B n q lv uv x y u v P P' U zs k i (j+1) t tv (w.setCells g (j * 5) (zA7 (mkA k j))):=by
 have e0:k=0 \/ k=1:=by omega
 rcases e0 with rfl | rfl
 ·rw [if_pos rfl] at e;have o':w.ownsRow B 45 5 u (aM 0 j U).length (zAQ (aM 0 j U)):=(M3.ar h).1 0 (by simp);rw [zBq 0 j U (by omega),hU] at o';obtain ⟨a,c',e1,_,hr⟩:=zA9 o';obtain ⟨g,e2,ht,hc⟩:=hr (by omega);have e3:=e1;rw [e,e2] at e1;simp only [Value.slice.injEq,true_and] at e1;refine ⟨g,e1.1,(zAI o' (by rw [e3,e2];rfl)).1,ht j hj,?_⟩;unfold Rk at *;simp only [if_pos] at h ⊢;rw [<-zHg 0 j U (by omega)];exact M3.area0 h (g:=g) (cap:=c') (i:=j) (by rw [zBq 0 j U (by omega),hU,e3,e2]) (by rw [zBq 0 j U (by omega),hU];exact hj) (mkA 0 j)
 ·rw [if_neg (by decide)] at e;have o':w.ownsRow B 45 5 v (aM 1 j U).length (zAQ (aM 1 j U)):=(M3.ar h).1 1 (by simp);rw [zBq 1 j U (by omega),hU] at o';obtain ⟨a,c',e1,_,hr⟩:=zA9 o';obtain ⟨g,e2,ht,hc⟩:=hr (by omega);have e3:=e1;rw [e,e2] at e1;simp only [Value.slice.injEq,true_and] at e1;refine ⟨g,e1.1,(zAI o' (by rw [e3,e2];rfl)).1,ht j hj,?_⟩;unfold Rk at *;simp only [if_neg (show ¬ (1=0) by decide),if_pos] at h ⊢;rw [<-zHg 1 j U (by omega)];exact M3.area1 h (g:=g) (cap:=c') (i:=j) (by rw [zBq 1 j U (by omega),hU,e3,e2]) (by rw [zBq 1 j U (by omega),hU];exact hj) (mkA 1 j)
end
theorem zQ5 (x y:Int) (w:World):(Instr.build 45 #[(0,.int .i64 x),(1,.int .i64 y)]).run prog w=.ok (.agg (zA7 ⟨x,y,0,0,0⟩).toArray) w:=by kernel_rfl
theorem zFH (hgd:op.guard=none) (x y:Operand) (ho:op.op=.build 45 #[(0,x),(1,y)]) (o b:Int) (hx:a.eval x=.int .i64 o) (hy:a.eval y=.int .i64 b)
  (h:wpList prog ops Q rest (a.put op.dst (.agg (zA7 ⟨o,b,0,0,0⟩).toArray)) w):wpList prog ops Q (op::rest) a w:=by
 refine wpList_plain hgd λK hK=>?_
 unfold Oper.wp execOp;simp only [ho,List.map_toArray,List.map_cons,List.map_nil,hx,hy,Sem.run_bind,Sem.run_pure,Result.andThen_ok,zQ5];exact hK _ _ h
theorem zNF (a:Wpl.Ar):∀ u ∈ zA7 a,u.oneCell'=true:=λu h=>by
 simp [zA7] at h;rcases h with h | h | h | h | h <;> (subst h;rfl)
theorem zSA (a:Wpl.Ar):(zA7 a).toArray.all (·.oneCell')=true:=all_oneCell_toArray (zNF a)
open Go.RowKit Wf
def ZOk (zs:List Rg):Prop:=∀ z ∈ zs,z.2.2.length=z.2.1/\z.2.1<=1000000/\∃ a c,z.1=.slice a z.2.1 c/\(0<z.2.1->∃ g,a=some ⟨g,0,none⟩)
theorem ZOk.of (h:ZF 3 1 w B zs) (hl:∀ z ∈ zs,z.2.1<=1000000):ZOk zs:=λz hz=>by
 refine ⟨?_,hl z hz,?_⟩
 ·obtain ⟨i,hi,rfl⟩:=List.getElem_of_mem hz;have:=(h.1 i hi).1;omega
 ·obtain ⟨i,hi,rfl⟩:=List.getElem_of_mem hz;obtain ⟨a,c,e,_,hr⟩:=zA9 (h.1 i hi);refine ⟨a,c,e,λh0=>?_⟩;obtain ⟨g,e2,_⟩:=hr h0;exact ⟨g,e2⟩
theorem zPi (h:P.length=L.length) (h':P'.length=L.length) (hL:∀ x ∈ L,x.2.length<=1000000):∀ z ∈ zrs P L++zrs P' L,z.2.1<=1000000:=λz hz=>by
 have key:∀ (Q:List (Wc.In × Value)),Q.length=L.length->z ∈ zrs Q L->z.2.1<=1000000:=λQ hQ hm=>by
  obtain ⟨i,hi,rfl⟩:=List.getElem_of_mem hm;rw [zCQ hQ];exact hL _ (List.getElem_mem _)
 rcases List.mem_append.1 hz with q | q
 ·exact key P h q
 ·exact key P' h' q
section
variable {B:Nat} {lv uv x y u v tv:Value} {A D:List (Wc.In × Value)} {U1 U2:List Wpl.Ar} {zs:List Rg} {w:World}
theorem M3.tos {ys:List Rg} (h:M3 B lv uv x y u v tv A D U1 U2 ys (zs.map (λz=>z.1)) w) {N gt tc:Nat} (e:tv=.slice (some ⟨gt,0,none⟩) N tc) {i:Nat} (hi:i<zs.length):w.cell? ⟨gt,i,none⟩=some (zs[i]).1:=by
 obtain ⟨a,c',e1,_,hr⟩:=zA9 h.t;obtain ⟨g',e2,_,hc⟩:=hr (by rw [List.length_map];omega);rw [e,e2] at e1;simp only [Value.slice.injEq,Option.some.injEq,Addr.mk.injEq,and_true] at e1;rw [e1.1,hc i (by rw [List.length_map];exact hi),List.getElem_map]
theorem M3.put {ts:List Value} {i k:Nat} {z:Rg} (h:M3 B lv uv x y u v tv A D U1 U2 ((flZ i zs).set i (rwZ z i k)) ts w) (hi:i<zs.length) (hn:z.2.2.length=z.2.1) (hk:k<z.2.1) {g c:Nat} (e:z.1=.slice (some ⟨g,0,none⟩) z.2.1 c):B<=g/\(∃ a,w.cell? ⟨g,k,none⟩=some a)/\w.frozen? ⟨g,k,none⟩=false/\M3 B lv uv x y u v tv A D U1 U2 ((flZ i zs).set i (rwZ z i (k+1))) ts (w.setCell ⟨g,k,none⟩ (.int .i64 (1000+(i:Int)))):=by
 have hi2:i<((flZ i zs).set i (rwZ z i k)).length:=by rw [List.length_set,zBv];exact hi
 have eg:((flZ i zs).set i (rwZ z i k))[i]=rwZ z i k:=List.getElem_set_self _;have o:=h.zr.1 i hi2;rw [eg] at o;have o':w.ownsRow B 3 1 z.1 z.2.1 (rwZ z i k).2.2:=o;obtain ⟨a,c',e1,_,hr⟩:=zA9 o';obtain ⟨g',e2,ht,hc⟩:=hr (by omega);rw [e,e2] at e1;simp only [Value.slice.injEq,Option.some.injEq,Addr.mk.injEq,and_true,true_and] at e1;obtain ⟨e3,_⟩:=e1;subst e3;have t0:=ht k hk 0 (by omega);rw [Nat.mul_one,Nat.add_zero] at t0;refine ⟨(zAI o' (by rw [e];rfl)).1,Option.isSome_iff_exists.1 t0.1,t0.2,?_⟩;have h2:=h.place hi2 (g:=g) (cap:=c) (by rw [eg];exact e) k (.int .i64 (1000+(i:Int)));rw [eg,List.set_set] at h2;rw [show ((rwZ z i k).1,(rwZ z i k).2.1,(rwZ z i k).2.2.set k (Value.int .i64 (1000+(i:Int))))=rwZ z i (k+1) from by rw [zL9 z i k (by omega)];rfl] at h2;exact h2
end
theorem zBU {t e:TypeId} {sz bs:Nat} {z0:Value} (ht:prog.underlying t=some (.slice e)) (hinfo:(prog.info? e).map (λi=>(i.zero,i.size,i.bytes))=some (some z0,sz,bs)) (hzs:z0.cells.size=sz) (hsz:0<sz) (hbs:bs<=1000) {ops:Array Oper} {rest:List Oper} {o:Oper} {a:Act} {Q:Exit->Act->World->Prop} (hgd:o.guard=none) (sl x:Operand)
  (ho:o.op=.call {callee:=.builtin .append,args:=#[sl,x],argTypes:=#[t,t]})
  (w:World) (B:Nat) (hB:B<=w.heap.size) (v:Value) (n:Nat) (xs:List Value) (hs:a.eval sl=v) (hown:w.ownsRow B e sz v n xs) (g:Nat) (us:List Value) (hx:a.eval x=.slice (some ⟨g,0,none⟩) 1 1) (hl:us.length=sz) (hat:AtL w g us) (h1:∀ u ∈ us,u.oneCell'=true) (hn:n+1<=4000000)
  (h:∀ v' w',w'.ownsRow B e sz v' (n+1) (xs++us)->w.grownBy w' v.ownBlock->(v'.ownBlock=v.ownBlock \/ v'.ownBlock=some w.heap.size)->(∀ g j,v.ownBlock=some g->j<n * sz->w'.cell? ⟨g,j,none⟩=w.cell? ⟨g,j,none⟩)->wpList prog ops Q rest (a.put o.dst v') w'):wpList prog ops Q (o::rest) a w:=by
 obtain ⟨i0,hi0,hz0,hz1,hz2⟩:=info_parts hinfo;refine zGv w hgd sl x t ho B e i0 z0 sz bs ht hi0 hz0 hz1 hz2 hzs hsz v n xs hs hown ⟨g,0,none⟩ 1 1 us hx (by rw [hl,Nat.one_mul]) (λj z hj=>?_) h1 (by unfold maxLen;omega) ?_ hB h
 ·have:=hat.2.1 j z hj;rw [show (⟨g,0,none⟩:Addr).add j=⟨g,j,none⟩ from by
   simp [Addr.add];try (intro h0;omega)]
  exact this
 ·have:=Nat.mul_le_mul hn hbs;omega
theorem zQf:prog.underlying 46=some (.slice 3):=by kernel_rfl
theorem zPp:prog.underlying 30=some (.slice 48):=by kernel_rfl
theorem zPZ:prog.underlying 34=some (.slice 45):=by kernel_rfl
def Ful (os zs:List Rg) (i:Nat):Prop:=zs.length=os.length/\∀ j (h:j<zs.length) (h':j<os.length),(j<i->(zs[j]).2.1=(os[j]).2.1+40/\(zs[j]).2.2=List.replicate ((os[j]).2.1+40) (Value.int .i64 (1000+(j:Int))))/\(i<=j->zs[j]=os[j])
theorem Ful.start (os:List Rg):Ful os os 0:=⟨rfl,λj h h'=>⟨λq=>absurd q (Nat.not_lt_zero _),λ_=>rfl⟩⟩
theorem Ful.next (h:Ful os zs i) (hi:i<os.length) (g:Value):Ful os (zs.set i (g,(os[i]).2.1+40,List.replicate ((os[i]).2.1+40) (Value.int .i64 (1000+(i:Int))))) (i+1):=by
 refine ⟨by rw [List.length_set];exact h.1,λj hj h'=>?_⟩;rw [List.length_set] at hj;by_cases q:i=j
 ·subst q;rw [List.getElem_set_self];exact ⟨λ_=>⟨rfl,rfl⟩,λc=>by omega⟩
 ·rw [List.getElem_set_ne q];exact ⟨λc=>(h.2 j hj h').1 (by omega),λc=>(h.2 j hj h').2 (by omega)⟩
theorem Ful.fst (hi:i<zs.length) (g:Value) (n:Nat) (l:List Value):((zs.set i (g,n,l)).take (i+1)).map (λz=>z.1)=(zs.take i).map (λz=>z.1)++[g]:=by
 rw [List.take_add_one,List.getElem?_set_self hi,List.take_set_of_le (Nat.le_refl _),List.map_append];rfl
theorem zNA (x:Int):∀ u ∈ [Value.int .i64 x],u.oneCell'=true:=λu h=>by simp at h;subst h;rfl
section
variable {B C:Nat} {lv uv x y u v tv fv:Value} {A D:List (Wc.In × Value)} {U1 U2:List Wpl.Ar} {os ys zs:List Rg} {ts fs:List Value} {w w':World}
theorem M8.tos (h:M8 B C lv uv x y u v tv fv A D U1 U2 os ys (zs.map (λz=>z.1)) fs w) {N gt tc:Nat} (e:tv=.slice (some ⟨gt,0,none⟩) N tc) {i:Nat} (hi:i<zs.length):w.cell? ⟨gt,i,none⟩=some (zs[i]).1:=by
 obtain ⟨a,c',e1,_,hr⟩:=zA9 h.t;obtain ⟨g',e2,_,hc⟩:=hr (by rw [List.length_map];omega);rw [e,e2] at e1;simp only [Value.slice.injEq,Option.some.injEq,Addr.mk.injEq,and_true] at e1;rw [e1.1,hc i (by rw [List.length_map];exact hi),List.getElem_map]
theorem M8.row {i m:Nat} {g:Value} {l:List Value} (h:M8 B C lv uv x y u v tv fv A D U1 U2 os (ys.set i (g,m,l)) ts fs w) (hi:i<ys.length):w.ownsRow B 3 1 g m l:=by
 have:=h.z.z.1 i (by rw [List.length_set];exact hi);rw [List.getElem_set_self] at this;exact this
theorem M8.grow1 {i m:Nat} {g g2 c:Value} (h:M8 B C lv uv x y u v tv fv A D U1 U2 os (ys.set i (g,m,List.replicate m c)) ts fs w) (hi:i<ys.length) (ho:w'.ownsRow B 3 1 g2 (m+1) (List.replicate m c++[c])) (hg:w.grownBy w' g.ownBlock) (hz:g2.ownBlock=g.ownBlock \/ g2.ownBlock=some w.heap.size) (hk:∀ b j,g.ownBlock=some b->j<m * 1->w'.cell? ⟨b,j,none⟩=w.cell? ⟨b,j,none⟩):M8 B C lv uv x y u v tv fv A D U1 U2 os (ys.set i (g2,m+1,List.replicate (m+1) c)) ts fs w':=by
 have hi2:i<(ys.set i (g,m,List.replicate m c)).length:=by rw [List.length_set];exact hi
 have eg:(ys.set i (g,m,List.replicate m c))[i]=(g,m,List.replicate m c):=List.getElem_set_self _;have:=h.growZ hi2 ho (by rw [eg];exact hg) (by rw [eg];exact hz) (by rw [eg];show m * 1<=(m+1) * 1;omega) (by rw [eg];exact hk);rw [List.set_set] at this;rw [List.replicate_succ'];exact this
end
theorem zE3 (A:List (Wc.In × Value)) (i:Nat) (p:Wc.In × Value):zAN (A++List.replicate (i+1) p)=zAN (A++List.replicate i p)++zAD p.1 p.2:=by
 rw [List.replicate_succ',<-List.append_assoc,zBS];simp [zAN]
theorem zE2 (A:List Wpl.Ar) (i:Nat) (p:Wpl.Ar):zAQ (A++List.replicate (i+1) p)=zAQ (A++List.replicate i p)++zA7 p:=by
 rw [List.replicate_succ',<-List.append_assoc,zBe];simp [zAQ]
theorem zQi (x:Int) (w:World):(Instr.build 45 #[(0,.int .i64 x)]).run prog w=.ok (.agg (zA7 ⟨x,0,0,0,0⟩).toArray) w:=by kernel_rfl
theorem zCW (hgd:op.guard=none) (o:Int) (ho:op.op=.build 45 #[(0,.const (.int .i64 o))])
  (h:wpList prog ops Q rest (a.put op.dst (.agg (zA7 ⟨o,0,0,0,0⟩).toArray)) w):wpList prog ops Q (op::rest) a w:=by
 refine wpList_plain hgd λK hK=>?_
 unfold Oper.wp execOp;simp only [ho,List.map_toArray,List.map_cons,List.map_nil,Act.eval_const,Sem.run_bind,Sem.run_pure,Result.andThen_ok,zQi];exact hK _ _ h
theorem zS3 (x:Wpl.Ar) (w:World):(Instr.buildSlice 34 1 #[(0,.agg (zA7 x).toArray)]).run prog w=.ok (.slice (some ⟨w.heap.size,0,none⟩) 1 1) (w.alloc (.cells (zA7 x).toArray 45)):=by kernel_rfl
theorem zCr (hgd:op.guard=none) (y:Operand) (ho:op.op=.buildSlice 34 1 #[(0,y)]) (x:Wpl.Ar) (hy:a.eval y=.agg (zA7 x).toArray)
  (h:wpList prog ops Q rest (a.put op.dst (.slice (some ⟨w.heap.size,0,none⟩) 1 1)) (w.alloc (.cells (zA7 x).toArray 45))):wpList prog ops Q (op::rest) a w:=by
 refine wpList_plain hgd λK hK=>?_
 unfold Oper.wp execOp;simp only [ho,List.map_toArray,List.map_cons,List.map_nil,hy,Sem.run_bind,Sem.run_pure,Result.andThen_ok,zS3];exact hK _ _ h
open Go.RowKit Wf
def mkm (o:Int):Wc.In × Value:=((ins o 0 0).1,.slice none 0 0)
def arm (o:Int):Wpl.Ar:=⟨o,0,0,0,0⟩
theorem zRi {g:Nat} {T:TypeId} {a b:Value} (h:w.ownsRow B T 1 (.slice (some ⟨g,0,none⟩) 2 c) 2 [a,b]):w.cell? ⟨g,0,none⟩=some a/\w.cell? ⟨g,1,none⟩=some b:=by
 obtain ⟨x,c',e1,_,hr⟩:=zA9 h;obtain ⟨g',e2,_,hc⟩:=hr (by omega);rw [e2] at e1;simp only [Value.slice.injEq,Option.some.injEq,Addr.mk.injEq,and_true,true_and] at e1;rw [e1.1];exact ⟨hc 0 (by simp),hc 1 (by simp)⟩
section
variable {B m i:Nat} {R ox oa za zx:List Rg} {r:Rg} {g g2:Value} {A:List (Wc.In × Value)} {p:Wc.In × Value} {U:List Wpl.Ar} {s:Wpl.Ar} {w w':World}
theorem M9.x0 (h:M9 B R ox [(g,m,zAN (A++List.replicate i p)),r] oa za w) (ho:w'.ownsRow B 48 23 g2 (m+1) (zAN (A++List.replicate i p)++zAD p.1 p.2)) (hg:w.grownBy w' g.ownBlock) (hz:g2.ownBlock=g.ownBlock \/ g2.ownBlock=some w.heap.size) (hk:∀ b j,g.ownBlock=some b->j<m * 23->w'.cell? ⟨b,j,none⟩=w.cell? ⟨b,j,none⟩):M9 B R ox [(g2,m+1,zAN (A++List.replicate (i+1) p)),r] oa za w':=by
 rw [zE3];exact h.growX (i:=0) (by simp) ho hg hz (by show m * 23<=(m+1) * 23;omega) hk
theorem M9.x1 (h:M9 B R ox [r,(g,m,zAN (A++List.replicate i p))] oa za w) (ho:w'.ownsRow B 48 23 g2 (m+1) (zAN (A++List.replicate i p)++zAD p.1 p.2)) (hg:w.grownBy w' g.ownBlock) (hz:g2.ownBlock=g.ownBlock \/ g2.ownBlock=some w.heap.size) (hk:∀ b j,g.ownBlock=some b->j<m * 23->w'.cell? ⟨b,j,none⟩=w.cell? ⟨b,j,none⟩):M9 B R ox [r,(g2,m+1,zAN (A++List.replicate (i+1) p))] oa za w':=by
 rw [zE3];exact h.growX (i:=1) (by simp) ho hg hz (by show m * 23<=(m+1) * 23;omega) hk
theorem M9.a0 (h:M9 B R ox zx oa [(g,m,zAQ (U++List.replicate i s)),r] w) (ho:w'.ownsRow B 45 5 g2 (m+1) (zAQ (U++List.replicate i s)++zA7 s)) (hg:w.grownBy w' g.ownBlock) (hz:g2.ownBlock=g.ownBlock \/ g2.ownBlock=some w.heap.size) (hk:∀ b j,g.ownBlock=some b->j<m * 5->w'.cell? ⟨b,j,none⟩=w.cell? ⟨b,j,none⟩):M9 B R ox zx oa [(g2,m+1,zAQ (U++List.replicate (i+1) s)),r] w':=by
 rw [zE2];exact h.growA (i:=0) (by simp) ho hg hz (by show m * 5<=(m+1) * 5;omega) hk
theorem M9.a1 (h:M9 B R ox zx oa [r,(g,m,zAQ (U++List.replicate i s))] w) (ho:w'.ownsRow B 45 5 g2 (m+1) (zAQ (U++List.replicate i s)++zA7 s)) (hg:w.grownBy w' g.ownBlock) (hz:g2.ownBlock=g.ownBlock \/ g2.ownBlock=some w.heap.size) (hk:∀ b j,g.ownBlock=some b->j<m * 5->w'.cell? ⟨b,j,none⟩=w.cell? ⟨b,j,none⟩):M9 B R ox zx oa [r,(g2,m+1,zAQ (U++List.replicate (i+1) s))] w':=by
 rw [zE2];exact h.growA (i:=1) (by simp) ho hg hz (by show m * 5<=(m+1) * 5;omega) hk
end
theorem RdO.at (h:RdO w v n l) {g n' c:Nat} (e:v=.slice (some ⟨g,0,none⟩) n' c) {j:Nat} {a:Value} (hj:l[j]? = some a):w.cell? ⟨g,j,none⟩=some a:=by
 obtain ⟨hl,ha⟩:=List.getElem?_eq_some_iff.1 hj;rcases h with ⟨d,_⟩ | ⟨g',cap,d,hlt,hc⟩
 ·rw [d] at e;cases e
 ·rw [d] at e;simp only [Value.slice.injEq,Option.some.injEq,Addr.mk.injEq,and_true] at e;rw [<-e.1,hc j hl,ha]
theorem RdO.ins {A:List (Wc.In × Value)} (h:RdO w v n (zAN A)) {g n' c:Nat} (e:v=.slice (some ⟨g,0,none⟩) n' c) {i:Nat} {x:Wc.In × Value} (hi:A[i]? = some x):w.cell? ⟨g,i * 23,none⟩=some (.int .i64 x.1.op)/\w.cell? ⟨g,i * 23+1,none⟩=some (.int .i64 x.1.a):=by
 obtain ⟨hl,ha⟩:=List.getElem?_eq_some_iff.1 hi;have h0:=zCE A i hl 0 (by omega);have h1:=zCE A i hl 1 (by omega);rw [ha] at h0 h1;exact ⟨h.at e (by rw [<-Nat.add_zero (i * 23),h0];rfl),h.at e (by rw [h1];rfl)⟩
theorem RdO.area {A:List Wpl.Ar} (h:RdO w v n (zAQ A)) {g n' c:Nat} (e:v=.slice (some ⟨g,0,none⟩) n' c) {i:Nat} {x:Wpl.Ar} (hi:A[i]? = some x):w.cell? ⟨g,i * 5,none⟩=some (.int .i64 x.s):=by
 obtain ⟨hl,ha⟩:=List.getElem?_eq_some_iff.1 hi;have h0:=zFy A i hl 0 (by omega);rw [ha] at h0;exact h.at e (by rw [<-Nat.add_zero (i * 5),h0];rfl)
theorem zPA (hP:P.length=n) (hi:i<n):(pM k n P)[i]? = some (mkI k i):=by
 subst hP;rw [zPH,List.getElem?_map,List.getElem?_range hi];rfl
theorem zPm {P:List Wpl.Ar} (hP:P.length=n) (hi:i<n):(aM k n P)[i]? = some (mkA k i):=by
 subst hP;rw [zPE,List.getElem?_map,List.getElem?_range hi];rfl
theorem zGX {α:Type} {A:List α} (p:α) (hA:A.length=n) (h1:n<=i) (h2:i<n+40):(A++List.replicate 40 p)[i]? = some p:=by
 rw [List.getElem?_append_right (by omega),List.getElem?_replicate,if_pos (by omega)]
theorem zFx {α:Type} {A:List α} (p:α) (hA:A.length=n) (h1:i<n):(A++List.replicate 40 p)[i]? = A[i]?:=List.getElem?_append_left (by omega)
open Go.RowKit Wf
theorem RdO.open {a:Option Addr} {n':Nat} (h:RdO w (.slice a n c) n' l) (hl:0<l.length):∃ g,a=some ⟨g,0,none⟩:=by
 rcases h with ⟨_,e⟩ | ⟨g,cap,e,_⟩
 ·rw [e] at hl;exact absurd hl (Nat.lt_irrefl _)
 ·simp only [Value.slice.injEq] at e;exact ⟨g,e.1⟩
section
variable {B n m:Nat} {R oa za ox zx:List Rg} {a b:Value} {A D P P':List (Wc.In × Value)} {U1 U2 U:List Wpl.Ar} {w:World}
theorem M9.codes {xa ya:Option Addr} {xc yc:Nat} (h:M9 B R (xR (.slice xa n xc) (.slice ya n yc) A D) [(a,m,zAN (A++List.replicate 40 (mkm (-1)))),(b,m,zAN (D++List.replicate 40 (mkm (-2))))] oa za w) (hm:n+40=m) (hA:pM 0 n P=A) (hD:pM 1 n P'=D) (hP:P.length=n) (hP':P'.length=n) :
  ∃ ga ca gb cb,a=.slice (some ⟨ga,0,none⟩) m ca/\b=.slice (some ⟨gb,0,none⟩) m cb/\(∀ i,i<n->∃ gx gy,(xa=some ⟨gx,0,none⟩/\ya=some ⟨gy,0,none⟩)/\w.cell? ⟨gx,i * 23,none⟩=some (.int .i64 100)/\w.cell? ⟨gx,i * 23+1,none⟩=some (.int .i64 (i:Int))/\w.cell? ⟨gy,i * 23,none⟩=some (.int .i64 101)/\w.cell? ⟨ga,i * 23,none⟩=some (.int .i64 100)/\w.cell? ⟨gb,i * 23,none⟩=some (.int .i64 101))/\∀ i,n<=i->i<m->w.cell? ⟨ga,i * 23,none⟩=some (.int .i64 (-1))/\w.cell? ⟨gb,i * 23,none⟩=some (.int .i64 (-2)):=by
 have oa:=h.x.z.1 0 (by simp);have ob:=h.x.z.1 1 (by simp);have ra:RdO w a m (zAN (A++List.replicate 40 (mkm (-1)))):=RdO.of oa;have rb:RdO w b m (zAN (D++List.replicate 40 (mkm (-2)))):=RdO.of ob;have rx:RdO w (.slice xa n xc) A.length (zAN A):=h.x.rd 0 (by simp);have ry:RdO w (.slice ya n yc) D.length (zAN D):=h.x.rd 1 (by simp);obtain ⟨a1,ca,ea,_,ha⟩:=zA9 oa;obtain ⟨b1,cb,eb,_,hb⟩:=zA9 ob;obtain ⟨ga,ea2,_⟩:=ha (by show 0<m;omega);obtain ⟨gb,eb2,_⟩:=hb (by show 0<m;omega);have ea':a=.slice (some ⟨ga,0,none⟩) m ca:=by rw [<-ea2];exact ea
 have eb':b=.slice (some ⟨gb,0,none⟩) m cb:=by rw [<-eb2];exact eb
 have lA:A.length=n:=by rw [<-hA,zB9 0 n P (by omega),hP]
 have lD:D.length=n:=by rw [<-hD,zB9 1 n P' (by omega),hP']
 refine ⟨ga,ca,gb,cb,ea',eb',λi hi=>?_,λi h1 h2=>?_⟩
 ·obtain ⟨gx,ex⟩:=rx.open (by rw [zBX];omega);obtain ⟨gy,ey⟩:=ry.open (by rw [zBX];omega);have gA:A[i]? = some (mkI 0 i):=by rw [<-hA];exact zPA hP hi
  have gD:D[i]? = some (mkI 1 i):=by rw [<-hD];exact zPA hP' hi
  have q1:=rx.ins (by rw [ex]) gA;have q2:=ry.ins (by rw [ey]) gD;have q3:=ra.ins ea' (by rw [zFx _ lA hi];exact gA);have q4:=rb.ins eb' (by rw [zFx _ lD hi];exact gD);exact ⟨gx,gy,⟨ex,ey⟩,q1.1,q1.2,q2.1,q3.1,q4.1⟩
 ·have q3:=ra.ins ea' (zGX _ lA h1 (by omega));have q4:=rb.ins eb' (zGX _ lD h1 (by omega));exact ⟨q3.1,q4.1⟩
theorem M9.areas {ua va:Option Addr} {uc vc:Nat} (h:M9 B R ox zx (aR (.slice ua n uc) (.slice va n vc) U1 U2) [(a,m,zAQ (U1++List.replicate 40 (arm (-1)))),(b,m,zAQ (U2++List.replicate 40 (arm (-2))))] w) (hm:n+40=m) (hA:aM 0 n U=U1) (hD:aM 1 n U=U2) (hP:U.length=n) :
  ∃ ga ca gb cb,a=.slice (some ⟨ga,0,none⟩) m ca/\b=.slice (some ⟨gb,0,none⟩) m cb/\(∀ i,i<n->∃ gx gy,(ua=some ⟨gx,0,none⟩/\va=some ⟨gy,0,none⟩)/\w.cell? ⟨gx,i * 5,none⟩=some (.int .i64 100)/\w.cell? ⟨gy,i * 5,none⟩=some (.int .i64 101)/\w.cell? ⟨ga,i * 5,none⟩=some (.int .i64 100)/\w.cell? ⟨gb,i * 5,none⟩=some (.int .i64 101))/\∀ i,n<=i->i<m->w.cell? ⟨ga,i * 5,none⟩=some (.int .i64 (-1))/\w.cell? ⟨gb,i * 5,none⟩=some (.int .i64 (-2)):=by
 have oa:=h.a.z.1 0 (by simp);have ob:=h.a.z.1 1 (by simp);have ra:RdO w a m (zAQ (U1++List.replicate 40 (arm (-1)))):=RdO.of oa;have rb:RdO w b m (zAQ (U2++List.replicate 40 (arm (-2)))):=RdO.of ob;have rx:RdO w (.slice ua n uc) U1.length (zAQ U1):=h.a.rd 0 (by simp);have ry:RdO w (.slice va n vc) U2.length (zAQ U2):=h.a.rd 1 (by simp);obtain ⟨a1,ca,ea,_,ha⟩:=zA9 oa;obtain ⟨b1,cb,eb,_,hb⟩:=zA9 ob;obtain ⟨ga,ea2,_⟩:=ha (by show 0<m;omega);obtain ⟨gb,eb2,_⟩:=hb (by show 0<m;omega);have ea':a=.slice (some ⟨ga,0,none⟩) m ca:=by rw [<-ea2];exact ea
 have eb':b=.slice (some ⟨gb,0,none⟩) m cb:=by rw [<-eb2];exact eb
 have lA:U1.length=n:=by rw [<-hA,zBq 0 n U (by omega),hP]
 have lD:U2.length=n:=by rw [<-hD,zBq 1 n U (by omega),hP]
 refine ⟨ga,ca,gb,cb,ea',eb',λi hi=>?_,λi h1 h2=>?_⟩
 ·obtain ⟨gx,ex⟩:=rx.open (by rw [zBW];omega);obtain ⟨gy,ey⟩:=ry.open (by rw [zBW];omega);have gA:U1[i]? = some (mkA 0 i):=by rw [<-hA];exact zPm hP hi
  have gD:U2[i]? = some (mkA 1 i):=by rw [<-hD];exact zPm hP hi
  exact ⟨gx,gy,⟨ex,ey⟩,rx.area (by rw [ex]) gA,ry.area (by rw [ey]) gD,ra.area ea' (by rw [zFx _ lA hi];exact gA),rb.area eb' (by rw [zFx _ lD hi];exact gD)⟩
 ·exact ⟨ra.area ea' (zGX _ lA h1 (by omega)),rb.area eb' (zGX _ lD h1 (by omega))⟩
end
theorem zO3 (h:Rds w R) {lv uv x y u v tv fv:Value} {os ys zs:List Rg} {fs:List Value} (hR:rdR lv uv x y u v tv fv os ys (zs.map (λz=>z.1)) fs=R) {N gt tc gf fc i zm zc:Nat} {za:Option Addr} (et:tv=.slice (some ⟨gt,0,none⟩) N tc) (ef:fv=.slice (some ⟨gf,0,none⟩) N fc) (ho:∃ h:i<os.length,os[i]=(Value.slice za zm zc,zm,List.replicate zm (Value.int .i64 (1000+(i:Int))))) (hz:∃ h:i<zs.length,(zs[i]).1=Value.slice za zm zc) (hF:Ful os ys N/\(ys.take N).map (λz=>z.1)=fs) (hi:i<N) :
  w.cell? ⟨gt,i,none⟩=some (.slice za zm zc)/\(∃ gz fz,w.cell? ⟨gf,i,none⟩=some (.slice (some ⟨gz,0,none⟩) (zm+40) fz)/\∀ k,k<zm+40->w.cell? ⟨gz,k,none⟩=some (.int .i64 (1000+(i:Int))))/\∀ k,k<zm->∃ g,za=some ⟨g,0,none⟩/\w.cell? ⟨g,k,none⟩=some (.int .i64 (1000+(i:Int))):=by
 obtain ⟨o1,o2⟩:=ho;obtain ⟨z1,z2⟩:=hz;have hy:i<ys.length:=by rw [hF.1.1];exact o1
 obtain ⟨y1,y2⟩:=(hF.1.2 i hy o1).1 hi;rw [o2] at y1 y2;have rt:=h (tv,(zs.map (λz=>z.1)).length,zs.map (λz=>z.1)) (by rw [<-hR];simp [rdR]);have rf:=h (fv,fs.length,fs) (by rw [<-hR];simp [rdR]);have ro:=h (os[i]) (by rw [<-hR];simp only [rdR,List.mem_cons,List.mem_append];exact Or.inr (Or.inr (Or.inr (Or.inr (Or.inl (List.getElem_mem o1))))));have ry:=h (ys[i]) (by rw [<-hR];simp only [rdR,List.mem_cons,List.mem_append];exact Or.inr (Or.inr (Or.inr (Or.inr (Or.inr (List.getElem_mem hy))))));rw [o2] at ro;have ro':RdO w (Value.slice za zm zc) zm (List.replicate zm (Value.int .i64 (1000+(i:Int)))):=ro;have gs:fs[i]? = some (ys[i]).1:=by
  rw [<-hF.2,List.getElem?_map,List.getElem?_take,if_pos hi,List.getElem?_eq_getElem hy];rfl
 refine ⟨rt.at et (by show (zs.map (λz=>z.1))[i]? = _;rw [List.getElem?_map,List.getElem?_eq_getElem z1,<-z2];rfl),?_,λk hk=>?_⟩
 ·rcases hq:ys[i] with ⟨q1,q2,q3⟩
  rw [hq] at ry gs y1 y2;have y1':q2=zm+40:=y1;have y2':q3=List.replicate (zm+40) (Value.int .i64 (1000+(i:Int))):=y2;have ry':RdO w q1 q2 q3:=ry;have ry2:=ry';rcases ry' with ⟨_,e⟩ | ⟨g,cap,e,_,_⟩
  ·rw [y2'] at e;simp at e
  ·rw [y1'] at e;exact ⟨g,cap,by rw [<-e];exact rf.at ef gs,λk hk=>ry2.at e (by rw [y2',List.getElem?_replicate,if_pos hk])⟩
 ·obtain ⟨g,e⟩:=ro'.open (by rw [List.length_replicate];omega);exact ⟨g,e,ro'.at (by rw [e]) (by rw [List.getElem?_replicate,if_pos hk])⟩
theorem zO9 (h:Rds w R) {gl gu cl cu:Nat} {x y u v tv fv:Value} {os ys:List Rg} {ts fs:List Value} (hR:rdR (.slice (some ⟨gl,0,none⟩) 2 cl) (.slice (some ⟨gu,0,none⟩) 2 cu) x y u v tv fv os ys ts fs=R):(w.cell? ⟨gl,0,none⟩=some x/\w.cell? ⟨gl,1,none⟩=some y)/\w.cell? ⟨gu,0,none⟩=some u/\w.cell? ⟨gu,1,none⟩=some v:=by
 have r1:=h (.slice (some ⟨gl,0,none⟩) 2 cl,2,[x,y]) (by rw [<-hR];simp [rdR]);have r2:=h (.slice (some ⟨gu,0,none⟩) 2 cu,2,[u,v]) (by rw [<-hR];simp [rdR]);exact ⟨⟨r1.at rfl rfl,r1.at rfl rfl⟩,r2.at rfl rfl,r2.at rfl rfl⟩
