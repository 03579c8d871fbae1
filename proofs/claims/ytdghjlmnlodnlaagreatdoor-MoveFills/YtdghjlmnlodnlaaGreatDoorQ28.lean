/- TCelT, TTight, TWrB, TWrD, TWrE. -/
import Derived.Test.YtdghjlmnlodnlaaGreatDoorQ27
set_option maxHeartbeats 8000000
set_option maxRecDepth 100000
namespace Go.Proofs.YtdghjlmnlodnlaaGreatDoor
open Tryz
open Go.RowKit Go.Shelf
set_option linter.unusedVariables false
variable {w w':World} {kw k:Nat} {vs us:List Value} {acc:List UInt8} {l:List Wt.Nd}
theorem Env.drew (h:Env w):Env w.drew:=h.below (Below.refl _ _).drew
theorem zRZ (a l:List UInt8):(⟨a.toArray⟩:ByteArray)++⟨#[33]⟩++⟨l.toArray⟩=⟨(a++(33::l)).toArray⟩:=by
 apply ByteArray.ext
 apply Array.ext'
 simp
theorem zG2 (a:Wt.Rf) (w:World) (ha:Wt.rfOk a=true) (hE:Env w):CR 117 #[rfV a] w (.string ⟨(zCG a).toArray⟩):=by
 obtain ⟨⟨h0,h1⟩,h2⟩:=zAZ ha;have hB0:=zAI (Below.refl _ w) (.cells (rf5 a).toArray 28);have hE0:=hE.below hB0;have pA:=AtL.new0 w 28 (rf5 a);have C:=λw (hE:Env w)=>zDD a w h0 h1 hE.2.2.2
 have hl:=zCd a h0 h1;have hsz:a.s.size<=16:=by
  rcases h2 with h | h
  ·rw [h];decide
  ·have:=(zBo h).2;rw [Array.length_toList] at this;exact this
 clear h2 ha;unfold zCG;by_cases hs:a.s=⟨#[]⟩
 ·rw [if_pos hs];generalize cw a=tx at *;obtain ⟨s,r,c,fr,fc⟩:=a;simp only [rfV,rf5] at *;subst hs;go_enter func117,ntmps117;go_wp2_with fail
  refine (C _ hE0).mono ?_;rintro e w1 ⟨rfl,hb⟩;have hB1:=zAA hB0 hb;go_wp2;go_ret;exact ⟨rfl,(clB hB1)⟩
 ·rw [if_neg hs];have E:(⟨(a.s.data.toList++33::cw a).toArray⟩:ByteArray)=a.s++⟨#[33]⟩++⟨(cw a).toArray⟩:=by
   rw [<-zRZ]
  rw [E];clear E;generalize cw a=tx at *;obtain ⟨s,r,c,fr,fc⟩:=a;simp only [rfV,rf5] at *;have hs':s.toList.isEmpty=false:=by
   cases h:s.toList with
   | nil=>exact absurd (ByteArray.ext (Array.ext' (by rw [<-ByteArray.toList_eq];exact h))) hs
   | cons a l=>rfl
  have hs2:(s.toList == [])=false:=by rw [<-hs'];cases s.toList <;> rfl
  have lx1:¬ 9223372036854775807<s.size+1:=by omega
  have lx2:¬ 9223372036854775807<s.size+1+tx.length:=by omega
  go_enter func117,ntmps117;go_upto_region 3 with fail
  refine wp_region_held_drew (S:=λW=>zOg W w.heap.size (.string s) (.int .i64 r) (.int .i64 c) (.bool fr) (.bool fc)) (by kernel_rfl) pA.drew.f5 (λhHeld=>?_);refine tkQ 0 ⟨some 8,.fieldAddr 28 (.tmp 1) 0,0,"print.go:109",#[],none⟩ ?_
  refine tkQ 1 ⟨some 9,.load 9 (.tmp 8),9,"print.go:109",#[⟨0,.data⟩],none⟩ ?_
  refine tkQ 2 ⟨some 10,.binOp BinOp.add 9 (.tmp 9) (Operand.const (Value.string {data:=#[33]})) 9,9,"print.go:109",#[⟨1,.data⟩],none⟩ ?_
  refine tkQ 3 ⟨some 11,.load 28 (.tmp 1),28,"print.go:109",#[],none⟩ ?_
  refine rdQ 4 ⟨some 12,.call {callee:=Callee.value (Operand.func 146),args:=#[.tmp 11],argTypes:=#[28]},9,"print.go:109",#[⟨3,.data⟩],none⟩ (λK hK=>?_);go_simp
  refine (C _ (hE0.drew)).mono ?_;rintro e w1 ⟨rfl,hb⟩;have pA1:=AtL.below hb (AtL.drew pA);have hB1:=zAA hB0.drew hb;clear hb;go_wp2_with fail
  refine hkQ hK (pA1.f5) (λhHeld=>?_);clear hK K
  refine tkQ 5 ⟨some 13,.binOp BinOp.add 9 (.tmp 10) (.tmp 12) 9,9,"print.go:109",#[⟨2,.data⟩,⟨4,.data⟩],none⟩ ?_
  refine rdQ 6 ⟨some 2,.assign (.tmp 13),9,"print.go:109",#[⟨5,.data⟩,⟨4,.chain⟩,⟨0,.phase⟩,⟨1,.phase⟩,⟨2,.phase⟩,⟨3,.phase⟩,⟨4,.phase⟩,⟨5,.phase⟩],none⟩ (λK hK=>?_);go_simp
  refine hkQ hK (pA1.f5) (λhHeld=>?_);clear hK K
  refine wpAnyH_done (by kernel_rfl) ?_ _;go_wp2;go_ret;exact ⟨rfl,(clB hB1)⟩
theorem zIf (x:Wt.Nd) (w:World) (hO:OpsAt w):CR 57 #[ndV x] w (.int .i64 (tgh x)):=by
 have C:=λw hO=>zBV x.op w hO
 have hO2:=hO.alloc (.cells (zAD x).toArray 30);unfold tgh;have hB0:=zAI (Below.refl _ w) (.cells (zAD x).toArray 30);obtain ⟨k,⟨vk,vn,vd,vt,vb,vf⟩,op,nm,ar,⟨sa,ra,ca,fra,fca⟩,⟨sb,rb,cb,frb,fcb⟩⟩:=x;simp only [ndV,zAD] at *;cases ho:Wt.opOf op with
 | none =>
  rw [ho] at C;go_enter func57,ntmps57;go_wp2_with fail
  refine (C _ hO2).mono ?_;rintro e w1 ⟨rfl,hb⟩;have hB1:=zAA hB0 hb;clear hb;simp only [opV];go_wp2;go_ret;exact ⟨rfl,(clB hB1)⟩
 | some q =>
  obtain ⟨o,m,t⟩:=q;rw [ho] at C;go_enter func57,ntmps57;go_wp2_with fail
  refine (C _ hO2).mono ?_;rintro e w1 ⟨rfl,hb⟩;have hB1:=zAA hB0 hb;clear hb;simp only [opV];go_wp2;go_ret;exact ⟨rfl,(clB hB1)⟩
def WSt (w:World) (kw:Nat) (acc:List UInt8) (l:List Wt.Nd):Prop:=∃ (av:Option Addr) (cap:Nat),l.length<=cap/\IsWr kw kw (Lib.byteCells acc) (.slice av l.length cap) w /\
 ∀ i (h:i<l.length),∃ bb off,av=some ⟨bb,off,none⟩/\bb<kw/\w.rangeAt bb (off+i * 20) (zAD (l[i]))
def WF (kw:Nat) (w w':World):Prop:=Below kw w w'/\Lib.OthersKept 5 (some kw) w w'
theorem WF.trans {w1 w2:World} (h:WF kw w w1) (k:WF kw w1 w2):WF kw w w2:=⟨h.1.trans k.1,h.2.trans k.2⟩
theorem WF.of (hb:Below w.heap.size w w') (hk:kw<=w.heap.size):WF kw w w':=⟨hb.mono hk,zEM (B:=kw) hb⟩
theorem WSt.lt (h:WSt w kw acc l):kw<w.heap.size:=by
 obtain ⟨av,cap,_,h,_⟩:=h;exact h.lt
theorem WSt.below (h:WSt w kw acc l) (hb:Below w.heap.size w w'):WSt w' kw acc l:=by
 obtain ⟨av,cap,h1,h2,h3⟩:=h;refine ⟨av,cap,h1,h2.below hb,λi hi=>?_⟩;obtain ⟨bb,off,e,hn,hr⟩:=h3 i hi;exact ⟨bb,off,e,hn,λj v hv=>zAM hb (hr j v hv)⟩
def Bx (w:World) (k:Nat) (vs:List Value) (T:TypeId):Prop:=w.heap[k]? = some (.cells vs.toArray T (0,0))
theorem Bx.new (w:World) (vs:List Value) (T:TypeId):Bx (w.alloc (.cells vs.toArray T)) w.heap.size vs T:=heap_alloc_new w _
theorem Bx.below {T:TypeId} (h:Bx w k vs T) (hb:Below w.heap.size w w'):Bx w' k vs T:=(hb.block k (Array.getElem?_eq_some_iff.1 h).1).trans h
theorem Bx.kept {T:TypeId} (h:Bx w k vs T) (hf:WF kw w w') (hk:k ≠ kw) (hT:T ≠ 5):Bx w' k vs T :=
 hf.2 k _ h (λe=>hk (Option.some.inj e)) (λc fz e=>by simp only [Obj.cells.injEq] at e;exact hT e.2.1)
theorem Bx.atl {T:TypeId} (h:Bx w k vs T):AtL w k vs:=by
 refine ⟨(Array.getElem?_eq_some_iff.1 h).1,λi v hv=>?_,λi hi=>Lib.frozen_of_heap h i⟩;rw [Lib.cell_of_heap h];simpa using hv
theorem zCw (k:Nat) (T:TypeId):∀ (vs us pre:List Value) (w:World),w.heap[k]? = some (.cells (pre++us).toArray T (0,0))->us.length=vs.length->(w.setCells k pre.length vs).heap[k]? = some (.cells (pre++vs).toArray T (0,0)):=by
 intro vs;induction vs with
 | nil=>intro us pre w h hl;obtain rfl:=List.eq_nil_of_length_eq_zero (by simpa using hl);exact h
 | cons v vs ih =>
  intro us pre w h hl;cases us with
  | nil=>simp at hl
  | cons u us =>
   rw [World.setCells];have h1:(w.setCell ⟨k,pre.length,none⟩ v).heap[k]? = some (.cells ((pre++[v])++us).toArray T (0,0)):=by
    unfold World.setCell;rw [Array.getElem?_modify,if_pos rfl,h];simp
   have:=ih us (pre++[v]) _ h1 (by simpa using hl);simpa using this
theorem Bx.setAll {T:TypeId} (h:Bx w k us T) (hl:us.length=vs.length):Bx (w.setCells k 0 vs) k vs T:=zCw k T vs us [] w h hl
theorem Bx.there {T:TypeId} (h:Bx w k us T):w.there k 0 us.length:=h.atl.there
theorem WSt.write (s:List UInt8) (w:World) (h:WSt w kw acc l) (hlen:acc.length+s.length<=10000000) :
  Calls prog 59 #[.pointer (some ⟨kw,0,none⟩),.string ⟨s.toArray⟩] w λe w'=>e=.returned (.tuple #[.int .i64 s.length,.nilIface])/\WSt w' kw (acc++s) l/\WF kw w w':=by
 obtain ⟨av,cap,h1,h2,h3⟩:=h;refine (zOb kw kw acc _ s w h2 hlen).mono ?_;rintro e w' ⟨rfl,hi,hb,hk⟩;refine ⟨rfl,⟨av,cap,h1,hi,λi hi=>?_⟩,hb,hk⟩;obtain ⟨bb,off,e,hn,hr⟩:=h3 i hi;exact ⟨bb,off,e,hn,λj v hv=>(World.cell?_of_block (a:=⟨bb,off+i * 20+j,none⟩) (hb.block bb hn)).trans (hr j v hv)⟩
def zNI (kw f:Nat):Prop:=∀ (x:Wt.Nd) (r:List Wt.Nd) (acc:List UInt8) (w:World) (a b:Nat),Knd x->Wt.FitN x->(∀ y ∈ r,Wt.FitN y)->Wt.many (Wt.one f) (Wt.parts x).toNat r=some (a,b)->WSt w kw acc r->Env w->8<=kw->acc.length+1000 * a+950<=1000000 ->
 Calls prog 58 #[.pointer (some ⟨kw,0,none⟩),ndV x,.int .i64 (tgh x)] w λe w'=>e=.returned (.tuple #[])/\WSt w' kw (acc++(prN (pr f) x r).1) (r.drop a)/\WF kw w w'
def zC2 (kw f:Nat):Prop:=∀ (least:Int) (l:List Wt.Nd) (acc:List UInt8) (w:World) (s d:Nat),(∀ y ∈ l,Wt.FitN y)->Wt.one f l=some (s,d)->WSt w kw acc l->Env w->8<=kw->acc.length+1000 * s<=1000000 ->
 Calls prog 37 #[.pointer (some ⟨kw,0,none⟩),.int .i64 least] w λe w'=>e=.returned (.tuple #[])/\WSt w' kw (acc++(pr f least l).1) (l.drop s)/\WF kw w w'
theorem Env.keep (h:Env w) (hk:∀ g,g<8->w'.heap[g]? = w.heap[g]?):Env w':=by
 obtain ⟨h1,h2,⟨m,h3⟩,h4⟩:=h;refine ⟨λj v hv=>(World.cell?_of_block (a:=⟨0,0+j,none⟩) (hk _ (by show 0<8;decide))).trans (h1 j v hv),λj v hv=>(World.cell?_of_block (a:=⟨1,0+j,none⟩) (hk _ (by show 1<8;decide))).trans (h2 j v hv),⟨m,(World.cell?_of_block (hk _ (by decide))).trans h3⟩,?_⟩;have e:prog.globalNamed "internal/strconv.uint64pow10" = some 5:=by kernel_rfl
 unfold Lib.TabIs World.var? at h4 ⊢;rw [e] at h4 ⊢;simp only [Option.bind_some] at h4 ⊢;rw [hk 5 (by decide)];exact h4
theorem Env.wf (h:Env w) (hf:WF kw w w') (hk:8<=kw):Env w':=h.keep λg hg=>hf.1.block g (by omega)
theorem Bx.drew {T:TypeId} (h:Bx w k vs T):Bx w.drew k vs T:=h
theorem WSt.drew (h:WSt w kw acc l):WSt w.drew kw acc l:=h.below (Below.refl _ _).drew
theorem WF.drew (h:WF kw w w'):WF kw w w'.drew:=⟨h.1.drew,h.2.drew⟩
def zKI (kw f:Nat):Prop:=∀ (x:Wt.Nd) (r:List Wt.Nd) (acc:List UInt8) (w:World) (a b:Nat),Knd x->(x.k=1 \/ x.k=2 \/ x.k=3 \/ x.k=6)->Wt.FitN x->(∀ y ∈ r,Wt.FitN y)->Wt.many (Wt.one f) (Wt.parts x).toNat r=some (a,b)->WSt w kw acc r->Env w->8<=kw->acc.length+1000 * a+950<=1000000 ->
 Calls prog 88 #[.pointer (some ⟨kw,0,none⟩),ndV x] w λe w'=>e=.returned (.tuple #[])/\WSt w' kw (acc++(prS (pr f) x r).1) (r.drop a)/\WF kw w w'
theorem zOj (kw f:Nat) (SG:zKI kw f) (x:Wt.Nd) (r:List Wt.Nd) (acc:List UInt8) (w:World) (a b:Nat) (hKn:Knd x) (hop:x.op=0) (hk:x.k=1 \/ x.k=2 \/ x.k=3 \/ x.k=6) (hfx:Wt.FitN x) (hfr:∀ y ∈ r,Wt.FitN y) (hm:Wt.many (Wt.one f) (Wt.parts x).toNat r=some (a,b)) (hst:WSt w kw acc r) (hE:Env w) (hk8:8<=kw) (hlen:acc.length+1000 * a+950<=1000000) :
  Calls prog 58 #[.pointer (some ⟨kw,0,none⟩),.agg (zAD x).toArray,.int .i64 7] w λe w'=>e=.returned (.tuple #[])/\WSt w' kw (acc++(prS (pr f) x r).1) (r.drop a)/\WF kw w w':=by
 have hkw:=hst.lt;have hB0:=zAI (Below.refl _ w) (.cells (zAD x).toArray 30);have bx0:=Bx.new w (zAD x) 30;have c7:=bx0.atl.2.1 7 _ rfl;have T:=zBV x.op _ (hE.below hB0).1;rw [hop] at c7 T;rw [zFc] at T;go_enter func58,ntmps58;go_wp2_with fail
 refine T.mono ?_;rintro e w1 ⟨rfl,hb⟩;have hB1:=zAA hB0 hb;have bx1:=bx0.below hb;have hs1:=hb.size;simp only [World.size_alloc] at hs1;clear hb T bx0 hB0 c7;simp only [opV];have ho0:=Bx.new w1 [.int .i64 0,.string ⟨#[]⟩,.int .i64 0] 131;have hbo:=zAI (Below.refl _ w1) (.cells #[.int .i64 0,.string ⟨#[]⟩,.int .i64 0] 131);have bx2:=bx1.below hbo;have hB2:=zAA hB1 hbo;have hS2:=hst.below hB2;have hF2:=WF.of (kw:=kw) hB2 (Nat.le_of_lt hkw);have hE2:=hE.below hB2;have hko:w1.heap.size ≠ kw:=by omega
 clear hbo bx1 hB1;go_upto_region 2 with fail
 generalize w1.alloc (.cells #[.int .i64 0,.string ⟨#[]⟩,.int .i64 0] 131)=w2 at *;have RX:=bx2.atl.range;have SS:=SG x r acc w2 a b hKn hk hfx hfr hm hS2 hE2 hk8 hlen;simp only [ndV] at SS;go_wp2_with ((with_reducible refine wpList_load_mid (cs:=zAD x) ?_ 30 (.tmp 4) ?_ w.heap.size 0 ?_ _ ?_ underlying30 ?_ ?_ ?_);rfl;rfl;rfl;exact RX;rfl;kernel_rfl)
 refine SS.mono ?_;rintro e w3 ⟨rfl,hS3,hF3⟩;go_wp2;first | go_end0 | refine bodyPost_ret (results_none rfl _ _ _) rfl ?_
 exact ⟨rfl,hS3,hF2.trans hF3⟩
theorem zQB (kw f:Nat) (P:zC2 kw f) (x:Wt.Nd) (r:List Wt.Nd) (acc:List UInt8) (w:World) (a b:Nat) (oo:Int) (om:List UInt8) (ot:Int) (ho:Wt.opOf x.op=some (oo,om,ot)) (hom:om.length<=2) (hfr:∀ y ∈ r,Wt.FitN y) (hm:Wt.one f r=some (a,b)) (hst:WSt w kw acc r) (hE:Env w) (hk8:8<=kw) (hlen:acc.length+1000 * a+950<=1000000) :
  Calls prog 58 #[.pointer (some ⟨kw,0,none⟩),.agg (zAD x).toArray,.int .i64 5] w λe w'=>e=.returned (.tuple #[])/\WSt w' kw (acc++(om++(pr f 5 r).1)) (r.drop a)/\WF kw w w':=by
 have hkw:=hst.lt;have hB0:=zAI (Below.refl _ w) (.cells (zAD x).toArray 30);have bx0:=Bx.new w (zAD x) 30;have c7:=bx0.atl.2.1 7 _ rfl;have T:=zBV x.op _ (hE.below hB0).1;rw [ho] at T;go_enter func58,ntmps58;go_wp2_with fail
 refine T.mono ?_;rintro e w1 ⟨rfl,hb⟩;have hB1:=zAA hB0 hb;have bx1:=bx0.below hb;have hs1:=hb.size;simp only [World.size_alloc] at hs1;clear hb T bx0 hB0 c7;simp only [opV];have ho0:=Bx.new w1 [.int .i64 oo,.string ⟨om.toArray⟩,.int .i64 ot] 131;have hbo:=zAI (Below.refl _ w1) (.cells #[.int .i64 oo,.string ⟨om.toArray⟩,.int .i64 ot] 131);have bx2:=bx1.below hbo;have hB2:=zAA hB1 hbo;have hS2:=hst.below hB2;have hF2:=WF.of (kw:=kw) hB2 (Nat.le_of_lt hkw);have hE2:=hE.below hB2;have hko:w1.heap.size ≠ kw:=by omega
 clear hbo bx1 hB1;go_upto_region 2 with fail
 generalize w1.alloc (.cells #[.int .i64 oo,.string ⟨om.toArray⟩,.int .i64 ot] 131)=w2 at *;generalize hkoo:w1.heap.size=ko at *;have bo:=ho0;have WR:=hS2.drew.write om _ (by omega);go_upto_region 9 with fail
 refine wp_region_held_drew (S:=λW=>zEw W ko (.int .i64 oo) (.string ⟨om.toArray⟩) (.int .i64 ot)) (by kernel_rfl) bo.drew.atl.f3 (λhHeld=>?_);refine tkQ 0 ⟨some 35,.move (.tmp 0),111,"print.go:49",#[],none⟩ ?_
 refine tkQ 1 ⟨some 36,.nilCheck (.tmp 35),0,"print.go:49",#[⟨0,.data⟩],none⟩ ?_
 refine tkQ 2 ⟨some 37,.fieldAddr 86 (.tmp 36) 0,0,"print.go:49",#[⟨1,.data⟩],none⟩ ?_
 refine tkQ 3 ⟨some 38,.fieldAddr 131 (.tmp 6) 1,0,"print.go:49",#[],none⟩ ?_
 refine tkQ 4 ⟨some 39,.load 9 (.tmp 38),9,"print.go:49",#[⟨3,.data⟩],none⟩ ?_
 refine rdQ 5 ⟨some 40,.call {callee:=Callee.value (Operand.func 59),args:=#[.tmp 37,.tmp 39],argTypes:=#[84,9]},115,"print.go:49",#[⟨2,.data⟩,⟨4,.data⟩],none⟩ (λK hK=>?_);go_simp
 refine WR.mono ?_;rintro e w9 ⟨rfl,hS9,hF9⟩;have bo9:=bo.drew.kept hF9 hko (by decide);go_wp2_with fail
 refine hkQ hK bo9.atl.f3 (λhHeld=>?_);clear hK K
 refine wpAnyH_done (by kernel_rfl) ?_ _;have hE9:=hE2.drew.wf hF9 hk8;have PP:=P 5 r (acc++om) w9 a b hfr hm hS9 hE9 hk8 (by simp only [List.length_append];omega);go_wp2_with fail
 refine PP.mono ?_;rintro e w3 ⟨rfl,hS3,hF3⟩;go_wp2;first | go_end0 | refine bodyPost_ret (results_none rfl _ _ _) rfl ?_
 exact ⟨rfl,by rw [<-List.append_assoc];exact hS3,hF2.drew.trans (hF9.trans hF3)⟩
theorem zPn (kw f:Nat) (P:zC2 kw f) (x:Wt.Nd) (r:List Wt.Nd) (acc:List UInt8) (w:World) (a b:Nat) (oo:Int) (om:List UInt8) (ot:Int) (ho:Wt.opOf x.op=some (oo,om,ot)) (hom:om.length<=2) (hfr:∀ y ∈ r,Wt.FitN y) (hm:Wt.one f r=some (a,b)) (hst:WSt w kw acc r) (hE:Env w) (hk8:8<=kw) (hlen:acc.length+1000 * a+950<=1000000) :
  Calls prog 58 #[.pointer (some ⟨kw,0,none⟩),.agg (zAD x).toArray,.int .i64 6] w λe w'=>e=.returned (.tuple #[])/\WSt w' kw (acc++((pr f 6 r).1++om)) (r.drop a)/\WF kw w w':=by
 have hpl:=(zDn f _ _ _ hm 6).2;have hkw:=hst.lt;have hB0:=zAI (Below.refl _ w) (.cells (zAD x).toArray 30);have bx0:=Bx.new w (zAD x) 30;have c7:=bx0.atl.2.1 7 _ rfl;have T:=zBV x.op _ (hE.below hB0).1;rw [ho] at T;go_enter func58,ntmps58;go_wp2_with fail
 refine T.mono ?_;rintro e w1 ⟨rfl,hb⟩;have hB1:=zAA hB0 hb;have bx1:=bx0.below hb;have hs1:=hb.size;simp only [World.size_alloc] at hs1;clear hb T bx0 hB0 c7;simp only [opV];have ho0:=Bx.new w1 [.int .i64 oo,.string ⟨om.toArray⟩,.int .i64 ot] 131;have hbo:=zAI (Below.refl _ w1) (.cells #[.int .i64 oo,.string ⟨om.toArray⟩,.int .i64 ot] 131);have bx2:=bx1.below hbo;have hB2:=zAA hB1 hbo;have hS2:=hst.below hB2;have hF2:=WF.of (kw:=kw) hB2 (Nat.le_of_lt hkw);have hE2:=hE.below hB2;have hko:w1.heap.size ≠ kw:=by omega
 clear hbo bx1 hB1;go_upto_region 2 with fail
 generalize w1.alloc (.cells #[.int .i64 oo,.string ⟨om.toArray⟩,.int .i64 ot] 131)=w2 at *;generalize hkoo:w1.heap.size=ko at *;have PP:=P 6 r acc w2 a b hfr hm hS2 hE2 hk8 (by omega);go_wp2_with fail
 refine PP.mono ?_;rintro e w3 ⟨rfl,hS3,hF3⟩;have bo:=ho0.kept hF3 hko (by decide);have WR:=hS3.drew.write om _ (by simp only [List.length_append];omega);clear PP;go_upto_region 13 with fail
 refine wp_region_held_drew (S:=λW=>zEw W ko (.int .i64 oo) (.string ⟨om.toArray⟩) (.int .i64 ot)) (by kernel_rfl) bo.drew.atl.f3 (λhHeld=>?_);refine tkQ 0 ⟨some 47,.move (.tmp 0),111,"print.go:53",#[],none⟩ ?_
 refine tkQ 1 ⟨some 48,.nilCheck (.tmp 47),0,"print.go:53",#[⟨0,.data⟩],none⟩ ?_
 refine tkQ 2 ⟨some 49,.fieldAddr 86 (.tmp 48) 0,0,"print.go:53",#[⟨1,.data⟩],none⟩ ?_
 refine tkQ 3 ⟨some 50,.fieldAddr 131 (.tmp 6) 1,0,"print.go:53",#[],none⟩ ?_
 refine tkQ 4 ⟨some 51,.load 9 (.tmp 50),9,"print.go:53",#[⟨3,.data⟩],none⟩ ?_
 refine rdQ 5 ⟨some 52,.call {callee:=Callee.value (Operand.func 59),args:=#[.tmp 49,.tmp 51],argTypes:=#[84,9]},115,"print.go:53",#[⟨2,.data⟩,⟨4,.data⟩],none⟩ (λK hK=>?_);go_simp
 refine WR.mono ?_;rintro e w9 ⟨rfl,hS9,hF9⟩;have bo9:=bo.drew.kept hF9 hko (by decide);go_wp2_with fail
 refine hkQ hK bo9.atl.f3 (λhHeld=>?_);clear hK K
 refine wpAnyH_done (by kernel_rfl) ?_ _;go_wp2;first | go_end0 | refine bodyPost_ret (results_none rfl _ _ _) rfl ?_
 exact ⟨rfl,by rw [<-List.append_assoc];exact hS9,hF2.trans (hF3.drew.trans hF9)⟩
theorem zPX (kw f:Nat) (P:zC2 kw f) (x:Wt.Nd) (r:List Wt.Nd) (acc:List UInt8) (w:World) (a b:Nat) (oo:Int) (om:List UInt8) (ot:Int) (ho:Wt.opOf x.op=some (oo,om,ot)) (hom:om.length<=2) (hfr:∀ y ∈ r,Wt.FitN y) (tt:Int) (h0:0<=tt) (h5:tt<5) (a1 b1 a2 b2:Nat) (hm1:Wt.one f r=some (a1,b1)) (hm2:Wt.one f (r.drop a1)=some (a2,b2)) (hst:WSt w kw acc r) (hE:Env w) (hk8:8<=kw) (hlen:acc.length+1000 * (a1+a2)+950<=1000000) :
  Calls prog 58 #[.pointer (some ⟨kw,0,none⟩),.agg (zAD x).toArray,.int .i64 tt] w λe w'=>e=.returned (.tuple #[])/\WSt w' kw (acc++((pr f tt r).1++om++(pr f (tt+1) (r.drop a1)).1)) ((r.drop a1).drop a2)/\WF kw w w':=by
 have hpl:=(zDn f _ _ _ hm1 tt).2;have e7:(tt == 7)=false:=by simp;omega
 have e5:(tt == 5)=false:=by simp;omega
 have e6:(tt == 6)=false:=by simp;omega
 have hkw:=hst.lt;have hB0:=zAI (Below.refl _ w) (.cells (zAD x).toArray 30);have bx0:=Bx.new w (zAD x) 30;have c7:=bx0.atl.2.1 7 _ rfl;have T:=zBV x.op _ (hE.below hB0).1;rw [ho] at T;go_enter func58,ntmps58;go_wp2_with fail
 refine T.mono ?_;rintro e w1 ⟨rfl,hb⟩;have hB1:=zAA hB0 hb;have bx1:=bx0.below hb;have hs1:=hb.size;simp only [World.size_alloc] at hs1;clear hb T bx0 hB0 c7;simp only [opV];have ho0:=Bx.new w1 [.int .i64 oo,.string ⟨om.toArray⟩,.int .i64 ot] 131;have hbo:=zAI (Below.refl _ w1) (.cells #[.int .i64 oo,.string ⟨om.toArray⟩,.int .i64 ot] 131);have bx2:=bx1.below hbo;have hB2:=zAA hB1 hbo;have hS2:=hst.below hB2;have hF2:=WF.of (kw:=kw) hB2 (Nat.le_of_lt hkw);have hE2:=hE.below hB2;have hko:w1.heap.size ≠ kw:=by omega
 clear hbo bx1 hB1;go_upto_region 2 with fail
 generalize w1.alloc (.cells #[.int .i64 oo,.string ⟨om.toArray⟩,.int .i64 ot] 131)=w2 at *;generalize hkoo:w1.heap.size=ko at *;have PP:=P tt r acc w2 a1 b1 hfr hm1 hS2 hE2 hk8 (by omega);go_wp2_with fail
 refine PP.mono ?_;rintro e w3 ⟨rfl,hS3,hF3⟩;have bo:=ho0.kept hF3 hko (by decide);have hE3:=hE2.wf hF3 hk8;have WR:=hS3.drew.write om _ (by simp only [List.length_append];omega);clear PP;go_upto_region 4 with fail
 refine wp_region_held_drew (S:=λW=>zEw W ko (.int .i64 oo) (.string ⟨om.toArray⟩) (.int .i64 ot)) (by kernel_rfl) bo.drew.atl.f3 (λhHeld=>?_);refine tkQ 0 ⟨some 18,.move (.tmp 0),111,"print.go:56",#[],none⟩ ?_
 refine tkQ 1 ⟨some 19,.nilCheck (.tmp 18),0,"print.go:56",#[⟨0,.data⟩],none⟩ ?_
 refine tkQ 2 ⟨some 20,.fieldAddr 86 (.tmp 19) 0,0,"print.go:56",#[⟨1,.data⟩],none⟩ ?_
 refine tkQ 3 ⟨some 21,.fieldAddr 131 (.tmp 6) 1,0,"print.go:56",#[],none⟩ ?_
 refine tkQ 4 ⟨some 22,.load 9 (.tmp 21),9,"print.go:56",#[⟨3,.data⟩],none⟩ ?_
 refine rdQ 5 ⟨some 23,.call {callee:=Callee.value (Operand.func 59),args:=#[.tmp 20,.tmp 22],argTypes:=#[84,9]},115,"print.go:56",#[⟨2,.data⟩,⟨4,.data⟩],none⟩ (λK hK=>?_);go_simp
 refine WR.mono ?_;rintro e w9 ⟨rfl,hS9,hF9⟩;have bo9:=bo.drew.kept hF9 hko (by decide);go_wp2_with fail
 refine hkQ hK bo9.atl.f3 (λhHeld=>?_);clear hK K
 refine wpAnyH_done (by kernel_rfl) ?_ _;have hE9:=hE3.drew.wf hF9 hk8;have PP:=P (tt+1) (r.drop a1) (acc++(pr f tt r).1++om) w9 a2 b2 (λy hy=>hfr y (List.mem_of_mem_drop hy)) hm2 hS9 hE9 hk8 (by simp only [List.length_append];omega);go_wp2_with fail
 refine PP.mono ?_;rintro e w4 ⟨rfl,hS4,hF4⟩;go_wp2;first | go_end0 | refine bodyPost_ret (results_none rfl _ _ _) rfl ?_
 exact ⟨rfl,by simpa only [List.append_assoc] using hS4,hF2.trans (hF3.drew.trans (hF9.trans hF4))⟩
theorem zOZ (kw f:Nat) (P:zC2 kw f) (SG:zKI kw f):zNI kw f:=by
 intro x r acc w a b hKn hfx hfr hm hst hE hk8 hlen;have hom:=zGN x;unfold prN;rcases zFA hKn with ⟨h7,hop,hk⟩ | ⟨h56,hp,⟨oo,om,ot⟩,ho⟩ | ⟨h04,hp,⟨oo,om,ot⟩,ho⟩
 ·rw [if_pos h7,h7];exact zOj kw f SG x r acc w a b hKn hop hk hfx hfr hm hst hE hk8 hlen
 ·have em:mrk x=om:=by unfold mrk;rw [ho]
  rw [em] at hom ⊢;rw [hp] at hm;have hm':=zEn (show Wt.many (Wt.one f) 1 r=some (a,b) from hm);rcases h56 with h5 | h6
  ·rw [if_neg (by omega),if_pos h5,h5];exact zQB kw f P x r acc w a b oo om ot ho hom hfr hm' hst hE hk8 hlen
  ·rw [if_neg (by omega),if_neg (by omega),if_pos h6,h6];exact zPn kw f P x r acc w a b oo om ot ho hom hfr hm' hst hE hk8 hlen
 ·have em:mrk x=om:=by unfold mrk;rw [ho]
  rw [em] at hom ⊢;rw [hp] at hm;obtain ⟨a1,b1,a2,b2,e1,e2,rfl,e4⟩:=zFC (show Wt.many (Wt.one f) 2 r=some (a,b) from hm);rw [if_neg (by omega),if_neg (by omega),if_neg (by omega)];have hq:=(zDn f _ _ _ e1 (tgh x)).1;rw [hq,<-List.drop_drop];exact zPX kw f P x r acc w (a1+a2) b oo om ot ho hom hfr (tgh x) h04.1 h04.2 a1 b1 a2 b2 e1 e2 hst hE hk8 hlen
theorem zP7 (b:ByteArray):b++⟨#[40]⟩=⟨(b.data.toList++[40]).toArray⟩:=by
 apply ByteArray.ext
 apply Array.ext'
 simp
theorem zOA (kw f:Nat) (P:zC2 kw f) (x:Wt.Nd) (r:List Wt.Nd) (acc:List UInt8) (w:World) (n a b:Nat) (hn:x.ar=n) (hn30:n<=30) (hnm:x.nm.data.toList.length<=16) (hfr:∀ y ∈ r,Wt.FitN y) (hm:Wt.many (Wt.one f) n r=some (a,b)) (hst:WSt w kw acc r) (hE:Env w) (hk8:8<=kw) (hlen:acc.length+1000 * a+950<=1000000) :
  Calls prog 118 #[.pointer (some ⟨kw,0,none⟩),.agg (zAD x).toArray] w λe w'=>e=.returned (.tuple #[])/\WSt w' kw (acc++(x.nm.data.toList++[40]++(prA (pr f) n true r).1++[41])) (r.drop a)/\WF kw w w':=by
 have hkw:=hst.lt;have hB0:=zAI (Below.refl _ w) (.cells (zAD x).toArray 30);have bx1:=Bx.new w (zAD x) 30;have hS1:=hst.below hB0;have hF1:=WF.of (kw:=kw) hB0 (Nat.le_of_lt hkw);have hE1:=hE.below hB0;have hkx:w.heap.size ≠ kw:=by omega
 obtain ⟨TX,hTX⟩:∃ TX,TX=acc++(x.nm.data.toList++[40]++(prA (pr f) n true r).1++[41]):=⟨_,rfl⟩
 obtain ⟨LF,hLF⟩:∃ LF,LF=r.drop a:=⟨_,rfl⟩
 rw [<-hTX,<-hLF];have HTX:Hid (TX=(acc++(x.nm.data.toList++[40]))++(prA (pr f) (n - 0) (decide (0=0)) r).1++[41]):=by
  show TX=_
  rw [hTX];simp
 have hsn:x.nm.size<=16:=by
   have:x.nm.data.toList.length=x.nm.size:=by rw [Array.length_toList];rfl
   omega
 have lx1:¬ 9223372036854775807<x.nm.size+1:=by omega
 have WR:=hS1.drew.write (x.nm.data.toList++[40]) _ (by simp only [List.length_append,List.length_cons,List.length_nil];omega);rw [<-zP7] at WR;clear hTX;go_enter func118,ntmps118;go_upto_region 1 with fail
 generalize w.alloc (.cells (zAD x).toArray 30)=w1 at *;refine wp_region_held_drew (S:=λW=>W.cell? ⟨w.heap.size,8,none⟩=some (.string x.nm)) (by kernel_rfl) (bx1.drew.atl.2.1 8 _ rfl) (λhHeld=>?_);refine tkQ 0 ⟨some 5,.move (.tmp 0),111,"print.go:77",#[],none⟩ ?_
 refine tkQ 1 ⟨some 6,.nilCheck (.tmp 5),0,"print.go:77",#[⟨0,.data⟩],none⟩ ?_
 refine tkQ 2 ⟨some 7,.fieldAddr 86 (.tmp 6) 0,0,"print.go:77",#[⟨1,.data⟩],none⟩ ?_
 refine tkQ 3 ⟨some 8,.fieldAddr 30 (.tmp 3) 3,0,"print.go:77",#[],none⟩ ?_
 refine tkQ 4 ⟨some 9,.load 9 (.tmp 8),9,"print.go:77",#[⟨3,.data⟩],none⟩ ?_
 refine tkQ 5 ⟨some 10,.binOp BinOp.add 9 (.tmp 9) (Operand.const (Value.string {data:=#[40]})) 9,9,"print.go:77",#[⟨4,.data⟩],none⟩ ?_
 refine rdQ 6 ⟨some 11,.call {callee:=Callee.value (Operand.func 59),args:=#[.tmp 7,.tmp 10],argTypes:=#[84,9]},115,"print.go:77",#[⟨2,.data⟩,⟨5,.data⟩],none⟩ (λK hK=>?_);go_simp
 refine WR.mono ?_;rintro e w9 ⟨rfl,hS9,hF9⟩;have bx9:=bx1.drew.kept hF9 hkx (by decide);go_wp2_with fail
 refine hkQ hK (bx9.atl.2.1 8 _ rfl) (λhHeld=>?_);clear hK K
 refine wpAnyH_done (by kernel_rfl) ?_ _;have hE9:=hE1.drew.wf hF9 hk8;have hF09:=hF1.drew.trans hF9;have c9:=bx9.atl.2.1 9 _ rfl;rw [hn] at c9;clear WR hS1 hF1 hE1 hF9 bx1 hst hB0;generalize w9=w9 at *;go_wp2_with fail
 go_loopg [14] n (λgk y wr=>∃ (j:Nat) (ac:List UInt8) (l:List Wt.Nd) (c d:Nat),y=.int .i64 j/\gk=n - j/\j<=n/\Hid (TX=ac++(prA (pr f) (n - j) (decide (j=0)) l).1++[41])/\Hid (LF=l.drop c)/\Hid (∀ y ∈ l,Wt.FitN y)/\Hid (Wt.many (Wt.one f) (n - j) l=some (c,d))/\Hid (WSt wr kw ac l)/\Hid (WF kw w wr)/\Hid (Env wr)/\ac.length+1000 * c+2 * (n - j)+10<=1000000)
 case atStart =>
  exact ⟨0,_,r,a,b,rfl,rfl,Nat.zero_le _,HTX,hLF,hfr,hm,hS9,hF09,hE9,by simp only [List.length_append,List.length_cons,List.length_nil];omega⟩
 case round =>
  obtain ⟨j,ac,l,c,d,rfl,hg,hj,H1,H2,H3,H4,H5,H6,H7,hac⟩:=hrel;clear hS9 hF09 hE9 HTX hLF hm hfr bx9 c9;by_cases hlt:j<n
  ·have hli:(j:Int)<(n:Int):=by omega
   obtain ⟨m,hmn⟩:∃ m,n - j=m+1:=⟨n - j - 1,by omega⟩
   rw [hmn] at H1 H4;have H4':=H4.out;simp only [Wt.many] at H4';cases h1:Wt.one f l with
   | none=>rw [h1] at H4';cases H4'
   | some q =>
    obtain ⟨a1,b1⟩:=q;rw [h1] at H4';simp only at H4';cases h2:Wt.many (Wt.one f) m (l.drop a1) with
    | none=>rw [h2] at H4';cases H4'
    | some q2 =>
     obtain ⟨a2,b2⟩:=q2;rw [h2] at H4';simp only [Option.some.injEq,Prod.mk.injEq] at H4';obtain ⟨rfl,rfl⟩:=H4';have hp1:=zDn f _ _ _ h1 0;have H1':=H1.out;simp only [prA] at H1';rw [hp1.1] at H1';have hm':n - (j+1)=m:=by omega
     have hdj:decide (j+1=0)=false:=by simp
     by_cases hj0:j=0
     ·subst hj0;have PP:=P 0 l ac wr a1 b1 H3.out h1 H5.out H7.out hk8 (by omega);have E:Hid (TX=(ac++(pr f 0 l).1)++(prA (pr f) (n - (0+1)) (decide (0+1=0)) (l.drop a1)).1++[41]):=by
       show TX=_
       rw [H1',hm',hdj];simp
      clear H1 H1' H4;go_wp2_with fail
      refine PP.mono ?_;rintro e w3 ⟨rfl,hS3,hF3⟩;have hE3:=H7.out.wf hF3 hk8;have hF3':=H6.out.trans hF3;clear PP H5 H6 H7;go_wp2_with fail
      go_roundg (n - (0+1))
      case rel=>exact ⟨0+1,_,_,a2,b2,by simp,rfl,hlt,E,by show LF=_;rw [H2.out,List.drop_drop],λy hy=>H3.out y (List.mem_of_mem_drop hy),by show _=_;rw [hm'];exact h2,hS3,hF3',hE3,by simp only [List.length_append];omega⟩
      case measure=>omega
     ·have hji:(0:Int)<(j:Int):=by omega
      have WR:=H5.out.write [44] wr (by simp only [List.length_cons,List.length_nil];omega);have E:Hid (TX=(ac++[44]++(pr f 0 l).1)++(prA (pr f) (n - (j+1)) (decide (j+1=0)) (l.drop a1)).1++[41]):=by
       show TX=_
       rw [H1',hm',hdj];simp [hj0]
      clear H1 H1' H4;go_wp2_with fail
      refine WR.mono ?_;rintro e w2 ⟨rfl,hS2,hF2⟩;have hE2:=H7.out.wf hF2 hk8;have PP:=P 0 l (ac++[44]) w2 a1 b1 H3.out h1 hS2 hE2 hk8 (by simp only [List.length_append,List.length_cons,List.length_nil];omega);clear WR;go_wp2_with fail
      refine PP.mono ?_;rintro e w3 ⟨rfl,hS3,hF3⟩;have hE3:=hE2.wf hF3 hk8;have hF3':=H6.out.trans (hF2.trans hF3);clear PP H5 H6 H7;go_wp2_with fail
      go_roundg (n - (j+1))
      case rel=>exact ⟨j+1,_,_,a2,b2,by simp,rfl,hlt,E,by show LF=_;rw [H2.out,List.drop_drop],λy hy=>H3.out y (List.mem_of_mem_drop hy),by show _=_;rw [hm'];exact h2,hS3,hF3',hE3,by simp only [List.length_append,List.length_cons,List.length_nil];omega⟩
      case measure=>omega
  ·have hli:¬ (j:Int)<(n:Int):=by omega
   have hjn:n - j=0:=by omega
   rw [hjn] at H1 H4;have H4':=H4.out;simp only [Wt.many,Option.some.injEq,Prod.mk.injEq] at H4';obtain ⟨rfl,rfl⟩:=H4';have WR:=H5.out.write [41] wr (by simp only [List.length_cons,List.length_nil];omega);go_wp2_with fail
   refine WR.mono ?_;rintro e w3 ⟨rfl,hS3,hF3⟩;go_wp2;first | go_end0 | refine bodyPost_ret (results_none rfl _ _ _) rfl ?_
   refine ⟨rfl,?_,H6.out.trans hF3⟩;rw [H1.out,H2.out];simpa [prA] using hS3
