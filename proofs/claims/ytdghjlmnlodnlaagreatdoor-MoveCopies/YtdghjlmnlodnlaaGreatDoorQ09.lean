/- LText, TState, TStateB, TStateC, VWalkD, PlainF, PlainS. -/
import Derived.Test.YtdghjlmnlodnlaaGreatDoorQ08
import Derived.Shelf.Strings.BuilderK
import Derived.Laws.AppendOwn
import Derived.Laws.Slices
set_option maxHeartbeats 2000000
set_option maxRecDepth 100000
namespace Wlx
theorem dbl_app (a b:List UInt8):dbl (a++b)=dbl a++dbl b:=by
 induction a with
 | nil=>rfl
 | cons c t ih =>
  show (if c=34 then 34::34::dbl (t++b) else c::dbl (t++b))=(if c=34 then 34::34::dbl t else c::dbl t)++dbl b
  rw [ih];split <;> rfl
structure TV where
 k:Int
 t:List UInt8
 p:Int
def tv (t:Tok):TV:=⟨t.k,t.t,t.p⟩
def wv (t:TV):List UInt8:=if t.k=2 then 34::(dbl t.t++[34]) else t.t
def joinF:Bool->List TV->List UInt8
 | _,[]=>[]
 | f,t::r=>(if f then [] else [32])++wv t++joinF false r
def textV (ts:List TV):List UInt8:=joinF true ts
def wgt (ts:List TV):Nat:=(ts.map λt=>t.t.length+1).sum
end Wlx
namespace Go.Proofs.YtdghjlmnlodnlaaGreatDoor
open Go.Shelf Go.RowKit
set_option linter.unusedVariables false
variable {w w' W:World} {kp:Nat} {en:Int} {ts:List Wlx.TV} {row:Option Nat}
def zQX (w:World) (v:Value) (ts:List Wlx.TV):Prop :=
 ∃ (av:Option Addr) (cap:Nat),v=.slice av ts.length cap/\∀ i (h:i<ts.length),∃ bb off,av=some ⟨bb,off,none⟩/\bb<w.heap.size /\
  w.cell? ⟨bb,off+i * 3,none⟩=some (.int .i64 (ts[i]).k)/\w.cell? ⟨bb,off+i * 3+1,none⟩=some (.string ⟨(ts[i]).t.toArray⟩)/\w.cell? ⟨bb,off+i * 3+2,none⟩=some (.int .i64 (ts[i]).p)
theorem zDW {T e:TypeId} {B b:Nat} {bs:List Value} (h:Lib.IsBuilderF T e B b bs w) (hb:Below w.heap.size w w'):Lib.IsBuilderF T e B b bs w':=by
 have g:∀ p,Lib.BuilderAtF T e B b p bs w->Lib.BuilderAtF T e B b p bs w':=by
  rintro p ⟨h1,v,h2,⟨h3,h4⟩,h5⟩;refine ⟨h1,v,(hb.block b (Array.getElem?_eq_some_iff.1 h2).1).trans h2,⟨h3,?_⟩,h5⟩;rcases h4 with h4 | ⟨g,cap,cur,fz,a1,a2,a3,a4⟩
  ·exact Or.inl h4
  ·exact Or.inr ⟨g,cap,cur,fz,a1,a2,(hb.block g (Array.getElem?_eq_some_iff.1 a3).1).trans a3,a4⟩
 exact h.elim (λx=>.inl (g _ x)) (λx=>.inr (g _ x))
theorem zOp (B b:Nat) (l:List UInt8) (s:ByteArray) (w:World) (h:Lib.IsBuilderF 84 5 B b (Lib.byteCells l) w) (hlen:l.length+s.size<=140737488355328) (hBw:B<=w.heap.size) :
  Calls prog 59 #[.pointer (some ⟨b,0,none⟩),.string s] w λe w'=>e=.returned (.tuple #[.int .i64 s.size,.nilIface])/\Lib.IsBuilderF 84 5 B b (Lib.byteCells (l++s.data.toList)) w'/\Below B w w'/\Lib.OthersKept 5 (some b) w w':=by
 refine (Any.Builder_WriteString_k {lays155 with} zCd B b (Lib.byteCells l) s w h (by rw [Lib.byteCells_length];exact hlen) hBw).mono ?_;rintro e w' ⟨rfl,h1,h2⟩;rw [Lib.strCells_eq,<-Lib.byteCells_append] at h1;exact ⟨rfl,Or.inr h1,h2⟩
theorem zS4 (B b:Nat) (l:List UInt8) (w:World) (h:Lib.IsBuilderF 84 5 B b (Lib.byteCells l) w) (hBw:B<=w.heap.size) :
  Calls prog 38 #[.pointer (some ⟨b,0,none⟩)] w λe w'=>e=.returned (.string ⟨l.toArray⟩)/\Below B w w' :=
 (Any.Builder_String_any_k {lays155 with} zCd B b l w h hBw).mono λe w' ⟨a,b,c,d⟩=>⟨a,c⟩
theorem zSz (l:List UInt8):(⟨#[34]⟩:ByteArray)++⟨l.toArray⟩++⟨#[34]⟩=⟨(34::(l++[34])).toArray⟩:=by
 apply ByteArray.ext
 apply Array.ext'
 simp
theorem zDX (k p:Int) (s:List UInt8) (w:World) (hm:MaxAt w) (hs:s.length<=1048576):CR 164 #[.agg #[.int .i64 k,.string ⟨s.toArray⟩,.int .i64 p]] w (.string ⟨(Wlx.wv ⟨k,s,p⟩).toArray⟩):=by
 by_cases hk:k=2
 ·subst hk;have R:=λw hm=>zGe ⟨s.toArray⟩ w hm (by simpa [ByteArray.size] using hs)
  have e0:(⟨s.toArray⟩:ByteArray).data.toList=s:=rfl;rw [e0] at R;have E:Hid (Wlx.wv ⟨2,s,p⟩=34::(Wlx.dbl s++[34])):=by show _=_;unfold Wlx.wv;exact if_pos rfl
  have hd:=Wlx.dbl_length s;obtain ⟨d,hdd⟩:∃ d,Wlx.dbl s=d:=⟨_,rfl⟩
  rw [hdd] at R E hd;clear hdd;have l1:¬ 9223372036854775807<d.length+1:=by omega
  have l2:¬ 9223372036854775807<d.length+1+1:=by omega
  go_enter func164,ntmps164;go_wp2_with fail
  refine (R _ (MaxAt.below hm ((Below.refl _ w).alloc (Nat.le_refl _) _))).mono ?_;rintro e w1 ⟨rfl,hb⟩;go_wp2;go_ret;exact ⟨by rw [E.out,<-zSz];rfl,((Below.refl _ w).alloc (Nat.le_refl _) _).trans (hb.mono (by simp))⟩
 ·have hk2:(k != 2)=true:=by simpa using hk
  have E:Hid (Wlx.wv ⟨k,s,p⟩=s):=by show _=_;unfold Wlx.wv;exact if_neg hk
  clear hk;go_enter func164,ntmps164;go_wp2;go_ret;exact ⟨by rw [E.out];rfl,(Below.refl _ w).alloc (Nat.le_refl _) _⟩
open Go.RowKit Tryz
def PSt (w:World) (kp:Nat) (ts:List Wlx.TV) (en:Int):Prop :=
 ∃ (av:Option Addr) (cap:Nat),ts.length<=cap/\AtL w kp [.slice av ts.length cap,.int .i64 en] /\
  ∀ i (h:i<ts.length),∃ bb off,av=some ⟨bb,off,none⟩/\bb<kp/\w.cell? ⟨bb,off+i * 3,none⟩=some (.int .i64 (ts[i]).k)/\w.cell? ⟨bb,off+i * 3+1,none⟩=some (.string ⟨(ts[i]).t.toArray⟩)/\w.cell? ⟨bb,off+i * 3+2,none⟩=some (.int .i64 (ts[i]).p)
theorem PSt.below (h:PSt w kp ts en) (hb:Below w.heap.size w w'):PSt w' kp ts en:=by
 obtain ⟨av,cap,h1,h2,h3⟩:=h;refine ⟨av,cap,h1,h2.below hb,λi hi=>?_⟩;obtain ⟨bb,off,e,hn,c0,c1,c2⟩:=h3 i hi;exact ⟨bb,off,e,hn,zAD hb c0,zAD hb c1,zAD hb c2⟩
theorem zAC (hb:Below w.heap.size w w') (row:Option Nat):w.grownBy w' row:=⟨hb.os,hb.tape,hb.output,hb.size,λk hk _=>hb.block k hk⟩
theorem zAB {w1 w2:World} (h1:w.grownBy w1 row) (h2:w1.grownBy w2 row):w.grownBy w2 row :=
 ⟨h2.os.trans h1.os,h2.tape.trans h1.tape,h2.output.trans h1.output,Nat.le_trans h1.size h2.size,λk hk hn=>(h2.block k (Nat.lt_of_lt_of_le hk h1.size) hn).trans (h1.block k hk hn)⟩
def hd (ts:List Wlx.TV) (en:Int):Wlx.TV:=match ts with
 | []=>⟨0,[],en⟩
 | t::_=>t
def tkV (t:Wlx.TV):Value:=.agg #[.int .i64 t.k,.string ⟨t.t.toArray⟩,.int .i64 t.p]
theorem zBO (kp:Nat) (ts:List Wlx.TV) (en:Int) (w:World) (h:PSt w kp ts en):CR 115 #[.pointer (some ⟨kp,0,none⟩)] w (tkV (hd ts en)):=by
 obtain ⟨av,cap,h1,h2,h3⟩:=h;have hlt:=h2.lt;obtain ⟨c0,c1,f0,f1⟩:=h2.two;have hne:¬ kp=w.heap.size:=by omega
 cases ts with
 | nil =>
  simp only [List.length_nil] at c0;go_enter func115,ntmps115;go_wp2;refine bodyPost_ret (v:=.agg #[.int .i64 0,.string ⟨#[]⟩,.int .i64 en]) (by simp [results,results115,go_sem, *]) rfl ⟨rfl,?_⟩;exact clA
 | cons t r =>
  obtain ⟨bb,off,e,hn,d0,d1,d2⟩:=h3 0 (by simp);subst e;have hlb:=World.block_lt_of_cell? _ _ d0;have hnb:¬ bb=w.heap.size:=by simp only at hlb;omega
  simp only [List.getElem_cons_zero,Nat.zero_mul,Nat.add_zero] at d0 d1 d2;obtain ⟨m,hm⟩:∃ m,r.length+1=m:=⟨_,rfl⟩
  simp only [List.length_cons,hm] at c0;have hm0:((m:Int) == 0)=false:=by rw [beq_eq_false_iff_ne];omega
  have hm1:(0:Int)<(m:Int):=by omega
  go_enter func115,ntmps115;go_wp2;refine bodyPost_ret (v:=tkV t) (by simp [results,results115,go_sem,tkV, *]) rfl ⟨rfl,?_⟩;exact clA
def zC3 (t:Wlx.TV) (m:List UInt8):Bool:=(t.k == 5) && (t.t == m)
theorem zCK (t:Wlx.TV) (m:List UInt8) (w:World):CR 202 #[tkV t,.string ⟨m.toArray⟩] w (.bool (zC3 t m)):=by
 obtain ⟨k,x,p⟩:=t;unfold zC3;show Calls _ _ #[.agg #[.int .i64 k,.string ⟨x.toArray⟩,.int .i64 p],.string ⟨m.toArray⟩] _ _
 simp only;by_cases hk:k=5
 ·subst hk;go_enter func202,ntmps202;go_wp2;go_ret;exact ⟨zA3 (by simp),clA⟩
 ·have hk':(k == 5)=false:=by simp [hk]
  rw [hk'];go_enter func202,ntmps202;go_wp2;go_ret;exact ⟨rfl,clA⟩
def fol (ts:List Wlx.TV) (m:List UInt8):Bool:=match ts with
 | _::t::_=>zC3 t m
 | _=>false
theorem zBr (kp:Nat) (ts:List Wlx.TV) (en:Int) (m:List UInt8) (w:World) (h:PSt w kp ts en) (hts:ts.length<=1024):CR 193 #[.pointer (some ⟨kp,0,none⟩),.string ⟨m.toArray⟩] w (.bool (fol ts m)):=by
 obtain ⟨av,cap,h1,h2,h3⟩:=h;obtain ⟨c0,c1,f0,f1⟩:=h2.two;by_cases hl:1<ts.length
 ·obtain ⟨bb,off,e,hn,d0,d1,d2⟩:=h3 1 hl;subst e;have C:=zCK (ts[1]) m w;have hf:fol ts m=zC3 (ts[1]) m:=by
   match ts,hl with
   | _::t::_,_=>rfl
  rw [hf];clear hf h3 h2;have hli:(1:Int)<(ts.length:Int):=by omega
  generalize zC3 (ts[1]) m=q at *;unfold tkV at C;go_enter func193,ntmps193;go_wp2_with fail
  refine C.mono ?_;rintro e w1 ⟨rfl,hb⟩;go_wp2;go_ret;exact ⟨rfl,hb⟩
 ·have hf:fol ts m=false:=by
   match ts,hl with
   | [],_=>rfl
   | [_],_=>rfl
   | _::_::_,h=>exact absurd (by simp) h
  rw [hf];have hli:¬ (1:Int)<(ts.length:Int):=by omega
  go_enter func193,ntmps193;go_wp2;go_ret;exact ⟨rfl,Below.refl _ _⟩
theorem zAQ (w:World) (kp o:Nat) (v:Value):w.grownBy (w.setCell ⟨kp,o,none⟩ v) (some kp):=by
 have hb:=(Below.refl kp w).setCell (p:=⟨kp,o,none⟩) (Nat.le_refl _) v;refine ⟨hb.os,hb.tape,hb.output,hb.size,λk hk hn=>?_⟩;exact Below.heap_setCell _ _ _ _ (λe=>hn (by rw [e]))
theorem PSt.far (h:PSt w kp ts en) {b:Nat} (hb:kp<b) (o:Nat) (v:Value):PSt (w.setCell ⟨b,o,none⟩ v) kp ts en:=by
 obtain ⟨av,cap,h1,h2,h3⟩:=h;refine ⟨av,cap,h1,h2.far (by omega) o v,λi hi=>?_⟩;obtain ⟨bb,off,e,hn,c0,c1,c2⟩:=h3 i hi;refine ⟨bb,off,e,hn,?_,?_,?_⟩ <;> rw [World.cell?_setCell_far _ _ _ _ (by simp;omega)] <;> assumption
theorem zAS (h:w.grownBy W row) {b:Nat} (hb:w.heap.size<=b) (o:Nat) (v:Value):w.grownBy (W.setCell ⟨b,o,none⟩ v) row:=by
 have q:=(Below.refl b W).setCell (p:=⟨b,o,none⟩) (Nat.le_refl _) v;exact ⟨q.os.trans h.os,q.tape.trans h.tape,q.output.trans h.output,Nat.le_trans h.size q.size,λk hk hn=>(q.block k (by omega)).trans (h.block k hk hn)⟩
theorem PSt.lt (h:PSt w kp ts en):kp<w.heap.size:=by
 obtain ⟨av,cap,h1,h2,h3⟩:=h;exact h2.lt
theorem PSt.moved {n cap:Nat} {av av':Option Addr} {a r:List Wlx.TV} (hn:a.length=n) (hcap:n+r.length<=cap) (h2:AtL w kp [.slice av (a++r).length cap,.int .i64 en])
  (h3:∀ i (h:i<(a++r).length),∃ bb off,av=some ⟨bb,off,none⟩/\bb<kp/\w.cell? ⟨bb,off+i * 3,none⟩=some (.int .i64 ((a++r)[i]).k)/\w.cell? ⟨bb,off+i * 3+1,none⟩=some (.string ⟨((a++r)[i]).t.toArray⟩)/\w.cell? ⟨bb,off+i * 3+2,none⟩=some (.int .i64 ((a++r)[i]).p))
  (hav:0<r.length->av'=av.map (·.add (n * 3))):PSt (w.setCell ⟨kp,0,none⟩ (.slice av' r.length (cap - n))) kp r en:=by
 refine ⟨av',cap - n,by omega,h2.set 0 _,λi hi=>?_⟩;obtain ⟨bb,off,e,hne,d0,d1,d2⟩:=h3 (i+n) (by rw [List.length_append];omega);have hg:(a++r)[i+n]'(by rw [List.length_append];omega)=r[i]:=by
  rw [List.getElem_append_right (by omega)];congr 1
  omega
 rw [hg] at d0 d1 d2;refine ⟨bb,off+n * 3,?_,hne,?_,?_,?_⟩
 ·rw [hav (by omega),e];show some ((⟨bb,off,none⟩:Addr).add (n * 3))=_
  rw [Addr.add_mid]
 ·rw [World.cell?_setCell_far _ _ _ _ (by simp;omega),show off+n * 3+i * 3=off+(i+n) * 3 by omega];exact d0
 ·rw [World.cell?_setCell_far _ _ _ _ (by simp;omega),show off+n * 3+i * 3+1=off+(i+n) * 3+1 by omega];exact d1
 ·rw [World.cell?_setCell_far _ _ _ _ (by simp;omega),show off+n * 3+i * 3+2=off+(i+n) * 3+2 by omega];exact d2
theorem zBC (n:Nat) (kp:Nat) (a r:List Wlx.TV) (en:Int) (w:World) (h:PSt w kp (a++r) en) (hn:a.length=n) (hn2:n<=2) (hts:(a++r).length<=1024):Calls prog 142 #[.pointer (some ⟨kp,0,none⟩),.int .i64 n] w λe w'=>e=.returned (.tuple #[])/\PSt w' kp r en/\w.grownBy w' (some kp):=by
 obtain ⟨av,cap,h1,h2,h3⟩:=h;obtain ⟨c0,c1,f0,f1⟩:=h2.two;have hl:(a++r).length=n+r.length:=by rw [List.length_append,hn]
 rw [hl] at h1 hts;simp only [hl] at c0;have e1:(0:Int)<=(n:Int):=by omega
 have e2:(n:Int)<=((n+r.length:Nat):Int):=by omega
 go_enter func142,ntmps142;go_wp2
 ·go_end0
  refine ⟨rfl,?_,zAQ _ _ _ _⟩;have q:=PSt.moved (av':=av) hn h1 h2 h3 (λq=>by omega);rw [show cap - n=0 by omega] at q;exact q
 ·go_end0
  exact ⟨rfl,PSt.moved hn h1 h2 h3 (λh=>rfl),zAQ _ _ _ _⟩
def pos (ts:List Wlx.TV) (en:Int):Int:=(hd ts en).p
def zBp (c p:Int):Ending:=.panicked [{v:=.iface 72 (.agg #[.int .i64 c,.int .i64 p]),recovered:=false}]
theorem zPx (k:Int) (x:ByteArray) (p:Int) (w:World):(Instr.field 107 (.agg #[.int .i64 k,.string x,.int .i64 p]) 2).run prog w=.ok (.int .i64 p) w:=by kernel_rfl
theorem zHA (k:Int) (x:ByteArray) (p:Int) (w:World):(Instr.field 107 (.agg #[.int .i64 k,.string x,.int .i64 p]) 0).run prog w=.ok (.int .i64 k) w:=by kernel_rfl
theorem zHm (k:Int) (x:ByteArray) (p:Int) (w:World):(Instr.field 107 (.agg #[.int .i64 k,.string x,.int .i64 p]) 1).run prog w=.ok (.string x) w:=by kernel_rfl
theorem zEK (kp:Nat) (ts:List Wlx.TV) (en c:Int) (w:World) (h:PSt w kp ts en):Calls prog 87 #[.pointer (some ⟨kp,0,none⟩),.int .i64 c] w λe w'=>e=zBp c (pos ts en)/\Below w.heap.size w w':=by
 have N:=zBO kp ts en w h;unfold pos;generalize hd ts en=t at *;obtain ⟨k,x,p⟩:=t;unfold tkV at N;simp only at N ⊢;have hfl:=zPx;go_enter func87,ntmps87;go_wp2_with fail
 refine N.mono ?_;rintro e w1 ⟨rfl,hb⟩;go_wp2;exact ⟨rfl,rfl,hb⟩
theorem zA8 (kp:Nat) (w:World):Calls prog 56 #[.pointer (some ⟨kp,0,none⟩),.bool true] w λe w'=>e=.returned (.tuple #[])/\w=w':=by
 go_enter func56,ntmps56;go_wp2;go_end0
 exact ⟨rfl,rfl⟩
theorem zAp (kp:Nat) (ts:List Wlx.TV) (en:Int) (w:World) (h:PSt w kp ts en):Calls prog 56 #[.pointer (some ⟨kp,0,none⟩),.bool false] w λe w'=>e=zBp 50 (pos ts en)/\Below w.heap.size w w':=by
 have N:=zEK kp ts en 50 w h;unfold zBp at N ⊢;go_enter func56,ntmps56;go_wp2_with fail
 refine N.mono ?_;rintro e w1 ⟨rfl,hb⟩;go_wp2;exact ⟨rfl,rfl,hb⟩
def tk (ts:List Wlx.TV) (m:List UInt8):Option (List Wlx.TV):=match ts with
 | []=>none
 | t::r=>if zC3 t m then some r else none
theorem zAv (kp:Nat) (ts:List Wlx.TV) (en:Int) (m:List UInt8) (w:World) (h:PSt w kp ts en) (hts:ts.length<=1024):Calls prog 197 #[.pointer (some ⟨kp,0,none⟩),.string ⟨m.toArray⟩] w λe w' =>
  match tk ts m with
  | some r=>e=.returned (.bool true)/\PSt w' kp r en/\w.grownBy w' (some kp)
  | none=>e=.returned (.bool false)/\PSt w' kp ts en/\w.grownBy w' (some kp):=by
 have N:=zBO kp ts en w h;have M:=λw=>zCK (hd ts en) m w
 cases ts with
 | nil =>
  have e0:zC3 (hd [] en) m=false:=rfl;rw [e0] at M;generalize hd [] en=t at *;simp only [tk];go_enter func197,ntmps197;go_wp2_with fail
  refine N.mono ?_;rintro e w1 ⟨rfl,hb1⟩;go_wp2_with fail
  refine (M _).mono ?_;rintro e w2 ⟨rfl,hb2⟩;have hb:=zAA hb1 hb2;go_wp2;go_ret;exact ⟨rfl,h.below hb,zAC hb _⟩
 | cons t r =>
  have e0:hd (t::r) en=t:=rfl;rw [e0] at M N;simp only [tk];cases hq:zC3 t m with
  | false =>
   rw [hq] at M;rw [if_neg (by decide)];go_enter func197,ntmps197;go_wp2_with fail
   refine N.mono ?_;rintro e w1 ⟨rfl,hb1⟩;go_wp2_with fail
   refine (M _).mono ?_;rintro e w2 ⟨rfl,hb2⟩;have hb:=zAA hb1 hb2;go_wp2;go_ret;exact ⟨rfl,h.below hb,zAC hb _⟩
  | true =>
   rw [hq] at M;rw [if_pos rfl];go_enter func197,ntmps197;go_wp2_with fail
   refine N.mono ?_;rintro e w1 ⟨rfl,hb1⟩;go_wp2_with fail
   refine (M _).mono ?_;rintro e w2 ⟨rfl,hb2⟩;have hb:=zAA hb1 hb2;have P:=zBC 1 kp [t] r en w2 (h.below hb) rfl (by decide) hts;go_wp2_with fail
   refine P.mono ?_;rintro e w3 ⟨rfl,hp,hg⟩;go_wp2;go_ret;exact ⟨rfl,hp,zAB (zAC hb _) hg⟩
theorem AtL.grown {W':World} {k:Nat} {vs:List Value} (h:AtL W k vs) (hg:W.grownBy W' row) (hne:some k ≠ row):AtL W' k vs:=by
 obtain ⟨h1,h2,h3⟩:=h;have hbk:=hg.block k h1 hne;refine ⟨Nat.lt_of_lt_of_le h1 hg.size,λi v hi=>?_,λi hi=>?_⟩
 ·exact (World.cell?_of_block (a:=⟨k,i,none⟩) hbk).trans (h2 i v hi)
 ·rw [<-h3 i hi];unfold World.frozen?;simp only [hbk]
def zB2 (k:Int) (ts:List Wlx.TV):Option ((Int × List UInt8 × Int) × List Wlx.TV):=match ts with
 | []=>none
 | t::r=>if t.k=5 then (Wt.opAs t.t k).map λo=>(o,r) else none
def zB8 (kp:Nat) (en:Int) (ts:List Wlx.TV) (r:Option ((Int × List UInt8 × Int) × List Wlx.TV)) (w:World) (e:Ending) (w':World):Prop:=match r with
 | some ((o,m,t),r)=>e=.returned (.tuple #[.agg #[.int .i64 o,.string ⟨m.toArray⟩,.int .i64 t],.bool true])/\PSt w' kp r en/\w.grownBy w' (some kp)
 | none=>e=.returned (.tuple #[.agg #[.int .i64 0,.string ⟨#[]⟩,.int .i64 0],.bool false])/\PSt w' kp ts en/\w.grownBy w' (some kp)
theorem zBV (kp:Nat) (ts:List Wlx.TV) (en k:Int) (w:World) (h:PSt w kp ts en) (hts:ts.length<=1024) (hO:OpsAt w):Calls prog 113 #[.pointer (some ⟨kp,0,none⟩),.int .i64 k] w λe w'=>zB8 kp en ts (zB2 k ts) w e w':=by
 have h':PSt (w.alloc (.cells #[.int .i64 0,.string ⟨#[]⟩,.int .i64 0] 131)) kp ts en:=h.below ((Below.refl _ _).alloc (Nat.le_refl _) _);have N:=zBO kp ts en _ h';clear h';have hO0:=hO.alloc (.cells #[.int .i64 0,.string ⟨#[]⟩,.int .i64 0] 131);have pR:=AtL.new0 w 131 [.int .i64 0,.string ⟨#[]⟩,.int .i64 0];have hB0:=zAI (Below.refl _ w) (.cells #[.int .i64 0,.string ⟨#[]⟩,.int .i64 0] 131);obtain ⟨t,ht⟩:∃ t,hd ts en=t:=⟨_,rfl⟩
 have A:=λw h=>zJc ⟨t.t.toArray⟩ k w h
 have e1:(⟨t.t.toArray⟩:ByteArray).data.toList=t.t:=rfl;rw [e1] at A;clear e1;rw [ht] at N;have hko:zB2 k ts=if t.k=5 then (Wt.opAs t.t k).map λo=>(o,ts.tail) else none:=by
  cases ts with
  | nil=>subst ht;rfl
  | cons a r=>subst ht;rfl
 have hne:t.k=5->∃ r,ts=t::r:=by
  intro h5;cases ts with
  | nil=>subst ht;exact absurd h5 (by show ¬ (0:Int)=5;decide)
  | cons a r=>subst ht;exact ⟨r,rfl⟩
 rw [hko];clear ht hko;obtain ⟨tk,tx,tp⟩:=t;simp only at A hne ⊢;unfold tkV at N;simp only at N;cases ha:Wt.opAs tx k with
 | none =>
  rw [ha] at A;have e2:(if tk=5 then Option.map (λo=>(o,ts.tail)) (none:Option (Int × List UInt8 × Int)) else none)=none:=by split <;> rfl
  rw [e2];simp only [zB8];simp only [opV] at A;go_enter func113,ntmps113;go_wp2_with fail
  refine N.mono ?_;rintro e w1 ⟨rfl,hb1⟩;have pR1:=AtL.below hb1 pR;have hB1:=zAA hB0 hb1;have hO1:=hO0.below hb1;have hA:=A _ (hO1.alloc (.cells #[.int .i64 tk,.string ⟨tx.toArray⟩,.int .i64 tp] 107));have pR2:=AtL.alloc pR1 (.cells #[.int .i64 tk,.string ⟨tx.toArray⟩,.int .i64 tp] 107);have hB2:=zAI hB1 (.cells #[.int .i64 tk,.string ⟨tx.toArray⟩,.int .i64 tp] 107);clear pR hB0 hO0 N hb1 pR1 hB1 hO1 A;go_wp2_with fail
  refine hA.mono ?_;rintro e w2 ⟨rfl,hb2⟩;have pR3:=AtL.below hb2 pR2;have hB3:=zAA hB2 hb2;have hlt:=pR3.lt;have hx:¬ w.heap.size=w2.heap.size:=by omega
  have hx2:¬ w2.heap.size=w.heap.size:=by omega
  obtain ⟨c0,c1,c2,f0,f1,f2⟩:=pR3.three;clear hA pR2 hB2 hb2;go_wp2;refine bodyPost_ret (v:=.tuple #[.agg #[.int .i64 0,.string ⟨#[]⟩,.int .i64 0],.bool false]) (by simp [results,results113,go_sem, *]) rfl ?_;have hf:∀ W:World,Below w.heap.size w W->(Ending.returned (.tuple #[.agg #[.int .i64 0,.string ⟨#[]⟩,.int .i64 0],.bool false])=Ending.returned (.tuple #[.agg #[.int .i64 0,.string ⟨#[]⟩,.int .i64 0],.bool false])/\PSt W kp ts en/\w.grownBy W (some kp)):=λW hW=>⟨rfl,h.below hW,zAC hW _⟩
  exact hf _ (clB hB3)
 | some q =>
  obtain ⟨o,m,t2⟩:=q;rw [ha] at A;simp only [opV] at A;by_cases h5:tk=5
  ·rw [if_pos h5];obtain ⟨r,hr⟩:=hne h5;subst hr;simp only [Option.map_some,List.tail_cons,zB8];subst h5;go_enter func113,ntmps113;go_wp2_with fail
   refine N.mono ?_;rintro e w1 ⟨rfl,hb1⟩;have pR1:=AtL.below hb1 pR;have hB1:=zAA hB0 hb1;have hO1:=hO0.below hb1;have hA:=A _ (hO1.alloc (.cells #[.int .i64 5,.string ⟨tx.toArray⟩,.int .i64 tp] 107));have pR2:=AtL.alloc pR1 (.cells #[.int .i64 5,.string ⟨tx.toArray⟩,.int .i64 tp] 107);have hB2:=zAI hB1 (.cells #[.int .i64 5,.string ⟨tx.toArray⟩,.int .i64 tp] 107);clear pR hB0 hO0 N hb1 pR1 hB1 hO1 A;go_wp2_with fail
   refine hA.mono ?_;rintro e w2 ⟨rfl,hb2⟩;have hb2x:=hb2;have pR3:=AtL.below hb2 pR2;have hB3:=zAA hB2 hb2;have hlt:=pR3.lt;have hx:¬ w.heap.size=w2.heap.size:=by omega
   have hx2:¬ w2.heap.size=w.heap.size:=by omega
   obtain ⟨c0,c1,c2,f0,f1,f2⟩:=pR3.three;clear hA pR2 hB2 hb2;have pT:=AtL.below hb2x (AtL.new0 w1 107 [.int .i64 5,.string ⟨tx.toArray⟩,.int .i64 tp]);obtain ⟨u0,u1,u2⟩:=pT.f3;have hltT:=pT.lt;have pO2:=AtL.new0 w2 131 [.int .i64 o,.string ⟨m.toArray⟩,.int .i64 t2];have P:=zBC 1 kp [⟨5,tx,tp⟩] r en (w2.alloc (.cells #[.int .i64 o,.string ⟨m.toArray⟩,.int .i64 t2] 131)) (h.below (zAI hB3 _)) rfl (by decide) hts;have hB4:=zAI hB3 (.cells #[.int .i64 o,.string ⟨m.toArray⟩,.int .i64 t2] 131);have hkp:=h.lt;go_wp2_with fail
   refine P.mono ?_;rintro e w3 ⟨rfl,hp,hg⟩;have pR4:AtL w3 w.heap.size [.int .i64 0,.string ⟨#[]⟩,.int .i64 0]:=AtL.grown (AtL.alloc pR3 _) hg (by intro e;have:=Option.some.inj e;omega);have pO4:AtL w3 w2.heap.size [.int .i64 o,.string ⟨m.toArray⟩,.int .i64 t2]:=AtL.grown pO2 hg (by intro e;have:=Option.some.inj e;omega);have hG:=zAB (zAC hB4 (some kp)) hg;obtain ⟨c0,c1,c2,f0,f1,f2⟩:=pR4.three;obtain ⟨d0,d1,d2,g0,g1,g2⟩:=pO4.three;go_wp2;refine bodyPost_ret (v:=.tuple #[.agg #[.int .i64 o,.string ⟨m.toArray⟩,.int .i64 t2],.bool true]) (by simp [results,results113,go_sem, *]) rfl ?_;exact ⟨rfl,((hp.far hkp _ _).far hkp _ _).far hkp _ _,zAS (zAS (zAS hG (Nat.le_refl _) _ _) (Nat.le_refl _) _ _) (Nat.le_refl _) _ _⟩
  ·rw [if_neg h5];have h5':(tk == 5)=false:=by simp [h5]
   simp only [zB8];go_enter func113,ntmps113;go_wp2_with fail
   refine N.mono ?_;rintro e w1 ⟨rfl,hb1⟩;have pR1:=AtL.below hb1 pR;have hB1:=zAA hB0 hb1;have hO1:=hO0.below hb1;have hA:=A _ (hO1.alloc (.cells #[.int .i64 tk,.string ⟨tx.toArray⟩,.int .i64 tp] 107));have pR2:=AtL.alloc pR1 (.cells #[.int .i64 tk,.string ⟨tx.toArray⟩,.int .i64 tp] 107);have hB2:=zAI hB1 (.cells #[.int .i64 tk,.string ⟨tx.toArray⟩,.int .i64 tp] 107);clear pR hB0 hO0 N hb1 pR1 hB1 hO1 A;go_wp2_with fail
   refine hA.mono ?_;rintro e w2 ⟨rfl,hb2⟩;have hb2x:=hb2;have pR3:=AtL.below hb2 pR2;have hB3:=zAA hB2 hb2;have hlt:=pR3.lt;have hx:¬ w.heap.size=w2.heap.size:=by omega
   have hx2:¬ w2.heap.size=w.heap.size:=by omega
   obtain ⟨c0,c1,c2,f0,f1,f2⟩:=pR3.three;clear hA pR2 hB2 hb2;have pT:=AtL.below hb2x (AtL.new0 w1 107 [.int .i64 tk,.string ⟨tx.toArray⟩,.int .i64 tp]);obtain ⟨u0,u1,u2⟩:=pT.f3;have hltT:=pT.lt;have hy:¬ w1.heap.size=w2.heap.size:=by omega
   go_wp2;refine bodyPost_ret (v:=.tuple #[.agg #[.int .i64 0,.string ⟨#[]⟩,.int .i64 0],.bool false]) (by simp [results,results113,go_sem, *]) rfl ?_;have hf:∀ W:World,Below w.heap.size w W->(Ending.returned (.tuple #[.agg #[.int .i64 0,.string ⟨#[]⟩,.int .i64 0],.bool false])=Ending.returned (.tuple #[.agg #[.int .i64 0,.string ⟨#[]⟩,.int .i64 0],.bool false])/\PSt W kp ts en/\w.grownBy W (some kp)):=λW hW=>⟨rfl,h.below hW,zAC hW _⟩
   exact hf _ (clB hB3)
theorem vlz (w:World):AtL (w.alloc (.cells #[.int .i64 0,.int .i64 0,.int .i64 0,.string ⟨#[]⟩,.bool false,.int .i64 0] 26)) w.heap.size [.int .i64 0,.int .i64 0,.int .i64 0,.string ⟨#[]⟩,.bool false,.int .i64 0]:=AtL.new0 w _ _
def zC5 (c:Int):Wt.Vl:=⟨4,0,0,⟨#[]⟩,false,if Wv.flt c then c else 2⟩
theorem zBT (c:Int) (w:World):CR 29 #[.int .i64 c] w (vlV (zC5 c)):=by
 have C:=λw=>zEV c w
 unfold zC5;cases hq:Wv.flt c with
 | false =>
  rw [hq] at C;go_enter func29,ntmps29;go_wp2_with fail
  refine (C _).mono ?_;rintro e w1 ⟨rfl,rfl⟩;go_wp2;refine bodyPost_ret (v:=vlV ⟨4,0,0,⟨#[]⟩,false,2⟩) (by simp [results,results29,go_sem,vlV,vl6]) rfl ⟨rfl,?_⟩;exact clA
 | true =>
  rw [hq] at C;go_enter func29,ntmps29;go_wp2_with fail
  refine (C _).mono ?_;rintro e w1 ⟨rfl,rfl⟩;go_wp2;refine bodyPost_ret (v:=vlV ⟨4,0,0,⟨#[]⟩,false,c⟩) (by simp [results,results29,go_sem,vlV,vl6]) rfl ⟨rfl,?_⟩;exact clA
def zA1 (b:Bool):Wt.Vl:=⟨3,0,0,⟨#[]⟩,b,0⟩
theorem zEP (b:Bool) (w:World):CR 187 #[.bool b] w (vlV (zA1 b)):=by
 go_enter func187,ntmps187;go_wp2;refine bodyPost_ret (v:=vlV (zA1 b)) (by simp [results,results187,go_sem,vlV,vl6,zA1]) rfl ⟨rfl,?_⟩;exact clA
def zII (n d:Int):Wt.Vl:=⟨1,Wnum.cN n d,Wnum.cD n d,⟨#[]⟩,false,0⟩
theorem zLr (n d:Int) (w:World) (h1:-9223372036854775808<=n) (h2:n<=9223372036854775807) (h3:-9223372036854775808<=d) (h4:d<=9223372036854775807) :
  CR 185 #[.agg #[.int .i64 n,.int .i64 d]] w (vlV (zII n d)):=by
 have C:=λw=>zCo n d w h1 h2 h3 h4
 unfold zII Wnum.cN Wnum.cD;have pA:=(AtL.new0 w 24 [.int .i64 n,.int .i64 d]).alloc (.cells zV0 26);have pR:=vlz (w.alloc (.cells #[.int .i64 n,.int .i64 d] 24));simp only [World.size_alloc] at pR;have hB0:=zAI (zAI (Below.refl _ w) (.cells #[.int .i64 n,.int .i64 d] 24)) (.cells zV0 26);cases hq:Wnum.rightB n d with
 | false =>
  rw [hq] at C;go_enter func185,ntmps185;go_wp2_with fail
  refine (C _).mono ?_;rintro e w1 ⟨rfl,hb⟩;have pA1:=AtL.below hb pA;have pR1:=AtL.below hb pR;obtain ⟨a0,a1,f0,f1⟩:=pA1.two;obtain ⟨c0,c1,c2,c3,c4,c5⟩:=pR1.f6;have g0:=pR1.2.2 0 (by decide);have g1:=pR1.2.2 1 (by decide);have g2:=pR1.2.2 2 (by decide);have g3:=pR1.2.2 3 (by decide);have g4:=pR1.2.2 4 (by decide);have g5:=pR1.2.2 5 (by decide);have hB1:=zAA hB0 hb;go_wp2;refine bodyPost_ret (v:=vlV ⟨1,0,1,⟨#[]⟩,false,0⟩) (by simp [results,results185,go_sem,vlV,vl6, *]) rfl ⟨rfl,?_⟩;exact (clB hB1)
 | true =>
  rw [hq] at C;go_enter func185,ntmps185;go_wp2_with fail
  refine (C _).mono ?_;rintro e w1 ⟨rfl,hb⟩;have pA1:=AtL.below hb pA;have pR1:=AtL.below hb pR;obtain ⟨a0,a1,f0,f1⟩:=pA1.two;obtain ⟨c0,c1,c2,c3,c4,c5⟩:=pR1.f6;have g0:=pR1.2.2 0 (by decide);have g1:=pR1.2.2 1 (by decide);have g2:=pR1.2.2 2 (by decide);have g3:=pR1.2.2 3 (by decide);have g4:=pR1.2.2 4 (by decide);have g5:=pR1.2.2 5 (by decide);have hB1:=zAA hB0 hb;go_wp2;refine bodyPost_ret (v:=vlV ⟨1,n,d,⟨#[]⟩,false,0⟩) (by simp [results,results185,go_sem,vlV,vl6, *]) rfl ⟨rfl,?_⟩;exact (clB hB1)
def zCg (s:ByteArray):Wt.Vl:=if Wv.prts s.data.toList then (if 256<s.size then ⟨4,0,0,⟨#[]⟩,false,7⟩ else ⟨2,0,0,s,false,0⟩) else ⟨4,0,0,⟨#[]⟩,false,2⟩
theorem zK3 (s:ByteArray) (w:World) (hs:s.size<=9223372036854775807):CR 183 #[.string s] w (vlV (zCg s)):=by
 have C:=λw=>zH9 s w hs
 have F2:=λw=>zBT 2 w
 have F7:=λw=>zBT 7 w
 have e2:zC5 2=⟨4,0,0,⟨#[]⟩,false,2⟩:=rfl;have e7:zC5 7=⟨4,0,0,⟨#[]⟩,false,7⟩:=rfl;rw [e2] at F2;rw [e7] at F7;simp only [vlV,vl6] at F2 F7;have pR:=vlz w;have hB0:=zAI (Below.refl _ w) (.cells zV0 26);unfold zCg;cases hq:Wv.prts s.data.toList with
 | false =>
  rw [hq] at C;rw [if_neg (by decide)];go_enter func183,ntmps183;go_wp2_with fail
  refine (C _).mono ?_;rintro e w1 ⟨rfl,rfl⟩;go_wp2_with fail
  refine (F2 _).mono ?_;rintro e w2 ⟨rfl,hb⟩;have pR1:=AtL.below hb pR;obtain ⟨c0,c1,c2,c3,c4,c5⟩:=pR1.f6;have g0:=pR1.2.2 0 (by decide);have g1:=pR1.2.2 1 (by decide);have g2:=pR1.2.2 2 (by decide);have g3:=pR1.2.2 3 (by decide);have g4:=pR1.2.2 4 (by decide);have g5:=pR1.2.2 5 (by decide);have hB1:=zAA hB0 hb;go_wp2;refine bodyPost_ret (v:=vlV ⟨4,0,0,⟨#[]⟩,false,2⟩) (by simp [results,results183,go_sem,vlV,vl6, *]) rfl ⟨rfl,?_⟩;exact (clB hB1)
 | true =>
  rw [hq] at C;rw [if_pos rfl];by_cases hl:256<s.size
  ·have hli:(256:Int)<(s.size:Int):=by omega
   rw [if_pos hl];go_enter func183,ntmps183;go_wp2_with fail
   refine (C _).mono ?_;rintro e w1 ⟨rfl,rfl⟩;go_wp2_with fail
   refine (F7 _).mono ?_;rintro e w2 ⟨rfl,hb⟩;have pR1:=AtL.below hb pR;obtain ⟨c0,c1,c2,c3,c4,c5⟩:=pR1.f6;have g0:=pR1.2.2 0 (by decide);have g1:=pR1.2.2 1 (by decide);have g2:=pR1.2.2 2 (by decide);have g3:=pR1.2.2 3 (by decide);have g4:=pR1.2.2 4 (by decide);have g5:=pR1.2.2 5 (by decide);have hB1:=zAA hB0 hb;go_wp2;refine bodyPost_ret (v:=vlV ⟨4,0,0,⟨#[]⟩,false,7⟩) (by simp [results,results183,go_sem,vlV,vl6, *]) rfl ⟨rfl,?_⟩;exact (clB hB1)
  ·have hli:¬ (256:Int)<(s.size:Int):=by omega
   rw [if_neg hl];go_enter func183,ntmps183;go_wp2_with fail
   refine (C _).mono ?_;rintro e w1 ⟨rfl,rfl⟩;go_wp2;refine bodyPost_ret (v:=vlV ⟨2,0,0,s,false,0⟩) (by simp [results,results183,go_sem,vlV,vl6, *]) rfl ⟨rfl,?_⟩;exact clA
end Go.Proofs.YtdghjlmnlodnlaaGreatDoor
namespace Go.Proofs.YtdghjlmnlodnlaaGreatDoor.Wnum
def tenP (k:Nat):Int:=10 ^ k
theorem tenP_succ (k:Nat):tenP (k+1)=tenP k * 10:=by unfold tenP;exact Int.pow_succ 10 k
theorem tenP_pos (k:Nat):1<=tenP k:=by
 induction k with
 | zero=>exact Int.le_refl _
 | succ k ih=>rw [tenP_succ];omega
theorem zFm (k n:Nat):tenP k<=tenP (k+n):=by
 induction n with
 | zero=>exact Int.le_refl _
 | succ n ih=>rw [<-Nat.add_assoc,tenP_succ];have:=tenP_pos (k+n);omega
theorem zG7:tenP 12=1000000000000:=by decide
theorem zMl:tenP 6=1000000:=by decide
theorem tenP_le12 {k:Nat} (h:k<=12):tenP k<=1000000000000:=by
 have:=zFm k (12 - k);rw [show k+(12 - k)=12 by omega,zG7] at this;exact this
theorem tenP_le6 {k:Nat} (h:k<=6):tenP k<=1000000:=by
 have:=zFm k (6 - k);rw [show k+(6 - k)=6 by omega,zMl] at this;exact this
end Go.Proofs.YtdghjlmnlodnlaaGreatDoor.Wnum
namespace Go.Proofs.YtdghjlmnlodnlaaGreatDoor.Wnum
def bt (s:ByteArray) (i:Nat):Int:=((s.data.toList.getD i 0).toNat:Int)
abbrev isD (b:Int):Prop:=48<=b/\b<=57
def cnt (s:ByteArray):Nat->Nat->Nat
 | _,0=>0
 | i,k+1=>if isD (bt s i) then cnt s (i+1) k+1 else 0
def say (s:ByteArray) (i:Nat):Nat->Int
 | 0=>0
 | k+1=>say s i k * 10+(bt s (i+k) - 48)
theorem bt_bd (s:ByteArray) (i:Nat):0<=bt s i/\bt s i<=255:=by
 unfold bt;have:=(s.data.toList.getD i 0).toNat_lt;omega
theorem bt_get {s:ByteArray} {i:Nat} (h:i<s.size):(((s[i]'h).toNat:Nat):Int)=bt s i:=by
 unfold bt;obtain ⟨⟨l⟩⟩:=s;have hl:i<l.length:=h;have e:(ByteArray.mk ⟨l⟩)[i]'h=l.getD i 0:=by
  simp only [List.getD,List.getElem?_eq_getElem hl,Option.getD_some];rfl
 rw [e]
theorem zQZ (s:ByteArray):∀ k i,cnt s i k<=k:=by
 intro k;induction k with
 | zero=>intro i;exact Nat.le_refl _
 | succ k ih =>
  intro i;show (if isD (bt s i) then cnt s (i+1) k+1 else 0)<=k+1
  split
  ·have:=ih (i+1);omega
  ·omega
theorem zNi (s:ByteArray):∀ k i j,j<cnt s i k->isD (bt s (i+j)):=by
 intro k;induction k with
 | zero=>intro i j h;exact absurd h (Nat.not_lt_zero _)
 | succ k ih =>
  intro i j h;have e:cnt s i (k+1)=if isD (bt s i) then cnt s (i+1) k+1 else 0:=rfl
  rw [e] at h;by_cases c:isD (bt s i)
  ·rw [if_pos c] at h;cases j with
   | zero=>exact c
   | succ j =>
    have:=ih (i+1) j (by omega);rw [show i+1+j=i+(j+1) by omega] at this;exact this
  ·rw [if_neg c] at h;omega
theorem zPF (s:ByteArray):∀ k i,cnt s i k<k->¬ isD (bt s (i+cnt s i k)):=by
 intro k;induction k with
 | zero=>intro i h;omega
 | succ k ih =>
  intro i h;have e:cnt s i (k+1)=if isD (bt s i) then cnt s (i+1) k+1 else 0:=rfl
  rw [e] at h ⊢;by_cases c:isD (bt s i)
  ·rw [if_pos c] at h ⊢;have:=ih (i+1) (by omega);rw [show i+1+cnt s (i+1) k=i+(cnt s (i+1) k+1) by omega] at this;exact this
  ·rw [if_neg c];exact c
theorem zER {s:ByteArray} {i:Nat}:∀ k,(∀ m,m<k->isD (bt s (i+m)))->0<=say s i k:=by
 intro k;induction k with
 | zero=>intro _;exact Int.le_refl _
 | succ k ih =>
  intro h;have h1:=ih (λm hm=>h m (by omega));have h2:=(h k (by omega)).1;show 0<=say s i k * 10+(bt s (i+k) - 48)
  omega
theorem zHb {s:ByteArray} {i:Nat}:∀ n k,(∀ m,m<k+n->isD (bt s (i+m)))->say s i k<=say s i (k+n):=by
 intro n;induction n with
 | zero=>intro k _;exact Int.le_refl _
 | succ n ih =>
  intro k h;have h1:=ih k (λm hm=>h m (by omega));have h2:=(h (k+n) (by omega)).1;have h3:=zER (s:=s) (i:=i) (k+n) (λm hm=>h m (by omega));show say s i k<=say s i (k+n) * 10+(bt s (i+(k+n)) - 48)
  omega
def dk (s:ByteArray) (i:Nat):Nat:=cnt s i (s.size - i)
def dv (s:ByteArray) (i:Nat):Int:=say s i (dk s i)
def dB (s:ByteArray) (i:Nat):Bool:=decide (0<dk s i/\dv s i<=1000000000000000000)
theorem dk_le (s:ByteArray) (i:Nat):dk s i<=s.size - i:=zQZ s _ i
theorem dk_all (s:ByteArray) (i:Nat):∀ m,m<dk s i->isD (bt s (i+m)):=λm h=>zNi s _ i m h
theorem zQF {s:ByteArray} {i:Nat} (h:i+dk s i<s.size):¬ isD (bt s (i+dk s i)):=zPF s _ i (by unfold dk at *;omega)
theorem zFU (s:ByteArray) (i:Nat):0<=dv s i:=zER _ (dk_all s i)
theorem over_before {s:ByteArray} {i j:Nat} (hj:j<=dk s i) (h:1000000000000000000<say s i j):dB s i=false:=by
 have:=zHb (s:=s) (i:=i) (dk s i - j) j (by rw [show j+(dk s i - j)=dk s i by omega];exact dk_all s i);rw [show j+(dk s i - j)=dk s i by omega] at this;unfold dB dv;rw [decide_eq_false_iff_not];omega
theorem ten_step {a d:Int}:(1000000000000000000 - d) / 10<a ↔ 1000000000000000000<a * 10+d:=by omega
def rdV (s:ByteArray):Int:=if dB s 0=true then dv s 0 else 0
def rdS (s:ByteArray):ByteArray:=if dB s 0=true then s.extract (dk s 0) s.size else ⟨#[]⟩
theorem rd_false {s:ByteArray} (h:dB s 0=false):rdV s=0/\rdS s=⟨#[]⟩:=by unfold rdV rdS;rw [h];exact ⟨rfl,rfl⟩
theorem rd_true {s:ByteArray} (h:dB s 0=true):rdV s=dv s 0/\rdS s=s.extract (dk s 0) s.size:=by unfold rdV rdS;rw [h];exact ⟨rfl,rfl⟩
theorem dk_more {s:ByteArray} {i j:Nat} (hj:j<=dk s i) (h1:i+j<s.size) (h2:isD (bt s (i+j))):j<dk s i:=by
 rcases Nat.lt_or_ge j (dk s i) with h | h
 ·exact h
 ·have e:j=dk s i:=by omega
  exact absurd (e ▸ h2) (zQF (by omega))
theorem dk_stop {s:ByteArray} {i j:Nat} (hj:j<=dk s i) (h:s.size<=i+j \/ ¬ isD (bt s (i+j))):dk s i=j:=by
 rcases Nat.lt_or_ge j (dk s i) with c | c
 ·rcases h with h | h
  ·have:=dk_le s i;omega
  ·exact absurd (dk_all s i j c) h
 ·omega
theorem dB_stop {s:ByteArray} {i j:Nat} (e:dk s i=j) (hb:say s i j<=1000000000000000000):dv s i=say s i j/\dB s i=decide (0<j):=by
 have h1:dv s i=say s i j:=by unfold dv;rw [e]
 refine ⟨h1,?_⟩;unfold dB;rw [h1,e];by_cases h:0<j
 ·rw [decide_eq_true h,decide_eq_true ⟨h,hb⟩]
 ·rw [decide_eq_false h,decide_eq_false (λx=>h x.1)]
theorem say_succ (s:ByteArray) (i k:Nat):say s i (k+1)=say s i k * 10+(bt s (i+k) - 48):=rfl
def pcN (s:ByteArray) (p:Nat):Int:=if dv s p<=1000000000000000000 then dv s p else 0
def pcI (s:ByteArray) (p:Nat):Int:=if dv s p<=1000000000000000000 then ((p+dk s p:Nat):Int) else 0
theorem pc_over {s:ByteArray} {p j:Nat} (hj:j<=dk s p) (h:1000000000000000000<say s p j):pcN s p=0/\pcI s p=0/\dB s p=false:=by
 have:=zHb (s:=s) (i:=p) (dk s p - j) j (by rw [show j+(dk s p - j)=dk s p by omega];exact dk_all s p);rw [show j+(dk s p - j)=dk s p by omega] at this;have hv:¬ dv s p<=1000000000000000000:=by unfold dv;omega
 exact ⟨if_neg hv,if_neg hv,over_before hj h⟩
theorem pc_in {s:ByteArray} {p q:Nat} (hq:p<=q) (e:dk s p=q - p) (hb:say s p (q - p)<=1000000000000000000):pcN s p=say s p (q - p)/\pcI s p=(q:Int)/\dB s p=decide (p<q):=by
 obtain ⟨h1,h2⟩:=dB_stop e hb;have hv:dv s p<=1000000000000000000:=by rw [h1];exact hb
 refine ⟨by unfold pcN;rw [if_pos hv,h1],by unfold pcI;rw [if_pos hv,e];omega,?_⟩;rw [h2];by_cases h:p<q
 ·rw [decide_eq_true h,decide_eq_true (by omega)]
 ·rw [decide_eq_false h,decide_eq_false (by omega)]
end Go.Proofs.YtdghjlmnlodnlaaGreatDoor.Wnum
