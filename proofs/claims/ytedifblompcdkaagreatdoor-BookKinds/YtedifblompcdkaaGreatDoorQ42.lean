/- BNew, BAblP, PWalkI, KUsP, KOfP. -/
import Derived.Test.YtedifblompcdkaaGreatDoorQ41
set_option maxHeartbeats 4000000
set_option maxRecDepth 100000
set_option linter.unusedVariables false
namespace Go.Proofs.YtedifblompcdkaaGreatDoor
open Tryz
open Go.RowKit Wf
variable {w w':World} {ts r:List Wlx.TV} {F A:List Wpl.Ar} {v:Value} {b B f n k mb:Nat} {en:Int} {ops:Array Oper} {rest:List Oper} {a:Act} {Q:Exit->Act->World->Prop}
abbrev sS:ByteArray:=⟨#[83]⟩
abbrev sT:ByteArray:=⟨#[84]⟩
theorem zRM:Wt.check [ndS sS]=0:=by decide +kernel
theorem zR6:Wt.check [ndS sT]=0:=by decide +kernel
theorem zQw:¬ sS=⟨#[]⟩:=by
 intro h;have:=congrArg (λb=>b.data) h;simp at this
theorem zRO:¬ sT=⟨#[]⟩:=by
 intro h;have:=congrArg (λb=>b.data) h;simp at this
theorem sTS:¬ sT=sS:=by
 intro h;have:=congrArg (λb=>b.data) h;simp at this
theorem zMf {L:List ByteArray} (h:w.ownsRow B 9 1 v L.length (L.map Value.string)):∃ av cap,v=.slice av L.length cap/\L.length<=cap/\RdS w av L/\∀ g o,av=some ⟨g,o,none⟩->B<=g/\g<w.heap.size:=by
 have hb:=λg=>zAL (g:=g) h
 rcases h.2 with ⟨e,h0⟩ | ⟨g,cap,cur,e,hbg,hg,h1,h2,h3,h4⟩
 ·subst e;refine ⟨none,0,by rw [h0],by omega,λi hi=>by omega,λg o e=>by cases e⟩
 ·subst e;refine ⟨_,cap,rfl,h1,λi hi=>⟨g,0,rfl,?_⟩,λg' o e=>?_⟩
  ·have hc:=h.cells (g:=g) rfl i (.string (L[i])) (by rw [List.getElem?_map,List.getElem?_eq_getElem hi];rfl);rwa [show (⟨g,0,none⟩:Addr).add i=⟨g,0+i,none⟩ from by simp [Addr.add];try (intro h;omega)] at hc
  ·simp only [Option.some.injEq,Addr.mk.injEq] at e;rw [<-e.1];exact hb g rfl
def zRZ (w:World) (e:Ending) (w':World):Prop :=
 ∃ bb mb na nk,e=.returned (.tuple #[.pointer (some ⟨bb,0,none⟩),.int .i64 0])/\BK w' bb mb w'.heap.size na nk [sS,sT] 0 []/\Below w.heap.size w w'/\w.heap.size<=bb/\w.heap.size<=mb
theorem zND (k:Nat) (w:World) (hO:OpsAt w) (h:w.ownsRow 0 9 1 (.slice (some ⟨k,0,none⟩) 2 2) 2 [.string sS,.string sT]) :
  Calls prog 13 #[.slice (some ⟨k,0,none⟩) 2 2] w (zRZ w):=by
 have HO:Hid (OpsAt w):=hO;have HK:Hid (w.ownsRow 0 9 1 (.slice (some ⟨k,0,none⟩) 2 2) 2 [.string sS,.string sT]):=h;clear hO h;go_enter func13,ntmps13;go_upto_region 6 with fail
 go_loopg [14] 2 (λgk x wr=>∃ i:Int,x=.int .i64 i/\(i=0/\gk=2 \/ i=1/\gk=1 \/ i=2/\gk=0)/\Hid (Below w.heap.size w wr))
 case atStart=>exact ⟨0,rfl,Or.inl ⟨rfl,rfl⟩,Below.refl _ _⟩
 case round =>
  obtain ⟨i,rfl,hi,HB⟩:=hrel;generalize hw9:wr=W at *;clear hw9;have hkW:W.ownsRow 0 9 1 (.slice (some ⟨k,0,none⟩) 2 2) 2 [.string sS,.string sT]:=zAZ (Fr.of_below [] HB.out) HK.out (by simp);have k0:W.cell? ⟨k,0,none⟩=some (.string sS):=by
   have:=hkW.cells (g:=k) rfl 0 _ rfl;rwa [show (⟨k,0,none⟩:Addr).add 0=⟨k,0,none⟩ from rfl] at this
  have k1:W.cell? ⟨k,1,none⟩=some (.string sT):=by
   have:=hkW.cells (g:=k) rfl 1 _ rfl;rwa [show (⟨k,0,none⟩:Addr).add 1=⟨k,1,none⟩ from by simp [Addr.add]] at this
  rcases hi with ⟨rfl,rfl⟩ | ⟨rfl,rfl⟩ | ⟨rfl,rfl⟩
  ·have NM:=zDa sS W (HO.out.below HB.out) zQw (by decide) zRM;go_wp2_with fail
   refine NM.mono ?_;rintro e w1 ⟨rfl,hb1⟩;have HB1:Hid (Below w.heap.size w w1):=zAA HB.out hb1;have CN:=zDk [] sS (some ⟨k,0,none⟩) 0 2 w1 (λi hi=>by simp at hi) rfl (λ_=>by omega);rw [show decide (ixS sS [] 0 ≥ 0)=false from by decide] at CN;clear NM hb1 k0 k1;go_wp2_with fail
   refine CN.mono ?_;rintro e w2 ⟨rfl,rfl⟩;clear CN;go_wp2_with fail
   go_roundg 1
   case rel=>exact ⟨1,by simp,Or.inr (Or.inl ⟨rfl,rfl⟩),HB1⟩
   case measure=>omega
  ·have NM:=zDa sT W (HO.out.below HB.out) zRO (by decide) zR6;go_wp2_with fail
   refine NM.mono ?_;rintro e w1 ⟨rfl,hb1⟩;have HB1:Hid (Below w.heap.size w w1):=zAA HB.out hb1;have CN:=zDk [sS] sT (some ⟨k,0,none⟩) 1 2 w1 (λi hi=>by
    have:i=0:=by simpa using hi
    subst this;exact ⟨k,0,rfl,zAC hb1 k0⟩) rfl (λ_=>by omega)
   rw [show decide (ixS sT [sS] 0 ≥ 0)=false from by unfold ixS;rw [if_neg sTS];decide] at CN;clear NM hb1 k0 k1;go_wp2_with fail
   refine CN.mono ?_;rintro e w2 ⟨rfl,rfl⟩;clear CN;go_wp2_with fail
   go_roundg 0
   case rel=>exact ⟨2,by simp,Or.inr (Or.inr ⟨rfl,rfl⟩),HB1⟩
   case measure=>omega
  ·have CL:=zPf (.slice (some ⟨k,0,none⟩) 2 2) 2 [.string sS,.string sT] 0 W hkW (λu hu=>by simp at hu;rcases hu with rfl | rfl <;> rfl) (λ_=>by omega);clear k0 k1 hkW;go_wp2_with fail
   refine CL.mono ?_;rintro e w1 ⟨⟨v,rfl,ov⟩,hb1⟩;obtain ⟨na,nk,rfl,hcap,hrs,hna⟩:=zMf (L:=[sS,sT]) ov;have mm:=zMv w1;have hb2:=zAH (Below.refl _ w1) (.map #[] 0);have hb3:=zAH hb2 (.cells #[.slice na 2 nk,.int .i64 0,.map (some w1.heap.size)] 57);have q3:=AtL.new1 w1 (.map #[] 0) 57 [.slice na 2 nk,.int .i64 0,.map (some w1.heap.size)];have m3:=(zNC w1).below (zAH (Below.refl _ _) (.cells #[.slice na 2 nk,.int .i64 0,.map (some w1.heap.size)] 57));have HE:Hid (zRZ w (.returned (.tuple #[.pointer (some ⟨w1.heap.size+1,0,none⟩),.int .i64 0])) ((w1.alloc (.map #[] 0)).alloc (.cells #[.slice na 2 nk,.int .i64 0,.map (some w1.heap.size)] 57))):=by
    have hs:=HB.out.size;have hs1:=hb1.size;refine ⟨_,w1.heap.size,na,nk,rfl,⟨q3,RdS.below hrs hb3,hcap,λg o e=>?_,⟨[],m3,trivial⟩,⟨by simp,by simp;omega,Nat.le_refl _⟩,by omega⟩,zAA (zAA HB.out hb1) hb3,by omega,by omega⟩;have:=(hna g o e).2;omega
   clear CL hb1 hb2 hb3 q3 m3 hrs hna ov hcap;go_wp2;go_ret2
   exact HE.out
def zRN:List Wlx.Tok:=[⟨3,[83],0⟩,⟨5,[33],1⟩,⟨3,[65,49],2⟩]
theorem zP7:zA7 [83,33,65,49]=Wlx.Res.ok zRN:=by
 unfold zA7;rw [if_neg (by decide)];rw [Wlx.scan_tok (k:=3) (n:=1) (by decide) (by decide) (by decide) (by decide) (by decide)];show Wlx.Res.cons _ (Wlx.scan 1 [33,65,49])=_
 rw [Wlx.scan_tok (k:=5) (n:=1) (by decide) (by decide) (by decide) (by decide) (by decide)];show Wlx.Res.cons _ (Wlx.Res.cons _ (Wlx.scan 2 [65,49]))=_
 rw [Wlx.scan_tok (k:=3) (n:=2) (by decide) (by decide) (by decide) (by decide) (by decide)];show Wlx.Res.cons _ (Wlx.Res.cons _ (Wlx.Res.cons _ (Wlx.scan 4 [])))=_
 rw [Wlx.scan_nil];rfl
theorem zRx:Lib.decDigits 1=[49]:=by rw [Lib.decDigits_one (by decide)];rfl
theorem zSB:zNr [65,49]=Wt.r0:=by
 unfold zNr Wt.r0;have h1:Wpl.rdR (zC9 [65,49])=0:=by decide
 have h2:Wpl.rdC (zC9 [65,49])=0:=by decide
 rw [h1,h2];rfl
theorem zR8:cw Wt.r0=[65,49]:=by
 unfold cw;show fx false++Wpl.colS 0++fx false++Lib.decDigits 1=_
 rw [zRx];decide
theorem zRa:rw1 [65,49]=some Wt.r0:=by
 unfold rw1;rw [if_pos (by decide),zSB,zR8,if_pos rfl]
def b1:Wlx.TV:=⟨3,[83],0⟩
def b2:Wlx.TV:=⟨5,[33],1⟩
def b3:Wlx.TV:=⟨3,[65,49],2⟩
theorem zRB {sub:List Wlx.TV->PR} {k:Int} {row:List Wt.Nd} (h:zBk k ts=none):more sub k n row ts=.inl (row,ts):=by cases n with
 | zero=>rfl
 | succ n=>simp only [more,h]
theorem zRv {row:List Wt.Nd} (h:zBk 6 ts=none):pct n row ts=.inl (row,ts):=by cases n with
 | zero=>rfl
 | succ n=>simp only [pct,h]
theorem upB {row:List Wt.Nd} (hk:k<5) (h:lv en f (k+1) ts=.inl (row,r)) (hn:zBk k r=none):lv en (f+1) k ts=.inl (row,r):=by
 rw [zN7 _ _ _ hk];unfold pbt;rw [h];exact zRB hn
theorem zRw {row:List Wt.Nd} (h:lv en f 7 ts=.inl (row,r)) (hn:zBk 6 r=none):lv en (f+1) 6 ts=.inl (row,r):=by
 rw [zPG];unfold ppc;rw [h];exact zRv hn
theorem zRq {q:PR} (hn:zBk 5 ts=none) (h:lv en f 6 ts=q):lv en (f+1) 5 ts=q:=by
 rw [zOi];unfold psg;rw [hn];exact h
theorem lvB (f:Nat):lv 4 (f+8) 0 [b1,b2,b3]=.inl ([ndS sS],[]):=by
 refine upB (by decide) (upB (by decide) (upB (by decide) (upB (by decide) (upB (by decide) (zRq (by decide) (zRw ?_ (by decide))) (by decide)) (by decide)) (by decide)) (by decide)) (by decide);rw [zOM];unfold psi;rw [if_pos (by decide)];unfold zCq;rw [if_neg (by decide),if_pos (by decide),if_pos (by decide +kernel)];unfold pcs pc;rw [if_pos (by decide),if_neg (by decide),if_neg (by decide)];rw [show (hd (List.drop 2 [b1,b2,b3]) 4).t=[65,49] from rfl,zRa];rfl
theorem zQq:zIO [83,33,65,49]=.inl [ndS sS]:=by
 unfold zIO;rw [zP7];show zLD 4 [b1,b2,b3]=_
 unfold zLD;show (match zJQ (lv 4 39 0) 4 [b1,b2,b3] with | .inr e=>_ | .inl (row,_)=>_)=_
 unfold zJQ;rw [lvB 31];simp only;rw [if_pos zRM]
def bTr:Tr 1:=(⟨ndS sS,[]⟩:Br (Tr 0))
theorem zNi:row 1 bTr=[ndS sS]:=rfl
theorem zMb:zDT 1 bTr:=⟨by kernel_rfl,by kernel_rfl,λk hk=>by cases hk⟩
theorem zQl:flE 1 0 0 [sS,sT] 1 bTr=0:=by kernel_rfl
theorem zQe:flC 1 [sS,sT] 1 bTr=[ins 2 0 0,ins 16 0 0]:=by kernel_rfl
theorem zQU:zPJ [sS,sT] ⟨1,0,0⟩ [ndS sS] 0 [ins 2 0 0,ins 16 0 0]:=λw B v na nk hN hO hv hr hk=>by
 obtain ⟨g,cap,rfl,hrd,hcap⟩:=zJN hv (by simp);have:=zGh 1 bTr g 0 cap [ndS sS] 1 0 0 na [sS,sT] 2 nk w (λx hx=>by simp at hx;subst hx;exact ⟨zNL,by show (0:Nat)<=_;omega,by show (1:Nat)<=_;omega,by show (0:Nat)<=_;omega⟩) hO hN hrd hr zRM zNi zMb (by simp) hcap 1 rfl rfl hk (by simp) (by omega);rw [zQl,zQe] at this;exact this
abbrev tF:ByteArray:=⟨#[61,83,33,65,49]⟩
abbrev t2B:ByteArray:=⟨#[50]⟩
theorem zQ1:zE0 [sS,sT] ⟨1,0,0⟩ tF (.inl [ins 2 0 0,ins 16 0 0]):=zFJ [sS,sT] ⟨1,0,0⟩ [83,33,65,49] tF rfl (by decide) (by decide) [ndS sS] zQq 0 _ zQU rfl
theorem zNf:zE0 [sS,sT] ⟨0,0,0⟩ t2B (.inl []):=zGb [sS,sT] ⟨0,0,0⟩ t2B (by decide) (by decide) (by decide)
open Go.RowKit
theorem zHQ (s r c:Int):Wpl.hullOk (λ_=>⟨s,r,c⟩) 1=Wpl.rightC s r c:=by
 simp [Wpl.hullOk,Wpl.anyN,Wpl.lacks]
def zF2 (s r c:Int):Wpl.Ar:=if Wpl.rightC s r c then ⟨s,r,c,r,c⟩ else Wpl.nullA
theorem zOo (s r c:Int):Wpl.hullV (λ_=>⟨s,r,c⟩) 1=zF2 s r c:=by
 unfold Wpl.hullV zF2;rw [zHQ];rfl
theorem zKV {W:World} {s r c:Int} (h:AtL W k [.int .i64 s,.int .i64 r,.int .i64 c]):Cells W k 0 1 (λ_=>⟨s,r,c⟩):=λj hj=>by
 obtain rfl:j=0:=by omega
 exact ⟨h.2.1 0 _ rfl,h.2.1 1 _ rfl,h.2.1 2 _ rfl⟩
theorem zHq (s r c:Int) (w:World) :
  CR 69 #[.agg #[.int .i64 s,.int .i64 r,.int .i64 c]] w (.tuple #[.agg #[.int .i64 (zF2 s r c).s,.int .i64 (zF2 s r c).t,.int .i64 (zF2 s r c).l,.int .i64 (zF2 s r c).b,.int .i64 (zF2 s r c).r],.bool (Wpl.rightC s r c)]):=by
 have HL:=λ(k:Nat) (w:World) (hk:AtL w k [.int .i64 s,.int .i64 r,.int .i64 c])=>zHU k 0 1 1 (λ_=>⟨s,r,c⟩) w (by omega) (by omega) (by omega) (by omega) hk.lt (zKV hk)
 simp only [zHQ,zOo] at HL;generalize zF2 s r c=V at *;generalize Wpl.rightC s r c=ok at *;obtain ⟨v0,v1,v2,v3,v4⟩:=V;go_enter func69,ntmps69;go_wp2_with fail
 refine (HL _ _ (by with_reducible first | exact AtL.new0 _ _ _ | exact AtL.new1 _ _ _ _ | exact AtL.new ((w.alloc _).alloc _) _ (by simp only [World.size_alloc]) _)).mono ?_;rintro e w1 ⟨rfl,hb1⟩;have pR:AtL w1 (w.heap.size+1) [.int .i64 0,.int .i64 0,.int .i64 0,.int .i64 0,.int .i64 0]:=AtL.below hb1 ((AtL.new1 w _ _ _).alloc _);have hB:Below w.heap.size w w1:=clA
 clear hb1;obtain ⟨r0,r1,r2,r3,r4,f0,f1,f2,f3,f4⟩:=pR.five;go_wp2;refine bodyPost_ret (v:=.tuple #[.agg #[.int .i64 v0,.int .i64 v1,.int .i64 v2,.int .i64 v3,.int .i64 v4],.bool ok]) (by simp [results,results69,go_sem,r0,r1,r2,r3,r4]) rfl ⟨rfl,?_⟩;exact zBb hB (by omega) _ _ _ _ _
open Go.ChangeMaps (setBlock heap_setBlock_same heap_setBlock_other)
open Go.ChangeShapes Go.WideShapes Go.MapKept
abbrev zBY (x:Wpl.Ar):List Value:=[.int .i64 x.s,.int .i64 x.t,.int .i64 x.l,.int .i64 x.b,.int .i64 x.r]
abbrev arV (x:Wpl.Ar):Value:=.agg #[.int .i64 x.s,.int .i64 x.t,.int .i64 x.l,.int .i64 x.b,.int .i64 x.r]
def rdA (x:Wc.In):List Wpl.Ar:=if x.op=2 then [zF2 x.ce.s x.ce.r x.ce.c] else if x.op=8 \/ x.op=11 then [x.ar] else if x.op=9 then [x.ar,x.pr] else []
def ddA (out:List Wpl.Ar):List Wpl.Ar->List Wpl.Ar
 | []=>out
 | a::r=>if out.any (λy=>zCF y a)=true then ddA out r else ddA (out++[a]) r
theorem zOt (A C:List Wpl.Ar):∀ (out:List Wpl.Ar),ddA out (A++C)=ddA (ddA out A) C:=by
 induction A with
 | nil=>intro out;rfl
 | cons a r ih =>
  intro out;simp only [List.cons_append,ddA];split
  ·exact ih _
  ·exact ih _
theorem zGC:∀ (A out:List Wpl.Ar),(ddA out A).length<=out.length+A.length
 | [],out=>Nat.le_refl _
 | a::r,out=>by
  simp only [ddA];split
  ·have:=zGC r out;simp;omega
  ·have:=zGC r (out++[a]);simp at this ⊢;omega
def zEI (L:List (Wc.In × List Int)):List Wpl.Ar:=L.flatMap λx=>rdA x.1
theorem zKJ (x:Wc.In):(rdA x).length<=2:=by
 unfold rdA;repeat' split
 all_goals simp
theorem zGo:∀ (L:List (Wc.In × List Int)),(zEI L).length<=2 * L.length
 | []=>Nat.le_refl _
 | x::r=>by
  have h1:=zGo r;have h2:=zKJ x.1;unfold zEI at h1 ⊢;simp only [List.flatMap_cons,List.length_append,List.length_cons];omega
theorem zJa {L:List (Wc.In × List Int)} {i:Nat} (h:i<L.length):zEI (L.take (i+1))=zEI (L.take i)++rdA (L[i]).1:=by
 unfold zEI;rw [List.take_succ_eq_append_getElem h,List.flatMap_append];simp
def zIM:Nat->List Wpl.Ar->List MapEntry
 | _,[]=>[]
 | i,x::r=>⟨arV x,.agg #[],i⟩::zIM (i+1) r
theorem zHG:∀ (F:List Wpl.Ar) (i:Nat) (x:Wpl.Ar),zIM i (F++[x])=zIM i F++[⟨arV x,.agg #[],i+F.length⟩]
 | [],i,x=>rfl
 | y::r,i,x=>by
  show _::zIM (i+1) (r++[x])=_::(zIM (i+1) r++_)
  rw [zHG r (i+1) x];have e:i+1+r.length=i+(r.length+1):=by omega
  rw [e];rfl
def AM (w:World) (b:Nat) (F:List Wpl.Ar):Prop:=∃ es:Array MapEntry,w.heap[b]? = some (.map es F.length)/\es.toList=zIM 0 F
theorem AM.lt (h:AM w b F):b<w.heap.size:=by
 obtain ⟨es,h,_⟩:=h;rcases Nat.lt_or_ge b w.heap.size with g | g
 ·exact g
 ·rw [Array.getElem?_eq_none g] at h;cases h
theorem AM.fr {S:List Nat} (h:AM w b F) (hf:Fr S w w') (hn:b ∉ S):AM w' b F:=by
 have hlt:=h.lt;obtain ⟨es,h1,h2⟩:=h;exact ⟨es,by rw [hf.block b hlt hn];exact h1,h2⟩
theorem AM.below (h:AM w b F) (hb:Below w.heap.size w w'):AM w' b F:=h.fr (Fr.of_below [] hb) (by simp)
theorem zQy (em:Bool) (x:Wpl.Ar) (w:World):(Instr.checkKey em 10000 64 (arV x)).run prog w=.ok () w:=by kernel_rfl
theorem zOy (x y:Wpl.Ar) (w:World):(Op.equal 64 (arV x) (arV y)).run prog w=.ok (zCF x y) w:=by
 show (Op.equalIn (9998+2) 64 _ _).run _ _=_
 unfold zCF;by_cases h1:x.s=y.s
 ·by_cases h2:x.t=y.t
  ·by_cases h3:x.l=y.l
   ·by_cases h4:x.b=y.b
    ·by_cases h5:x.r=y.r
     ·simp [go_sem,h1,h2,h3,h4,h5]
     ·simp [go_sem,h1,h2,h3,h4,h5]
    ·simp [go_sem,h1,h2,h3,h4]
   ·simp [go_sem,h1,h2,h3]
  ·simp [go_sem,h1,h2]
 ·simp [go_sem,h1]
theorem zKL (x y:Wpl.Ar):zCF x y=zCF y x:=by
 rw [Bool.eq_iff_iff,zHE,zHE];exact ⟨λh=>h.symm,λh=>h.symm⟩
theorem zPP (x:Wpl.Ar) (w:World):∀ (F:List Wpl.Ar) (i:Nat),(Instr.findAsking 64 (arV x) (zIM i F) i).run prog w=.ok ((F.findIdx? (λy=>zCF y x)).map λk=>(i+k,Value.agg #[])) w
 | [],i=>rfl
 | y::r,i=>by
  have h:=zPP x w r (i+1);have e:=zOy x y w;rw [zKL] at e;unfold zIM;rw [List.findIdx?_cons];cases hq:zCF y x with
  | true =>
   rw [hq] at e;simp [Instr.findAsking,e,Result.andThen]
  | false =>
   rw [hq] at e;simp [Instr.findAsking,e,Result.andThen,h];cases r.findIdx? (λy=>zCF y x) with
   | none=>rfl
   | some k =>
    simp;omega
theorem zQt (x:Wpl.Ar) (F:List Wpl.Ar) (w:World):(Instr.findKey 64 (arV x) (zIM 0 F)).run prog w=.ok ((F.findIdx? (λy=>zCF y x)).map λk=>(k,Value.agg #[])) w:=by
 have h:=zPP x w F 0;cases F with
 | nil=>simp [Instr.findKey,go_sem,zIM,Instr.findNow]
 | cons y r =>
  simp [Instr.findKey,go_sem,zIM,Instr.findNow,Instr.sameNow];simpa [zIM] using h
theorem zOC:prog.underlying 95=some (.map 64 97):=by kernel_rfl
theorem zDx (F:List Wpl.Ar) (x:Wpl.Ar):F.findIdx? (λy=>zCF y x)=none ↔ F.any (λy=>zCF y x)=false:=by
 rw [List.findIdx?_eq_none_iff,List.any_eq_false];exact ⟨λh y hy=>by simp [h y hy],λh y hy=>by simpa using h y hy⟩
theorem zRE (h:AM w mb F) (x:Wpl.Ar):(Instr.lookup 95 (.map (some mb)) (arV x) true).run prog w=.ok (.tuple #[.agg #[],.bool (F.any (λy=>zCF y x))]) w:=by
 obtain ⟨es,h1,h2⟩:=h;cases hk:F.findIdx? (λy=>zCF y x) with
 | none =>
  rw [(zDx F x).1 hk];refine zJc zOC h1 (zQy _ _ _) ?_ (by kernel_rfl);rw [h2,zQt,hk];rfl
 | some k =>
  have:F.any (λy=>zCF y x)=true:=by
   cases q:F.any (λy=>zCF y x) with
   | true=>rfl
   | false=>rw [(zDx F x).2 q] at hk;cases hk
  rw [this];refine zMc (j:=k) zOC h1 (zQy _ _ _) ?_;rw [h2,zQt,hk];rfl
theorem zRJ (h:AM w mb F) {x:Wpl.Ar} (hk:F.any (λy=>zCF y x)=false):∃ w',(Instr.mapUpdate 95 (.map (some mb)) (arV x) (.agg #[])).run prog w=.ok () w'/\AM w' mb (F++[x])/\w.grownBy w' (some mb):=by
 obtain ⟨es,h1,h2⟩:=h;refine ⟨_,zOf zOC h1 _ (zQy _ _ _) (by rw [h2,zQt,(zDx F x).2 hk];rfl),⟨es.push ⟨arV x,.agg #[],F.length⟩,?_,?_⟩,zE7 h1 _⟩
 ·rw [heap_setBlock_same h1,List.length_append];rfl
 ·rw [Array.toList_push,h2,zHG];simp
theorem zFC {op:Oper} (hgd:op.guard=none) (m x v:Operand) (ho:op.op=.mapUpdate 95 m x v) (b:Nat) (hm:a.eval m=.map (some b)) (y:Wpl.Ar) (hx:a.eval x=arV y) (hv:a.eval v=.agg #[])
  (F:List Wpl.Ar) (hb:AM w b F) (hk:F.any (λz=>zCF z y)=false) (h:∀ w',AM w' b (F++[y])->w.grownBy w' (some b)->wpList prog ops Q rest (a.put op.dst (.tuple #[])) w'):wpList prog ops Q (op::rest) a w:=by
 obtain ⟨w',e,hA,hg⟩:=zRJ hb hk;refine wpList_plain hgd λK hK=>?_
 unfold Oper.wp execOp;simp only [ho,hm,hx,hv,Sem.run_bind,Sem.run_pure,Result.andThen_ok,e];exact hK _ _ (h w' hA hg)
def zBU:List Wpl.Ar->List Value
 | []=>[]
 | x::r=>zBY x++zBU r
theorem zEj:∀ A:List Wpl.Ar,(zBU A).length=A.length * 5
 | []=>rfl
 | x::r=>by simp [zBU,zEj r];omega
theorem zEp:∀ (A C:List Wpl.Ar),zBU (A++C)=zBU A++zBU C
 | [],C=>rfl
 | x::r,C=>by simp [zBU,zEp r C]
theorem zEw:∀ (A:List Wpl.Ar),∀ v ∈ zBU A,v.oneCell'=true
 | [],v,h=>by cases h
 | x::r,v,h=>by
  simp only [zBU,zBY,List.mem_append,List.mem_cons,List.not_mem_nil,or_false] at h;rcases h with (rfl | rfl | rfl | rfl | rfl) | h
  ·rfl
  ·rfl
  ·rfl
  ·rfl
  ·rfl
  ·exact zEw r v h
theorem zE2:∀ (A:List Wpl.Ar) (i j:Nat) (h:i<A.length),j<5->(zBU A)[i * 5+j]? = (zBY (A[i]))[j]?
 | x::r,0,j,_,hj=>by
  show (zBY x++zBU r)[0 * 5+j]? = _
  rw [List.getElem?_append_left (by simp;omega)];simp
 | x::r,i+1,j,h,hj=>by
  have ih:=zE2 r i j (by simpa using h) hj;show (zBY x++zBU r)[(i+1) * 5+j]? = _
  rw [List.getElem?_append_right (by simp;omega)];have e:(i+1) * 5+j - (zBY x).length=i * 5+j:=by simp;omega
  rw [e,ih];rfl
def OwnA (w:World) (B:Nat) (v:Value) (A:List Wpl.Ar):Prop:=w.ownsRow B 64 5 v A.length (zBU A)
theorem OwnA.nil (w:World) (B:Nat):OwnA w B (.slice none 0 0) []:=⟨rfl,Or.inl ⟨rfl,rfl⟩⟩
theorem OwnA.blk (h:OwnA w B v A) {g:Nat} (e:v.ownBlock=some g):B<=g/\g<w.heap.size:=zAL h e
theorem OwnA.below (h:OwnA w B v A) (hb:Below w.heap.size w w'):OwnA w' B v A:=zAZ (Fr.of_below [] hb) h (by simp)
def RdA (w:World) (v:Value) (A:List Wpl.Ar):Prop:=∃ av cap,v=.slice av A.length cap/\∀ i (h:i<A.length),∃ bb off,av=some ⟨bb,off,none⟩/\w.rangeAt bb (off+i * 5) (zBY (A[i]))
theorem RdA.below (h:RdA w v A) (hb:Below w.heap.size w w'):RdA w' v A:=by
 obtain ⟨av,cap,e,h⟩:=h;refine ⟨av,cap,e,λi hi=>?_⟩;obtain ⟨bb,off,e1,h1⟩:=h i hi;exact ⟨bb,off,e1,λj v hv=>zAC hb (h1 j v hv)⟩
theorem RdA.nil (w:World):RdA w (.slice none 0 0) []:=⟨none,0,rfl,λi hi=>absurd hi (Nat.not_lt_zero _)⟩
theorem RdA.at0 {cap:Nat} (h:∀ j u,(zBU A)[j]? = some u->w.cell? ⟨b,j,none⟩=some u):RdA w (.slice (some ⟨b,0,none⟩) A.length cap) A:=by
 refine ⟨_,_,rfl,λi hi=>⟨b,0,rfl,λj u hu=>?_⟩⟩;have hj:j<5:=by
  rcases Nat.lt_or_ge j 5 with q | q
  ·exact q
  ·rw [List.getElem?_eq_none (by simpa using q)] at hu;cases hu
 rw [Nat.zero_add];exact h _ _ (by rw [zE2 A i j hi hj];exact hu)
theorem zJG:(prog.info? 64).map (λi=>(i.zero,i.size,i.bytes))=some (some (.agg #[.int .i64 0,.int .i64 0,.int .i64 0,.int .i64 0,.int .i64 0]),5,40):=by kernel_rfl
theorem zEv {ops:Array Oper} {rest:List Oper} {o:Oper} {a:Act} {Q:Exit->Act->World->Prop} (hgd:o.guard=none) (s x:Operand) (ho:o.op=.call {callee:=.builtin .append,args:=#[s,x],argTypes:=#[40,40]})
  (w:World) (B:Nat) (hB:B<=w.heap.size) (v:Value) (A:List Wpl.Ar) (hs:a.eval s=v) (hown:OwnA w B v A) (g n:Nat) (L:List Wpl.Ar) (hn:n=L.length) (hx:a.eval x=.slice (some ⟨g,0,none⟩) n n) (hat:AtL w g (zBU L)) (hl:A.length+L.length<=4000000)
  (h:∀ v' w',OwnA w' B v' (A++L)->w.grownBy w' v.ownBlock->wpList prog ops Q rest (a.put o.dst v') w'):wpList prog ops Q (o::rest) a w:=by
 subst hn;obtain ⟨i0,hi0,hz0,hz1,hz2⟩:=info_parts zJG;refine wpList_plain hgd λK hK=>?_
 refine wp_append_own _ s x 40 ho B 64 i0 _ 5 40 underlying40 hi0 hz0 hz1 hz2 rfl (by decide) v A.length (zBU A) hs hown ⟨g,0,none⟩ L.length L.length (zBU L) hx (zEj L) (λj u hj=>?_) (zEw L) (by unfold maxLen;omega) (by omega) hB ?_
 ·have:=hat.2.1 j u hj;rw [show (⟨g,0,none⟩:Addr).add j=⟨g,j,none⟩ from by
   simp [Addr.add];try (intro h0;omega)]
  exact this
 ·intro v' w' own hg _;refine hK _ _ (h v' w' ?_ hg);unfold OwnA;rw [List.length_append,zEp];exact own
theorem zAw (i:Nat) (x:Wc.In) (tl:List Int) (M:List (Option (Int × Nat))) (F:List (Nat × Int)):Wc.spI i (x,tl) (M,F)=match M.getD i none with
  | none=>none
  | some (v,m)=>match zG1 F x v m with
   | none=>none
   | some (h2,F2)=>match Wc.handP h2 (onw x.op x.a x.b tl i).1 M with
    | none=>none
    | some M1=>match Wc.handP (v,m) (onw x.op x.a x.b tl i).2 M1 with
     | none=>none
     | some M2=>some (M2,F2):=by
 unfold Wc.spI Wc.stepP zG1;simp only;cases M.getD i none with
 | none=>rfl
 | some q =>
  obtain ⟨v,m⟩:=q;simp only;cases Wc.behF F x.op x.a m with
  | none=>rfl
  | some q =>
   obtain ⟨m2,F2⟩:=q;simp only;split
   ·rfl
   ·rfl
theorem zLq {F:List (Nat × Int)} {o a:Int} {m m2:Nat} {F2:List (Nat × Int)} (h:Wc.behF F o a m=some (m2,F2)):F2.length<=F.length+1:=by
 unfold Wc.behF at h;repeat' split at h
 all_goals first
  | cases h;done
  | (cases h;simp)
theorem zQR {F:List (Nat × Int)} (hr:Wc.Rows F) {o a:Int} {m m2:Nat} {F2:List (Nat × Int)} (hm:m<=F.length) (h:Wc.behF F o a m=some (m2,F2)):Wc.Beh F o a m m2 F2:=by
 cases hb:Wc.bst o (Wc.rw0 F m) with
 | false=>rw [Wc.beh_none hr hm hb] at h;cases h
 | true =>
  obtain ⟨m3,F3,h3,B⟩:=Wc.beh_some (a:=a) hr hm hb;rw [h] at h3;cases h3
  exact B
structure PInv (i:Nat) (M:List (Option (Int × Nat))) (F:List (Nat × Int)):Prop where
 len:F.length<=i
 rows:Wc.Rows F
 zero:M.getD 0 none=some (0,0)
 at':∀ (j:Nat) (v:Int) (m:Nat),M.getD j none=some (v,m)->0<=v/\v<=i/\m<=F.length
theorem zFU {α:Type} (l:List (Option α)) (i j:Nat) (x:Option α):(l.set i x).getD j none=if i=j/\i<l.length then x else l.getD j none:=by
 by_cases hi:i<l.length
 ·rw [Wc.getD_set l i j x hi];by_cases h:i=j
  ·simp [h,h ▸ hi]
  ·simp [h]
 ·rw [List.set_eq_of_length_le (by omega),if_neg (by omega)]
theorem zFN {h:Int × Nat}:∀ (pl:List Int) (M M2:List (Option (Int × Nat))),Wc.handP h pl M=some M2->(∀ j ∈ pl,0<j)->M2.getD 0 none=M.getD 0 none/\∀ (j:Nat) (g:Int × Nat),M2.getD j none=some g->g=h \/ M.getD j none=some g:=by
 intro pl;induction pl with
 | nil =>
  intro M M2 e _;cases e
  exact ⟨rfl,λj g q=>Or.inr q⟩
 | cons p r ih =>
  intro M M2 e hp;have hp0:=hp p (List.mem_cons_self ..);have hr:∀ j ∈ r,0<j:=λj hj=>hp j (List.mem_cons_of_mem _ hj)
  have key:Wc.handP h r (M.set p.toNat (some h))=some M2->M2.getD 0 none=M.getD 0 none/\∀ (j:Nat) (g:Int × Nat),M2.getD j none=some g->g=h \/ M.getD j none=some g:=by
   intro e2;obtain ⟨h1,h2⟩:=ih _ _ e2 hr;refine ⟨by rw [h1,zFU,if_neg (by omega)],λj g q=>?_⟩;rcases h2 j g q with q2 | q2
   ·exact Or.inl q2
   ·rw [zFU] at q2;split at q2
    ·exact Or.inl (by cases q2;rfl)
    ·exact Or.inr q2
  simp only [Wc.handP] at e;split at e
  ·exact key e
  ·split at e
   ·exact key e
   ·cases e
theorem zPm {x:Wc.In} {tl:List Int} (h:rgt x tl=true):0<=(Wc.swO x.op x.b).1/\(Wc.swO x.op x.b).1<=1000/\0<=(Wc.swO x.op x.b).2/\(Wc.swO x.op x.b).2<=1:=by
 by_cases h5:x.op=5
 ·rw [zQs h5,Bool.and_eq_true] at h;have ha:=h.1;unfold apl at ha;simp only [Bool.and_eq_true,decide_eq_true_eq] at ha;have hb:0<=(zAP x.a).l/\(zAP x.a).m<=30:=by
   unfold zAP;split
   ·exact ⟨by decide,by decide⟩
   ·split
    ·unfold zKW;repeat' split
     all_goals exact ⟨by decide,by decide⟩
    ·split
     ·unfold zKo;repeat' split
      all_goals exact ⟨by decide,by decide⟩
     ·unfold zJq;repeat' split
      all_goals exact ⟨by decide,by decide⟩
  have hs:Wc.swO x.op x.b=(x.b,1):=by simp [Wc.swO,h5]
  rw [hs];simp only;omega
 ·by_cases h11:x.op=11
  ·rw [zPV h11,Bool.and_eq_true,Bool.and_eq_true] at h;have hb:=h.1.2;simp only [Bool.or_eq_true,beq_iff_eq] at hb;have hs:Wc.swO x.op x.b=(x.b,1):=by simp [Wc.swO,h11]
   rw [hs];simp only;omega
  ·unfold Wc.swO;rw [if_neg (show ¬ (x.op=5 \/ x.op=11) by omega)];repeat' split
   all_goals exact ⟨by decide,by decide,by decide,by decide⟩
