/- Lemmas. -/
import Derived.Test.YtloponhikiddmaaGreatDoorQ03
set_option maxHeartbeats 4000000
set_option maxRecDepth 100000
set_option linter.unusedVariables false
open Go.RowKit.Below renaming refl->aZ
open List renaming getElem?_eq_getElem->bZ,take_succ_eq_append_getElem->gZ,getElem?_append_left->jZ,take_of_length_le->kZ,getElem?_eq_none->nZ,mem_cons_of_mem->oZ,mem_cons_self->qZ,not_mem_nil->tZ,mem_cons->uZ
open Array renaming getElem?_eq_none->cZ
open Go.Result renaming andThen->dZ
open Go.World renaming cell?_setCell_far->eZ,setCells->fZ,there->hZ,cell?->mZ
open Nat renaming lt_or_ge->iZ,lt_of_lt_of_le->rZ,le_refl->sZ,zero_add->vZ,le_trans->wZ
open Go renaming World->wW,Value->vW
open Go.Value renaming int->O,slice->U,string->V,bool->Y,pointer->pX,agg->gX,tuple->uX
open Go.IntKind renaming i64->J
open Go.Obj renaming cells->Z
open Go.Ending renaming returned->rX
open Go.Operand renaming tmp->mX
namespace Go.Proofs.YtloponhikiddmaaGreatDoor
open Tryz
open Go.RowKit
variable {W w:wW} {ka kb:Nat} {x:Wc.In} {tv:vW}
abbrev sg6 (id c:Int) (nm:ByteArray) (l m:Int) (a:ByteArray):List vW:=[O J id,O J c,V nm,O J l,O J m,V a]
theorem at6 {k:Nat} {a b c d e f:vW} (h:AtL W k [a,b,c,d,e,f]) :
  W.cell? ⟨k,0,none⟩=some a/\W.cell? ⟨k,1,none⟩=some b/\W.cell? ⟨k,2,none⟩=some c/\W.cell? ⟨k,3,none⟩=some d/\W.cell? ⟨k,4,none⟩=some e/\W.cell? ⟨k,5,none⟩=some f/\W.frozen? ⟨k,0,none⟩=false/\W.frozen? ⟨k,1,none⟩=false/\W.frozen? ⟨k,2,none⟩=false/\W.frozen? ⟨k,3,none⟩=false/\W.frozen? ⟨k,4,none⟩=false/\W.frozen? ⟨k,5,none⟩=false :=
 ⟨h.2.1 0 a rfl,h.2.1 1 b rfl,h.2.1 2 c rfl,h.2.1 3 d rfl,h.2.1 4 e rfl,h.2.1 5 f rfl,h.2.2 0 sM,h.2.2 1 sM,h.2.2 2 sM,h.2.2 3 sM,h.2.2 4 sM,h.2.2 5 sM⟩
theorem Q3 (c l m:Int) (a:ByteArray) (w:wW):CR 210 #[O J c,O J l,O J m,V a] w (gX (sg6 0 c ⟨#[]⟩ l m a).toArray):=by
 have d:=QJ (aZ _ w) (Z (sg6 0 0 ⟨#[]⟩ 0 0 ⟨#[]⟩).toArray 243);go_enter func210,ntmps210;go_wp2;refine bodyPost_ret (v:=gX (sg6 0 c ⟨#[]⟩ l m a).toArray) (by simp [results,results210,go_sem]) rfl ⟨rfl,clA⟩
def zFI (id:Int):List vW :=
 if id=30 then sg6 0 3 ⟨#[]⟩ 2 3 ⟨#[118]⟩ else if id=31 then sg6 0 3 ⟨#[]⟩ 2 2 ⟨#[118]⟩ else sg6 0 3 ⟨#[]⟩ 2 30 ⟨#[118]⟩
theorem zI3 (id:Int) (w:wW):CR 212 #[O J id] w (gX (zFI id).toArray):=by
 have m:=AtL.new0 w 243 (sg6 0 0 ⟨#[]⟩ 0 0 ⟨#[]⟩);have l:=QJ (aZ _ w) (Z (sg6 0 0 ⟨#[]⟩ 0 0 ⟨#[]⟩).toArray 243);unfold zFI;by_cases d:id=30
 ·subst d;have g:=λw=>Q3 3 2 3 ⟨#[118]⟩ w
  go_enter func212,ntmps212;go_wp2_with fail
  refine (g _).mono ?_;rintro e t ⟨rfl,a⟩;obtain ⟨i,b1,b2,b3,j,k,n,o,p,q,r,s⟩:=at6 (AtL.below a m);have c:=QA l a;go_wp2;refine bodyPost_ret (v:=gX (sg6 0 3 ⟨#[]⟩ 2 3 ⟨#[118]⟩).toArray) (by simp [results,results212,go_sem,i,b1,b2,b3,j,k]) rfl ⟨rfl,(clB c)⟩
 by_cases f:id=31
 ·subst f;have g:=λw=>Q3 3 2 2 ⟨#[118]⟩ w
  go_enter func212,ntmps212;go_wp2_with fail
  refine (g _).mono ?_;rintro e t ⟨rfl,a⟩;obtain ⟨i,b1,b2,b3,j,k,n,o,p,q,r,s⟩:=at6 (AtL.below a m);have c:=QA l a;go_wp2;refine bodyPost_ret (v:=gX (sg6 0 3 ⟨#[]⟩ 2 2 ⟨#[118]⟩).toArray) (by simp [results,results212,go_sem,i,b1,b2,b3,j,k]) rfl ⟨rfl,(clB c)⟩
 have u:(id == 30)=false:=by simp [d]
 have y:(id == 31)=false:=by simp [f]
 rw [if_neg (by simp [d]),if_neg (by simp [f])];clear d f;have g:=λw=>Q3 3 2 30 ⟨#[118]⟩ w
 go_enter func212,ntmps212;go_wp2_with fail
 refine (g _).mono ?_;rintro e t ⟨rfl,a⟩;obtain ⟨i,b1,b2,b3,j,k,n,o,p,q,r,s⟩:=at6 (AtL.below a m);have c:=QA l a;go_wp2;refine bodyPost_ret (v:=gX (sg6 0 3 ⟨#[]⟩ 2 30 ⟨#[118]⟩).toArray) (by simp [results,results212,go_sem,i,b1,b2,b3,j,k]) rfl ⟨rfl,(clB c)⟩
def zF0 (id:Int):List vW :=
 if id=20 then sg6 0 2 ⟨#[]⟩ 2 2 ⟨#[118,97]⟩ else if id=21 then sg6 0 2 ⟨#[]⟩ 2 2 ⟨#[97,118]⟩ else if id=22 then sg6 0 2 ⟨#[]⟩ 2 3 ⟨#[97,118,97]⟩ else if id=23 then sg6 0 2 ⟨#[]⟩ 3 3 ⟨#[118,97,97]⟩ else if id=24 then sg6 0 2 ⟨#[]⟩ 2 2 ⟨#[97]⟩ else if id=25 then sg6 0 2 ⟨#[]⟩ 2 3 ⟨#[97,118]⟩ else sg6 0 2 ⟨#[]⟩ 1 1 ⟨#[97]⟩
theorem zJS (id:Int) (w:wW):CR 211 #[O J id] w (gX (zF0 id).toArray):=by
 have q:=AtL.new0 w 243 (sg6 0 0 ⟨#[]⟩ 0 0 ⟨#[]⟩);have p:=QJ (aZ _ w) (Z (sg6 0 0 ⟨#[]⟩ 0 0 ⟨#[]⟩).toArray 243);unfold zF0;by_cases j:id=20
 ·subst j;have d:=λw=>Q3 2 2 2 ⟨#[118,97]⟩ w
  go_enter func211,ntmps211;go_wp2_with fail
  refine (d _).mono ?_;rintro e A ⟨rfl,a⟩;obtain ⟨f,b1,b2,b3,g,i,r,s,t,u,y,z⟩:=at6 (AtL.below a q);have c:=QA p a;go_wp2;refine bodyPost_ret (v:=gX (sg6 0 2 ⟨#[]⟩ 2 2 ⟨#[118,97]⟩).toArray) (by simp [results,results211,go_sem,f,b1,b2,b3,g,i]) rfl ⟨rfl,(clB c)⟩
 by_cases k:id=21
 ·subst k;have d:=λw=>Q3 2 2 2 ⟨#[97,118]⟩ w
  go_enter func211,ntmps211;go_wp2_with fail
  refine (d _).mono ?_;rintro e A ⟨rfl,a⟩;obtain ⟨f,b1,b2,b3,g,i,r,s,t,u,y,z⟩:=at6 (AtL.below a q);have c:=QA p a;go_wp2;refine bodyPost_ret (v:=gX (sg6 0 2 ⟨#[]⟩ 2 2 ⟨#[97,118]⟩).toArray) (by simp [results,results211,go_sem,f,b1,b2,b3,g,i]) rfl ⟨rfl,(clB c)⟩
 by_cases l:id=22
 ·subst l;have d:=λw=>Q3 2 2 3 ⟨#[97,118,97]⟩ w
  go_enter func211,ntmps211;go_wp2_with fail
  refine (d _).mono ?_;rintro e A ⟨rfl,a⟩;obtain ⟨f,b1,b2,b3,g,i,r,s,t,u,y,z⟩:=at6 (AtL.below a q);have c:=QA p a;go_wp2;refine bodyPost_ret (v:=gX (sg6 0 2 ⟨#[]⟩ 2 3 ⟨#[97,118,97]⟩).toArray) (by simp [results,results211,go_sem,f,b1,b2,b3,g,i]) rfl ⟨rfl,(clB c)⟩
 by_cases m:id=23
 ·subst m;have d:=λw=>Q3 2 3 3 ⟨#[118,97,97]⟩ w
  go_enter func211,ntmps211;go_wp2_with fail
  refine (d _).mono ?_;rintro e A ⟨rfl,a⟩;obtain ⟨f,b1,b2,b3,g,i,r,s,t,u,y,z⟩:=at6 (AtL.below a q);have c:=QA p a;go_wp2;refine bodyPost_ret (v:=gX (sg6 0 2 ⟨#[]⟩ 3 3 ⟨#[118,97,97]⟩).toArray) (by simp [results,results211,go_sem,f,b1,b2,b3,g,i]) rfl ⟨rfl,(clB c)⟩
 by_cases n:id=24
 ·subst n;have d:=λw=>Q3 2 2 2 ⟨#[97]⟩ w
  go_enter func211,ntmps211;go_wp2_with fail
  refine (d _).mono ?_;rintro e A ⟨rfl,a⟩;obtain ⟨f,b1,b2,b3,g,i,r,s,t,u,y,z⟩:=at6 (AtL.below a q);have c:=QA p a;go_wp2;refine bodyPost_ret (v:=gX (sg6 0 2 ⟨#[]⟩ 2 2 ⟨#[97]⟩).toArray) (by simp [results,results211,go_sem,f,b1,b2,b3,g,i]) rfl ⟨rfl,(clB c)⟩
 by_cases o:id=25
 ·subst o;have d:=λw=>Q3 2 2 3 ⟨#[97,118]⟩ w
  go_enter func211,ntmps211;go_wp2_with fail
  refine (d _).mono ?_;rintro e A ⟨rfl,a⟩;obtain ⟨f,b1,b2,b3,g,i,r,s,t,u,y,z⟩:=at6 (AtL.below a q);have c:=QA p a;go_wp2;refine bodyPost_ret (v:=gX (sg6 0 2 ⟨#[]⟩ 2 3 ⟨#[97,118]⟩).toArray) (by simp [results,results211,go_sem,f,b1,b2,b3,g,i]) rfl ⟨rfl,(clB c)⟩
 have B:(id == 20)=false:=by simp [j]
 have C:(id == 21)=false:=by simp [k]
 have D:(id == 22)=false:=by simp [l]
 have E:(id == 23)=false:=by simp [m]
 have G:(id == 24)=false:=by simp [n]
 have H:(id == 25)=false:=by simp [o]
 rw [if_neg (by simp [j]),if_neg (by simp [k]),if_neg (by simp [l]),if_neg (by simp [m]),if_neg (by simp [n]),if_neg (by simp [o])];clear j k l m n o;have d:=λw=>Q3 2 1 1 ⟨#[97]⟩ w
 go_enter func211,ntmps211;go_wp2_with fail
 refine (d _).mono ?_;rintro e A ⟨rfl,a⟩;obtain ⟨f,b1,b2,b3,g,i,r,s,t,u,y,z⟩:=at6 (AtL.below a q);have c:=QA p a;go_wp2;refine bodyPost_ret (v:=gX (sg6 0 2 ⟨#[]⟩ 1 1 ⟨#[97]⟩).toArray) (by simp [results,results211,go_sem,f,b1,b2,b3,g,i]) rfl ⟨rfl,(clB c)⟩
def zF9 (id:Int):List vW :=
 if id=62 then sg6 0 4 ⟨#[]⟩ 0 0 ⟨#[118]⟩ else if id=43 \/ id=49 \/ id=50 then sg6 0 4 ⟨#[]⟩ 1 2 ⟨#[118]⟩ else if id=44 \/ id=45 \/ id=46 \/ id=52 \/ id=53 then sg6 0 4 ⟨#[]⟩ 2 2 ⟨#[118]⟩ else if id=51 then sg6 0 4 ⟨#[]⟩ 3 3 ⟨#[118]⟩ else sg6 0 4 ⟨#[]⟩ 1 1 ⟨#[118]⟩
theorem zIU (id:Int) (w:wW):CR 213 #[O J id] w (gX (zF9 id).toArray):=by
 have k:=AtL.new0 w 243 (sg6 0 0 ⟨#[]⟩ 0 0 ⟨#[]⟩);have j:=QJ (aZ _ w) (Z (sg6 0 0 ⟨#[]⟩ 0 0 ⟨#[]⟩).toArray 243);unfold zF9;by_cases E:id=62
 ·subst E;have d:=λw=>Q3 4 0 0 ⟨#[118]⟩ w
  go_enter func213,ntmps213;go_wp2_with fail
  refine (d _).mono ?_;rintro e r ⟨rfl,a⟩;obtain ⟨f,b1,b2,b3,g,i,l,m,n,o,p,q⟩:=at6 (AtL.below a k);have c:=QA j a;go_wp2;refine bodyPost_ret (v:=gX (sg6 0 4 ⟨#[]⟩ 0 0 ⟨#[118]⟩).toArray) (by simp [results,results213,go_sem,f,b1,b2,b3,g,i]) rfl ⟨rfl,(clB c)⟩
 by_cases s:id=43
 ·subst s;have d:=λw=>Q3 4 1 2 ⟨#[118]⟩ w
  go_enter func213,ntmps213;go_wp2_with fail
  refine (d _).mono ?_;rintro e r ⟨rfl,a⟩;obtain ⟨f,b1,b2,b3,g,i,l,m,n,o,p,q⟩:=at6 (AtL.below a k);have c:=QA j a;go_wp2;refine bodyPost_ret (v:=gX (sg6 0 4 ⟨#[]⟩ 1 2 ⟨#[118]⟩).toArray) (by simp [results,results213,go_sem,f,b1,b2,b3,g,i]) rfl ⟨rfl,(clB c)⟩
 by_cases z:id=49
 ·subst z;have d:=λw=>Q3 4 1 2 ⟨#[118]⟩ w
  go_enter func213,ntmps213;go_wp2_with fail
  refine (d _).mono ?_;rintro e r ⟨rfl,a⟩;obtain ⟨f,b1,b2,b3,g,i,l,m,n,o,p,q⟩:=at6 (AtL.below a k);have c:=QA j a;go_wp2;refine bodyPost_ret (v:=gX (sg6 0 4 ⟨#[]⟩ 1 2 ⟨#[118]⟩).toArray) (by simp [results,results213,go_sem,f,b1,b2,b3,g,i]) rfl ⟨rfl,(clB c)⟩
 by_cases A:id=50
 ·subst A;have d:=λw=>Q3 4 1 2 ⟨#[118]⟩ w
  go_enter func213,ntmps213;go_wp2_with fail
  refine (d _).mono ?_;rintro e r ⟨rfl,a⟩;obtain ⟨f,b1,b2,b3,g,i,l,m,n,o,p,q⟩:=at6 (AtL.below a k);have c:=QA j a;go_wp2;refine bodyPost_ret (v:=gX (sg6 0 4 ⟨#[]⟩ 1 2 ⟨#[118]⟩).toArray) (by simp [results,results213,go_sem,f,b1,b2,b3,g,i]) rfl ⟨rfl,(clB c)⟩
 by_cases t:id=44
 ·subst t;have d:=λw=>Q3 4 2 2 ⟨#[118]⟩ w
  go_enter func213,ntmps213;go_wp2_with fail
  refine (d _).mono ?_;rintro e r ⟨rfl,a⟩;obtain ⟨f,b1,b2,b3,g,i,l,m,n,o,p,q⟩:=at6 (AtL.below a k);have c:=QA j a;go_wp2;refine bodyPost_ret (v:=gX (sg6 0 4 ⟨#[]⟩ 2 2 ⟨#[118]⟩).toArray) (by simp [results,results213,go_sem,f,b1,b2,b3,g,i]) rfl ⟨rfl,(clB c)⟩
 by_cases u:id=45
 ·subst u;have d:=λw=>Q3 4 2 2 ⟨#[118]⟩ w
  go_enter func213,ntmps213;go_wp2_with fail
  refine (d _).mono ?_;rintro e r ⟨rfl,a⟩;obtain ⟨f,b1,b2,b3,g,i,l,m,n,o,p,q⟩:=at6 (AtL.below a k);have c:=QA j a;go_wp2;refine bodyPost_ret (v:=gX (sg6 0 4 ⟨#[]⟩ 2 2 ⟨#[118]⟩).toArray) (by simp [results,results213,go_sem,f,b1,b2,b3,g,i]) rfl ⟨rfl,(clB c)⟩
 by_cases y:id=46
 ·subst y;have d:=λw=>Q3 4 2 2 ⟨#[118]⟩ w
  go_enter func213,ntmps213;go_wp2_with fail
  refine (d _).mono ?_;rintro e r ⟨rfl,a⟩;obtain ⟨f,b1,b2,b3,g,i,l,m,n,o,p,q⟩:=at6 (AtL.below a k);have c:=QA j a;go_wp2;refine bodyPost_ret (v:=gX (sg6 0 4 ⟨#[]⟩ 2 2 ⟨#[118]⟩).toArray) (by simp [results,results213,go_sem,f,b1,b2,b3,g,i]) rfl ⟨rfl,(clB c)⟩
 by_cases C:id=52
 ·subst C;have d:=λw=>Q3 4 2 2 ⟨#[118]⟩ w
  go_enter func213,ntmps213;go_wp2_with fail
  refine (d _).mono ?_;rintro e r ⟨rfl,a⟩;obtain ⟨f,b1,b2,b3,g,i,l,m,n,o,p,q⟩:=at6 (AtL.below a k);have c:=QA j a;go_wp2;refine bodyPost_ret (v:=gX (sg6 0 4 ⟨#[]⟩ 2 2 ⟨#[118]⟩).toArray) (by simp [results,results213,go_sem,f,b1,b2,b3,g,i]) rfl ⟨rfl,(clB c)⟩
 by_cases D:id=53
 ·subst D;have d:=λw=>Q3 4 2 2 ⟨#[118]⟩ w
  go_enter func213,ntmps213;go_wp2_with fail
  refine (d _).mono ?_;rintro e r ⟨rfl,a⟩;obtain ⟨f,b1,b2,b3,g,i,l,m,n,o,p,q⟩:=at6 (AtL.below a k);have c:=QA j a;go_wp2;refine bodyPost_ret (v:=gX (sg6 0 4 ⟨#[]⟩ 2 2 ⟨#[118]⟩).toArray) (by simp [results,results213,go_sem,f,b1,b2,b3,g,i]) rfl ⟨rfl,(clB c)⟩
 by_cases B:id=51
 ·subst B;have d:=λw=>Q3 4 3 3 ⟨#[118]⟩ w
  go_enter func213,ntmps213;go_wp2_with fail
  refine (d _).mono ?_;rintro e r ⟨rfl,a⟩;obtain ⟨f,b1,b2,b3,g,i,l,m,n,o,p,q⟩:=at6 (AtL.below a k);have c:=QA j a;go_wp2;refine bodyPost_ret (v:=gX (sg6 0 4 ⟨#[]⟩ 3 3 ⟨#[118]⟩).toArray) (by simp [results,results213,go_sem,f,b1,b2,b3,g,i]) rfl ⟨rfl,(clB c)⟩
 have X:(id == 62)=false:=by simp [E]
 have G:(id == 43)=false:=by simp [s]
 have L:(id == 49)=false:=by simp [z]
 have M:(id == 50)=false:=by simp [A]
 have H:(id == 44)=false:=by simp [t]
 have I:(id == 45)=false:=by simp [u]
 have K:(id == 46)=false:=by simp [y]
 have Q:(id == 52)=false:=by simp [C]
 have R:(id == 53)=false:=by simp [D]
 have N:(id == 51)=false:=by simp [B]
 rw [if_neg (by simp [E]),if_neg (by simp [s,z,A]),if_neg (by simp [t,u,y,C,D]),if_neg (by simp [B])];clear E s z A t u y C D B;have d:=λw=>Q3 4 1 1 ⟨#[118]⟩ w
 go_enter func213,ntmps213;go_wp2_with fail
 refine (d _).mono ?_;rintro e r ⟨rfl,a⟩;obtain ⟨f,b1,b2,b3,g,i,l,m,n,o,p,q⟩:=at6 (AtL.below a k);have c:=QA j a;go_wp2;refine bodyPost_ret (v:=gX (sg6 0 4 ⟨#[]⟩ 1 1 ⟨#[118]⟩).toArray) (by simp [results,results213,go_sem,f,b1,b2,b3,g,i]) rfl ⟨rfl,(clB c)⟩
structure Sh where
 c:Int
 l:Int
 m:Int
 p:ByteArray
def sh6 (s:Sh):List vW:=sg6 0 s.c ⟨#[]⟩ s.l s.m s.p
def zJa (id:Int):Sh:=if id=30 then ⟨3,2,3,⟨#[118]⟩⟩ else if id=31 then ⟨3,2,2,⟨#[118]⟩⟩ else ⟨3,2,30,⟨#[118]⟩⟩
def zJP (id:Int):Sh:=if id=20 then ⟨2,2,2,⟨#[118,97]⟩⟩ else if id=21 then ⟨2,2,2,⟨#[97,118]⟩⟩ else if id=22 then ⟨2,2,3,⟨#[97,118,97]⟩⟩ else if id=23 then ⟨2,3,3,⟨#[118,97,97]⟩⟩ else if id=24 then ⟨2,2,2,⟨#[97]⟩⟩ else if id=25 then ⟨2,2,3,⟨#[97,118]⟩⟩ else ⟨2,1,1,⟨#[97]⟩⟩
def zIs (id:Int):Sh:=if id=62 then ⟨4,0,0,⟨#[118]⟩⟩ else if id=43 \/ id=49 \/ id=50 then ⟨4,1,2,⟨#[118]⟩⟩ else if id=44 \/ id=45 \/ id=46 \/ id=52 \/ id=53 then ⟨4,2,2,⟨#[118]⟩⟩ else if id=51 then ⟨4,3,3,⟨#[118]⟩⟩ else ⟨4,1,1,⟨#[118]⟩⟩
def QS (id:Int):Sh:=if id<=15 then ⟨1,1,30,⟨#[120]⟩⟩ else if id<=27 then zJP id else if id<=32 then zJa id else zIs id
theorem zKg (id:Int):zFI id=sh6 (zJa id):=by
 unfold zFI zJa;split
 ·rfl
 ·split <;> rfl
theorem zKB (id:Int):zF0 id=sh6 (zJP id):=by
 unfold zF0 zJP;repeat (split;rfl)
 rfl
theorem zL7 (id:Int):zF9 id=sh6 (zIs id):=by
 unfold zF9 zIs;repeat (split;rfl)
 rfl
theorem zIW (id:Int) (w:wW):CR 192 #[O J id] w (gX (sh6 (QS id)).toArray):=by
 have r:=AtL.new0 w 243 (sg6 0 0 ⟨#[]⟩ 0 0 ⟨#[]⟩);have q:=QJ (aZ _ w) (Z (sg6 0 0 ⟨#[]⟩ 0 0 ⟨#[]⟩).toArray 243);have o:=λw=>Q3 1 1 30 ⟨#[120]⟩ w
 have n:=λw=>zJS id w
 have k:=λw=>zI3 id w
 have j:=λw=>zIU id w
 rw [zKB] at n;rw [zKg] at k;rw [zL7] at j;unfold QS;by_cases D:id<=15
 ·rw [if_pos D];clear n k j;go_enter func192,ntmps192;go_wp2_with fail
  refine (o _).mono ?_;rintro e C ⟨rfl,a⟩;obtain ⟨f,b1,b2,b3,g,i,t,u,y,z,A,B⟩:=at6 (AtL.below a r);have d:=QA q a;go_wp2;refine bodyPost_ret (v:=gX (sg6 0 1 ⟨#[]⟩ 1 30 ⟨#[120]⟩).toArray) (by simp [results,results192,go_sem,f,b1,b2,b3,g,i]) rfl ⟨rfl,(clB d)⟩
 rw [if_neg D];by_cases E:id<=27
 ·rw [if_pos E];clear o k j;generalize zJP id=s at *;unfold sh6 at *;go_enter func192,ntmps192;go_wp2_with fail
  refine (n _).mono ?_;rintro e C ⟨rfl,a⟩;obtain ⟨f,b1,b2,b3,g,i,t,u,y,z,A,B⟩:=at6 (AtL.below a r);have d:=QA q a;go_wp2;refine bodyPost_ret (v:=gX (sg6 0 s.c ⟨#[]⟩ s.l s.m s.p).toArray) (by simp [results,results192,go_sem,f,b1,b2,b3,g,i]) rfl ⟨rfl,(clB d)⟩
 rw [if_neg E];by_cases G:id<=32
 ·rw [if_pos G];clear o n j;generalize zJa id=s at *;unfold sh6 at *;go_enter func192,ntmps192;go_wp2_with fail
  refine (k _).mono ?_;rintro e C ⟨rfl,a⟩;obtain ⟨f,b1,b2,b3,g,i,t,u,y,z,A,B⟩:=at6 (AtL.below a r);have d:=QA q a;go_wp2;refine bodyPost_ret (v:=gX (sg6 0 s.c ⟨#[]⟩ s.l s.m s.p).toArray) (by simp [results,results192,go_sem,f,b1,b2,b3,g,i]) rfl ⟨rfl,(clB d)⟩
 rw [if_neg G];clear o n k;generalize zIs id=s at *;unfold sh6 at *;go_enter func192,ntmps192;go_wp2_with fail
 refine (j _).mono ?_;rintro e C ⟨rfl,a⟩;obtain ⟨f,b1,b2,b3,g,i,t,u,y,z,A,B⟩:=at6 (AtL.below a r);have d:=QA q a;go_wp2;refine bodyPost_ret (v:=gX (sg6 0 s.c ⟨#[]⟩ s.l s.m s.p).toArray) (by simp [results,results192,go_sem,f,b1,b2,b3,g,i]) rfl ⟨rfl,(clB d)⟩
def fnN:List (List UInt8):=[[],[83,85,77],[80,82,79,68,85,67,84],[67,79,85,78,84],[67,79,85,78,84,65],[77,73,78],[77,65,88],[65,86,69,82,65,71,69],[65,78,68],[79,82],[88,79,82],[67,79,78,67,65,84],[83,85,77,83,81],[71,67,68],[70,73,82,83,84],[76,65,83,84],[],[],[],[],[77,65,84,67,72],[67,79,85,78,84,73,70],[83,85,77,73,70],[76,79,79,75,85,80],[83,85,77,80,82,79,68,85,67,84],[73,78,68,69,88],[82,79,87,83],[67,79,76,85,77,78,83],[],[],[73,70],[73,70,69,82,82,79,82],[67,72,79,79,83,69],[],[],[],[],[],[],[],[65,66,83],[83,73,71,78],[73,78,84],[82,79,85,78,68],[77,79,68],[81,85,79,84,73,69,78,84],[80,79,87,69,82],[78,79,84],[76,69,78],[76,69,70,84],[82,73,71,72,84],[77,73,68],[82,69,80,84],[70,73,78,68],[85,80,80,69,82],[76,79,87,69,82],[84,82,73,77],[86,65,76,85,69],[73,83,78,85,77,66,69,82],[73,83,84,69,88,84],[73,83,66,76,65,78,75],[73,83,69,82,82,79,82],[78,65]]
def nmR:List vW:=fnN.map λl=>V ⟨l.toArray⟩
def NmAt (w:wW):Prop:=w.rangeAt 2 0 nmR
theorem NmAt.below {w':wW} (h:NmAt w) (a:bL w w'):NmAt w':=λj v c=>QC a (h j v c)
def VV (id:Int):List UInt8:=fnN.getD id.toNat []
def JM (id:Int):Bool:=decide (0<=id) && (decide (id<63) && !(VV id).isEmpty)
theorem zRT (h:NmAt w):2<w.heap.size:=by
 have a:=h 0 _ rfl;rcases iZ 2 w.heap.size with g | g
 ·exact g
 ·unfold mZ at a;simp only [cZ g] at a;cases a
theorem NmAt.cell (h:NmAt w) {id:Int} (c:0<=id) (d:id<63):w.cell? ⟨2,id.toNat,none⟩=some (V ⟨(VV id).toArray⟩):=by
 have a:id.toNat<fnN.length:=by show id.toNat<63;omega
 have:=h id.toNat (V ⟨(VV id).toArray⟩) (by unfold nmR VV;rw [List.getElem?_map,bZ a,List.getD_eq_getElem?_getD,bZ a];rfl);rw [vZ] at this;exact this
def zero6:List vW:=sg6 0 0 ⟨#[]⟩ 0 0 ⟨#[]⟩
def VA (id:Int):List vW:=if JM id=true then sg6 id (QS id).c ⟨(VV id).toArray⟩ (QS id).l (QS id).m (QS id).p else zero6
theorem zLK (id:Int) (w:wW) (g:NmAt w) (h:id<0):CR 162 #[O J id] w (uX #[gX zero6.toArray,Y false]):=by
 have a:=AtL.new0 w 243 (sg6 0 0 ⟨#[]⟩ 0 0 ⟨#[]⟩);have f:=QJ (aZ _ w) (Z (sg6 0 0 ⟨#[]⟩ 0 0 ⟨#[]⟩).toArray 243);obtain ⟨c,b1,b2,b3,d,e,i,j,k,l,m,n⟩:=at6 a;clear a g;go_enter func162,ntmps162;go_upto_region 1 with fail
 generalize (w.alloc (Z (sg6 0 0 ⟨#[]⟩ 0 0 ⟨#[]⟩).toArray 243))=W at *;go_wp2;refine bodyPost_ret (v:=uX #[gX (sg6 0 0 ⟨#[]⟩ 0 0 ⟨#[]⟩).toArray,Y false]) (by simp [results,results162,go_sem,c,b1,b2,b3,d,e]) rfl ⟨rfl,(clB f)⟩
theorem zLh (id:Int) (w:wW) (g:NmAt w) (h:63<=id):CR 162 #[O J id] w (uX #[gX zero6.toArray,Y false]):=by
 have a:=AtL.new0 w 243 (sg6 0 0 ⟨#[]⟩ 0 0 ⟨#[]⟩);have f:=QJ (aZ _ w) (Z (sg6 0 0 ⟨#[]⟩ 0 0 ⟨#[]⟩).toArray 243);have i:¬ id<0:=oM;obtain ⟨c,b1,b2,b3,d,e,j,k,l,m,n,o⟩:=at6 a;clear a g;go_enter func162,ntmps162;go_upto_region 1 with fail
 generalize (w.alloc (Z (sg6 0 0 ⟨#[]⟩ 0 0 ⟨#[]⟩).toArray 243))=W at *;go_wp2;refine bodyPost_ret (v:=uX #[gX (sg6 0 0 ⟨#[]⟩ 0 0 ⟨#[]⟩).toArray,Y false]) (by simp [results,results162,go_sem,c,b1,b2,b3,d,e]) rfl ⟨rfl,(clB f)⟩
theorem zKo (id:Int) (w:wW) (c:NmAt w) (j:0<=id) (l:id<63) (d:VV id=[]):CR 162 #[O J id] w (uX #[gX zero6.toArray,Y false]):=by
 have e:=AtL.new0 w 243 (sg6 0 0 ⟨#[]⟩ 0 0 ⟨#[]⟩);have a:=QJ (aZ _ w) (Z (sg6 0 0 ⟨#[]⟩ 0 0 ⟨#[]⟩).toArray 243);have n:=(c.below a).cell j l;rw [d] at n;have k:¬ id<0:=oM;have m:¬ 63<=id:=oM;clear d;obtain ⟨f,b1,b2,b3,g,i,o,p,q,r,s,t⟩:=at6 e;clear e c;go_enter func162,ntmps162;go_upto_region 1 with fail
 generalize (w.alloc (Z (sg6 0 0 ⟨#[]⟩ 0 0 ⟨#[]⟩).toArray 243))=W at *;go_wp2;refine bodyPost_ret (v:=uX #[gX (sg6 0 0 ⟨#[]⟩ 0 0 ⟨#[]⟩).toArray,Y false]) (by simp [results,results162,go_sem,f,b1,b2,b3,g,i]) rfl ⟨rfl,(clB a)⟩
theorem zOb (id c l m:Int) (nm a:ByteArray):(sg6 id c nm l m a).toArray.all (·.oneCell')=true:=by simp [Value.oneCell']
theorem zO2 (id:Int) (w:wW) (hN:NmAt w) (h0:0<=id) (h1:id<63) (he:VV id ≠ []):CR 162 #[O J id] w (uX #[gX (sg6 id (QS id).c ⟨(VV id).toArray⟩ (QS id).l (QS id).m (QS id).p).toArray,Y true]):=by
 have pZ:=AtL.new0 w 243 (sg6 0 0 ⟨#[]⟩ 0 0 ⟨#[]⟩);have hB:=QJ (aZ _ w) (Z (sg6 0 0 ⟨#[]⟩ 0 0 ⟨#[]⟩).toArray 243);have r:=hN.below hB;have hc:=r.cell h0 h1;have SH:=λw=>zIW id w
 unfold sh6 at SH;have hq:((VV id).toArray.toList == ([]:List UInt8))=false:=by
  cases hx:VV id with
  | nil=>exact absurd hx he
  | cons a t=>rfl
 obtain ⟨nm,i⟩:∃ nm:ByteArray,(⟨(VV id).toArray⟩:ByteArray)=nm:=⟨_,rfl⟩
 have ai:(nm.toList == [])=false:=by
  rw [<-i,ByteArray.toList_eq];exact hq
 rw [i] at hc ⊢;have HC:Hid (∀ W,NmAt W->W.cell? ⟨2,id.toNat,none⟩=some (V nm)):=λW h=>by rw [<-i];exact h.cell h0 h1
 have z:=hid r;have B:=hid hN;have af:¬ id<0:=oM;have ag:¬ 63<=id:=oM;generalize QS id=s at *;clear hN he hq i r;go_enter func162,ntmps162;go_upto_region 1 with fail
 generalize (w.alloc (Z (sg6 0 0 ⟨#[]⟩ 0 0 ⟨#[]⟩).toArray 243))=W at *;go_wp2_with fail
 refine (SH _).mono ?_;rintro e d ⟨rfl,g⟩;have y:=AtL.below g pZ;have C:=QA hB g;have A:=hid (z.out.below g);have pS:=AtL.new0 d 243 (sg6 0 0 ⟨#[]⟩ 0 0 ⟨#[]⟩);have M:=y.alloc (Z (sg6 0 0 ⟨#[]⟩ 0 0 ⟨#[]⟩).toArray 243);have D:=QJ C (Z (sg6 0 0 ⟨#[]⟩ 0 0 ⟨#[]⟩).toArray 243);have aa:Hid (NmAt (d.alloc (Z (sg6 0 0 ⟨#[]⟩ 0 0 ⟨#[]⟩).toArray 243))):=A.out.below (QJ (aZ _ _) _);have k:hZ (d.alloc (Z (sg6 0 0 ⟨#[]⟩ 0 0 ⟨#[]⟩).toArray 243)) d.heap.size 0 (sg6 0 s.c ⟨#[]⟩ s.l s.m s.p).toArray.size:=pS.there;have ah:=y.lt;clear SH hc pZ y hB C z A g;go_upto_region 4 with ((with_reducible refine wpList_store_mid ?_ 243 (mX 4) (mX 19) ?_ (d.heap.size) 0 (sg6 0 s.c ⟨#[]⟩ s.l s.m s.p).toArray ?_ ?_ ?_ ?_ ?_ ?_);rfl;rfl;rfl;rfl;exact k;kernel_rfl;exact zOb _ _ _ _ _ _)
 have L:AtL ((d.alloc (Z (sg6 0 0 ⟨#[]⟩ 0 0 ⟨#[]⟩).toArray 243)).setCells d.heap.size 0 (sg6 0 s.c ⟨#[]⟩ s.l s.m s.p)) d.heap.size (sg6 0 s.c ⟨#[]⟩ s.l s.m s.p):=pS.setAll rfl;have N:=M.farAll (b:=d.heap.size) oM 0 (sg6 0 s.c ⟨#[]⟩ s.l s.m s.p);have E:bL w ((d.alloc (Z (sg6 0 0 ⟨#[]⟩ 0 0 ⟨#[]⟩).toArray 243)).setCells d.heap.size 0 (sg6 0 s.c ⟨#[]⟩ s.l s.m s.p)):=Qm D oM _ 0;have n:=AtL.drew L;have Q:=AtL.drew N;have q:=E.drew;clear pS M D aa k L N E;have u:=HC.out _ (B.out.below q);have I:d.heap.size ≠ 2:=by have:=zRT B.out;omega
 refine wp_region_held_drew (S:=λW=>W.cell? ⟨2,id.toNat,none⟩=some (V nm)) kR u (λf=>?_);generalize (fZ (d.alloc (Z (sg6 0 0 ⟨#[]⟩ 0 0 ⟨#[]⟩).toArray 243)) d.heap.size 0 (sg6 0 s.c ⟨#[]⟩ s.l s.m s.p)).drew=WD at *;have s0:=n.2.1 0 _ rfl;have f0:=n.2.2 0 sM;refine tkQ 0 ?_
 refine tkQ 1 ?_
 refine tkQ 2 ?_
 refine tkQ 3 ?_
 refine tkQ 4 ?_
 refine rdQ 5 (λK H=>?_);go_simp
 refine hkQ H (by rw [eZ _ _ _ _ (by simpa using I)];exact u) (λf=>?_);clear H K
 have o:=n.set 0 (O J id);have R:=Q.far (j:=d.heap.size) oM 0 (O J id);have G:bL w (WD.setCell ⟨d.heap.size,0,none⟩ (O J id)):=q.setCell (p:=⟨d.heap.size,0,none⟩) (show w.heap.size<=d.heap.size by omega) _;have s2:=o.2.1 2 _ rfl;have f2:=o.2.2 2 sM;refine tkQ 6 ?_
 refine rdQ 7 (λK H=>?_);go_simp
 refine hkQ H (by rw [eZ _ _ _ _ (by simpa using I)];exact f) (λf=>?_);clear H K
 refine wpAnyH_done kR ?_ _;have ad:AtL ((WD.setCell ⟨d.heap.size,0,none⟩ (O J id)).setCell ⟨d.heap.size,2,none⟩ (V nm)) d.heap.size (sg6 id s.c nm s.l s.m s.p):=o.set 2 (V nm);have X:=R.far (j:=d.heap.size) oM 2 (V nm);have ab:bL w ((WD.setCell ⟨d.heap.size,0,none⟩ (O J id)).setCell ⟨d.heap.size,2,none⟩ (V nm)):=G.setCell (p:=⟨d.heap.size,2,none⟩) (show w.heap.size<=d.heap.size by omega) _;clear n Q q u f o R G s0 f0 s2 f2;generalize (WD.setCell ⟨d.heap.size,0,none⟩ (O J id)).setCell ⟨d.heap.size,2,none⟩ (V nm)=W8 at *;have rS:=ad.range;have k:W8.there w.heap.size 0 (sg6 id s.c nm s.l s.m s.p).toArray.size:=X.there;go_wp2_with (first
  | ((with_reducible refine wpList_load_mid (cs:=sg6 id s.c nm s.l s.m s.p) ?_ 243 (mX 4) ?_ (d.heap.size) 0 ?_ _ ?_ underlying243 ?_ ?_ ?_);rfl;rfl;rfl;exact rS;rfl;kernel_rfl)
  | ((with_reducible refine wpList_store_mid ?_ 243 (mX 2) (mX 26) ?_ (w.heap.size) 0 (sg6 id s.c nm s.l s.m s.p).toArray ?_ ?_ ?_ ?_ ?_ ?_);rfl;rfl;rfl;rfl;exact k;kernel_rfl;exact zOb _ _ _ _ _ _))
 have ae:AtL (W8.setCells w.heap.size 0 (sg6 id s.c nm s.l s.m s.p)) w.heap.size (sg6 id s.c nm s.l s.m s.p):=X.setAll rfl;have ac:bL w (W8.setCells w.heap.size 0 (sg6 id s.c nm s.l s.m s.p)):=Qm ab (sZ _) _ 0;obtain ⟨b0,b1,b2,b3,b4,b5,k0,k1,k2,k3,k4,k5⟩:=at6 ae;refine bodyPost_ret (v:=uX #[gX (sg6 id s.c nm s.l s.m s.p).toArray,Y true]) (by simp [results,results162,go_sem,b0,b1,b2,b3,b4,b5]) rfl ⟨rfl,ac⟩
theorem zII {l m:List Int} {i:Nat} (h:l.take i=m.take i) (a:i<l.length) (c:i<m.length) (e:l[i]=m[i]):l.take (i+1)=m.take (i+1):=by
 rw [gZ a,gZ c,h,e]
theorem zIG (l m:List Int) (v1 v2:vW) (w:wW) (h1:RdZ w v1 l) (h2:RdZ w v2 m) (M:l.length<=1000000) (N:m.length<=1000000) :
  CR 168 #[v1,v2] w (Y (decide (l=m))):=by
 obtain ⟨a1,c1,rfl,C⟩:=h1;obtain ⟨a2,c2,rfl,D⟩:=h2;by_cases a:l.length=m.length
 ·have H1:=hid C;have H2:=hid D;obtain ⟨n,p⟩:=xV l.length
  have d:m.length=n:=oM;obtain ⟨q,t⟩:=xV (decide (l=m))
  rw [t,p,d];rw [p] at M;have H:=hid t;have G:=hid p;have E:=hid d;clear C D t a N p d;go_enter func168,ntmps168;go_wp2_with fail
  go_loopg [5,13] n (λgk y x wr=>∃ i:Nat,x=O J i/\gk=n - i/\i<=n/\Hid (l.take i=m.take i)/\bL w wr)
  case atStart=>exact ⟨0,rfl,rfl,Nat.zero_le _,(rfl:l.take 0=m.take 0),aZ _ _⟩
  case round =>
   obtain ⟨i,rfl,hg,hi,I,j⟩:=hrel;by_cases c:i<n
   ·have s:(i:Int)<(n:Int):=oM;have aa:J.wrap ((i:Int)+1)=(i:Int)+1:=by rw [IntKind.wrap_i64];omega
    have k:i<l.length:=by rw [G.out];exact c
    have o:i<m.length:=by rw [E.out];exact c
    obtain ⟨b1,o1,rfl,Q⟩:=H1.out i k;obtain ⟨b2,o2,rfl,R⟩:=H2.out i o;have d1:=QC j Q;have d2:=QC j R;have X:Hid (∃ z,l[i]=z/\z=l[i]):=⟨_,rfl,rfl⟩
    obtain ⟨x,A⟩:=xV (l[i])
    obtain ⟨y,B⟩:=xV (m[i])
    rw [A] at d1;rw [B] at d2;have K:=hid A;have L:=hid B;clear Q R A B X;by_cases g:x=y
    ·have r:=hid (zII I.out k o (by rw [K.out,L.out];exact g));subst g;go_upto_region 6 with fail
     go_quiet (fail)
     go_wp2_with fail
     go_roundg (n - (i+1))
     case rel=>exact ⟨i+1,sM,rfl,c,r,(clB j)⟩
     case measure=>omega
    ·have f:Hid (q=false):=by
      show q=false
      rw [<-H.out];refine decide_eq_false λe=>g ?_
      rw [<-K.out,<-L.out];simp only [e]
     go_upto_region 6 with fail
     go_quiet (fail)
     go_wp2;go_ret;exact ⟨by rw [f.out];rfl,(clB j)⟩
   ·have s:¬ (i:Int)<(n:Int):=oM;have u:Hid (q=true):=by
     show q=true
     rw [<-H.out];have h:=I.out;rw [kZ (by rw [G.out];omega),kZ (by rw [E.out];omega)] at h;exact decide_eq_true h
    go_wp2;go_ret;exact ⟨by rw [u.out];rfl,j⟩
 ·have f:decide (l=m)=false:=decide_eq_false λe=>a (by rw [e])
  have hz:¬ ((l.length:Int)=(m.length:Int)):=oM;rw [f];clear C D M N;go_enter func168,ntmps168;go_wp2;go_ret;exact ⟨rfl,aZ _ _⟩
def zPa (x y:Wpl.Cl):Bool:=(x.s == y.s) && ((x.r == y.r) && (x.c == y.c))
def Ji (x y:Wpl.Ar):Bool:=(x.s == y.s) && ((x.t == y.t) && ((x.l == y.l) && ((x.b == y.b) && (x.r == y.r))))
theorem zFh (x y:Wpl.Ar):Ji x y=true ↔ x=y:=by
 obtain ⟨a,b,c,g,i⟩:=x;obtain ⟨d,e,f,h,j⟩:=y;simp [Ji]
theorem zKJ (x y:Wpl.Cl) (w:wW):(binOp .eql 36 (gX #[O J x.s,O J x.r,O J x.c]) (gX #[O J y.s,O J y.r,O J y.c])).run prog w=.ok (Y (zPa x y)) w:=by
 rw [run_eql_struct];unfold zPa;by_cases a:x.s=y.s
 ·by_cases d:x.r=y.r
  ·by_cases e:x.c=y.c
   ·simp [go_sem,a,d,e]
   ·simp [go_sem,a,d,e]
  ·simp [go_sem,a,d]
 ·simp [go_sem,a]
theorem zFQ (x y:Wpl.Ar) (w:wW):(binOp .eql 84 (gX #[O J x.s,O J x.t,O J x.l,O J x.b,O J x.r]) (gX #[O J y.s,O J y.t,O J y.l,O J y.b,O J y.r])).run prog w=.ok (Y (Ji x y)) w:=by
 rw [run_eql_struct];unfold Ji;by_cases a:x.s=y.s
 ·by_cases c:x.t=y.t
  ·by_cases d:x.l=y.l
   ·by_cases e:x.b=y.b
    ·by_cases f:x.r=y.r
     ·simp [go_sem,a,c,d,e,f]
     ·simp [go_sem,a,c,d,e,f]
    ·simp [go_sem,a,c,d,e]
   ·simp [go_sem,a,c,d]
  ·simp [go_sem,a,c]
 ·simp [go_sem,a]
def smI (x y:Wc.In):Bool:=(x.a == y.a) && ((x.b == y.b) && (Vw x.v y.v && (zPa x.ce y.ce && (Ji x.ar y.ar && Ji x.pr y.pr))))
theorem Q5 (x y:Wc.In) (g i:vW) (s u:List Int) (w:wW) (I:RdZ w g s) (K:RdZ w i u) (L:s.length<=1000000) (M:u.length<=1000000) :
  CR 136 #[inV x g,inV y i] w (Y (smI x y && decide (s=u))):=by
 have pA:=(AtL.new0 w 87 (QF x g)).alloc (Z (QF y i).toArray 87);have pB:=AtL.new1 w (Z (QF x g).toArray 87) 87 (QF y i);have c:=QJ (QJ (aZ _ w) (Z (QF x g).toArray 87)) (Z (QF y i).toArray 87);have z:∀ w',Below ((w.alloc (Z (QF x g).toArray 87)).alloc (Z (QF y i).toArray 87)).heap.size ((w.alloc (Z (QF x g).toArray 87)).alloc (Z (QF y i).toArray 87)) w'->_:=λw' hb=>zIG s u g i w' ((I.below c).below hb) ((K.below c).below hb) L M
 clear I K L M;have EV:=λw=>zBE x.v.k x.v.n x.v.d x.v.t x.v.b x.v.f y.v.k y.v.n y.v.d y.v.t y.v.b y.v.f w
 have X:=λw=>zKJ x.ce y.ce w
 have ER:=λw=>zFQ x.ar y.ar w
 have EP:=λw=>zFQ x.pr y.pr w
 have o:Hid (∃ q,Vw x.v y.v=q):=⟨_,rfl⟩
 have j:Hid (∃ q,zPa x.ce y.ce=q):=⟨_,rfl⟩
 have m:Hid (∃ q,Ji x.ar y.ar=q):=⟨_,rfl⟩
 have l:Hid (∃ q,Ji x.pr y.pr=q):=⟨_,rfl⟩
 obtain ⟨H,G⟩:=o.out;obtain ⟨N,C⟩:=j.out;obtain ⟨R,E⟩:=m.out;obtain ⟨Q,D⟩:=l.out;clear o j m l;rw [show eqV x.v.k x.v.n x.v.d x.v.t x.v.b x.v.f y.v.k y.v.n y.v.d y.v.t y.v.b y.v.f=H from G] at EV;rw [C] at X;rw [E] at ER;rw [D] at EP;have o:Hid (Vw x.v y.v=H):=G;have j:Hid (zPa x.ce y.ce=N):=C;have m:Hid (Ji x.ar y.ar=R):=E;have l:Hid (Ji x.pr y.pr=Q):=D;clear G C E D;go_enter func136,ntmps136;go_upto_region 1 with fail
 generalize ((w.alloc (Z (QF x g).toArray 87)).alloc (Z (QF y i).toArray 87))=W at *;have e0:=pA.2.1 0 _ rfl;have d0:=pB.2.1 0 _ rfl;have e1:=pA.2.1 1 _ rfl;have d1:=pB.2.1 1 _ rfl;have e2:=pA.2.1 2 _ rfl;have d2:=pB.2.1 2 _ rfl;have e3:=pA.2.1 3 _ rfl;have d3:=pB.2.1 3 _ rfl;have e4:=pA.2.1 4 _ rfl;have d4:=pB.2.1 4 _ rfl;have e5:=pA.2.1 5 _ rfl;have d5:=pB.2.1 5 _ rfl;have e6:=pA.2.1 6 _ rfl;have d6:=pB.2.1 6 _ rfl;have e7:=pA.2.1 7 _ rfl;have d7:=pB.2.1 7 _ rfl;have e8:=pA.2.1 8 _ rfl;have d8:=pB.2.1 8 _ rfl;have e9:=pA.2.1 9 _ rfl;have d9:=pB.2.1 9 _ rfl;have an:=pA.2.1 10 _ rfl;have aa:=pB.2.1 10 _ rfl;have ao:=pA.2.1 11 _ rfl;have ab:=pB.2.1 11 _ rfl;have ap:=pA.2.1 12 _ rfl;have ac:=pB.2.1 12 _ rfl;have aq:=pA.2.1 13 _ rfl;have ad:=pB.2.1 13 _ rfl;have au:=pA.2.1 14 _ rfl;have ae:=pB.2.1 14 _ rfl;have av:=pA.2.1 15 _ rfl;have af:=pB.2.1 15 _ rfl;have aw:=pA.2.1 16 _ rfl;have ag:=pB.2.1 16 _ rfl;have ax:=pA.2.1 17 _ rfl;have ah:=pB.2.1 17 _ rfl;have ay:=pA.2.1 18 _ rfl;have ai:=pB.2.1 18 _ rfl;have az:=pA.2.1 19 _ rfl;have aj:=pB.2.1 19 _ rfl;have aA:=pA.2.1 20 _ rfl;have ak:=pB.2.1 20 _ rfl;have aB:=pA.2.1 21 _ rfl;have al:=pB.2.1 21 _ rfl;have aC:=pA.2.1 22 _ rfl;have am:=pB.2.1 22 _ rfl;clear pA pB;by_cases p:x.a=y.a
 ·by_cases r:x.b=y.b
  ·cases H with
   | false =>
    go_wp2;go_ret;exact ⟨by simp [smI,o.out,j.out,m.out,l.out],(clB c)⟩
   | true =>
    cases N with
    | false =>
     go_wp2;go_ret;exact ⟨by simp [smI,o.out,j.out,m.out,l.out],(clB c)⟩
    | true =>
     cases R with
     | false =>
      go_wp2;go_ret;exact ⟨by simp [smI,o.out,j.out,m.out,l.out],(clB c)⟩
     | true =>
      cases Q with
      | false =>
       go_wp2;go_ret;exact ⟨by simp [smI,o.out,j.out,m.out,l.out],(clB c)⟩
      | true =>
       go_wp2_with fail
       refine (z _ (aZ _ _)).mono ?_;rintro e w1 ⟨rfl,B⟩;have A:=QA c B;go_wp2;go_ret;exact ⟨by simp [smI,p,r,o.out,j.out,m.out,l.out],(clB A)⟩
  ·go_wp2;go_ret;exact ⟨by simp [smI,p,r],(clB c)⟩
 ·go_wp2;go_ret;exact ⟨by simp [smI,p],(clB c)⟩
def v0I:Wt.Vl:=⟨0,0,0,⟨#[]⟩,false,0⟩
def c0I:Wpl.Cl:=⟨0,0,0⟩
def a0I:Wpl.Ar:=⟨0,0,0,0,0⟩
def QL (k:Int):Wc.In:=⟨k,0,0,v0I,c0I,a0I,a0I⟩
abbrev QO:vW:=U none 0 0
abbrev Q7 (w:wW) (x:Wc.In) (tv:vW):wW:=(w.alloc (Z (QF x tv).toArray 87)).alloc (Z #[O J 0,O J 0,O J 0,O J 0,O J 0,O J 0,V ⟨#[]⟩,Y false,O J 0,O J 0,O J 0,O J 0,O J 0,O J 0,O J 0,O J 0,O J 0,O J 0,O J 0,O J 0,O J 0,O J 0,U none 0 0] 87)
theorem zMZ (x:Wc.In) (d:Option Addr) (n c:Nat):∀ v ∈ QF x (U d n c),v.oneCell'=true:=by
 intro v a;simp only [QF,uZ,tZ,or_false] at a;rcases a with rfl | rfl | rfl | rfl | rfl | rfl | rfl | rfl | rfl | rfl | rfl | rfl | rfl | rfl | rfl | rfl | rfl | rfl | rfl | rfl | rfl | rfl | rfl <;> rfl
theorem JO (x:Wc.In) (a:Option Addr) (n c:Nat):(QF x (U a n c)).toArray.all (·.oneCell')=true:=all_oneCell_toArray (zMZ x a n c)
abbrev zQK (ka kb:Nat) (x:Wc.In) (tv:vW) (W:wW):Prop :=
 W.cell? ⟨ka,3,none⟩=some (O J x.v.k)/\W.cell? ⟨ka,4,none⟩=some (O J x.v.n)/\W.cell? ⟨ka,5,none⟩=some (O J x.v.d)/\W.cell? ⟨ka,6,none⟩=some (V x.v.t)/\W.cell? ⟨ka,7,none⟩=some (Y x.v.b)/\W.cell? ⟨ka,8,none⟩=some (O J x.v.f)/\W.frozen? ⟨kb,3,none⟩=false/\W.frozen? ⟨kb,4,none⟩=false/\W.frozen? ⟨kb,5,none⟩=false/\W.frozen? ⟨kb,6,none⟩=false/\W.frozen? ⟨kb,7,none⟩=false/\W.frozen? ⟨kb,8,none⟩=false
theorem zEZ {y:Wc.In} {d:vW} (a:AtL W ka (QF x tv)) (c:AtL W kb (QF y d)):zQK ka kb x tv W :=
 ⟨a.2.1 3 _ rfl,a.2.1 4 _ rfl,a.2.1 5 _ rfl,a.2.1 6 _ rfl,a.2.1 7 _ rfl,a.2.1 8 _ rfl,c.2.2 3 (by show 3<23;decide),c.2.2 4 (by show 4<23;decide),c.2.2 5 (by show 5<23;decide),c.2.2 6 (by show 6<23;decide),c.2.2 7 (by show 7<23;decide),c.2.2 8 (by show 8<23;decide)⟩
theorem zA0 (h:zQK ka kb x tv W) (a:kb ≠ ka) (j:Nat) (u:vW):zQK ka kb x tv (W.setCell ⟨kb,j,none⟩ u):=by
 obtain ⟨k,l,m,n,o,p,c,d,e,f,g,i⟩:=h;refine ⟨?_,?_,?_,?_,?_,?_,?_,?_,?_,?_,?_,?_⟩;any_goals rw [eZ _ _ _ _ (by simpa using a)];assumption
 all_goals rw [World.frozen?_setCell];assumption
theorem zLj (x:Wc.In) (B:Option Addr) (n c:Nat) (m:List Int) (w:wW) (hk:x.op=1) (L:RdZ w (U B n c) m) (H:m.length<=1000000) (Q:-9223372036854775808<=x.v.n) (X:x.v.n<=9223372036854775807) (h3:-9223372036854775808<=x.v.d) (h4:x.v.d<=9223372036854775807) (hs:x.v.t.size<=9223372036854775807) :
  CR 101 #[inV x (U B n c)] w (Y (Wv.right x.v.k x.v.n x.v.d x.v.t x.v.b x.v.f && (smI x ⟨1,0,0,x.v,c0I,a0I,a0I⟩ && decide (m=[])))):=by
 have C:=(λw=>zCN x.v w Q X h3 h4 hs:∀ w:wW,CR 131 #[gX #[O J x.v.k,O J x.v.n,O J x.v.d,V x.v.t,Y x.v.b,O J x.v.f]] w (Y (Wv.right x.v.k x.v.n x.v.d x.v.t x.v.b x.v.f)))
 have I:∀ w',bL w w'->CR 136 #[gX (QF x (U B n c)).toArray,gX (QF ⟨1,0,0,x.v,c0I,a0I,a0I⟩ QO).toArray] w' (Y (smI x ⟨1,0,0,x.v,c0I,a0I,a0I⟩ && decide (m=[]))):=λw' r=>Q5 x ⟨1,0,0,x.v,c0I,a0I,a0I⟩ _ _ m [] w' (L.below r) (RdZ.nil _) H (by first | exact H | simp)
 obtain ⟨tv,u⟩:=xV (U B n c)
 rw [u] at I ⊢;generalize (smI x ⟨1,0,0,x.v,c0I,a0I,a0I⟩ && decide (m=[]))=R at *;generalize Wv.right x.v.k x.v.n x.v.d x.v.t x.v.b x.v.f=q at *;have y:AtL (Q7 w x tv) w.heap.size (QF x tv):=(AtL.new0 w _ _).alloc _;have l:AtL (Q7 w x tv) (w.heap.size+1) (QF (QL 0) QO):=AtL.new1 w _ _ _;have s:hZ (Q7 w x tv) (w.heap.size+1) 0 (QF (QL 1) QO).toArray.size:=l.there;have g:w.heap.size+1 ≠ w.heap.size:=oM;have pA:=y.farAll g 0 (QF (QL 1) QO);have D:AtL ((Q7 w x tv).setCells (w.heap.size+1) 0 (QF (QL 1) QO)) (w.heap.size+1) (QF (QL 1) QO):=l.setAll rfl;have p:bL w ((Q7 w x tv).setCells (w.heap.size+1) 0 (QF (QL 1) QO)):=Qm (QJ (QJ (aZ _ w) _) _) (Nat.le_succ _) _ 0;clear y l;have n0:(QF x tv)[0]? = some (O J 1):=by rw [<-hk];rfl
 have N:=pA.2.1 0 _ n0;show Calls _ _ #[gX (QF x tv).toArray] _ _
 have K:=zEZ pA D;clear L H u;cases q
 all_goals
  go_enter func101,ntmps101;go_upto_region 1 with fail
  go_upto_region 2 with ((with_reducible refine wpList_store_mid ?_ 87 (mX 3) (mX 7) ?_ (w.heap.size+1) 0 (QF (QL 1) QO).toArray ?_ ?_ ?_ ?_ ?_ ?_);rfl;rfl;rfl;rfl;exact s;kernel_rfl;exact JO _ _ _ _)
  generalize (Q7 w x tv).setCells (w.heap.size+1) 0 (QF (QL 1) QO)=W0 at *;clear s;go_upto_region 4 with fail
  go_region_held3 (zQK w.heap.size (w.heap.size+1) x tv)
   (with_reducible first | exact K | assumption | exact zEZ j a | exact (zA0 (zA0 (zA0 (zA0 (zA0 (zA0 (by assumption) oM _ _) oM _ _) oM _ _) oM _ _) oM _ _) oM _ _) | exact zEZ (AtL.drew pA) (AtL.drew D))
   (first | (go_at_call 131;refine (C _).mono ?_;rintro e M ⟨rfl,r⟩;have j:=AtL.below r (AtL.drew pA);have a:=AtL.below r (AtL.drew D);have o3:=a.2.1 3 _ rfl;have o4:=a.2.1 4 _ rfl;have o5:=a.2.1 5 _ rfl;have o6:=a.2.1 6 _ rfl;have o7:=a.2.1 7 _ rfl;have o8:=a.2.1 8 _ rfl;have o:=QA p.drew r))
  all_goals
   clear pA D K C p o3 o4 o5 o6 o7 o8 N;have z:=((((((j.far g 3 (O J x.v.k)).far g 4 (O J x.v.n)).far g 5 (O J x.v.d)).far g 6 (V x.v.t)).far g 7 (Y x.v.b)).far g 8 (O J x.v.f))
   have A:=((((((a.set 3 (O J x.v.k)).set 4 (O J x.v.n)).set 5 (O J x.v.d)).set 6 (V x.v.t)).set 7 (Y x.v.b)).set 8 (O J x.v.f))
   have i:bL w ((((((M.setCell ⟨w.heap.size+1,3,none⟩ (O J x.v.k)).setCell ⟨w.heap.size+1,4,none⟩ (O J x.v.n)).setCell ⟨w.heap.size+1,5,none⟩ (O J x.v.d)).setCell ⟨w.heap.size+1,6,none⟩ (V x.v.t)).setCell ⟨w.heap.size+1,7,none⟩ (Y x.v.b)).setCell ⟨w.heap.size+1,8,none⟩ (O J x.v.f)):=(clB o)
   clear j a o;generalize ((((((M.setCell ⟨w.heap.size+1,3,none⟩ (O J x.v.k)).setCell ⟨w.heap.size+1,4,none⟩ (O J x.v.n)).setCell ⟨w.heap.size+1,5,none⟩ (O J x.v.d)).setCell ⟨w.heap.size+1,6,none⟩ (V x.v.t)).setCell ⟨w.heap.size+1,7,none⟩ (Y x.v.b)).setCell ⟨w.heap.size+1,8,none⟩ (O J x.v.f))=W2 at *;have rA:=z.range;have rO:=A.range;clear z A;go_wp2_with (first | ((with_reducible refine QB ?_ 87 (mX 1) ?_ w.heap.size 0 ?_ (QF x tv) _ ?_ underlying87 ?_ ?_ ?_);rfl;rfl;rfl;exact rA;rfl;kernel_rfl) | ((with_reducible refine QB ?_ 87 (mX 3) ?_ (w.heap.size+1) 0 ?_ (QF ⟨1,0,0,x.v,c0I,a0I,a0I⟩ QO) _ ?_ underlying87 ?_ ?_ ?_);rfl;rfl;rfl;exact rO;rfl;kernel_rfl) | (go_at_call 136;refine (I _ i).mono ?_;rintro e w3 ⟨rfl,G⟩;have E:=QA i G))
   go_wp2;go_ret;first
   | exact ⟨sM,i⟩
   | exact ⟨sM,E⟩
end Go.Proofs.YtloponhikiddmaaGreatDoor
namespace Go.Proofs.YtloponhikiddmaaGreatDoor.Wf
open Go.Proofs.YtloponhikiddmaaGreatDoor
def idx (s:ByteArray):List ByteArray->Nat->Int
 | [],_=>-1
 | t::r,i=>if t=s then (i:Int) else idx s r (i+1)
def shN (own:Int) (nm:List ByteArray) (s:ByteArray):Int:=if s=⟨#[]⟩ then own else idx s nm 0
def Jd (x:Wt.Nd):Wpl.Ar:=⟨0,min x.a.r x.b.r,min x.a.c x.b.c,max x.a.r x.b.r,max x.a.c x.b.c⟩
def Qh (own:Int) (nm:List ByteArray) (x:Wt.Nd):Wpl.Ar:={Jd x with s:=shN own nm x.a.s}
def zJC (own:Int) (nm:List ByteArray) (x:Wt.Nd):Wpl.Cl:=⟨shN own nm x.a.s,x.a.r,x.a.c⟩
def isA (x:Wt.Nd):Bool:=x.k == 3
def JA (s:ByteArray):Nat:=fnN.findIdx (λl=>decide ((⟨l.toArray⟩:ByteArray)=s))
def JD (p:List UInt8):List Wt.Nd->Nat->Bool
 | [],_=>true
 | x::r,i=>if (p.getD (min i (p.length - 1)) 0 == 97 && !isA x) || (p.getD (min i (p.length - 1)) 0 == 118 && isA x) then false else JD p r (i+1)
def J4 (l:List Wt.Nd):List Wt.Nd:=l.filter isA
def J3 (id:Int) (l:List Wt.Nd):Bool :=
 if Wc.pairs id then
  let a:=Jd ((J4 l).headD ⟨0,v0I,0,⟨#[]⟩,0,Wt.r0,Wt.r0⟩)
  let b:=Jd ((J4 l).getLastD ⟨0,v0I,0,⟨#[]⟩,0,Wt.r0,Wt.r0⟩)
  (a.b - a.t == b.b - b.t) && (a.r - a.l == b.r - b.l)
 else true
def Vd (x:Wt.Nd) (ks:List Wt.Nd):Int :=
 let id:Int:=(JA x.nm:Nat)
 if JM id=false then 80
 else if x.ar<(QS id).l \/ (QS id).m<x.ar then 81
 else if JD (QS id).p.data.toList ks 0=false then 82
 else if J3 id ks=false then 83 else 0
def V2 (own:Int) (nm:List ByteArray) (x:Wt.Nd) (ks:List Wt.Nd):Int :=
 if x.k=2 \/ x.k=3 then (if shN own nm x.a.s<0 then 84 else 0)
 else if x.k=4 \/ x.k=5 then (if ks.any isA then 82 else 0)
 else if x.k=6 then Vd x ks else 0
def zPR:List Int->Int
 | []=>0
 | a::r=>if a=0 then zPR r else a
def Jv (own:Int) (nm:List ByteArray):(n:Nat)->Tr n->Int
 | 0,t=>Empty.elim t
 | n+1,t=>zPR (V2 own nm (Br.x t) ((Br.ks t).map (hd n))::(Br.ks t).map (Jv own nm n))
abbrev I:=Wc.In × List Int
def ins (o a b:Int):I:=(⟨o,a,b,v0I,c0I,a0I,a0I⟩,[])
def Jn (v:Wt.Vl):I:=(⟨1,0,0,v,c0I,a0I,a0I⟩,[])
def zOa (c:Wpl.Cl):I:=(⟨2,0,0,v0I,c,a0I,a0I⟩,[])
def Jr (o b:Int) (a p:Wpl.Ar):I:=(⟨o,0,b,v0I,c0I,a,p⟩,[])
def VJ (k:Int):Wt.Vl:=⟨1,k,1,⟨#[]⟩,false,0⟩
def zO9:Wt.Vl:=⟨3,0,0,⟨#[]⟩,false,0⟩
def Qb {α:Type} (f:α->Nat->List I):List α->Nat->List I
 | [],_=>[]
 | k::r,a=>f k a++Qb f r (a+(f k a).length)
def JE {α:Type} (f:α->Nat->List I) (k:α) (a:Nat):List I:=f k a++[ins 7 0 0]
section
variable (own:Int) (nm:List ByteArray)
def Jz {α:Type} (h:α->Wt.Nd) (f:α->Nat->List I) (k:α) (a:Nat):List I :=
 if isA (h k) then [Jr 8 0 (Qh own nm (h k)) a0I] else JE f k a
def VI {α:Type} (h:α->Wt.Nd) (f:α->Nat->List I) (id:Int) (ks:List α) (a:Nat):List I :=
 let ars:=J4 (ks.map h)
 let vs:=ks.filter (λk=>!isA (h k))
 let x:=Qh own nm (ars.headD ⟨0,v0I,0,⟨#[]⟩,0,Wt.r0,Wt.r0⟩)
 let y:=Qh own nm (ars.getLastD ⟨0,v0I,0,⟨#[]⟩,0,Wt.r0,Wt.r0⟩)
 if id=26 then [Jn (VJ (x.b - x.t+1))]
 else if id=27 then [Jn (VJ (x.r - x.l+1))]
 else if id=25 then Qb f vs a++[Jr 11 vs.length x a0I]
 else ins 6 id 0::(Qb (JE f) vs (a+1)++[if Wc.pairs id then Jr 9 0 x y else Jr 8 0 x a0I,ins 10 0 0])
def VC {α:Type} (f:α->Nat->List I) (c:α) (d:List α) (a:Nat):List I :=
 let y:=f c (a+1)
 let m:=a+1+y.length+1
 let z:=if d.isEmpty then [Jn zO9] else Qb f d m
 ins 12 m (m+z.length:Nat)::(y++ins 13 (m+z.length:Nat) 0::z)
def chB {α:Type} (f:α->Nat->List I) (e:Int):List α->Nat->List I
 | [],_=>[]
 | k::r,a=>ins 13 e 0::(f k (a+1)++chB f e r (a+1+(f k (a+1)).length))
def chT {α:Type} (f:α->Nat->List I):List α->Nat->List Int
 | [],_=>[]
 | k::r,a=>((a+1:Nat):Int)::chT f r (a+1+(f k (a+1)).length)
def Ju {α:Type} (f:α->Nat->List I) (l:List α) (a:Nat):List I :=
 match l with
 | []=>[(⟨15,0,(a+1:Nat),v0I,c0I,a0I,a0I⟩,[])]
 | k::r =>
  let y:=f k (a+1)
  let m:=a+1+y.length
  let e:=m+(chB f 0 r m).length
  (⟨15,0,(e:Nat),v0I,c0I,a0I,a0I⟩,((a+1:Nat):Int)::chT f r m)::(y++chB f e r m)
def Jx {α:Type} (f:α->Nat->List I) (id:Int) (ks:List α) (a:Nat):List I :=
 match ks with
 | []=>[]
 | c::r =>
  let y:=f c a
  y++(match r with
   | []=>if id=32 then Ju f [] (a+y.length) else []
   | u::no=>if id=30 then VC f u no (a+y.length)
    else if id=31 then ins 14 (a+y.length+1+(f u (a+y.length+1)).length:Nat) 0::f u (a+y.length+1)
    else Ju f (u::no) (a+y.length))
def VH {α:Type} (h:α->Wt.Nd) (f:α->Nat->List I) (x:Wt.Nd) (ks:List α) (a:Nat):List I :=
 let id:Int:=(JA x.nm:Nat)
 let c:=(QS id).c
 if c=4 then Qb f ks a++[ins 5 id x.ar]
 else if c=1 then ins 6 id 0::(Qb (Jz own nm h f) ks (a+1)++[ins 10 0 0])
 else if c=2 then VI own nm h f id ks a
 else Jx f id ks a
def JV {α:Type} (h:α->Wt.Nd) (f:α->Nat->List I) (x:Wt.Nd) (ks:List α) (a:Nat):List I :=
 if x.k=1 then [Jn x.v]
 else if x.k=2 then [zOa (zJC own nm x)]
 else if x.k=4 then Qb f ks a++[ins 3 x.op 0]
 else if x.k=5 then Qb f ks a++[ins 4 x.op 0]
 else if x.k=6 then VH own nm h f x ks a else []
def cod:(n:Nat)->Tr n->Nat->List I
 | 0,t,_=>Empty.elim t
 | n+1,t,a=>JV own nm (hd n) (cod n) (Br.x t) (Br.ks t) a
end
end Go.Proofs.YtloponhikiddmaaGreatDoor.Wf
namespace Go.Proofs.YtloponhikiddmaaGreatDoor
open Tryz
open Go.RowKit
variable {w:wW} {b ck:Nat} {es:Array MapEntry} {P:Program}
theorem zFo (id:Int) (w:wW) (c:NmAt w):CR 162 #[O J id] w (uX #[gX (VA id).toArray,Y (JM id)]):=by
 unfold VA;by_cases f:id<0
 ·have e:JM id=false:=by unfold JM;rw [decide_eq_false oM];rfl
  rw [e];exact zLK id w c f
 by_cases g:63<=id
 ·have e:JM id=false:=by unfold JM;rw [decide_eq_false (p:=id<63) oM,Bool.false_and,Bool.and_false]
  rw [e];exact zLh id w c g
 by_cases d:VV id=[]
 ·have e:JM id=false:=by unfold JM;rw [d];simp
  rw [e];exact zKo id w c oM oM d
 ·have e:JM id=true:=by
   unfold JM;rw [decide_eq_true oM,decide_eq_true oM];cases i:VV id with
   | nil=>exact absurd i d
   | cons a t=>rfl
  rw [e,if_pos rfl];exact zO2 id w c oM oM d
def apl (id n:Int):Bool:=JM id && ((QS id).c == 4 && (decide ((QS id).l<=n) && decide (n<=(QS id).m)))
theorem zEz (id n:Int) (w:wW) (G:NmAt w):CR 132 #[O J id,O J n] w (Y (apl id n)):=by
 have k:=zFo id w G;unfold VA at k;unfold apl;cases u:JM id with
 | false =>
  rw [u,if_neg sM] at k;unfold zero6 at k;clear u G;go_enter func132,ntmps132;go_wp2_with fail
  refine k.mono ?_;rintro e a ⟨rfl,d⟩;have o:=AtL.new0 a 243 (sg6 0 0 ⟨#[]⟩ 0 0 ⟨#[]⟩);have f:=QJ d (Z (sg6 0 0 ⟨#[]⟩ 0 0 ⟨#[]⟩).toArray 243);obtain ⟨q,b1,b2,b3,r,t,y,z,A,B,C,D⟩:=at6 o;clear k;go_wp2;go_ret;exact ⟨sM,(clB d)⟩
 | true =>
  rw [u,if_pos rfl] at k;clear u G;generalize QS id=s at *;generalize (⟨(VV id).toArray⟩:ByteArray)=nm at *;cases K:(s.c == 4) with
  | false =>
   go_enter func132,ntmps132;go_wp2_with fail
   refine k.mono ?_;rintro e a ⟨rfl,d⟩;have o:=AtL.new0 a 243 (sg6 0 0 ⟨#[]⟩ 0 0 ⟨#[]⟩);have f:=QJ d (Z (sg6 0 0 ⟨#[]⟩ 0 0 ⟨#[]⟩).toArray 243);have i:hZ (a.alloc (Z (sg6 0 0 ⟨#[]⟩ 0 0 ⟨#[]⟩).toArray 243)) a.heap.size 0 (sg6 id s.c nm s.l s.m s.p).toArray.size:=o.there;clear k;go_upto_region 2 with ((with_reducible refine wpList_store_mid ?_ 243 (mX 5) (mX 10) ?_ (a.heap.size) 0 (sg6 id s.c nm s.l s.m s.p).toArray ?_ ?_ ?_ ?_ ?_ ?_);rfl;rfl;rfl;rfl;exact i;kernel_rfl;exact zOb _ _ _ _ _ _)
   have j:AtL ((a.alloc (Z (sg6 0 0 ⟨#[]⟩ 0 0 ⟨#[]⟩).toArray 243)).setCells a.heap.size 0 (sg6 id s.c nm s.l s.m s.p)) a.heap.size (sg6 id s.c nm s.l s.m s.p):=o.setAll rfl;have g:bL w ((a.alloc (Z (sg6 0 0 ⟨#[]⟩ 0 0 ⟨#[]⟩).toArray 243)).setCells a.heap.size 0 (sg6 id s.c nm s.l s.m s.p)):=Qm f d.size _ 0;generalize fZ (a.alloc (Z (sg6 0 0 ⟨#[]⟩ 0 0 ⟨#[]⟩).toArray 243)) a.heap.size 0 (sg6 id s.c nm s.l s.m s.p)=E at *;obtain ⟨q,b1,b2,b3,r,t,y,z,A,B,C,D⟩:=at6 j;go_wp2;go_ret;exact ⟨sM,g⟩
  | true =>
   by_cases H:s.l<=n
   ·by_cases I:n<=s.m
    ·go_enter func132,ntmps132;go_wp2_with fail
     refine k.mono ?_;rintro e a ⟨rfl,d⟩;have o:=AtL.new0 a 243 (sg6 0 0 ⟨#[]⟩ 0 0 ⟨#[]⟩);have f:=QJ d (Z (sg6 0 0 ⟨#[]⟩ 0 0 ⟨#[]⟩).toArray 243);have i:hZ (a.alloc (Z (sg6 0 0 ⟨#[]⟩ 0 0 ⟨#[]⟩).toArray 243)) a.heap.size 0 (sg6 id s.c nm s.l s.m s.p).toArray.size:=o.there;clear k;go_upto_region 2 with ((with_reducible refine wpList_store_mid ?_ 243 (mX 5) (mX 10) ?_ (a.heap.size) 0 (sg6 id s.c nm s.l s.m s.p).toArray ?_ ?_ ?_ ?_ ?_ ?_);rfl;rfl;rfl;rfl;exact i;kernel_rfl;exact zOb _ _ _ _ _ _)
     have j:AtL ((a.alloc (Z (sg6 0 0 ⟨#[]⟩ 0 0 ⟨#[]⟩).toArray 243)).setCells a.heap.size 0 (sg6 id s.c nm s.l s.m s.p)) a.heap.size (sg6 id s.c nm s.l s.m s.p):=o.setAll rfl;have g:bL w ((a.alloc (Z (sg6 0 0 ⟨#[]⟩ 0 0 ⟨#[]⟩).toArray 243)).setCells a.heap.size 0 (sg6 id s.c nm s.l s.m s.p)):=Qm f d.size _ 0;generalize fZ (a.alloc (Z (sg6 0 0 ⟨#[]⟩ 0 0 ⟨#[]⟩).toArray 243)) a.heap.size 0 (sg6 id s.c nm s.l s.m s.p)=E at *;obtain ⟨q,b1,b2,b3,r,t,y,z,A,B,C,D⟩:=at6 j;go_wp2;go_ret;exact ⟨by simp [H,I],g⟩
    ·go_enter func132,ntmps132;go_wp2_with fail
     refine k.mono ?_;rintro e a ⟨rfl,d⟩;have o:=AtL.new0 a 243 (sg6 0 0 ⟨#[]⟩ 0 0 ⟨#[]⟩);have f:=QJ d (Z (sg6 0 0 ⟨#[]⟩ 0 0 ⟨#[]⟩).toArray 243);have i:hZ (a.alloc (Z (sg6 0 0 ⟨#[]⟩ 0 0 ⟨#[]⟩).toArray 243)) a.heap.size 0 (sg6 id s.c nm s.l s.m s.p).toArray.size:=o.there;clear k;go_upto_region 2 with ((with_reducible refine wpList_store_mid ?_ 243 (mX 5) (mX 10) ?_ (a.heap.size) 0 (sg6 id s.c nm s.l s.m s.p).toArray ?_ ?_ ?_ ?_ ?_ ?_);rfl;rfl;rfl;rfl;exact i;kernel_rfl;exact zOb _ _ _ _ _ _)
     have j:AtL ((a.alloc (Z (sg6 0 0 ⟨#[]⟩ 0 0 ⟨#[]⟩).toArray 243)).setCells a.heap.size 0 (sg6 id s.c nm s.l s.m s.p)) a.heap.size (sg6 id s.c nm s.l s.m s.p):=o.setAll rfl;have g:bL w ((a.alloc (Z (sg6 0 0 ⟨#[]⟩ 0 0 ⟨#[]⟩).toArray 243)).setCells a.heap.size 0 (sg6 id s.c nm s.l s.m s.p)):=Qm f d.size _ 0;generalize fZ (a.alloc (Z (sg6 0 0 ⟨#[]⟩ 0 0 ⟨#[]⟩).toArray 243)) a.heap.size 0 (sg6 id s.c nm s.l s.m s.p)=E at *;obtain ⟨q,b1,b2,b3,r,t,y,z,A,B,C,D⟩:=at6 j;go_wp2;go_ret;exact ⟨by simp [H],g⟩
   ·go_enter func132,ntmps132;go_wp2_with fail
    refine k.mono ?_;rintro e a ⟨rfl,d⟩;have o:=AtL.new0 a 243 (sg6 0 0 ⟨#[]⟩ 0 0 ⟨#[]⟩);have f:=QJ d (Z (sg6 0 0 ⟨#[]⟩ 0 0 ⟨#[]⟩).toArray 243);have i:hZ (a.alloc (Z (sg6 0 0 ⟨#[]⟩ 0 0 ⟨#[]⟩).toArray 243)) a.heap.size 0 (sg6 id s.c nm s.l s.m s.p).toArray.size:=o.there;clear k;go_upto_region 2 with ((with_reducible refine wpList_store_mid ?_ 243 (mX 5) (mX 10) ?_ (a.heap.size) 0 (sg6 id s.c nm s.l s.m s.p).toArray ?_ ?_ ?_ ?_ ?_ ?_);rfl;rfl;rfl;rfl;exact i;kernel_rfl;exact zOb _ _ _ _ _ _)
    have j:AtL ((a.alloc (Z (sg6 0 0 ⟨#[]⟩ 0 0 ⟨#[]⟩).toArray 243)).setCells a.heap.size 0 (sg6 id s.c nm s.l s.m s.p)) a.heap.size (sg6 id s.c nm s.l s.m s.p):=o.setAll rfl;have g:bL w ((a.alloc (Z (sg6 0 0 ⟨#[]⟩ 0 0 ⟨#[]⟩).toArray 243)).setCells a.heap.size 0 (sg6 id s.c nm s.l s.m s.p)):=Qm f d.size _ 0;generalize fZ (a.alloc (Z (sg6 0 0 ⟨#[]⟩ 0 0 ⟨#[]⟩).toArray 243)) a.heap.size 0 (sg6 id s.c nm s.l s.m s.p)=E at *;obtain ⟨q,b1,b2,b3,r,t,y,z,A,B,C,D⟩:=at6 j;go_wp2;go_ret;exact ⟨by simp;omega,g⟩
def FoldL (w:wW) (b o:Nat) (F:List (Int × Int)):Prop:=∃ a cap,w.cell? ⟨b,o,none⟩=some (U a F.length cap)/\∀ i (h:i<F.length),∃ bb off,a=some ⟨bb,off,none⟩/\w.cell? ⟨bb,off+i * 2,none⟩=some (O J (F[i]).1)/\w.cell? ⟨bb,off+i * 2+1,none⟩=some (O J (F[i]).2)
theorem FoldL.below {w':wW} {o:Nat} {F:List (Int × Int)} (h:FoldL w b o F) (a:bL w w'):FoldL w' b o F:=by
 obtain ⟨d,cap,g,j⟩:=h;refine ⟨d,cap,QC a g,λi m=>?_⟩;obtain ⟨f,c,e,k,l⟩:=j i m;exact ⟨f,c,e,QC a k,QC a l⟩
theorem zIk (b o:Nat) (w:wW):CR 169 #[pX (some ⟨b,o,none⟩),O J 0] w (uX #[gX #[O J 0,O J 0],Y false]):=by
 have a:=AtL.new0 w 258 [O J 0,O J 0];have d:=QJ (aZ _ w) (Z #[O J 0,O J 0] 258);obtain ⟨c,b1,e,f⟩:=a.two;clear a;go_enter func169,ntmps169;go_upto_region 1 with fail
 generalize (w.alloc (Z #[O J 0,O J 0] 258))=W at *;go_wp2;refine bodyPost_ret (v:=uX #[gX #[O J 0,O J 0],Y false]) (by simp [results,results169,go_sem,c,b1]) rfl ⟨rfl,(clB d)⟩
theorem zKm (b o:Nat) (F:List (Int × Int)) (i:Nat) (w:wW) (d:FoldL w b o F) (e:i<F.length) (j:F.length<=1000000):CR 169 #[pX (some ⟨b,o,none⟩),O J ((i:Int)+1)] w (uX #[gX #[O J (F[i]).1,O J (F[i]).2],Y true]):=by
 have f:=AtL.new0 w 258 [O J 0,O J 0];have c:=QJ (aZ _ w) (Z #[O J 0,O J 0] 258);obtain ⟨l,cap,n,a⟩:=d.below c;obtain ⟨m,k,rfl,p,q⟩:=a i e;obtain ⟨g,b1,r,s⟩:=f.two;have z:((i:Int)+1 == 0)=false:=by simp;omega
 have A:J.wrap ((i:Int)+1 - 1)=(i:Int):=by rw [IntKind.wrap_i64];omega
 have B:J.wrap (i:Int)=(i:Int):=by rw [IntKind.wrap_i64];omega
 have t:(0:Int)<=(i:Int):=oM;have u:(i:Int)<(F.length:Int):=oM;generalize (F[i]).1=x at *;generalize (F[i]).2=y at *;clear f a d e j;go_enter func169,ntmps169;go_upto_region 1 with fail
 generalize (w.alloc (Z #[O J 0,O J 0] 258))=W at *;go_wp2;refine bodyPost_ret (v:=uX #[gX #[O J x,O J y],Y true]) (by simp [results,results169,go_sem,g,b1]) rfl ⟨rfl,(clB c)⟩
def fld (id:Int):Bool:=decide ((1<=id/\id<=15) \/ (20<=id/\id<=24))
def QI (id n k:Int):List vW:=[O J id,O J 0,O J n,O J 1,O J k,O J 0,O J 0,V ⟨#[]⟩,Y false,O J 0,O J 0,O J 0,O J 0,V ⟨#[]⟩,Y false,O J 0,Y false,Y false,Y false,O J 0,O J 0]
theorem zAO (id n k:Int):(QI id n k).toArray.all (·.oneCell')=true:=by
 apply all_oneCell_toArray
 intro v a;simp only [QI,uZ,tZ,or_false] at a;rcases a with rfl | rfl | rfl | rfl | rfl | rfl | rfl | rfl | rfl | rfl | rfl | rfl | rfl | rfl | rfl | rfl | rfl | rfl | rfl | rfl | rfl <;> rfl
open Go.ChangeMaps (setBlock heap_setBlock_same heap_setBlock_other)
open Go.ChangeShapes Go.WideShapes Go.MapKept
theorem zAX (a:w.heap[b]? = some (.map es ck)) (o:Obj):w.grownBy (setBlock w b o) (some b) :=
 ⟨rfl,rfl,rfl,by simp [setBlock],λi _ c=>heap_setBlock_other a _ (λe=>c (by rw [e]))⟩
theorem zE3 {t k e:TypeId} (f:P.underlying t=some (.map k e)) (a:w.heap[b]? = some (.map es ck)) {key:vW} (val:vW)
  (c:(Instr.checkKey false 10000 k key).run P w=.ok () w) (d:(Instr.findKey k key es.toList).run P w=.ok none w) :
  (Instr.mapUpdate t (.map (some b)) key val).run P w=.ok () (setBlock w b (.map (es.push ⟨key,val,ck⟩) (ck+1))):=by
 simp [Instr.mapUpdate,run_underlying f,MapKept.run_getObj_map a,c,d,MapKept.run_setObj_map _ a,dZ,setBlock]
theorem zCa {t k e:TypeId} (f:P.underlying t=some (.map k e)) (a:w.heap[b]? = some (.map es ck)) {key v:vW} {j:Nat}
  (c:(Instr.checkKey es.isEmpty 10000 k key).run P w=.ok () w) (d:(Instr.findKey k key es.toList).run P w=.ok (some (j,v)) w) :
  (Instr.lookup t (.map (some b)) key true).run P w=.ok (uX #[v,Y true]) w:=by
 simp [Instr.lookup,run_underlying f,MapKept.run_getObj_map a,c,d,dZ]
theorem zB8 {t k e:TypeId} (f:P.underlying t=some (.map k e)) (a:w.heap[b]? = some (.map es ck)) {key z:vW}
  (c:(Instr.checkKey es.isEmpty 10000 k key).run P w=.ok () w) (d:(Instr.findKey k key es.toList).run P w=.ok none w) (g:(zeroValue e).run P w=.ok z w) :
  (Instr.lookup t (.map (some b)) key true).run P w=.ok (uX #[z,Y false]) w:=by
 simp [Instr.lookup,run_underlying f,MapKept.run_getObj_map a,c,d,g,dZ]
def Vq:List (Int × Nat)->Array MapEntry
 | []=>#[]
 | (k,f)::r=>(Vq r).push ⟨O J k,.func (.func f) #[] #[],r.length⟩
def KM (w:wW) (b:Nat) (l:List (Int × Nat)):Prop:=w.heap[b]? = some (.map (Vq l) l.length)
theorem zBJ (k:Int):∀ (l:List MapEntry) (i:Nat),(∀ e ∈ l,∃ j,e.key=O J j/\j ≠ k)->Instr.findNow (.int J) (O J k) l i=some none
 | [],_,_=>rfl
 | e::r,i,h=>by
  obtain ⟨j,c,d⟩:=h e (qZ ..);have f:Instr.sameNow (.int J) (O J k) e.key=some false:=by
   rw [c];simp [Instr.sameNow];omega
  simp only [Instr.findNow,f];exact zBJ k r (i+1) λe a=>h e (oZ _ a)
theorem zD5 (k:Int):∀ l:List (Int × Nat),(∀ p ∈ l,p.1 ≠ k)->∀ e ∈ (Vq l).toList,∃ j,e.key=O J j/\j ≠ k
 | [],_,e,a=>by simp [Vq] at a
 | (q,f)::r,h,e,a=>by
  simp only [Vq,Array.toList_push,List.mem_append,List.mem_singleton] at a;rcases a with a | rfl
  ·exact zD5 k r (λp c=>h p (oZ _ c)) e a
  ·exact ⟨q,rfl,h (q,f) (qZ ..)⟩
theorem zRJ (a:Bool) (k:Int) (w:wW):(Instr.checkKey a 10000 3 (O J k)).run prog w=.ok () w:=kR
theorem zGv (l:List (Int × Nat)) (k:Int) (h:∀ p ∈ l,p.1 ≠ k) (w:wW):(Instr.findKey 3 (O J k) (Vq l).toList).run prog w=.ok none w:=by
 have a:=zBJ k (Vq l).toList 0 (zD5 k l h);simp [Instr.findKey,go_sem,a]
theorem zQe:prog.underlying 301=some (.map 3 299):=kR
theorem zFC {e:Array Oper} {c:List Oper} {g:Oper} {a:Act} {Q:Exit->Act->wW->Prop} (j:g.guard=none) (m x v:Operand) (q:g.op=.insert 301 m x v) (b:Nat) (n:a.eval m=.map (some b)) (k:Int) (t:a.eval x=O J k) (f:Nat) (s:a.eval v=.func (.func f) #[] #[])
  (r:List (Int × Nat)) (h:KM w b r) (o:∀ p ∈ r,p.1 ≠ k)
  (l:∀ w',KM w' b ((k,f)::r)->w.grownBy w' (some b)->wpList prog e Q c (a.put g.dst undef) w'):wpList prog e Q (g::c) a w:=by
 refine wpList_plain j λu i=>?_
 have d:=zE3 zQe h (.func (.func f) #[] #[]) (zRJ false k w) (zGv r k o w);unfold Oper.wp;simp [execOp,q,n,t,s,d,dZ];exact i _ _ (l _ (heap_setBlock_same h _) (zAX h _))
def kT:List (Int × Nat):=[(24,242),(23,241),(22,240),(21,239),(20,238),(15,237),(14,236),(13,235),(12,234),(11,233),(10,232),(9,231),(8,230),(7,229),(6,228),(5,227),(4,226),(3,225),(2,224),(1,223)]
theorem zD8 (w:wW):Calls prog 214 #[] w λe w'=>(∃ b,e=rX (.map (some b))/\KM w' b kT)/\bL w w':=by
 have c:KM (w.alloc (.map #[] 0)) w.heap.size []:=by
  show (w.alloc (.map #[] 0)).heap[w.heap.size]? = some (.map #[] 0)
  exact Array.getElem?_push_size
 have a:=QJ (aZ _ w) (.map #[] 0);have f:∀ w:wW,(Instr.makeMap 301 none).run prog w=.ok (.map (some w.heap.size)) (w.alloc (.map #[] 0)):=λw=>by kernel_rfl
 go_enter func214,ntmps214;go_upto_region 1 with fail
 go_wp2_with (refine zFC rfl _ _ _ rfl w.heap.size rfl _ rfl _ rfl _ c dM ?_;clear c;intro g c d;replace a:=a.grown d a.size (λk e=>by cases e;exact sZ _);clear d)
 go_ret;exact ⟨⟨_,rfl,c⟩,a⟩
end Go.Proofs.YtloponhikiddmaaGreatDoor
namespace Go.Proofs.YtloponhikiddmaaGreatDoor.Wc
def V8 (F:List (Nat × Int)):Nat->Nat->List Int
 | 0,_=>[]
 | _+1,0=>[]
 | f+1,k+1=>match F[k]? with
  | none=>[]
  | some x=>V8 F f x.1++[x.2]
structure Rows (F:List (Nat × Int)):Prop where
 ahead:∀ (k:Nat) (x:Nat × Int),F[k]? = some x->x.1<=k
 once:∀ (i j:Nat) (x:Nat × Int),F[i]? = some x->F[j]? = some x->i=j
theorem zAP (F:List (Nat × Int)) (f:Nat):V8 F f 0=[]:=by cases f <;> rfl
theorem JB (F:List (Nat × Int)) (f k:Nat) (x:Nat × Int) (h:F[k]? = some x):V8 F (f+1) (k+1)=V8 F f x.1++[x.2]:=by
 simp only [V8,h]
theorem zK3 {F:List (Nat × Int)} (h:Rows F):∀ (f m n:Nat),m<=f->n<=f->m<=F.length->n<=F.length->V8 F f m=V8 F f n->m=n:=by
 intro f;induction f with
 | zero=>intro m n p r _ _ _;omega
 | succ f t =>
  intro m n p r q s e;cases m with
  | zero =>
   cases n with
   | zero=>rfl
   | succ k =>
    obtain ⟨x,a⟩:∃ x,F[k]? = some x:=⟨_,bZ oM⟩
    rw [zAP,JB F f k x a] at e;simp at e
  | succ j =>
   obtain ⟨y,c⟩:∃ y,F[j]? = some y:=⟨_,bZ oM⟩
   cases n with
   | zero =>
    rw [zAP,JB F f j y c] at e;simp at e
   | succ k =>
    obtain ⟨x,a⟩:∃ x,F[k]? = some x:=⟨_,bZ oM⟩
    rw [JB F f j y c,JB F f k x a] at e;obtain ⟨d,g⟩:=List.append_inj' e rfl;have u:=h.ahead j y c;have z:=h.ahead k x a;have i:=t y.1 x.1 oM oM oM oM d;have l:y.2=x.2:=by simpa using g
    have o:y=x:=Prod.ext i l;rw [o] at c;rw [h.once j k x c a]
theorem zMK {F:List (Nat × Int)} (h:Rows F) (x:Nat × Int):∀ (f n:Nat),n<=F.length->V8 (F++[x]) f n=V8 F f n:=by
 intro f;induction f with
 | zero=>intro n _;rfl
 | succ f e =>
  intro n g;cases n with
  | zero=>rfl
  | succ k =>
   obtain ⟨y,c⟩:∃ y,F[k]? = some y:=⟨_,bZ oM⟩
   have d:(F++[x])[k]? = some y:=by rw [jZ oM];exact c
   have a:=h.ahead k y c;rw [JB F f k y c,JB _ f k y d,e y.1 oM]
theorem Rows.app {F:List (Nat × Int)} (h:Rows F) {x:Nat × Int} (o:x.1<=F.length) (g:∀ k:Nat,F[k]? ≠ some x):Rows (F++[x]):=by
 have a:∀ (k:Nat) (y:Nat × Int),(F++[x])[k]? = some y->F[k]? = some y \/ (k=F.length/\y=x):=by
  intro k y e;by_cases n:k<F.length
  ·rw [jZ n] at e;exact Or.inl e
  ·rw [List.getElem?_append_right oM] at e;by_cases m:k - F.length=0
   ·rw [m] at e;simp at e;exact Or.inr ⟨oM,e.symm⟩
   ·rw [nZ (by simp;omega)] at e;cases e
 refine ⟨λk y e=>?_,λi j y e1 e2=>?_⟩
 ·rcases a k y e with e | ⟨rfl,rfl⟩
  ·exact h.ahead k y e
  ·exact o
 ·rcases a i y e1 with d | ⟨p,f⟩
  ·rcases a j y e2 with c | ⟨l,f⟩
   ·exact h.once i j y d c
   ·rw [f] at d;exact absurd d (g i)
  ·rcases a j y e2 with c | ⟨l,_⟩
   ·rw [f] at c;exact absurd c (g j)
   ·rw [p,l]
theorem Rows.nil:Rows []:=⟨λk x e=>by simp at e,λi j x e=>by simp at e⟩
theorem zBu {F:List (Nat × Int)} (h:Rows F):∀ (f n g:Nat),n<=f->n<=g->n<=F.length->V8 F f n=V8 F g n:=by
 intro f;induction f with
 | zero =>
  intro n g d _ _;have e:n=0:=oM;rw [e,zAP,zAP]
 | succ f i =>
  intro n g d l j;cases n with
  | zero=>rw [zAP,zAP]
  | succ k =>
   obtain ⟨y,c⟩:∃ y,F[k]? = some y:=⟨_,bZ oM⟩
   have a:=h.ahead k y c;cases g with
   | zero=>omega
   | succ g=>rw [JB F f k y c,JB F g k y c,i y.1 g oM oM oM]
end Go.Proofs.YtloponhikiddmaaGreatDoor.Wc
namespace Go.Proofs.YtloponhikiddmaaGreatDoor
open Tryz
open Go.RowKit
open Go.ChangeMaps (setBlock heap_setBlock_same heap_setBlock_other)
open Go.ChangeShapes Go.WideShapes Go.MapKept
variable {w w' w'':wW} {S T:List Nat} {b:Nat} {F:List (Nat × Int)} {v:vW}
abbrev fr2 (x:Nat × Int):vW:=gX #[O J x.1,O J x.2]
def V9:Nat->List (Nat × Int)->List MapEntry
 | _,[]=>[]
 | i,x::r=>⟨fr2 x,O J ((i:Int)+1),i⟩::V9 (i+1) r
theorem zFf:∀ (F:List (Nat × Int)) (i:Nat) (x:Nat × Int),V9 i (F++[x])=V9 i F++[⟨fr2 x,O J (((i+F.length:Nat):Int)+1),i+F.length⟩]
 | [],i,x=>rfl
 | y::r,i,x=>by
  show _::V9 (i+1) (r++[x])=_::(V9 (i+1) r++_)
  rw [zFf r (i+1) x];have e:i+1+r.length=i+(r.length+1):=oM;rw [e];rfl
def FM (w:wW) (b:Nat) (F:List (Nat × Int)):Prop:=∃ es:Array MapEntry,w.heap[b]? = some (.map es F.length)/\es.toList=V9 0 F
theorem FM.lt (h:FM w b F):b<w.heap.size:=by
 obtain ⟨es,h,_⟩:=h;rcases iZ b w.heap.size with g | g
 ·exact g
 ·rw [cZ g] at h;cases h
theorem FM.below (h:FM w b F) (e:bL w w'):FM w' b F:=by
 have a:=h.lt;obtain ⟨es,c,d⟩:=h;exact ⟨es,by rw [e.block b a];exact c,d⟩
theorem zQf (a:Bool) (x y:Int) (w:wW):(Instr.checkKey a 10000 258 (gX #[O J x,O J y])).run prog w=.ok () w:=kR
theorem zNc (x y c d:Int) (w:wW):(Op.equal 258 (gX #[O J x,O J y]) (gX #[O J c,O J d])).run prog w=.ok ((x == c) && (y == d)) w:=by
 show (Op.equalIn (9998+2) 258 _ _).run _ _=_
 by_cases a:x=c
 ·by_cases e:y=d
  ·simp [go_sem,a,e]
  ·simp [go_sem,a,e]
 ·simp [go_sem,a]
theorem zNy (x y:Nat × Int) (w:wW):(Op.equal 258 (fr2 x) (fr2 y)).run prog w=.ok (y == x) w:=by
 rw [zNc];congr 1
 obtain ⟨a,b⟩:=x;obtain ⟨c,d⟩:=y;rw [Bool.eq_iff_iff];simp only [Bool.and_eq_true,beq_iff_eq,Prod.mk.injEq];omega
theorem zPW (x:Nat × Int) (w:wW):∀ (F:List (Nat × Int)) (i:Nat),(Instr.findAsking 258 (fr2 x) (V9 i F) i).run prog w=.ok ((F.findIdx? (· == x)).map λk=>(i+k,O J (((i+k:Nat):Int)+1))) w
 | [],i=>rfl
 | y::r,i=>by
  have h:=zPW x w r (i+1);have e:=zNy x y w;unfold V9;rw [List.findIdx?_cons];cases a:(y == x) with
  | true =>
   rw [a] at e;simp [Instr.findAsking,e,dZ]
  | false =>
   rw [a] at e;simp [Instr.findAsking,e,dZ,h];cases r.findIdx? (· == x) with
   | none=>rfl
   | some k =>
    simp;omega
theorem zQl (x:Nat × Int) (F:List (Nat × Int)) (w:wW):(Instr.findKey 258 (fr2 x) (V9 0 F)).run prog w=.ok ((F.findIdx? (· == x)).map λk=>(k,O J ((k:Int)+1))) w:=by
 have h:=zPW x w F 0;cases F with
 | nil=>simp [Instr.findKey,go_sem,V9,Instr.findNow]
 | cons y r =>
  simp [Instr.findKey,go_sem,V9,Instr.findNow,Instr.sameNow];simpa [V9] using h
structure Fr (S:List Nat) (w w':wW):Prop where
 os:w'.os=w.os
 tape:w'.tape=w.tape
 output:w'.output=w.output
 size:w.heap.size<=w'.heap.size
 block:∀ k:Nat,k<w.heap.size->k ∉ S->w'.heap[k]? = w.heap[k]?
theorem Fr.refl (S:List Nat) (w:wW):Fr S w w:=⟨rfl,rfl,rfl,sZ _,λ_ _ _=>rfl⟩
theorem Fr.of_below (S:List Nat) {w w':wW} (h:bL w w'):Fr S w w':=⟨h.os,h.tape,h.output,h.size,λk a _=>h.block k a⟩
theorem Fr.of_grown {row:Option Nat} (h:w.grownBy w' row) (d:∀ k,row=some k->k ∈ S):Fr S w w' :=
 ⟨h.os,h.tape,h.output,h.size,λk a c=>h.block k a (λe=>c (d k e.symm))⟩
theorem Fr.trans (h:Fr S w w') (a:Fr S w' w''):Fr S w w'' :=
 ⟨a.os.trans h.os,a.tape.trans h.tape,a.output.trans h.output,wZ h.size a.size,λk c d=>(a.block k (rZ c h.size) d).trans (h.block k c d)⟩
theorem Fr.mono (h:Fr S w w') (a:∀ k ∈ S,k ∈ T):Fr T w w':=⟨h.os,h.tape,h.output,h.size,λk hk hn=>h.block k hk (λe=>hn (a k e))⟩
theorem Fr.new (h:Fr S w w') (a:Fr T w' w'') (f:∀ k ∈ T,k ∈ S \/ w.heap.size<=k):Fr S w w'' :=
 ⟨a.os.trans h.os,a.tape.trans h.tape,a.output.trans h.output,wZ h.size a.size,λk c d=>(a.block k (rZ c h.size) (λe=>(f k e).elim d (λg=>absurd c (Nat.not_lt.2 g)))).trans (h.block k c d)⟩
theorem Fr.to_below (h:Fr S w w') (c:∀ k ∈ S,w.heap.size<=k):bL w w' :=
 ⟨h.os,h.tape,h.output,h.size,λk a=>h.block k a (λe=>absurd a (Nat.not_lt.2 (c k e)))⟩
theorem Q8 {o:Nat} (h:w.cell? ⟨b,o,none⟩=some v):b<w.heap.size:=by
 rcases iZ b w.heap.size with g | g
 ·exact g
 ·unfold mZ at h;simp only [cZ g] at h;cases h
theorem Fr.cell (h:Fr S w w') {b o:Nat} {v:vW} (a:w.cell? ⟨b,o,none⟩=some v) (c:b ∉ S):w'.cell? ⟨b,o,none⟩=some v:=by
 rw [<-a];unfold mZ;rw [h.block b (Q8 a) c]
theorem Fr.frozen (h:Fr S w w') {b o:Nat} (a:b<w.heap.size) (c:b ∉ S):w'.frozen? ⟨b,o,none⟩=w.frozen? ⟨b,o,none⟩:=by
 unfold World.frozen?;rw [h.block b a c]
theorem Fr.range (h:Fr S w w') {b o:Nat} {l:List vW} (c:w.rangeAt b o l) (a:b ∉ S):w'.rangeAt b o l:=λj v d=>h.cell (c j v d) a
theorem Fr.fm (h:Fr S w w') {b:Nat} {F:List (Nat × Int)} (c:FM w b F) (f:b ∉ S):FM w' b F:=by
 have a:=c.lt;obtain ⟨es,d,e⟩:=c;exact ⟨es,by rw [h.block b a f];exact d,e⟩
def JZ:List (Nat × Int)->List vW
 | []=>[]
 | x::r=>O J x.1 :: O J x.2::JZ r
theorem zDd:∀ F:List (Nat × Int),(JZ F).length=F.length * 2
 | []=>rfl
 | x::r=>by simp [JZ,zDd r];omega
theorem zB3:∀ (F G:List (Nat × Int)),JZ (F++G)=JZ F++JZ G
 | [],G=>rfl
 | x::r,G=>by simp [JZ,zB3 r G]
theorem zDW:∀ (F:List (Nat × Int)) (i:Nat) (h:i<F.length),(JZ F)[i * 2]? = some (O J (F[i]).1)/\(JZ F)[i * 2+1]? = some (O J (F[i]).2)
 | x::r,0,_=>⟨rfl,rfl⟩
 | x::r,i+1,h=>by
  have:=zDW r i (by simpa using h);have e:(i+1) * 2=i * 2+2:=oM;rw [e];exact this
structure FS (w:wW) (b mb:Nat) (lv:vW) (F:List (Nat × Int)):Prop where
 hd:w.cell? ⟨b,1,none⟩=some lv
 hf:w.frozen? ⟨b,1,none⟩=false
 own:w.ownsRow (b+1) 258 2 lv F.length (JZ F)
 mp:w.cell? ⟨b,2,none⟩=some (.map (some mb))
 fm:FM w mb F
 lt:mb<b
theorem QM {B:Nat} {T:TypeId} {k:Nat} {n:Nat} {j:List vW} (h:w.ownsRow B T k v n j) {g:Nat} (e:v.ownBlock=some g):B<=g/\g<w.heap.size:=by
 rcases h.2 with ⟨rfl,_⟩ | ⟨a,cap,d,rfl,i,c,_⟩
 ·cases e
 ·have f:a=g:=by simpa [Value.ownBlock] using e
  subst f;refine ⟨i,?_⟩;rcases iZ a w.heap.size with q | q
  ·exact q
  ·rw [cZ q] at c;cases c
theorem Q2 (h:Fr S w w') {B:Nat} {T:TypeId} {k:Nat} {v:vW} {n:Nat} {f:List vW} (d:w.ownsRow B T k v n f) (l:∀ g,v.ownBlock=some g->g ∉ S):w'.ownsRow B T k v n f:=by
 have i:=λ{g} (e:v.ownBlock=some g)=>QM d e
 refine ⟨d.1,?_⟩;rcases d.2 with q | ⟨g,cap,a,rfl,c,j,m,o,p,r⟩
 ·exact Or.inl q
 ·exact Or.inr ⟨g,cap,a,rfl,c,by rw [h.block g (i rfl).2 (l g rfl)];exact j,m,o,p,r⟩
theorem FS.list {u:Nat} {lv:vW} (h:FS w b u lv F):FoldL w b 1 (F.map λx=>((x.1:Int),x.2)):=by
 rcases h.own.2 with ⟨e,n⟩ | ⟨g,cap,m,e,p,r,B,C,D,A⟩
 ·have o:F=[]:=List.eq_nil_of_length_eq_zero n;subst o;refine ⟨none,0,by rw [h.hd,e];rfl,λi d=>absurd d (Nat.not_lt_zero _)⟩
 ·refine ⟨some ⟨g,0,none⟩,cap,by rw [h.hd,e];simp,λi d=>⟨g,0,rfl,?_⟩⟩;have f:i<F.length:=by simpa using d
  have t:=zDd F;have a:∀ j v,(JZ F)[j]? = some v->w.cell? ⟨g,j,none⟩=some v:=by
   intro j v c;have s:j<F.length * 2:=by
    rw [<-t];rcases iZ j (JZ F).length with q | q
    ·exact q
    ·rw [nZ q] at c;cases c
   rw [<-A,List.getElem?_take_of_lt s] at c;unfold mZ;simp only [r];simpa using c
  obtain ⟨y,z⟩:=zDW F i f;have k:=a _ _ y;have l:=a _ _ z;simp only [List.getElem_map,vZ];exact ⟨k,l⟩
