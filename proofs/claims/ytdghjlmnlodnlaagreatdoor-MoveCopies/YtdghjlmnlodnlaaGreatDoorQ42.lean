/- MRefC, MWalkE, MWalkF, MLawCopies, TLaid. -/
import Derived.Test.YtdghjlmnlodnlaaGreatDoorQ41
import Derived.Lib.LaidTab
import Derived.Deep.Strs
import Derived.Stop.LaidErr
set_option maxHeartbeats 4000000
set_option maxRecDepth 100000
namespace Go.Proofs.YtdghjlmnlodnlaaGreatDoor
open Tryz
open Go.RowKit Go.Shelf
set_option linter.unusedVariables false
variable {w W:World} {n:Nat} {rest:List (String × DataW Unit)}
theorem zMU (c:UInt8) (t:List UInt8):(⟨(c::t).toArray⟩:ByteArray).extract 1 (t.length+1)=⟨t.toArray⟩:=by
 apply ByteArray.ext
 rw [ByteArray.data_extract];simp
theorem zKq (b:ByteArray) (x y:Int) (w:World) (hs:b.size<=9223372036854775807) (hh:¬ b.data.toList.head? = some 61) :
  CR 11 #[.string b,.int .i64 x,.int .i64 y] w (.tuple #[.string b,.int .i64 0]):=by
 cases hq:b.data.toList with
 | nil =>
  have hz:b.size=0:=by
   have:b.data.toList.length=0:=by rw [hq];rfl
   rw [Array.length_toList] at this;exact this
  clear hh hs;go_enter func11,ntmps11;go_wp2;go_ret2
  exact ⟨rfl,Below.refl _ _⟩
 | cons c t =>
  have hb:b=⟨(c::t).toArray⟩:=by
   have:b=⟨b.data.toList.toArray⟩:=by rw [Array.toArray_toList]
   rw [this,hq]
  rw [hq] at hh;have hc:¬ c=61:=λh=>hh (by rw [h];rfl)
  have hc2:¬ (c.toNat:Int)=61:=λh=>hc (UInt8.toNat_inj.1 (show c.toNat=61 by omega))
  subst hb;have hx0:((((⟨(c::t).toArray⟩:ByteArray)[0]'(Nat.succ_pos _)).toNat:Int) != 61)=true:=by
   show ((c.toNat:Int) != 61)=true
   simp [hc2]
  have hz0:((t.length:Int)+1 == 0)=false:=by simp;omega
  have hsz:(⟨(c::t).toArray⟩:ByteArray).size=t.length+1:=rfl;clear hh hq hc hc2;go_enter func11,ntmps11;go_wp2;go_ret2
  exact ⟨rfl,Below.refl _ _⟩
theorem zJa (b:ByteArray) (x y:Int) (w:World) (hs:b.size<=9223372036854775807) (hx:-9223372036854775808<=x/\x<=9223372036854775807) (hy:-9223372036854775808<=y/\y<=9223372036854775807) :
  CR 11 #[.string b,.int .i64 x,.int .i64 y] w (.tuple #[.string ⟨(cpR x y b.data.toList).1.toArray⟩,.int .i64 (cpR x y b.data.toList).2]):=by
 by_cases hh:b.data.toList.head? = some 61
 ·obtain ⟨t,ht⟩:∃ t,b.data.toList=61::t:=by
   cases hq:b.data.toList with
   | nil=>rw [hq] at hh;cases hh
   | cons c t=>rw [hq] at hh;obtain rfl:=Option.some.inj hh;exact ⟨t,rfl⟩
  have hb:b=⟨(61::t).toArray⟩:=by
   have:b=⟨b.data.toList.toArray⟩:=by rw [Array.toArray_toList]
   rw [this,ht]
  have htl:t.length<=9223372036854775806:=by
   have:b.size=t.length+1:=by rw [hb];rfl
   omega
  have S:=λw=>zIN ⟨t.toArray⟩ w (by show t.length<=_;omega)
  have e0:(⟨t.toArray⟩:ByteArray).data.toList=t:=by simp
  rw [e0] at S;rw [ht,zKO,hb];have EX:=zMU 61 t;have hsz:(⟨(61::t).toArray⟩:ByteArray).size=t.length+1:=rfl;have hx0:((((⟨(61::t).toArray⟩:ByteArray)[0]'(Nat.succ_pos _)).toNat:Int) != 61)=false:=rfl;have hz0:((t.length:Int)+1 == 0)=false:=by simp;omega
  clear hb ht hh hs e0;cases hr:zHB t with
  | inr q =>
   obtain ⟨c,p⟩:=q;rw [hr] at S;simp only [zBu] at S;have hc:=zFV hr;have hci:(c != 0)=true:=by simp [hc]
   have e:cpF x y (.inr (c,p))=([],c):=rfl;rw [e];clear hr e;go_enter func11,ntmps11;go_wp2_with fail
   refine (S w).mono ?_;rintro e w2 ⟨rfl,hb2⟩;go_wp2;go_ret2
   exact ⟨rfl,hb2⟩
  | inl row =>
   rw [hr] at S;simp only [zBu] at S;obtain ⟨hf,hc⟩:=zHL hr;have hc2:=zHc hc x y;have hpl:=zH4 hc2;have hf2:∀ n ∈ row.map (mvN x y),Wt.FitN n:=by
    intro n hn;obtain ⟨m,hm,rfl⟩:=List.mem_map.1 hn;exact zNH (hf m hm) x y
   have h256:=(zA8 hc).1;have e:cpF x y (.inl row)=zJn (zIO (row.map (mvN x y))):=rfl;rw [e];have SH:=λav cap w hr=>zJv av cap row x y w hf hr hc hx hy
   have PR:=λav cap w hr=>zIG av cap (row.map (mvN x y)) w (by rw [List.length_map];omega) hf2 hr
   rw [hc2] at PR;obtain ⟨m,hm⟩:∃ m,row.map (mvN x y)=m:=⟨_,rfl⟩
   rw [hm] at SH PR hpl ⊢;generalize zIO m=u at *;obtain ⟨q,hq⟩:∃ q,zJn u=q:=⟨_,rfl⟩
   rw [hq];have HQ:Hid (zJn u=q):=hq;clear hr e hf hc hc2 hf2 h256 hm hq;go_enter func11,ntmps11;go_wp2_with fail
   refine (S w).mono ?_;rintro e w2 ⟨⟨v,rfl,hown⟩,hb2⟩;obtain ⟨av,cap,rfl,hrd⟩:=hown.form;clear S hown;go_wp2_with fail
   refine (SH av cap w2 hrd).mono ?_;rintro e w3 ⟨⟨v,rfl,hown⟩,hb3⟩;have hB3:=zAA hb2 hb3;obtain ⟨av3,cap3,rfl,hrd3⟩:=hown.form;clear SH hrd hb3 hown;go_wp2_with fail
   refine (PR av3 cap3 w3 hrd3).mono ?_;rintro e w4 ⟨rfl,hb4⟩;have hB4:=zAA hB3 hb4;have hus:(⟨u.toArray⟩:ByteArray).size=u.length:=rfl;clear PR hrd3;have hq:=HQ.out;unfold zJn at hq;by_cases h:1023<u.length
   ·rw [if_pos h] at hq;subst hq;have hd:decide (1024<(u.length:Int)+1)=true:=by simp;omega
    go_wp2;go_ret2
    exact ⟨rfl,hB4⟩
   ·rw [if_neg h] at hq;subst hq;have hd:decide (1024<(u.length:Int)+1)=false:=by simp;omega
    have CA:(⟨#[61]⟩:ByteArray)++⟨u.toArray⟩=⟨(61::u).toArray⟩:=by
     apply ByteArray.ext
     rw [ByteArray.data_append];simp
    go_wp2;go_ret2
    exact ⟨rfl,hB4⟩
 ·have e:cpR x y b.data.toList=(b.data.toList,0):=if_neg hh;have e2:(⟨b.data.toList.toArray⟩:ByteArray)=b:=by rw [Array.toArray_toList]
  rw [e];simp only;rw [e2];exact zKq b x y w hs hh
theorem zL2 {B cap:Nat} {av:Option Addr} {row:List Wt.Nd} (h:OwnN w B (.slice av n cap) row):row.length<=cap:=by
 rcases h.2 with ⟨e,h0⟩ | ⟨g,cap',cur,e,hg,hc,h1,_⟩
 ·omega
 ·simp only [Value.slice.injEq] at e;omega
theorem zOL (s:ByteArray) (w:World) (hx:¬ s.data.toList.head? = some 61) :
  Calls prog 18 #[.string s,.string ⟨#[61]⟩] w λe w'=>e=.returned (.tuple #[.string s,.bool false])/\w=w':=by
 by_cases h0:0<s.size
 ·have h1:(1:Int)<=(s.size:Int):=by omega
  have hx1:((s.extract 0 1).toList == [61])=false:=by
   rw [beq_eq_false_iff_ne];intro e;apply hx
   rw [ByteArray.toList_eq,ByteArray.data_extract,Array.toList_extract] at e;cases hq:s.data.toList with
   | nil=>rw [hq] at e;simp at e
   | cons c t=>rw [hq] at e;simp [List.extract] at e;rw [e];rfl
  clear hx;go_enter func18,ntmps18;go_wp2;go_ret2
  exact ⟨rfl,rfl⟩
 ·have h1:¬ (1:Int)<=(s.size:Int):=by omega
  clear hx;go_enter func18,ntmps18;go_wp2;go_ret2
  exact ⟨rfl,rfl⟩
theorem zLE (t:List UInt8) (w:World) (ht:t.length<=9223372036854775806) :
  Calls prog 18 #[.string ⟨(61::t).toArray⟩,.string ⟨#[61]⟩] w λe w'=>e=.returned (.tuple #[.string ⟨t.toArray⟩,.bool true])/\w=w':=by
 obtain ⟨s,hs⟩:∃ s:ByteArray,s=⟨(61::t).toArray⟩:=⟨_,rfl⟩
 have h0:s.size=t.length+1:=by rw [hs];rfl
 have hx1:((s.extract 0 1).toList == [61])=true:=by rw [hs];simp [ByteArray.toList_eq,ByteArray.data_extract,List.extract]
 have hx2:s.extract 1 s.size=⟨t.toArray⟩:=by
  rw [h0,hs];apply ByteArray.ext
  rw [ByteArray.data_extract];apply Array.ext'
  simp [List.extract]
 have h1:(1:Int)<=(s.size:Int):=by omega
 rw [<-hs];clear hs h0;go_enter func18,ntmps18;go_wp2;go_ret2
 exact ⟨rfl,rfl⟩
theorem zPf (u:List UInt8):(⟨#[61]⟩:ByteArray)++⟨u.toArray⟩=⟨(61::u).toArray⟩:=by
 apply ByteArray.ext
 rw [ByteArray.data_append];apply Array.ext'
 simp
theorem zLv (u:List UInt8) (w:World) (hu:True->u.length<=1000000) :
  Calls prog 21 #[.string ⟨u.toArray⟩] w λe w'=>e=.returned (.tuple #[.string ⟨(zJn u).1.toArray⟩,.int .i64 (zJn u).2])/\w=w':=by
 have hc:=zPf u;have hl:¬ 9223372036854775807<1+u.length:=by have:=hu trivial;omega
 unfold zJn;by_cases h:1023<u.length
 ·rw [if_pos h];have hi:(1024:Int)<(u.length:Int)+1:=by omega
  clear hu h;go_enter func21,ntmps21;go_wp2;go_ret2
  exact ⟨rfl,rfl⟩
 ·rw [if_neg h];have hi:¬ (1024:Int)<(u.length:Int)+1:=by omega
  clear hu h;go_enter func21,ntmps21;go_wp2;go_ret2
  exact ⟨rfl,rfl⟩
theorem zHR (b:ByteArray) (x y:Int) (w:World) (hE:Env w) (hk8:8<=w.heap.size) (hs:b.size<=9223372036854775807) :
  CR 10 #[.string b,.int .i64 x,.int .i64 y] w (.tuple #[.string ⟨(cpR x y b.data.toList).1.toArray⟩,.int .i64 (cpR x y b.data.toList).2]):=by
 by_cases hh:b.data.toList.head? = some 61
 ·obtain ⟨t,ht⟩:∃ t,b.data.toList=61::t:=by
   cases hq:b.data.toList with
   | nil=>rw [hq] at hh;cases hh
   | cons c t=>rw [hq] at hh;obtain rfl:=Option.some.inj hh;exact ⟨t,rfl⟩
  have hb:b=⟨(61::t).toArray⟩:=by
   have:b=⟨b.data.toList.toArray⟩:=by rw [Array.toArray_toList]
   rw [this,ht]
  have htl:t.length<=9223372036854775806:=by
   have:b.size=t.length+1:=by rw [hb];rfl
   omega
  have CU:=λw=>zLE t w htl
  have S:=λw hE hk8=>zJ3 ⟨t.toArray⟩ w hE (by show t.length<=_;omega) hk8
  have e0:(⟨t.toArray⟩:ByteArray).data.toList=t:=by simp
  rw [e0] at S;rw [ht,zKO,hb];clear hb ht hh hs e0 htl;cases hr:zHB t with
  | inr q =>
   obtain ⟨c,p⟩:=q;rw [hr] at S;simp only [zBu] at S;have hc:=zFV hr;have hci:(c != 0)=true:=by simp [hc]
   have e:cpF x y (.inr (c,p))=([],c):=rfl;rw [e];clear hr e;go_enter func10,ntmps10;go_wp2_with fail
   refine (CU w).mono ?_;rintro e w1 ⟨rfl,rfl⟩;go_wp2_with fail
   refine (S w hE hk8).mono ?_;rintro e w2 ⟨rfl,hb2⟩;go_wp2;go_ret2
   exact ⟨rfl,hb2⟩
  | inl row =>
   rw [hr] at S;simp only [zBu] at S;obtain ⟨hf,hc⟩:=zHL hr;have hc2:=zHc hc x y;have hpl:=zH4 hc2;have hf2:∀ n ∈ row.map (mvN x y),Wt.FitN n:=by
    intro n hn;obtain ⟨m,hm,rfl⟩:=List.mem_map.1 hn;exact zNH (hf m hm) x y
   have h256:=(zA8 hc).1;have e:cpF x y (.inl row)=zJn (zIO (row.map (mvN x y))):=rfl;rw [e];have SH:=λav cap w hO hr=>zIi av cap row x y w hf hO hr hc
   have PR:=λav cap w hE hr hcap hk8=>zJJ av cap (row.map (mvN x y)) w (by rw [List.length_map];omega) hf2 hE hr hcap hk8
   rw [hc2] at PR;obtain ⟨m,hm⟩:∃ m,row.map (mvN x y)=m:=⟨_,rfl⟩
   rw [hm] at SH PR hpl ⊢;generalize zIO m=u at *;have CT:=λw=>zLv u w (λ_=>by omega)
   generalize zJn u=q at *;clear hr e hf hc hc2 hf2 hpl h256 hm;go_enter func10,ntmps10;go_wp2_with fail
   refine (CU w).mono ?_;rintro e w1 ⟨rfl,rfl⟩;go_wp2_with fail
   refine (S w hE hk8).mono ?_;rintro e w2 ⟨⟨v,rfl,hown⟩,hb2⟩;obtain ⟨av,cap,rfl,hrd⟩:=hown.form;clear S CU hown;go_wp2_with fail
   refine (SH av cap w2 (hE.below hb2).1 hrd).mono ?_;rintro e w3 ⟨⟨v,rfl,hown⟩,hb3⟩;have hB3:=zAA hb2 hb3;obtain ⟨av3,cap3,rfl,hrd3⟩:=hown.form;have hcap:=zL2 hown;clear SH hrd hb3 hown;go_wp2_with fail
   refine (PR av3 cap3 w3 (hE.below hB3) hrd3 hcap (Nat.le_trans hk8 hB3.size)).mono ?_;rintro e w4 ⟨rfl,hb4⟩;have hB4:=zAA hB3 hb4;clear PR hrd3 hcap;go_wp2_with fail
   refine (CT w4).mono ?_;rintro e w5 ⟨rfl,rfl⟩;go_wp2;go_ret2
   exact ⟨rfl,hB4⟩
 ·have CU:=λw=>zOL b w hh
  have e:cpR x y b.data.toList=(b.data.toList,0):=if_neg hh;have e2:(⟨b.data.toList.toArray⟩:ByteArray)=b:=by rw [Array.toArray_toList]
  rw [e];simp only;rw [e2];clear e e2 hh;go_enter func10,ntmps10;go_wp2_with fail
  refine (CU w).mono ?_;rintro e w1 ⟨rfl,rfl⟩;go_wp2;go_ret2
  exact ⟨rfl,Below.refl _ _⟩
theorem zJk (w:World) (hE:Env w) (hk8:8<=w.heap.size):CR 8 #[] w (.bool true):=by
 have C:=zHR ⟨#[61,65,49]⟩ 1 0 w hE hk8 (by decide);have e0:(⟨#[61,65,49]⟩:ByteArray).data.toList=[61,65,49]:=rfl;rw [e0,zNV] at C;clear e0;go_enter func8,ntmps8;go_wp2_with fail
 refine C.mono ?_;rintro e w1 ⟨rfl,hb⟩;go_wp2;go_ret;exact ⟨by simp,hb⟩
theorem zFh (b:ByteArray) (x y:Int) (w:World) (hE:Env w) (hk8:8<=w.heap.size) (hs:b.size<=9223372036854775807) (hx:-9223372036854775808<=x/\x<=9223372036854775807) (hy:-9223372036854775808<=y/\y<=9223372036854775807) :
  CR 4 #[.string b,.int .i64 x,.int .i64 y] w (.bool true):=by
 have C1:=zHR b x y w hE hk8 hs;have C2:=λw=>zJa b x y w hs hx hy
 have A:=λw hE hk=>zJk w hE hk
 have HE:Hid (Env w):=hE;generalize cpR x y b.data.toList=q at *;obtain ⟨u,c⟩:=q;simp only at C1 C2;generalize (⟨u.toArray⟩:ByteArray)=z at *;clear hE hs hx hy;go_enter func4,ntmps4;go_wp2_with fail
 refine C1.mono ?_;rintro e w1 ⟨rfl,hb1⟩;go_wp2_with fail
 refine (C2 w1).mono ?_;rintro e w2 ⟨rfl,hb2⟩;have hB2:=zAA hb1 hb2;have A2:=A w2 (HE.out.below hB2) (Nat.le_trans hk8 hB2.size);clear A C1 C2;go_wp2_with fail
 refine A2.mono ?_;rintro e w3 ⟨rfl,hb3⟩;have hB3:=zAA hB2 hb3;go_wp2;go_ret;exact ⟨by simp,hB3⟩
open Go.RowKit
theorem zEN {H:Type} {enc:TypeId × Value->H} {P:Program} {base:Nat} {sp:Nat->Bool} {held:Bool} {fuel:Nat} {t e:TypeId} {c:Nat} {cs:List Value} {ds:List (DataW H)} {p:List MemPlace}
  (ht:P.underlying t=some (.array n e)) (hce:P.cellsOf e=c) (hct:P.cellsOf t=n * c)
  (h:DataW.trod enc P w base sp held fuel t cs=some (.agg ds,p)):cs.length=n * c/\ds.length=n/\∀ i d,ds[i]? = some d->∃ fuel' p',DataW.trod enc P w base sp held fuel' e ((cs.drop (i * c)).take c)=some (d,p'):=by
 cases fuel with
 | zero=>simp [DataW.trod] at h
 | succ fuel =>
  simp only [DataW.trod,ht,hce,hct] at h;split at h
  ·rename_i hl
   obtain ⟨xs,hm,hx⟩:=Option.map_eq_some_iff.1 h;have hxs:xs.map (·.1)=ds:=by
    have:=congrArg Prod.fst hx;simpa using this
   have hxl:xs.length=n:=by simpa using Lib.mapM_length hm
   refine ⟨by simpa using hl,by rw [<-hxs];simpa using hxl,λi d hd=>?_⟩;have hi:i<n:=by
    have:=(List.getElem?_eq_some_iff.1 hd).1;rw [<-hxs,List.length_map] at this;omega
   obtain ⟨b,hb,hf⟩:=Lib.mapM_at hm i i (by simp [hi]);have:(xs.map (·.1))[i]? = some b.1:=by simp [hb]
   rw [hxs,hd] at this;obtain rfl:=Option.some.inj this;exact ⟨fuel,b.2,hf⟩
  ·cases h
theorem zP2 {s:ByteArray} {l:List UInt8} (h:s.data.toList=l):s=⟨l.toArray⟩:=by
 apply ByteArray.ext
 apply Array.ext'
 rw [h]
theorem zQE (h:laidMet prog (("whittle/value.faultNames",.agg (fNames.map λx=>.lit (.string x)))::rest) W):FltAt W:=by
 obtain ⟨ps,⟨g',t',cs,fuel,p,q,hg',ht',hvar,hd,_,_⟩,_⟩:=h;have hg:prog.globalNamed "whittle/value.faultNames" = some 1:=by kernel_rfl
 have hty:(prog.globals[1]?).map (·.type)=some 190:=by kernel_rfl
 obtain rfl:=Option.some.inj (hg.symm.trans hg');obtain rfl:=Option.some.inj (hty.symm.trans ht');obtain ⟨h1,h2,h3⟩:=zEN (n:=9) (c:=1) (e:=9) underlying190 (by kernel_rfl) (by kernel_rfl) hd;intro j v hv;unfold fltR at hv;rw [List.getElem?_map] at hv;obtain ⟨x,hx,rfl⟩:=Option.map_eq_some_iff.1 hv;obtain ⟨fu,p',ht⟩:=h3 j (.lit (.string x)) (by rw [List.getElem?_map,hx];rfl);obtain ⟨s,e1,e2,_⟩:=DataW.trod_string underlying9 ht;simp only [Prod.mk.injEq,DataW.lit.injEq,Lit.string.injEq] at e2;rw [Nat.zero_add,World.var?_cell hg hvar j];have:cs.toList[j]? = some (.string s):=by
  have:=congrArg (·[0]?) e1;simpa [List.getElem?_take,List.getElem?_drop] using this
 rw [Array.getElem?_toList] at this;rw [this,zP2 e2.1.symm]
theorem zPD {α β:Type} (f:α->List β) (hf:∀ x,(f x).length=3):∀ (l:List α) (i:Nat) (hi:i<l.length) (r:Nat),r<3->(l.flatMap f)[i * 3+r]? = (f l[i])[r]?
 | [],i,hi,r,hr=>absurd hi (Nat.not_lt_zero _)
 | x::l,0,hi,r,hr=>by
  rw [List.flatMap_cons,List.getElem?_append_left (by rw [hf];omega)];simp
 | x::l,i+1,hi,r,hr=>by
  rw [List.flatMap_cons,List.getElem?_append_right (by rw [hf];omega),hf,show (i+1) * 3+r - 3=i * 3+r by omega];rw [zPD f hf l i (by simpa using hi) r hr];simp
theorem zPp (h:laidMet prog (("whittle/tree.operators",.agg (Wt.opsT.map λx=>.agg [.lit (.int .i64 x.1),.lit (.string x.2.1),.lit (.int .i64 x.2.2)]))::rest) W):OpsAt W:=by
 obtain ⟨ps,⟨g',t',cs,fuel,p,q,hg',ht',hvar,hd,_,_⟩,_⟩:=h;have hg:prog.globalNamed "whittle/tree.operators" = some 0:=by kernel_rfl
 have hty:(prog.globals[0]?).map (·.type)=some 158:=by kernel_rfl
 obtain rfl:=Option.some.inj (hg.symm.trans hg');obtain rfl:=Option.some.inj (hty.symm.trans ht');obtain ⟨h1,h2,h3⟩:=zEN (n:=15) (c:=3) (e:=131) underlying158 (by kernel_rfl) (by kernel_rfl) hd;have c3:prog.cellsOf 3=1:=by kernel_rfl
 have c9:prog.cellsOf 9=1:=by kernel_rfl
 have key:∀ i x,Wt.opsT[i]? = some x->cs.toList[i * 3]? = some (.int .i64 x.1)/\cs.toList[i * 3+1]? = some (.string ⟨x.2.1.toArray⟩)/\cs.toList[i * 3+2]? = some (.int .i64 x.2.2):=by
  intro i x hx;obtain ⟨fu,p',ht⟩:=h3 i _ (by rw [List.getElem?_map,hx];rfl);obtain ⟨y0,y1,y2,n,e,-,t0,t1,t2⟩:=Deep.trod_struct3 underlying131 ht;simp only [Prod.mk.injEq,DataW.agg.injEq,List.cons.injEq,and_true] at e;obtain ⟨z0,f0,g0,_⟩:=DataW.trod_int underlying3 t0;obtain ⟨z1,f1,g1,_⟩:=DataW.trod_string underlying9 t1;obtain ⟨z2,f2,g2,_⟩:=DataW.trod_int underlying3 t2;subst g0 g1 g2;simp only [DataW.lit.injEq,Lit.int.injEq,Lit.string.injEq,true_and] at e;obtain ⟨⟨rfl,e1,rfl⟩,-⟩:=e;simp only [c3] at f0 f2;simp only [c9] at f1;have q0:=congrArg (·[0]?) f0;have q1:=congrArg (·[0]?) f1;have q2:=congrArg (·[0]?) f2;simp [List.getElem?_drop] at q0 q1 q2;refine ⟨?_,?_,?_⟩
  ·rw [Array.getElem?_toList];exact q0
  ·rw [Array.getElem?_toList,q1,zP2 e1.symm]
  ·rw [Array.getElem?_toList];exact q2
 intro j v hv;rw [Nat.zero_add,World.var?_cell hg hvar j];have hj:j<45:=by
  have:=(List.getElem?_eq_some_iff.1 hv).1;have e:opsR.length=45:=rfl;omega
 have hi:j / 3<Wt.opsT.length:=by show j / 3<15;omega
 obtain ⟨k0,k1,k2⟩:=key (j / 3) _ (List.getElem?_eq_getElem hi);have hf:=zPD (λx:Int × List UInt8 × Int=>([.int .i64 x.1,.string ⟨x.2.1.toArray⟩,.int .i64 x.2.2]:List Value)) (λ_=>rfl) Wt.opsT (j / 3) hi;have hm:j % 3=0 \/ j % 3=1 \/ j % 3=2:=by omega
 rcases hm with hm | hm | hm
 ·have e:j=j / 3 * 3+0:=by omega
  have:=hf 0 (by decide);rw [<-e] at this;rw [show opsR[j]? = _ from this] at hv;rw [show j=j / 3 * 3 by omega,<-Array.getElem?_toList,k0];exact hv
 ·have e:j=j / 3 * 3+1:=by omega
  have:=hf 1 (by decide);rw [<-e] at this;rw [show opsR[j]? = _ from this] at hv;rw [e,<-Array.getElem?_toList,k1];exact hv
 ·have e:j=j / 3 * 3+2:=by omega
  have:=hf 2 (by decide);rw [<-e] at this;rw [show opsR[j]? = _ from this] at hv;rw [e,<-Array.getElem?_toList,k2];exact hv
