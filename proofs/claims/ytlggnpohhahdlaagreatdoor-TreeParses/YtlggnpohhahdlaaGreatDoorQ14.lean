/- NPlainC, NPlainE, NWalkK, TWordB, TWordC, TPart, TPartB, TPartC. -/
import Derived.Test.YtlggnpohhahdlaaGreatDoorQ13
import Derived.Lib.Bytealg
import Derived.Shelf.Strings.Search1
import Derived.Ground.NamesProg
set_option maxHeartbeats 4000000
set_option maxRecDepth 100000
namespace Wpl
def vl (c:UInt8):Nat:=c.toNat - 65+1
def fv (k:Nat) (D:List UInt8):Nat:=D.foldl (fun n c=>n * 10+(c.toNat - 48)) k
theorem fv_cons (k:Nat) (c:UInt8) (t:List UInt8):fv k (c::t)=fv (k * 10+(c.toNat - 48)) t:=by unfold fv;rw [List.foldl_cons]
def noL (l:List UInt8):Bool:=match l with | []=>true | c::_=>!isL c
def allG (D:List UInt8):Bool:=D.all isG
theorem rc_stop (k:Nat) (t:List UInt8) (h:noL t=true):rc k t=(k,t):=by
 cases t with
 | nil=>rfl
 | cons c u =>
  unfold rc;rw [if_neg];simp [noL] at h;simp [h]
theorem rc_go {k:Nat} {c:UInt8} (t:List UInt8) (h:isL c=true) (hk:k≤256):rc k (c::t)=rc (k * 26+(c.toNat - 65)+1) t:=by
 conv=>lhs;unfold rc
 rw [if_pos ⟨h,hk⟩]
theorem rd_go {k:Nat} {c:UInt8} (t:List UInt8) (h:isG c=true) (hk:k≤65536):rd k (c::t)=rd (k * 10+(c.toNat - 48)) t:=by
 conv=>lhs;unfold rd
 rw [if_pos ⟨h,hk⟩]
theorem rd_inv:∀ (D:List UInt8) (k:Nat),(rd k D).2=[]→allG D=true∧(rd k D).1=fv k D
 | [],k,_=>⟨rfl,rfl⟩
 | c::t,k,h=>by
  by_cases hc:isG c=true∧k≤65536
  ·rw [rd_go t hc.1 hc.2] at h ⊢;obtain ⟨h1,h2⟩:=rd_inv t _ h;exact ⟨by simp [allG,hc.1];simpa [allG] using h1,h2⟩
  ·unfold rd at h;rw [if_neg hc] at h;cases h
theorem rd_val:∀ (D:List UInt8) (k:Nat),allG D=true→(k+1) * 10 ^ (D.length - 1)≤65537→rd k D=(fv k D,[])
 | [],k,_,_=>rfl
 | c::t,k,h,hk=>by
  simp only [allG,List.all_cons,Bool.and_eq_true] at h;have hc:=h.1;simp only [isG,decide_eq_true_eq] at hc;have h1:1≤10 ^ t.length:=Nat.one_le_pow _ _ (by omega);have hk':(k+1) * 10 ^ t.length≤65537:=by simpa using hk
  have h2:k+1≤(k+1) * 10 ^ t.length:=Nat.le_mul_of_pos_right _ h1;rw [rd_go t h.1 (by omega),fv_cons];cases t with
  | nil=>rfl
  | cons d u =>
   refine rd_val (d::u) _ (by simpa [allG] using h.2) ?_;have e:(d::u).length - 1=u.length:=by simp
   rw [e];have e2:10 ^ (d::u).length=10 * 10 ^ u.length:=by rw [List.length_cons,Nat.pow_succ,Nat.mul_comm]
   rw [e2] at hk';have h3:(k * 10+(c.toNat - 48)+1) * 10 ^ u.length≤((k+1) * 10) * 10 ^ u.length:=Nat.mul_le_mul_right _ (by omega);rw [Nat.mul_assoc] at h3;omega
theorem fv_ge:∀ (D:List UInt8) (k:Nat),k * 10 ^ D.length≤fv k D
 | [],k=>by simp [fv]
 | c::t,k=>by
  rw [fv_cons];have:=fv_ge t (k * 10+(c.toNat - 48));have h2:(k * 10) * 10 ^ t.length≤(k * 10+(c.toNat - 48)) * 10 ^ t.length:=Nat.mul_le_mul_right _ (by omega);rw [List.length_cons,Nat.pow_succ,Nat.mul_comm (10 ^ t.length) 10,←Nat.mul_assoc];omega
def dgOk (D:List UInt8):Bool:=decide ((rr D).2=[]∧1≤(rr D).1∧(rr D).1≤65536)
theorem dg_nil:dgOk []=false:=by decide
theorem dg_zero (t:List UInt8):dgOk (48::t)=false:=by
 have h:(48::t).head? = some (48:UInt8):=rfl;unfold dgOk rr;rw [if_pos h];simp
theorem dg_not {c:UInt8} {t:List UInt8} (h0:c ≠ 48) (h:allG (c::t)=false):dgOk (c::t)=false:=by
 unfold dgOk rr;rw [if_neg (by simpa using h0),decide_eq_false];rintro ⟨h1,_⟩;rw [(rd_inv _ _ h1).1] at h;cases h
theorem dg_long {c:UInt8} {t:List UInt8} (h0:c ≠ 48) (h:5≤t.length):dgOk (c::t)=false:=by
 unfold dgOk rr;rw [if_neg (by simpa using h0),decide_eq_false];rintro ⟨h1,h2,h3⟩;obtain ⟨g1,g2⟩:=rd_inv _ _ h1;rw [g2,fv_cons] at h3;simp only [allG,List.all_cons,Bool.and_eq_true] at g1;have hc:=g1.1;simp only [isG,decide_eq_true_eq] at hc;have hn:c.toNat ≠ 48:=fun e=>h0 (UInt8.toNat_inj.1 (by rw [e];rfl))
 have:=fv_ge t (0 * 10+(c.toNat - 48));have h4:1 * 10 ^ 5≤(0 * 10+(c.toNat - 48)) * 10 ^ t.length:=Nat.mul_le_mul (by omega) (Nat.pow_le_pow_right (by omega) h);omega
theorem dg_in {c:UInt8} {t:List UInt8} (h0:c ≠ 48) (h:allG (c::t)=true) (hl:t.length<5):dgOk (c::t)=decide (fv 0 (c::t)≤65536)∧(rr (c::t)).1=fv 0 (c::t)∧1≤fv 0 (c::t):=by
 have e:rr (c::t)=(fv 0 (c::t),[]):=by
  unfold rr;rw [if_neg (by simpa using h0)];refine rd_val _ _ h ?_;have:10 ^ t.length≤10 ^ 4:=Nat.pow_le_pow_right (by omega) (by omega);simp only [List.length_cons,Nat.add_sub_cancel];omega
 have hp:1≤fv 0 (c::t):=by
  simp only [allG,List.all_cons,Bool.and_eq_true] at h;have hc:=h.1;simp only [isG,decide_eq_true_eq] at hc;have hn:c.toNat ≠ 48:=fun e=>h0 (UInt8.toNat_inj.1 (by rw [e];rfl))
  have:=fv_ge t (0 * 10+(c.toNat - 48));have h4:1 * 1≤(0 * 10+(c.toNat - 48)) * 10 ^ t.length:=Nat.mul_le_mul (by omega) (Nat.one_le_pow _ _ (by omega));rw [fv_cons];omega
 refine ⟨?_,by rw [e],hp⟩;unfold dgOk;rw [e,Bool.eq_iff_iff];simp;intro;omega
theorem vl_bd {c:UInt8} (h:isL c=true):1≤vl c∧vl c≤26:=by
 simp only [isL,decide_eq_true_eq] at h;unfold vl;omega
theorem rd_none:rdOk []=false:=by decide
theorem rd_no {a:UInt8} (t:List UInt8) (h:isL a=false):rdOk (a::t)=false:=by
 unfold rdOk;rw [rc_stop 0 (a::t) (by simp [noL,h])];simp
theorem rd_one {a:UInt8} {t:List UInt8} (h:isL a=true) (hn:noL t=true):rdOk (a::t)=dgOk t∧rc 0 (a::t)=(vl a,t):=by
 have e:rc 0 (a::t)=(vl a,t):=by
  rw [rc_go t h (by omega),rc_stop _ t hn];unfold vl;simp
 refine ⟨?_,e⟩;have hb:=vl_bd h;unfold rdOk dgOk;rw [e,Bool.eq_iff_iff,decide_eq_true_eq,decide_eq_true_eq];constructor
 ·rintro ⟨g1,g2,g3,g4,g5⟩;exact ⟨g1,g2,g3⟩
 ·rintro ⟨g1,g2,g3⟩;exact ⟨g1,g2,g3,by omega,by omega⟩
theorem rd_two {a b:UInt8} {u:List UInt8} (h:isL a=true) (h2:isL b=true) (hn:noL u=true):rdOk (a::b::u)=(decide (vl a * 26+vl b≤256) && dgOk u)∧rc 0 (a::b::u)=(vl a * 26+vl b,u):=by
 have hb:=vl_bd h;have hb2:=vl_bd h2;have e:rc 0 (a::b::u)=(vl a * 26+vl b,u):=by
  rw [rc_go _ h (by omega),rc_go u h2 (by unfold vl at hb;omega),rc_stop _ u hn];unfold vl;simp;omega
 refine ⟨?_,e⟩;unfold rdOk dgOk;rw [e,Bool.eq_iff_iff,Bool.and_eq_true,decide_eq_true_eq,decide_eq_true_eq,decide_eq_true_eq];constructor
 ·rintro ⟨g1,g2,g3,g4,g5⟩;exact ⟨g5,g1,g2,g3⟩
 ·rintro ⟨g5,g1,g2,g3⟩;exact ⟨g1,g2,g3,by omega,g5⟩
theorem rd_three {a b c:UInt8} (u:List UInt8) (h:isL a=true) (h2:isL b=true) (h3:isL c=true):rdOk (a::b::c::u)=false:=by
 have hb:=vl_bd h;have hb2:=vl_bd h2;have hb3:=vl_bd h3;have e:(rc 0 (a::b::c::u)).1 > 256:=by
  rw [rc_go _ h (by omega),rc_go _ h2 (by unfold vl at hb;omega)];by_cases hk:(0 * 26+(a.toNat - 65)+1) * 26+(b.toNat - 65)+1≤256
  ·rw [rc_go _ h3 hk];have g:∀ (l:List UInt8) (k:Nat),256<k→(rc k l).1=k:=by
    intro l k hk;cases l with
    | nil=>rfl
    | cons x y=>unfold rc;rw [if_neg (by omega)]
   rw [g _ _ (by unfold vl at hb hb2 hb3;omega)];unfold vl at hb hb2 hb3;omega
  ·unfold rc;rw [if_neg (by omega)];show _ > 256
   omega
 unfold rdOk;rw [decide_eq_false];omega
end Wpl
namespace Wpl
def spl:List UInt8→Option (List UInt8 × List UInt8)
 | []=>none
 | c::t=>if c=58 then some ([],t) else (spl t).map fun x=>(c::x.1,x.2)
def raOk (l:List UInt8):Bool:=match spl l with | none=>false | some (p,q)=>rdOk p && rdOk q
def raT (l:List UInt8):Int:=match spl l with | none=>0 | some (p,q)=>if rdOk p && rdOk q then min (rdR p) (rdR q) else 0
def raL (l:List UInt8):Int:=match spl l with | none=>0 | some (p,q)=>if rdOk p && rdOk q then min (rdC p) (rdC q) else 0
def raB (l:List UInt8):Int:=match spl l with | none=>0 | some (p,q)=>if rdOk p && rdOk q then max (rdR p) (rdR q) else 0
def raR (l:List UInt8):Int:=match spl l with | none=>0 | some (p,q)=>if rdOk p && rdOk q then max (rdC p) (rdC q) else 0
end Wpl
namespace Go.Proofs.YtlggnpohhahdlaaGreatDoor
open Go.RowKit Go.Shelf
set_option linter.unusedVariables false
def laysIndexByte_ren:Go.Shelf.Ren:=⟨fun | 217=>162 | 266=>182 | n=>n,fun | 9=>9 | 5=>5 | 3=>3 | n=>n,fun | n=>n⟩
theorem laysIndexByte:Go.Proofs.Lays.n217 Tryz.prog laysIndexByte_ren:={
 mixed:=by kernel_rfl
 f217:=Tryz.func162.trans (congrArg some (by kernel_rfl))
 f266:=Tryz.func182.trans (congrArg some (by kernel_rfl))
 t3:=Tryz.underlying3
 a3:=Tryz.isAgg3
 z3:=Tryz.sizeOf3
 v3:=Tryz.zeroValue3
 t5:=Tryz.underlying5
 a5:=Tryz.isAgg5
 z5:=Tryz.sizeOf5
 v5:=Tryz.zeroValue5
 t9:=Tryz.underlying9
 a9:=Tryz.isAgg9
 z9:=Tryz.sizeOf9
 v9:=Tryz.zeroValue9}
def undol (l:List UInt8):List UInt8:=l.filter (fun c=>!(c == 36))
theorem rep_undol (l:List UInt8):rep [36] [] l=undol l:=by
 induction l with
 | nil=>exact rep_nil (by decide)
 | cons c t ih =>
  by_cases h:c=36
  ·subst h;rw [rep_hit (by decide) (by simp [List.isPrefixOf])];show rep [36] [] t=_
   rw [ih];rfl
  ·rw [rep_miss (by decide) (by simp [List.isPrefixOf];exact fun e=>h e.symm),ih];unfold undol;rw [List.filter_cons_of_pos (by simp [h])]
theorem replD_any (b:ByteArray) (w:World) (hm:MaxAt w) (hs:b.size≤1048576):Calls Tryz.prog 59 #[.string b,.string ⟨#[36]⟩,.string ⟨#[]⟩] w fun e w'=>e=.returned (.string ⟨(undol b.data.toList).toArray⟩)∧Below w.heap.size w w':=by
 obtain ⟨m,hm⟩:=hm;have c:=count_le_size b ⟨#[36]⟩ (by decide);have h:=Any.strings_ReplaceAll {lays155 with} extra155 b ⟨#[36]⟩ ⟨#[]⟩ m w (by omega) hm (by decide) (by show b.size+_ * 0≤_;omega);rw [all_rep (by decide),rep_undol] at h;exact h
def dol (l:List UInt8):Bool:=match l with
 | c::_=>c == 36
 | []=>false
theorem ext_one (c:UInt8) (t:List UInt8):((⟨(c::t).toArray⟩:ByteArray).extract 0 1).toList=[c]:=by rw [ByteArray.toList_eq];simp
theorem hasD_any (l:List UInt8) (w:World) (hl:l.length≤1048576):Calls Tryz.prog 60 #[.string ⟨l.toArray⟩,.string ⟨#[36]⟩] w fun e w'=>e=.returned (.bool (dol l))∧w=w':=by
 cases l with
 | nil =>
  go_enter Tryz.func60,Tryz.ntmps60;go_wp2;go_ret;exact ⟨rfl,rfl⟩
 | cons c t =>
  have hx:(((⟨(c::t).toArray⟩:ByteArray).extract 0 1).toList == [36])=(c == 36):=by rw [ext_one];simp
  have hsz:(⟨(c::t).toArray⟩:ByteArray).size=t.length+1:=rfl;have h1:(1:Int)≤((⟨(c::t).toArray⟩:ByteArray).size:Int):=by omega
  unfold dol;simp only;generalize (⟨(c::t).toArray⟩:ByteArray)=s at *;cases hq:(c == 36) with
  | true =>
   rw [hq] at hx;go_enter Tryz.func60,Tryz.ntmps60;go_wp2;go_ret;exact ⟨rfl,rfl⟩
  | false =>
   rw [hq] at hx;go_enter Tryz.func60,Tryz.ntmps60;go_wp2;go_ret;exact ⟨rfl,rfl⟩
theorem ext_rest (c:UInt8) (t:List UInt8):(⟨(c::t).toArray⟩:ByteArray).extract 1 (t.length+1)=⟨t.toArray⟩:=by
 apply ByteArray.ext
 simp [ByteArray.data_extract]
theorem trimD_any (l:List UInt8) (w:World) (hl:l.length≤1048576):Calls Tryz.prog 213 #[.string ⟨l.toArray⟩,.string ⟨#[36]⟩] w fun e w'=>e=.returned (.string ⟨(if dol l then l.drop 1 else l).toArray⟩)∧w=w':=by
 cases l with
 | nil =>
  go_enter Tryz.func213,Tryz.ntmps213;go_wp2;go_ret;exact ⟨rfl,rfl⟩
 | cons c t =>
  have hx:(((⟨(c::t).toArray⟩:ByteArray).extract 0 1).toList == [36])=(c == 36):=by rw [ext_one];simp
  have hsz:(⟨(c::t).toArray⟩:ByteArray).size=t.length+1:=rfl;have hr:=ext_rest c t;have h1:(1:Int)≤((⟨(c::t).toArray⟩:ByteArray).size:Int):=by omega
  have hd:dol (c::t)=(c == 36):=rfl;rw [hd];have HR:Hid (ByteArray.extract ⟨(c::t).toArray⟩ 1 (t.length+1)=⟨t.toArray⟩):=hr;clear hr hd;obtain ⟨s,hs⟩:∃ s,(⟨(c::t).toArray⟩:ByteArray)=s:=⟨_,rfl⟩
  rw [hs] at hx hsz h1 HR;cases hq:(c == 36) with
  | true =>
   rw [hq] at hx;rw [if_pos rfl];simp only [List.drop_succ_cons,List.drop_zero];rw [hs,←HR.out];clear hs;go_enter Tryz.func213,Tryz.ntmps213;go_wp2;go_ret;exact ⟨rfl,rfl⟩
  | false =>
   rw [hq] at hx;rw [if_neg (by decide),hs];clear hs HR;go_enter Tryz.func213,Tryz.ntmps213;go_wp2;go_ret;exact ⟨rfl,rfl⟩
theorem indexD_any (s:ByteArray) (w:World) :
  Calls Tryz.prog 162 #[.string s,.int .u8 36] w fun e w'=>e=.returned (.int .i64 (Lib.indexByte s.data.toList 36))∧w=w' :=
 (Any.stringslite_IndexByte laysIndexByte s 36 w).mono fun e w' ⟨he,hw⟩=>⟨he,hw.symm⟩
theorem sindexD_any (l:List UInt8) (w:World) :
  Calls Tryz.prog 144 #[.string ⟨l.toArray⟩,.string ⟨#[36]⟩] w fun e w'=>e=.returned (.int .i64 (Lib.indexByte l 36))∧w=w':=by
 have I:=fun w=>indexD_any ⟨l.toArray⟩ w
 rw [show (⟨l.toArray⟩:ByteArray).data.toList=l from rfl] at I;have e0:((((⟨#[36]⟩:ByteArray)[0]).toNat:Nat):Int)=36:=rfl;cases h:([36] == l) with
 | true =>
  obtain rfl:[36]=l:=by simpa using h
  have E:Hid (Lib.indexByte [36] 36=0):=(rfl:Lib.indexByte [36] 36=0)
  go_enter Tryz.func144,Tryz.ntmps144;go_wp2;go_ret;exact ⟨by rw [E.out];rfl,rfl⟩
 | false =>
  go_enter Tryz.func144,Tryz.ntmps144;go_wp2_with fail
  refine (I _).mono ?_;rintro e w1 ⟨rfl,rfl⟩;go_wp2;go_ret;exact ⟨rfl,rfl⟩
theorem index_any (l:List UInt8):decide (0≤Lib.indexByte l 36)=l.any (fun c=>c == 36):=by
 induction l with
 | nil=>rfl
 | cons b t ih =>
  have hg:=Lib.indexByte_ge t 36;rw [List.any_cons,←ih];have e:Lib.indexByte (b::t) 36=if b == 36 then 0 else if Lib.indexByte t 36 == -1 then -1 else Lib.indexByte t 36+1:=rfl
  rw [e];clear e;by_cases h:b=36
  ·subst h;simp
  ·rw [if_neg (by simpa using h)];have h':(b == 36)=false:=by simp [h]
   rw [h',Bool.false_or];by_cases h2:Lib.indexByte t 36 = -1
   ·rw [h2];rfl
   ·rw [if_neg (by simpa using h2),decide_eq_true (by omega),decide_eq_true (by omega)]
theorem contD_any (l:List UInt8) (w:World):Calls Tryz.prog 212 #[.string ⟨l.toArray⟩,.string ⟨#[36]⟩] w fun e w'=>e=.returned (.bool (l.any (fun c=>c == 36)))∧w=w':=by
 have I:=fun w=>sindexD_any l w
 have J:∀ w:World,Calls Tryz.prog 119 #[.string ⟨l.toArray⟩,.string ⟨#[36]⟩] w fun e w'=>e=.returned (.int .i64 (Lib.indexByte l 36))∧w=w':=by
  intro w;go_enter Tryz.func119,Tryz.ntmps119;go_wp2_with fail
  refine (I _).mono ?_;rintro e w1 ⟨rfl,rfl⟩;go_wp2;go_ret;exact ⟨rfl,rfl⟩
 have E:Hid (decide (0≤Lib.indexByte l 36)=l.any (fun c=>c == 36)):=index_any l;rw [←E.out];clear I E;generalize Lib.indexByte l 36=n at *;go_enter Tryz.func212,Tryz.ntmps212;go_wp2_with fail
 refine (J _).mono ?_;rintro e w1 ⟨rfl,rfl⟩;go_wp2;go_ret;exact ⟨rfl,rfl⟩
def rfOf (l:List UInt8):Wt.Rf:=⟨⟨#[]⟩,Wpl.rdR (undol l),Wpl.rdC (undol l),(if dol l then l.drop 1 else l).any (fun c=>c == 36),dol l⟩
def rw1 (l:List UInt8):Option Wt.Rf:=if Wpl.rdOk (undol l)=true then (if cw (rfOf l)=l then some (rfOf l) else none) else none
def RwV (r:Option Wt.Rf):Value:=match r with
 | some a=>.tuple #[rfV a,.bool true]
 | none=>.tuple #[rfV Wt.r0,.bool false]
theorem rd_bd {l:List UInt8} (h:Wpl.rdOk l=true):0≤Wpl.rdR l∧Wpl.rdR l<65536:=by
 unfold Wpl.rdR;rw [if_pos h];have:=of_decide_eq_true h;omega
theorem readWord_any (l:List UInt8) (w:World) (hm:MaxAt w) (htab:Lib.TabIs Tryz.prog w "internal/strconv.uint64pow10" .u64 Lib.pow10Tab) (hl:l.length≤1024) :
  Calls Tryz.prog 204 #[.string ⟨l.toArray⟩] w fun e w'=>e=.returned (RwV (rw1 l))∧Below w.heap.size w w':=by
 have TB:=Lib.tabBelow_of_tabIs htab;clear htab;have Z:=AtL.new0 w 43 [.string ⟨#[]⟩,.int .i64 0,.int .i64 0,.bool false,.bool false];have hB0:=ball (Below.refl _ w) (.cells #[.string ⟨#[]⟩,.int .i64 0,.int .i64 0,.bool false,.bool false] 43);have C1:=replD_any ⟨l.toArray⟩ _ (hm.below hB0) (by show l.length≤_;omega);have hu:(undol l).length≤l.length:=List.length_filter_le _ _;have C2:=fun w=>x3_read_any (undol l) w (by omega)
 have C3:=fun w=>hasD_any l w (by omega)
 have C4:=fun w=>trimD_any l w (by omega)
 have C5:=fun w=>contD_any (if dol l then l.drop 1 else l) w
 have bd:=@rd_bd (undol l);have C6:=fun w h0 h1 h=>cellWord_any (rfOf l) w h0 h1 h
 have e1:(⟨l.toArray⟩:ByteArray).data.toList=l:=rfl;rw [e1] at C1;unfold rw1;obtain ⟨W,hW⟩:∃ W,cw (rfOf l)=W:=⟨_,rfl⟩
 rw [hW] at C6 ⊢;clear hW e1;unfold rfOf at C6 ⊢;generalize undol l=u at *;generalize (if dol l then l.drop 1 else l)=v at *;generalize dol l=d at *;generalize v.any (fun c=>c == 36)=f at *;generalize Wpl.rdR u=r at *;generalize Wpl.rdC u=c at *;generalize Wpl.rdOk u=q at *;simp only [rfV,rf5] at C6;cases q
 ·rw [if_neg (by decide)];clear C6 bd;go_enter Tryz.func204,Tryz.ntmps204;go_wp2_with fail
  refine C1.mono ?_;rintro e w1 ⟨rfl,hb⟩;have Z1:=AtL.below hb Z;have hB1:=below_end hB0 hb;clear hb Z hB0;go_wp2_with fail
  refine (C2 _).mono ?_;rintro e w2 ⟨rfl,hb⟩;have Z2:=AtL.below hb Z1;have hB2:=below_end hB1 hb;clear hb Z1 hB1;go_wp2_with fail
  refine (C3 _).mono ?_;rintro e w3 ⟨rfl,rfl⟩;go_wp2_with fail
  refine (C4 _).mono ?_;rintro e w3 ⟨rfl,rfl⟩;go_wp2_with fail
  refine (C5 _).mono ?_;rintro e w3 ⟨rfl,rfl⟩;obtain ⟨a0,a1,a2,a3,a4,g0,g1,g2,g3,g4⟩:=Z2.five;have hlt:=Z2.lt;have hne:¬ w.heap.size=w2.heap.size:=by omega
  have hne2:¬ w2.heap.size=w.heap.size:=by omega
  go_wp2;refine bodyPost_ret (v:=.tuple #[rfV Wt.r0,.bool false]) (by simp [results,Tryz.results204,go_sem,rfV,rf5,Wt.r0,a0,a1,a2,a3,a4,hlt]) rfl ⟨rfl,?_⟩;exact by with_reducible repeat (first | exact hB2 | refine ball ?_ _ | refine Below.setCell ?_ (by first | (simp;done) | (simp;omega) | omega) _ | refine Below.drew ?_ | refine below_drewN ?_ _)
 ·obtain ⟨b0,b1⟩:=bd rfl;rw [if_pos rfl];replace C6:=fun w h=>C6 w b0 b1 h
  by_cases hw:W=l
  ·rw [if_pos hw];subst hw;go_enter Tryz.func204,Tryz.ntmps204;go_wp2_with fail
   refine C1.mono ?_;rintro e w1 ⟨rfl,hb⟩;have Z1:=AtL.below hb Z;have hB1:=below_end hB0 hb;clear hb Z hB0;go_wp2_with fail
   refine (C2 _).mono ?_;rintro e w2 ⟨rfl,hb⟩;have Z2:=AtL.below hb Z1;have hB2:=below_end hB1 hb;clear hb Z1 hB1;go_wp2_with fail
   refine (C3 _).mono ?_;rintro e w3 ⟨rfl,rfl⟩;go_wp2_with fail
   refine (C4 _).mono ?_;rintro e w3 ⟨rfl,rfl⟩;go_wp2_with fail
   refine (C5 _).mono ?_;rintro e w3 ⟨rfl,rfl⟩;have hB3:=ball hB2 (.cells #[.string ⟨#[]⟩,.int .i64 r,.int .i64 c,.bool f,.bool d] 43);have hT:=(TB.on hB3).here;have Z3:=AtL.alloc Z2 (.cells #[.string ⟨#[]⟩,.int .i64 r,.int .i64 c,.bool f,.bool d] 43);have Y3:=AtL.new0 w2 43 [.string ⟨#[]⟩,.int .i64 r,.int .i64 c,.bool f,.bool d];clear Z2 hB2 TB;go_wp2_with fail
   refine (C6 _ hT).mono ?_;rintro e w4 ⟨rfl,hb⟩;have Z4:=AtL.below hb Z3;have Y4:=AtL.below hb Y3;have hB4:=below_end hB3 hb;clear hb Z3 Y3 hB3 hT C1 C2 C3 C4 C5 C6;obtain ⟨a0,a1,a2,a3,a4,g0,g1,g2,g3,g4⟩:=Z4.five;obtain ⟨y0,y1,y2,y3,y4⟩:=Y4.f5;have hlt:=Z4.lt;go_wp2;refine bodyPost_ret (v:=.tuple #[rfV ⟨⟨#[]⟩,r,c,f,d⟩,.bool true]) (by simp [results,Tryz.results204,go_sem,rfV,rf5,a0,a1,a2,a3,a4]) rfl ⟨rfl,?_⟩;exact by with_reducible repeat (first | exact hB4 | refine ball ?_ _ | refine Below.setCell ?_ (by first | (simp;done) | (simp;omega) | omega) _ | refine Below.drew ?_ | refine below_drewN ?_ _)
  ·rw [if_neg hw];have hw':(W == l)=false:=by simp [hw]
   go_enter Tryz.func204,Tryz.ntmps204;go_wp2_with fail
   refine C1.mono ?_;rintro e w1 ⟨rfl,hb⟩;have Z1:=AtL.below hb Z;have hB1:=below_end hB0 hb;clear hb Z hB0;go_wp2_with fail
   refine (C2 _).mono ?_;rintro e w2 ⟨rfl,hb⟩;have Z2:=AtL.below hb Z1;have hB2:=below_end hB1 hb;clear hb Z1 hB1;go_wp2_with fail
   refine (C3 _).mono ?_;rintro e w3 ⟨rfl,rfl⟩;go_wp2_with fail
   refine (C4 _).mono ?_;rintro e w3 ⟨rfl,rfl⟩;go_wp2_with fail
   refine (C5 _).mono ?_;rintro e w3 ⟨rfl,rfl⟩;have hB3:=ball hB2 (.cells #[.string ⟨#[]⟩,.int .i64 r,.int .i64 c,.bool f,.bool d] 43);have hT:=(TB.on hB3).here;have Z3:=AtL.alloc Z2 (.cells #[.string ⟨#[]⟩,.int .i64 r,.int .i64 c,.bool f,.bool d] 43);have Y3:=AtL.new0 w2 43 [.string ⟨#[]⟩,.int .i64 r,.int .i64 c,.bool f,.bool d];clear Z2 hB2 TB;go_wp2_with fail
   refine (C6 _ hT).mono ?_;rintro e w4 ⟨rfl,hb⟩;have Z4:=AtL.below hb Z3;have Y4:=AtL.below hb Y3;have hB4:=below_end hB3 hb;clear hb Z3 Y3 hB3 hT C1 C2 C3 C4 C5 C6;obtain ⟨a0,a1,a2,a3,a4,g0,g1,g2,g3,g4⟩:=Z4.five;obtain ⟨y0,y1,y2,y3,y4⟩:=Y4.f5;have hlt:=Z4.lt;go_wp2;refine bodyPost_ret (v:=.tuple #[rfV Wt.r0,.bool false]) (by simp [results,Tryz.results204,go_sem,rfV,rf5,Wt.r0,a0,a1,a2,a3,a4]) rfl ⟨rfl,?_⟩;exact by with_reducible repeat (first | exact hB4 | refine ball ?_ _ | refine Below.setCell ?_ (by first | (simp;done) | (simp;omega) | omega) _ | refine Below.drew ?_ | refine below_drewN ?_ _)
theorem results_cell {P:Program} {fn:Func} {t:Tmp} {T:TypeId} (h:fn.results=#[.cell t T]) (tmps:Array Value) (w:World) (b:Nat) (cs:List Value) (d:TypeDesc) (ht:tmps.getD t undef=.pointer (some ⟨b,0,none⟩)) (hc:w.rangeAt b 0 cs)
  (hu:P.underlying T=some d) (hd:d.isRow=true) (hi:(P.info? T).map (·.size)=some cs.length):(results fn tmps).run P w=.ok (.agg cs.toArray) w:=by
 have hl:=run_loadVar_mid (P:=P) w b 0 T cs d hc hu hd hi;have ht':tmps[t]?.getD undef=.pointer (some ⟨b,0,none⟩):=by rw [←ht];simp
 simp only [results,h];simp [ht',hl,asAddr]
def Env (w:World):Prop:=OpsAt w∧FltAt w∧MaxAt w∧Lib.TabIs Tryz.prog w "internal/strconv.uint64pow10" .u64 Lib.pow10Tab
theorem Env.below {w w':World} (h:Env w) (hb:Below w.heap.size w w'):Env w':=⟨h.1.below hb,h.2.1.below hb,h.2.2.1.below hb,(Lib.tabBelow_of_tabIs h.2.2.2).on hb |>.here⟩
theorem Env.grown {w w':World} {kp:Nat} (h:Env w) (hg:w.grownBy w' (some kp)) (hk:8≤kp):Env w':=by
 obtain ⟨h1,h2,⟨m,h3⟩,h4⟩:=h;have hn:∀ g,g<8→some g ≠ some kp:=fun g hg e=>by have:=Option.some.inj e;omega
 refine ⟨fun j v hv=>hg.cell (h1 j v hv) (hn 0 (by decide)),fun j v hv=>hg.cell (h2 j v hv) (hn 1 (by decide)),⟨m,hg.cell h3 (hn _ (by decide))⟩,?_⟩;have e:Tryz.prog.globalNamed "internal/strconv.uint64pow10" = some 5:=by kernel_rfl
 unfold Lib.TabIs World.var? at h4 ⊢;rw [e] at h4 ⊢;simp only [Option.bind_some] at h4 ⊢;have hlt:5<w.heap.size:=by
  rcases Nat.lt_or_ge 5 w.heap.size with h | h
  ·exact h
  ·rw [Array.getElem?_eq_none h] at h4;cases h4
 rw [hg.block _ hlt (hn _ (by decide))];exact h4
def pt21 (x:Wt.Nd) (sl:Value):List Value:=nd20 x++[sl]
def ptV (x:Wt.Nd) (sl:Value):Value:=.agg (pt21 x sl).toArray
def PtIs (w:World) (G:Nat→Prop):Nat→Wt.Nd→Value→List Wt.Nd→Prop
 | 0,_,_,_=>False
 | n+1,x,sl,row=>∃ (av:Option Addr) (cap:Nat) (ps:List (Wt.Nd × Value)) (rows:List (List Wt.Nd)),sl=.slice av ps.length cap∧rows.length=ps.length∧row=x::rows.flatten ∧
   ∀ i (h:i<ps.length) (h':i<rows.length),∃ bb,av=some ⟨bb,0,none⟩∧G bb∧w.rangeAt bb (i * 21) (pt21 (ps[i]).1 (ps[i]).2)∧PtIs w G n (ps[i]).1 (ps[i]).2 (rows[i])
theorem range_block {w:World} {bb o:Nat} {x:Wt.Nd} {sl:Value} (h:w.rangeAt bb o (pt21 x sl)):bb<w.heap.size:=World.block_lt_of_cell? _ _ (h 0 _ rfl)
theorem PtIs.keep {w w':World} {G:Nat→Prop} (hk:∀ k,G k→k<w.heap.size→w'.heap[k]? = w.heap[k]?):∀ (n:Nat) {x:Wt.Nd} {sl:Value} {row:List Wt.Nd},PtIs w G n x sl row→PtIs w' G n x sl row
 | 0,_,_,_,h=>h
 | n+1,x,sl,row,⟨av,cap,ps,rows,e,hl,hr,hp⟩=>⟨av,cap,ps,rows,e,hl,hr,fun i h h'=>by
   obtain ⟨bb,e1,e2,e3,e4⟩:=hp i h h';exact ⟨bb,e1,e2,fun j v hv=>(World.cell?_of_block (a:=⟨bb,i * 21+j,none⟩) (hk bb e2 (range_block e3))).trans (e3 j v hv),PtIs.keep hk n e4⟩⟩
theorem PtIs.mono {w:World} {G G':Nat→Prop} (hlo:∀ b,G b→G' b):∀ (n:Nat) {x:Wt.Nd} {sl:Value} {row:List Wt.Nd},PtIs w G n x sl row→PtIs w G' n x sl row
 | 0,_,_,_,h=>h
 | n+1,x,sl,row,⟨av,cap,ps,rows,e,hl,hr,hp⟩=>⟨av,cap,ps,rows,e,hl,hr,fun i h h'=>by
   obtain ⟨bb,e1,e2,e3,e4⟩:=hp i h h';exact ⟨bb,e1,hlo _ e2,e3,PtIs.mono hlo n e4⟩⟩
theorem PtIs.leaf (w:World) (G:Nat→Prop) (x:Wt.Nd):PtIs w G 1 x (.slice none 0 0) [x]:=⟨none,0,[],[],rfl,rfl,rfl,fun i h=>absurd h (Nat.not_lt_zero _)⟩
theorem PtIs.more {w:World} {G:Nat→Prop}:∀ {n:Nat} {x:Wt.Nd} {sl:Value} {row:List Wt.Nd},PtIs w G n x sl row→PtIs w G (n+1) x sl row
 | 0,_,_,_,h=>h.elim
 | n+1,x,sl,row,⟨av,cap,ps,rows,e,hl,hr,hp⟩=>⟨av,cap,ps,rows,e,hl,hr,fun i h h'=>by
   obtain ⟨bb,e1,e2,e3,e4⟩:=hp i h h';exact ⟨bb,e1,e2,e3,PtIs.more e4⟩⟩
theorem PtIs.upto {w:World} {G:Nat→Prop} {n m:Nat} {x:Wt.Nd} {sl:Value} {row:List Wt.Nd} (h:PtIs w G n x sl row) (hm:n≤m):PtIs w G m x sl row:=by
 induction m with
 | zero =>
   obtain rfl:n=0:=by omega
   exact h
 | succ m ih =>
  rcases Nat.lt_or_ge n (m+1) with h1 | h1
  ·exact (ih (by omega)).more
  ·obtain rfl:n=m+1:=by omega
   exact h
theorem PtIs.one {w:World} {G:Nat→Prop} {n:Nat} {x:Wt.Nd} {sl:Value} {row:List Wt.Nd} (h:PtIs w G n x sl row):∃ av len cap,sl=.slice av len cap:=by
 cases n with
 | zero=>exact h.elim
 | succ n=>obtain ⟨av,cap,ps,rows,e,_⟩:=h;exact ⟨av,ps.length,cap,e⟩
def Pt (w:World) (lo:Nat) (v:Value) (row:List Wt.Nd):Prop:=∃ n x sl,v=ptV x sl∧PtIs w (fun b=>lo≤b) n x sl row
theorem Pt.grown {w w':World} {kp lo:Nat} {v:Value} {row:List Wt.Nd} (h:Pt w lo v row) (hg:w.grownBy w' (some kp)) (hk:kp<lo):Pt w' lo v row:=by
 obtain ⟨n,x,sl,e,h⟩:=h;exact ⟨n,x,sl,e,PtIs.keep (fun k h1 h2=>hg.block k h2 (fun e=>by have:=Option.some.inj e;omega)) n h⟩
theorem Pt.below {w w':World} {lo:Nat} {v:Value} {row:List Wt.Nd} (h:Pt w lo v row) (hb:Below w.heap.size w w'):Pt w' lo v row:=by
 obtain ⟨n,x,sl,e,h⟩:=h;exact ⟨n,x,sl,e,PtIs.keep (fun k h1 h2=>hb.block k h2) n h⟩
theorem heap_setCells_ne (b k:Nat) (hk:k ≠ b):∀ (vs:List Value) (o:Nat) (w:World),(w.setCells b o vs).heap[k]? = w.heap[k]?
 | [],_,_=>rfl
 | v::r,o,w=>by rw [World.setCells,heap_setCells_ne b k hk r];exact Below.heap_setCell _ _ _ _ hk
theorem Pt.far {w:World} {lo b:Nat} {v:Value} {row:List Wt.Nd} (h:Pt w lo v row) (hb:b<lo) (o:Nat) (vs:List Value):Pt (w.setCells b o vs) lo v row:=by
 obtain ⟨n,x,sl,e,h⟩:=h;exact ⟨n,x,sl,e,PtIs.keep (fun k h1 h2=>heap_setCells_ne b k (by omega) vs o w) n h⟩
theorem Pt.mono {w:World} {lo lo':Nat} {v:Value} {row:List Wt.Nd} (h:Pt w lo v row) (hl:lo'≤lo):Pt w lo' v row:=by
 obtain ⟨n,x,sl,e,h⟩:=h;exact ⟨n,x,sl,e,PtIs.mono (fun b hb=>Nat.le_trans hl hb) n h⟩
theorem one21 (x:Wt.Nd) (sl:Value) (h:sl.oneCell'=true):(pt21 x sl).toArray.all (·.oneCell')=true:=all_oneCell_toArray (fun v hv=>by
 unfold pt21 at hv;rcases List.mem_append.1 hv with h1 | h1
 ·exact one20l x v h1
 ·simp only [List.mem_cons,List.not_mem_nil,or_false] at h1;rw [h1];exact h)
def leafN (v:Wt.Vl):Wt.Nd:=⟨1,v,0,⟨#[]⟩,0,Wt.r0,Wt.r0⟩
theorem const_any (v:Wt.Vl) (w:World):Calls Tryz.prog 187 #[vlV v] w fun e w'=>e=.returned (ptV (leafN v) (.slice none 0 0))∧Below w.heap.size w w':=by
 obtain ⟨vk,vn,vd,vt,vb,vf⟩:=v;show Calls _ _ #[.agg #[.int .i64 vk,.int .i64 vn,.int .i64 vd,.string vt,.bool vb,.int .i64 vf]] _ _
 have pR:AtL ((w.alloc (.cells #[.int .i64 vk,.int .i64 vn,.int .i64 vd,.string vt,.bool vb,.int .i64 vf] 41)).alloc (.cells #[.int .i64 0,.int .i64 0,.int .i64 0,.int .i64 0,.string ⟨#[]⟩,.bool false,.int .i64 0,.int .i64 0,.string ⟨#[]⟩,.int .i64 0,.string ⟨#[]⟩,.int .i64 0,.int .i64 0,.bool false,.bool false,.string ⟨#[]⟩,.int .i64 0,.int .i64 0,.bool false,.bool false,.slice none 0 0] 56)) (w.heap.size+1) (pt21 (bare 0) (.slice none 0 0)):=AtL.new1 w _ _ _;have hth:World.there ((w.alloc (.cells #[.int .i64 vk,.int .i64 vn,.int .i64 vd,.string vt,.bool vb,.int .i64 vf] 41)).alloc (.cells #[.int .i64 0,.int .i64 0,.int .i64 0,.int .i64 0,.string ⟨#[]⟩,.bool false,.int .i64 0,.int .i64 0,.string ⟨#[]⟩,.int .i64 0,.string ⟨#[]⟩,.int .i64 0,.int .i64 0,.bool false,.bool false,.string ⟨#[]⟩,.int .i64 0,.int .i64 0,.bool false,.bool false,.slice none 0 0] 56)) (w.heap.size+1) 0 (pt21 ⟨1,⟨vk,vn,vd,vt,vb,vf⟩,0,⟨#[]⟩,0,Wt.r0,Wt.r0⟩ (.slice none 0 0)).toArray.size:=pR.there;have pR2:AtL (((w.alloc (.cells #[.int .i64 vk,.int .i64 vn,.int .i64 vd,.string vt,.bool vb,.int .i64 vf] 41)).alloc (.cells #[.int .i64 0,.int .i64 0,.int .i64 0,.int .i64 0,.string ⟨#[]⟩,.bool false,.int .i64 0,.int .i64 0,.string ⟨#[]⟩,.int .i64 0,.string ⟨#[]⟩,.int .i64 0,.int .i64 0,.bool false,.bool false,.string ⟨#[]⟩,.int .i64 0,.int .i64 0,.bool false,.bool false,.slice none 0 0] 56)).setCells (w.heap.size+1) 0 (pt21 ⟨1,⟨vk,vn,vd,vt,vb,vf⟩,0,⟨#[]⟩,0,Wt.r0,Wt.r0⟩ (.slice none 0 0))) (w.heap.size+1) (pt21 ⟨1,⟨vk,vn,vd,vt,vb,vf⟩,0,⟨#[]⟩,0,Wt.r0,Wt.r0⟩ (.slice none 0 0)):=pR.setAll rfl
 have hB:=bset (ball (ball (Below.refl _ w) (.cells #[.int .i64 vk,.int .i64 vn,.int .i64 vd,.string vt,.bool vb,.int .i64 vf] 41)) (.cells #[.int .i64 0,.int .i64 0,.int .i64 0,.int .i64 0,.string ⟨#[]⟩,.bool false,.int .i64 0,.int .i64 0,.string ⟨#[]⟩,.int .i64 0,.string ⟨#[]⟩,.int .i64 0,.int .i64 0,.bool false,.bool false,.string ⟨#[]⟩,.int .i64 0,.int .i64 0,.bool false,.bool false,.slice none 0 0] 56)) (Nat.le_succ w.heap.size) (pt21 ⟨1,⟨vk,vn,vd,vt,vb,vf⟩,0,⟨#[]⟩,0,Wt.r0,Wt.r0⟩ (.slice none 0 0)) 0;go_enter Tryz.func187,Tryz.ntmps187;go_upto_region 1 with fail
 go_wp2_with ((with_reducible refine wpList_store_mid ?_ 56 (.tmp 2) (.tmp 5) ?_ (w.heap.size+1) 0 (pt21 ⟨1,⟨vk,vn,vd,vt,vb,vf⟩,0,⟨#[]⟩,0,Wt.r0,Wt.r0⟩ (.slice none 0 0)).toArray ?_ ?_ ?_ ?_ ?_ ?_);rfl;rfl;rfl;rfl;exact hth;kernel_rfl;exact one21 _ _ rfl)
 refine bodyPost_ret (results_cell rfl _ _ (w.heap.size+1) (pt21 ⟨1,⟨vk,vn,vd,vt,vb,vf⟩,0,⟨#[]⟩,0,Wt.r0,Wt.r0⟩ (.slice none 0 0)) _ rfl pR2.range Tryz.underlying56 rfl (by kernel_rfl)) rfl ⟨rfl,hB⟩
abbrev OpS (ka kb:Nat) (o:Int) (m:ByteArray) (t:Int) (W:World):Prop :=
 W.cell? ⟨ka,0,none⟩=some (.int .i64 o)∧W.cell? ⟨ka,1,none⟩=some (.string m)∧W.cell? ⟨ka,2,none⟩=some (.int .i64 t)
theorem OpS_mk {ka kb:Nat} {o:Int} {m:ByteArray} {t:Int} {W:World} (h:AtL W ka [.int .i64 o,.string m,.int .i64 t]):OpS ka kb o m t W:=h.f3
def opN (k o:Int):Wt.Nd:=⟨k,Wt.v0,o,⟨#[]⟩,0,Wt.r0,Wt.r0⟩
def opKd (t:Int):Int:=if t<5 then 5 else 4
theorem operation_any (o:Int) (m:ByteArray) (t:Int) (av:Option Addr) (len cap:Nat) (w:World):Calls Tryz.prog 94 #[.agg #[.int .i64 o,.string m,.int .i64 t],.slice av len cap] w fun e w'=>e=.returned (ptV (opN (opKd t) o) (.slice av len cap))∧Below w.heap.size w w':=by
 have C:=fun w=>tkind_any o m t w
 have pA:=(AtL.new0 w 118 [.int .i64 o,.string m,.int .i64 t]).alloc (.cells #[.int .i64 0,.int .i64 0,.int .i64 0,.int .i64 0,.string ⟨#[]⟩,.bool false,.int .i64 0,.int .i64 0,.string ⟨#[]⟩,.int .i64 0,.string ⟨#[]⟩,.int .i64 0,.int .i64 0,.bool false,.bool false,.string ⟨#[]⟩,.int .i64 0,.int .i64 0,.bool false,.bool false,.slice none 0 0] 56);have pR:AtL ((w.alloc (.cells #[.int .i64 o,.string m,.int .i64 t] 118)).alloc (.cells #[.int .i64 0,.int .i64 0,.int .i64 0,.int .i64 0,.string ⟨#[]⟩,.bool false,.int .i64 0,.int .i64 0,.string ⟨#[]⟩,.int .i64 0,.string ⟨#[]⟩,.int .i64 0,.int .i64 0,.bool false,.bool false,.string ⟨#[]⟩,.int .i64 0,.int .i64 0,.bool false,.bool false,.slice none 0 0] 56)) (w.heap.size+1) (pt21 (bare 0) (.slice none 0 0)):=AtL.new1 w _ _ _;have hB0:=ball (ball (Below.refl _ w) (.cells #[.int .i64 o,.string m,.int .i64 t] 118)) (.cells #[.int .i64 0,.int .i64 0,.int .i64 0,.int .i64 0,.string ⟨#[]⟩,.bool false,.int .i64 0,.int .i64 0,.string ⟨#[]⟩,.int .i64 0,.string ⟨#[]⟩,.int .i64 0,.int .i64 0,.bool false,.bool false,.string ⟨#[]⟩,.int .i64 0,.int .i64 0,.bool false,.bool false,.slice none 0 0] 56);unfold opKd;generalize (if t<5 then (5:Int) else 4)=kd at *;go_enter Tryz.func94,Tryz.ntmps94;go_upto_region 1 with fail
 refine wp_region_held_drew (S:=OpS w.heap.size (w.heap.size+1) o m t) (by kernel_rfl) (OpS_mk (AtL.drew pA)) (fun hHeld=>?_);refine tkQ 0 {dst:=some 5,op:=.load 118 (.tmp 2),type:=118,pos:= "parse.go:51",after:=#[],guard:=none} ?_;try simp only [Act.put,lA,lZ,lS]
 refine tkQ 2 {dst:=some 7,op:=.fieldAddr 118 (.tmp 2) 0,type:=0,pos:= "parse.go:51",after:=#[],guard:=none} ?_;try simp only [Act.put,lA,lZ,lS]
 refine tkQ 3 {dst:=some 8,op:=.load 3 (.tmp 7),type:=3,pos:= "parse.go:51",after:=#[⟨2,.data⟩],guard:=none} ?_;try simp only [Act.put,lA,lZ,lS]
 refine tkQ 5 {dst:=some 10,op:=.move (.tmp 1),type:=54,pos:= "parse.go:51",after:=#[],guard:=none} ?_;try simp only [Act.put,lA,lZ,lS]
 refine wpAnyH_ready (rs:=[1]) (by kernel_rfl) (by simp) ?_;refine AllReadyH.cons (o:={dst:=some 6,op:=.call {callee:=Callee.value (Operand.func 83),args:=#[.tmp 5],argTypes:=#[118]},type:=3,pos:= "parse.go:51",after:=#[⟨0,.data⟩],guard:=none}) rfl (fun K hK=>?_) AllReadyH.nil;go_simp
 refine (C _).mono ?_;rintro e w1 ⟨rfl,hb⟩;have pA1:=AtL.below hb (AtL.drew pA);have pR1:=AtL.below hb (AtL.drew pR);have hB1:=below_end hB0.drew hb;clear hb;go_wp2_with fail
 refine hK.out _ _ (OpS_mk pA1) (fun hHeld=>?_);clear hK K;try simp only [Act.put,lA,lZ,lS]
 refine tkQ 4 {dst:=some 9,op:=.build 45 #[(0,.tmp 6),(2,.tmp 8)],type:=45,pos:= "parse.go:51",after:=#[⟨1,.data⟩,⟨3,.data⟩],guard:=none} ?_;try simp only [Act.put,lA,lZ,lS]
 refine tkQ 6 {dst:=some 11,op:=.build 56 #[(0,.tmp 9),(1,.tmp 10)],type:=56,pos:= "parse.go:51",after:=#[⟨4,.data⟩,⟨5,.data⟩],guard:=none} ?_;try simp only [Act.put,lA,lZ,lS]
 refine wpAnyH_ready (rs:=[7]) (by kernel_rfl) (by simp) ?_;refine AllReadyH.cons (o:={dst:=none,op:=.store 56 (.tmp 4) (.tmp 11),type:=0,pos:= "parse.go:51",after:=#[⟨6,.data⟩,⟨1,.chain⟩,⟨0,.phase⟩,⟨1,.phase⟩,⟨2,.phase⟩,⟨3,.phase⟩,⟨4,.phase⟩,⟨5,.phase⟩,⟨6,.phase⟩],guard:=none}) rfl (fun K hK=>?_) AllReadyH.nil;refine wp_store_mid 56 (.tmp 4) (.tmp 11) rfl (w.heap.size+1) 0 (pt21 (opN kd o) (.slice av len cap)).toArray rfl rfl pR1.there (by kernel_rfl) (one21 _ _ rfl) ?_;have pR2:AtL (w1.setCells (w.heap.size+1) 0 (pt21 (opN kd o) (.slice av len cap))) (w.heap.size+1) (pt21 (opN kd o) (.slice av len cap)):=pR1.setAll rfl;have hB2:Below w.heap.size w (w1.setCells (w.heap.size+1) 0 (pt21 (opN kd o) (.slice av len cap))):=bset hB1 (Nat.le_succ _) _ 0;refine hK.out _ _ (OpS_mk (pA1.farAll (by omega) 0 _)) (fun hHeld=>?_);clear hK K;try simp only [Act.put]
 refine wpAnyH_done (by kernel_rfl) ?_ _;go_wp2_with fail
 refine bodyPost_ret (results_cell rfl _ _ (w.heap.size+1) (pt21 (opN kd o) (.slice av len cap)) _ rfl pR2.range Tryz.underlying56 rfl (by kernel_rfl)) rfl ⟨rfl,hB2⟩
end Go.Proofs.YtlggnpohhahdlaaGreatDoor
