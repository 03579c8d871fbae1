/- NWalkK, TWordB, TWordC, TPart, MWalkA, MRefA. -/
import Derived.Test.YtdghjlmnlodnlaaGreatDoorQ12
import Derived.Shelf.Strings.Search1
set_option maxHeartbeats 4000000
set_option maxRecDepth 100000
namespace Go.Proofs.YtdghjlmnlodnlaaGreatDoor
open Go.RowKit Go.Shelf Tryz
set_option linter.unusedVariables false
variable {w w':World} {row:List Wt.Nd} {lo kp n:Nat} {v sl:Value} {x:Wt.Nd} {G:Nat->Prop} {y:Int} {a:Wt.Rf}
def zCz:Go.Shelf.Ren:=⟨fun | 217=>173 | 266=>191 | n=>n,fun | 9=>9 | 5=>5 | 3=>3 | n=>n,fun | n=>n⟩
theorem zEy:Go.Proofs.Lays.n217 prog zCz:={
 mixed:=by kernel_rfl
 f217:=func173.trans (congrArg some (by kernel_rfl))
 f266:=func191.trans (congrArg some (by kernel_rfl))
 t3:=underlying3
 a3:=Tryz.isAgg3
 z3:=Tryz.sizeOf3
 v3:=Tryz.zeroValue3
 t5:=underlying5
 a5:=Tryz.isAgg5
 z5:=Tryz.sizeOf5
 v5:=Tryz.zeroValue5
 t9:=underlying9
 a9:=Tryz.isAgg9
 z9:=Tryz.sizeOf9
 v9:=Tryz.zeroValue9}
def zBz (l:List UInt8):List UInt8:=l.filter (λc=>!(c == 36))
theorem zKH (l:List UInt8):rep [36] [] l=zBz l:=by
 induction l with
 | nil=>exact zDk (by decide)
 | cons c t ih =>
  by_cases h:c=36
  ·subst h;rw [zGW (by decide) (by simp [List.isPrefixOf])];show rep [36] [] t=_
   rw [ih];rfl
  ·rw [zDP (by decide) (by simp [List.isPrefixOf];exact λe=>h e.symm),ih];unfold zBz;rw [List.filter_cons_of_pos (by simp [h])]
theorem zKO (b:ByteArray) (w:World) (hm:MaxAt w) (hs:b.size<=1048576):CR 84 #[.string b,.string ⟨#[36]⟩,.string ⟨#[]⟩] w (.string ⟨(zBz b.data.toList).toArray⟩):=by
 obtain ⟨m,hm⟩:=hm;have c:=zBk b ⟨#[36]⟩ (by decide);have h:=Any.strings_ReplaceAll {lays155 with} zCd b ⟨#[36]⟩ ⟨#[]⟩ m w (by omega) hm (by decide) (by show b.size+_ * 0<=_;omega);rw [zGn (by decide),zKH] at h;exact h
def dol (l:List UInt8):Bool:=match l with
 | c::_=>c == 36
 | []=>false
theorem zIk (c:UInt8) (t:List UInt8):((⟨(c::t).toArray⟩:ByteArray).extract 0 1).toList=[c]:=by rw [ByteArray.toList_eq];simp
theorem zLF (l:List UInt8) (w:World) (hl:l.length<=1048576):Calls prog 85 #[.string ⟨l.toArray⟩,.string ⟨#[36]⟩] w λe w'=>e=.returned (.bool (dol l))/\w=w':=by
 cases l with
 | nil =>
  go_enter func85,ntmps85;go_wp2;go_ret;exact ⟨rfl,rfl⟩
 | cons c t =>
  have hx:(((⟨(c::t).toArray⟩:ByteArray).extract 0 1).toList == [36])=(c == 36):=by rw [zIk];simp
  have hsz:(⟨(c::t).toArray⟩:ByteArray).size=t.length+1:=rfl;have h1:(1:Int)<=((⟨(c::t).toArray⟩:ByteArray).size:Int):=by omega
  unfold dol;simp only;generalize (⟨(c::t).toArray⟩:ByteArray)=s at *;cases hq:(c == 36) with
  | true =>
   rw [hq] at hx;go_enter func85,ntmps85;go_wp2;go_ret;exact ⟨rfl,rfl⟩
  | false =>
   rw [hq] at hx;go_enter func85,ntmps85;go_wp2;go_ret;exact ⟨rfl,rfl⟩
theorem zLn (c:UInt8) (t:List UInt8):(⟨(c::t).toArray⟩:ByteArray).extract 1 (t.length+1)=⟨t.toArray⟩:=by
 apply ByteArray.ext
 simp [ByteArray.data_extract]
theorem zK2 (l:List UInt8) (w:World) (hl:l.length<=1048576):Calls prog 221 #[.string ⟨l.toArray⟩,.string ⟨#[36]⟩] w λe w'=>e=.returned (.string ⟨(if dol l then l.drop 1 else l).toArray⟩)/\w=w':=by
 cases l with
 | nil =>
  go_enter func221,ntmps221;go_wp2;go_ret;exact ⟨rfl,rfl⟩
 | cons c t =>
  have hx:(((⟨(c::t).toArray⟩:ByteArray).extract 0 1).toList == [36])=(c == 36):=by rw [zIk];simp
  have hsz:(⟨(c::t).toArray⟩:ByteArray).size=t.length+1:=rfl;have hr:=zLn c t;have h1:(1:Int)<=((⟨(c::t).toArray⟩:ByteArray).size:Int):=by omega
  have hd:dol (c::t)=(c == 36):=rfl;rw [hd];have HR:Hid (ByteArray.extract ⟨(c::t).toArray⟩ 1 (t.length+1)=⟨t.toArray⟩):=hr;clear hr hd;obtain ⟨s,hs⟩:∃ s,(⟨(c::t).toArray⟩:ByteArray)=s:=⟨_,rfl⟩
  rw [hs] at hx hsz h1 HR;cases hq:(c == 36) with
  | true =>
   rw [hq] at hx;rw [if_pos rfl];simp only [List.drop_succ_cons,List.drop_zero];rw [hs,<-HR.out];clear hs;go_enter func221,ntmps221;go_wp2;go_ret;exact ⟨rfl,rfl⟩
  | false =>
   rw [hq] at hx;rw [if_neg (by decide),hs];clear hs HR;go_enter func221,ntmps221;go_wp2;go_ret;exact ⟨rfl,rfl⟩
theorem zIH (s:ByteArray) (w:World) :
  Calls prog 173 #[.string s,.int .u8 36] w λe w'=>e=.returned (.int .i64 (Lib.indexByte s.data.toList 36))/\w=w' :=
 (Any.stringslite_IndexByte zEy s 36 w).mono λe w' ⟨he,hw⟩=>⟨he,hw.symm⟩
theorem zGp (l:List UInt8) (w:World) :
  Calls prog 157 #[.string ⟨l.toArray⟩,.string ⟨#[36]⟩] w λe w'=>e=.returned (.int .i64 (Lib.indexByte l 36))/\w=w':=by
 have I:=λw=>zIH ⟨l.toArray⟩ w
 rw [show (⟨l.toArray⟩:ByteArray).data.toList=l from rfl] at I;have e0:((((⟨#[36]⟩:ByteArray)[0]).toNat:Nat):Int)=36:=rfl;cases h:([36] == l) with
 | true =>
  obtain rfl:[36]=l:=by simpa using h
  have E:Hid (Lib.indexByte [36] 36=0):=(rfl:Lib.indexByte [36] 36=0)
  go_enter func157,ntmps157;go_wp2;go_ret;exact ⟨by rw [E.out];rfl,rfl⟩
 | false =>
  go_enter func157,ntmps157;go_wp2_with fail
  refine (I _).mono ?_;rintro e w1 ⟨rfl,rfl⟩;go_wp2;go_ret;exact ⟨rfl,rfl⟩
theorem zKo (l:List UInt8):decide (0<=Lib.indexByte l 36)=l.any (λc=>c == 36):=by
 induction l with
 | nil=>rfl
 | cons b t ih =>
  have hg:=Lib.indexByte_ge t 36;rw [List.any_cons,<-ih];have e:Lib.indexByte (b::t) 36=if b == 36 then 0 else if Lib.indexByte t 36 == -1 then -1 else Lib.indexByte t 36+1:=rfl
  rw [e];clear e;by_cases h:b=36
  ·subst h;simp
  ·rw [if_neg (by simpa using h)];have h':(b == 36)=false:=by simp [h]
   rw [h',Bool.false_or];by_cases h2:Lib.indexByte t 36 = -1
   ·rw [h2];rfl
   ·rw [if_neg (by simpa using h2),decide_eq_true (by omega),decide_eq_true (by omega)]
theorem zJH (l:List UInt8) (w:World):Calls prog 220 #[.string ⟨l.toArray⟩,.string ⟨#[36]⟩] w λe w'=>e=.returned (.bool (l.any (λc=>c == 36)))/\w=w':=by
 have I:=λw=>zGp l w
 have J:∀ w:World,Calls prog 138 #[.string ⟨l.toArray⟩,.string ⟨#[36]⟩] w λe w'=>e=.returned (.int .i64 (Lib.indexByte l 36))/\w=w':=by
  intro w;go_enter func138,ntmps138;go_wp2_with fail
  refine (I _).mono ?_;rintro e w1 ⟨rfl,rfl⟩;go_wp2;go_ret;exact ⟨rfl,rfl⟩
 have E:Hid (decide (0<=Lib.indexByte l 36)=l.any (λc=>c == 36)):=zKo l;rw [<-E.out];clear I E;generalize Lib.indexByte l 36=n at *;go_enter func220,ntmps220;go_wp2_with fail
 refine (J _).mono ?_;rintro e w1 ⟨rfl,rfl⟩;go_wp2;go_ret;exact ⟨rfl,rfl⟩
def zIW (l:List UInt8):Wt.Rf:=⟨⟨#[]⟩,Wpl.rdR (zBz l),Wpl.rdC (zBz l),(if dol l then l.drop 1 else l).any (λc=>c == 36),dol l⟩
def rw1 (l:List UInt8):Option Wt.Rf:=if Wpl.rdOk (zBz l)=true then (if cw (zIW l)=l then some (zIW l) else none) else none
def RwV (r:Option Wt.Rf):Value:=match r with
 | some a=>.tuple #[rfV a,.bool true]
 | none=>.tuple #[rfV Wt.r0,.bool false]
theorem zOf {l:List UInt8} (h:Wpl.rdOk l=true):0<=Wpl.rdR l/\Wpl.rdR l<65536:=by
 unfold Wpl.rdR;rw [if_pos h];have:=of_decide_eq_true h;omega
theorem zFx (l:List UInt8) (w:World) (hm:MaxAt w) (htab:Lib.TabIs prog w "internal/strconv.uint64pow10" .u64 Lib.pow10Tab) (hl:l.length<=1024) :
  CR 212 #[.string ⟨l.toArray⟩] w (RwV (rw1 l)):=by
 have TB:=Lib.tabBelow_of_tabIs htab;clear htab;have Z:=AtL.new0 w 28 [.string ⟨#[]⟩,.int .i64 0,.int .i64 0,.bool false,.bool false];have hB0:=zAI (Below.refl _ w) (.cells zR0 28);have C1:=zKO ⟨l.toArray⟩ _ (hm.below hB0) (by show l.length<=_;omega);have hu:(zBz l).length<=l.length:=List.length_filter_le _ _;have C2:=λw=>zGs (zBz l) w (by omega)
 have C3:=λw=>zLF l w (by omega)
 have C4:=λw=>zK2 l w (by omega)
 have C5:=λw=>zJH (if dol l then l.drop 1 else l) w
 have bd:=@zOf (zBz l);have C6:=λw h0 h1 h=>zDF (zIW l) w h0 h1 h
 have e1:(⟨l.toArray⟩:ByteArray).data.toList=l:=rfl;rw [e1] at C1;unfold rw1;obtain ⟨W,hW⟩:∃ W,cw (zIW l)=W:=⟨_,rfl⟩
 rw [hW] at C6 ⊢;clear hW e1;unfold zIW at C6 ⊢;generalize zBz l=u at *;generalize (if dol l then l.drop 1 else l)=v at *;generalize dol l=d at *;generalize v.any (λc=>c == 36)=f at *;generalize Wpl.rdR u=r at *;generalize Wpl.rdC u=c at *;generalize Wpl.rdOk u=q at *;simp only [rfV,rf5] at C6;cases q
 ·rw [if_neg (by decide)];clear C6 bd;go_enter func212,ntmps212;go_wp2_with fail
  refine C1.mono ?_;rintro e w1 ⟨rfl,hb⟩;have Z1:=AtL.below hb Z;have hB1:=zAA hB0 hb;clear hb Z hB0;go_wp2_with fail
  refine (C2 _).mono ?_;rintro e w2 ⟨rfl,hb⟩;have Z2:=AtL.below hb Z1;have hB2:=zAA hB1 hb;clear hb Z1 hB1;go_wp2_with fail
  refine (C3 _).mono ?_;rintro e w3 ⟨rfl,rfl⟩;go_wp2_with fail
  refine (C4 _).mono ?_;rintro e w3 ⟨rfl,rfl⟩;go_wp2_with fail
  refine (C5 _).mono ?_;rintro e w3 ⟨rfl,rfl⟩;obtain ⟨a0,a1,a2,a3,a4,g0,g1,g2,g3,g4⟩:=Z2.five;have hlt:=Z2.lt;have hne:¬ w.heap.size=w2.heap.size:=by omega
  have hne2:¬ w2.heap.size=w.heap.size:=by omega
  go_wp2;refine bodyPost_ret (v:=.tuple #[rfV Wt.r0,.bool false]) (by simp [results,results212,go_sem,rfV,rf5,Wt.r0,a0,a1,a2,a3,a4,hlt]) rfl ⟨rfl,?_⟩;exact (clB hB2)
 ·obtain ⟨b0,b1⟩:=bd rfl;rw [if_pos rfl];replace C6:=λw h=>C6 w b0 b1 h
  by_cases hw:W=l
  ·rw [if_pos hw];subst hw;go_enter func212,ntmps212;go_wp2_with fail
   refine C1.mono ?_;rintro e w1 ⟨rfl,hb⟩;have Z1:=AtL.below hb Z;have hB1:=zAA hB0 hb;clear hb Z hB0;go_wp2_with fail
   refine (C2 _).mono ?_;rintro e w2 ⟨rfl,hb⟩;have Z2:=AtL.below hb Z1;have hB2:=zAA hB1 hb;clear hb Z1 hB1;go_wp2_with fail
   refine (C3 _).mono ?_;rintro e w3 ⟨rfl,rfl⟩;go_wp2_with fail
   refine (C4 _).mono ?_;rintro e w3 ⟨rfl,rfl⟩;go_wp2_with fail
   refine (C5 _).mono ?_;rintro e w3 ⟨rfl,rfl⟩;have hB3:=zAI hB2 (.cells #[.string ⟨#[]⟩,.int .i64 r,.int .i64 c,.bool f,.bool d] 28);have hT:=(TB.on hB3).here;have Z3:=AtL.alloc Z2 (.cells #[.string ⟨#[]⟩,.int .i64 r,.int .i64 c,.bool f,.bool d] 28);have Y3:=AtL.new0 w2 28 [.string ⟨#[]⟩,.int .i64 r,.int .i64 c,.bool f,.bool d];clear Z2 hB2 TB;go_wp2_with fail
   refine (C6 _ hT).mono ?_;rintro e w4 ⟨rfl,hb⟩;have Z4:=AtL.below hb Z3;have Y4:=AtL.below hb Y3;have hB4:=zAA hB3 hb;clear hb Z3 Y3 hB3 hT C1 C2 C3 C4 C5 C6;obtain ⟨a0,a1,a2,a3,a4,g0,g1,g2,g3,g4⟩:=Z4.five;obtain ⟨y0,y1,y2,y3,y4⟩:=Y4.f5;have hlt:=Z4.lt;go_wp2;refine bodyPost_ret (v:=.tuple #[rfV ⟨⟨#[]⟩,r,c,f,d⟩,.bool true]) (by simp [results,results212,go_sem,rfV,rf5,a0,a1,a2,a3,a4]) rfl ⟨rfl,?_⟩;exact (clB hB4)
  ·rw [if_neg hw];have hw':(W == l)=false:=by simp [hw]
   go_enter func212,ntmps212;go_wp2_with fail
   refine C1.mono ?_;rintro e w1 ⟨rfl,hb⟩;have Z1:=AtL.below hb Z;have hB1:=zAA hB0 hb;clear hb Z hB0;go_wp2_with fail
   refine (C2 _).mono ?_;rintro e w2 ⟨rfl,hb⟩;have Z2:=AtL.below hb Z1;have hB2:=zAA hB1 hb;clear hb Z1 hB1;go_wp2_with fail
   refine (C3 _).mono ?_;rintro e w3 ⟨rfl,rfl⟩;go_wp2_with fail
   refine (C4 _).mono ?_;rintro e w3 ⟨rfl,rfl⟩;go_wp2_with fail
   refine (C5 _).mono ?_;rintro e w3 ⟨rfl,rfl⟩;have hB3:=zAI hB2 (.cells #[.string ⟨#[]⟩,.int .i64 r,.int .i64 c,.bool f,.bool d] 28);have hT:=(TB.on hB3).here;have Z3:=AtL.alloc Z2 (.cells #[.string ⟨#[]⟩,.int .i64 r,.int .i64 c,.bool f,.bool d] 28);have Y3:=AtL.new0 w2 28 [.string ⟨#[]⟩,.int .i64 r,.int .i64 c,.bool f,.bool d];clear Z2 hB2 TB;go_wp2_with fail
   refine (C6 _ hT).mono ?_;rintro e w4 ⟨rfl,hb⟩;have Z4:=AtL.below hb Z3;have Y4:=AtL.below hb Y3;have hB4:=zAA hB3 hb;clear hb Z3 Y3 hB3 hT C1 C2 C3 C4 C5 C6;obtain ⟨a0,a1,a2,a3,a4,g0,g1,g2,g3,g4⟩:=Z4.five;obtain ⟨y0,y1,y2,y3,y4⟩:=Y4.f5;have hlt:=Z4.lt;go_wp2;refine bodyPost_ret (v:=.tuple #[rfV Wt.r0,.bool false]) (by simp [results,results212,go_sem,rfV,rf5,Wt.r0,a0,a1,a2,a3,a4]) rfl ⟨rfl,?_⟩;exact (clB hB4)
theorem zAG {P:Program} {fn:Func} {t:Tmp} {T:TypeId} (h:fn.results=#[.cell t T]) (tmps:Array Value) (w:World) (b:Nat) (cs:List Value) (d:TypeDesc) (ht:tmps.getD t undef=.pointer (some ⟨b,0,none⟩)) (hc:w.rangeAt b 0 cs)
  (hu:P.underlying T=some d) (hd:d.isRow=true) (hi:(P.info? T).map (·.size)=some cs.length):(results fn tmps).run P w=.ok (.agg cs.toArray) w:=by
 have hl:=run_loadVar_mid (P:=P) w b 0 T cs d hc hu hd hi;have ht':tmps[t]?.getD undef=.pointer (some ⟨b,0,none⟩):=by rw [<-ht];simp
 simp only [results,h];simp [ht',hl,asAddr]
def Env (w:World):Prop:=OpsAt w/\FltAt w/\MaxAt w/\Lib.TabIs prog w "internal/strconv.uint64pow10" .u64 Lib.pow10Tab
theorem Env.below (h:Env w) (hb:Below w.heap.size w w'):Env w':=⟨h.1.below hb,h.2.1.below hb,h.2.2.1.below hb,(Lib.tabBelow_of_tabIs h.2.2.2).on hb |>.here⟩
theorem Env.grown (h:Env w) (hg:w.grownBy w' (some kp)) (hk:8<=kp):Env w':=by
 obtain ⟨h1,h2,⟨m,h3⟩,h4⟩:=h;have hn:∀ g,g<8->some g ≠ some kp:=λg hg e=>by have:=Option.some.inj e;omega
 refine ⟨λj v hv=>hg.cell (h1 j v hv) (hn 0 (by decide)),λj v hv=>hg.cell (h2 j v hv) (hn 1 (by decide)),⟨m,hg.cell h3 (hn _ (by decide))⟩,?_⟩;have e:prog.globalNamed "internal/strconv.uint64pow10" = some 5:=by kernel_rfl
 unfold Lib.TabIs World.var? at h4 ⊢;rw [e] at h4 ⊢;simp only [Option.bind_some] at h4 ⊢;have hlt:5<w.heap.size:=by
  rcases Nat.lt_or_ge 5 w.heap.size with h | h
  ·exact h
  ·rw [Array.getElem?_eq_none h] at h4;cases h4
 rw [hg.block _ hlt (hn _ (by decide))];exact h4
def zAJ (x:Wt.Nd) (sl:Value):List Value:=zAE x++[sl]
def ptV (x:Wt.Nd) (sl:Value):Value:=.agg (zAJ x sl).toArray
def PtIs (w:World) (G:Nat->Prop):Nat->Wt.Nd->Value->List Wt.Nd->Prop
 | 0,_,_,_=>False
 | n+1,x,sl,row=>∃ (av:Option Addr) (cap:Nat) (ps:List (Wt.Nd × Value)) (rows:List (List Wt.Nd)),sl=.slice av ps.length cap/\rows.length=ps.length/\row=x::rows.flatten /\
   ∀ i (h:i<ps.length) (h':i<rows.length),∃ bb,av=some ⟨bb,0,none⟩/\G bb/\w.rangeAt bb (i * 21) (zAJ (ps[i]).1 (ps[i]).2)/\PtIs w G n (ps[i]).1 (ps[i]).2 (rows[i])
theorem zDv {bb o:Nat} (h:w.rangeAt bb o (zAJ x sl)):bb<w.heap.size:=World.block_lt_of_cell? _ _ (h 0 _ rfl)
theorem PtIs.keep {w w':World} {G:Nat->Prop} (hk:∀ k,G k->k<w.heap.size->w'.heap[k]? = w.heap[k]?):∀ (n:Nat) {x:Wt.Nd} {sl:Value} {row:List Wt.Nd},PtIs w G n x sl row->PtIs w' G n x sl row
 | 0,_,_,_,h=>h
 | n+1,x,sl,row,⟨av,cap,ps,rows,e,hl,hr,hp⟩=>⟨av,cap,ps,rows,e,hl,hr,λi h h'=>by
   obtain ⟨bb,e1,e2,e3,e4⟩:=hp i h h';exact ⟨bb,e1,e2,λj v hv=>(World.cell?_of_block (a:=⟨bb,i * 21+j,none⟩) (hk bb e2 (zDv e3))).trans (e3 j v hv),PtIs.keep hk n e4⟩⟩
theorem PtIs.mono {w:World} {G G':Nat->Prop} (hlo:∀ b,G b->G' b):∀ (n:Nat) {x:Wt.Nd} {sl:Value} {row:List Wt.Nd},PtIs w G n x sl row->PtIs w G' n x sl row
 | 0,_,_,_,h=>h
 | n+1,x,sl,row,⟨av,cap,ps,rows,e,hl,hr,hp⟩=>⟨av,cap,ps,rows,e,hl,hr,λi h h'=>by
   obtain ⟨bb,e1,e2,e3,e4⟩:=hp i h h';exact ⟨bb,e1,hlo _ e2,e3,PtIs.mono hlo n e4⟩⟩
theorem PtIs.leaf (w:World) (G:Nat->Prop) (x:Wt.Nd):PtIs w G 1 x (.slice none 0 0) [x]:=⟨none,0,[],[],rfl,rfl,rfl,λi h=>absurd h (Nat.not_lt_zero _)⟩
theorem PtIs.more {w:World} {G:Nat->Prop}:∀ {n:Nat} {x:Wt.Nd} {sl:Value} {row:List Wt.Nd},PtIs w G n x sl row->PtIs w G (n+1) x sl row
 | 0,_,_,_,h=>h.elim
 | n+1,x,sl,row,⟨av,cap,ps,rows,e,hl,hr,hp⟩=>⟨av,cap,ps,rows,e,hl,hr,λi h h'=>by
   obtain ⟨bb,e1,e2,e3,e4⟩:=hp i h h';exact ⟨bb,e1,e2,e3,PtIs.more e4⟩⟩
theorem PtIs.upto {m:Nat} (h:PtIs w G n x sl row) (hm:n<=m):PtIs w G m x sl row:=by
 induction m with
 | zero =>
   obtain rfl:n=0:=by omega
   exact h
 | succ m ih =>
  rcases Nat.lt_or_ge n (m+1) with h1 | h1
  ·exact (ih (by omega)).more
  ·obtain rfl:n=m+1:=by omega
   exact h
theorem PtIs.one (h:PtIs w G n x sl row):∃ av len cap,sl=.slice av len cap:=by
 cases n with
 | zero=>exact h.elim
 | succ n=>obtain ⟨av,cap,ps,rows,e,_⟩:=h;exact ⟨av,ps.length,cap,e⟩
def Pt (w:World) (lo:Nat) (v:Value) (row:List Wt.Nd):Prop:=∃ n x sl,v=ptV x sl/\PtIs w (λb=>lo<=b) n x sl row
theorem Pt.grown (h:Pt w lo v row) (hg:w.grownBy w' (some kp)) (hk:kp<lo):Pt w' lo v row:=by
 obtain ⟨n,x,sl,e,h⟩:=h;exact ⟨n,x,sl,e,PtIs.keep (λk h1 h2=>hg.block k h2 (λe=>by have:=Option.some.inj e;omega)) n h⟩
theorem Pt.below (h:Pt w lo v row) (hb:Below w.heap.size w w'):Pt w' lo v row:=by
 obtain ⟨n,x,sl,e,h⟩:=h;exact ⟨n,x,sl,e,PtIs.keep (λk h1 h2=>hb.block k h2) n h⟩
theorem zAi (b k:Nat) (hk:k ≠ b):∀ (vs:List Value) (o:Nat) (w:World),(w.setCells b o vs).heap[k]? = w.heap[k]?
 | [],_,_=>rfl
 | v::r,o,w=>by rw [World.setCells,zAi b k hk r];exact Below.heap_setCell _ _ _ _ hk
theorem Pt.far {b:Nat} (h:Pt w lo v row) (hb:b<lo) (o:Nat) (vs:List Value):Pt (w.setCells b o vs) lo v row:=by
 obtain ⟨n,x,sl,e,h⟩:=h;exact ⟨n,x,sl,e,PtIs.keep (λk h1 h2=>zAi b k (by omega) vs o w) n h⟩
theorem Pt.mono {lo':Nat} (h:Pt w lo v row) (hl:lo'<=lo):Pt w lo' v row:=by
 obtain ⟨n,x,sl,e,h⟩:=h;exact ⟨n,x,sl,e,PtIs.mono (λb hb=>Nat.le_trans hl hb) n h⟩
theorem zOn (x y:Int) (s:ByteArray) (r c:Int) (w:World) (V:Wpl.Cl) (q:Bool) (S:∀ w,CR 46 #[.agg #[.int .i64 0,.int .i64 r,.int .i64 c],.int .i64 x,.int .i64 y] w (.tuple #[.agg #[.int .i64 V.s,.int .i64 V.r,.int .i64 V.c],.bool q])) :
  CR 28 #[.agg #[.int .i64 x,.int .i64 y],.agg #[.string s,.int .i64 r,.int .i64 c,.bool false,.bool false]] w (.tuple #[.agg #[.string s,.int .i64 V.r,.int .i64 V.c,.bool false,.bool false],.bool q]):=by
 obtain ⟨vs,vr,vc⟩:=V;simp only at S ⊢;have pB:=((AtL.new0 w 50 [.int .i64 x,.int .i64 y]).alloc (.cells #[.string s,.int .i64 r,.int .i64 c,.bool false,.bool false] 28)).alloc (.cells zR0 28);have pA:=(AtL.new1 w (.cells #[.int .i64 x,.int .i64 y] 50) 28 [.string s,.int .i64 r,.int .i64 c,.bool false,.bool false]).alloc (.cells zR0 28);have pR:AtL (((w.alloc (.cells #[.int .i64 x,.int .i64 y] 50)).alloc (.cells #[.string s,.int .i64 r,.int .i64 c,.bool false,.bool false] 28)).alloc (.cells zR0 28)) (w.heap.size+2) [.string ⟨#[]⟩,.int .i64 0,.int .i64 0,.bool false,.bool false]:=AtL.new _ _ (by simp) _;have hB:=zAI (zAI (zAI (Below.refl _ w) (.cells #[.int .i64 x,.int .i64 y] 50)) (.cells #[.string s,.int .i64 r,.int .i64 c,.bool false,.bool false] 28)) (.cells zR0 28);go_enter func28,ntmps28;go_upto_region 1 with fail
 generalize (((w.alloc (.cells #[.int .i64 x,.int .i64 y] 50)).alloc (.cells #[.string s,.int .i64 r,.int .i64 c,.bool false,.bool false] 28)).alloc (.cells zR0 28))=W at *;obtain ⟨b0,b1,k0,k1⟩:=pB.two;obtain ⟨a0,a1,a2,a3,a4,f0,f1,f2,f3,f4⟩:=pA.five;go_wp2_with fail
 refine (S _).mono ?_;rintro e w1 ⟨rfl,hb⟩;have qA:=AtL.below (by first | exact hb | (simp only [World.size_setCell];exact hb)) (pA);have qR:=AtL.below (by first | exact hb | (simp only [World.size_setCell];exact hb)) (pR);have qB:=zAA (hB) (by first | exact hb | (simp only [World.size_setCell];exact hb));clear hb pA pB pR hB b0 b1 k0 k1 a0 a1 a2 a3 a4 f0 f1 f2 f3 f4 S;have sC:AtL (w1.alloc (.cells #[.int .i64 vs,.int .i64 vr,.int .i64 vc] 41)) w1.heap.size [.int .i64 vs,.int .i64 vr,.int .i64 vc]:=AtL.new w1 _ rfl _;have sA:=qA.alloc (.cells #[.int .i64 vs,.int .i64 vr,.int .i64 vc] 41);have sR:=qR.alloc (.cells #[.int .i64 vs,.int .i64 vr,.int .i64 vc] 41);have sB:=zAI qB (.cells #[.int .i64 vs,.int .i64 vr,.int .i64 vc] 41);have hlt:=qR.lt;clear qA qR qB;go_upto_region 6 with fail
 generalize w1.alloc (.cells #[.int .i64 vs,.int .i64 vr,.int .i64 vc] 41)=W1 at *;generalize w1.heap.size=kc at *;obtain ⟨z0,z1,z2,g0,g1,g2⟩:=sC.three;obtain ⟨a0,a1,a2,a3,a4,f0,f1,f2,f3,f4⟩:=sA.five;have hkc:¬ kc=w.heap.size+1:=by omega
 go_cut [] (λwx=>Below w.heap.size w wx/\AtL wx (w.heap.size+2) [.string ⟨#[]⟩,.int .i64 0,.int .i64 0,.bool false,.bool false]/\AtL wx (w.heap.size+1) [.string s,.int .i64 vr,.int .i64 vc,.bool false,.bool false])
 case first =>
  go_region
  go_wp2_with fail
  all_goals go_meet
  all_goals
   clear a0 a1 a2 a3 a4 f0 f1 f2 f3 f4 z0 z1 z2 g0 g1 g2;exact ⟨((sB.setCell (p:=⟨w.heap.size+1,1,none⟩) (by show w.heap.size<=w.heap.size+1;omega) _).setCell (p:=⟨w.heap.size+1,2,none⟩) (by show w.heap.size<=w.heap.size+1;omega) _).drew,((sR.far (j:=w.heap.size+1) (by omega) 1 _).far (j:=w.heap.size+1) (by omega) 2 _).drew,((sA.set 1 _).set 2 _).drew⟩
 case rest =>
 clear a0 a1 a2 a3 a4 f0 f1 f2 f3 f4 z0 z1 z2 g0 g1 g2 sA sR sB sC;obtain ⟨tB,tR,tA⟩:=hcut;obtain ⟨a0,a1,a2,a3,a4,f0,f1,f2,f3,f4⟩:=AtL.five tA;obtain ⟨r0,r1,r2,r3,r4,h0,h1,h2,h3,h4⟩:=AtL.five tR;go_wp2;refine bodyPost_ret (v:=.tuple #[.agg #[.string s,.int .i64 vr,.int .i64 vc,.bool false,.bool false],.bool q]) (by simp [results,results28,go_sem,r0,r1,r2,r3,r4]) rfl ⟨rfl,?_⟩;exact zBi tB (by omega) _ _ _ _ _
theorem zOD (x y:Int) (s:ByteArray) (r c:Int) (w:World) (V:Wpl.Cl) (q:Bool) (S:∀ w,CR 46 #[.agg #[.int .i64 0,.int .i64 r,.int .i64 c],.int .i64 x,.int .i64 0] w (.tuple #[.agg #[.int .i64 V.s,.int .i64 V.r,.int .i64 V.c],.bool q])) :
  CR 28 #[.agg #[.int .i64 x,.int .i64 y],.agg #[.string s,.int .i64 r,.int .i64 c,.bool false,.bool true]] w (.tuple #[.agg #[.string s,.int .i64 V.r,.int .i64 V.c,.bool false,.bool true],.bool q]):=by
 obtain ⟨vs,vr,vc⟩:=V;simp only at S ⊢;have pB:=((AtL.new0 w 50 [.int .i64 x,.int .i64 y]).alloc (.cells #[.string s,.int .i64 r,.int .i64 c,.bool false,.bool true] 28)).alloc (.cells zR0 28);have pA:=(AtL.new1 w (.cells #[.int .i64 x,.int .i64 y] 50) 28 [.string s,.int .i64 r,.int .i64 c,.bool false,.bool true]).alloc (.cells zR0 28);have pR:AtL (((w.alloc (.cells #[.int .i64 x,.int .i64 y] 50)).alloc (.cells #[.string s,.int .i64 r,.int .i64 c,.bool false,.bool true] 28)).alloc (.cells zR0 28)) (w.heap.size+2) [.string ⟨#[]⟩,.int .i64 0,.int .i64 0,.bool false,.bool false]:=AtL.new _ _ (by simp) _;have hB:=zAI (zAI (zAI (Below.refl _ w) (.cells #[.int .i64 x,.int .i64 y] 50)) (.cells #[.string s,.int .i64 r,.int .i64 c,.bool false,.bool true] 28)) (.cells zR0 28);go_enter func28,ntmps28;go_upto_region 1 with fail
 generalize (((w.alloc (.cells #[.int .i64 x,.int .i64 y] 50)).alloc (.cells #[.string s,.int .i64 r,.int .i64 c,.bool false,.bool true] 28)).alloc (.cells zR0 28))=W at *;obtain ⟨b0,b1,k0,k1⟩:=pB.two;obtain ⟨a0,a1,a2,a3,a4,f0,f1,f2,f3,f4⟩:=pA.five;go_wp2_with fail
 refine (S _).mono ?_;rintro e w1 ⟨rfl,hb⟩;have qA:=AtL.below (by first | exact hb | (simp only [World.size_setCell];exact hb)) ((pA).far (j:=w.heap.size) (by omega) 1 (.int .i64 0));have qR:=AtL.below (by first | exact hb | (simp only [World.size_setCell];exact hb)) ((pR).far (j:=w.heap.size) (by omega) 1 (.int .i64 0));have qB:=zAA ((hB).setCell (p:=⟨w.heap.size,1,none⟩) (Nat.le_refl _) (.int .i64 0)) (by first | exact hb | (simp only [World.size_setCell];exact hb));clear hb pA pB pR hB b0 b1 k0 k1 a0 a1 a2 a3 a4 f0 f1 f2 f3 f4 S;have sC:AtL (w1.alloc (.cells #[.int .i64 vs,.int .i64 vr,.int .i64 vc] 41)) w1.heap.size [.int .i64 vs,.int .i64 vr,.int .i64 vc]:=AtL.new w1 _ rfl _;have sA:=qA.alloc (.cells #[.int .i64 vs,.int .i64 vr,.int .i64 vc] 41);have sR:=qR.alloc (.cells #[.int .i64 vs,.int .i64 vr,.int .i64 vc] 41);have sB:=zAI qB (.cells #[.int .i64 vs,.int .i64 vr,.int .i64 vc] 41);have hlt:=qR.lt;clear qA qR qB;go_upto_region 6 with fail
 generalize w1.alloc (.cells #[.int .i64 vs,.int .i64 vr,.int .i64 vc] 41)=W1 at *;generalize w1.heap.size=kc at *;obtain ⟨z0,z1,z2,g0,g1,g2⟩:=sC.three;obtain ⟨a0,a1,a2,a3,a4,f0,f1,f2,f3,f4⟩:=sA.five;have hkc:¬ kc=w.heap.size+1:=by omega
 go_cut [] (λwx=>Below w.heap.size w wx/\AtL wx (w.heap.size+2) [.string ⟨#[]⟩,.int .i64 0,.int .i64 0,.bool false,.bool false]/\AtL wx (w.heap.size+1) [.string s,.int .i64 vr,.int .i64 vc,.bool false,.bool true])
 case first =>
  go_region
  go_wp2_with fail
  all_goals go_meet
  all_goals
   clear a0 a1 a2 a3 a4 f0 f1 f2 f3 f4 z0 z1 z2 g0 g1 g2;exact ⟨((sB.setCell (p:=⟨w.heap.size+1,1,none⟩) (by show w.heap.size<=w.heap.size+1;omega) _).setCell (p:=⟨w.heap.size+1,2,none⟩) (by show w.heap.size<=w.heap.size+1;omega) _).drew,((sR.far (j:=w.heap.size+1) (by omega) 1 _).far (j:=w.heap.size+1) (by omega) 2 _).drew,((sA.set 1 _).set 2 _).drew⟩
 case rest =>
 clear a0 a1 a2 a3 a4 f0 f1 f2 f3 f4 z0 z1 z2 g0 g1 g2 sA sR sB sC;obtain ⟨tB,tR,tA⟩:=hcut;obtain ⟨a0,a1,a2,a3,a4,f0,f1,f2,f3,f4⟩:=AtL.five tA;obtain ⟨r0,r1,r2,r3,r4,h0,h1,h2,h3,h4⟩:=AtL.five tR;go_wp2;refine bodyPost_ret (v:=.tuple #[.agg #[.string s,.int .i64 vr,.int .i64 vc,.bool false,.bool true],.bool q]) (by simp [results,results28,go_sem,r0,r1,r2,r3,r4]) rfl ⟨rfl,?_⟩;exact zBi tB (by omega) _ _ _ _ _
theorem zNo (x y:Int) (s:ByteArray) (r c:Int) (w:World) (V:Wpl.Cl) (q:Bool) (S:∀ w,CR 46 #[.agg #[.int .i64 0,.int .i64 r,.int .i64 c],.int .i64 0,.int .i64 y] w (.tuple #[.agg #[.int .i64 V.s,.int .i64 V.r,.int .i64 V.c],.bool q])) :
  CR 28 #[.agg #[.int .i64 x,.int .i64 y],.agg #[.string s,.int .i64 r,.int .i64 c,.bool true,.bool false]] w (.tuple #[.agg #[.string s,.int .i64 V.r,.int .i64 V.c,.bool true,.bool false],.bool q]):=by
 obtain ⟨vs,vr,vc⟩:=V;simp only at S ⊢;have pB:=((AtL.new0 w 50 [.int .i64 x,.int .i64 y]).alloc (.cells #[.string s,.int .i64 r,.int .i64 c,.bool true,.bool false] 28)).alloc (.cells zR0 28);have pA:=(AtL.new1 w (.cells #[.int .i64 x,.int .i64 y] 50) 28 [.string s,.int .i64 r,.int .i64 c,.bool true,.bool false]).alloc (.cells zR0 28);have pR:AtL (((w.alloc (.cells #[.int .i64 x,.int .i64 y] 50)).alloc (.cells #[.string s,.int .i64 r,.int .i64 c,.bool true,.bool false] 28)).alloc (.cells zR0 28)) (w.heap.size+2) [.string ⟨#[]⟩,.int .i64 0,.int .i64 0,.bool false,.bool false]:=AtL.new _ _ (by simp) _;have hB:=zAI (zAI (zAI (Below.refl _ w) (.cells #[.int .i64 x,.int .i64 y] 50)) (.cells #[.string s,.int .i64 r,.int .i64 c,.bool true,.bool false] 28)) (.cells zR0 28);go_enter func28,ntmps28;go_upto_region 1 with fail
 generalize (((w.alloc (.cells #[.int .i64 x,.int .i64 y] 50)).alloc (.cells #[.string s,.int .i64 r,.int .i64 c,.bool true,.bool false] 28)).alloc (.cells zR0 28))=W at *;obtain ⟨b0,b1,k0,k1⟩:=pB.two;obtain ⟨a0,a1,a2,a3,a4,f0,f1,f2,f3,f4⟩:=pA.five;go_wp2_with fail
 refine (S _).mono ?_;rintro e w1 ⟨rfl,hb⟩;have qA:=AtL.below (by first | exact hb | (simp only [World.size_setCell];exact hb)) ((pA).far (j:=w.heap.size) (by omega) 0 (.int .i64 0));have qR:=AtL.below (by first | exact hb | (simp only [World.size_setCell];exact hb)) ((pR).far (j:=w.heap.size) (by omega) 0 (.int .i64 0));have qB:=zAA ((hB).setCell (p:=⟨w.heap.size,0,none⟩) (Nat.le_refl _) (.int .i64 0)) (by first | exact hb | (simp only [World.size_setCell];exact hb));clear hb pA pB pR hB b0 b1 k0 k1 a0 a1 a2 a3 a4 f0 f1 f2 f3 f4 S;have sC:AtL (w1.alloc (.cells #[.int .i64 vs,.int .i64 vr,.int .i64 vc] 41)) w1.heap.size [.int .i64 vs,.int .i64 vr,.int .i64 vc]:=AtL.new w1 _ rfl _;have sA:=qA.alloc (.cells #[.int .i64 vs,.int .i64 vr,.int .i64 vc] 41);have sR:=qR.alloc (.cells #[.int .i64 vs,.int .i64 vr,.int .i64 vc] 41);have sB:=zAI qB (.cells #[.int .i64 vs,.int .i64 vr,.int .i64 vc] 41);have hlt:=qR.lt;clear qA qR qB;go_upto_region 6 with fail
 generalize w1.alloc (.cells #[.int .i64 vs,.int .i64 vr,.int .i64 vc] 41)=W1 at *;generalize w1.heap.size=kc at *;obtain ⟨z0,z1,z2,g0,g1,g2⟩:=sC.three;obtain ⟨a0,a1,a2,a3,a4,f0,f1,f2,f3,f4⟩:=sA.five;have hkc:¬ kc=w.heap.size+1:=by omega
 go_cut [] (λwx=>Below w.heap.size w wx/\AtL wx (w.heap.size+2) [.string ⟨#[]⟩,.int .i64 0,.int .i64 0,.bool false,.bool false]/\AtL wx (w.heap.size+1) [.string s,.int .i64 vr,.int .i64 vc,.bool true,.bool false])
 case first =>
  go_region
  go_wp2_with fail
  all_goals go_meet
  all_goals
   clear a0 a1 a2 a3 a4 f0 f1 f2 f3 f4 z0 z1 z2 g0 g1 g2;exact ⟨((sB.setCell (p:=⟨w.heap.size+1,1,none⟩) (by show w.heap.size<=w.heap.size+1;omega) _).setCell (p:=⟨w.heap.size+1,2,none⟩) (by show w.heap.size<=w.heap.size+1;omega) _).drew,((sR.far (j:=w.heap.size+1) (by omega) 1 _).far (j:=w.heap.size+1) (by omega) 2 _).drew,((sA.set 1 _).set 2 _).drew⟩
 case rest =>
 clear a0 a1 a2 a3 a4 f0 f1 f2 f3 f4 z0 z1 z2 g0 g1 g2 sA sR sB sC;obtain ⟨tB,tR,tA⟩:=hcut;obtain ⟨a0,a1,a2,a3,a4,f0,f1,f2,f3,f4⟩:=AtL.five tA;obtain ⟨r0,r1,r2,r3,r4,h0,h1,h2,h3,h4⟩:=AtL.five tR;go_wp2;refine bodyPost_ret (v:=.tuple #[.agg #[.string s,.int .i64 vr,.int .i64 vc,.bool true,.bool false],.bool q]) (by simp [results,results28,go_sem,r0,r1,r2,r3,r4]) rfl ⟨rfl,?_⟩;exact zBi tB (by omega) _ _ _ _ _
theorem zOB (x y:Int) (s:ByteArray) (r c:Int) (w:World) (V:Wpl.Cl) (q:Bool) (S:∀ w,CR 46 #[.agg #[.int .i64 0,.int .i64 r,.int .i64 c],.int .i64 0,.int .i64 0] w (.tuple #[.agg #[.int .i64 V.s,.int .i64 V.r,.int .i64 V.c],.bool q])) :
  CR 28 #[.agg #[.int .i64 x,.int .i64 y],.agg #[.string s,.int .i64 r,.int .i64 c,.bool true,.bool true]] w (.tuple #[.agg #[.string s,.int .i64 V.r,.int .i64 V.c,.bool true,.bool true],.bool q]):=by
 obtain ⟨vs,vr,vc⟩:=V;simp only at S ⊢;have pB:=((AtL.new0 w 50 [.int .i64 x,.int .i64 y]).alloc (.cells #[.string s,.int .i64 r,.int .i64 c,.bool true,.bool true] 28)).alloc (.cells zR0 28);have pA:=(AtL.new1 w (.cells #[.int .i64 x,.int .i64 y] 50) 28 [.string s,.int .i64 r,.int .i64 c,.bool true,.bool true]).alloc (.cells zR0 28);have pR:AtL (((w.alloc (.cells #[.int .i64 x,.int .i64 y] 50)).alloc (.cells #[.string s,.int .i64 r,.int .i64 c,.bool true,.bool true] 28)).alloc (.cells zR0 28)) (w.heap.size+2) [.string ⟨#[]⟩,.int .i64 0,.int .i64 0,.bool false,.bool false]:=AtL.new _ _ (by simp) _;have hB:=zAI (zAI (zAI (Below.refl _ w) (.cells #[.int .i64 x,.int .i64 y] 50)) (.cells #[.string s,.int .i64 r,.int .i64 c,.bool true,.bool true] 28)) (.cells zR0 28);go_enter func28,ntmps28;go_upto_region 1 with fail
 generalize (((w.alloc (.cells #[.int .i64 x,.int .i64 y] 50)).alloc (.cells #[.string s,.int .i64 r,.int .i64 c,.bool true,.bool true] 28)).alloc (.cells zR0 28))=W at *;obtain ⟨b0,b1,k0,k1⟩:=pB.two;obtain ⟨a0,a1,a2,a3,a4,f0,f1,f2,f3,f4⟩:=pA.five;go_wp2_with fail
 refine (S _).mono ?_;rintro e w1 ⟨rfl,hb⟩;have qA:=AtL.below (by first | exact hb | (simp only [World.size_setCell];exact hb)) (((pA).far (j:=w.heap.size) (by omega) 0 (.int .i64 0)).far (j:=w.heap.size) (by omega) 1 (.int .i64 0));have qR:=AtL.below (by first | exact hb | (simp only [World.size_setCell];exact hb)) (((pR).far (j:=w.heap.size) (by omega) 0 (.int .i64 0)).far (j:=w.heap.size) (by omega) 1 (.int .i64 0));have qB:=zAA (((hB).setCell (p:=⟨w.heap.size,0,none⟩) (Nat.le_refl _) (.int .i64 0)).setCell (p:=⟨w.heap.size,1,none⟩) (Nat.le_refl _) (.int .i64 0)) (by first | exact hb | (simp only [World.size_setCell];exact hb));clear hb pA pB pR hB b0 b1 k0 k1 a0 a1 a2 a3 a4 f0 f1 f2 f3 f4 S;have sC:AtL (w1.alloc (.cells #[.int .i64 vs,.int .i64 vr,.int .i64 vc] 41)) w1.heap.size [.int .i64 vs,.int .i64 vr,.int .i64 vc]:=AtL.new w1 _ rfl _;have sA:=qA.alloc (.cells #[.int .i64 vs,.int .i64 vr,.int .i64 vc] 41);have sR:=qR.alloc (.cells #[.int .i64 vs,.int .i64 vr,.int .i64 vc] 41);have sB:=zAI qB (.cells #[.int .i64 vs,.int .i64 vr,.int .i64 vc] 41);have hlt:=qR.lt;clear qA qR qB;go_upto_region 6 with fail
 generalize w1.alloc (.cells #[.int .i64 vs,.int .i64 vr,.int .i64 vc] 41)=W1 at *;generalize w1.heap.size=kc at *;obtain ⟨z0,z1,z2,g0,g1,g2⟩:=sC.three;obtain ⟨a0,a1,a2,a3,a4,f0,f1,f2,f3,f4⟩:=sA.five;have hkc:¬ kc=w.heap.size+1:=by omega
 go_cut [] (λwx=>Below w.heap.size w wx/\AtL wx (w.heap.size+2) [.string ⟨#[]⟩,.int .i64 0,.int .i64 0,.bool false,.bool false]/\AtL wx (w.heap.size+1) [.string s,.int .i64 vr,.int .i64 vc,.bool true,.bool true])
 case first =>
  go_region
  go_wp2_with fail
  all_goals go_meet
  all_goals
   clear a0 a1 a2 a3 a4 f0 f1 f2 f3 f4 z0 z1 z2 g0 g1 g2;exact ⟨((sB.setCell (p:=⟨w.heap.size+1,1,none⟩) (by show w.heap.size<=w.heap.size+1;omega) _).setCell (p:=⟨w.heap.size+1,2,none⟩) (by show w.heap.size<=w.heap.size+1;omega) _).drew,((sR.far (j:=w.heap.size+1) (by omega) 1 _).far (j:=w.heap.size+1) (by omega) 2 _).drew,((sA.set 1 _).set 2 _).drew⟩
 case rest =>
 clear a0 a1 a2 a3 a4 f0 f1 f2 f3 f4 z0 z1 z2 g0 g1 g2 sA sR sB sC;obtain ⟨tB,tR,tA⟩:=hcut;obtain ⟨a0,a1,a2,a3,a4,f0,f1,f2,f3,f4⟩:=AtL.five tA;obtain ⟨r0,r1,r2,r3,r4,h0,h1,h2,h3,h4⟩:=AtL.five tR;go_wp2;refine bodyPost_ret (v:=.tuple #[.agg #[.string s,.int .i64 vr,.int .i64 vc,.bool true,.bool true],.bool q]) (by simp [results,results28,go_sem,r0,r1,r2,r3,r4]) rfl ⟨rfl,?_⟩;exact zBi tB (by omega) _ _ _ _ _
theorem zBa (x y:Int) (a:Wt.Rf) (w:World):CR 28 #[.agg #[.int .i64 x,.int .i64 y],.agg (rf5 a).toArray] w (.tuple #[.agg (rf5 (mvR x y a)).toArray,.bool (okR x y a)]):=by
 obtain ⟨s,r,c,fr,fc⟩:=a;have S:=λw=>zJI 0 r c (mvX x fr) (mvX y fc) w
 cases fr <;> cases fc
 ·exact zOn x y s r c w _ _ S
 ·exact zOD x y s r c w _ _ S
 ·exact zNo x y s r c w _ _ S
 ·exact zOB x y s r c w _ _ S
def zHq (n x:Int) (fx:Bool) (m:Int):Bool:=decide (0<=n+mvX x fx) && decide (n+mvX x fx<m)
def zLD (n x:Int) (fx:Bool) (m:Int):Int:=if zHq n x fx m then n+mvX x fx else 0
theorem zHK (n x m:Int) (fx:Bool) (w:World) (h0:0<=n) (h1:n<m) (hm:m<=65536) (hx1:-9223372036854775808<=x) (hx2:x<=9223372036854775807) :
  Calls prog 31 #[.int .i64 n,.int .i64 x,.bool fx,.int .i64 m] w λe w'=>e=.returned (.tuple #[.int .i64 (zLD n x fx m),.bool (zHq n x fx m)])/\w=w':=by
 cases fx
 ·rw [show zLD n x false m=if zHq n x false m then n+x else 0 by simp [zLD,mvX],show zHq n x false m=(decide (0<=n+x) && decide (n+x<m)) by simp [zHq,mvX]];by_cases a:x < -n
  ·rw [decide_eq_false (p:=0<=n+x) (by omega)];go_enter func31,ntmps31;go_wp2;go_ret2
   exact ⟨rfl,rfl⟩
  ·by_cases b:m - n<=x
   ·rw [decide_eq_false (p:=n+x<m) (by omega),Bool.and_false];go_enter func31,ntmps31;go_wp2;go_ret2
    exact ⟨rfl,rfl⟩
   ·rw [decide_eq_true (p:=0<=n+x) (by omega),decide_eq_true (p:=n+x<m) (by omega)];go_enter func31,ntmps31;go_wp2;go_ret2
    exact ⟨rfl,rfl⟩
 ·rw [show zLD n x true m=if zHq n x true m then n else 0 by simp [zLD,mvX],show zHq n x true m=true by simp [zHq,mvX];omega];go_enter func31,ntmps31;go_wp2;go_ret2
  exact ⟨rfl,rfl⟩
def zGH (x y:Int) (a:Wt.Rf):Wt.Rf:=⟨a.s,zLD a.r x a.fr 65536,zLD a.c y a.fc 256,a.fr,a.fc⟩
def zPW (x y:Int) (a:Wt.Rf):Bool:=zHq a.r x a.fr 65536 && zHq a.c y a.fc 256
theorem zE1 {x:Int} (h:Wt.rfOk a=true):zPW x y a=okR x y a:=by
 have hr:=zHd h;rw [Bool.eq_iff_iff,zJ1];unfold zPW zHq;simp only [Bool.and_eq_true,decide_eq_true_eq];omega
theorem zGo {x:Int} (h:Wt.rfOk a=true) (hk:okR x y a=true):zGH x y a=mvR x y a:=by
 rw [zNM hk];rw [<-zE1 h] at hk;unfold zPW at hk;rw [Bool.and_eq_true] at hk;unfold zGH zLD;rw [if_pos hk.1,if_pos hk.2]
theorem zLh (x y:Int) (a:Wt.Rf) (w:World) (h:Wt.rfOk a=true) (hx:-9223372036854775808<=x/\x<=9223372036854775807) (hy:-9223372036854775808<=y/\y<=9223372036854775807) :
  CR 17 #[.agg (rf5 a).toArray,.int .i64 x,.int .i64 y] w (.tuple #[.agg (rf5 (zGH x y a)).toArray,.bool (zPW x y a)]):=by
 obtain ⟨r0,r1,c0,c1⟩:=zHd h;clear h;obtain ⟨s,r,c,fr,fc⟩:=a;unfold zGH zPW;simp only at r0 r1 c0 c1 ⊢;have S1:=λw=>zHK r x 65536 fr w r0 r1 (by omega) hx.1 hx.2
 have S2:=λw=>zHK c y 256 fc w c0 c1 (by omega) hy.1 hy.2
 generalize zLD r x fr 65536=vr at *;generalize zHq r x fr 65536=q1 at *;generalize zLD c y fc 256=vc at *;generalize zHq c y fc 256=q2 at *;clear hx hy r0 r1 c0 c1;show Calls _ _ #[.agg #[.string s,.int .i64 r,.int .i64 c,.bool fr,.bool fc],.int .i64 x,.int .i64 y] _ λe w'=>e=.returned (.tuple #[.agg #[.string s,.int .i64 vr,.int .i64 vc,.bool fr,.bool fc],.bool (q1 && q2)])/\_
 have pA:=(AtL.new0 w 28 [.string s,.int .i64 r,.int .i64 c,.bool fr,.bool fc]).alloc (.cells zR0 28);have pR:=AtL.new1 w (.cells #[.string s,.int .i64 r,.int .i64 c,.bool fr,.bool fc] 28) 28 [.string ⟨#[]⟩,.int .i64 0,.int .i64 0,.bool false,.bool false];have hB:=zAI (zAI (Below.refl _ w) (.cells #[.string s,.int .i64 r,.int .i64 c,.bool fr,.bool fc] 28)) (.cells zR0 28);go_enter func17,ntmps17;go_upto_region 1 with fail
 generalize ((w.alloc (.cells #[.string s,.int .i64 r,.int .i64 c,.bool fr,.bool fc] 28)).alloc (.cells zR0 28))=W at *;obtain ⟨a0,a1,a2,a3,a4,f0,f1,f2,f3,f4⟩:=pA.five;go_wp2_with fail
 refine (S1 _).mono ?_;rintro e w1 ⟨rfl,rfl⟩;go_wp2_with fail
 refine (S2 _).mono ?_;rintro e w1 ⟨rfl,rfl⟩;clear S1 S2;have sA:AtL ((W.setCell ⟨w.heap.size,1,none⟩ (.int .i64 vr)).setCell ⟨w.heap.size,2,none⟩ (.int .i64 vc)) w.heap.size [.string s,.int .i64 vr,.int .i64 vc,.bool fr,.bool fc]:=(pA.set 1 _).set 2 _;have sR:AtL ((W.setCell ⟨w.heap.size,1,none⟩ (.int .i64 vr)).setCell ⟨w.heap.size,2,none⟩ (.int .i64 vc)) (w.heap.size+1) [.string ⟨#[]⟩,.int .i64 0,.int .i64 0,.bool false,.bool false]:=(pR.far (j:=w.heap.size) (by omega) 1 _).far (j:=w.heap.size) (by omega) 2 _;have sB:Below w.heap.size w ((W.setCell ⟨w.heap.size,1,none⟩ (.int .i64 vr)).setCell ⟨w.heap.size,2,none⟩ (.int .i64 vc)):=(hB.setCell (p:=⟨w.heap.size,1,none⟩) (Nat.le_refl _) _).setCell (p:=⟨w.heap.size,2,none⟩) (Nat.le_refl _) _;clear pA pR hB;go_upto_region 5 with fail
 clear a0 a1 a2 a3 a4 f0 f1 f2 f3 f4;generalize ((W.setCell ⟨w.heap.size,1,none⟩ (.int .i64 vr)).setCell ⟨w.heap.size,2,none⟩ (.int .i64 vc))=W2 at *;obtain ⟨a0,a1,a2,a3,a4,f0,f1,f2,f3,f4⟩:=AtL.five sA;obtain ⟨r0,r1,r2,r3,r4,h0,h1,h2,h3,h4⟩:=AtL.five sR;cases q1
 all_goals
  go_wp2;refine bodyPost_ret (v:=.tuple #[.agg #[.string s,.int .i64 vr,.int .i64 vc,.bool fr,.bool fc],.bool (_ && q2)]) (by simp [results,results17,go_sem,r0,r1,r2,r3,r4]) rfl ⟨rfl,?_⟩;exact zBi sB (by omega) _ _ _ _ _
end Go.Proofs.YtdghjlmnlodnlaaGreatDoor
