/- LBytes, TRefH, TRefI, TRefJ. -/
import Derived.Test.YtdghjlmnlodnlaaGreatDoorQ38
import Derived.Laws.BytesArg
set_option maxHeartbeats 3200000
set_option maxRecDepth 100000
namespace Go.Proofs.YtdghjlmnlodnlaaGreatDoor
open Go.Shelf Go.RowKit
set_option linter.unusedVariables false
variable {w:World} {B n:Nat} {v:Value} {l:List UInt8} {x:Wt.Nd}
abbrev zEJ (w:World) (base:Nat) (v:Value) (l:List UInt8):Prop:=w.ownsRow base 5 1 v l.length (Lib.byteCells l)
theorem zDt:(prog.info? 5).map (λi=>(i.zero,i.size,i.bytes))=some (some (.int .u8 0),1,1):=by kernel_rfl
theorem zAm {c:UInt8} {n:Nat} (h:w.ownsRow B 5 1 v (l.length+1) (Lib.byteCells l++[.int .u8 ((c.toNat:Nat):Int)])):zEJ w B v (l++[c]):=by
 show w.ownsRow B 5 1 v (l++[c]).length (Lib.byteCells (l++[c]))
 rw [List.length_append,Lib.byteCells_append];exact h
theorem zGA (h:zEJ w B v l):(convert 82 9 v).run prog w=.ok (.string ⟨l.toArray⟩) w:=by
 rcases h.2 with ⟨rfl,hn⟩ | ⟨g,cap,cur,rfl,_⟩
 ·obtain rfl:=List.eq_nil_of_length_eq_zero hn;exact run_convert_bytes_nil (P:=prog) w 82 5 underlying82 underlying5 0 0 9 underlying9
 ·exact run_convert_bytes_back (P:=prog) w 82 9 5 ⟨g,0,none⟩ cap l underlying82 underlying5 underlying9 (λj hj=>by
   have:=h.cells (g:=g) rfl j (.int .u8 ((l[j]).toNat:Nat)) (by simp [Lib.byteCells,hj]);exact this)
theorem zA2 (w:World) (a:Value) (t:TypeId):∀ j u,[a][j]? = some u->(w.alloc (.cells #[a] t)).cell? ((⟨w.heap.size,0,none⟩:Addr).add j)=some u:=by
 intro j u hj;match j,hj with
 | 0,hj=>simp at hj;subst hj;simp [Addr.add]
 | j+1,hj=>simp at hj
theorem zA7 {W w':World} {xs:List Value} {o:Obj} (hb:Below B w W) (hB:B<=W.heap.size) (hown:W.ownsRow B 5 1 v n xs) (hg:(W.alloc o).grownBy w' v.ownBlock):Below B w w' :=
 (hb.alloc hB o).grown hg (by simp;omega) (λk hk=>(hown.lt k hk).1)
theorem zKp (b:ByteArray) (w:World) (hs:b.size<=1048576):CR 64 #[.string b] w (.string ⟨(34::(Wlx.dbl b.data.toList++[34])).toArray⟩):=by
 obtain ⟨i0,hi,hz0,hz1,hz2⟩:=info_parts zDt;have hbl:Hid (b.data.toList.length=b.size):=(rfl:b.data.toList.length=b.size)
 have own0:zEJ w w.heap.size (.slice none 0 0) []:=World.ownsRow_nil _ _ _ _;go_enter func64,ntmps64;go_wp2_with (at_builtin;refine wpList_append_own _ rfl _ _ 82 rfl w.heap.size 5 i0 (.int .u8 0) 1 1 underlying82 hi hz0 hz1 hz2 rfl (by decide) _ _ _ rfl (own0.alloc _) ⟨w.heap.size,0,none⟩ 1 1 [.int .u8 34] rfl rfl (zA2 _ _ _) (by intro u hu;simp at hu;subst hu;rfl) (by unfold maxLen;simp) (by simp) (by simp) ?_)
 intro v1 w1 hown1 hgrow1 _;have hb1:=zA7 (Below.refl _ w) (Nat.le_refl _) own0 hgrow1;have own1:zEJ w1 w.heap.size v1 ([]++[34]):=zAm (n:=0) hown1;have HO1:Hid (zEJ w1 w.heap.size v1 (34::Wlx.dbl (b.data.toList.take 0))):=own1;clear hown1 hgrow1 own1 own0;go_wp2_with fail
 go_loopg [3,4] (b.size) (λgk x y wr=>∃ i:Nat,y=.int .i64 i/\gk=b.size - i/\i<=b.size/\Hid (zEJ wr w.heap.size x (34::Wlx.dbl (b.data.toList.take i)))/\Below w.heap.size w wr)
 case atStart=>exact ⟨0,rfl,rfl,Nat.zero_le _,HO1,hb1⟩
 case round =>
  clear HO1 hb1;obtain ⟨i,rfl,hg,hi1,HO,hb⟩:=hrel;have sw:=hb.size;by_cases hlt:i<b.size
  ·have hli:(i:Int)<(b.size:Int):=by omega
   have hil:i<b.data.toList.length:=hlt;have etk:b.data.toList.take (i+1)=b.data.toList.take i++[b[i]]:=List.take_succ_eq_append_getElem hil;have hdl:(Wlx.dbl (b.data.toList.take i)).length<=2097152:=by
    have:=Wlx.dbl_length (b.data.toList.take i);rw [List.length_take] at this;have:=hbl.out;omega
   obtain ⟨d,hd⟩:∃ d,Wlx.dbl (b.data.toList.take i)=d:=⟨_,rfl⟩
   have own:=HO.out;rw [hd] at own hdl;obtain ⟨c,hc⟩:∃ c,b[i]=c:=⟨_,rfl⟩
   by_cases h34:c=34
   ·have HD:Hid (Wlx.dbl (b.data.toList.take (i+1))=d++[34]++[34]):=by
     show _=_
     rw [etk,Wlx.dbl_app,hd,hc,h34];simp [Wlx.dbl]
    have eb:(((b[i]).toNat:Nat):Int)=34:=by rw [hc,h34];rfl
    clear HO hd etk hc h34;go_wp2_with (at_builtin;refine wpList_append_own _ rfl _ _ 82 rfl w.heap.size 5 i0 (.int .u8 0) 1 1 underlying82 hi hz0 hz1 hz2 rfl (by decide) _ _ _ rfl (own.alloc _) ⟨wr.heap.size,0,none⟩ 1 1 [.int .u8 34] rfl rfl (zA2 _ _ _) (by intro u hu;simp at hu;subst hu;rfl) (by unfold maxLen;simp;omega) (by simp;omega) (by simp;omega) ?_)
    intro v2 w2 hown2 hgrow2 _;have hb2:=zA7 hb sw own hgrow2;have own2:zEJ w2 w.heap.size v2 (34::d++[34]):=zAm (n:=0) hown2;have sw2:=hb2.size;clear hown2 hgrow2 own;have hl2:(34::d++[34]).length<=2097160:=by simp;omega
    obtain ⟨e2,he2⟩:∃ e2,34::d++[34]=e2:=⟨_,rfl⟩
    rw [he2] at own2 hl2;have HD2:Hid (34::Wlx.dbl (b.data.toList.take (i+1))=e2++[34]):=by show _=_;rw [HD.out,<-he2];simp
    clear he2 HD;go_wp2_with (at_builtin;refine wpList_append_own _ rfl _ _ 82 rfl w.heap.size 5 i0 (.int .u8 0) 1 1 underlying82 hi hz0 hz1 hz2 rfl (by decide) _ _ _ rfl (own2.alloc _) ⟨w2.heap.size,0,none⟩ 1 1 [.int .u8 34] rfl rfl (zA2 _ _ _) (by intro u hu;simp at hu;subst hu;rfl) (by unfold maxLen;simp;omega) (by simp;omega) (by simp;omega) ?_)
    intro v3 w3 hown3 hgrow3 _;have hb3:=zA7 hb2 sw2 own2 hgrow3;have HO3:Hid (zEJ w3 w.heap.size v3 (34::Wlx.dbl (b.data.toList.take (i+1)))):=by
     show zEJ _ _ _ _
     rw [HD2.out];exact zAm (n:=0) hown3
    clear hown3 hgrow3 own2;go_wp2_with fail
    go_roundg (b.size - (i+1))
    case rel=>exact ⟨i+1,by simp,rfl,hlt,HO3,hb3⟩
    case measure=>omega
   ·have HD2:Hid (34::Wlx.dbl (b.data.toList.take (i+1))=(34::d)++[c]):=by
     show _=_
     have:Wlx.dbl [c]=[c]:=by
      show (if c=34 then 34::34::Wlx.dbl [] else c::Wlx.dbl [])=_
      rw [if_neg h34];rfl
     rw [etk,Wlx.dbl_app,hd,hc,this];rfl
    have eb0:(((b[i]).toNat:Nat):Int)=((c.toNat:Nat):Int):=by rw [hc]
    have eb:(((c.toNat:Nat):Int) == 34)=false:=by
     refine beq_eq_false_iff_ne.2 (λe=>h34 ?_);have:c.toNat=34:=by omega
     exact UInt8.toNat_inj.1 this
    clear HO hd etk hc h34;go_wp2_with (at_builtin;refine wpList_append_own _ rfl _ _ 82 rfl w.heap.size 5 i0 (.int .u8 0) 1 1 underlying82 hi hz0 hz1 hz2 rfl (by decide) _ _ _ rfl (own.alloc _) ⟨wr.heap.size,0,none⟩ 1 1 [.int .u8 ((c.toNat:Nat):Int)] rfl rfl (zA2 _ _ _) (by intro u hu;simp at hu;subst hu;rfl) (by unfold maxLen;simp;omega) (by simp;omega) (by simp;omega) ?_)
    intro v3 w3 hown3 hgrow3 _;have hb3:=zA7 hb sw own hgrow3;have HO3:Hid (zEJ w3 w.heap.size v3 (34::Wlx.dbl (b.data.toList.take (i+1)))):=by
     show zEJ _ _ _ _
     rw [HD2.out];exact zAm (n:=0) hown3
    clear hown3 hgrow3 own;go_wp2_with fail
    go_roundg (b.size - (i+1))
    case rel=>exact ⟨i+1,by simp,rfl,hlt,HO3,hb3⟩
    case measure=>omega
  ·have hli:¬ (i:Int)<(b.size:Int):=by omega
   have own:=HO.out;rw [List.take_of_length_le (by have:=hbl.out;omega)] at own;have hdl:(Wlx.dbl b.data.toList).length<=2097152:=by
    have:=Wlx.dbl_length b.data.toList;have:=hbl.out;omega
   obtain ⟨d,hd⟩:∃ d,Wlx.dbl b.data.toList=d:=⟨_,rfl⟩
   have HD:Hid (Wlx.dbl b.data.toList=d):=hd;rw [hd] at own hdl;clear HO hd;go_wp2_with (at_builtin;refine wpList_append_own _ rfl _ _ 82 rfl w.heap.size 5 i0 (.int .u8 0) 1 1 underlying82 hi hz0 hz1 hz2 rfl (by decide) _ _ _ rfl (own.alloc _) ⟨wr.heap.size,0,none⟩ 1 1 [.int .u8 34] rfl rfl (zA2 _ _ _) (by intro u hu;simp at hu;subst hu;rfl) (by unfold maxLen;simp;omega) (by simp;omega) (by simp;omega) ?_)
   intro v2 w2 hown2 hgrow2 _;have hb2:=zA7 hb sw own hgrow2;have own2:zEJ w2 w.heap.size v2 (34::d++[34]):=zAm (n:=0) hown2;have hcv:=zGA own2;clear hown2 hgrow2 own own2;go_wp2;go_ret;exact ⟨by rw [HD.out];rfl,hb2⟩
open Go.RowKit Go.Shelf Tryz
theorem zBD (h:Wt.right x=true):(¬ x.k=4/\¬ x.k=5/\tgh x=7) \/ (x.k=4/\(x.op=1 \/ x.op=2 \/ x.op=3)) \/ (x.k=5/\(x.op=11 \/ x.op=12 \/ x.op=13 \/ x.op=14 \/ x.op=15 \/ x.op=16 \/ x.op=21 \/ x.op=22 \/ x.op=23 \/ x.op=24 \/ x.op=25 \/ x.op=26)):=by
 by_cases h4:x.k=4
 ·refine Or.inr (Or.inl ⟨h4,?_⟩);unfold Wt.right at h;rw [if_neg (by omega),if_neg (by omega),if_neg (by omega),if_pos h4,Bool.and_eq_true,zMy] at h;have:=h.1;unfold zEF at this;simp only [Bool.or_eq_true,decide_eq_true_eq] at this;omega
 by_cases h5:x.k=5
 ·refine Or.inr (Or.inr ⟨h5,?_⟩);unfold Wt.right at h;rw [if_neg (by omega),if_neg (by omega),if_neg (by omega),if_neg (by omega),if_pos h5,Bool.and_eq_true,zK0] at h;have:=h.1;unfold Wt.isBin at this;simp only [Bool.or_eq_true,Bool.and_eq_true,decide_eq_true_eq] at this;omega
 ·refine Or.inl ⟨h4,h5,?_⟩;apply zCf
  unfold Wt.right at h;by_cases k1:x.k=1
  ·rw [if_pos k1,Bool.and_eq_true,zAd] at h;exact congrArg Wt.Nd.op h.2
  rw [if_neg k1] at h;by_cases k2:x.k=2
  ·rw [if_pos k2,Bool.and_eq_true,zAd] at h;exact congrArg Wt.Nd.op h.2
  rw [if_neg k2] at h;by_cases k3:x.k=3
  ·rw [if_pos k3,Bool.and_eq_true,zAd] at h;exact congrArg Wt.Nd.op h.2
  rw [if_neg k3,if_neg h4,if_neg h5] at h;by_cases k6:x.k=6
  ·rw [if_pos k6,Bool.and_eq_true,zAd] at h;exact congrArg Wt.Nd.op h.2
  rw [if_neg k6] at h;cases h
theorem zEY (x:Wt.Nd) (w:World) (h:Wt.right x=true):CR 69 #[.agg (zAE x).toArray] w (.int .i64 (tgh x+1)):=by
 have pA:AtL (w.alloc (.cells (zAE x).toArray 30)) w.heap.size (zAE x):=AtL.new0 w _ _;have hBa:Below w.heap.size w (w.alloc (.cells (zAE x).toArray 30)):=zAI (Below.refl _ w) _;have a0:=pA.2.1 0 _ rfl;have a7:=pA.2.1 7 _ rfl;rcases zBD h with ⟨h4,h5,h7⟩ | ⟨h4,ho⟩ | ⟨h5,ho⟩
 ·rw [h7];have h4b:(x.k == 4)=false:=by simp [h4]
  have h5b:(x.k != 5)=true:=by simp [h5]
  clear h h7 h4 h5;generalize x.k=k at *;go_enter func69,ntmps69;go_upto_region 1 with fail
  generalize w.alloc (.cells (zAE x).toArray 30)=W0 at *;go_wp2;go_ret;exact ⟨rfl,hBa⟩
 ·rw [h4] at a0;rcases ho with ho | ho | ho
  all_goals
   rw [ho] at a7;have ht:Hid (tgh x=(if x.op=3 then 6 else 5)):=by show _=_;unfold tgh;rw [ho];rfl
   rw [ht.out,ho];clear ht h;go_enter func69,ntmps69;go_upto_region 1 with fail
   generalize w.alloc (.cells (zAE x).toArray 30)=W0 at *;go_wp2;go_ret;exact ⟨rfl,hBa⟩
 ·rw [h5] at a0;rcases ho with ho | ho | ho | ho | ho | ho | ho | ho | ho | ho | ho | ho
  all_goals
   rw [ho] at a7;have ht:Hid (tgh x=(if x.op=16 then 1 else if x.op<=12 then 2 else if x.op<=14 then 3 else if x.op=15 then 4 else 0)):=by show _=_;unfold tgh;rw [ho];rfl
   rw [ht.out,ho];clear ht h;go_enter func69,ntmps69;go_upto_region 1 with fail
   generalize w.alloc (.cells (zAE x).toArray 30)=W0 at *;go_wp2;go_ret;exact ⟨rfl,hBa⟩
def sgO:List Value:=[.int .i64 1,.int .i64 2,.int .i64 3,.int .i64 11,.int .i64 12,.int .i64 13,.int .i64 14,.int .i64 15,.int .i64 16,.int .i64 21,.int .i64 22,.int .i64 23,.int .i64 24,.int .i64 25,.int .i64 26]
def sgW:List Value:=[.string ⟨#[45]⟩,.string ⟨#[43]⟩,.string ⟨#[37]⟩,.string ⟨#[43]⟩,.string ⟨#[45]⟩,.string ⟨#[42]⟩,.string ⟨#[47]⟩,.string ⟨#[94]⟩,.string ⟨#[38]⟩,.string ⟨#[61]⟩,.string ⟨#[60,62]⟩,.string ⟨#[60]⟩,.string ⟨#[60,61]⟩,.string ⟨#[62]⟩,.string ⟨#[62,61]⟩]
def zSf (o:Int) (m:ByteArray) (j:Nat):Prop:=j<15/\sgO[j]? = some (.int .i64 o)/\sgW[j]? = some (.string m)/\∀ i,i<j->∃ q:Int,sgO[i]? = some (.int .i64 q)/\(q == o)=false
theorem zSa:∀ i,i<0->∃ q:Int,sgO[i]? = some (.int .i64 q)/\(q == 1)=false
 | _,h=>absurd h (Nat.not_lt_zero _)
theorem zSA:∀ i,i<1->∃ q:Int,sgO[i]? = some (.int .i64 q)/\(q == 2)=false
 | 0,_=>⟨1,rfl,by decide⟩
 | n+1,h=>absurd h (by omega)
theorem zSG:∀ i,i<2->∃ q:Int,sgO[i]? = some (.int .i64 q)/\(q == 3)=false
 | 0,_=>⟨1,rfl,by decide⟩
 | 1,_=>⟨2,rfl,by decide⟩
 | n+2,h=>absurd h (by omega)
theorem zSH:∀ i,i<3->∃ q:Int,sgO[i]? = some (.int .i64 q)/\(q == 11)=false
 | 0,_=>⟨1,rfl,by decide⟩
 | 1,_=>⟨2,rfl,by decide⟩
 | 2,_=>⟨3,rfl,by decide⟩
 | n+3,h=>absurd h (by omega)
theorem zSS:∀ i,i<4->∃ q:Int,sgO[i]? = some (.int .i64 q)/\(q == 12)=false
 | 0,_=>⟨1,rfl,by decide⟩
 | 1,_=>⟨2,rfl,by decide⟩
 | 2,_=>⟨3,rfl,by decide⟩
 | 3,_=>⟨11,rfl,by decide⟩
 | n+4,h=>absurd h (by omega)
theorem zS1:∀ i,i<5->∃ q:Int,sgO[i]? = some (.int .i64 q)/\(q == 13)=false
 | 0,_=>⟨1,rfl,by decide⟩
 | 1,_=>⟨2,rfl,by decide⟩
 | 2,_=>⟨3,rfl,by decide⟩
 | 3,_=>⟨11,rfl,by decide⟩
 | 4,_=>⟨12,rfl,by decide⟩
 | n+5,h=>absurd h (by omega)
theorem zSR:∀ i,i<6->∃ q:Int,sgO[i]? = some (.int .i64 q)/\(q == 14)=false
 | 0,_=>⟨1,rfl,by decide⟩
 | 1,_=>⟨2,rfl,by decide⟩
 | 2,_=>⟨3,rfl,by decide⟩
 | 3,_=>⟨11,rfl,by decide⟩
 | 4,_=>⟨12,rfl,by decide⟩
 | 5,_=>⟨13,rfl,by decide⟩
 | n+6,h=>absurd h (by omega)
theorem zSW:∀ i,i<7->∃ q:Int,sgO[i]? = some (.int .i64 q)/\(q == 15)=false
 | 0,_=>⟨1,rfl,by decide⟩
 | 1,_=>⟨2,rfl,by decide⟩
 | 2,_=>⟨3,rfl,by decide⟩
 | 3,_=>⟨11,rfl,by decide⟩
 | 4,_=>⟨12,rfl,by decide⟩
 | 5,_=>⟨13,rfl,by decide⟩
 | 6,_=>⟨14,rfl,by decide⟩
 | n+7,h=>absurd h (by omega)
theorem zSE:∀ i,i<8->∃ q:Int,sgO[i]? = some (.int .i64 q)/\(q == 16)=false
 | 0,_=>⟨1,rfl,by decide⟩
 | 1,_=>⟨2,rfl,by decide⟩
 | 2,_=>⟨3,rfl,by decide⟩
 | 3,_=>⟨11,rfl,by decide⟩
 | 4,_=>⟨12,rfl,by decide⟩
 | 5,_=>⟨13,rfl,by decide⟩
 | 6,_=>⟨14,rfl,by decide⟩
 | 7,_=>⟨15,rfl,by decide⟩
 | n+8,h=>absurd h (by omega)
theorem zSC:∀ i,i<9->∃ q:Int,sgO[i]? = some (.int .i64 q)/\(q == 21)=false
 | 0,_=>⟨1,rfl,by decide⟩
 | 1,_=>⟨2,rfl,by decide⟩
 | 2,_=>⟨3,rfl,by decide⟩
 | 3,_=>⟨11,rfl,by decide⟩
 | 4,_=>⟨12,rfl,by decide⟩
 | 5,_=>⟨13,rfl,by decide⟩
 | 6,_=>⟨14,rfl,by decide⟩
 | 7,_=>⟨15,rfl,by decide⟩
 | 8,_=>⟨16,rfl,by decide⟩
 | n+9,h=>absurd h (by omega)
theorem zPu:∀ i,i<10->∃ q:Int,sgO[i]? = some (.int .i64 q)/\(q == 22)=false
 | 0,_=>⟨1,rfl,by decide⟩
 | 1,_=>⟨2,rfl,by decide⟩
 | 2,_=>⟨3,rfl,by decide⟩
 | 3,_=>⟨11,rfl,by decide⟩
 | 4,_=>⟨12,rfl,by decide⟩
 | 5,_=>⟨13,rfl,by decide⟩
 | 6,_=>⟨14,rfl,by decide⟩
 | 7,_=>⟨15,rfl,by decide⟩
 | 8,_=>⟨16,rfl,by decide⟩
 | 9,_=>⟨21,rfl,by decide⟩
 | n+10,h=>absurd h (by omega)
theorem zP7:∀ i,i<11->∃ q:Int,sgO[i]? = some (.int .i64 q)/\(q == 23)=false
 | 0,_=>⟨1,rfl,by decide⟩
 | 1,_=>⟨2,rfl,by decide⟩
 | 2,_=>⟨3,rfl,by decide⟩
 | 3,_=>⟨11,rfl,by decide⟩
 | 4,_=>⟨12,rfl,by decide⟩
 | 5,_=>⟨13,rfl,by decide⟩
 | 6,_=>⟨14,rfl,by decide⟩
 | 7,_=>⟨15,rfl,by decide⟩
 | 8,_=>⟨16,rfl,by decide⟩
 | 9,_=>⟨21,rfl,by decide⟩
 | 10,_=>⟨22,rfl,by decide⟩
 | n+11,h=>absurd h (by omega)
theorem zPj:∀ i,i<12->∃ q:Int,sgO[i]? = some (.int .i64 q)/\(q == 24)=false
 | 0,_=>⟨1,rfl,by decide⟩
 | 1,_=>⟨2,rfl,by decide⟩
 | 2,_=>⟨3,rfl,by decide⟩
 | 3,_=>⟨11,rfl,by decide⟩
 | 4,_=>⟨12,rfl,by decide⟩
 | 5,_=>⟨13,rfl,by decide⟩
 | 6,_=>⟨14,rfl,by decide⟩
 | 7,_=>⟨15,rfl,by decide⟩
 | 8,_=>⟨16,rfl,by decide⟩
 | 9,_=>⟨21,rfl,by decide⟩
 | 10,_=>⟨22,rfl,by decide⟩
 | 11,_=>⟨23,rfl,by decide⟩
 | n+12,h=>absurd h (by omega)
theorem zQ0:∀ i,i<13->∃ q:Int,sgO[i]? = some (.int .i64 q)/\(q == 25)=false
 | 0,_=>⟨1,rfl,by decide⟩
 | 1,_=>⟨2,rfl,by decide⟩
 | 2,_=>⟨3,rfl,by decide⟩
 | 3,_=>⟨11,rfl,by decide⟩
 | 4,_=>⟨12,rfl,by decide⟩
 | 5,_=>⟨13,rfl,by decide⟩
 | 6,_=>⟨14,rfl,by decide⟩
 | 7,_=>⟨15,rfl,by decide⟩
 | 8,_=>⟨16,rfl,by decide⟩
 | 9,_=>⟨21,rfl,by decide⟩
 | 10,_=>⟨22,rfl,by decide⟩
 | 11,_=>⟨23,rfl,by decide⟩
 | 12,_=>⟨24,rfl,by decide⟩
 | n+13,h=>absurd h (by omega)
theorem zQY:∀ i,i<14->∃ q:Int,sgO[i]? = some (.int .i64 q)/\(q == 26)=false
 | 0,_=>⟨1,rfl,by decide⟩
 | 1,_=>⟨2,rfl,by decide⟩
 | 2,_=>⟨3,rfl,by decide⟩
 | 3,_=>⟨11,rfl,by decide⟩
 | 4,_=>⟨12,rfl,by decide⟩
 | 5,_=>⟨13,rfl,by decide⟩
 | 6,_=>⟨14,rfl,by decide⟩
 | 7,_=>⟨15,rfl,by decide⟩
 | 8,_=>⟨16,rfl,by decide⟩
 | 9,_=>⟨21,rfl,by decide⟩
 | 10,_=>⟨22,rfl,by decide⟩
 | 11,_=>⟨23,rfl,by decide⟩
 | 12,_=>⟨24,rfl,by decide⟩
 | 13,_=>⟨25,rfl,by decide⟩
 | n+14,h=>absurd h (by omega)
theorem zJ4 (h:Wt.right x=true) (hk:x.k=4 \/ x.k=5):∃ j,zSf x.op ⟨(mrk x).toArray⟩ j:=by
 rcases zBD h with ⟨h4,h5,-⟩ | ⟨-,ho⟩ | ⟨-,ho⟩
 ·omega
 ·rcases ho with ho | ho | ho
  ·exact ⟨0,by decide,by rw [ho];rfl,by unfold mrk;rw [ho];rfl,by rw [ho];exact zSa⟩
  ·exact ⟨1,by decide,by rw [ho];rfl,by unfold mrk;rw [ho];rfl,by rw [ho];exact zSA⟩
  ·exact ⟨2,by decide,by rw [ho];rfl,by unfold mrk;rw [ho];rfl,by rw [ho];exact zSG⟩
 ·rcases ho with ho | ho | ho | ho | ho | ho | ho | ho | ho | ho | ho | ho
  ·exact ⟨3,by decide,by rw [ho];rfl,by unfold mrk;rw [ho];rfl,by rw [ho];exact zSH⟩
  ·exact ⟨4,by decide,by rw [ho];rfl,by unfold mrk;rw [ho];rfl,by rw [ho];exact zSS⟩
  ·exact ⟨5,by decide,by rw [ho];rfl,by unfold mrk;rw [ho];rfl,by rw [ho];exact zS1⟩
  ·exact ⟨6,by decide,by rw [ho];rfl,by unfold mrk;rw [ho];rfl,by rw [ho];exact zSR⟩
  ·exact ⟨7,by decide,by rw [ho];rfl,by unfold mrk;rw [ho];rfl,by rw [ho];exact zSW⟩
  ·exact ⟨8,by decide,by rw [ho];rfl,by unfold mrk;rw [ho];rfl,by rw [ho];exact zSE⟩
  ·exact ⟨9,by decide,by rw [ho];rfl,by unfold mrk;rw [ho];rfl,by rw [ho];exact zSC⟩
  ·exact ⟨10,by decide,by rw [ho];rfl,by unfold mrk;rw [ho];rfl,by rw [ho];exact zPu⟩
  ·exact ⟨11,by decide,by rw [ho];rfl,by unfold mrk;rw [ho];rfl,by rw [ho];exact zP7⟩
  ·exact ⟨12,by decide,by rw [ho];rfl,by unfold mrk;rw [ho];rfl,by rw [ho];exact zPj⟩
  ·exact ⟨13,by decide,by rw [ho];rfl,by unfold mrk;rw [ho];rfl,by rw [ho];exact zQ0⟩
  ·exact ⟨14,by decide,by rw [ho];rfl,by unfold mrk;rw [ho];rfl,by rw [ho];exact zQY⟩
theorem zFN (o:Int) (m:ByteArray) (j:Nat) (hj:zSf o m j) (w:World):CR 68 #[.int .i64 o] w (.string m):=by
 obtain ⟨hj15,ho,hm,hlt⟩:=hj;have pO:AtL ((w.alloc (.cells #[.int .i64 1,.int .i64 2,.int .i64 3,.int .i64 11,.int .i64 12,.int .i64 13,.int .i64 14,.int .i64 15,.int .i64 16,.int .i64 21,.int .i64 22,.int .i64 23,.int .i64 24,.int .i64 25,.int .i64 26] 3)).alloc (.cells #[.string ⟨#[45]⟩,.string ⟨#[43]⟩,.string ⟨#[37]⟩,.string ⟨#[43]⟩,.string ⟨#[45]⟩,.string ⟨#[42]⟩,.string ⟨#[47]⟩,.string ⟨#[94]⟩,.string ⟨#[38]⟩,.string ⟨#[61]⟩,.string ⟨#[60,62]⟩,.string ⟨#[60]⟩,.string ⟨#[60,61]⟩,.string ⟨#[62]⟩,.string ⟨#[62,61]⟩] 9)) w.heap.size sgO:=(AtL.new0 w _ _).alloc _;have pW:AtL ((w.alloc (.cells #[.int .i64 1,.int .i64 2,.int .i64 3,.int .i64 11,.int .i64 12,.int .i64 13,.int .i64 14,.int .i64 15,.int .i64 16,.int .i64 21,.int .i64 22,.int .i64 23,.int .i64 24,.int .i64 25,.int .i64 26] 3)).alloc (.cells #[.string ⟨#[45]⟩,.string ⟨#[43]⟩,.string ⟨#[37]⟩,.string ⟨#[43]⟩,.string ⟨#[45]⟩,.string ⟨#[42]⟩,.string ⟨#[47]⟩,.string ⟨#[94]⟩,.string ⟨#[38]⟩,.string ⟨#[61]⟩,.string ⟨#[60,62]⟩,.string ⟨#[60]⟩,.string ⟨#[60,61]⟩,.string ⟨#[62]⟩,.string ⟨#[62,61]⟩] 9)) (w.heap.size+1) sgW:=AtL.new1 w _ _ _;have hB:=zAI (zAI (Below.refl _ w) (.cells #[.int .i64 1,.int .i64 2,.int .i64 3,.int .i64 11,.int .i64 12,.int .i64 13,.int .i64 14,.int .i64 15,.int .i64 16,.int .i64 21,.int .i64 22,.int .i64 23,.int .i64 24,.int .i64 25,.int .i64 26] 3)) (.cells #[.string ⟨#[45]⟩,.string ⟨#[43]⟩,.string ⟨#[37]⟩,.string ⟨#[43]⟩,.string ⟨#[45]⟩,.string ⟨#[42]⟩,.string ⟨#[47]⟩,.string ⟨#[94]⟩,.string ⟨#[38]⟩,.string ⟨#[61]⟩,.string ⟨#[60,62]⟩,.string ⟨#[60]⟩,.string ⟨#[60,61]⟩,.string ⟨#[62]⟩,.string ⟨#[62,61]⟩] 9)
 have cO:=pO.2.1;have cW:=pW.2.1;clear pO pW;go_enter func68,ntmps68;go_upto_region 3 with fail
 generalize (w.alloc (.cells #[.int .i64 1,.int .i64 2,.int .i64 3,.int .i64 11,.int .i64 12,.int .i64 13,.int .i64 14,.int .i64 15,.int .i64 16,.int .i64 21,.int .i64 22,.int .i64 23,.int .i64 24,.int .i64 25,.int .i64 26] 3)).alloc (.cells #[.string ⟨#[45]⟩,.string ⟨#[43]⟩,.string ⟨#[37]⟩,.string ⟨#[43]⟩,.string ⟨#[45]⟩,.string ⟨#[42]⟩,.string ⟨#[47]⟩,.string ⟨#[94]⟩,.string ⟨#[38]⟩,.string ⟨#[61]⟩,.string ⟨#[60,62]⟩,.string ⟨#[60]⟩,.string ⟨#[60,61]⟩,.string ⟨#[62]⟩,.string ⟨#[62,61]⟩] 9)=W0 at *;have HO:Hid (∀ i v,sgO[i]? = some v->W0.cell? ⟨w.heap.size,i,none⟩=some v):=cO;have HW:Hid (∀ i v,sgW[i]? = some v->W0.cell? ⟨w.heap.size+1,i,none⟩=some v):=cW;have HLT:Hid (∀ i,i<j->∃ q:Int,sgO[i]? = some (.int .i64 q)/\(q == o)=false):=hlt;clear cO cW hlt;go_wp2_with fail
 go_loopg [5] j (λgk x wr=>∃ i:Nat,x=.int .i64 i/\gk=j - i/\i<=j/\wr=W0)
 case atStart=>exact ⟨0,rfl,rfl,Nat.zero_le _,rfl⟩
 case round =>
  obtain ⟨i,rfl,hg,hi,rfl⟩:=hrel;have hi15:(i:Int)<15:=by omega
  by_cases hij:i<j
  ·obtain ⟨q,hq1,hq2⟩:=HLT.out i hij;have c0:=HO.out i _ hq1;go_wp2_with fail
   go_roundg (j - (i+1))
   case rel=>exact ⟨i+1,by simp,rfl,hij,rfl⟩
   case measure=>omega
  ·obtain rfl:i=j:=by omega
   have c0:=HO.out i _ ho;have c1:=HW.out i _ hm;go_wp2;go_ret;exact ⟨rfl,hB⟩
theorem zEg (u:ByteArray):u=⟨u.data.toList.toArray⟩:=by cases u;simp
theorem zOe (l:List UInt8) (c:UInt8):(⟨(c::l).toArray⟩:ByteArray).extract 1 (⟨(c::l).toArray⟩:ByteArray).size=⟨l.toArray⟩:=by
 apply ByteArray.ext
 apply Array.ext'
 simp [ByteArray.data_extract,ByteArray.size]
theorem zBg (a b:List UInt8):(⟨a.toArray⟩:ByteArray)++⟨b.toArray⟩=⟨(a++b).toArray⟩:=by
 apply ByteArray.ext
 simp
theorem zIs:Wpl.colS 0=[65]:=by decide
theorem zJM {r:Int} (h0:0<=r) (h1:r<65536):Wpl.nameS 0 r 0=65::Lib.decDigits (r+1).toNat:=by
 unfold Wpl.nameS;have:Wpl.rightC 0 r 0=true:=by rw [Wpl.rightC_iff];omega
 rw [if_pos this,zIs];rfl
theorem colS_len (c:Int):(Wpl.colS c).length<=2:=by
 unfold Wpl.colS;split
 ·unfold Wpl.colT;split <;> simp
 ·simp
theorem zBh (a:Wt.Rf) (w:World) (h0:0<=a.r) (h1:a.r<65536):CR 66 #[.agg (rf5 a).toArray] w (.string ⟨(cw a).toArray⟩):=by
 obtain ⟨s,r,c,fr,fc⟩:=a;simp only at h0 h1;unfold cw;simp only;show Calls _ _ #[.agg #[.string s,.int .i64 r,.int .i64 c,.bool fr,.bool fc]] _ _
 have C:=λw=>zHl c w
 have M:=λw=>zJ2 0 r 0 w
 rw [zJM h0 h1] at M;have cl:=colS_len c;have dl:(Lib.decDigits (r+1).toNat).length<=40:=by
  have:=zCh ⟨s,r,c,fr,fc⟩ h0 h1;unfold cw at this;simp only [List.length_append] at this;omega
 generalize Wpl.colS c=lc at *;generalize Lib.decDigits (r+1).toNat=ld at *;obtain ⟨u,hu⟩:∃ u:ByteArray,(⟨lc.toArray⟩:ByteArray)=u:=⟨_,rfl⟩
 obtain ⟨v,hv⟩:∃ v:ByteArray,(⟨(65::ld).toArray⟩:ByteArray)=v:=⟨_,rfl⟩
 have us:(u.size:Int)<=2:=by rw [<-hu];show ((lc.toArray.size:Nat):Int)<=2;simp;omega
 have vs:(v.size:Int)<=41:=by rw [<-hv];show (((65::ld).toArray.size:Nat):Int)<=41;simp;omega
 have vs1:(1:Int)<=(v.size:Int):=by rw [<-hv];show (1:Int)<=(((65::ld).toArray.size:Nat):Int);simp;omega
 have HV:Hid (v.extract 1 v.size=⟨ld.toArray⟩):=by show _=_;rw [<-hv];exact zOe ld 65
 have HU:Hid (u=⟨lc.toArray⟩):=hu.symm;rw [hu] at C;rw [hv] at M;clear hu hv cl dl h0 h1;have pA:AtL (w.alloc (.cells #[.string s,.int .i64 r,.int .i64 c,.bool fr,.bool fc] 28)) w.heap.size [.string s,.int .i64 r,.int .i64 c,.bool fr,.bool fc]:=AtL.new0 w _ _;have hB:=zAI (Below.refl _ w) (.cells #[.string s,.int .i64 r,.int .i64 c,.bool fr,.bool fc] 28);go_enter func66,ntmps66;go_upto_region 1 with fail
 generalize w.alloc (.cells #[.string s,.int .i64 r,.int .i64 c,.bool fr,.bool fc] 28)=W0 at *;obtain ⟨c0,c1,c2,c3,c4⟩:=pA.f5;go_wp2_with fail
 refine (C _).mono ?_;rintro e w1 ⟨rfl,hb⟩;have pA1:=AtL.below hb pA;have hB1:=zAA hB hb;clear c0 c1 c2 c3 c4 C hb pA hB;obtain ⟨c0,c1,c2,c3,c4⟩:=pA1.f5;cases fc
 all_goals
  go_wp2_with fail
  refine (M _).mono ?_;rintro e w2 ⟨rfl,hb⟩;have pA2:=AtL.below hb pA1;have hB2:=zAA hB1 hb;clear c0 c1 c2 c3 c4 M hb pA1 hB1;obtain ⟨c0,c1,c2,c3,c4⟩:=pA2.f5;cases fr
  all_goals
   go_wp2;go_ret;refine ⟨?_,hB2⟩;rw [HV.out,HU.out];first
    | exact congrArg (λx=>Ending.returned (Value.string x)) (by rw [zBg];simp [fx])
    | exact congrArg (λx=>Ending.returned (Value.string x)) (by rw [show (⟨#[36]⟩:ByteArray)=⟨[36].toArray⟩ from rfl];simp only [zBg];simp [fx])
theorem zHy (b:Bool) (w:World):Calls prog 100 #[.bool b] w λe w'=>e=.returned (.string ⟨(if b then [84,82,85,69] else [70,65,76,83,69]:List UInt8).toArray⟩)/\w=w':=by
 cases b
 all_goals
  go_enter func100,ntmps100;go_wp2;go_ret;exact ⟨rfl,rfl⟩
theorem zEw (k n d:Int) (t:ByteArray) (b:Bool) (f:Int) (w:World) (hr:Wv.right k n d t b f=true) (C:∀ w,CR 109 #[.agg #[.int .i64 k,.int .i64 n,.int .i64 d,.string t,.bool b,.int .i64 f]] w (.bool (Wv.right k n d t b f))) :
  CR 98 #[.agg #[.int .i64 k,.int .i64 n,.int .i64 d,.string t,.bool b,.int .i64 f]] w (.agg #[.int .i64 k,.int .i64 n,.int .i64 d,.string t,.bool b,.int .i64 f]):=by
 rw [hr] at C;have pA:=(AtL.new0 w 26 [.int .i64 k,.int .i64 n,.int .i64 d,.string t,.bool b,.int .i64 f]).alloc (.cells zV0 26);have pR:=AtL.new1 w (.cells #[.int .i64 k,.int .i64 n,.int .i64 d,.string t,.bool b,.int .i64 f] 26) 26 [.int .i64 0,.int .i64 0,.int .i64 0,.string ⟨#[]⟩,.bool false,.int .i64 0];have hB:=zAI (zAI (Below.refl _ w) (.cells #[.int .i64 k,.int .i64 n,.int .i64 d,.string t,.bool b,.int .i64 f] 26)) (.cells zV0 26);go_enter func98,ntmps98;go_upto_region 1 with fail
 generalize (w.alloc (.cells #[.int .i64 k,.int .i64 n,.int .i64 d,.string t,.bool b,.int .i64 f] 26)).alloc (.cells zV0 26)=W0 at *;obtain ⟨c0,c1,c2,c3,c4,c5⟩:=pA.f6;go_wp2_with fail
 refine (C _).mono ?_;rintro e w1 ⟨rfl,hb⟩;have qA:=(AtL.below hb pA).range;have qR:=AtL.below hb pR;have hB1:=zAA hB hb;have tR:w1.there (w.heap.size+1) 0 (#[.int .i64 k,.int .i64 n,.int .i64 d,.string t,.bool b,.int .i64 f]:Array Value).size:=qR.there;clear c0 c1 c2 c3 c4 c5 pA pR hB hb C;have one6:(#[.int .i64 k,.int .i64 n,.int .i64 d,.string t,.bool b,.int .i64 f]:Array Value).all (·.oneCell')=true:=by simp [Value.oneCell']
 go_wp2_with (first
  | ((with_reducible refine wpList_load_mid (cs:=[.int .i64 k,.int .i64 n,.int .i64 d,.string t,.bool b,.int .i64 f]) ?_ 26 (.tmp 1) ?_ w.heap.size 0 ?_ _ ?_ underlying26 ?_ ?_ ?_);rfl;rfl;rfl;exact qA;rfl;kernel_rfl)
  | ((with_reducible refine wpList_store_mid ?_ 26 (.tmp 2) (.tmp 7) ?_ (w.heap.size+1) 0 #[.int .i64 k,.int .i64 n,.int .i64 d,.string t,.bool b,.int .i64 f] ?_ ?_ ?_ ?_ ?_ ?_);rfl;rfl;rfl;rfl;exact tR;kernel_rfl;exact one6))
 have rR2:=AtL.setAll qR (vs:=[.int .i64 k,.int .i64 n,.int .i64 d,.string t,.bool b,.int .i64 f]) rfl;refine bodyPost_ret (v:=.agg [.int .i64 k,.int .i64 n,.int .i64 d,.string t,.bool b,.int .i64 f].toArray) (zAG (by rfl) _ _ (w.heap.size+1) [.int .i64 k,.int .i64 n,.int .i64 d,.string t,.bool b,.int .i64 f] _ (by rfl) rR2.range underlying26 rfl (by kernel_rfl)) rfl ⟨rfl,?_⟩;exact zAg hB1 (by omega) _ _
theorem zL5 (n d:Int) (t:ByteArray) (b:Bool) (f:Int) (w:World) (hr:Wv.right 1 n d t b f=true) (h1:-9223372036854775808<=n) (h2:n<=9223372036854775807) (h3:-9223372036854775808<=d) (h4:d<=9223372036854775807) (C:∀ w,CR 109 #[.agg #[.int .i64 1,.int .i64 n,.int .i64 d,.string t,.bool b,.int .i64 f]] w (.bool (Wv.right 1 n d t b f))) :
  CR 65 #[.agg #[.int .i64 1,.int .i64 n,.int .i64 d,.string t,.bool b,.int .i64 f]] w (.string ⟨(Wnum.txt (Wnum.cN n d) (Wnum.cD n d).toNat).toArray⟩):=by
 have O:=λw=>zEw 1 n d t b f w hr C
 have X:=λw=>zIt n d w h1 h2 h3 h4
 generalize Wnum.txt (Wnum.cN n d) (Wnum.cD n d).toNat=lt at *;have pA:=AtL.new0 w 26 [.int .i64 1,.int .i64 n,.int .i64 d,.string t,.bool b,.int .i64 f];have hB:=zAI (Below.refl _ w) (.cells #[.int .i64 1,.int .i64 n,.int .i64 d,.string t,.bool b,.int .i64 f] 26);clear hr C;go_enter func65,ntmps65;go_upto_region 1 with fail
 generalize w.alloc (.cells #[.int .i64 1,.int .i64 n,.int .i64 d,.string t,.bool b,.int .i64 f] 26)=W0 at *;have rA:=pA.range;go_wp2_with ((with_reducible refine wpList_load_mid (cs:=[.int .i64 1,.int .i64 n,.int .i64 d,.string t,.bool b,.int .i64 f]) ?_ 26 (.tmp 1) ?_ w.heap.size 0 ?_ _ ?_ underlying26 ?_ ?_ ?_);rfl;rfl;rfl;exact rA;rfl;kernel_rfl)
 refine (O _).mono ?_;rintro e w1 ⟨rfl,hb⟩;have qA:=AtL.below hb pA;have hB1:=zAA hB hb;have tA:w1.there w.heap.size 0 (#[.int .i64 1,.int .i64 n,.int .i64 d,.string t,.bool b,.int .i64 f]:Array Value).size:=qA.there;have one6:(#[.int .i64 1,.int .i64 n,.int .i64 d,.string t,.bool b,.int .i64 f]:Array Value).all (·.oneCell')=true:=by simp [Value.oneCell']
 have sA:=AtL.setAll qA (vs:=[.int .i64 1,.int .i64 n,.int .i64 d,.string t,.bool b,.int .i64 f]) rfl;have hB2:=zAg hB1 (Nat.le_refl _) [.int .i64 1,.int .i64 n,.int .i64 d,.string t,.bool b,.int .i64 f] 0;clear pA hB rA O hb qA hB1;go_upto_region 2 with ((with_reducible refine wpList_store_mid ?_ 26 (.tmp 1) (.tmp 6) ?_ w.heap.size 0 #[.int .i64 1,.int .i64 n,.int .i64 d,.string t,.bool b,.int .i64 f] ?_ ?_ ?_ ?_ ?_ ?_);rfl;rfl;rfl;rfl;exact tA;kernel_rfl;exact one6)
 generalize w1.setCells w.heap.size 0 (#[.int .i64 1,.int .i64 n,.int .i64 d,.string t,.bool b,.int .i64 f]:Array Value).toList=W2 at *;obtain ⟨c0,c1,c2,c3,c4,c5⟩:=sA.f6;clear tA one6;go_wp2_with fail
 refine (X _).mono ?_;rintro e w3 ⟨rfl,hb⟩;have hB3:=zAA hB2 hb;go_wp2;go_ret;exact ⟨rfl,hB3⟩
theorem zMj (n d:Int) (t:ByteArray) (b:Bool) (f:Int) (w:World) (hr:Wv.right 3 n d t b f=true) (C:∀ w,CR 109 #[.agg #[.int .i64 3,.int .i64 n,.int .i64 d,.string t,.bool b,.int .i64 f]] w (.bool (Wv.right 3 n d t b f))) :
  CR 65 #[.agg #[.int .i64 3,.int .i64 n,.int .i64 d,.string t,.bool b,.int .i64 f]] w (.string ⟨(if b then [84,82,85,69] else [70,65,76,83,69]:List UInt8).toArray⟩):=by
 have O:=λw=>zEw 3 n d t b f w hr C
 have X:=λw=>zHy b w
 generalize (if b then [84,82,85,69] else [70,65,76,83,69]:List UInt8)=lt at *;have pA:=AtL.new0 w 26 [.int .i64 3,.int .i64 n,.int .i64 d,.string t,.bool b,.int .i64 f];have hB:=zAI (Below.refl _ w) (.cells #[.int .i64 3,.int .i64 n,.int .i64 d,.string t,.bool b,.int .i64 f] 26);clear hr C;go_enter func65,ntmps65;go_upto_region 1 with fail
 generalize w.alloc (.cells #[.int .i64 3,.int .i64 n,.int .i64 d,.string t,.bool b,.int .i64 f] 26)=W0 at *;have rA:=pA.range;go_wp2_with ((with_reducible refine wpList_load_mid (cs:=[.int .i64 3,.int .i64 n,.int .i64 d,.string t,.bool b,.int .i64 f]) ?_ 26 (.tmp 1) ?_ w.heap.size 0 ?_ _ ?_ underlying26 ?_ ?_ ?_);rfl;rfl;rfl;exact rA;rfl;kernel_rfl)
 refine (O _).mono ?_;rintro e w1 ⟨rfl,hb⟩;have qA:=AtL.below hb pA;have hB1:=zAA hB hb;have tA:w1.there w.heap.size 0 (#[.int .i64 3,.int .i64 n,.int .i64 d,.string t,.bool b,.int .i64 f]:Array Value).size:=qA.there;have one6:(#[.int .i64 3,.int .i64 n,.int .i64 d,.string t,.bool b,.int .i64 f]:Array Value).all (·.oneCell')=true:=by simp [Value.oneCell']
 have sA:=AtL.setAll qA (vs:=[.int .i64 3,.int .i64 n,.int .i64 d,.string t,.bool b,.int .i64 f]) rfl;have hB2:=zAg hB1 (Nat.le_refl _) [.int .i64 3,.int .i64 n,.int .i64 d,.string t,.bool b,.int .i64 f] 0;clear pA hB rA O hb qA hB1;go_upto_region 2 with ((with_reducible refine wpList_store_mid ?_ 26 (.tmp 1) (.tmp 6) ?_ w.heap.size 0 #[.int .i64 3,.int .i64 n,.int .i64 d,.string t,.bool b,.int .i64 f] ?_ ?_ ?_ ?_ ?_ ?_);rfl;rfl;rfl;rfl;exact tA;kernel_rfl;exact one6)
 generalize w1.setCells w.heap.size 0 (#[.int .i64 3,.int .i64 n,.int .i64 d,.string t,.bool b,.int .i64 f]:Array Value).toList=W2 at *;obtain ⟨c0,c1,c2,c3,c4,c5⟩:=sA.f6;clear tA one6;go_wp2_with fail
 refine (X _).mono ?_;rintro e w3 ⟨rfl,rfl⟩;go_wp2;go_ret;exact ⟨rfl,hB2⟩
theorem zEZ (w:World):Calls prog 101 #[] w λe w'=>e=.returned (.slice (some ⟨w.heap.size,0,none⟩) 9 9)/\AtL w' w.heap.size fltR/\Below w.heap.size w w':=by
 go_enter func101,ntmps101;go_wp2;go_ret;exact ⟨rfl,AtL.new0 w _ _,zAI (Below.refl _ w) _⟩
theorem zMV (n d:Int) (t:ByteArray) (b:Bool) (f:Int) (w:World) (hr:Wv.right 4 n d t b f=true) (hf1:1<=f) (hf8:f<=8) (C:∀ w,CR 109 #[.agg #[.int .i64 4,.int .i64 n,.int .i64 d,.string t,.bool b,.int .i64 f]] w (.bool (Wv.right 4 n d t b f))) :
  CR 65 #[.agg #[.int .i64 4,.int .i64 n,.int .i64 d,.string t,.bool b,.int .i64 f]] w (.string ⟨(fNames.getD f.toNat []).toArray⟩):=by
 have O:=λw=>zEw 4 n d t b f w hr C
 have X:=λw=>zEZ w
 have hfn:fltR[f.toNat]? = some (.string ⟨(fNames.getD f.toNat []).toArray⟩):=by
  unfold fltR;rw [List.getElem?_map,List.getD_eq_getElem?_getD,List.getElem?_eq_getElem (by show f.toNat<9;omega)];rfl
 generalize fNames.getD f.toNat []=q at *;have pA:=AtL.new0 w 26 [.int .i64 4,.int .i64 n,.int .i64 d,.string t,.bool b,.int .i64 f];have hB:=zAI (Below.refl _ w) (.cells #[.int .i64 4,.int .i64 n,.int .i64 d,.string t,.bool b,.int .i64 f] 26);clear hr C;go_enter func65,ntmps65;go_upto_region 1 with fail
 generalize w.alloc (.cells #[.int .i64 4,.int .i64 n,.int .i64 d,.string t,.bool b,.int .i64 f] 26)=W0 at *;have rA:=pA.range;go_wp2_with ((with_reducible refine wpList_load_mid (cs:=[.int .i64 4,.int .i64 n,.int .i64 d,.string t,.bool b,.int .i64 f]) ?_ 26 (.tmp 1) ?_ w.heap.size 0 ?_ _ ?_ underlying26 ?_ ?_ ?_);rfl;rfl;rfl;exact rA;rfl;kernel_rfl)
 refine (O _).mono ?_;rintro e w1 ⟨rfl,hb⟩;have qA:=AtL.below hb pA;have hB1:=zAA hB hb;have tA:w1.there w.heap.size 0 (#[.int .i64 4,.int .i64 n,.int .i64 d,.string t,.bool b,.int .i64 f]:Array Value).size:=qA.there;have one6:(#[.int .i64 4,.int .i64 n,.int .i64 d,.string t,.bool b,.int .i64 f]:Array Value).all (·.oneCell')=true:=by simp [Value.oneCell']
 have sA:=AtL.setAll qA (vs:=[.int .i64 4,.int .i64 n,.int .i64 d,.string t,.bool b,.int .i64 f]) rfl;have hB2:=zAg hB1 (Nat.le_refl _) [.int .i64 4,.int .i64 n,.int .i64 d,.string t,.bool b,.int .i64 f] 0;clear pA hB rA O hb qA hB1;go_upto_region 2 with ((with_reducible refine wpList_store_mid ?_ 26 (.tmp 1) (.tmp 6) ?_ w.heap.size 0 #[.int .i64 4,.int .i64 n,.int .i64 d,.string t,.bool b,.int .i64 f] ?_ ?_ ?_ ?_ ?_ ?_);rfl;rfl;rfl;rfl;exact tA;kernel_rfl;exact one6)
 generalize w1.setCells w.heap.size 0 (#[.int .i64 4,.int .i64 n,.int .i64 d,.string t,.bool b,.int .i64 f]:Array Value).toList=W2 at *;obtain ⟨c0,c1,c2,c3,c4,c5⟩:=sA.f6;clear tA one6;go_wp2_with fail
 refine (X _).mono ?_;rintro e w3 ⟨rfl,pF,hb⟩;have hB3:=zAA hB2 hb;have qf:=pF.2.1 f.toNat _ hfn;obtain ⟨c0,c1,c2,c3,c4,c5⟩:=(AtL.below hb sA).f6;go_wp2;go_ret;exact ⟨rfl,hB3⟩
end Go.Proofs.YtdghjlmnlodnlaaGreatDoor
