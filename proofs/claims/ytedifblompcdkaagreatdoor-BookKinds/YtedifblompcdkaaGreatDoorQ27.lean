/- LQuo, LSize, LRep, LPlainB, LSaid, LScan, LText, TState, TStateB. -/
import Derived.Test.YtedifblompcdkaaGreatDoorQ26
import Derived.Shelf.Strings.Replace
import Derived.Shelf.LaysM
import Derived.Ground.NamesProg
import Derived.WalkSmall
import Derived.Shelf.Strings.BuilderK
import Derived.Laws.Slices
set_option maxHeartbeats 1600000
set_option maxRecDepth 100000
set_option linter.unusedVariables false
namespace Go.Proofs.YtedifblompcdkaaGreatDoor
open Tryz
open Go.RowKit
variable {old new l:List UInt8} {w:World}
theorem zDd (b:ByteArray) (i:Nat) (h:i<b.size) (hc:128<=(b[i]).toNat):1<=(Utf8.decode b i).2/\i+(Utf8.decode b i).2<=b.size/\∀ j,i<=j->(hj:j<b.size)->j<i+(Utf8.decode b i).2->128<=(b[j]).toNat:=by
 have g:∀ k (hk:i+k<b.size),(b.get! (i+k))=b[i+k]:=by
  intro k hk;simp [ByteArray.get!,getElem!_pos,hk];rfl
 have g0:=g 0 h;have hn:¬ (b[i+0]).toNat<128:=by simpa using hc
 have one:i+1<=b.size/\∀ j,i<=j->(hj:j<b.size)->j<i+1->128<=(b[j]).toNat:=⟨h,λj h1 h2 h3=>by
  obtain rfl:j=i:=by omega
  exact hc⟩
 have two:∀ k,(decide (i+k<b.size) && (b.get! (i+k)).toNat / 64 == 2)=true->∃ hk:i+k<b.size,128<=(b[i+k]).toNat:=by
  intro k hk;simp only [Bool.and_eq_true,decide_eq_true_eq,beq_iff_eq] at hk;obtain ⟨h1,h2⟩:=hk;rw [g k h1] at h2;exact ⟨h1,by omega⟩
 simp only [Utf8.decode,g0,hn,if_false];split
 ·rename_i c1
  simp only [Bool.and_eq_true] at c1;obtain ⟨k1,b1⟩:=two 1 (by simpa using c1.2);split
  ·refine ⟨by omega,by omega,λj h1 h2 h3=>?_⟩;have:j=i \/ j=i+1:=by omega
   rcases this with rfl | rfl
   ·exact hc
   ·exact b1
  ·exact ⟨by omega,one⟩
 ·split
  ·rename_i c1
   simp only [Bool.and_eq_true] at c1;obtain ⟨k1,b1⟩:=two 1 (by simpa using c1.1.2);obtain ⟨k2,b2⟩:=two 2 (by simpa using c1.2);split
   ·refine ⟨by omega,by omega,λj h1 h2 h3=>?_⟩;have:j=i \/ j=i+1 \/ j=i+2:=by omega
    rcases this with rfl | rfl | rfl
    ·exact hc
    ·exact b1
    ·exact b2
   ·exact ⟨by omega,one⟩
  ·split
   ·rename_i c1
    simp only [Bool.and_eq_true] at c1;obtain ⟨k1,b1⟩:=two 1 (by simpa using c1.1.1.2);obtain ⟨k2,b2⟩:=two 2 (by simpa using c1.1.2);obtain ⟨k3,b3⟩:=two 3 (by simpa using c1.2);split
    ·refine ⟨by omega,by omega,λj h1 h2 h3=>?_⟩;have:j=i \/ j=i+1 \/ j=i+2 \/ j=i+3:=by omega
     rcases this with rfl | rfl | rfl | rfl
     ·exact hc
     ·exact b1
     ·exact b2
     ·exact b3
    ·exact ⟨by omega,one⟩
   ·exact ⟨by omega,one⟩
theorem zLM (b:ByteArray) (i:Nat):∀ n,i+n<=b.size->(∀ j,i<=j->(hj:j<b.size)->j<i+n->¬ b[j]=34)->Wlx.quo true i (b.data.toList.drop i)=Wlx.quo true (i+n) (b.data.toList.drop (i+n)):=by
 intro n;induction n with
 | zero=>intro _ _;rfl
 | succ n ih =>
  intro h1 h2;rw [ih (by omega) (λj a b c=>h2 j a b (by omega)),zAh b (i+n) (by omega),zNH (h2 (i+n) (by omega) (by omega) (by omega))];rfl
theorem zFA (b:ByteArray) (w:World) (hs:b.size<=9223372036854775806):CR 151 #[.string b] w (.int .i64 (Wlx.txtSz b.data.toList:Nat)):=by
 have HP:=zAy b ⟨#[34]⟩ w (by omega);rw [zCS] at HP;cases hl:b.data.toList with
 | nil =>
  simp only [hl] at HP;go_enter func151,ntmps151;go_wp2_with fail
  refine HP.mono ?_;rintro e w1 ⟨rfl,rfl⟩;go_wp2;go_ret;exact ⟨rfl,Below.refl _ _⟩
 | cons c t =>
  simp only [hl] at HP;by_cases hc:c=34
  ·subst hc;have E0:Hid (Wlx.txtSz (34::t)=Wlx.quo false 0 (b.data.toList)):=by
    show _=_;rw [hl,zET];rfl
   obtain ⟨R,hR⟩:∃ R,Wlx.txtSz (34::t)=R:=⟨_,rfl⟩
   rw [hR] at E0 ⊢;clear hl hR;go_enter func151,ntmps151;go_wp2_with fail
   refine HP.mono ?_;rintro e w1 ⟨rfl,rfl⟩;go_wp2_with fail
   go_loopw [3] (λx wr=>∃ (q:Bool) (pos:Nat),x=.bool q/\pos<=b.size/\wr.heap[w.heap.size]? = some (.stringIter b pos)/\Hid (R=Wlx.quo q pos (b.data.toList.drop pos))/\Below w.heap.size w wr) (λ_ wr=>b.size - wr.iterPos w.heap.size)
   case atStart=>exact ⟨false,0,rfl,Nat.zero_le _,World.iter_heap w b 0,E0,(Below.refl _ w).alloc (Nat.le_refl _) _⟩
   case round =>
    obtain ⟨q,pos,rfl,hp,hit,HR,hb⟩:=hrel;by_cases hlt:pos<b.size
    ·have nx:=λty=>Lib.run_next_any_at (P:=prog) wr w.heap.size b pos ty hit hlt
     have hk2:=λq=>Lib.iterAt_heap wr w.heap.size b pos q hit
     have hb2:=λq=>Lib.below_iterAt hb (Nat.le_refl w.heap.size) b q
     have hm:wr.iterPos w.heap.size=pos:=by simp [World.iterPos,hit]
     obtain ⟨rv,hrv⟩:∃ rv:Nat,(Utf8.decode b pos).1=rv:=⟨_,rfl⟩
     obtain ⟨n,hn⟩:∃ n:Nat,(Utf8.decode b pos).2=n:=⟨_,rfl⟩
     have hm2:(wr.iterAt w.heap.size b (pos+n)).iterPos w.heap.size=pos+n:=by simp [World.iterPos,hk2]
     have facts:1<=n/\pos+n<=b.size/\(((rv:Int) == 34)=true->b[pos]=34/\n=1)/\(((rv:Int) == 34)=false->∀ j,pos<=j->(hj:j<b.size)->j<pos+n->¬ b[j]=34):=by
      rcases zDE b pos hlt with ⟨h1,e⟩ | ⟨h1,e⟩
      ·rw [e] at hrv hn;simp only at hrv hn;subst hn hrv;refine ⟨Nat.le_refl _,hlt,λh=>⟨UInt8.toNat_inj.1 (by have:=beq_iff_eq.1 h;show _=34;omega),rfl⟩,λh j a1 a2 a3=>?_⟩;obtain rfl:j=pos:=by omega
       intro h2;rw [h2] at h;exact absurd h (by decide)
      ·obtain ⟨w1,w2,w3⟩:=zDd b pos hlt h1;rw [hn] at w1 w2 w3;rw [hrv] at e;refine ⟨w1,w2,λh=>by have:=beq_iff_eq.1 h;omega,λh j a1 a2 a3 h2=>?_⟩;have:=w3 j a1 a2 a3;rw [h2] at this;exact absurd this (by decide)
     obtain ⟨f1,f2,f3,f4⟩:=facts;rw [hrv,hn] at nx;have hi:=hk2 (pos+n);have hbb:=hb2 (pos+n);clear hk2 hb2 hrv hn;cases h34:((rv:Int) == 34) with
     | true =>
      obtain ⟨e34,rfl⟩:=f3 h34;have E:Hid (R=Wlx.quo (!q) (pos+1) (b.data.toList.drop (pos+1))):=by
       show _=_;rw [HR.out,zAh b pos hlt,e34,zET]
      clear HR f3 f4 e34;go_wp2_with fail
      go_roundw
      case rel=>exact ⟨!q,pos+1,rfl,f2,hi,E,hbb⟩
      case measure=>rw [hm,hm2];omega
     | false =>
      cases q with
      | true =>
       have E:Hid (R=Wlx.quo true (pos+n) (b.data.toList.drop (pos+n))):=by
        show _=_;rw [HR.out,zLM b pos n f2 (f4 h34)]
       clear HR f3 f4;go_wp2_with fail
       go_roundw
       case rel=>exact ⟨true,pos+n,rfl,f2,hi,E,hbb⟩
       case measure=>rw [hm,hm2];omega
      | false =>
       have E:Hid (R=pos):=by
        show _=_;rw [HR.out,zAh b pos hlt,zK7 (f4 h34 pos (Nat.le_refl _) hlt (by omega))]
       clear HR f3 f4;go_wp2;go_ret;exact ⟨by rw [E.out];rfl,hbb⟩
    ·have nx:=λty=>Lib.run_next_end_at (P:=prog) wr w.heap.size b pos ty hit hlt
     obtain rfl:pos=b.size:=by omega
     have E:Hid (R=if q then 0 else b.size):=by
      show _=_
      rw [HR.out,zBQ b _ hlt];rfl
     clear HR;cases q with
     | true =>
      have E2:Hid (R=0):=by show _=_;rw [E.out];rfl
      clear E;go_wp2;go_ret;exact ⟨by rw [E2.out];rfl,hb⟩
     | false =>
      have E2:Hid (R=b.size):=by show _=_;rw [E.out];rfl
      clear E;go_wp2;go_ret;exact ⟨by rw [E2.out];rfl,hb⟩
  ·have hc':¬ (34:UInt8)=c:=λe=>hc e.symm
   rw [decide_eq_false hc'] at HP;have E:Hid (Wlx.txtSz (c::t)=0):=by show (if c=34 then _ else 0)=0;rw [if_neg hc]
   clear hl hc hc';go_enter func151,ntmps151;go_wp2_with fail
   refine HP.mono ?_;rintro e w1 ⟨rfl,rfl⟩;go_wp2;go_ret;exact ⟨by rw [E.out];rfl,Below.refl _ _⟩
def zRI (ns:List (List UInt8)):List Value:=ns.map λn=>.string ⟨n.toArray⟩
theorem zCY (b:ByteArray) (ns:List (List UInt8)) (n:Nat) (w W:World) (t:TypeId) (o:Obj) (hW:W=w.alloc o) (ho:o=.cells (zRI ns).toArray t) (hs:b.size<=9223372036854775807) (hn:n=ns.length) (hn2:ns.length<=100) (hns:∀ x ∈ ns,x.length<=100) :
  Calls prog 153 #[.string b,.slice (some ⟨w.heap.size,0,none⟩) n n] W λe w'=>e=.returned (.int .i64 (Wlx.nameSz b.data.toList ns:Nat))/\Below w.heap.size w w':=by
 subst hW ho;refine (zEa b w.heap.size ns n _ hs hn hn2 hns (λi h=>?_)).mono ?_
 ·exact (AtL.new0 w t (zRI ns)).2.1 i _ (by unfold zRI;simp [h])
 ·rintro e w1 ⟨rfl,rfl⟩;exact ⟨rfl,(Below.refl _ w).alloc (Nat.le_refl _) _⟩
theorem zGD (k:Nat) (b:ByteArray) (w:World) (hs:b.size<=9223372036854775806) (hk:1<=k) (hk2:k<=5):CR 123 #[.int .i64 k,.string b] w (.int .i64 (Wlx.sz k b.data.toList:Nat)):=by
 have:k=1 \/ k=2 \/ k=3 \/ k=4 \/ k=5:=by omega
 rcases this with rfl | rfl | rfl | rfl | rfl
 ·go_enter func123,ntmps123;go_wp2_with fail
  refine (zD6 _ _ hs).mono ?_;rintro e w1 ⟨rfl,hb⟩;go_wp2;go_ret;exact ⟨rfl,hb⟩
 ·go_enter func123,ntmps123;go_wp2_with fail
  refine (zFA _ _ hs).mono ?_;rintro e w1 ⟨rfl,hb⟩;go_wp2;go_ret;exact ⟨rfl,hb⟩
 ·go_enter func123,ntmps123;go_wp2_with fail
  refine (zLU _ _ (by omega)).mono ?_;rintro e w1 ⟨rfl,hb⟩;go_wp2;go_ret;exact ⟨rfl,hb⟩
 ·go_enter func123,ntmps123;go_wp2_with fail
  refine (zCY _ Wlx.faults 8 _ _ 9 _ rfl rfl (by omega) rfl (by decide) (by decide)).mono ?_;rintro e w1 ⟨rfl,hb⟩;go_wp2;go_ret;exact ⟨rfl,hb⟩
 ·go_enter func123,ntmps123;go_wp2_with fail
  refine (zCY _ Wlx.marks 18 _ _ 9 _ rfl rfl (by omega) rfl (by decide) (by decide)).mono ?_;rintro e w1 ⟨rfl,hb⟩;go_wp2;go_ret;exact ⟨rfl,hb⟩
open Go.Shelf Go.RowKit
def lays155_ren:Go.Shelf.Ren:=⟨fun | 155=>154 | 154=>171 | 138=>192 | 165=>193 | 143=>194 | 166=>195 | 197=>196 | 169=>197 | 195=>227 | 218=>228 | 240=>229 | 241=>230 | 219=>231 | 260=>232 | 276=>235 | 277=>236 | 217=>237 | 225=>238 | 224=>239 | 267=>240 | 266=>244 | 314=>245 | n=>n,fun | 9=>9 | 3=>3 | 4=>4 | 72=>290 | 0=>0 | 76=>293 | 105=>295 | 21=>21 | 5=>5 | 70=>287 | 20=>20 | 37=>288 | 75=>292 | 127=>305 | 164=>355 | 46=>82 | 119=>358 | 139=>361 | 138=>360 | 146=>362 | 51=>118 | 80=>297 | n=>n,fun | 1=>3 | 3=>4 | 4=>5 | n=>n⟩
theorem lays155:Go.Proofs.LaysM.n155 prog lays155_ren:={
 mixed:=by kernel_rfl
 f138:=func192.trans (congrArg some (by kernel_rfl))
 f143:=func194.trans (congrArg some (by kernel_rfl))
 f154:=func171.trans (congrArg some (by kernel_rfl))
 f155:=func154.trans (congrArg some (by kernel_rfl))
 f165:=func193.trans (congrArg some (by kernel_rfl))
 f166:=func195.trans (congrArg some (by kernel_rfl))
 f169:=func197.trans (congrArg some (by kernel_rfl))
 f195:=func227.trans (congrArg some (by kernel_rfl))
 f197:=func196.trans (congrArg some (by kernel_rfl))
 f217:=func237.trans (congrArg some (by kernel_rfl))
 f218:=func228.trans (congrArg some (by kernel_rfl))
 f219:=func231.trans (congrArg some (by kernel_rfl))
 f224:=func239.trans (congrArg some (by kernel_rfl))
 f225:=func238.trans (congrArg some (by kernel_rfl))
 f240:=func229.trans (congrArg some (by kernel_rfl))
 f241:=func230.trans (congrArg some (by kernel_rfl))
 f260:=func232.trans (congrArg some (by kernel_rfl))
 f266:=func244.trans (congrArg some (by kernel_rfl))
 f267:=func240.trans (congrArg some (by kernel_rfl))
 f276:=func235.trans (congrArg some (by kernel_rfl))
 f277:=func236.trans (congrArg some (by kernel_rfl))
 f314:=func245.trans (congrArg some (by kernel_rfl))
 t0:=underlying0
 a0:=Tryz.isAgg0
 z0:=Tryz.sizeOf0
 v0:=Tryz.zeroValue0
 t3:=underlying3
 a3:=Tryz.isAgg3
 z3:=Tryz.sizeOf3
 v3:=Tryz.zeroValue3
 t4:=underlying4
 a4:=Tryz.isAgg4
 z4:=Tryz.sizeOf4
 v4:=Tryz.zeroValue4
 t5:=underlying5
 a5:=Tryz.isAgg5
 z5:=Tryz.sizeOf5
 v5:=Tryz.zeroValue5
 t9:=underlying9
 a9:=Tryz.isAgg9
 z9:=Tryz.sizeOf9
 v9:=Tryz.zeroValue9
 t20:=underlying20
 a20:=Tryz.isAgg20
 z20:=Tryz.sizeOf20
 v20:=Tryz.zeroValue20
 t21:=underlying21
 a21:=Tryz.isAgg21
 z21:=Tryz.sizeOf21
 v21:=Tryz.zeroValue21
 t37:=underlying288
 a37:=Tryz.isAgg288
 z37:=Tryz.sizeOf288
 v37:=Tryz.zeroValue288
 t46:=underlying82
 a46:=Tryz.isAgg82
 z46:=Tryz.sizeOf82
 v46:=Tryz.zeroValue82
 t51:=underlying118
 a51:=Tryz.isAgg118
 z51:=Tryz.sizeOf118
 v51:=Tryz.zeroValue118
 t70:=underlying287
 a70:=Tryz.isAgg287
 z70:=Tryz.sizeOf287
 v70:=Tryz.zeroValue287
 t72:=underlying290
 a72:=Tryz.isAgg290
 z72:=Tryz.sizeOf290
 v72:=Tryz.zeroValue290
 t75:=underlying292
 a75:=Tryz.isAgg292
 z75:=Tryz.sizeOf292
 v75:=Tryz.zeroValue292
 t76:=underlying293
 a76:=Tryz.isAgg293
 z76:=Tryz.sizeOf293
 v76:=Tryz.zeroValue293
 t105:=underlying295
 a105:=Tryz.isAgg295
 z105:=Tryz.sizeOf295
 v105:=Tryz.zeroValue295
 t119:=underlying358
 a119:=Tryz.isAgg358
 z119:=Tryz.sizeOf358
 t127:=underlying305
 a127:=Tryz.isAgg305
 z127:=Tryz.sizeOf305
 v127:=Tryz.zeroValue305
 t138:=underlying360
 a138:=Tryz.isAgg360
 z138:=Tryz.sizeOf360
 v138:=Tryz.zeroValue360
 t139:=underlying361
 a139:=Tryz.isAgg361
 z139:=Tryz.sizeOf361
 v139:=Tryz.zeroValue361
 t146:=underlying362
 a146:=Tryz.isAgg362
 z146:=Tryz.sizeOf362
 v146:=Tryz.zeroValue362
 t164:=underlying355
 a164:=Tryz.isAgg355
 z164:=Tryz.sizeOf355
 v164:=Tryz.zeroValue355
 g1:=by kernel_rfl
 g3:=by kernel_rfl
 g4:=by kernel_rfl
 t80:=underlying297
 a80:=Tryz.isAgg297
 z80:=Tryz.sizeOf297
 v80:=Tryz.zeroValue297
 i0:=by kernel_rfl
 i3:=by kernel_rfl
 i4:=by kernel_rfl
 i5:=by kernel_rfl
 i9:=by kernel_rfl
 i20:=by kernel_rfl
 i21:=by kernel_rfl
 i37:=by kernel_rfl
 i46:=by kernel_rfl
 i51:=by kernel_rfl
 i70:=by kernel_rfl
 i72:=by kernel_rfl
 i75:=by kernel_rfl
 i76:=by kernel_rfl
 i80:=by kernel_rfl
 i105:=by kernel_rfl
 i127:=by kernel_rfl
 i138:=by kernel_rfl
 i139:=by kernel_rfl
 i146:=by kernel_rfl
 i164:=by kernel_rfl
 m1:=by kernel_rfl
 s1_3:=λw h=>Go.Proofs.cell_of_shapedOpen_int (zero:=#[.int .i64 0]) (t:=3) h (of_decide_eq_true (by kernel_rfl)) (by kernel_rfl) rfl (by kernel_rfl) (by kernel_rfl) underlying3
 m3:=by kernel_rfl
 m4:=by kernel_rfl}
theorem zGu:Builder.Extra prog lays155_ren:={
 sizeBuilder:=by kernel_rfl
 liesBuilder:=by kernel_rfl
 t5:=underlying5
 a5:=Tryz.isAgg5
 z5:=Tryz.sizeOf5
 v5:=Tryz.zeroValue5
 infoByte:=by kernel_rfl
 cellsByte:=by kernel_rfl
 sizeByte:=by kernel_rfl
 neB5:=by decide}
def MaxAt (w:World):Prop:=∃ m:Int,w.cell? ⟨lays155_ren.g 1,0,none⟩=some (.int .i64 m)
theorem MaxAt.below {w':World} (h:MaxAt w) (hb:Below w.heap.size w w'):MaxAt w':=by
 obtain ⟨m,hm⟩:=h;exact ⟨m,(hb.cell (p:=⟨lays155_ren.g 1,0,none⟩) (World.block_lt_of_cell? _ _ hm)).trans hm⟩
theorem MaxAt.shaped (h:w.ShapedOpen prog):MaxAt w:=lays155.s1_3 w h
def rep (old new l:List UInt8):List UInt8:=Lib.replaceK old new (Lib.count l old) l
theorem zJH (h0:old ≠ []) (h:old.isPrefixOf l=true):rep old new l=new++rep old new (l.drop old.length):=by
 have hi:Lib.index l old=((0:Nat):Int):=by
  cases l with
  | nil=>cases old with | nil=>exact absurd rfl h0 | cons a b=>simp at h
  | cons b t=>unfold Lib.index;rw [if_pos h];rfl
 have hc:=Lib.count_hit h0 hi;unfold rep;rw [hc,Nat.add_comm,Lib.replaceK_hit _ _ _ _ 0 hi,Nat.zero_add];rfl
theorem zEQ {t:List UInt8} {c:UInt8} (h0:old ≠ []) (h:old.isPrefixOf (c::t)=false):rep old new (c::t)=c::rep old new t:=by
 have hi:Lib.index (c::t) old=if Lib.index t old == -1 then -1 else Lib.index t old+1:=by
  conv=>lhs;unfold Lib.index
  rw [if_neg (by rw [h];decide)]
 unfold rep;by_cases hm:Lib.index t old = -1
 ·rw [hm,if_pos (by decide)] at hi;rw [Lib.count_miss hi,Lib.count_miss hm];rfl
 ·have hge:=Lib.index_ge t old;obtain ⟨i,hii⟩:∃ i:Nat,Lib.index t old=i:=⟨(Lib.index t old).toNat,by omega⟩
  rw [hii,if_neg (by first | (simp;done) | (simp;omega))] at hi;have hi2:Lib.index (c::t) old=((i+1:Nat):Int):=by rw [hi];omega
  have e1:=Lib.count_hit h0 hi2;have e2:=Lib.count_hit h0 hii;have e3:(c::t).drop (i+1+old.length)=t.drop (i+old.length):=by rw [show i+1+old.length=(i+old.length)+1 by omega];rfl
  rw [e3] at e1;rw [e1,e2,Nat.add_comm,Lib.replaceK_hit _ _ _ _ (i+1) hi2,Lib.replaceK_hit _ _ _ _ i hii,e3];rfl
theorem zES (h0:old ≠ []):rep old new []=[]:=by
 unfold rep;rw [Lib.count_miss (by cases old with | nil=>exact absurd rfl h0 | cons a b=>rfl)];rfl
theorem zKF (h:(old == new)=false):Lib.replaceAll l old new=rep old new l:=by
 unfold Lib.replaceAll Lib.replace rep Lib.replaceNum;rw [if_neg (by rw [h];decide),if_pos (Or.inl (by decide))]
theorem zI5:∀ (n:Nat) (l:List UInt8),l.length<=n->rep [34,34] [34] l=Wlx.undbl l:=by
 intro n;induction n with
 | zero=>intro l hl;obtain rfl:=List.eq_nil_of_length_eq_zero (Nat.le_zero.1 hl);exact zES (by decide)
 | succ n ih =>
  intro l hl;match l,hl with
  | [],_=>exact zES (by decide)
  | [c],_=>rw [zEQ (by decide) (by simp [List.isPrefixOf]),zES (by decide)];rfl
  | c::d::t,hl =>
   simp only [List.length_cons] at hl;have e:Wlx.undbl (c::d::t)=if c=34/\d=34 then 34::Wlx.undbl t else c::Wlx.undbl (d::t):=by conv=>lhs;unfold Wlx.undbl
   rw [e];by_cases h:c=34/\d=34
   ·obtain ⟨rfl,rfl⟩:=h;rw [zJH (by decide) (by simp [List.isPrefixOf]),if_pos ⟨rfl,rfl⟩];show 34::rep [34,34] [34] t=_
    rw [ih t (by omega)]
   ·rw [zEQ (by decide) (by simp [List.isPrefixOf];intro h1 h2;exact h ⟨h1.symm,h2.symm⟩),if_neg h,ih (d::t) (by simp only [List.length_cons];omega)]
theorem zBy (s old:ByteArray) (h:1<=old.size):Lib.countB s old<=s.size:=by
 have:=Lib.countB_mul_le old h s.size s (Nat.le_refl _);have h2:Lib.countB s old * 1<=Lib.countB s old * old.size:=Nat.mul_le_mul_left _ h;omega
theorem zFy (b:ByteArray) (w:World) (hm:MaxAt w) (hs:b.size<=1048576):CR 154 #[.string b,.string ⟨#[34,34]⟩,.string ⟨#[34]⟩] w (.string ⟨(Wlx.undbl b.data.toList).toArray⟩):=by
 obtain ⟨m,hm⟩:=hm;have c:=zBy b ⟨#[34,34]⟩ (by decide);have h:=Any.strings_ReplaceAll {lays155 with} zGu b ⟨#[34,34]⟩ ⟨#[34]⟩ m w (by omega) hm (by decide) (by show b.size+_ * 1<=_;omega);rw [zKF (by decide),zI5 _ _ (Nat.le_refl _)] at h;exact h
end Go.Proofs.YtedifblompcdkaaGreatDoor
namespace Wlx
theorem zBx:∀ (p l:List UInt8),begins p l=true->p.length<=l.length
 | [],_,_=>Nat.zero_le _
 | _::_,[],h=>by simp [begins] at h
 | a::p,b::t,h=>by
  simp only [begins,Bool.and_eq_true] at h;have:=zBx p t h.2;simp only [List.length_cons];omega
theorem zFF (l:List UInt8) (ns:List (List UInt8)):nameSz l ns<=l.length:=by
 induction ns with
 | nil=>exact Nat.zero_le _
 | cons n r ih =>
  unfold nameSz;split
  ·rename_i h;exact zBx n l h
  ·exact ih
theorem zKP:∀ (l:List UInt8) (w:Bool) (i:Nat),quo w i l<=i+l.length
 | [],w,i=>by unfold quo;split <;> simp
 | c::t,w,i=>by
  unfold quo;split
  ·have:=zKP t (!w) (i+1);simp only [List.length_cons];omega
  ·split
   ·have:=zKP t w (i+1);simp only [List.length_cons];omega
   ·omega
theorem zMo (n:Nat) (l:List UInt8):numTl n l<=n+l.length:=by
 cases l with
 | nil=>exact Nat.le_refl _
 | cons c t =>
  rw [numTl_cons];have:=runP_le dig t;split <;> simp only [List.length_cons] <;> omega
theorem zLc (l:List UInt8):numSz l<=l.length:=by
 unfold numSz;split
 ·exact Nat.zero_le _
 ·have h1:=zMo (runP dig l) (l.drop (runP dig l));have h2:=runP_le dig l;rw [List.length_drop] at h1;omega
theorem zMV (l:List UInt8):txtSz l<=l.length:=by
 cases l with
 | nil=>exact Nat.zero_le _
 | cons c t =>
  show (if c=34 then quo true 1 t else 0)<=_
  split
  ·have:=zKP t true 1;simp only [List.length_cons];omega
  ·exact Nat.zero_le _
theorem sz_le (k:Nat) (l:List UInt8):sz k l<=l.length:=by
 unfold sz;split
 ·exact zLc l
 split
 ·exact zMV l
 split
 ·exact runP_le _ l
 split
 ·exact zFF l _
 split
 ·exact zFF l _
 exact Nat.zero_le _
def hit (l:List UInt8):Nat :=
 if 0<sz 1 l then 1 else if 0<sz 2 l then 2 else if 0<sz 3 l then 3 else if 0<sz 4 l then 4 else if 0<sz 5 l then 5 else 6
theorem hit_pos {l:List UInt8} (h:¬ hit l=6):0<sz (hit l) l:=by
 unfold hit at *;repeat' split
 all_goals first | assumption | (exfalso;apply h;simp_all)
theorem zQn (l:List UInt8):1<=hit l:=by unfold hit;(repeat' split) <;> omega
theorem hit_first {l:List UInt8} {k:Nat} (h0:1<=k) (h5:k<=5) (h:0<sz k l) (hb:∀ j,1<=j->j<k->sz j l=0):hit l=k:=by
 have:k=1 \/ k=2 \/ k=3 \/ k=4 \/ k=5:=by omega
 unfold hit;rcases this with rfl | rfl | rfl | rfl | rfl
 ·rw [if_pos h]
 ·rw [hb 1 (by omega) (by omega),if_neg (by omega),if_pos h]
 ·rw [hb 1 (by omega) (by omega),if_neg (by omega),hb 2 (by omega) (by omega),if_neg (by omega),if_pos h]
 ·rw [hb 1 (by omega) (by omega),if_neg (by omega),hb 2 (by omega) (by omega),if_neg (by omega),hb 3 (by omega) (by omega),if_neg (by omega),if_pos h]
 ·rw [hb 1 (by omega) (by omega),if_neg (by omega),hb 2 (by omega) (by omega),if_neg (by omega),hb 3 (by omega) (by omega),if_neg (by omega),hb 4 (by omega) (by omega),if_neg (by omega),if_pos h]
theorem hit_none {l:List UInt8} (hb:∀ j,1<=j->j<=5->sz j l=0):hit l=6:=by
 unfold hit;rw [hb 1 (by omega) (by omega),if_neg (by omega),hb 2 (by omega) (by omega),if_neg (by omega),hb 3 (by omega) (by omega),if_neg (by omega),hb 4 (by omega) (by omega),if_neg (by omega),hb 5 (by omega) (by omega),if_neg (by omega)]
structure Tok where
 k:Nat
 t:List UInt8
 p:Nat
abbrev Res:=Sum (List Tok) (Nat × Nat)
abbrev Res.ok (ts:List Tok):Res:=.inl ts
abbrev Res.err (e p:Nat):Res:=.inr (e,p)
def Res.cons (t:Tok):Res->Res
 | .inl ts=>.inl (t::ts)
 | .inr x=>.inr x
def Res.pre:List Tok->Res->Res
 | [],r=>r
 | t::a,r=>Res.cons t (Res.pre a r)
theorem Res.pre_snoc (a:List Tok) (t:Tok) (r:Res):Res.pre (a++[t]) r=Res.pre a (Res.cons t r):=by
 induction a with
 | nil=>rfl
 | cons x a ih=>exact congrArg (Res.cons x) ih
theorem Res.pre_ok (a b:List Tok):Res.pre a (Res.ok b)=Res.ok (a++b):=by
 induction a with
 | nil=>rfl
 | cons x a ih=>show Res.cons x _=_;rw [ih];rfl
theorem Res.pre_err (a:List Tok) (e p:Nat):Res.pre a (Res.err e p)=Res.err e p:=by
 induction a with
 | nil=>rfl
 | cons x a ih=>show Res.cons x _=_;rw [ih];rfl
def zEG:Nat->Nat->List UInt8->Res
 | 0,_,_=>Res.ok []
 | _+1,_,[]=>Res.ok []
 | f+1,p,c::t =>
  if c=32 then zEG f (p+1) t
  else if hit (c::t)=6 then Res.err (if c=34 then 41 else 40) p
  else if runP prt ((c::t).take (sz (hit (c::t)) (c::t)))<sz (hit (c::t)) (c::t) then Res.err 40 (p+runP prt ((c::t).take (sz (hit (c::t)) (c::t))))
  else Res.cons ⟨hit (c::t),said (hit (c::t)) ((c::t).take (sz (hit (c::t)) (c::t))),p⟩ (zEG f (p+sz (hit (c::t)) (c::t)) ((c::t).drop (sz (hit (c::t)) (c::t))))
theorem zCR (f p:Nat) (c:UInt8) (t:List UInt8):zEG (f+1) p (c::t)=if c=32 then zEG f (p+1) t
  else if hit (c::t)=6 then Res.err (if c=34 then 41 else 40) p
  else if runP prt ((c::t).take (sz (hit (c::t)) (c::t)))<sz (hit (c::t)) (c::t) then Res.err 40 (p+runP prt ((c::t).take (sz (hit (c::t)) (c::t))))
  else Res.cons ⟨hit (c::t),said (hit (c::t)) ((c::t).take (sz (hit (c::t)) (c::t))),p⟩ (zEG f (p+sz (hit (c::t)) (c::t)) ((c::t).drop (sz (hit (c::t)) (c::t)))):=rfl
theorem zCG (f p:Nat):zEG f p []=Res.ok []:=by cases f <;> rfl
theorem zKO:∀ (f g p:Nat) (l:List UInt8),l.length<=f->l.length<=g->zEG f p l=zEG g p l:=by
 intro f;induction f with
 | zero =>
  intro g p l h1 h2;obtain rfl:=List.eq_nil_of_length_eq_zero (Nat.le_zero.1 h1);rw [zCG,zCG]
 | succ f ih =>
  intro g p l h1 h2;cases l with
  | nil=>rw [zCG,zCG]
  | cons c t =>
   simp only [List.length_cons] at h1 h2;obtain ⟨g,rfl⟩:∃ g',g=g'+1:=⟨g - 1,by omega⟩
   rw [zCR,zCR,ih g (p+1) t (by omega) (by omega)];by_cases h6:hit (c::t)=6
   ·rw [if_pos h6,if_pos h6]
   ·have:=hit_pos h6;have hl:((c::t).drop (sz (hit (c::t)) (c::t))).length<=t.length:=by
     rw [List.length_drop];simp only [List.length_cons];omega
    rw [ih g (p+sz (hit (c::t)) (c::t)) ((c::t).drop (sz (hit (c::t)) (c::t))) (by omega) (by omega)]
def scan (p:Nat) (l:List UInt8):Res:=zEG l.length p l
theorem scan_cons (p:Nat) (c:UInt8) (t:List UInt8):scan p (c::t)=if c=32 then scan (p+1) t
  else if hit (c::t)=6 then Res.err (if c=34 then 41 else 40) p
  else if runP prt ((c::t).take (sz (hit (c::t)) (c::t)))<sz (hit (c::t)) (c::t) then Res.err 40 (p+runP prt ((c::t).take (sz (hit (c::t)) (c::t))))
  else Res.cons ⟨hit (c::t),said (hit (c::t)) ((c::t).take (sz (hit (c::t)) (c::t))),p⟩ (scan (p+sz (hit (c::t)) (c::t)) ((c::t).drop (sz (hit (c::t)) (c::t)))):=by
 unfold scan;rw [List.length_cons,zCR];by_cases h6:hit (c::t)=6
 ·rw [if_pos h6,if_pos h6]
 ·have:=hit_pos h6;have hl:((c::t).drop (sz (hit (c::t)) (c::t))).length<=t.length:=by
   rw [List.length_drop];simp only [List.length_cons];omega
  rw [zKO t.length _ (p+sz (hit (c::t)) (c::t)) ((c::t).drop (sz (hit (c::t)) (c::t))) hl (Nat.le_refl _)]
theorem scan_nil (p:Nat):scan p []=Res.ok []:=rfl
theorem scan_blank (p:Nat) (t:List UInt8):scan p (32::t)=scan (p+1) t:=by
 rw [scan_cons,if_pos rfl]
theorem scan_none {p:Nat} {c:UInt8} {t:List UInt8} (h:¬ c=32) (h6:hit (c::t)=6):scan p (c::t)=Res.err (if c=34 then 41 else 40) p:=by
 rw [scan_cons,if_neg h,if_pos h6]
theorem scan_bad {p:Nat} {c:UInt8} {t:List UInt8} (h:¬ c=32) {k n:Nat} (hk:hit (c::t)=k) (h6:¬ k=6) (hn:sz k (c::t)=n) (hb:runP prt ((c::t).take n)<n):scan p (c::t)=Res.err 40 (p+runP prt ((c::t).take n)):=by
 subst hk hn;rw [scan_cons,if_neg h,if_neg h6,if_pos hb]
theorem scan_tok {p:Nat} {c:UInt8} {t:List UInt8} (h:¬ c=32) {k n:Nat} (hk:hit (c::t)=k) (h6:¬ k=6) (hn:sz k (c::t)=n) (hb:¬ runP prt ((c::t).take n)<n) :
  scan p (c::t)=Res.cons ⟨k,said k ((c::t).take n),p⟩ (scan (p+n) ((c::t).drop n)):=by
 subst hk hn;rw [scan_cons,if_neg h,if_neg h6,if_neg hb]
end Wlx
namespace Go.Proofs.YtedifblompcdkaaGreatDoor
open Tryz
open Go.Shelf Go.RowKit
variable {w w':World}
theorem zI6 (b:ByteArray) (w:World) (hm:MaxAt w) (h2:2<=b.size) (hs:b.size<=1048576):CR 126 #[.int .i64 2,.string b] w (.string ⟨(Wlx.said 2 b.data.toList).toArray⟩):=by
 have c1:(1:Int)<=(b.size:Int) - 1:=by omega
 have c2:(b.size:Int) - 1<=(b.size:Int):=by omega
 have E:Hid (Wlx.undbl (b.extract 1 (b.size - 1)).data.toList=Wlx.said 2 b.data.toList):=by
  show _=_
  rw [Lib.extract_data];have:b.data.toList.length=b.size:=rfl;unfold Wlx.said;rw [if_pos rfl,this,show b.size - 1 - 1=b.size - 2 by omega]
 have R:=λw hm=>zFy (b.extract 1 (b.size - 1)) w hm (by rw [ByteArray.size_extract];omega)
 rw [E.out] at R;clear E;generalize Wlx.said 2 b.data.toList=q at *;have e1:((b.size:Int) - 1).toNat=b.size - 1:=by omega
 go_enter func126,ntmps126;go_wp2_with fail
 refine (R _ hm).mono ?_;rintro e w1 ⟨rfl,hb⟩;go_wp2;go_ret;exact ⟨rfl,hb⟩
theorem zH5 (k:Nat) (b:ByteArray) (w:World) (h:¬ k=2):CR 126 #[.int .i64 k,.string b] w (.string ⟨(Wlx.said k b.data.toList).toArray⟩):=by
 have hk:((k:Int) != 2)=true:=by simp;omega
 have E:Hid ((⟨(Wlx.said k b.data.toList).toArray⟩:ByteArray)=b):=by
  show _=_;unfold Wlx.said;rw [if_neg h]
 clear h;rw [E.out];go_enter func126,ntmps126;go_wp2;go_ret;exact ⟨rfl,Below.refl _ _⟩
theorem zLx (k:Nat) (b:ByteArray) (w:World) (hm:MaxAt w) (h2:k=2->2<=b.size) (hs:b.size<=1048576):CR 126 #[.int .i64 k,.string b] w (.string ⟨(Wlx.said k b.data.toList).toArray⟩):=by
 by_cases h:k=2
 ·subst h;exact zI6 b w hm (h2 rfl) hs
 ·exact zH5 k b w h
theorem zGS (b:ByteArray) (w:World) (hs:b.size<=9223372036854775807):Calls prog 127 #[.string b] w λe w'=>e=.returned (.int .i64 (if Wlx.begins [34] b.data.toList then 41 else 40))/\w=w':=by
 have HP:=zAy b ⟨#[34]⟩ w hs;have e0:(⟨#[34]⟩:ByteArray).data.toList=[34]:=rfl;rw [e0] at HP;cases hb:Wlx.begins [34] b.data.toList with
 | true =>
  rw [hb] at HP;clear hb;go_enter func127,ntmps127;go_wp2_with fail
  refine HP.mono ?_;rintro e w1 ⟨rfl,rfl⟩;go_wp2;go_ret;exact ⟨rfl,rfl⟩
 | false =>
  rw [hb] at HP;clear hb;go_enter func127,ntmps127;go_wp2_with fail
  refine HP.mono ?_;rintro e w1 ⟨rfl,rfl⟩;go_wp2;go_ret;exact ⟨rfl,rfl⟩
def zQx (t:Wlx.Tok):List Value:=[.int .i64 t.k,.string ⟨t.t.toArray⟩,.int .i64 t.p]
def zOV (ts:List Wlx.Tok):List Value:=ts.flatMap zQx
theorem zKU (ts:List Wlx.Tok) (t:Wlx.Tok):zOV (ts++[t])=zOV ts++zQx t:=by simp [zOV]
theorem zO8:(prog.info? 219).map (λi=>(i.zero,i.size,i.bytes))=some (some (.agg #[.int .i64 0,.string ⟨#[]⟩,.int .i64 0]),3,32):=by kernel_rfl
abbrev zFK (w:World) (base:Nat) (v:Value) (ts:List Wlx.Tok):Prop:=w.ownsRow base 219 3 v ts.length (zOV ts)
theorem zKw {B:Nat} {v:Value} {ts:List Wlx.Tok} (h:zFK w B v ts) (hb:Below w.heap.size w w'):zFK w' B v ts :=
 h.kept (row:=none) ⟨hb.os,hb.tape,hb.output,hb.size,λk hk _=>hb.block k hk⟩ (by cases v.ownBlock <;> simp)
def zA7 (l:List UInt8):Wlx.Res:=if 1024<l.length then Wlx.Res.err 2 0 else Wlx.scan 0 l
def zDy (B:Nat) (r:Wlx.Res) (e:Ending) (w:World):Prop :=
 match r with
 | .inl ts=>∃ v,e=.returned (.tuple #[v,.int .i64 0,.int .i64 0])/\zFK w B v ts
 | .inr (c,p)=>e=.returned (.tuple #[.slice none 0 0,.int .i64 c,.int .i64 p])
theorem zHn {row:Option Nat} (hg:w.grownBy w' row) {k:Nat} {s:ByteArray} {pos:Nat} (hk:w.heap[k]? = some (.stringIter s pos)) (hne:some k ≠ row):w'.heap[k]? = some (.stringIter s pos):=by
 rw [hg.block k (Array.getElem?_eq_some_iff.1 hk).1 hne];exact hk
theorem zHY (hb:Below w.heap.size w w') {k:Nat} {s:ByteArray} {pos:Nat} (hk:w.heap[k]? = some (.stringIter s pos)):w'.heap[k]? = some (.stringIter s pos):=by
 rw [hb.block k (Array.getElem?_eq_some_iff.1 hk).1];exact hk
theorem zJ0 {c:UInt8} (h:Wlx.prt c=true):c.toNat<128:=by
 unfold Wlx.prt at h;simp at h;omega
theorem zG6 {p:UInt8->Bool}:∀ (l:List UInt8),¬ Wlx.runP p l<l.length->∀ x ∈ l,p x=true
 | [],_,x,hx=>by cases hx
 | c::t,h,x,hx=>by
  cases hc:p c with
  | false=>rw [Wlx.runP_neg hc] at h;simp at h
  | true =>
   rw [Wlx.runP_pos hc] at h;simp only [List.length_cons] at h;rcases List.mem_cons.1 hx with rfl | hx
   ·exact hc
   ·exact zG6 t (by omega) x hx
end Go.Proofs.YtedifblompcdkaaGreatDoor
namespace Wlx
structure TV where
 k:Int
 t:List UInt8
 p:Int
def tv (t:Tok):TV:=⟨t.k,t.t,t.p⟩
end Wlx
namespace Go.Proofs.YtedifblompcdkaaGreatDoor
open Tryz
open Go.Shelf Go.RowKit
open Go.RowKit
variable {w w':World} {en:Int} {ts:List Wlx.TV}
def PSt (w:World) (kp:Nat) (ts:List Wlx.TV) (en:Int):Prop :=
 ∃ (av:Option Addr) (cap:Nat),ts.length<=cap/\AtL w kp [.slice av ts.length cap,.int .i64 en] /\
  ∀ i (h:i<ts.length),∃ bb off,av=some ⟨bb,off,none⟩/\bb<kp/\w.cell? ⟨bb,off+i * 3,none⟩=some (.int .i64 (ts[i]).k)/\w.cell? ⟨bb,off+i * 3+1,none⟩=some (.string ⟨(ts[i]).t.toArray⟩)/\w.cell? ⟨bb,off+i * 3+2,none⟩=some (.int .i64 (ts[i]).p)
theorem PSt.below {kp:Nat} (h:PSt w kp ts en) (hb:Below w.heap.size w w'):PSt w' kp ts en:=by
 obtain ⟨av,cap,h1,h2,h3⟩:=h;refine ⟨av,cap,h1,h2.below hb,λi hi=>?_⟩;obtain ⟨bb,off,e,hn,c0,c1,c2⟩:=h3 i hi;exact ⟨bb,off,e,hn,zAC hb c0,zAC hb c1,zAC hb c2⟩
theorem zAE (hb:Below w.heap.size w w') (row:Option Nat):w.grownBy w' row:=⟨hb.os,hb.tape,hb.output,hb.size,λk hk _=>hb.block k hk⟩
theorem zAD {w1 w2:World} {row:Option Nat} (h1:w.grownBy w1 row) (h2:w1.grownBy w2 row):w.grownBy w2 row :=
 ⟨h2.os.trans h1.os,h2.tape.trans h1.tape,h2.output.trans h1.output,Nat.le_trans h1.size h2.size,λk hk hn=>(h2.block k (Nat.lt_of_lt_of_le hk h1.size) hn).trans (h1.block k hk hn)⟩
def hd (ts:List Wlx.TV) (en:Int):Wlx.TV:=match ts with
 | []=>⟨0,[],en⟩
 | t::_=>t
def tkV (t:Wlx.TV):Value:=.agg #[.int .i64 t.k,.string ⟨t.t.toArray⟩,.int .i64 t.p]
theorem zBH (kp:Nat) (ts:List Wlx.TV) (en:Int) (w:World) (h:PSt w kp ts en):CR 175 #[.pointer (some ⟨kp,0,none⟩)] w (tkV (hd ts en)):=by
 obtain ⟨av,cap,h1,h2,h3⟩:=h;have hlt:=h2.lt;obtain ⟨c0,c1,f0,f1⟩:=h2.two;have hne:¬ kp=w.heap.size:=by omega
 cases ts with
 | nil =>
  simp only [List.length_nil] at c0;go_enter func175,ntmps175;go_wp2;refine bodyPost_ret (v:=.agg #[.int .i64 0,.string ⟨#[]⟩,.int .i64 en]) (by simp [results,results175,go_sem, *]) rfl ⟨rfl,?_⟩;exact clA
 | cons t r =>
  obtain ⟨bb,off,e,hn,d0,d1,d2⟩:=h3 0 (by simp);subst e;have hlb:=World.block_lt_of_cell? _ _ d0;have hnb:¬ bb=w.heap.size:=by simp only at hlb;omega
  simp only [List.getElem_cons_zero,Nat.zero_mul,Nat.add_zero] at d0 d1 d2;obtain ⟨m,hm⟩:∃ m,r.length+1=m:=⟨_,rfl⟩
  simp only [List.length_cons,hm] at c0;have hm0:((m:Int) == 0)=false:=by rw [beq_eq_false_iff_ne];omega
  have hm1:(0:Int)<(m:Int):=by omega
  go_enter func175,ntmps175;go_wp2;refine bodyPost_ret (v:=tkV t) (by simp [results,results175,go_sem,tkV, *]) rfl ⟨rfl,?_⟩;exact clA
def zIE (t:Wlx.TV) (m:List UInt8):Bool:=(t.k == 5) && (t.t == m)
theorem zBd (t:Wlx.TV) (m:List UInt8) (w:World):CR 252 #[tkV t,.string ⟨m.toArray⟩] w (.bool (zIE t m)):=by
 obtain ⟨k,x,p⟩:=t;unfold zIE;show Calls _ _ #[.agg #[.int .i64 k,.string ⟨x.toArray⟩,.int .i64 p],.string ⟨m.toArray⟩] _ _
 simp only;by_cases hk:k=5
 ·subst hk;go_enter func252,ntmps252;go_wp2;go_ret;exact ⟨zAm (by simp),clA⟩
 ·have hk':(k == 5)=false:=by simp [hk]
  rw [hk'];go_enter func252,ntmps252;go_wp2;go_ret;exact ⟨rfl,clA⟩
def fol (ts:List Wlx.TV) (m:List UInt8):Bool:=match ts with
 | _::t::_=>zIE t m
 | _=>false
theorem zBZ (kp:Nat) (ts:List Wlx.TV) (en:Int) (m:List UInt8) (w:World) (h:PSt w kp ts en) (hts:ts.length<=1024):CR 246 #[.pointer (some ⟨kp,0,none⟩),.string ⟨m.toArray⟩] w (.bool (fol ts m)):=by
 obtain ⟨av,cap,h1,h2,h3⟩:=h;obtain ⟨c0,c1,f0,f1⟩:=h2.two;by_cases hl:1<ts.length
 ·obtain ⟨bb,off,e,hn,d0,d1,d2⟩:=h3 1 hl;subst e;have C:=zBd (ts[1]) m w;have hf:fol ts m=zIE (ts[1]) m:=by
   match ts,hl with
   | _::t::_,_=>rfl
  rw [hf];clear hf h3 h2;have hli:(1:Int)<(ts.length:Int):=by omega
  generalize zIE (ts[1]) m=q at *;unfold tkV at C;go_enter func246,ntmps246;go_wp2_with fail
  refine C.mono ?_;rintro e w1 ⟨rfl,hb⟩;go_wp2;go_ret;exact ⟨rfl,hb⟩
 ·have hf:fol ts m=false:=by
   match ts,hl with
   | [],_=>rfl
   | [_],_=>rfl
   | _::_::_,h=>exact absurd (by simp) h
  rw [hf];have hli:¬ (1:Int)<(ts.length:Int):=by omega
  go_enter func246,ntmps246;go_wp2;go_ret;exact ⟨rfl,Below.refl _ _⟩
theorem zA0 (w:World) (kp o:Nat) (v:Value):w.grownBy (w.setCell ⟨kp,o,none⟩ v) (some kp):=by
 have hb:=(Below.refl kp w).setCell (p:=⟨kp,o,none⟩) (Nat.le_refl _) v;refine ⟨hb.os,hb.tape,hb.output,hb.size,λk hk hn=>?_⟩;exact Below.heap_setCell _ _ _ _ (λe=>hn (by rw [e]))
theorem PSt.far {kp:Nat} (h:PSt w kp ts en) {b:Nat} (hb:kp<b) (o:Nat) (v:Value):PSt (w.setCell ⟨b,o,none⟩ v) kp ts en:=by
 obtain ⟨av,cap,h1,h2,h3⟩:=h;refine ⟨av,cap,h1,h2.far (by omega) o v,λi hi=>?_⟩;obtain ⟨bb,off,e,hn,c0,c1,c2⟩:=h3 i hi;refine ⟨bb,off,e,hn,?_,?_,?_⟩ <;> rw [World.cell?_setCell_far _ _ _ _ (by simp;omega)] <;> assumption
theorem zAS {W:World} {row:Option Nat} (h:w.grownBy W row) {b:Nat} (hb:w.heap.size<=b) (o:Nat) (v:Value):w.grownBy (W.setCell ⟨b,o,none⟩ v) row:=by
 have q:=(Below.refl b W).setCell (p:=⟨b,o,none⟩) (Nat.le_refl _) v;exact ⟨q.os.trans h.os,q.tape.trans h.tape,q.output.trans h.output,Nat.le_trans h.size q.size,λk hk hn=>(q.block k (by omega)).trans (h.block k hk hn)⟩
theorem PSt.lt {kp:Nat} (h:PSt w kp ts en):kp<w.heap.size:=by
 obtain ⟨av,cap,h1,h2,h3⟩:=h;exact h2.lt
theorem PSt.moved {kp n cap:Nat} {av av':Option Addr} {a r:List Wlx.TV} (hn:a.length=n) (hcap:n+r.length<=cap) (h2:AtL w kp [.slice av (a++r).length cap,.int .i64 en])
  (h3:∀ i (h:i<(a++r).length),∃ bb off,av=some ⟨bb,off,none⟩/\bb<kp/\w.cell? ⟨bb,off+i * 3,none⟩=some (.int .i64 ((a++r)[i]).k)/\w.cell? ⟨bb,off+i * 3+1,none⟩=some (.string ⟨((a++r)[i]).t.toArray⟩)/\w.cell? ⟨bb,off+i * 3+2,none⟩=some (.int .i64 ((a++r)[i]).p))
  (hav:0<r.length->av'=av.map (·.add (n * 3))):PSt (w.setCell ⟨kp,0,none⟩ (.slice av' r.length (cap - n))) kp r en:=by
 refine ⟨av',cap - n,by omega,h2.set 0 _,λi hi=>?_⟩;obtain ⟨bb,off,e,hne,d0,d1,d2⟩:=h3 (i+n) (by rw [List.length_append];omega);have hg:(a++r)[i+n]'(by rw [List.length_append];omega)=r[i]:=by
  rw [List.getElem_append_right (by omega)];congr 1
  omega
 rw [hg] at d0 d1 d2;refine ⟨bb,off+n * 3,?_,hne,?_,?_,?_⟩
 ·rw [hav (by omega),e];show some ((⟨bb,off,none⟩:Addr).add (n * 3))=_
  rw [Addr.add_mid]
 ·rw [World.cell?_setCell_far _ _ _ _ (by simp;omega),show off+n * 3+i * 3=off+(i+n) * 3 by omega];exact d0
 ·rw [World.cell?_setCell_far _ _ _ _ (by simp;omega),show off+n * 3+i * 3+1=off+(i+n) * 3+1 by omega];exact d1
 ·rw [World.cell?_setCell_far _ _ _ _ (by simp;omega),show off+n * 3+i * 3+2=off+(i+n) * 3+2 by omega];exact d2
theorem zBB (n:Nat) (kp:Nat) (a r:List Wlx.TV) (en:Int) (w:World) (h:PSt w kp (a++r) en) (hn:a.length=n) (hn2:n<=2) (hts:(a++r).length<=1024):Calls prog 200 #[.pointer (some ⟨kp,0,none⟩),.int .i64 n] w λe w'=>e=.returned (.tuple #[])/\PSt w' kp r en/\w.grownBy w' (some kp):=by
 obtain ⟨av,cap,h1,h2,h3⟩:=h;obtain ⟨c0,c1,f0,f1⟩:=h2.two;have hl:(a++r).length=n+r.length:=by rw [List.length_append,hn]
 rw [hl] at h1 hts;simp only [hl] at c0;have e1:(0:Int)<=(n:Int):=by omega
 have e2:(n:Int)<=((n+r.length:Nat):Int):=by omega
 go_enter func200,ntmps200;go_wp2
 ·go_end0
  refine ⟨rfl,?_,zA0 _ _ _ _⟩;have q:=PSt.moved (av':=av) hn h1 h2 h3 (λq=>by omega);rw [show cap - n=0 by omega] at q;exact q
 ·go_end0
  exact ⟨rfl,PSt.moved hn h1 h2 h3 (λh=>rfl),zA0 _ _ _ _⟩
def pos (ts:List Wlx.TV) (en:Int):Int:=(hd ts en).p
def zB2 (c p:Int):Ending:=.panicked [{v:=.iface 174 (.agg #[.int .i64 c,.int .i64 p]),recovered:=false}]
theorem zPi (k:Int) (x:ByteArray) (p:Int) (w:World):(Instr.field 219 (.agg #[.int .i64 k,.string x,.int .i64 p]) 2).run prog w=.ok (.int .i64 p) w:=by kernel_rfl
theorem zG3 (k:Int) (x:ByteArray) (p:Int) (w:World):(Instr.field 219 (.agg #[.int .i64 k,.string x,.int .i64 p]) 0).run prog w=.ok (.int .i64 k) w:=by kernel_rfl
theorem zHV (k:Int) (x:ByteArray) (p:Int) (w:World):(Instr.field 219 (.agg #[.int .i64 k,.string x,.int .i64 p]) 1).run prog w=.ok (.string x) w:=by kernel_rfl
theorem zDl (kp:Nat) (ts:List Wlx.TV) (en c:Int) (w:World) (h:PSt w kp ts en):Calls prog 156 #[.pointer (some ⟨kp,0,none⟩),.int .i64 c] w λe w'=>e=zB2 c (pos ts en)/\Below w.heap.size w w':=by
 have N:=zBH kp ts en w h;unfold pos;generalize hd ts en=t at *;obtain ⟨k,x,p⟩:=t;unfold tkV at N;simp only at N ⊢;have hfl:=zPi;go_enter func156,ntmps156;go_wp2_with fail
 refine N.mono ?_;rintro e w1 ⟨rfl,hb⟩;go_wp2;exact ⟨rfl,rfl,hb⟩
theorem zA3 (kp:Nat) (w:World):Calls prog 129 #[.pointer (some ⟨kp,0,none⟩),.bool true] w λe w'=>e=.returned (.tuple #[])/\w=w':=by
 go_enter func129,ntmps129;go_wp2;go_end0
 exact ⟨rfl,rfl⟩
theorem zAe (kp:Nat) (ts:List Wlx.TV) (en:Int) (w:World) (h:PSt w kp ts en):Calls prog 129 #[.pointer (some ⟨kp,0,none⟩),.bool false] w λe w'=>e=zB2 50 (pos ts en)/\Below w.heap.size w w':=by
 have N:=zDl kp ts en 50 w h;unfold zB2 at N ⊢;go_enter func129,ntmps129;go_wp2_with fail
 refine N.mono ?_;rintro e w1 ⟨rfl,hb⟩;go_wp2;exact ⟨rfl,rfl,hb⟩
def tk (ts:List Wlx.TV) (m:List UInt8):Option (List Wlx.TV):=match ts with
 | []=>none
 | t::r=>if zIE t m then some r else none
theorem zAk (kp:Nat) (ts:List Wlx.TV) (en:Int) (m:List UInt8) (w:World) (h:PSt w kp ts en) (hts:ts.length<=1024):Calls prog 250 #[.pointer (some ⟨kp,0,none⟩),.string ⟨m.toArray⟩] w λe w' =>
  match tk ts m with
  | some r=>e=.returned (.bool true)/\PSt w' kp r en/\w.grownBy w' (some kp)
  | none=>e=.returned (.bool false)/\PSt w' kp ts en/\w.grownBy w' (some kp):=by
 have N:=zBH kp ts en w h;have M:=λw=>zBd (hd ts en) m w
 cases ts with
 | nil =>
  have e0:zIE (hd [] en) m=false:=rfl;rw [e0] at M;generalize hd [] en=t at *;simp only [tk];go_enter func250,ntmps250;go_wp2_with fail
  refine N.mono ?_;rintro e w1 ⟨rfl,hb1⟩;go_wp2_with fail
  refine (M _).mono ?_;rintro e w2 ⟨rfl,hb2⟩;have hb:=zAA hb1 hb2;go_wp2;go_ret;exact ⟨rfl,h.below hb,zAE hb _⟩
 | cons t r =>
  have e0:hd (t::r) en=t:=rfl;rw [e0] at M N;simp only [tk];cases hq:zIE t m with
  | false =>
   rw [hq] at M;rw [if_neg (by decide)];go_enter func250,ntmps250;go_wp2_with fail
   refine N.mono ?_;rintro e w1 ⟨rfl,hb1⟩;go_wp2_with fail
   refine (M _).mono ?_;rintro e w2 ⟨rfl,hb2⟩;have hb:=zAA hb1 hb2;go_wp2;go_ret;exact ⟨rfl,h.below hb,zAE hb _⟩
  | true =>
   rw [hq] at M;rw [if_pos rfl];go_enter func250,ntmps250;go_wp2_with fail
   refine N.mono ?_;rintro e w1 ⟨rfl,hb1⟩;go_wp2_with fail
   refine (M _).mono ?_;rintro e w2 ⟨rfl,hb2⟩;have hb:=zAA hb1 hb2;have P:=zBB 1 kp [t] r en w2 (h.below hb) rfl (by decide) hts;go_wp2_with fail
   refine P.mono ?_;rintro e w3 ⟨rfl,hp,hg⟩;go_wp2;go_ret;exact ⟨rfl,hp,zAD (zAE hb _) hg⟩
