/- LQuo, LSize, LRep, LPlainB, LSaid, LScan, LText, TState. -/
import Derived.Test.YtdghjlmnlodnlaaGreatDoorQ07
import Derived.Shelf.Strings.Replace
import Derived.Shelf.LaysM
import Derived.Ground.NamesProg
import Derived.Laws.OwnMore
import Derived.WalkSmall
import Derived.Shelf.Strings.BuilderK
import Derived.Laws.AppendOwn
import Derived.Laws.Slices
set_option maxHeartbeats 1600000
set_option maxRecDepth 100000
set_option linter.unusedVariables false
namespace Go.Proofs.YtdghjlmnlodnlaaGreatDoor
open Tryz
open Go.RowKit
variable {old new l:List UInt8} {w:World}
theorem zEY (b:ByteArray) (i:Nat) (h:i<b.size) (hc:128<=(b[i]).toNat):1<=(Utf8.decode b i).2/\i+(Utf8.decode b i).2<=b.size/\∀ j,i<=j->(hj:j<b.size)->j<i+(Utf8.decode b i).2->128<=(b[j]).toNat:=by
 have g:∀ k (hk:i+k<b.size),(b.get! (i+k))=b[i+k]:=by
  intro k hk;simp [ByteArray.get!,getElem!_pos,hk];rfl
 have g0:=g 0 h;have hn:¬ (b[i+0]).toNat<128:=by simpa using hc
 have one:i+1<=b.size/\∀ j,i<=j->(hj:j<b.size)->j<i+1->128<=(b[j]).toNat:=⟨h,λj h1 h2 h3=>by
  obtain rfl:j=i:=by omega
  exact hc⟩
 have two:∀ k,(decide (i+k<b.size) && (b.get! (i+k)).toNat / 64 == 2)=true->∃ hk:i+k<b.size,128<=(b[i+k]).toNat:=by
  intro k hk;simp only [Bool.and_eq_true,decide_eq_true_eq,beq_iff_eq] at hk;obtain ⟨h1,h2⟩:=hk;rw [g k h1] at h2;exact ⟨h1,by omega⟩
 simp only [Utf8.decode,g0,hn,if_false];split
 ·rename_i c1
  simp only [Bool.and_eq_true] at c1;obtain ⟨k1,b1⟩:=two 1 (by simpa using c1.2);split
  ·refine ⟨by omega,by omega,λj h1 h2 h3=>?_⟩;have:j=i \/ j=i+1:=by omega
   rcases this with rfl | rfl
   ·exact hc
   ·exact b1
  ·exact ⟨by omega,one⟩
 ·split
  ·rename_i c1
   simp only [Bool.and_eq_true] at c1;obtain ⟨k1,b1⟩:=two 1 (by simpa using c1.1.2);obtain ⟨k2,b2⟩:=two 2 (by simpa using c1.2);split
   ·refine ⟨by omega,by omega,λj h1 h2 h3=>?_⟩;have:j=i \/ j=i+1 \/ j=i+2:=by omega
    rcases this with rfl | rfl | rfl
    ·exact hc
    ·exact b1
    ·exact b2
   ·exact ⟨by omega,one⟩
  ·split
   ·rename_i c1
    simp only [Bool.and_eq_true] at c1;obtain ⟨k1,b1⟩:=two 1 (by simpa using c1.1.1.2);obtain ⟨k2,b2⟩:=two 2 (by simpa using c1.1.2);obtain ⟨k3,b3⟩:=two 3 (by simpa using c1.2);split
    ·refine ⟨by omega,by omega,λj h1 h2 h3=>?_⟩;have:j=i \/ j=i+1 \/ j=i+2 \/ j=i+3:=by omega
     rcases this with rfl | rfl | rfl | rfl
     ·exact hc
     ·exact b1
     ·exact b2
     ·exact b3
    ·exact ⟨by omega,one⟩
   ·exact ⟨by omega,one⟩
theorem zMd (b:ByteArray) (i:Nat):∀ n,i+n<=b.size->(∀ j,i<=j->(hj:j<b.size)->j<i+n->¬ b[j]=34)->Wlx.quo true i (b.data.toList.drop i)=Wlx.quo true (i+n) (b.data.toList.drop (i+n)):=by
 intro n;induction n with
 | zero=>intro _ _;rfl
 | succ n ih =>
  intro h1 h2;rw [ih (by omega) (λj a b c=>h2 j a b (by omega)),zA7 b (i+n) (by omega),quo_in (h2 (i+n) (by omega) (by omega) (by omega))];rfl
theorem zFT (b:ByteArray) (w:World) (hs:b.size<=9223372036854775806):CR 81 #[.string b] w (.int .i64 (Wlx.txtSz b.data.toList:Nat)):=by
 have HP:=zBP b ⟨#[34]⟩ w (by omega);rw [zCv] at HP;cases hl:b.data.toList with
 | nil =>
  simp only [hl] at HP;go_enter func81,ntmps81;go_wp2_with fail
  refine HP.mono ?_;rintro e w1 ⟨rfl,rfl⟩;go_wp2;go_ret;exact ⟨rfl,Below.refl _ _⟩
 | cons c t =>
  simp only [hl] at HP;by_cases hc:c=34
  ·subst hc;have E0:Hid (Wlx.txtSz (34::t)=Wlx.quo false 0 (b.data.toList)):=by
    show _=_;rw [hl,quo_hit];rfl
   obtain ⟨R,hR⟩:∃ R,Wlx.txtSz (34::t)=R:=⟨_,rfl⟩
   rw [hR] at E0 ⊢;clear hl hR;go_enter func81,ntmps81;go_wp2_with fail
   refine HP.mono ?_;rintro e w1 ⟨rfl,rfl⟩;go_wp2_with fail
   go_loopw [3] (λx wr=>∃ (q:Bool) (pos:Nat),x=.bool q/\pos<=b.size/\wr.heap[w.heap.size]? = some (.stringIter b pos)/\Hid (R=Wlx.quo q pos (b.data.toList.drop pos))/\Below w.heap.size w wr) (λ_ wr=>b.size - wr.iterPos w.heap.size)
   case atStart=>exact ⟨false,0,rfl,Nat.zero_le _,World.iter_heap w b 0,E0,(Below.refl _ w).alloc (Nat.le_refl _) _⟩
   case round =>
    obtain ⟨q,pos,rfl,hp,hit,HR,hb⟩:=hrel;by_cases hlt:pos<b.size
    ·have nx:=λty=>Lib.run_next_any_at (P:=prog) wr w.heap.size b pos ty hit hlt
     have hk2:=λq=>Lib.iterAt_heap wr w.heap.size b pos q hit
     have hb2:=λq=>Lib.below_iterAt hb (Nat.le_refl w.heap.size) b q
     have hm:wr.iterPos w.heap.size=pos:=by simp [World.iterPos,hit]
     obtain ⟨rv,hrv⟩:∃ rv:Nat,(Utf8.decode b pos).1=rv:=⟨_,rfl⟩
     obtain ⟨n,hn⟩:∃ n:Nat,(Utf8.decode b pos).2=n:=⟨_,rfl⟩
     have hm2:(wr.iterAt w.heap.size b (pos+n)).iterPos w.heap.size=pos+n:=by simp [World.iterPos,hk2]
     have facts:1<=n/\pos+n<=b.size/\(((rv:Int) == 34)=true->b[pos]=34/\n=1)/\(((rv:Int) == 34)=false->∀ j,pos<=j->(hj:j<b.size)->j<pos+n->¬ b[j]=34):=by
      rcases zD9 b pos hlt with ⟨h1,e⟩ | ⟨h1,e⟩
      ·rw [e] at hrv hn;simp only at hrv hn;subst hn hrv;refine ⟨Nat.le_refl _,hlt,λh=>⟨UInt8.toNat_inj.1 (by have:=beq_iff_eq.1 h;show _=34;omega),rfl⟩,λh j a1 a2 a3=>?_⟩;obtain rfl:j=pos:=by omega
       intro h2;rw [h2] at h;exact absurd h (by decide)
      ·obtain ⟨w1,w2,w3⟩:=zEY b pos hlt h1;rw [hn] at w1 w2 w3;rw [hrv] at e;refine ⟨w1,w2,λh=>by have:=beq_iff_eq.1 h;omega,λh j a1 a2 a3 h2=>?_⟩;have:=w3 j a1 a2 a3;rw [h2] at this;exact absurd this (by decide)
     obtain ⟨f1,f2,f3,f4⟩:=facts;rw [hrv,hn] at nx;have hi:=hk2 (pos+n);have hbb:=hb2 (pos+n);clear hk2 hb2 hrv hn;cases h34:((rv:Int) == 34) with
     | true =>
      obtain ⟨e34,rfl⟩:=f3 h34;have E:Hid (R=Wlx.quo (!q) (pos+1) (b.data.toList.drop (pos+1))):=by
       show _=_;rw [HR.out,zA7 b pos hlt,e34,quo_hit]
      clear HR f3 f4 e34;go_wp2_with fail
      go_roundw
      case rel=>exact ⟨!q,pos+1,rfl,f2,hi,E,hbb⟩
      case measure=>rw [hm,hm2];omega
     | false =>
      cases q with
      | true =>
       have E:Hid (R=Wlx.quo true (pos+n) (b.data.toList.drop (pos+n))):=by
        show _=_;rw [HR.out,zMd b pos n f2 (f4 h34)]
       clear HR f3 f4;go_wp2_with fail
       go_roundw
       case rel=>exact ⟨true,pos+n,rfl,f2,hi,E,hbb⟩
       case measure=>rw [hm,hm2];omega
      | false =>
       have E:Hid (R=pos):=by
        show _=_;rw [HR.out,zA7 b pos hlt,quo_out (f4 h34 pos (Nat.le_refl _) hlt (by omega))]
       clear HR f3 f4;go_wp2;go_ret;exact ⟨by rw [E.out];rfl,hbb⟩
    ·have nx:=λty=>Lib.run_next_end_at (P:=prog) wr w.heap.size b pos ty hit hlt
     obtain rfl:pos=b.size:=by omega
     have E:Hid (R=if q then 0 else b.size):=by
      show _=_
      rw [HR.out,zAk b _ hlt];rfl
     clear HR;cases q with
     | true =>
      have E2:Hid (R=0):=by show _=_;rw [E.out];rfl
      clear E;go_wp2;go_ret;exact ⟨by rw [E2.out];rfl,hb⟩
     | false =>
      have E2:Hid (R=b.size):=by show _=_;rw [E.out];rfl
      clear E;go_wp2;go_ret;exact ⟨by rw [E2.out];rfl,hb⟩
  ·have hc':¬ (34:UInt8)=c:=λe=>hc e.symm
   rw [decide_eq_false hc'] at HP;have E:Hid (Wlx.txtSz (c::t)=0):=by show (if c=34 then _ else 0)=0;rw [if_neg hc]
   clear hl hc hc';go_enter func81,ntmps81;go_wp2_with fail
   refine HP.mono ?_;rintro e w1 ⟨rfl,rfl⟩;go_wp2;go_ret;exact ⟨by rw [E.out];rfl,Below.refl _ _⟩
def zKs (ns:List (List UInt8)):List Value:=ns.map λn=>.string ⟨n.toArray⟩
theorem zDG (b:ByteArray) (ns:List (List UInt8)) (n:Nat) (w W:World) (t:TypeId) (o:Obj) (hW:W=w.alloc o) (ho:o=.cells (zKs ns).toArray t) (hs:b.size<=9223372036854775807) (hn:n=ns.length) (hn2:ns.length<=100) (hns:∀ x ∈ ns,x.length<=100) :
  Calls prog 83 #[.string b,.slice (some ⟨w.heap.size,0,none⟩) n n] W λe w'=>e=.returned (.int .i64 (Wlx.nameSz b.data.toList ns:Nat))/\Below w.heap.size w w':=by
 subst hW ho;refine (zF0 b w.heap.size ns n _ hs hn hn2 hns (λi h=>?_)).mono ?_
 ·exact (AtL.new0 w t (zKs ns)).2.1 i _ (by unfold zKs;simp [h])
 ·rintro e w1 ⟨rfl,rfl⟩;exact ⟨rfl,(Below.refl _ w).alloc (Nat.le_refl _) _⟩
theorem zG4 (k:Nat) (b:ByteArray) (w:World) (hs:b.size<=9223372036854775806) (hk:1<=k) (hk2:k<=5):CR 50 #[.int .i64 k,.string b] w (.int .i64 (Wlx.sz k b.data.toList:Nat)):=by
 have:k=1 \/ k=2 \/ k=3 \/ k=4 \/ k=5:=by omega
 rcases this with rfl | rfl | rfl | rfl | rfl
 ·go_enter func50,ntmps50;go_wp2_with fail
  refine (zEC _ _ hs).mono ?_;rintro e w1 ⟨rfl,hb⟩;go_wp2;go_ret;exact ⟨rfl,hb⟩
 ·go_enter func50,ntmps50;go_wp2_with fail
  refine (zFT _ _ hs).mono ?_;rintro e w1 ⟨rfl,hb⟩;go_wp2;go_ret;exact ⟨rfl,hb⟩
 ·go_enter func50,ntmps50;go_wp2_with fail
  refine (zLl _ _ (by omega)).mono ?_;rintro e w1 ⟨rfl,hb⟩;go_wp2;go_ret;exact ⟨rfl,hb⟩
 ·go_enter func50,ntmps50;go_wp2_with fail
  refine (zDG _ Wlx.faults 8 _ _ 9 _ rfl rfl (by omega) rfl (by decide) (by decide)).mono ?_;rintro e w1 ⟨rfl,hb⟩;go_wp2;go_ret;exact ⟨rfl,hb⟩
 ·go_enter func50,ntmps50;go_wp2_with fail
  refine (zDG _ Wlx.marks 18 _ _ 9 _ rfl rfl (by omega) rfl (by decide) (by decide)).mono ?_;rintro e w1 ⟨rfl,hb⟩;go_wp2;go_ret;exact ⟨rfl,hb⟩
open Go.Shelf Go.RowKit
def lays155_ren:Go.Shelf.Ren:=⟨fun | 155=>84 | 154=>111 | 138=>136 | 165=>137 | 143=>138 | 166=>59 | 197=>139 | 169=>38 | 195=>154 | 218=>155 | 240=>89 | 241=>156 | 219=>157 | 260=>158 | 276=>119 | 277=>172 | 217=>173 | 225=>174 | 224=>175 | 267=>176 | 266=>191 | 314=>192 | n=>n,fun | 9=>9 | 3=>3 | 4=>4 | 72=>84 | 0=>0 | 76=>115 | 105=>175 | 21=>21 | 5=>5 | 70=>81 | 20=>20 | 37=>82 | 75=>114 | 127=>117 | 164=>163 | 46=>195 | 119=>196 | 139=>199 | 138=>198 | 146=>206 | 51=>205 | 80=>88 | n=>n,fun | 1=>2 | 3=>3 | 4=>4 | n=>n⟩
theorem lays155:Go.Proofs.LaysM.n155 prog lays155_ren:={
 mixed:=by kernel_rfl
 f138:=func136.trans (congrArg some (by kernel_rfl))
 f143:=func138.trans (congrArg some (by kernel_rfl))
 f154:=func111.trans (congrArg some (by kernel_rfl))
 f155:=func84.trans (congrArg some (by kernel_rfl))
 f165:=func137.trans (congrArg some (by kernel_rfl))
 f166:=func59.trans (congrArg some (by kernel_rfl))
 f169:=func38.trans (congrArg some (by kernel_rfl))
 f195:=func154.trans (congrArg some (by kernel_rfl))
 f197:=func139.trans (congrArg some (by kernel_rfl))
 f217:=func173.trans (congrArg some (by kernel_rfl))
 f218:=func155.trans (congrArg some (by kernel_rfl))
 f219:=func157.trans (congrArg some (by kernel_rfl))
 f224:=func175.trans (congrArg some (by kernel_rfl))
 f225:=func174.trans (congrArg some (by kernel_rfl))
 f240:=func89.trans (congrArg some (by kernel_rfl))
 f241:=func156.trans (congrArg some (by kernel_rfl))
 f260:=func158.trans (congrArg some (by kernel_rfl))
 f266:=func191.trans (congrArg some (by kernel_rfl))
 f267:=func176.trans (congrArg some (by kernel_rfl))
 f276:=func119.trans (congrArg some (by kernel_rfl))
 f277:=func172.trans (congrArg some (by kernel_rfl))
 f314:=func192.trans (congrArg some (by kernel_rfl))
 t0:=underlying0
 a0:=Tryz.isAgg0
 z0:=Tryz.sizeOf0
 v0:=Tryz.zeroValue0
 t3:=underlying3
 a3:=Tryz.isAgg3
 z3:=Tryz.sizeOf3
 v3:=Tryz.zeroValue3
 t4:=underlying4
 a4:=Tryz.isAgg4
 z4:=Tryz.sizeOf4
 v4:=Tryz.zeroValue4
 t5:=underlying5
 a5:=Tryz.isAgg5
 z5:=Tryz.sizeOf5
 v5:=Tryz.zeroValue5
 t9:=underlying9
 a9:=Tryz.isAgg9
 z9:=Tryz.sizeOf9
 v9:=Tryz.zeroValue9
 t20:=underlying20
 a20:=Tryz.isAgg20
 z20:=Tryz.sizeOf20
 v20:=Tryz.zeroValue20
 t21:=underlying21
 a21:=Tryz.isAgg21
 z21:=Tryz.sizeOf21
 v21:=Tryz.zeroValue21
 t37:=underlying82
 a37:=Tryz.isAgg82
 z37:=Tryz.sizeOf82
 v37:=Tryz.zeroValue82
 t46:=underlying195
 a46:=Tryz.isAgg195
 z46:=Tryz.sizeOf195
 v46:=Tryz.zeroValue195
 t51:=underlying205
 a51:=Tryz.isAgg205
 z51:=Tryz.sizeOf205
 v51:=Tryz.zeroValue205
 t70:=underlying81
 a70:=Tryz.isAgg81
 z70:=Tryz.sizeOf81
 v70:=Tryz.zeroValue81
 t72:=underlying84
 a72:=Tryz.isAgg84
 z72:=Tryz.sizeOf84
 v72:=Tryz.zeroValue84
 t75:=underlying114
 a75:=Tryz.isAgg114
 z75:=Tryz.sizeOf114
 v75:=Tryz.zeroValue114
 t76:=underlying115
 a76:=Tryz.isAgg115
 z76:=Tryz.sizeOf115
 v76:=Tryz.zeroValue115
 t105:=underlying175
 a105:=Tryz.isAgg175
 z105:=Tryz.sizeOf175
 v105:=Tryz.zeroValue175
 t119:=underlying196
 a119:=Tryz.isAgg196
 z119:=Tryz.sizeOf196
 t127:=underlying117
 a127:=Tryz.isAgg117
 z127:=Tryz.sizeOf117
 v127:=Tryz.zeroValue117
 t138:=underlying198
 a138:=Tryz.isAgg198
 z138:=Tryz.sizeOf198
 v138:=Tryz.zeroValue198
 t139:=underlying199
 a139:=Tryz.isAgg199
 z139:=Tryz.sizeOf199
 v139:=Tryz.zeroValue199
 t146:=underlying206
 a146:=Tryz.isAgg206
 z146:=Tryz.sizeOf206
 v146:=Tryz.zeroValue206
 t164:=underlying163
 a164:=Tryz.isAgg163
 z164:=Tryz.sizeOf163
 v164:=Tryz.zeroValue163
 g1:=by kernel_rfl
 g3:=by kernel_rfl
 g4:=by kernel_rfl
 t80:=underlying88
 a80:=Tryz.isAgg88
 z80:=Tryz.sizeOf88
 v80:=Tryz.zeroValue88
 i0:=by kernel_rfl
 i3:=by kernel_rfl
 i4:=by kernel_rfl
 i5:=by kernel_rfl
 i9:=by kernel_rfl
 i20:=by kernel_rfl
 i21:=by kernel_rfl
 i37:=by kernel_rfl
 i46:=by kernel_rfl
 i51:=by kernel_rfl
 i70:=by kernel_rfl
 i72:=by kernel_rfl
 i75:=by kernel_rfl
 i76:=by kernel_rfl
 i80:=by kernel_rfl
 i105:=by kernel_rfl
 i127:=by kernel_rfl
 i138:=by kernel_rfl
 i139:=by kernel_rfl
 i146:=by kernel_rfl
 i164:=by kernel_rfl
 m1:=by kernel_rfl
 s1_3:=λw h=>Go.Proofs.cell_of_shapedOpen_int (zero:=#[.int .i64 0]) (t:=3) h (of_decide_eq_true (by kernel_rfl)) (by kernel_rfl) rfl (by kernel_rfl) (by kernel_rfl) underlying3
 m3:=by kernel_rfl
 m4:=by kernel_rfl}
theorem zCi:Builder.Extra prog lays155_ren:={
 sizeBuilder:=by kernel_rfl
 liesBuilder:=by kernel_rfl
 t5:=underlying5
 a5:=Tryz.isAgg5
 z5:=Tryz.sizeOf5
 v5:=Tryz.zeroValue5
 infoByte:=by kernel_rfl
 cellsByte:=by kernel_rfl
 sizeByte:=by kernel_rfl
 neB5:=by decide}
def MaxAt (w:World):Prop:=∃ m:Int,w.cell? ⟨lays155_ren.g 1,0,none⟩=some (.int .i64 m)
theorem MaxAt.below {w':World} (h:MaxAt w) (hb:Below w.heap.size w w'):MaxAt w':=by
 obtain ⟨m,hm⟩:=h;exact ⟨m,(hb.cell (p:=⟨lays155_ren.g 1,0,none⟩) (World.block_lt_of_cell? _ _ hm)).trans hm⟩
theorem MaxAt.shaped (h:w.ShapedOpen prog):MaxAt w:=lays155.s1_3 w h
def rep (old new l:List UInt8):List UInt8:=Lib.replaceK old new (Lib.count l old) l
theorem zGf (h0:old ≠ []) (h:old.isPrefixOf l=true):rep old new l=new++rep old new (l.drop old.length):=by
 have hi:Lib.index l old=((0:Nat):Int):=by
  cases l with
  | nil=>cases old with | nil=>exact absurd rfl h0 | cons a b=>simp at h
  | cons b t=>unfold Lib.index;rw [if_pos h];rfl
 have hc:=Lib.count_hit h0 hi;unfold rep;rw [hc,Nat.add_comm,Lib.replaceK_hit _ _ _ _ 0 hi,Nat.zero_add];rfl
theorem zDP {t:List UInt8} {c:UInt8} (h0:old ≠ []) (h:old.isPrefixOf (c::t)=false):rep old new (c::t)=c::rep old new t:=by
 have hi:Lib.index (c::t) old=if Lib.index t old == -1 then -1 else Lib.index t old+1:=by
  conv=>lhs;unfold Lib.index
  rw [if_neg (by rw [h];decide)]
 unfold rep;by_cases hm:Lib.index t old = -1
 ·rw [hm,if_pos (by decide)] at hi;rw [Lib.count_miss hi,Lib.count_miss hm];rfl
 ·have hge:=Lib.index_ge t old;obtain ⟨i,hii⟩:∃ i:Nat,Lib.index t old=i:=⟨(Lib.index t old).toNat,by omega⟩
  rw [hii,if_neg (by first | (simp;done) | (simp;omega))] at hi;have hi2:Lib.index (c::t) old=((i+1:Nat):Int):=by rw [hi];omega
  have e1:=Lib.count_hit h0 hi2;have e2:=Lib.count_hit h0 hii;have e3:(c::t).drop (i+1+old.length)=t.drop (i+old.length):=by rw [show i+1+old.length=(i+old.length)+1 by omega];rfl
  rw [e3] at e1;rw [e1,e2,Nat.add_comm,Lib.replaceK_hit _ _ _ _ (i+1) hi2,Lib.replaceK_hit _ _ _ _ i hii,e3];rfl
theorem zDv (h0:old ≠ []):rep old new []=[]:=by
 unfold rep;rw [Lib.count_miss (by cases old with | nil=>exact absurd rfl h0 | cons a b=>rfl)];rfl
theorem zGI (h:(old == new)=false):Lib.replaceAll l old new=rep old new l:=by
 unfold Lib.replaceAll Lib.replace rep Lib.replaceNum;rw [if_neg (by rw [h];decide),if_pos (Or.inl (by decide))]
theorem zJI:∀ (n:Nat) (l:List UInt8),l.length<=n->rep [34,34] [34] l=Wlx.undbl l:=by
 intro n;induction n with
 | zero=>intro l hl;obtain rfl:=List.eq_nil_of_length_eq_zero (Nat.le_zero.1 hl);exact zDv (by decide)
 | succ n ih =>
  intro l hl;match l,hl with
  | [],_=>exact zDv (by decide)
  | [c],_=>rw [zDP (by decide) (by simp [List.isPrefixOf]),zDv (by decide)];rfl
  | c::d::t,hl =>
   simp only [List.length_cons] at hl;have e:Wlx.undbl (c::d::t)=if c=34/\d=34 then 34::Wlx.undbl t else c::Wlx.undbl (d::t):=by conv=>lhs;unfold Wlx.undbl
   rw [e];by_cases h:c=34/\d=34
   ·obtain ⟨rfl,rfl⟩:=h;rw [zGf (by decide) (by simp [List.isPrefixOf]),if_pos ⟨rfl,rfl⟩];show 34::rep [34,34] [34] t=_
    rw [ih t (by omega)]
   ·rw [zDP (by decide) (by simp [List.isPrefixOf];intro h1 h2;exact h ⟨h1.symm,h2.symm⟩),if_neg h,ih (d::t) (by simp only [List.length_cons];omega)]
theorem zOS (l:List UInt8):rep [34] [34,34] l=Wlx.dbl l:=by
 induction l with
 | nil=>exact zDv (by decide)
 | cons c t ih =>
  have e:Wlx.dbl (c::t)=if c=34 then 34::34::Wlx.dbl t else c::Wlx.dbl t:=rfl
  rw [e];by_cases h:c=34
  ·subst h;rw [zGf (by decide) (by simp [List.isPrefixOf]),if_pos rfl];show 34::34::rep [34] [34,34] t=_
   rw [ih]
  ·rw [zDP (by decide) (by simp [List.isPrefixOf];exact λe=>h e.symm),if_neg h,ih]
theorem zBi (s old:ByteArray) (h:1<=old.size):Lib.countB s old<=s.size:=by
 have:=Lib.countB_mul_le old h s.size s (Nat.le_refl _);have h2:Lib.countB s old * 1<=Lib.countB s old * old.size:=Nat.mul_le_mul_left _ h;omega
theorem zGg (b:ByteArray) (w:World) (hm:MaxAt w) (hs:b.size<=1048576):CR 84 #[.string b,.string ⟨#[34,34]⟩,.string ⟨#[34]⟩] w (.string ⟨(Wlx.undbl b.data.toList).toArray⟩):=by
 obtain ⟨m,hm⟩:=hm;have c:=zBi b ⟨#[34,34]⟩ (by decide);have h:=Any.strings_ReplaceAll {lays155 with} zCi b ⟨#[34,34]⟩ ⟨#[34]⟩ m w (by omega) hm (by decide) (by show b.size+_ * 1<=_;omega);rw [zGI (by decide),zJI _ _ (Nat.le_refl _)] at h;exact h
theorem zGh (b:ByteArray) (w:World) (hm:MaxAt w) (hs:b.size<=1048576):CR 84 #[.string b,.string ⟨#[34]⟩,.string ⟨#[34,34]⟩] w (.string ⟨(Wlx.dbl b.data.toList).toArray⟩):=by
 obtain ⟨m,hm⟩:=hm;have c:=zBi b ⟨#[34]⟩ (by decide);have h:=Any.strings_ReplaceAll {lays155 with} zCi b ⟨#[34]⟩ ⟨#[34,34]⟩ m w (by omega) hm (by decide) (by show b.size+_ * 2<=_;omega);rw [zGI (by decide),zOS] at h;exact h
end Go.Proofs.YtdghjlmnlodnlaaGreatDoor
namespace Wlx
theorem begins_length:∀ (p l:List UInt8),begins p l=true->p.length<=l.length
 | [],_,_=>Nat.zero_le _
 | _::_,[],h=>by simp [begins] at h
 | a::p,b::t,h=>by
  simp only [begins,Bool.and_eq_true] at h;have:=begins_length p t h.2;simp only [List.length_cons];omega
theorem nameSz_le (l:List UInt8) (ns:List (List UInt8)):nameSz l ns<=l.length:=by
 induction ns with
 | nil=>exact Nat.zero_le _
 | cons n r ih =>
  unfold nameSz;split
  ·rename_i h;exact begins_length n l h
  ·exact ih
theorem zIb:∀ (l:List UInt8) (w:Bool) (i:Nat),quo w i l<=i+l.length
 | [],w,i=>by unfold quo;split <;> simp
 | c::t,w,i=>by
  unfold quo;split
  ·have:=zIb t (!w) (i+1);simp only [List.length_cons];omega
  ·split
   ·have:=zIb t w (i+1);simp only [List.length_cons];omega
   ·omega
theorem zMV (n:Nat) (l:List UInt8):numTl n l<=n+l.length:=by
 cases l with
 | nil=>exact Nat.le_refl _
 | cons c t =>
  rw [numTl_cons];have:=runP_le dig t;split <;> simp only [List.length_cons] <;> omega
theorem zLM (l:List UInt8):numSz l<=l.length:=by
 unfold numSz;split
 ·exact Nat.zero_le _
 ·have h1:=zMV (runP dig l) (l.drop (runP dig l));have h2:=runP_le dig l;rw [List.length_drop] at h1;omega
theorem zLa (l:List UInt8):txtSz l<=l.length:=by
 cases l with
 | nil=>exact Nat.zero_le _
 | cons c t =>
  show (if c=34 then quo true 1 t else 0)<=_
  split
  ·have:=zIb t true 1;simp only [List.length_cons];omega
  ·exact Nat.zero_le _
theorem sz_le (k:Nat) (l:List UInt8):sz k l<=l.length:=by
 unfold sz;split
 ·exact zLM l
 split
 ·exact zLa l
 split
 ·exact runP_le _ l
 split
 ·exact nameSz_le l _
 split
 ·exact nameSz_le l _
 exact Nat.zero_le _
def hit (l:List UInt8):Nat :=
 if 0<sz 1 l then 1 else if 0<sz 2 l then 2 else if 0<sz 3 l then 3 else if 0<sz 4 l then 4 else if 0<sz 5 l then 5 else 6
theorem hit_pos {l:List UInt8} (h:¬ hit l=6):0<sz (hit l) l:=by
 unfold hit at *;repeat' split
 all_goals first | assumption | (exfalso;apply h;simp_all)
theorem zK5 (l:List UInt8):1<=hit l:=by unfold hit;(repeat' split) <;> omega
theorem zHa (l:List UInt8):hit l<=6:=by unfold hit;(repeat' split) <;> omega
theorem hit_first {l:List UInt8} {k:Nat} (h0:1<=k) (h5:k<=5) (h:0<sz k l) (hb:∀ j,1<=j->j<k->sz j l=0):hit l=k:=by
 have:k=1 \/ k=2 \/ k=3 \/ k=4 \/ k=5:=by omega
 unfold hit;rcases this with rfl | rfl | rfl | rfl | rfl
 ·rw [if_pos h]
 ·rw [hb 1 (by omega) (by omega),if_neg (by omega),if_pos h]
 ·rw [hb 1 (by omega) (by omega),if_neg (by omega),hb 2 (by omega) (by omega),if_neg (by omega),if_pos h]
 ·rw [hb 1 (by omega) (by omega),if_neg (by omega),hb 2 (by omega) (by omega),if_neg (by omega),hb 3 (by omega) (by omega),if_neg (by omega),if_pos h]
 ·rw [hb 1 (by omega) (by omega),if_neg (by omega),hb 2 (by omega) (by omega),if_neg (by omega),hb 3 (by omega) (by omega),if_neg (by omega),hb 4 (by omega) (by omega),if_neg (by omega),if_pos h]
theorem hit_none {l:List UInt8} (hb:∀ j,1<=j->j<=5->sz j l=0):hit l=6:=by
 unfold hit;rw [hb 1 (by omega) (by omega),if_neg (by omega),hb 2 (by omega) (by omega),if_neg (by omega),hb 3 (by omega) (by omega),if_neg (by omega),hb 4 (by omega) (by omega),if_neg (by omega),hb 5 (by omega) (by omega),if_neg (by omega)]
structure Tok where
 k:Nat
 t:List UInt8
 p:Nat
abbrev Res:=Sum (List Tok) (Nat × Nat)
abbrev Res.ok (ts:List Tok):Res:=.inl ts
abbrev Res.err (e p:Nat):Res:=.inr (e,p)
def Res.cons (t:Tok):Res->Res
 | .inl ts=>.inl (t::ts)
 | .inr x=>.inr x
def Res.pre:List Tok->Res->Res
 | [],r=>r
 | t::a,r=>Res.cons t (Res.pre a r)
theorem Res.pre_snoc (a:List Tok) (t:Tok) (r:Res):Res.pre (a++[t]) r=Res.pre a (Res.cons t r):=by
 induction a with
 | nil=>rfl
 | cons x a ih=>exact congrArg (Res.cons x) ih
theorem Res.pre_ok (a b:List Tok):Res.pre a (Res.ok b)=Res.ok (a++b):=by
 induction a with
 | nil=>rfl
 | cons x a ih=>show Res.cons x _=_;rw [ih];rfl
theorem Res.pre_err (a:List Tok) (e p:Nat):Res.pre a (Res.err e p)=Res.err e p:=by
 induction a with
 | nil=>rfl
 | cons x a ih=>show Res.cons x _=_;rw [ih];rfl
def zEh:Nat->Nat->List UInt8->Res
 | 0,_,_=>Res.ok []
 | _+1,_,[]=>Res.ok []
 | f+1,p,c::t =>
  if c=32 then zEh f (p+1) t
  else if hit (c::t)=6 then Res.err (if c=34 then 41 else 40) p
  else if runP prt ((c::t).take (sz (hit (c::t)) (c::t)))<sz (hit (c::t)) (c::t) then Res.err 40 (p+runP prt ((c::t).take (sz (hit (c::t)) (c::t))))
  else Res.cons ⟨hit (c::t),said (hit (c::t)) ((c::t).take (sz (hit (c::t)) (c::t))),p⟩ (zEh f (p+sz (hit (c::t)) (c::t)) ((c::t).drop (sz (hit (c::t)) (c::t))))
theorem zCr (f p:Nat) (c:UInt8) (t:List UInt8):zEh (f+1) p (c::t)=if c=32 then zEh f (p+1) t
  else if hit (c::t)=6 then Res.err (if c=34 then 41 else 40) p
  else if runP prt ((c::t).take (sz (hit (c::t)) (c::t)))<sz (hit (c::t)) (c::t) then Res.err 40 (p+runP prt ((c::t).take (sz (hit (c::t)) (c::t))))
  else Res.cons ⟨hit (c::t),said (hit (c::t)) ((c::t).take (sz (hit (c::t)) (c::t))),p⟩ (zEh f (p+sz (hit (c::t)) (c::t)) ((c::t).drop (sz (hit (c::t)) (c::t)))):=rfl
theorem zC4 (f p:Nat):zEh f p []=Res.ok []:=by cases f <;> rfl
theorem zKF:∀ (f g p:Nat) (l:List UInt8),l.length<=f->l.length<=g->zEh f p l=zEh g p l:=by
 intro f;induction f with
 | zero =>
  intro g p l h1 h2;obtain rfl:=List.eq_nil_of_length_eq_zero (Nat.le_zero.1 h1);rw [zC4,zC4]
 | succ f ih =>
  intro g p l h1 h2;cases l with
  | nil=>rw [zC4,zC4]
  | cons c t =>
   simp only [List.length_cons] at h1 h2;obtain ⟨g,rfl⟩:∃ g',g=g'+1:=⟨g - 1,by omega⟩
   rw [zCr,zCr,ih g (p+1) t (by omega) (by omega)];by_cases h6:hit (c::t)=6
   ·rw [if_pos h6,if_pos h6]
   ·have:=hit_pos h6;have hl:((c::t).drop (sz (hit (c::t)) (c::t))).length<=t.length:=by
     rw [List.length_drop];simp only [List.length_cons];omega
    rw [ih g (p+sz (hit (c::t)) (c::t)) ((c::t).drop (sz (hit (c::t)) (c::t))) (by omega) (by omega)]
def scan (p:Nat) (l:List UInt8):Res:=zEh l.length p l
theorem scan_cons (p:Nat) (c:UInt8) (t:List UInt8):scan p (c::t)=if c=32 then scan (p+1) t
  else if hit (c::t)=6 then Res.err (if c=34 then 41 else 40) p
  else if runP prt ((c::t).take (sz (hit (c::t)) (c::t)))<sz (hit (c::t)) (c::t) then Res.err 40 (p+runP prt ((c::t).take (sz (hit (c::t)) (c::t))))
  else Res.cons ⟨hit (c::t),said (hit (c::t)) ((c::t).take (sz (hit (c::t)) (c::t))),p⟩ (scan (p+sz (hit (c::t)) (c::t)) ((c::t).drop (sz (hit (c::t)) (c::t)))):=by
 unfold scan;rw [List.length_cons,zCr];by_cases h6:hit (c::t)=6
 ·rw [if_pos h6,if_pos h6]
 ·have:=hit_pos h6;have hl:((c::t).drop (sz (hit (c::t)) (c::t))).length<=t.length:=by
   rw [List.length_drop];simp only [List.length_cons];omega
  rw [zKF t.length _ (p+sz (hit (c::t)) (c::t)) ((c::t).drop (sz (hit (c::t)) (c::t))) hl (Nat.le_refl _)]
theorem scan_nil (p:Nat):scan p []=Res.ok []:=rfl
theorem scan_blank (p:Nat) (t:List UInt8):scan p (32::t)=scan (p+1) t:=by
 rw [scan_cons,if_pos rfl]
theorem scan_none {p:Nat} {c:UInt8} {t:List UInt8} (h:¬ c=32) (h6:hit (c::t)=6):scan p (c::t)=Res.err (if c=34 then 41 else 40) p:=by
 rw [scan_cons,if_neg h,if_pos h6]
theorem scan_bad {p:Nat} {c:UInt8} {t:List UInt8} (h:¬ c=32) {k n:Nat} (hk:hit (c::t)=k) (h6:¬ k=6) (hn:sz k (c::t)=n) (hb:runP prt ((c::t).take n)<n):scan p (c::t)=Res.err 40 (p+runP prt ((c::t).take n)):=by
 subst hk hn;rw [scan_cons,if_neg h,if_neg h6,if_pos hb]
theorem scan_tok {p:Nat} {c:UInt8} {t:List UInt8} (h:¬ c=32) {k n:Nat} (hk:hit (c::t)=k) (h6:¬ k=6) (hn:sz k (c::t)=n) (hb:¬ runP prt ((c::t).take n)<n) :
  scan p (c::t)=Res.cons ⟨k,said k ((c::t).take n),p⟩ (scan (p+n) ((c::t).drop n)):=by
 subst hk hn;rw [scan_cons,if_neg h,if_neg h6,if_neg hb]
end Wlx
namespace Go.Proofs.YtdghjlmnlodnlaaGreatDoor
open Tryz
open Go.Shelf Go.RowKit
variable {w w':World}
theorem zKm (b:ByteArray) (w:World) (hm:MaxAt w) (h2:2<=b.size) (hs:b.size<=1048576):CR 53 #[.int .i64 2,.string b] w (.string ⟨(Wlx.said 2 b.data.toList).toArray⟩):=by
 have c1:(1:Int)<=(b.size:Int) - 1:=by omega
 have c2:(b.size:Int) - 1<=(b.size:Int):=by omega
 have E:Hid (Wlx.undbl (b.extract 1 (b.size - 1)).data.toList=Wlx.said 2 b.data.toList):=by
  show _=_
  rw [Lib.extract_data];have:b.data.toList.length=b.size:=rfl;unfold Wlx.said;rw [if_pos rfl,this,show b.size - 1 - 1=b.size - 2 by omega]
 have R:=λw hm=>zGg (b.extract 1 (b.size - 1)) w hm (by rw [ByteArray.size_extract];omega)
 rw [E.out] at R;clear E;generalize Wlx.said 2 b.data.toList=q at *;have e1:((b.size:Int) - 1).toNat=b.size - 1:=by omega
 go_enter func53,ntmps53;go_wp2_with fail
 refine (R _ hm).mono ?_;rintro e w1 ⟨rfl,hb⟩;go_wp2;go_ret;exact ⟨rfl,hb⟩
theorem zIU (k:Nat) (b:ByteArray) (w:World) (h:¬ k=2):CR 53 #[.int .i64 k,.string b] w (.string ⟨(Wlx.said k b.data.toList).toArray⟩):=by
 have hk:((k:Int) != 2)=true:=by simp;omega
 have E:Hid ((⟨(Wlx.said k b.data.toList).toArray⟩:ByteArray)=b):=by
  show _=_;unfold Wlx.said;rw [if_neg h]
 clear h;rw [E.out];go_enter func53,ntmps53;go_wp2;go_ret;exact ⟨rfl,Below.refl _ _⟩
theorem zMZ (k:Nat) (b:ByteArray) (w:World) (hm:MaxAt w) (h2:k=2->2<=b.size) (hs:b.size<=1048576):CR 53 #[.int .i64 k,.string b] w (.string ⟨(Wlx.said k b.data.toList).toArray⟩):=by
 by_cases h:k=2
 ·subst h;exact zKm b w hm (h2 rfl) hs
 ·exact zIU k b w h
theorem zGZ (b:ByteArray) (w:World) (hs:b.size<=9223372036854775807):Calls prog 54 #[.string b] w λe w'=>e=.returned (.int .i64 (if Wlx.begins [34] b.data.toList then 41 else 40))/\w=w':=by
 have HP:=zBP b ⟨#[34]⟩ w hs;have e0:(⟨#[34]⟩:ByteArray).data.toList=[34]:=rfl;rw [e0] at HP;cases hb:Wlx.begins [34] b.data.toList with
 | true =>
  rw [hb] at HP;clear hb;go_enter func54,ntmps54;go_wp2_with fail
  refine HP.mono ?_;rintro e w1 ⟨rfl,rfl⟩;go_wp2;go_ret;exact ⟨rfl,rfl⟩
 | false =>
  rw [hb] at HP;clear hb;go_enter func54,ntmps54;go_wp2_with fail
  refine HP.mono ?_;rintro e w1 ⟨rfl,rfl⟩;go_wp2;go_ret;exact ⟨rfl,rfl⟩
def zRd (t:Wlx.Tok):List Value:=[.int .i64 t.k,.string ⟨t.t.toArray⟩,.int .i64 t.p]
def zNB (ts:List Wlx.Tok):List Value:=ts.flatMap zRd
theorem zF6 (ts:List Wlx.Tok) (t:Wlx.Tok):zNB (ts++[t])=zNB ts++zRd t:=by simp [zNB]
theorem zKH:(prog.info? 107).map (λi=>(i.zero,i.size,i.bytes))=some (some (.agg #[.int .i64 0,.string ⟨#[]⟩,.int .i64 0]),3,32):=by kernel_rfl
abbrev zEE (w:World) (base:Nat) (v:Value) (ts:List Wlx.Tok):Prop:=w.ownsRow base 107 3 v ts.length (zNB ts)
theorem zFR {B:Nat} {v:Value} {ts:List Wlx.Tok} (h:zEE w B v ts) (hb:Below w.heap.size w w'):zEE w' B v ts :=
 h.kept (row:=none) ⟨hb.os,hb.tape,hb.output,hb.size,λk hk _=>hb.block k hk⟩ (by cases v.ownBlock <;> simp)
def zAX (l:List UInt8):Wlx.Res:=if 1024<l.length then Wlx.Res.err 2 0 else Wlx.scan 0 l
def zDM (B:Nat) (r:Wlx.Res) (e:Ending) (w:World):Prop :=
 match r with
 | .inl ts=>∃ v,e=.returned (.tuple #[v,.int .i64 0,.int .i64 0])/\zEE w B v ts
 | .inr (c,p)=>e=.returned (.tuple #[.slice none 0 0,.int .i64 c,.int .i64 p])
theorem zIZ {row:Option Nat} (hg:w.grownBy w' row) {k:Nat} {s:ByteArray} {pos:Nat} (hk:w.heap[k]? = some (.stringIter s pos)) (hne:some k ≠ row):w'.heap[k]? = some (.stringIter s pos):=by
 rw [hg.block k (Array.getElem?_eq_some_iff.1 hk).1 hne];exact hk
theorem zHn (hb:Below w.heap.size w w') {k:Nat} {s:ByteArray} {pos:Nat} (hk:w.heap[k]? = some (.stringIter s pos)):w'.heap[k]? = some (.stringIter s pos):=by
 rw [hb.block k (Array.getElem?_eq_some_iff.1 hk).1];exact hk
theorem zJ4 {c:UInt8} (h:Wlx.prt c=true):c.toNat<128:=by
 unfold Wlx.prt at h;simp at h;omega
theorem zHU {p:UInt8->Bool}:∀ (l:List UInt8),¬ Wlx.runP p l<l.length->∀ x ∈ l,p x=true
 | [],_,x,hx=>by cases hx
 | c::t,h,x,hx=>by
  cases hc:p c with
  | false=>rw [Wlx.runP_neg hc] at h;simp at h
  | true =>
   rw [Wlx.runP_pos hc] at h;simp only [List.length_cons] at h;rcases List.mem_cons.1 hx with rfl | hx
   ·exact hc
   ·exact zHU t (by omega) x hx
end Go.Proofs.YtdghjlmnlodnlaaGreatDoor
namespace Wlx
theorem dbl_app (a b:List UInt8):dbl (a++b)=dbl a++dbl b:=by
 induction a with
 | nil=>rfl
 | cons c t ih =>
  show (if c=34 then 34::34::dbl (t++b) else c::dbl (t++b))=(if c=34 then 34::34::dbl t else c::dbl t)++dbl b
  rw [ih];split <;> rfl
structure TV where
 k:Int
 t:List UInt8
 p:Int
def tv (t:Tok):TV:=⟨t.k,t.t,t.p⟩
def wv (t:TV):List UInt8:=if t.k=2 then 34::(dbl t.t++[34]) else t.t
def joinF:Bool->List TV->List UInt8
 | _,[]=>[]
 | f,t::r=>(if f then [] else [32])++wv t++joinF false r
def textV (ts:List TV):List UInt8:=joinF true ts
def wgt (ts:List TV):Nat:=(ts.map λt=>t.t.length+1).sum
end Wlx
namespace Go.Proofs.YtdghjlmnlodnlaaGreatDoor
open Tryz
open Go.Shelf Go.RowKit
variable {w w':World}
def zPH (w:World) (v:Value) (ts:List Wlx.TV):Prop :=
 ∃ (av:Option Addr) (cap:Nat),v=.slice av ts.length cap/\∀ i (h:i<ts.length),∃ bb off,av=some ⟨bb,off,none⟩/\bb<w.heap.size /\
  w.cell? ⟨bb,off+i * 3,none⟩=some (.int .i64 (ts[i]).k)/\w.cell? ⟨bb,off+i * 3+1,none⟩=some (.string ⟨(ts[i]).t.toArray⟩)/\w.cell? ⟨bb,off+i * 3+2,none⟩=some (.int .i64 (ts[i]).p)
theorem zDV {T e:TypeId} {B b:Nat} {bs:List Value} (h:Lib.IsBuilderF T e B b bs w) (hb:Below w.heap.size w w'):Lib.IsBuilderF T e B b bs w':=by
 have g:∀ p,Lib.BuilderAtF T e B b p bs w->Lib.BuilderAtF T e B b p bs w':=by
  rintro p ⟨h1,v,h2,⟨h3,h4⟩,h5⟩;refine ⟨h1,v,(hb.block b (Array.getElem?_eq_some_iff.1 h2).1).trans h2,⟨h3,?_⟩,h5⟩;rcases h4 with h4 | ⟨g,cap,cur,fz,a1,a2,a3,a4⟩
  ·exact Or.inl h4
  ·exact Or.inr ⟨g,cap,cur,fz,a1,a2,(hb.block g (Array.getElem?_eq_some_iff.1 a3).1).trans a3,a4⟩
 exact h.elim (λx=>.inl (g _ x)) (λx=>.inr (g _ x))
theorem zNd (B b:Nat) (l:List UInt8) (s:ByteArray) (w:World) (h:Lib.IsBuilderF 84 5 B b (Lib.byteCells l) w) (hlen:l.length+s.size<=140737488355328) (hBw:B<=w.heap.size) :
  Calls prog 59 #[.pointer (some ⟨b,0,none⟩),.string s] w λe w'=>e=.returned (.tuple #[.int .i64 s.size,.nilIface])/\Lib.IsBuilderF 84 5 B b (Lib.byteCells (l++s.data.toList)) w'/\Below B w w'/\Lib.OthersKept 5 (some b) w w':=by
 refine (Any.Builder_WriteString_k {lays155 with} zCi B b (Lib.byteCells l) s w h (by rw [Lib.byteCells_length];exact hlen) hBw).mono ?_;rintro e w' ⟨rfl,h1,h2⟩;rw [Lib.strCells_eq,<-Lib.byteCells_append] at h1;exact ⟨rfl,Or.inr h1,h2⟩
theorem zRU (B b:Nat) (l:List UInt8) (w:World) (h:Lib.IsBuilderF 84 5 B b (Lib.byteCells l) w) (hBw:B<=w.heap.size) :
  Calls prog 38 #[.pointer (some ⟨b,0,none⟩)] w λe w'=>e=.returned (.string ⟨l.toArray⟩)/\Below B w w' :=
 (Any.Builder_String_any_k {lays155 with} zCi B b l w h hBw).mono λe w' ⟨a,b,c,d⟩=>⟨a,c⟩
theorem zSV (l:List UInt8):(⟨#[34]⟩:ByteArray)++⟨l.toArray⟩++⟨#[34]⟩=⟨(34::(l++[34])).toArray⟩:=by
 apply ByteArray.ext
 apply Array.ext'
 simp
theorem zDh (k p:Int) (s:List UInt8) (w:World) (hm:MaxAt w) (hs:s.length<=1048576):CR 164 #[.agg #[.int .i64 k,.string ⟨s.toArray⟩,.int .i64 p]] w (.string ⟨(Wlx.wv ⟨k,s,p⟩).toArray⟩):=by
 by_cases hk:k=2
 ·subst hk;have R:=λw hm=>zGh ⟨s.toArray⟩ w hm (by simpa [ByteArray.size] using hs)
  have e0:(⟨s.toArray⟩:ByteArray).data.toList=s:=rfl;rw [e0] at R;have E:Hid (Wlx.wv ⟨2,s,p⟩=34::(Wlx.dbl s++[34])):=by show _=_;unfold Wlx.wv;exact if_pos rfl
  have hd:=Wlx.dbl_length s;obtain ⟨d,hdd⟩:∃ d,Wlx.dbl s=d:=⟨_,rfl⟩
  rw [hdd] at R E hd;clear hdd;have l1:¬ 9223372036854775807<d.length+1:=by omega
  have l2:¬ 9223372036854775807<d.length+1+1:=by omega
  go_enter func164,ntmps164;go_wp2_with fail
  refine (R _ (MaxAt.below hm ((Below.refl _ w).alloc (Nat.le_refl _) _))).mono ?_;rintro e w1 ⟨rfl,hb⟩;go_wp2;go_ret;exact ⟨by rw [E.out,<-zSV];rfl,((Below.refl _ w).alloc (Nat.le_refl _) _).trans (hb.mono (by simp))⟩
 ·have hk2:(k != 2)=true:=by simpa using hk
  have E:Hid (Wlx.wv ⟨k,s,p⟩=s):=by show _=_;unfold Wlx.wv;exact if_neg hk
  clear hk;go_enter func164,ntmps164;go_wp2;go_ret;exact ⟨by rw [E.out];rfl,(Below.refl _ w).alloc (Nat.le_refl _) _⟩
open Go.RowKit
def PSt (w:World) (kp:Nat) (ts:List Wlx.TV) (en:Int):Prop :=
 ∃ (av:Option Addr) (cap:Nat),ts.length<=cap/\AtL w kp [.slice av ts.length cap,.int .i64 en] /\
  ∀ i (h:i<ts.length),∃ bb off,av=some ⟨bb,off,none⟩/\bb<kp/\w.cell? ⟨bb,off+i * 3,none⟩=some (.int .i64 (ts[i]).k)/\w.cell? ⟨bb,off+i * 3+1,none⟩=some (.string ⟨(ts[i]).t.toArray⟩)/\w.cell? ⟨bb,off+i * 3+2,none⟩=some (.int .i64 (ts[i]).p)
theorem PSt.below {kp:Nat} {ts:List Wlx.TV} {en:Int} (h:PSt w kp ts en) (hb:Below w.heap.size w w'):PSt w' kp ts en:=by
 obtain ⟨av,cap,h1,h2,h3⟩:=h;refine ⟨av,cap,h1,h2.below hb,λi hi=>?_⟩;obtain ⟨bb,off,e,hn,c0,c1,c2⟩:=h3 i hi;exact ⟨bb,off,e,hn,zAM hb c0,zAM hb c1,zAM hb c2⟩
theorem zAC (hb:Below w.heap.size w w') (row:Option Nat):w.grownBy w' row:=⟨hb.os,hb.tape,hb.output,hb.size,λk hk _=>hb.block k hk⟩
theorem zAB {w1 w2:World} {row:Option Nat} (h1:w.grownBy w1 row) (h2:w1.grownBy w2 row):w.grownBy w2 row :=
 ⟨h2.os.trans h1.os,h2.tape.trans h1.tape,h2.output.trans h1.output,Nat.le_trans h1.size h2.size,λk hk hn=>(h2.block k (Nat.lt_of_lt_of_le hk h1.size) hn).trans (h1.block k hk hn)⟩
def hd (ts:List Wlx.TV) (en:Int):Wlx.TV:=match ts with
 | []=>⟨0,[],en⟩
 | t::_=>t
def tkV (t:Wlx.TV):Value:=.agg #[.int .i64 t.k,.string ⟨t.t.toArray⟩,.int .i64 t.p]
theorem zBO (kp:Nat) (ts:List Wlx.TV) (en:Int) (w:World) (h:PSt w kp ts en):CR 115 #[.pointer (some ⟨kp,0,none⟩)] w (tkV (hd ts en)):=by
 obtain ⟨av,cap,h1,h2,h3⟩:=h;have hlt:=h2.lt;obtain ⟨c0,c1,f0,f1⟩:=h2.two;have hne:¬ kp=w.heap.size:=by omega
 cases ts with
 | nil =>
  simp only [List.length_nil] at c0;go_enter func115,ntmps115;go_wp2;refine bodyPost_ret (v:=.agg #[.int .i64 0,.string ⟨#[]⟩,.int .i64 en]) (by simp [results,results115,go_sem, *]) rfl ⟨rfl,?_⟩;exact clA
 | cons t r =>
  obtain ⟨bb,off,e,hn,d0,d1,d2⟩:=h3 0 (by simp);subst e;have hlb:=World.block_lt_of_cell? _ _ d0;have hnb:¬ bb=w.heap.size:=by simp only at hlb;omega
  simp only [List.getElem_cons_zero,Nat.zero_mul,Nat.add_zero] at d0 d1 d2;obtain ⟨m,hm⟩:∃ m,r.length+1=m:=⟨_,rfl⟩
  simp only [List.length_cons,hm] at c0;have hm0:((m:Int) == 0)=false:=by rw [beq_eq_false_iff_ne];omega
  have hm1:(0:Int)<(m:Int):=by omega
  go_enter func115,ntmps115;go_wp2;refine bodyPost_ret (v:=tkV t) (by simp [results,results115,go_sem,tkV, *]) rfl ⟨rfl,?_⟩;exact clA
def zCX (t:Wlx.TV) (m:List UInt8):Bool:=(t.k == 5) && (t.t == m)
theorem zCB (t:Wlx.TV) (m:List UInt8) (w:World):CR 202 #[tkV t,.string ⟨m.toArray⟩] w (.bool (zCX t m)):=by
 obtain ⟨k,x,p⟩:=t;unfold zCX;show Calls _ _ #[.agg #[.int .i64 k,.string ⟨x.toArray⟩,.int .i64 p],.string ⟨m.toArray⟩] _ _
 simp only;by_cases hk:k=5
 ·subst hk;go_enter func202,ntmps202;go_wp2;go_ret;exact ⟨zA2 (by simp),clA⟩
 ·have hk':(k == 5)=false:=by simp [hk]
  rw [hk'];go_enter func202,ntmps202;go_wp2;go_ret;exact ⟨rfl,clA⟩
def fol (ts:List Wlx.TV) (m:List UInt8):Bool:=match ts with
 | _::t::_=>zCX t m
 | _=>false
theorem zBh (kp:Nat) (ts:List Wlx.TV) (en:Int) (m:List UInt8) (w:World) (h:PSt w kp ts en) (hts:ts.length<=1024):CR 193 #[.pointer (some ⟨kp,0,none⟩),.string ⟨m.toArray⟩] w (.bool (fol ts m)):=by
 obtain ⟨av,cap,h1,h2,h3⟩:=h;obtain ⟨c0,c1,f0,f1⟩:=h2.two;by_cases hl:1<ts.length
 ·obtain ⟨bb,off,e,hn,d0,d1,d2⟩:=h3 1 hl;subst e;have C:=zCB (ts[1]) m w;have hf:fol ts m=zCX (ts[1]) m:=by
   match ts,hl with
   | _::t::_,_=>rfl
  rw [hf];clear hf h3 h2;have hli:(1:Int)<(ts.length:Int):=by omega
  generalize zCX (ts[1]) m=q at *;unfold tkV at C;go_enter func193,ntmps193;go_wp2_with fail
  refine C.mono ?_;rintro e w1 ⟨rfl,hb⟩;go_wp2;go_ret;exact ⟨rfl,hb⟩
 ·have hf:fol ts m=false:=by
   match ts,hl with
   | [],_=>rfl
   | [_],_=>rfl
   | _::_::_,h=>exact absurd (by simp) h
  rw [hf];have hli:¬ (1:Int)<(ts.length:Int):=by omega
  go_enter func193,ntmps193;go_wp2;go_ret;exact ⟨rfl,Below.refl _ _⟩
