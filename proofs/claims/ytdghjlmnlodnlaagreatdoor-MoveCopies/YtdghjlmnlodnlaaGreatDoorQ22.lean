/- MOwn, MWalkD, TRefA, TRefB, TRefC. -/
import Derived.Test.YtdghjlmnlodnlaaGreatDoorQ21
import Derived.Laws.CopyRow
set_option maxHeartbeats 8000000
set_option maxRecDepth 100000
namespace Go.Proofs.YtdghjlmnlodnlaaGreatDoor
open Tryz
open Go.RowKit Go.Shelf
set_option linter.unusedVariables false
variable {w:World} {B g n cap:Nat} {A R L:List Wt.Nd} {x:Wt.Nd}
theorem zD0 {base n cap g size:Nat} {e:TypeId}:∀ (vs:List Value) (o:Nat) {w:World} {xs:List Value},w.ownsRow base e size (.slice (some ⟨g,0,none⟩) n cap) n xs->(w.setCells g o vs).ownsRow base e size (.slice (some ⟨g,0,none⟩) n cap) n (zNn xs o vs)
 | [],o,w,xs,h=>h
 | v::r,o,w,xs,h=>by
  rw [World.setCells,zNn];exact zD0 r (o+1) (World.ownsRow.stored h o v).1
theorem zGx:∀ (vs us P S:List Value),us.length=vs.length->zNn (P++(us++S)) P.length vs=P++(vs++S)
 | [],us,P,S,h=>by
  have:us=[]:=List.eq_nil_of_length_eq_zero h;subst this;rfl
 | v::r,[],P,S,h=>by cases h
 | v::r,u::us,P,S,h=>by
  have e:(P++(u::us++S)).set P.length v=(P++[v])++(us++S):=by
   rw [List.set_append_right _ _ (Nat.le_refl _),Nat.sub_self];simp
  rw [zNn,e];have:=zGx r us (P++[v]) S (by simpa using h);rw [List.length_append,List.length_singleton] at this;rw [this];simp
theorem OwnN.put (h:OwnN w B (.slice (some ⟨g,0,none⟩) n cap) (A++x::R)) (hn:n=(A++x::R).length) (k:Nat) (hk:k=A.length) (y:Wt.Nd) :
  OwnN (w.setCells g (k * 20) (zAD y)) B (.slice (some ⟨g,0,none⟩) n cap) (A++y::R):=by
 subst hk hn;unfold OwnN at h ⊢;have e:(A++x::R).length=(A++y::R).length:=by simp
 have h1:=zD0 (zAD y) (A.length * 20) h;have e1:zA5 (A++x::R)=zA5 A++(zAD x++zA5 R):=by simp [zA5]
 have e2:zA5 (A++y::R)=zA5 A++(zAD y++zA5 R):=by simp [zA5]
 rw [e1,show A.length * 20=(zA5 A).length from (zA4 A).symm,zGx (zAD y) (zAD x) _ _ rfl] at h1;rw [e2,<-e];rw [zA4] at h1;exact h1
theorem OwnN.at (h:OwnN w B (.slice (some ⟨g,0,none⟩) n cap) L) (hn:n=L.length) (i:Nat) (hi:i<L.length):w.rangeAt g (i * 20) (zAD L[i])/\w.there g (i * 20) 20:=by
 subst hn;have hc:∀ j,j<20->w.cell? ⟨g,i * 20+j,none⟩=(zAD L[i])[j]?:=λj hj=>by
  rw [World.ownsRow.cellAt h _ (by omega)];exact zD1 L i hi j hj
 refine ⟨λj v hv=>?_,λj hj=>⟨?_,World.ownsRow.frozenAt h _⟩⟩
 ·have hj:j<20:=by
   have:=(List.getElem?_eq_some_iff.1 hv).1;exact this
  rw [hc j hj,hv]
 ·rw [hc j hj,List.getElem?_eq_getElem (show j<(zAD L[i]).length from hj)];rfl
theorem zJs (w:World) (ty:TypeId) (g n:Nat) (a:Addr) (sCap:Nat) (cur:Array Value) (t:TypeId) (cs:List Value)
  (hg:w.heap[g]? = some (.cells cur t (0,0))) (hn:cs.length=n * 20) (hsrc:∀ j v,cs[j]? = some v->w.cell? (a.add j)=some v) (hfit:cur.size=cs.length) (h1:∀ v ∈ cs,v.oneCell'=true) :
  (Builtin.copy_ #[22,22] ty #[.slice (some ⟨g,0,none⟩) n n,.slice (some a) n sCap]).run prog w=.ok (goInt n) (w.setRow g cs.toArray):=by
 have hl:=run_loadCells_list (P:=prog) w a cs hsrc;have hst:=run_storeCells_at prog g 0 t cs 0 cur w hg (by omega) h1;have e0:cur.toList.drop cs.length=[]:=List.drop_eq_nil_of_le (by simp;omega);simp only [Nat.zero_add,List.take_zero,List.nil_append,e0,List.append_nil] at hst;obtain ⟨i,hi,hz0,hz1,hz2⟩:=info_parts zC6;rw [hn] at hl;simp [Builtin.copy_,run_underlying underlying22,Builtin.lenOf,Builtin.firstCells,sizeOf,typeInfo,hi,hz1,hl,hst]
theorem zNm {cur:Array Value} (hg:w.heap[g]? = some (.cells cur 30 (0,0))) (hBg:B<=g) (hmx:L.length<=maxLen):OwnN (w.setRow g (zA5 L).toArray) B (.slice (some ⟨g,0,none⟩) L.length L.length) L:=by
 refine ⟨zA4 L,.inr ⟨g,L.length,(zA5 L).toArray,rfl,hBg,setRow_heap w g _ _ _ _ hg,Nat.le_refl _,hmx,by simp [zA4],?_⟩⟩;simp;exact List.take_of_length_le (by rw [zA4];exact Nat.le_refl _)
theorem zKZ {w0:World} (hb:Below B w0 w) (hBg:B<=g) (cs:Array Value):Below B w0 (w.setRow g cs):=hb.trans ⟨rfl,rfl,rfl,by simp [World.setRow],λk hk=>setRow_other w g k _ (by omega)⟩
theorem zNW {q:Wt.Nd} (i:Nat) (hi:i=A.length) (h:i<(A++q::R).length):(A++q::R)[i]=q:=by subst hi;simp
def mvI (x y:Int) (L:List Wt.Nd) (i:Nat):List Wt.Nd:=(L.take i).map (mvN x y)++L.drop i
theorem zNN (x y:Int) (L:List Wt.Nd) (i:Nat):(mvI x y L i).length=L.length:=by unfold mvI;simp;omega
theorem zIi (av:Option Addr) (cap:Nat) (L:List Wt.Nd) (x y:Int) (w:World) (hF:∀ n ∈ L,Wt.FitN n) (hO:OpsAt w) (hr:RdN w av L) (hc:Wt.check L=0) :
  Calls prog 6 #[.slice av L.length cap,.int .i64 x,.int .i64 y] w λe w'=>(∃ v,e=.returned (.tuple #[v,.int .i64 0])/\OwnN w' w.heap.size v (L.map (mvN x y)))/\Below w.heap.size w w':=by
 obtain ⟨h256,d,hone,-⟩:=zA8 hc;have hpos:0<L.length:=by have:=zCP _ _ _ _ hone;omega
 have CK:=zDe av cap L w (by omega) hF hO hr;rw [hc] at CK;have HR:Hid (RdN w av L):=hr;have HF:Hid (∀ n ∈ L,Wt.FitN n):=hF;have H256:True->L.length<=256:=λ_=>h256
 obtain ⟨i0,hi0,hz0,hz1,hz2⟩:=info_parts zC6;clear hone hc hF hr h256;go_enter func6,ntmps6;go_wp2_with fail
 refine CK.mono ?_;rintro e w1 ⟨rfl,hb1⟩;have hr1:Hid (RdN w1 av L):=HR.out.below hb1;clear CK HR;go_wp2_with (refine wpList_make_full w1 rfl (.tmp 19) (.tmp 19) 22 rfl w1.heap.size 30 i0 _ 20 underlying22 hi0 hz0 hz1 .i64 .i64 _ _ L.length rfl rfl rfl rfl (by rw [hz2];have:=H256 trivial;omega) (by have:=H256 trivial;unfold maxLen;omega) (Nat.le_refl _) ?_)
 intro w2 own2 hg2;obtain ⟨cur,hcur,hcs⟩:∃ cur,w2.heap[w1.heap.size]? = some (.cells cur 30 (0,0))/\cur.size=L.length * 20:=by
  rcases own2.2 with ⟨e,_⟩ | ⟨g,cap',cur,e,_,hg,_,_,hs,_⟩
  ·cases e
  ·simp only [Value.slice.injEq,Option.some.injEq,Addr.mk.injEq] at e;obtain ⟨⟨rfl,-,-⟩,-,rfl⟩:=e;exact ⟨cur,hg,hs⟩
 have hb2:Below w1.heap.size w1 w2:=⟨hg2.os,hg2.tape,hg2.output,hg2.size,λk hk=>hg2.block k hk (by simp)⟩
 have hr2:RdN w2 av L:=hr1.out.below hb2;have hB2:=zAA hb1 hb2;have hs1:=hb1.size;clear own2 hg2 hr1 hb2 hi0 hz0 hz1 hz2 i0;obtain ⟨bb,off,rfl,-⟩:=hr2 0 hpos;have hrun:=zJs w2 3 w1.heap.size L.length ⟨bb,off,none⟩ cap cur 30 (zA5 L) hcur (zA4 L) (hr2.flat _ rfl) (by rw [zA4];exact hcs) (zDc L);have own3:OwnN (w2.setRow w1.heap.size (zA5 L).toArray) w.heap.size (.slice (some ⟨w1.heap.size,0,none⟩) L.length L.length) L:=zNm hcur hs1 (by have:=H256 trivial;unfold maxLen;omega);have hB3:Below w.heap.size w (w2.setRow w1.heap.size (zA5 L).toArray):=zKZ hB2 hs1 _;go_upto_region 6 with fail
 generalize w2.setRow w1.heap.size (zA5 L).toArray=w3 at *;have hlt3:w1.heap.size<w3.heap.size:=(World.ownsRow.lt own3 w1.heap.size rfl).2;clear hr2 hcur hcs hB2 hrun cur;generalize w1.heap.size=g at *;have hown:Hid (OwnN (w3.alloc (.cells #[.int .i64 x,.int .i64 y] 50)) w.heap.size (.slice (some ⟨g,0,none⟩) L.length L.length) (mvI x y L 0)):=OwnN.below own3 (zAI (Below.refl _ _) _);have hway:AtL (w3.alloc (.cells #[.int .i64 x,.int .i64 y] 50)) w3.heap.size [.int .i64 x,.int .i64 y]:=AtL.new0 _ _ _;have hBl:=zAI hB3 (.cells #[.int .i64 x,.int .i64 y] 50);have hk3:w.heap.size<=w3.heap.size:=hB3.size;clear own3 hB3;go_upto_region 8 with fail
 generalize w3.alloc (.cells #[.int .i64 x,.int .i64 y] 50)=W at *;generalize w3.heap.size=kw at *;go_loopg [29] (L.length) (λgk v wr=>∃ i:Nat,v=.int .i64 i/\gk=L.length - i/\i<=L.length/\Hid (OwnN wr w.heap.size (.slice (some ⟨g,0,none⟩) L.length L.length) (mvI x y L i))/\AtL wr kw [.int .i64 x,.int .i64 y]/\Below w.heap.size w wr)
 case atStart=>exact ⟨0,rfl,by omega,Nat.zero_le _,hown,hway,hBl⟩
 case round =>
  clear hown hway hBl;obtain ⟨i,rfl,hg,hi,HO,pW,hB⟩:=hrel;by_cases hlt:i<L.length
  ·have hli:(i:Int)<(L.length:Int):=by omega
   have hi0:(0:Int)<=(i:Int):=by omega
   have hwi:IntKind.i64.wrap ((i:Int)+1)=(i:Int)+1:=by rw [IntKind.wrap_i64];have:=H256 trivial;omega
   have hil:i<L.length:=by omega
   have own:=HO.out;obtain ⟨q,hq⟩:∃ q,L[i]=q:=⟨_,rfl⟩
   have hsp:mvI x y L i=(L.take i).map (mvN x y)++q::L.drop (i+1):=by unfold mvI;rw [List.drop_eq_getElem_cons hil,hq]
   have hnx:mvI x y L (i+1)=(L.take i).map (mvN x y)++mvN x y q::L.drop (i+1):=by
    unfold mvI;rw [List.take_add_one,List.getElem?_eq_getElem hil,hq];simp
   have HNX:Hid (mvI x y L (i+1)=(L.take i).map (mvN x y)++mvN x y q::L.drop (i+1)):=hnx;rw [hsp] at own;have hlen:L.length=((L.take i).map (mvN x y)++q::L.drop (i+1)).length:=by rw [<-hsp,zNN]
   have hla:i=((L.take i).map (mvN x y)).length:=by simp;omega
   obtain ⟨c1,t1⟩:=own.at hlen i (by omega);have hqq:=zNW (A:=(L.take i).map (mvN x y)) (R:=L.drop (i+1)) (q:=q) i hla (by omega);rw [hqq] at c1;have HOWN:Hid (OwnN wr w.heap.size (.slice (some ⟨g,0,none⟩) L.length L.length) ((L.take i).map (mvN x y)++q::L.drop (i+1))):=own;have HLEN:Hid (L.length=((L.take i).map (mvN x y)++q::L.drop (i+1)).length):=hlen;have HLA:Hid (i=((L.take i).map (mvN x y)).length):=hla;have hgw:g<wr.heap.size:=(World.ownsRow.lt own g rfl).2;have sT:(wr.alloc (.cells zN0 30)).there wr.heap.size 0 (zAD q).toArray.size:=(AtL.new0 wr 30 [.int .i64 0,.int .i64 0,.int .i64 0,.int .i64 0,.string ⟨#[]⟩,.bool false,.int .i64 0,.int .i64 0,.string ⟨#[]⟩,.int .i64 0,.string ⟨#[]⟩,.int .i64 0,.int .i64 0,.bool false,.bool false,.string ⟨#[]⟩,.int .i64 0,.int .i64 0,.bool false,.bool false]).there;clear HO hsp hnx hlen hla own hqq hq t1;go_upto_region 10 with (first | ((with_reducible refine wpList_load_mid (cs:=zAD q) ?_ 30 (.tmp 32) ?_ (g) (i * 20) ?_ _ ?_ underlying30 ?_ ?_ ?_);rfl;rfl;rfl;exact c1;rfl;kernel_rfl) | ((with_reducible refine wpList_store_mid ?_ 30 (.tmp 12) (.tmp 33) ?_ (wr.heap.size) 0 (zAD q).toArray ?_ ?_ ?_ ?_ ?_ ?_);rfl;rfl;rfl;rfl;exact sT;kernel_rfl;exact zAc _))
   have pN:=(AtL.new0 wr 30 [.int .i64 0,.int .i64 0,.int .i64 0,.int .i64 0,.string ⟨#[]⟩,.bool false,.int .i64 0,.int .i64 0,.string ⟨#[]⟩,.int .i64 0,.string ⟨#[]⟩,.int .i64 0,.int .i64 0,.bool false,.bool false,.string ⟨#[]⟩,.int .i64 0,.int .i64 0,.bool false,.bool false]).setAll (vs:=zAD q) rfl;have pW1:=(pW.alloc (.cells zN0 30)).farAll (b:=wr.heap.size) (by have:=pW.lt;omega) 0 (zAD q);have hB1:=zAu (zAI hB (.cells zN0 30)) (k:=wr.heap.size) (by have:=hB.size;omega) (zAD q) 0;have HO1:Hid (OwnN ((wr.alloc (.cells zN0 30)).setCells wr.heap.size 0 (zAD q)) w.heap.size (.slice (some ⟨g,0,none⟩) L.length L.length) ((L.take i).map (mvN x y)++q::L.drop (i+1))):=HOWN.out.below (zAu (zAI (Below.refl _ wr) _) (Nat.le_refl _) _ _);generalize (wr.alloc (.cells zN0 30)).setCells wr.heap.size 0 (zAD q).toArray.toList=W1 at *;generalize wr.heap.size=kn at *;clear HOWN c1 sT pW hB;obtain ⟨b0,b1,k0,k1⟩:=AtL.two pW1;have rN:=AtL.range pN;have C:=zJ7 x y q W1;go_wp2_with ((with_reducible refine wpList_load_mid (cs:=zAD q) ?_ 30 (.tmp 12) ?_ (kn) 0 ?_ _ ?_ underlying30 ?_ ?_ ?_);rfl;rfl;rfl;exact rN;rfl;kernel_rfl)
   refine C.mono ?_;rintro e w4 ⟨rfl,hb4⟩;have HO4:=HO1.out.below hb4;have pW4:=AtL.below hb4 pW1;have hB4:=zAA hB1 hb4;obtain ⟨c4,t4⟩:=HO4.at HLEN.out i (by have:=HLEN.out;omega);have u4:w4.there g (i * 20) (zAD (mvN x y q)).toArray.size:=t4;have HO5:Hid (OwnN (w4.setCells g (i * 20) (zAD (mvN x y q))) w.heap.size (.slice (some ⟨g,0,none⟩) L.length L.length) (mvI x y L (i+1))):=by
    show OwnN _ _ _ _
    rw [HNX.out];exact HO4.put HLEN.out i HLA.out (mvN x y q)
   have hwg:kw ≠ g:=by omega
   have pW5:=pW4.farAll (b:=g) (Ne.symm hwg) (i * 20) (zAD (mvN x y q));have hB5:=zAu hB4 (k:=g) (by omega) (zAD (mvN x y q)) (i * 20);clear HO4 HO1 pW4 hB4 c4 t4 C hb4 b0 b1 k0 k1 rN pN pW1 hB1;go_wp2_with ((with_reducible refine wpList_store_mid ?_ 30 (.tmp 39) (.tmp 38) ?_ (g) (i * 20) (zAD (mvN x y q)).toArray ?_ ?_ ?_ ?_ ?_ ?_);rfl;rfl;rfl;rfl;exact u4;kernel_rfl;exact zAc _)
   go_roundg (L.length - (i+1))
   case rel=>exact ⟨i+1,by simp,rfl,by omega,HO5,pW5,hB5⟩
   case measure=>omega
  ·have hli:¬ (i:Int)<(L.length:Int):=by omega
   have hin:Hid (i=L.length):=by show _=_;omega
   have own:=HO.out;have e:mvI x y L i=L.map (mvN x y):=by unfold mvI;have:=hin.out;rw [List.take_of_length_le (by omega),List.drop_eq_nil_of_le (by omega),List.append_nil]
   rw [e] at own;have HOWN:Hid (OwnN wr w.heap.size (.slice (some ⟨g,0,none⟩) L.length L.length) (L.map (mvN x y))):=own;clear own e HO;go_wp2;go_ret2
   exact ⟨⟨_,rfl,HOWN.out⟩,hB⟩
open Go.RowKit
theorem zDw (b:ByteArray) (w:World) (hs:b.size<=9223372036854775807):Calls prog 135 #[.string b] w λe w'=>e=.returned (.bool (Wv.prts b.data.toList))/\w=w':=by
 obtain ⟨R,hR⟩:∃ R,Wv.prts b.data.toList=R:=⟨_,rfl⟩
 have E0:Hid (R=Wv.prts (b.data.toList.drop 0)):=hR.symm;rw [hR];clear hR;go_enter func135,ntmps135;go_wp2_with fail
 go_loopg [3] (b.size) (λgk x wr=>∃ j:Nat,x=.int .i64 j/\gk=b.size - j/\j<=b.size/\Hid (R=Wv.prts (b.data.toList.drop j))/\wr=w)
 case atStart=>exact ⟨0,rfl,rfl,Nat.zero_le _,E0,rfl⟩
 case round =>
  obtain ⟨j,rfl,hg,hj,HR,rfl⟩:=hrel;by_cases hlt:j<b.size
  ·have hli:(j:Int)<(b.size:Int):=by omega
   have hd:=zA7 b j hlt;have hp:=zJ5 (b[j]);by_cases c1:((b[j]).toNat:Int)<32
   ·have E:Hid (R=false):=by show _=_;rw [HR.out,hd,Wv.prts_cons,hp,decide_eq_false (by omega)];rfl
    clear HR hd hp;go_wp2;go_ret;exact ⟨by rw [E.out];rfl,rfl⟩
   ·by_cases c2:(126:Int)<((b[j]).toNat:Int)
    ·have E:Hid (R=false):=by show _=_;rw [HR.out,hd,Wv.prts_cons,hp,decide_eq_false (p:=((b[j]).toNat:Int)<=126) (by omega)];simp
     clear HR hd hp;go_wp2;go_ret;exact ⟨by rw [E.out];rfl,rfl⟩
    ·have E:Hid (R=Wv.prts (b.data.toList.drop (j+1))):=by show _=_;rw [HR.out,hd,Wv.prts_cons,hp,decide_eq_true (by omega),decide_eq_true (by omega)];rfl
     clear HR hd hp;go_wp2_with fail
     go_roundg (b.size - (j+1))
     case rel=>exact ⟨j+1,by simp,rfl,hlt,E,by first | trivial | rfl⟩
     case measure=>omega
  ·have hli:¬ (j:Int)<(b.size:Int):=by omega
   have E:Hid (R=true):=by show _=_;rw [HR.out,zAk b j hlt];rfl
   clear HR;go_wp2;go_ret;exact ⟨by rw [E.out];rfl,rfl⟩
theorem zKX (n d:Int) (t:ByteArray) (b:Bool) (f:Int) (w:World) :
  CR 109 #[.agg #[.int .i64 0,.int .i64 n,.int .i64 d,.string t,.bool b,.int .i64 f]] w (.bool (Wv.right 0 n d t b f)):=by
 rw [<-zPs];have hq:=zBa 0 n d t b f 0 0 0 ⟨#[]⟩ false 0;generalize eqV 0 n d t b f 0 0 0 ⟨#[]⟩ false 0=R at *;go_enter func109,ntmps109;go_wp2;go_ret;exact ⟨rfl,clA⟩
theorem zIa (n d:Int) (t:ByteArray) (b:Bool) (f:Int) (w:World) (h1:-9223372036854775808<=n) (h2:n<=9223372036854775807) (h3:-9223372036854775808<=d) (h4:d<=9223372036854775807) :
  CR 109 #[.agg #[.int .i64 1,.int .i64 n,.int .i64 d,.string t,.bool b,.int .i64 f]] w (.bool (Wv.right 1 n d t b f)):=by
 rw [<-zP1];have C:=λw=>zCq n d w h1 h2 h3 h4
 have hq:=zBa 1 n d t b f 1 n d ⟨#[]⟩ false 0;generalize eqV 1 n d t b f 1 n d ⟨#[]⟩ false 0=R at *;generalize Wnum.rightB n d=q at *;have pA:AtL (w.alloc (.cells #[.int .i64 1,.int .i64 n,.int .i64 d,.string t,.bool b,.int .i64 f] 26)) w.heap.size [.int .i64 1,.int .i64 n,.int .i64 d,.string t,.bool b,.int .i64 f]:=AtL.new0 w _ _;cases q
 all_goals
  go_enter func109,ntmps109;go_wp2_with fail
  refine (C _).mono ?_;rintro e w1 ⟨rfl,hb⟩;have pA1:=AtL.below hb pA;obtain ⟨a0,a1,a2,a3,a4,a5⟩:=pA1.f6;have hB1:=zAA (zAI (Below.refl _ w) _) hb;go_wp2;go_ret;exact ⟨by simp,hB1⟩
theorem zK6 (n d:Int) (t:ByteArray) (b:Bool) (f:Int) (w:World) (hs:t.size<=9223372036854775807) :
  CR 109 #[.agg #[.int .i64 2,.int .i64 n,.int .i64 d,.string t,.bool b,.int .i64 f]] w (.bool (Wv.right 2 n d t b f)):=by
 rw [<-zPv];have C:=λw=>zDw t w hs
 have hq:=zBa 2 n d t b f 2 0 0 t false 0;generalize eqV 2 n d t b f 2 0 0 t false 0=R at *;generalize Wv.prts t.data.toList=q at *;by_cases hl:t.size<=256
 ·have hli:(t.size:Int)<=256:=by omega
  rw [decide_eq_true hl];cases q
  all_goals
   go_enter func109,ntmps109;go_wp2_with fail
   refine (C _).mono ?_;rintro e w1 ⟨rfl,rfl⟩;go_wp2;go_ret;exact ⟨by simp,clA⟩
 ·have hli:¬ (t.size:Int)<=256:=by omega
  rw [decide_eq_false hl];cases q
  all_goals
   go_enter func109,ntmps109;go_wp2_with fail
   refine (C _).mono ?_;rintro e w1 ⟨rfl,rfl⟩;go_wp2;go_ret;exact ⟨by simp,clA⟩
theorem zKP (n d:Int) (t:ByteArray) (b:Bool) (f:Int) (w:World) :
  CR 109 #[.agg #[.int .i64 3,.int .i64 n,.int .i64 d,.string t,.bool b,.int .i64 f]] w (.bool (Wv.right 3 n d t b f)):=by
 rw [<-zPq];have hq:=zBa 3 n d t b f 3 0 0 ⟨#[]⟩ b 0;generalize eqV 3 n d t b f 3 0 0 ⟨#[]⟩ b 0=R at *;go_enter func109,ntmps109;go_wp2;go_ret;exact ⟨rfl,clA⟩
theorem zJ0 (n d:Int) (t:ByteArray) (b:Bool) (f:Int) (w:World) :
  CR 109 #[.agg #[.int .i64 4,.int .i64 n,.int .i64 d,.string t,.bool b,.int .i64 f]] w (.bool (Wv.right 4 n d t b f)):=by
 rw [<-zOo];have hq:=zBa 4 n d t b f 4 0 0 ⟨#[]⟩ false f;generalize eqV 4 n d t b f 4 0 0 ⟨#[]⟩ false f=R at *;unfold Wv.flt;by_cases h1:1<=f
 ·by_cases h8:f<=8
  ·rw [decide_eq_true h1,decide_eq_true h8];go_enter func109,ntmps109;go_wp2;go_ret;exact ⟨by simp,clA⟩
  ·rw [decide_eq_true h1,decide_eq_false h8];go_enter func109,ntmps109;go_wp2;go_ret;exact ⟨by simp,clA⟩
 ·rw [decide_eq_false h1];go_enter func109,ntmps109;go_wp2;go_ret;exact ⟨by simp,clA⟩
theorem zJr (k n d:Int) (t:ByteArray) (b:Bool) (f:Int) (w:World) (hk:k<0 \/ 4<k) :
  CR 109 #[.agg #[.int .i64 k,.int .i64 n,.int .i64 d,.string t,.bool b,.int .i64 f]] w (.bool (Wv.right k n d t b f)):=by
 have E:Hid (Wv.right k n d t b f=false):=by
  show _=_
  unfold Wv.right;rw [if_neg (by omega),if_neg (by omega),if_neg (by omega),if_neg (by omega),if_neg (by omega)]
 rw [E.out];clear E;have k0:(k == 0)=false:=by rw [beq_eq_false_iff_ne];omega
 have k1:(k == 1)=false:=by rw [beq_eq_false_iff_ne];omega
 have k2:(k == 2)=false:=by rw [beq_eq_false_iff_ne];omega
 have k3:(k == 3)=false:=by rw [beq_eq_false_iff_ne];omega
 have k4:(k == 4)=false:=by rw [beq_eq_false_iff_ne];omega
 clear hk;go_enter func109,ntmps109;go_wp2;go_ret;exact ⟨rfl,clA⟩
theorem zDg (v:Wt.Vl) (w:World) (hf:Wt.FitV v) :
  CR 109 #[.agg #[.int .i64 v.k,.int .i64 v.n,.int .i64 v.d,.string v.t,.bool v.b,.int .i64 v.f]] w (.bool (Wv.right v.k v.n v.d v.t v.b v.f)):=by
 obtain ⟨k,n,d,t,b,f⟩:=v;obtain ⟨⟨h1,h2⟩,⟨h3,h4⟩,hs⟩:=hf;simp only at *;by_cases k0:k=0
 ·subst k0;exact zKX n d t b f w
 by_cases k1:k=1
 ·subst k1;exact zIa n d t b f w h1 h2 h3 h4
 by_cases k2:k=2
 ·subst k2;exact zK6 n d t b f w hs
 by_cases k3:k=3
 ·subst k3;exact zKP n d t b f w
 by_cases k4:k=4
 ·subst k4;exact zJ0 n d t b f w
 exact zJr k n d t b f w (by omega)
def zFy (small:Bool) (c:UInt8):Bool:=Wlx.cap c || (small && Wlx.low c)
theorem zOR:zFy false=Wlx.cap:=by funext c;simp [zFy]
theorem zOC:zFy true=Wt.ltr:=by funext c;simp [zFy,Wt.ltr]
def zIF (small:Bool) (j:Nat) (l:List UInt8):Bool:=(decide (0<j) || zFy small (l.headD 0) || l.isEmpty) && l.all (λc=>zFy small c || Wlx.dig c)
theorem zJK (small:Bool) (j:Nat) (l:List UInt8):zIF small (j+1) l=l.all (λc=>zFy small c || Wlx.dig c):=by simp [zIF]
theorem zIl (small:Bool) (l:List UInt8) (h0:1<=l.length) (h1:l.length<=16):Wt.isNm (zFy small) l=zIF small 0 l:=by
 unfold Wt.isNm zIF;cases l with
 | nil=>simp at h0
 | cons c r=>rw [decide_eq_true h0,decide_eq_true h1];simp
theorem zKW (small:Bool) (j:Nat) (c:UInt8) (r:List UInt8):zIF small j (c::r)=((zFy small c || (decide (0<j) && Wlx.dig c)) && zIF small (j+1) r):=by
 rw [zJK];unfold zIF;simp only [List.headD_cons,List.isEmpty_cons,List.all_cons,Bool.or_false];cases decide (0<j) <;> cases zFy small c <;> cases Wlx.dig c <;> simp
theorem zFW (small:Bool) (b:ByteArray) (w:World) (hs:b.size<=9223372036854775807) :
  Calls prog 79 #[.string b,.bool small] w λe w'=>e=.returned (.bool (Wt.isNm (zFy small) b.data.toList))/\w=w':=by
 have hl:b.data.toList.length=b.size:=rfl;by_cases h1:(b.size:Int)<1
 ·have E:Hid (Wt.isNm (zFy small) b.data.toList=false):=by
   show _=_
   unfold Wt.isNm;rw [hl,decide_eq_false (by omega)];simp
  rw [E.out];clear E;go_enter func79,ntmps79;go_wp2;go_ret;exact ⟨rfl,rfl⟩
 by_cases h16:(16:Int)<(b.size:Int)
 ·have E:Hid (Wt.isNm (zFy small) b.data.toList=false):=by
   show _=_
   unfold Wt.isNm;rw [hl,decide_eq_false (p:=b.size<=16) (by omega)];simp
  rw [E.out];clear E;go_enter func79,ntmps79;go_wp2;go_ret;exact ⟨rfl,rfl⟩
 obtain ⟨R,hR⟩:∃ R,Wt.isNm (zFy small) b.data.toList=R:=⟨_,rfl⟩
 have E0:Hid (R=zIF small 0 (b.data.toList.drop 0)):=by
  show _=_
  rw [<-hR,List.drop_zero];exact zIl small _ (by omega) (by omega)
 rw [hR];clear hR;go_enter func79,ntmps79;go_wp2_with fail
 go_loopg [5] (b.size) (λgk x wr=>∃ j:Nat,x=.int .i64 j/\gk=b.size - j/\j<=b.size/\Hid (R=zIF small j (b.data.toList.drop j))/\wr=w)
 case atStart=>exact ⟨0,rfl,rfl,Nat.zero_le _,E0,rfl⟩
 case round =>
  clear E0;obtain ⟨j,rfl,hg,hj,HR,rfl⟩:=hrel;by_cases hlt:j<b.size
  ·have hli:(j:Int)<(b.size:Int):=by omega
   have hd:=zA7 b j hlt;have HR2:Hid (R=((zFy small (b[j]) || (decide (0<j) && Wlx.dig (b[j]))) && zIF small (j+1) (b.data.toList.drop (j+1)))):=by show _=_;rw [HR.out,hd,zKW]
   clear HR hd;obtain ⟨T,hT⟩:∃ T,zIF small (j+1) (b.data.toList.drop (j+1))=T:=⟨_,rfl⟩
   have HT:Hid (T=zIF small (j+1) (b.data.toList.drop (j+1))):=hT.symm;rw [hT] at HR2;clear hT;unfold zFy Wlx.cap Wlx.low Wlx.dig at HR2;by_cases a1:65<=((b[j]).toNat:Int) <;> by_cases a2:((b[j]).toNat:Int)<=90 <;> by_cases a3:97<=((b[j]).toNat:Int) <;> by_cases a4:((b[j]).toNat:Int)<=122 <;> by_cases a5:48<=((b[j]).toNat:Int) <;> by_cases a6:((b[j]).toNat:Int)<=57
   any_goals (exfalso;omega)
   all_goals by_cases j0:(0:Int)<(j:Int)
   all_goals have j0':decide (0<j)=decide ((0:Int)<(j:Int)):=by rw [decide_eq_decide];omega
   all_goals rw [j0'] at HR2
   all_goals clear j0'
   all_goals cases small
   all_goals first
    | (
      have E:Hid (R=false):=by (show _=_;rw [HR2.out];simp only [a1,a2,a3,a4,a5,a6,j0,decide_true,decide_false,Bool.true_and,Bool.false_and,Bool.and_true,Bool.and_false,Bool.or_false,Bool.or_true])
      clear HR2 HT;go_wp2;go_ret;exact ⟨by rw [E.out];rfl,rfl⟩)
    | (
      have E:Hid (R=T):=by (show _=_;rw [HR2.out];simp only [a1,a2,a3,a4,a5,a6,j0,decide_true,decide_false,Bool.true_and,Bool.and_true,Bool.and_false,Bool.or_false,Bool.or_true])
      clear HR2;go_wp2_with fail
      go_roundg (b.size - (j+1))
      case rel=>exact ⟨j+1,by simp,rfl,hlt,E.out.trans HT.out,by first | trivial | rfl⟩
      case measure=>omega)
  ·have hli:¬ (j:Int)<(b.size:Int):=by omega
   have E:Hid (R=true):=by
    show _=_
    rw [HR.out,zAk b j hlt];simp [zIF]
   clear HR;go_wp2;go_ret;exact ⟨by rw [E.out];rfl,rfl⟩
theorem zEz (b:ByteArray) (w:World) (hs:b.size<=9223372036854775807):Calls prog 79 #[.string b,.bool false] w λe w'=>e=.returned (.bool (Wt.fnNm b))/\w=w':=by
 have h:=zFW false b w hs;rw [zOR] at h;exact h
theorem zEp (b:ByteArray) (w:World) (hs:b.size<=9223372036854775807):Calls prog 79 #[.string b,.bool true] w λe w'=>e=.returned (.bool (Wt.shNm b))/\w=w':=by
 have h:=zFW true b w hs;rw [zOC] at h;exact h
theorem zLe (o:Int) (w:World):Calls prog 78 #[.int .i64 o] w λe w'=>e=.returned (.bool (Wt.isBin o))/\w=w':=by
 unfold Wt.isBin;by_cases a1:11<=o <;> by_cases a2:o<=16 <;> by_cases a3:21<=o <;> by_cases a4:o<=26
 any_goals (exfalso;omega)
 all_goals
  go_enter func78,ntmps78;go_wp2;go_ret;exact ⟨zA2 (by simp [a1,a2,a3,a4]),rfl⟩
theorem zGb (a:Wt.Rf) (w:World) (hs:a.s.size<=9223372036854775807):CR 77 #[.agg #[.string a.s,.int .i64 a.r,.int .i64 a.c,.bool a.fr,.bool a.fc]] w (.bool (Wt.rfOk a)):=by
 obtain ⟨s,r,c,fr,fc⟩:=a;unfold Wt.rfOk Wt.inR;simp only at hs ⊢;have C:=λw=>zEp s w hs
 by_cases r0:r<0
 ·have r0':¬ 0<=r:=by omega
  rw [decide_eq_false r0'];go_enter func77,ntmps77;go_wp2;go_ret;exact ⟨zA2 (by simp),clA⟩
 by_cases r1:65536<=r
 ·rw [decide_eq_false (p:=r<65536) (by omega)];go_enter func77,ntmps77;go_wp2;go_ret;exact ⟨zA2 (by simp),clA⟩
 by_cases c0:c<0
 ·rw [decide_eq_false (p:=0<=c) (by omega)];go_enter func77,ntmps77;go_wp2;go_ret;exact ⟨zA2 (by simp),clA⟩
 by_cases c1:256<=c
 ·rw [decide_eq_false (p:=c<256) (by omega)];go_enter func77,ntmps77;go_wp2;go_ret;exact ⟨zA2 (by simp),clA⟩
 rw [decide_eq_true (p:=0<=r) (by omega),decide_eq_true (p:=r<65536) (by omega),decide_eq_true (p:=0<=c) (by omega),decide_eq_true (p:=c<256) (by omega)];by_cases h0:s=⟨#[]⟩
 ·subst h0;go_enter func77,ntmps77;go_wp2;go_ret;exact ⟨rfl,clA⟩
 ·have hE:=zEv h0;rw [decide_eq_false h0];generalize Wt.shNm s=q at *;go_enter func77,ntmps77;go_wp2_with fail
  refine (C _).mono ?_;rintro e w2 ⟨rfl,rfl⟩;go_wp2;go_ret;exact ⟨by simp,clA⟩
theorem zLf (v:Wt.Vl) (w:World) (hf:Wt.FitV v):CR 76 #[.agg #[.int .i64 v.k,.int .i64 v.n,.int .i64 v.d,.string v.t,.bool v.b,.int .i64 v.f]] w (.bool (Wt.vlOk v)):=by
 have C:=λw=>zDg v w hf
 obtain ⟨k,n,d,t,b,f⟩:=v;obtain ⟨⟨h1,h2⟩,⟨h3,h4⟩,hs⟩:=hf;unfold Wt.vlOk;simp only at h1 h2 h3 h4 hs C ⊢;by_cases e0:k=0
 ·subst e0;rw [if_pos rfl];generalize Wv.right 0 n d t b f=q at *;cases q
  all_goals
   go_enter func76,ntmps76;go_wp2_with fail
   refine (C _).mono ?_;rintro e w1 ⟨rfl,hb⟩;have hB:=zAA (zAI (Below.refl _ w) _) hb;obtain ⟨c0,c1,c2,c3,c4,c5⟩:=(AtL.below hb (AtL.new0 w _ [.int .i64 0,.int .i64 n,.int .i64 d,.string t,.bool b,.int .i64 f])).f6;go_wp2;go_ret;exact ⟨rfl,hB⟩
 rw [if_neg e0];by_cases e1:k=1
 ·subst e1;rw [if_pos rfl];have hr:Wv.right 1 n d t b f=true->1<=d:=by
   unfold Wv.right;rw [if_neg (by decide),if_pos rfl];intro h;simp only [Bool.and_eq_true] at h;have:=h.1.1.1;unfold Wnum.rightB at this;have:=of_decide_eq_true this;omega
  generalize Wv.right 1 n d t b f=q at *;cases q
  ·go_enter func76,ntmps76;go_wp2_with fail
   refine (C _).mono ?_;rintro e w1 ⟨rfl,hb⟩;have hB:=zAA (zAI (Below.refl _ w) _) hb;obtain ⟨c0,c1,c2,c3,c4,c5⟩:=(AtL.below hb (AtL.new0 w _ [.int .i64 1,.int .i64 n,.int .i64 d,.string t,.bool b,.int .i64 f])).f6;go_wp2;go_ret;exact ⟨rfl,hB⟩
  have hd:=hr rfl;clear hr;by_cases hn:0<=n
  ·have hd0:¬ d=0:=by omega
   have hdm:¬ d = -1:=by omega
   rw [decide_eq_true hn];go_enter func76,ntmps76;go_wp2_with fail
   refine (C _).mono ?_;rintro e w1 ⟨rfl,hb⟩;have hB:=zAA (zAI (Below.refl _ w) _) hb;obtain ⟨c0,c1,c2,c3,c4,c5⟩:=(AtL.below hb (AtL.new0 w _ [.int .i64 1,.int .i64 n,.int .i64 d,.string t,.bool b,.int .i64 f])).f6;go_wp2;go_ret;refine ⟨zA2 ?_,hB⟩;rw [Bool.eq_iff_iff];simp
  ·rw [decide_eq_false hn];go_enter func76,ntmps76;go_wp2_with fail
   refine (C _).mono ?_;rintro e w1 ⟨rfl,hb⟩;have hB:=zAA (zAI (Below.refl _ w) _) hb;obtain ⟨c0,c1,c2,c3,c4,c5⟩:=(AtL.below hb (AtL.new0 w _ [.int .i64 1,.int .i64 n,.int .i64 d,.string t,.bool b,.int .i64 f])).f6;go_wp2;go_ret;exact ⟨zA2 (by simp),hB⟩
 rw [if_neg e1];generalize Wv.right k n d t b f=q at *;have e0':(k == 0)=false:=by simp [e0]
 have e1':(k != 1)=true:=by simp [e1]
 cases q
 all_goals
  go_enter func76,ntmps76;go_wp2_with fail
  refine (C _).mono ?_;rintro e w1 ⟨rfl,hb⟩;have hB:=zAA (zAI (Below.refl _ w) _) hb;obtain ⟨c0,c1,c2,c3,c4,c5⟩:=(AtL.below hb (AtL.new0 w _ [.int .i64 k,.int .i64 n,.int .i64 d,.string t,.bool b,.int .i64 f])).f6;go_wp2;go_ret;exact ⟨rfl,hB⟩
def nps (x:Wt.Nd):Int:=if x.k=4 then 1 else if x.k=5 then 2 else if x.k=6 then x.ar else 0
theorem zFY (h:Wt.right x=true):nps x=Wt.parts x:=by
 unfold Wt.right at h;unfold Wt.parts nps;by_cases h4:x.k=4
 ·rw [if_pos h4,if_pos h4]
 rw [if_neg h4,if_neg h4];by_cases h5:x.k=5
 ·rw [if_pos h5,if_pos h5]
 rw [if_neg h5,if_neg h5];by_cases h6:x.k=6
 ·rw [if_pos h6]
 rw [if_neg h6];by_cases h1:x.k=1
 ·rw [if_pos h1,Bool.and_eq_true,zAb] at h;have:=congrArg Wt.Nd.ar h.2;simp only at this;omega
 rw [if_neg h1] at h;by_cases h1:x.k=2
 ·rw [if_pos h1,Bool.and_eq_true,zAb] at h;have:=congrArg Wt.Nd.ar h.2;simp only at this;omega
 rw [if_neg h1] at h;by_cases h1:x.k=3
 ·rw [if_pos h1,Bool.and_eq_true,zAb] at h;have:=congrArg Wt.Nd.ar h.2;simp only at this;omega
 rw [if_neg h1,if_neg h4,if_neg h5,if_neg h6] at h;cases h
theorem zKg (o:Int) (w:World):CR 78 #[.int .i64 o] w (.bool (Wt.isBin o)):=(zLe o w).mono λe w' h=>⟨h.1,h.2 ▸ Below.refl _ _⟩
theorem zN2 (x:Wt.Nd) (w:World) (hk:x.k=1) (hf:Wt.FitV x.v) :
  CR 48 #[ndV x] w (.tuple #[.int .i64 0,.bool (Wt.vlOk x.v && eqN x ⟨1,x.v,0,⟨#[]⟩,0,Wt.r0,Wt.r0⟩)]):=by
 have hq:∀ w:World,(binOp .eql 30 (.agg (zAD x).toArray) (.agg #[.int .i64 1,.int .i64 x.v.k,.int .i64 x.v.n,.int .i64 x.v.d,.string x.v.t,.bool x.v.b,.int .i64 x.v.f,.int .i64 0,.string ⟨#[]⟩,.int .i64 0,.string ⟨#[]⟩,.int .i64 0,.int .i64 0,.bool false,.bool false,.string ⟨#[]⟩,.int .i64 0,.int .i64 0,.bool false,.bool false])).run prog w=.ok (.bool (eqN x ⟨1,x.v,0,⟨#[]⟩,0,Wt.r0,Wt.r0⟩)) w:=λw=>zBI x ⟨1,x.v,0,⟨#[]⟩,0,Wt.r0,Wt.r0⟩ w
 generalize eqN x ⟨1,x.v,0,⟨#[]⟩,0,Wt.r0,Wt.r0⟩=R at *;have C:=λw=>zLf x.v w hf
 generalize Wt.vlOk x.v=q at *;have pA:AtL (w.alloc (.cells (zAD x).toArray 30)) w.heap.size (zAD x):=AtL.new0 w _ _;have hBa:Below w.heap.size w (w.alloc (.cells (zAD x).toArray 30)):=zAI (Below.refl _ w) _;show Calls _ _ #[.agg (zAD x).toArray] _ _
 cases R
 ·go_enter func48,ntmps48;go_upto_region 1 with fail
  generalize (w.alloc (.cells (zAD x).toArray 30))=W0 at *;have rA:=pA.range;have a0:W0.cell? ⟨w.heap.size,0,none⟩=some (.int .i64 1):=by rw [<-hk];exact pA.2.1 0 _ rfl
  have a1:=pA.2.1 1 _ rfl;have a2:=pA.2.1 2 _ rfl;have a3:=pA.2.1 3 _ rfl;have a4:=pA.2.1 4 _ rfl;have a5:=pA.2.1 5 _ rfl;have a6:=pA.2.1 6 _ rfl;go_wp2_with ((with_reducible refine zAE ?_ 30 (.tmp 1) ?_ w.heap.size 0 ?_ (zAD x) _ ?_ underlying30 ?_ ?_ ?_);rfl;rfl;rfl;exact rA;rfl;kernel_rfl)
  go_ret2
  exact ⟨by simp,hBa⟩
 ·go_enter func48,ntmps48;go_upto_region 1 with fail
  generalize (w.alloc (.cells (zAD x).toArray 30))=W0 at *;have rA:=pA.range;have a0:W0.cell? ⟨w.heap.size,0,none⟩=some (.int .i64 1):=by rw [<-hk];exact pA.2.1 0 _ rfl
  have a1:=pA.2.1 1 _ rfl;have a2:=pA.2.1 2 _ rfl;have a3:=pA.2.1 3 _ rfl;have a4:=pA.2.1 4 _ rfl;have a5:=pA.2.1 5 _ rfl;have a6:=pA.2.1 6 _ rfl;go_wp2_with ((with_reducible refine zAE ?_ 30 (.tmp 1) ?_ w.heap.size 0 ?_ (zAD x) _ ?_ underlying30 ?_ ?_ ?_);rfl;rfl;rfl;exact rA;rfl;kernel_rfl)
  refine (C _).mono ?_;rintro e w1 ⟨rfl,hb⟩;have hB1:=zAA hBa hb;go_wp2;go_ret2
  exact ⟨by simp,hB1⟩
theorem zN3 (x:Wt.Nd) (w:World) (hk:x.k=2) (hs:x.a.s.size<=9223372036854775807) :
  CR 48 #[ndV x] w (.tuple #[.int .i64 0,.bool (Wt.rfOk x.a && eqN x ⟨2,Wt.v0,0,⟨#[]⟩,0,x.a,Wt.r0⟩)]):=by
 have hq:∀ w:World,(binOp .eql 30 (.agg (zAD x).toArray) (.agg #[.int .i64 2,.int .i64 0,.int .i64 0,.int .i64 0,.string ⟨#[]⟩,.bool false,.int .i64 0,.int .i64 0,.string ⟨#[]⟩,.int .i64 0,.string x.a.s,.int .i64 x.a.r,.int .i64 x.a.c,.bool x.a.fr,.bool x.a.fc,.string ⟨#[]⟩,.int .i64 0,.int .i64 0,.bool false,.bool false])).run prog w=.ok (.bool (eqN x ⟨2,Wt.v0,0,⟨#[]⟩,0,x.a,Wt.r0⟩)) w:=λw=>zBI x ⟨2,Wt.v0,0,⟨#[]⟩,0,x.a,Wt.r0⟩ w
 generalize eqN x ⟨2,Wt.v0,0,⟨#[]⟩,0,x.a,Wt.r0⟩=R at *;have C:=λw=>zGb x.a w hs
 generalize Wt.rfOk x.a=q at *;have pA:AtL (w.alloc (.cells (zAD x).toArray 30)) w.heap.size (zAD x):=AtL.new0 w _ _;have hBa:Below w.heap.size w (w.alloc (.cells (zAD x).toArray 30)):=zAI (Below.refl _ w) _;show Calls _ _ #[.agg (zAD x).toArray] _ _
 cases R
 ·go_enter func48,ntmps48;go_upto_region 1 with fail
  generalize (w.alloc (.cells (zAD x).toArray 30))=W0 at *;have rA:=pA.range;have a0:W0.cell? ⟨w.heap.size,0,none⟩=some (.int .i64 2):=by rw [<-hk];exact pA.2.1 0 _ rfl
  have a10:=pA.2.1 10 _ rfl;have a11:=pA.2.1 11 _ rfl;have a12:=pA.2.1 12 _ rfl;have a13:=pA.2.1 13 _ rfl;have a14:=pA.2.1 14 _ rfl;go_wp2_with ((with_reducible refine zAE ?_ 30 (.tmp 1) ?_ w.heap.size 0 ?_ (zAD x) _ ?_ underlying30 ?_ ?_ ?_);rfl;rfl;rfl;exact rA;rfl;kernel_rfl)
  go_ret2
  exact ⟨by simp,hBa⟩
 ·go_enter func48,ntmps48;go_upto_region 1 with fail
  generalize (w.alloc (.cells (zAD x).toArray 30))=W0 at *;have rA:=pA.range;have a0:W0.cell? ⟨w.heap.size,0,none⟩=some (.int .i64 2):=by rw [<-hk];exact pA.2.1 0 _ rfl
  have a10:=pA.2.1 10 _ rfl;have a11:=pA.2.1 11 _ rfl;have a12:=pA.2.1 12 _ rfl;have a13:=pA.2.1 13 _ rfl;have a14:=pA.2.1 14 _ rfl;go_wp2_with ((with_reducible refine zAE ?_ 30 (.tmp 1) ?_ w.heap.size 0 ?_ (zAD x) _ ?_ underlying30 ?_ ?_ ?_);rfl;rfl;rfl;exact rA;rfl;kernel_rfl)
  refine (C _).mono ?_;rintro e w1 ⟨rfl,hb⟩;have hB1:=zAA hBa hb;go_wp2;go_ret2
  exact ⟨by simp,hB1⟩
theorem zNY (x:Wt.Nd) (w:World) (hk:x.k=5) :
  CR 48 #[ndV x] w (.tuple #[.int .i64 2,.bool (Wt.isBin x.op && eqN x ⟨5,Wt.v0,x.op,⟨#[]⟩,0,Wt.r0,Wt.r0⟩)]):=by
 have hq:∀ w:World,(binOp .eql 30 (.agg (zAD x).toArray) (.agg #[.int .i64 5,.int .i64 0,.int .i64 0,.int .i64 0,.string ⟨#[]⟩,.bool false,.int .i64 0,.int .i64 x.op,.string ⟨#[]⟩,.int .i64 0,.string ⟨#[]⟩,.int .i64 0,.int .i64 0,.bool false,.bool false,.string ⟨#[]⟩,.int .i64 0,.int .i64 0,.bool false,.bool false])).run prog w=.ok (.bool (eqN x ⟨5,Wt.v0,x.op,⟨#[]⟩,0,Wt.r0,Wt.r0⟩)) w:=λw=>zBI x ⟨5,Wt.v0,x.op,⟨#[]⟩,0,Wt.r0,Wt.r0⟩ w
 generalize eqN x ⟨5,Wt.v0,x.op,⟨#[]⟩,0,Wt.r0,Wt.r0⟩=R at *;have C:=λw=>zKg x.op w
 generalize Wt.isBin x.op=q at *;have pA:AtL (w.alloc (.cells (zAD x).toArray 30)) w.heap.size (zAD x):=AtL.new0 w _ _;have hBa:Below w.heap.size w (w.alloc (.cells (zAD x).toArray 30)):=zAI (Below.refl _ w) _;show Calls _ _ #[.agg (zAD x).toArray] _ _
 cases R
 ·go_enter func48,ntmps48;go_upto_region 1 with fail
  generalize (w.alloc (.cells (zAD x).toArray 30))=W0 at *;have rA:=pA.range;have a0:W0.cell? ⟨w.heap.size,0,none⟩=some (.int .i64 5):=by rw [<-hk];exact pA.2.1 0 _ rfl
  have a7:=pA.2.1 7 _ rfl;go_wp2_with ((with_reducible refine zAE ?_ 30 (.tmp 1) ?_ w.heap.size 0 ?_ (zAD x) _ ?_ underlying30 ?_ ?_ ?_);rfl;rfl;rfl;exact rA;rfl;kernel_rfl)
  go_ret2
  exact ⟨by simp,hBa⟩
 ·go_enter func48,ntmps48;go_upto_region 1 with fail
  generalize (w.alloc (.cells (zAD x).toArray 30))=W0 at *;have rA:=pA.range;have a0:W0.cell? ⟨w.heap.size,0,none⟩=some (.int .i64 5):=by rw [<-hk];exact pA.2.1 0 _ rfl
  have a7:=pA.2.1 7 _ rfl;go_wp2_with ((with_reducible refine zAE ?_ 30 (.tmp 1) ?_ w.heap.size 0 ?_ (zAD x) _ ?_ underlying30 ?_ ?_ ?_);rfl;rfl;rfl;exact rA;rfl;kernel_rfl)
  refine (C _).mono ?_;rintro e w1 ⟨rfl,hb⟩;have hB1:=zAA hBa hb;go_wp2;go_ret2
  exact ⟨by simp,hB1⟩
