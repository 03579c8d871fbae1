/- BRdEx, BLay, BAll, BEdit, BEditB. -/
import Derived.Test.YtedifblompcdkaaGreatDoorQ39
set_option maxHeartbeats 4000000
set_option maxRecDepth 100000
namespace Go.Proofs.YtedifblompcdkaaGreatDoor
open Tryz
open Go.RowKit Wf
set_option linter.unusedVariables false
variable {w w':World} {lo:Nat} {G:List (Wpl.Cl × Ce)}
theorem zJN {B:Nat} {v:Value} {row:List Wt.Nd} (h:OwnN w B v row) (h0:0<row.length):∃ g cap,v=.slice (some ⟨g,0,none⟩) row.length cap/\RdN w (some ⟨g,0,none⟩) row/\row.length<=cap:=by
 obtain ⟨av,cap,e,hr⟩:=h.form;subst e;rcases h.2 with ⟨e,hz⟩ | ⟨g,cap',cur,e,hg,hc,h1,_⟩
 ·omega
 ·simp only [Value.slice.injEq] at e;obtain ⟨rfl,_,rfl⟩:=e;exact ⟨g,cap,rfl,hr,h1⟩
theorem zNp (nm:List ByteArray) (x:Wpl.Cl) (row:List Wt.Nd) (hn:nm.length<=1000000) (hx:-9223372036854775808<=x.s/\x.s<=9223372036854775807) (hF:∀ n ∈ row,Wt.FitN n) (hc:Wt.check row=0):∃ E C,zPJ nm x row E C/\0<C.length/\C.length<=20000/\∀ p ∈ C,p.2.length<=1000000:=by
 obtain ⟨t,hrow,hT,h256⟩:=zHs hc;refine ⟨flE x.s x.r x.c nm _ t,flC x.s nm _ t,λw B v na nk hN hO hv hr hk=>?_,by simp [flC],?_,λp hp=>?_⟩;rotate_left
 ·have:=zI0 x.s (nm.take 16) _ t 0;rw [hrow] at this;simp only [flC,List.length_append,List.length_cons,List.length_nil];omega
 ·rcases List.mem_append.1 hp with hp | hp
  ·have:=zNW x.s (nm.take 16) _ t 0 256 (by rw [hrow];exact h256) p hp;omega
  ·simp only [List.mem_cons,List.not_mem_nil,or_false] at hp;rw [hp];exact Nat.zero_le _
 have h0:0<row.length:=by rw [<-hrow];exact zFx _ t
 obtain ⟨g,cap,rfl,hrd,hcap⟩:=zJN hv h0;exact zGh _ t g 0 cap row x.s x.r x.c na nm nm.length nk w hF hO hN hrd hr hc hrow hT h256 hcap row.length rfl rfl hk hn hx
theorem zNI:∀ (l:List UInt8) (i:Nat),fgn l i = -1 \/ ∃ n:Nat,fgn l i=(n:Int)
 | [],i=>Or.inl rfl
 | b::r,i=>by
  unfold fgn;split
  ·exact Or.inr ⟨i,rfl⟩
  ·exact zNI r (i+1)
theorem zBm (l:List UInt8):Wlx.begins [61] l=true ↔ l.head? = some 61:=by
 cases l with
 | nil=>simp [Wlx.begins]
 | cons a r =>
  simp [Wlx.begins];exact eq_comm
theorem zRL (nm:List ByteArray) (x:Wpl.Cl) (t:ByteArray) (hn:nm.length<=1000000) (hx:-9223372036854775808<=x.s/\x.s<=9223372036854775807) (hs:t.size<=9223372036854775807):∃ R,zE0 nm x t R/\∀ C,R=.inl C->(0<C.length ↔ Wlx.begins [61] t.data.toList=true)/\C.length<=20000/\∀ p ∈ C,p.2.length<=1000000:=by
 by_cases h:1024<t.size
 ·exact ⟨_,zK5 nm x t h hs,λC e=>by cases e⟩
 ·have h:t.size<=1024:=by omega
  rcases zNI t.data.toList 0 with hf | ⟨n,hf⟩
  ·by_cases hh:t.data.toList.head? = some 61
   ·obtain ⟨u,hu⟩:∃ u,t.data.toList=61::u:=by
     cases hl:t.data.toList with
     | nil=>rw [hl] at hh;cases hh
     | cons a r=>rw [hl] at hh;simp at hh;exact ⟨r,by rw [hh]⟩
    have ht:t=⟨(61::u).toArray⟩:=by
     apply ByteArray.ext
     apply Array.ext'
     rw [hu]
    cases hp:zIO u with
    | inr q =>
     obtain ⟨c,p⟩:=q;exact ⟨_,zMT nm x u t ht h hf c p hp,λC e=>by cases e⟩
    | inl row =>
     obtain ⟨hF,hc⟩:=zLn hp;obtain ⟨E,C,hfl,hC,hC2,hC3⟩:=zNp nm x row hn hx hF hc;by_cases hE:E=0
     ·refine ⟨_,zFJ nm x u t ht h hf row hp E C hfl hE,λC' e=>?_⟩;simp only [Sum.inl.injEq] at e;rw [<-e];exact ⟨⟨λ_=>(zBm _).2 hh,λ_=>hC⟩,hC2,hC3⟩
     ·exact ⟨_,zJA nm x u t ht h hf row hp E C hfl hE,λC e=>by cases e⟩
   ·refine ⟨_,zGb nm x t h hf hh,λC e=>?_⟩;simp only [Sum.inl.injEq] at e;rw [<-e,zBm];exact ⟨by simp [hh],Nat.zero_le _,λp hp=>by cases hp⟩
  ·exact ⟨_,zL2 nm x t h n hf,λC e=>by cases e⟩
open Go.RowKit
def zM7 (x:Wpl.Cl) (f:Ct) (F:List (Wpl.Cl × Ct)):List (Wpl.Cl × Ct):=if f.t=⟨#[]⟩ then zHh x F else zF3 x f F
theorem knd_mt {t:ByteArray}:knd t=0 ↔ t=⟨#[]⟩:=by
 unfold knd;by_cases h:t=⟨#[]⟩
 ·rw [if_pos h];simp [h]
 ·rw [if_neg h];refine ⟨λe=>?_,λe=>absurd e h⟩;split at e <;> cases e
theorem zLh (bb mb:Nat) (nv:Value) (ver:Int) (F:List (Wpl.Cl × Ct)) (x:Wpl.Cl) (f:Ct) (w:World) (h:AtL w bb [nv,.int .i64 ver,.map (some mb)]) (hm:MB w mb F) (hne:bb ≠ mb) (hs:f.t.size<=9223372036854775807) :
  Calls prog 31 #[.pointer (some ⟨bb,0,none⟩),.agg #[.int .i64 x.s,.int .i64 x.r,.int .i64 x.c],ctV f] w λe w'=>e=.returned (.tuple #[])/\MB w' mb (zM7 x f F)/\Fr [mb] w w':=by
 have KA:=λW=>zHM f W hs
 have hb0:=zAH (zAH (Below.refl _ w) (.cells #[.int .i64 x.s,.int .i64 x.r,.int .i64 x.c] 24)) (.cells #[.string f.t,.slice f.a f.n f.k] 61);have p:=AtL.f3 ((AtL.new0 w 24 [.int .i64 x.s,.int .i64 x.r,.int .i64 x.c]).alloc (.cells #[.string f.t,.slice f.a f.n f.k] 61));have q:=AtL.new1 w (.cells #[.int .i64 x.s,.int .i64 x.r,.int .i64 x.c] 24) 61 [.string f.t,.slice f.a f.n f.k];have HM0:Hid (MB ((w.alloc (.cells #[.int .i64 x.s,.int .i64 x.r,.int .i64 x.c] 24)).alloc (.cells #[.string f.t,.slice f.a f.n f.k] 61)) mb F):=hm.below hb0;have hlt:=hm.lt;have hlb:bb<w.heap.size:=(AtL.lt h)
 have HNE:Hid (bb ∉ [mb]/\w.heap.size ∉ [mb]/\w.heap.size+1 ∉ [mb]):=⟨by simpa using hne,by simp;omega,by simp;omega⟩
 obtain ⟨_,_,c2,_⟩:=(AtL.below hb0 h).three;have HB0:Hid (Below w.heap.size w ((w.alloc (.cells #[.int .i64 x.s,.int .i64 x.r,.int .i64 x.c] 24)).alloc (.cells #[.string f.t,.slice f.a f.n f.k] 61))):=hb0;clear h hm hb0 hne hs hlt hlb;obtain ⟨d0,d1,_,_⟩:=q.two;clear q;go_enter func31,ntmps31;go_upto_region 1 with fail
 generalize (w.alloc (.cells #[.int .i64 x.s,.int .i64 x.r,.int .i64 x.c] 24)).alloc (.cells #[.string f.t,.slice f.a f.n f.k] 61)=W0 at *;have t3:zAt W0 w.heap.size (.int .i64 x.s) (.int .i64 x.r) (.int .i64 x.c):=p;clear p;by_cases h0:f.t=⟨#[]⟩
 ·have HL:Hid (zM7 x f F=zHh x F):=by show _=_;unfold zM7;rw [if_pos h0]
  rw [knd_mt.2 h0] at KA;clear h0;go_wp2_with fail
  refine (KA _).mono ?_;rintro e w2 ⟨rfl,hb2⟩;have HM2:Hid (MB w2 mb F):=HM0.out.below hb2;have HB2:Hid (Below w.heap.size w w2):=zAA HB0.out hb2;replace t3:=zAG hb2 t3
  replace c2:=zAC hb2 c2
  replace d0:=zAC hb2 d0
  replace d1:=zAC hb2 d1
  clear hb2 HB0 KA HM0;go_upto_region 2 with fail
  have hb3:=(Below.refl w2.heap.size w2).drew;refine wp_region_held_drew (S:=λW=>W.cell? ⟨bb,2,none⟩=some (.map (some mb))/\zAt W w.heap.size (.int .i64 x.s) (.int .i64 x.r) (.int .i64 x.c)/\(W.cell? ⟨w.heap.size+1,0,none⟩=some (.string f.t)/\W.cell? ⟨w.heap.size+1,1,none⟩=some (.slice f.a f.n f.k))) (by kernel_rfl) ⟨zAC hb3 c2,zAG hb3 t3,zAC hb3 d0,zAC hb3 d1⟩ (λhHeld=>?_);have HM3:Hid (MB w2.drew mb F):=MB.below HM2.out hb3;have HB3:Hid (Below w.heap.size w w2.drew):=zAA HB2.out hb3;replace t3:=zAG hb3 t3
  replace c2:=zAC hb3 c2
  replace d0:=zAC hb3 d0
  replace d1:=zAC hb3 d1
  clear hb3 HM2 HB2;generalize w2.drew=W3 at *;refine tkQ 0 ?_
  refine tkQ 1 ?_
  refine tkQ 2 ?_
  refine tkQ 3 ?_
  refine tkQ 4 ?_
  refine rdQ 5 (λK hK=>?_);obtain ⟨w4,hup,hm4,hg4⟩:=zRG HM3.out x 0;go_simp
  have HF4:Hid (Fr [mb] W3 w4):=Fr.of_grown hg4 (λk e=>by cases e;simp);refine hkQ hK ⟨HF4.out.cell c2 HNE.out.1,⟨HF4.out.cell t3.1 HNE.out.2.1,HF4.out.cell t3.2.1 HNE.out.2.1,HF4.out.cell t3.2.2 HNE.out.2.1⟩,HF4.out.cell d0 HNE.out.2.2,HF4.out.cell d1 HNE.out.2.2⟩ (λhHeld=>?_);clear hK K
  refine wpAnyH_done (by kernel_rfl) ?_ _;have HE:Hid (MB w4 mb (zM7 x f F)/\Fr [mb] w w4):=⟨by rw [HL.out];exact hm4,(Fr.of_below [mb] HB3.out).trans HF4.out⟩
  clear hHeld hg4 hup hm4 HF4 HB3 HM3 c2 t3 d0 d1;go_wp2;first | (go_end0;exact ⟨rfl,HE.out.1,HE.out.2⟩) | exact bodyPost_ret (results_none rfl _ _ _) rfl ⟨rfl,HE.out.1,HE.out.2⟩
 ·have HL:Hid (zM7 x f F=zF3 x f F):=by show _=_;unfold zM7;rw [if_neg h0]
  obtain ⟨kd,hkd⟩:∃ kd,knd f.t=kd:=⟨_,rfl⟩
  have hk0:¬ kd=0:=λe=>h0 (knd_mt.1 (by rw [hkd,e]))
  rw [hkd] at KA;clear h0 hkd;go_wp2_with fail
  refine (KA _).mono ?_;rintro e w2 ⟨rfl,hb2⟩;have HM2:Hid (MB w2 mb F):=HM0.out.below hb2;have HB2:Hid (Below w.heap.size w w2):=zAA HB0.out hb2;replace t3:=zAG hb2 t3
  replace c2:=zAC hb2 c2
  replace d0:=zAC hb2 d0
  replace d1:=zAC hb2 d1
  clear hb2 HB0 KA HM0;go_upto_region 3 with fail
  have hb3:=(Below.refl w2.heap.size w2).drew;refine wp_region_held_drew (S:=λW=>W.cell? ⟨bb,2,none⟩=some (.map (some mb))/\zAt W w.heap.size (.int .i64 x.s) (.int .i64 x.r) (.int .i64 x.c)/\(W.cell? ⟨w.heap.size+1,0,none⟩=some (.string f.t)/\W.cell? ⟨w.heap.size+1,1,none⟩=some (.slice f.a f.n f.k))) (by kernel_rfl) ⟨zAC hb3 c2,zAG hb3 t3,zAC hb3 d0,zAC hb3 d1⟩ (λhHeld=>?_);have HM3:Hid (MB w2.drew mb F):=MB.below HM2.out hb3;have HB3:Hid (Below w.heap.size w w2.drew):=zAA HB2.out hb3;replace t3:=zAG hb3 t3
  replace c2:=zAC hb3 c2
  replace d0:=zAC hb3 d0
  replace d1:=zAC hb3 d1
  clear hb3 HM2 HB2;generalize w2.drew=W3 at *;refine tkQ 0 ?_
  refine tkQ 1 ?_
  refine tkQ 2 ?_
  refine tkQ 3 ?_
  refine tkQ 4 ?_
  refine tkQ 5 ?_
  refine rdQ 6 (λK hK=>?_);obtain ⟨w4,hup,hm4,hg4⟩:=zR2 HM3.out x f;go_simp
  have HF4:Hid (Fr [mb] W3 w4):=Fr.of_grown hg4 (λk e=>by cases e;simp);refine hkQ hK ⟨HF4.out.cell c2 HNE.out.1,⟨HF4.out.cell t3.1 HNE.out.2.1,HF4.out.cell t3.2.1 HNE.out.2.1,HF4.out.cell t3.2.2 HNE.out.2.1⟩,HF4.out.cell d0 HNE.out.2.2,HF4.out.cell d1 HNE.out.2.2⟩ (λhHeld=>?_);clear hK K
  refine wpAnyH_done (by kernel_rfl) ?_ _;have HE:Hid (MB w4 mb (zM7 x f F)/\Fr [mb] w w4):=⟨by rw [HL.out];exact hm4,(Fr.of_below [mb] HB3.out).trans HF4.out⟩
  clear hHeld hg4 hup hm4 HF4 HB3 HM3 c2 t3 d0 d1;go_wp2;first | (go_end0;exact ⟨rfl,HE.out.1,HE.out.2⟩) | exact bodyPost_ret (results_none rfl _ _ _) rfl ⟨rfl,HE.out.1,HE.out.2⟩
theorem zMv (w:World):(Instr.makeMap 55 none).run prog w=.ok (.map (some w.heap.size)) (w.alloc (.map #[] 0)):=by kernel_rfl
theorem zNC (w:World):MB (w.alloc (.map #[] 0)) w.heap.size []:=⟨#[],0,(Go.MapKept.heap_alloc w _).1,rfl,⟨λx hx=>(by cases hx),(by simp)⟩⟩
theorem zEO {S:List Nat} {k:Nat} {us:List Value} (h:AtL w k us) (hf:Fr S w w') (hn:k ∉ S):AtL w' k us :=
 ⟨Nat.lt_of_lt_of_le h.1 hf.size,λj v hv=>hf.cell (h.2.1 j v hv) hn,λj hj=>by rw [hf.frozen h.1 hn];exact h.2.2 j hj⟩
def raP (n:Nat) (rs:Ch->List I ⊕ (Int × Int)):List Ch->Nat->List (Wpl.Cl × Ce)->(Int × Int × Int) ⊕ List (Wpl.Cl × Ce)
 | [],_,N=>.inr N
 | a::r,i,N=>if zEW n a.x=false then .inl (110,(i:Int),0) else if (fnB a.x N 0).isSome=true then .inl (112,(i:Int),0) else
  match rs a with
  | .inr q=>.inl (q.1,(i:Int),q.2)
  | .inl C=>raP n rs r (i+1) (zF3 a.x ⟨a.t,C⟩ N)
def RaQ (R:(Int × Int × Int) ⊕ List (Wpl.Cl × Ce)) (w:World) (e:Ending) (w':World):Prop :=
 (
   match R with
   | .inl q=>q.1 ≠ 0/\e=.returned (.tuple #[.map none,.agg #[.int .i64 q.1,.int .i64 q.2.1,.int .i64 q.2.2]])
   | .inr N=>e=.returned (.tuple #[.map (some (w.heap.size+1)),.agg #[.int .i64 0,.int .i64 0,.int .i64 0]])/\∃ F,MB w' (w.heap.size+1) F/\Mt w' (w.heap.size+2) F N)/\Below w.heap.size w w'/\w.heap.size+2<=w'.heap.size
theorem zAv {P:Program} {fn:Func} {t s:Tmp} {T:TypeId} (h:fn.results=#[.tmp s,.cell t T]) (tmps:Array Value) (w:World) (b:Nat) (cs:List Value) (d:TypeDesc) (ht:tmps.getD t undef=.pointer (some ⟨b,0,none⟩)) (hc:w.rangeAt b 0 cs)
  (hu:P.underlying T=some d) (hd:d.isRow=true) (hi:(P.info? T).map (·.size)=some cs.length):(results fn tmps).run P w=.ok (.tuple #[tmps.getD s undef,.agg cs.toArray]) w:=by
 have hl:=run_loadVar_mid (P:=P) w b 0 T cs d hc hu hd hi;have ht':tmps[t]?.getD undef=.pointer (some ⟨b,0,none⟩):=by rw [<-ht];simp
 simp only [results,h];simp [ht',hl,asAddr]
theorem zDr (bb mb:Nat) (na:Option Addr) (nk:Nat) (nm:List ByteArray) (ver:Int) (av:Option Addr) (n cap:Nat) (L:List Ch) (rs:Ch->List I ⊕ (Int × Int)) (w:World) (hE:BEnv w) (h:AtL w bb [.slice na nm.length nk,.int .i64 ver,.map (some mb)]) (hS:RdS w na nm) (hk:nm.length<=nk) (hr:RdH w av L) (hn:L.length=n) (hN:True->n<=256)
  (hR:∀ a ∈ L,zEW nm.length a.x=true->zE0 nm a.x a.t (rs a)) :
  Calls prog 29 #[.pointer (some ⟨bb,0,none⟩),.slice av n cap] w (RaQ (raP nm.length rs L 0 []) w):=by
 obtain ⟨R,hRR⟩:∃ R,raP nm.length rs L 0 []=R:=⟨_,rfl⟩
 rw [hRR];have HR0:Hid (raP nm.length rs (L.drop 0) 0 []=R):=hRR;have HH:Hid (BEnv w/\AtL w bb [.slice na nm.length nk,.int .i64 ver,.map (some mb)]/\RdS w na nm/\nm.length<=nk/\RdH w av L/\L.length=n/\∀ a ∈ L,zEW nm.length a.x=true->zE0 nm a.x a.t (rs a)):=⟨hE,h,hS,hk,hr,hn,hR⟩
 have mm:=zMv (w.alloc (.cells #[.int .i64 0,.int .i64 0,.int .i64 0] 47));have hb0:=zAH (zAH (Below.refl _ w) (.cells #[.int .i64 0,.int .i64 0,.int .i64 0] 47)) (.map #[] 0);have p0:=(AtL.new0 w 47 [.int .i64 0,.int .i64 0,.int .i64 0]).alloc (.map #[] 0);have m0:=zNC (w.alloc (.cells #[.int .i64 0,.int .i64 0,.int .i64 0] 47));rw [World.size_alloc] at m0;have HB0:Hid (Below w.heap.size w ((w.alloc (.cells #[.int .i64 0,.int .i64 0,.int .i64 0] 47)).alloc (.map #[] 0))/\w.heap.size+2<=((w.alloc (.cells #[.int .i64 0,.int .i64 0,.int .i64 0] 47)).alloc (.map #[] 0)).heap.size):=⟨hb0,by simp⟩
 have HM0:Hid (∃ F,MB ((w.alloc (.cells #[.int .i64 0,.int .i64 0,.int .i64 0] 47)).alloc (.map #[] 0)) (w.heap.size+1) F/\Mt ((w.alloc (.cells #[.int .i64 0,.int .i64 0,.int .i64 0] 47)).alloc (.map #[] 0)) (w.heap.size+2) F []):=⟨[],m0,trivial⟩
 have HP0:Hid (AtL ((w.alloc (.cells #[.int .i64 0,.int .i64 0,.int .i64 0] 47)).alloc (.map #[] 0)) w.heap.size [.int .i64 0,.int .i64 0,.int .i64 0]):=p0;clear hE h hS hk hr hn hR hb0 p0 m0 hRR;go_enter func29,ntmps29;go_upto_region 3 with fail
 clear mm;generalize (w.alloc (.cells #[.int .i64 0,.int .i64 0,.int .i64 0] 47)).alloc (.map #[] 0)=W0 at *;go_loopg [17] n (λgk x wr=>∃ (i:Nat) (N:List (Wpl.Cl × Ce)),x=.int .i64 (i:Int)/\gk=n - i/\Hid (i<=n)/\Hid (raP nm.length rs (L.drop i) i N=R)/\Hid (∃ F,MB wr (w.heap.size+1) F/\Mt wr (w.heap.size+2) F N)/\Hid (AtL wr w.heap.size [.int .i64 0,.int .i64 0,.int .i64 0])/\Hid (Below w.heap.size w wr/\w.heap.size+2<=wr.heap.size))
 case atStart=>exact ⟨0,[],rfl,rfl,Nat.zero_le _,HR0,HM0,HP0,HB0⟩
 case round =>
  obtain ⟨i,N,rfl,hg,HI,HR,HM,HP,HB⟩:=hrel;generalize hw9:wr=W at *;clear hw9 HR0 HM0 HP0 HB0;by_cases hlt:i<n
  ·have hii:(i:Int)<(n:Int):=by omega
   have hiz:(0:Int)<=(i:Int):=by omega
   have hwi:IntKind.i64.wrap ((i:Int)+1)=(i:Int)+1:=by have:=hN trivial;rw [IntKind.wrap_i64];omega
   obtain ⟨a,ha⟩:∃ a,L[i]? = some a:=⟨L[i]'(by rw [HH.out.2.2.2.2.2.1];exact hlt),List.getElem?_eq_getElem _⟩
   have HMEM:Hid (a ∈ L):=List.mem_of_getElem? ha;have HD:Hid (raP nm.length rs (a::L.drop (i+1)) i N=R):=by
    show _=_
    have hl':i<L.length:=by rw [HH.out.2.2.2.2.2.1];exact hlt
    have e1:L[i]'hl'=a:=by
     have:=List.getElem?_eq_getElem (l:=L) (i:=i) hl';rw [ha] at this;exact (Option.some.inj this).symm
    have:=HR.out;rwa [List.drop_eq_getElem_cons hl',e1] at this
   obtain ⟨cb,off,e,hrow⟩:=HH.out.2.2.2.2.1.below HB.out.1 i a ha;subst e;have k0:W.cell? ⟨cb,off+i * 4,none⟩=some (.int .i64 a.x.s):=hrow 0 _ rfl;have k1:W.cell? ⟨cb,off+i * 4+1,none⟩=some (.int .i64 a.x.r):=hrow 1 _ rfl;have k2:W.cell? ⟨cb,off+i * 4+2,none⟩=some (.int .i64 a.x.c):=hrow 2 _ rfl;have k3:W.cell? ⟨cb,off+i * 4+3,none⟩=some (.string a.t):=hrow 3 _ rfl;have hb1:=zAH (Below.refl _ W) (.cells #[.int .i64 a.x.s,.int .i64 a.x.r,.int .i64 a.x.c,.string a.t] 50);have q1:=AtL.new0 W 50 [.int .i64 a.x.s,.int .i64 a.x.r,.int .i64 a.x.c,.string a.t];have HB1:Hid (Below w.heap.size w (W.alloc (.cells #[.int .i64 a.x.s,.int .i64 a.x.r,.int .i64 a.x.c,.string a.t] 50))/\w.heap.size+2<=(W.alloc (.cells #[.int .i64 a.x.s,.int .i64 a.x.r,.int .i64 a.x.c,.string a.t] 50)).heap.size):=⟨zAA HB.out.1 hb1,Nat.le_trans HB.out.2 hb1.size⟩
   have HP1:Hid (AtL (W.alloc (.cells #[.int .i64 a.x.s,.int .i64 a.x.r,.int .i64 a.x.c,.string a.t] 50)) w.heap.size [.int .i64 0,.int .i64 0,.int .i64 0]):=AtL.below hb1 HP.out;have HM1:Hid (∃ F,MB (W.alloc (.cells #[.int .i64 a.x.s,.int .i64 a.x.r,.int .i64 a.x.c,.string a.t] 50)) (w.heap.size+1) F/\Mt (W.alloc (.cells #[.int .i64 a.x.s,.int .i64 a.x.r,.int .i64 a.x.c,.string a.t] 50)) (w.heap.size+2) F N):=by
    obtain ⟨F,m1,m2⟩:=HM.out;exact ⟨F,m1.below hb1,m2.fr (Fr.of_below [] hb1) (by simp)⟩
   have HWS:Hid (w.heap.size+2<=W.heap.size):=HB.out.2;clear ha hrow hb1 HR HM HP HB;go_upto_region 5 with fail
   clear k0 k1 k2 k3;generalize W.alloc (.cells #[.int .i64 a.x.s,.int .i64 a.x.r,.int .i64 a.x.c,.string a.t] 50)=W1 at *;generalize heb:W.heap.size=eb at *;clear heb;have HS:=zM5 bb mb na nm.length nk ver a.x W1 (AtL.below HB1.out.1 HH.out.2.1);obtain ⟨q,hq⟩:∃ q,zEW nm.length a.x=q:=⟨_,rfl⟩
   rw [hq] at HS;have HQ:Hid (zEW nm.length a.x=q):=hq;clear hq;have j0:=q1.2.1 0 _ rfl;have j1:=q1.2.1 1 _ rfl;have j2:=q1.2.1 2 _ rfl;have j3:=q1.2.1 3 _ rfl;go_wp2_with fail
   refine HS.mono ?_;rintro e w2 ⟨rfl,hb2⟩;have HB2:Hid (Below w.heap.size w w2/\w.heap.size+2<=w2.heap.size):=⟨zAA HB1.out.1 hb2,Nat.le_trans HB1.out.2 hb2.size⟩
   have HP2:Hid (AtL w2 w.heap.size [.int .i64 0,.int .i64 0,.int .i64 0]):=AtL.below hb2 HP1.out;obtain ⟨F,hm2,mt2⟩:=HM1.out;have HM2:Hid (MB w2 (w.heap.size+1) F/\Mt w2 (w.heap.size+2) F N):=⟨hm2.below hb2,mt2.fr (Fr.of_below [] hb2) (by simp)⟩
   replace q1:=AtL.below hb2 q1
   replace j0:=zAC hb2 j0
   replace j1:=zAC hb2 j1
   replace j2:=zAC hb2 j2
   replace j3:=zAC hb2 j3
   clear hb2 HS HB1 HP1 HM1 hm2 mt2;cases q with
   | false =>
    have hRe:R=.inl (110,(i:Int),0):=by
     rw [<-HD.out];unfold raP;rw [if_pos HQ.out]
    have HPx:=HP2;have HBx:=HB2;clear HD HM2 HP2 HB2 HQ HMEM;obtain ⟨_,_,_,z0,z1,z2⟩:=HPx.out.three;obtain ⟨_,_,_,y0,y1,y2⟩:=(HPx.out.set 0 (.int .i64 110)).three;obtain ⟨_,_,_,x0,x1,x2⟩:=((HPx.out.set 0 (.int .i64 110)).set 1 (.int .i64 (i:Int))).three;have q2:=((HPx.out.set 0 (.int .i64 110)).set 1 (.int .i64 (i:Int))).set 2 (.int .i64 0);go_wp2;refine bodyPost_ret (zAv (by rfl) _ _ w.heap.size [.int .i64 110,.int .i64 (i:Int),.int .i64 0] _ (by rfl) q2.range underlying47 rfl (by kernel_rfl)) rfl ?_;try rw [hRe]
    exact ⟨⟨by show (110:Int) ≠ 0;decide,rfl⟩,zBJ HBx.out.1 (Nat.le_refl _) [.int .i64 110,.int .i64 (i:Int),.int .i64 0] 0,Nat.le_trans HBx.out.2 (zAf w.heap.size [.int .i64 110,.int .i64 (i:Int),.int .i64 0] 0 w2).size⟩
   | true =>
    go_upto_region 7 with fail
    have hl0:=zRD HM2.out.1 a.x;obtain ⟨g,hgc⟩:∃ g,gtC a.x F=g:=⟨_,rfl⟩
    obtain ⟨tw,htw⟩:∃ tw,gtH a.x F=tw:=⟨_,rfl⟩
    have HTW:Hid ((fnB a.x N 0).isSome=tw):=by
     show _=_
     rw [<-htw,<-(HM2.out.2.get a.x).2]
    have hlk:(Instr.lookup 55 (.map (some (w.heap.size+1))) (.agg #[.int .i64 a.x.s,.int .i64 a.x.r,.int .i64 a.x.c]) true).run prog w2=.ok (.tuple #[.agg #[.string g.t,.slice g.a g.n g.k],.bool tw]) w2:=by
     rw [hgc,htw] at hl0;exact hl0
    clear hgc htw hl0;have hb3:=zAH (Below.refl _ w2) (.cells #[.string g.t,.slice g.a g.n g.k] 61);go_upto_region 8 with fail
    have HB3:Hid (Below w.heap.size w (w2.alloc (.cells #[.string g.t,.slice g.a g.n g.k] 61))/\w.heap.size+2<=(w2.alloc (.cells #[.string g.t,.slice g.a g.n g.k] 61)).heap.size):=⟨zAA HB2.out.1 hb3,Nat.le_trans HB2.out.2 hb3.size⟩
    have HP3:Hid (AtL (w2.alloc (.cells #[.string g.t,.slice g.a g.n g.k] 61)) w.heap.size [.int .i64 0,.int .i64 0,.int .i64 0]):=AtL.below hb3 HP2.out;have HM3:Hid (MB (w2.alloc (.cells #[.string g.t,.slice g.a g.n g.k] 61)) (w.heap.size+1) F/\Mt (w2.alloc (.cells #[.string g.t,.slice g.a g.n g.k] 61)) (w.heap.size+2) F N):=⟨HM2.out.1.below hb3,HM2.out.2.fr (Fr.of_below [] hb3) (by simp)⟩
    replace q1:=AtL.below hb3 q1
    replace j0:=zAC hb3 j0
    replace j1:=zAC hb3 j1
    replace j2:=zAC hb3 j2
    replace j3:=zAC hb3 j3
    clear hlk hb3 HB2 HP2 HM2;generalize w2.alloc (.cells #[.string g.t,.slice g.a g.n g.k] 61)=W3 at *;cases tw with
    | true =>
     have hRe:R=.inl (112,(i:Int),0):=by
      rw [<-HD.out];unfold raP;rw [if_neg (by rw [HQ.out];decide),if_pos HTW.out]
     have HPx:=HP3;have HBx:=HB3;clear HD HM3 HP3 HB3 HQ HMEM HTW;obtain ⟨_,_,_,z0,z1,z2⟩:=HPx.out.three;obtain ⟨_,_,_,y0,y1,y2⟩:=(HPx.out.set 0 (.int .i64 112)).three;obtain ⟨_,_,_,x0,x1,x2⟩:=((HPx.out.set 0 (.int .i64 112)).set 1 (.int .i64 (i:Int))).three;have q2:=((HPx.out.set 0 (.int .i64 112)).set 1 (.int .i64 (i:Int))).set 2 (.int .i64 0);go_wp2;refine bodyPost_ret (zAv (by rfl) _ _ w.heap.size [.int .i64 112,.int .i64 (i:Int),.int .i64 0] _ (by rfl) q2.range underlying47 rfl (by kernel_rfl)) rfl ?_;try rw [hRe]
     exact ⟨⟨by show (112:Int) ≠ 0;decide,rfl⟩,zBJ HBx.out.1 (Nat.le_refl _) [.int .i64 112,.int .i64 (i:Int),.int .i64 0] 0,Nat.le_trans HBx.out.2 (zAf w.heap.size [.int .i64 112,.int .i64 (i:Int),.int .i64 0] 0 W3).size⟩
    | false =>
     have RI:=HH.out.2.2.2.2.2.2 a HMEM.out HQ.out bb mb na nk ver W3 (HH.out.1.below HB3.out.1) (AtL.below HB3.out.1 HH.out.2.1) (RdS.below HH.out.2.2.1 HB3.out.1) HH.out.2.2.2.1;cases hra:rs a with
     | inr er =>
      rw [hra] at RI;have hRe:R=.inl (er.1,(i:Int),er.2):=by
       rw [<-HD.out];unfold raP;rw [if_neg (by rw [HQ.out];decide),if_neg (by rw [HTW.out];decide),hra]
      clear HD HQ HMEM HTW hra HM3;go_wp2_with fail
      refine RI.mono ?_;rintro e w4 ⟨⟨hne,rfl⟩,hb4⟩;have hb5:=zAH hb4 (.cells #[.string ⟨#[]⟩,.slice none 0 0] 61);have HBx:Hid (Below w.heap.size w (w4.alloc (.cells #[.string ⟨#[]⟩,.slice none 0 0] 61))/\w.heap.size+2<=(w4.alloc (.cells #[.string ⟨#[]⟩,.slice none 0 0] 61)).heap.size):=⟨zAA HB3.out.1 hb5,Nat.le_trans HB3.out.2 hb5.size⟩
      have HPx:Hid (AtL (w4.alloc (.cells #[.string ⟨#[]⟩,.slice none 0 0] 61)) w.heap.size [.int .i64 0,.int .i64 0,.int .i64 0]):=AtL.below hb5 HP3.out;have HNE:Hid (er.1 ≠ 0):=hne;have hne':¬ er.1=0:=hne;clear RI HB3 HP3 hb4 hb5 hne j0 j1 j2 j3 q1;go_upto_region 11 with fail
      generalize w4.alloc (.cells #[.string ⟨#[]⟩,.slice none 0 0] 61)=W5 at *;obtain ⟨_,_,_,z0,z1,z2⟩:=HPx.out.three;obtain ⟨_,_,_,y0,y1,y2⟩:=(HPx.out.set 0 (.int .i64 er.1)).three;obtain ⟨_,_,_,x0,x1,x2⟩:=((HPx.out.set 0 (.int .i64 er.1)).set 1 (.int .i64 (i:Int))).three;have q2:=((HPx.out.set 0 (.int .i64 er.1)).set 1 (.int .i64 (i:Int))).set 2 (.int .i64 er.2);go_wp2;refine bodyPost_ret (zAv (by rfl) _ _ w.heap.size [.int .i64 er.1,.int .i64 (i:Int),.int .i64 er.2] _ (by rfl) q2.range underlying47 rfl (by kernel_rfl)) rfl ?_;try rw [hRe]
      exact ⟨⟨HNE.out,rfl⟩,zBJ HBx.out.1 (Nat.le_refl _) [.int .i64 er.1,.int .i64 (i:Int),.int .i64 er.2] 0,Nat.le_trans HBx.out.2 (zAf w.heap.size [.int .i64 er.1,.int .i64 (i:Int),.int .i64 er.2] 0 W5).size⟩
     | inl C =>
      rw [hra] at RI;have HR2:Hid (raP nm.length rs (L.drop (i+1)) (i+1) (zF3 a.x ⟨a.t,C⟩ N)=R):=by
       show _=_
       rw [<-HD.out];conv=>rhs;unfold raP
       rw [if_neg (by rw [HQ.out];decide),if_neg (by rw [HTW.out];decide),hra]
      clear HD HQ HMEM HTW hra;go_wp2_with fail
      refine RI.mono ?_;rintro e w4 ⟨⟨f,hft,hcd,rfl⟩,hb4⟩;have hb5:=zAH hb4 (.cells #[.string f.t,.slice f.a f.n f.k] 61);have hb6:=zAH (Below.refl _ w4) (.cells #[.string f.t,.slice f.a f.n f.k] 61);have HBx:Hid (Below w.heap.size w (w4.alloc (.cells #[.string f.t,.slice f.a f.n f.k] 61))/\w.heap.size+2<=(w4.alloc (.cells #[.string f.t,.slice f.a f.n f.k] 61)).heap.size):=⟨zAA HB3.out.1 hb5,Nat.le_trans HB3.out.2 hb5.size⟩
      have HPx:Hid (AtL (w4.alloc (.cells #[.string f.t,.slice f.a f.n f.k] 61)) w.heap.size [.int .i64 0,.int .i64 0,.int .i64 0]):=AtL.below hb5 HP3.out;have HMx:Hid (MB (w4.alloc (.cells #[.string f.t,.slice f.a f.n f.k] 61)) (w.heap.size+1) F/\Mt (w4.alloc (.cells #[.string f.t,.slice f.a f.n f.k] 61)) (w.heap.size+2) F N):=⟨HM3.out.1.below hb5,HM3.out.2.fr (Fr.of_below [] hb5) (by simp)⟩
      have HCx:Hid (CeP (w4.alloc (.cells #[.string f.t,.slice f.a f.n f.k] 61)) (w.heap.size+2) f ⟨a.t,C⟩):=⟨hft,(hcd.fr (Fr.of_below [] hb6) (by simp)).mono HB3.out.2⟩
      have qf:=AtL.new0 w4 61 [.string f.t,.slice f.a f.n f.k];replace q1:=AtL.below hb5 q1
      replace j0:=zAC hb5 j0
      replace j1:=zAC hb5 j1
      replace j2:=zAC hb5 j2
      clear RI HB3 HP3 HM3 hb4 hb5 hb6 hft hcd j3;go_upto_region 11 with fail
      generalize w4.alloc (.cells #[.string f.t,.slice f.a f.n f.k] 61)=W5 at *;generalize hfb:w4.heap.size=fb at *;clear hfb;obtain ⟨f0,f1,_,_⟩:=qf.two;obtain ⟨w6,hup,hm6,hg6⟩:=zR2 HMx.out.1 a.x f;have fr6:Fr [w.heap.size+1] W5 w6:=Fr.of_grown hg6 (λk e=>by cases e;simp);have HB6:Hid (Below w.heap.size w w6/\w.heap.size+2<=w6.heap.size):=⟨((Fr.of_below [w.heap.size+1] HBx.out.1).trans fr6).to_below (λk hk=>by simp at hk;omega),Nat.le_trans HBx.out.2 fr6.size⟩
      have HP6:Hid (AtL w6 w.heap.size [.int .i64 0,.int .i64 0,.int .i64 0]):=zEO HPx.out fr6 (by simp);have HM6:Hid (∃ F,MB w6 (w.heap.size+1) F/\Mt w6 (w.heap.size+2) F (zF3 a.x ⟨a.t,C⟩ N)):=⟨_,hm6,(HMx.out.2.put a.x HCx.out).fr fr6 (λk hk=>by simp at hk;omega)⟩
      clear HBx HPx HMx HCx hm6 hg6 fr6;go_wp2_with fail
      go_roundg (n - (i+1))
      case rel=>exact ⟨i+1,_,by simp,rfl,hlt,HR2,HM6,HP6,HB6⟩
      case measure=>omega
  ·have hii:¬ (i:Int)<(n:Int):=by omega
   have HE:Hid (R=.inr N):=by
    show _=_
    have:=HH.out.2.2.2.2.2.1;rw [<-HR.out,List.drop_eq_nil_of_le (by omega)];rfl
   have hRe:R=.inr N:=HE.out;obtain ⟨F,m1,m2⟩:=HM.out;have HM2:Hid (MB W (w.heap.size+1) F/\Mt W (w.heap.size+2) F N):=⟨m1,m2⟩
   clear HR HH HM m1 m2 HE;obtain ⟨_,_,_,z0,z1,z2⟩:=HP.out.three;obtain ⟨_,_,_,y0,y1,y2⟩:=(HP.out.set 0 (.int .i64 0)).three;obtain ⟨_,_,_,x0,x1,x2⟩:=((HP.out.set 0 (.int .i64 0)).set 1 (.int .i64 0)).three;have q2:=((HP.out.set 0 (.int .i64 0)).set 1 (.int .i64 0)).set 2 (.int .i64 0);go_wp2;refine bodyPost_ret (zAv (by rfl) _ _ w.heap.size [.int .i64 0,.int .i64 0,.int .i64 0] _ (by rfl) q2.range underlying47 rfl (by kernel_rfl)) rfl ?_;have fr:=zAf w.heap.size [.int .i64 0,.int .i64 0,.int .i64 0] 0 W;refine ⟨⟨rfl,F,MB.fr HM2.out.1 fr (by simp),Mt.fr fr (λk hk=>by simp at hk;omega) HM2.out.2⟩,?_,?_⟩
   ·exact zBJ HB.out.1 (Nat.le_refl _) [.int .i64 0,.int .i64 0,.int .i64 0] 0
   ·exact Nat.le_trans HB.out.2 fr.size
def lbE (G:List (Wpl.Cl × Ce)):List Ch->Int->Int
 | [],n=>n
 | a::r,n=>lbE G r ((if knd (gtE a.x G).t ≠ 0 then n - 1 else n)+(if a.t=⟨#[]⟩ then 0 else 1))
theorem zJK {w:World} {lo:Nat} {F:List (Wpl.Cl × Ct)} {G:List (Wpl.Cl × Ce)} (h:Mt w lo F G):∀ (L:List Ch) (n:Int),lbP F L n=lbE G L n
 | [],n=>rfl
 | a::r,n=>by
  unfold lbP lbE;rw [(h.get a.x).1.1,zJK h r]
def zLt (x:Wpl.Cl) (f:Ce) (G:List (Wpl.Cl × Ce)):List (Wpl.Cl × Ce):=if f.t=⟨#[]⟩ then zHh x G else zF3 x f G
theorem Mt.lay {F:List (Wpl.Cl × Ct)} (h:Mt w lo F G) (x:Wpl.Cl) {f:Ct} {g:Ce} (hc:CeP w lo f g):Mt w lo (zM7 x f F) (zLt x g G):=by
 unfold zM7 zLt;rw [hc.1];split
 ·exact h.del x
 ·exact h.put x hc
def zIp (N:List (Wpl.Cl × Ce)):List Ch->List (Wpl.Cl × Ce)->List (Wpl.Cl × Ce)
 | [],G=>G
 | a::r,G=>zIp N r (zLt a.x (gtE a.x N) G)
def EdQ (bb mb lo:Nat) (na:Option Addr) (nk:Nat) (nm:List ByteArray) (r:(Int × Int × Int) × Int × List (Wpl.Cl × Ce)) (w:World) (e:Ending) (w':World):Prop :=
 e=.returned (.agg #[.int .i64 r.1.1,.int .i64 r.1.2.1,.int .i64 r.1.2.2])/\BK w' bb mb lo na nk nm r.2.1 r.2.2/\Fr [bb,mb] w w'
theorem EdQ.same {bb mb:Nat} {na:Option Addr} {nk:Nat} {nm:List ByteArray} {ver:Int} {c i p:Int} (h:BK w bb mb lo na nk nm ver G) (hb:Below w.heap.size w w'):EdQ bb mb lo na nk nm ((c,i,p),ver,G) w (.returned (.agg #[.int .i64 c,.int .i64 i,.int .i64 p])) w':=⟨rfl,h.below hb,Fr.of_below _ hb⟩
theorem zIb (bb mb lo:Nat) (na:Option Addr) (nk:Nat) (nm:List ByteArray) (ver:Int) (G:List (Wpl.Cl × Ce)) (av:Option Addr) (n cap:Nat) (w:World) (h:BK w bb mb lo na nk nm ver G) (hn:n=0) :
  Calls prog 14 #[.pointer (some ⟨bb,0,none⟩),.slice av n cap] w (EdQ bb mb lo na nk nm ((114,0,0),ver,G) w):=by
 subst hn;have HH:Hid (BK w bb mb lo na nk nm ver G):=h;have hb0:=zAH (Below.refl _ w) (.cells #[.int .i64 0,.int .i64 0,.int .i64 0] 47);have p:=AtL.new0 w 47 [.int .i64 0,.int .i64 0,.int .i64 0];clear h;go_enter func14,ntmps14;go_upto_region 2 with fail
 generalize w.alloc (.cells #[.int .i64 0,.int .i64 0,.int .i64 0] 47)=W0 at *;have HPx:Hid (AtL W0 w.heap.size [.int .i64 0,.int .i64 0,.int .i64 0]):=p;clear p;obtain ⟨_,_,_,z0,z1,z2⟩:=HPx.out.three;obtain ⟨_,_,_,y0,y1,y2⟩:=(HPx.out.set 0 (.int .i64 114)).three;obtain ⟨_,_,_,x0,x1,x2⟩:=((HPx.out.set 0 (.int .i64 114)).set 1 (.int .i64 0)).three;have q2:=((HPx.out.set 0 (.int .i64 114)).set 1 (.int .i64 0)).set 2 (.int .i64 0);go_wp2;refine bodyPost_ret (zA2 (by rfl) _ _ w.heap.size [.int .i64 114,.int .i64 0,.int .i64 0] _ (by rfl) q2.range underlying47 rfl (by kernel_rfl)) rfl ?_;exact EdQ.same HH.out (zBJ hb0 (Nat.le_refl _) [.int .i64 114,.int .i64 0,.int .i64 0] 0)
theorem zKQ (bb mb lo:Nat) (na:Option Addr) (nk:Nat) (nm:List ByteArray) (ver:Int) (G:List (Wpl.Cl × Ce)) (av:Option Addr) (n cap:Nat) (w:World) (h:BK w bb mb lo na nk nm ver G) (hn:256<n) :
  Calls prog 14 #[.pointer (some ⟨bb,0,none⟩),.slice av n cap] w (EdQ bb mb lo na nk nm ((3,0,0),ver,G) w):=by
 have HH:Hid (BK w bb mb lo na nk nm ver G):=h;have hb0:=zAH (Below.refl _ w) (.cells #[.int .i64 0,.int .i64 0,.int .i64 0] 47);have p:=AtL.new0 w 47 [.int .i64 0,.int .i64 0,.int .i64 0];have h1:¬ (n:Int)=0:=by omega
 have h2:(256:Int)<(n:Int):=by omega
 clear h hn;go_enter func14,ntmps14;go_upto_region 4 with fail
 generalize w.alloc (.cells #[.int .i64 0,.int .i64 0,.int .i64 0] 47)=W0 at *;have HPx:Hid (AtL W0 w.heap.size [.int .i64 0,.int .i64 0,.int .i64 0]):=p;clear p;obtain ⟨_,_,_,z0,z1,z2⟩:=HPx.out.three;obtain ⟨_,_,_,y0,y1,y2⟩:=(HPx.out.set 0 (.int .i64 3)).three;obtain ⟨_,_,_,x0,x1,x2⟩:=((HPx.out.set 0 (.int .i64 3)).set 1 (.int .i64 0)).three;have q2:=((HPx.out.set 0 (.int .i64 3)).set 1 (.int .i64 0)).set 2 (.int .i64 0);go_wp2;refine bodyPost_ret (zA2 (by rfl) _ _ w.heap.size [.int .i64 3,.int .i64 0,.int .i64 0] _ (by rfl) q2.range underlying47 rfl (by kernel_rfl)) rfl ?_;exact EdQ.same HH.out (zBJ hb0 (Nat.le_refl _) [.int .i64 3,.int .i64 0,.int .i64 0] 0)
theorem zJ2 (bb mb lo:Nat) (na:Option Addr) (nk:Nat) (nm:List ByteArray) (ver:Int) (G:List (Wpl.Cl × Ce)) (av:Option Addr) (n cap:Nat) (L:List Ch) (rs:Ch->List I ⊕ (Int × Int)) (w:World) (hE:BEnv w) (h:BK w bb mb lo na nk nm ver G) (hr:RdH w av L) (hl:L.length=n) (hn:n ≠ 0) (hN:n<=256) (hR:∀ a ∈ L,zEW nm.length a.x=true->zE0 nm a.x a.t (rs a)) (q:Int × Int × Int) (hq:raP nm.length rs L 0 []=.inl q) :
  Calls prog 14 #[.pointer (some ⟨bb,0,none⟩),.slice av n cap] w (EdQ bb mb lo na nk nm (q,ver,G) w):=by
 have HH:Hid (BK w bb mb lo na nk nm ver G):=h;have hb0:=zAH (Below.refl _ w) (.cells #[.int .i64 0,.int .i64 0,.int .i64 0] 47);have p:=AtL.new0 w 47 [.int .i64 0,.int .i64 0,.int .i64 0];have h1:¬ (n:Int)=0:=by omega
 have h2:¬ (256:Int)<(n:Int):=by omega
 have RA:=zDr bb mb na nk nm ver av n cap L rs (w.alloc (.cells #[.int .i64 0,.int .i64 0,.int .i64 0] 47)) (hE.below hb0) (AtL.below hb0 h.hd) (RdS.below h.rs hb0) h.kp (hr.below hb0) hl (λ_=>hN) hR;rw [hq] at RA;clear hE h hr hl hn hN hR hq;obtain ⟨c,i,pp⟩:=q;go_enter func14,ntmps14;go_upto_region 1 with fail
 generalize w.alloc (.cells #[.int .i64 0,.int .i64 0,.int .i64 0] 47)=W0 at *;go_wp2_with fail
 refine RA.mono ?_;rintro e w1 ⟨⟨hc,rfl⟩,hb1,_⟩;have hc':¬ c=0:=hc;have q1:=AtL.new0 w1 47 [.int .i64 c,.int .i64 i,.int .i64 pp];have hb2:=zAH (zAA hb0 hb1) (.cells #[.int .i64 c,.int .i64 i,.int .i64 pp] 47);have HPx:Hid (AtL (w1.alloc (.cells #[.int .i64 c,.int .i64 i,.int .i64 pp] 47)) w.heap.size [.int .i64 0,.int .i64 0,.int .i64 0]):=AtL.alloc (AtL.below hb1 p) _;clear RA hb1 hc p hb0;go_upto_region 6 with fail
 generalize w1.alloc (.cells #[.int .i64 c,.int .i64 i,.int .i64 pp] 47)=W2 at *;obtain ⟨j0,j1,j2,_⟩:=q1.three;obtain ⟨_,_,_,z0,z1,z2⟩:=HPx.out.three;obtain ⟨_,_,_,y0,y1,y2⟩:=(HPx.out.set 0 (.int .i64 c)).three;obtain ⟨_,_,_,x0,x1,x2⟩:=((HPx.out.set 0 (.int .i64 c)).set 1 (.int .i64 i)).three;have q2:=((HPx.out.set 0 (.int .i64 c)).set 1 (.int .i64 i)).set 2 (.int .i64 pp);go_wp2;refine bodyPost_ret (zA2 (by rfl) _ _ w.heap.size [.int .i64 c,.int .i64 i,.int .i64 pp] _ (by rfl) q2.range underlying47 rfl (by kernel_rfl)) rfl ?_;exact EdQ.same HH.out (zBJ hb2 (Nat.le_refl _) [.int .i64 c,.int .i64 i,.int .i64 pp] 0)
theorem zKR (bb mb lo:Nat) (na:Option Addr) (nk:Nat) (nm:List ByteArray) (ver:Int) (G:List (Wpl.Cl × Ce)) (av:Option Addr) (n cap:Nat) (L:List Ch) (rs:Ch->List I ⊕ (Int × Int)) (w:World) (hE:BEnv w) (h:BK w bb mb lo na nk nm ver G) (hr:RdH w av L) (hl:L.length=n) (hn:n ≠ 0) (hN:n<=256) (hR:∀ a ∈ L,zEW nm.length a.x=true->zE0 nm a.x a.t (rs a)) (N:List (Wpl.Cl × Ce)) (hq:raP nm.length rs L 0 []=.inr N) (hG:G.length<=1000000) (hs:∀ y,(gtE y G).t.size<=9223372036854775807) (hf:4096<lbE G L (G.length:Int)) :
  Calls prog 14 #[.pointer (some ⟨bb,0,none⟩),.slice av n cap] w (EdQ bb mb lo na nk nm ((113,0,0),ver,G) w):=by
 have HH:Hid (BK w bb mb lo na nk nm ver G):=h;have hb0:=zAH (Below.refl _ w) (.cells #[.int .i64 0,.int .i64 0,.int .i64 0] 47);have p:=AtL.new0 w 47 [.int .i64 0,.int .i64 0,.int .i64 0];have h1:¬ (n:Int)=0:=by omega
 have h2:¬ (256:Int)<(n:Int):=by omega
 have RA:=zDr bb mb na nk nm ver av n cap L rs (w.alloc (.cells #[.int .i64 0,.int .i64 0,.int .i64 0] 47)) (hE.below hb0) (AtL.below hb0 h.hd) (RdS.below h.rs hb0) h.kp (hr.below hb0) hl (λ_=>hN) hR;rw [hq] at RA;obtain ⟨F,m1,m2⟩:=h.mp;have HLB:Hid (∀ W,Below w.heap.size w W->Calls prog 30 #[.pointer (some ⟨bb,0,none⟩),.slice av n cap] W λe w'=>e=.returned (.int .i64 (lbE G L (G.length:Int)))/\Below W.heap.size W w'):=λW hb=>by
  have:=zGn bb mb (.slice na nm.length nk) ver F av n cap L W (AtL.below hb h.hd) (m1.below hb) (hr.below hb) hl (λ_=>hN) (λ_=>by rw [m2.len];exact hG) (λy=>by rw [(m2.get y).1.1];exact hs y);rw [zJK m2,m2.len] at this;exact this
 obtain ⟨lb,hlb⟩:∃ lb,lbE G L (G.length:Int)=lb:=⟨_,rfl⟩
 rw [hlb] at HLB hf;clear hE h hr hl hn hN hR hq hG hs hlb m1 m2;go_enter func14,ntmps14;go_upto_region 1 with fail
 generalize w.alloc (.cells #[.int .i64 0,.int .i64 0,.int .i64 0] 47)=W0 at *;go_wp2_with fail
 refine RA.mono ?_;rintro e w1 ⟨⟨rfl,_⟩,hb1,_⟩;have q1:=AtL.new0 w1 47 [.int .i64 0,.int .i64 0,.int .i64 0];have hb2:=zAH (zAA hb0 hb1) (.cells #[.int .i64 0,.int .i64 0,.int .i64 0] 47);have p2:AtL (w1.alloc (.cells #[.int .i64 0,.int .i64 0,.int .i64 0] 47)) w.heap.size [.int .i64 0,.int .i64 0,.int .i64 0]:=AtL.alloc (AtL.below hb1 p) _;clear RA hb1 p hb0;go_upto_region 6 with fail
 generalize w1.alloc (.cells #[.int .i64 0,.int .i64 0,.int .i64 0] 47)=W2 at *;obtain ⟨j0,j1,j2,_⟩:=q1.three;have LB:=HLB.out W2 hb2;go_wp2_with fail
 refine LB.mono ?_;rintro e w3 ⟨rfl,hb3⟩;have HPx:Hid (AtL w3 w.heap.size [.int .i64 0,.int .i64 0,.int .i64 0]):=AtL.below hb3 p2;replace hb2:=zAA hb2 hb3
 clear LB HLB hb3 p2 q1;go_upto_region 9 with fail
 obtain ⟨_,_,_,z0,z1,z2⟩:=HPx.out.three;obtain ⟨_,_,_,y0,y1,y2⟩:=(HPx.out.set 0 (.int .i64 113)).three;obtain ⟨_,_,_,x0,x1,x2⟩:=((HPx.out.set 0 (.int .i64 113)).set 1 (.int .i64 0)).three;have q2:=((HPx.out.set 0 (.int .i64 113)).set 1 (.int .i64 0)).set 2 (.int .i64 0);go_wp2;refine bodyPost_ret (zA2 (by rfl) _ _ w.heap.size [.int .i64 113,.int .i64 0,.int .i64 0] _ (by rfl) q2.range underlying47 rfl (by kernel_rfl)) rfl ?_;exact EdQ.same HH.out (zBJ hb2 (Nat.le_refl _) [.int .i64 113,.int .i64 0,.int .i64 0] 0)
