/- Queues: the row sorted. -/
import Derived.Test.YtpbjmhcpaeillaaQLayS
import Derived.Test.YtpbjmhcpaeillaaQLev
import Derived.Shelf.SlSortCmp.NoneTotal
namespace Wq
/-- Does one not stand behind another one? -/
def leW (a b : Wr) : Bool := !ltW b a
theorem leW_tr (a b c : Wr) (h1 : leW a b = true) (h2 : leW b c = true) : leW a c = true := by
  unfold leW at *
  rw [Bool.not_eq_true'] at *
  exact ord_W.trans _ _ _ h1 h2
theorem leW_tot (a b : Wr) : (leW a b || leW b a) = true := by
  unfold leW
  cases h : ltW b a with
  | false => rfl
  | true => rw [ord_W.asym _ _ h]; rfl
/-- The row in order. -/
def srt (l : List Wr) : List Wr := l.mergeSort leW
theorem srt_perm (l : List Wr) : (srt l).Perm l := List.mergeSort_perm l leW
theorem srt_pw (l : List Wr) : (srt l).Pairwise (fun a b => ltW b a = false) := by
  have := List.pairwise_mergeSort leW_tr leW_tot l
  refine List.Pairwise.imp (fun h => ?_) this
  unfold leW at h
  rwa [Bool.not_eq_true'] at h
theorem srt_of {l m : List Wr} (h : m.Perm l) (hm : m.Pairwise (fun a b => ltW b a = false)) : srt l = m := rows_one ((srt_perm l).trans h.symm) (srt_pw l) hm
theorem srt_one {l m : List Wr} (h : l.Perm m) : srt l = srt m := srt_of ((srt_perm m).trans h.symm) (srt_pw m)
theorem srt_len (l : List Wr) : (srt l).length = l.length := (srt_perm l).length_eq
end Wq
namespace Go.Proofs.Ytpbjmhcpaeillaa
open Go.RowKit Go.Sort
set_option linter.unusedVariables false

theorem ltOf_W (a b : Wq.Wr) : ltOf Wq.cmpW a b = Wq.ltW a b := Wq.cmpW_lt a b
theorem swoW : SWO (ltOf Wq.cmpW) := ⟨fun x => by rw [ltOf_W]; exact Wq.ord_irr x, fun x y z h1 h2 => by rw [ltOf_W] at *; exact Wq.ord_tr h1 h2, fun x y z h1 h2 => by rw [ltOf_W] at *; exact Wq.ord_W.trans _ _ _ h2 h1⟩
set_option maxRecDepth 100000 in
theorem sorted1_D (a b : Wq.Wr) (w : World) : Calls Try.prog 50 #[.agg (wrV a).toArray, .agg (wrV b).toArray] w fun en w' => en = .returned (.int .i64 (Wq.cmpW a b)) ∧ BlD w w' := by
  have p1 := (AtL.new0 w 58 [.int .i64 a.s, .int .i64 a.r, .int .i64 a.c, .int .i64 a.ln, .int .i64 a.lv]).alloc (.cells #[.int .i64 b.s, .int .i64 b.r, .int .i64 b.c, .int .i64 b.ln, .int .i64 b.lv] 58)
  have p2 := AtL.new1 w (.cells #[.int .i64 a.s, .int .i64 a.r, .int .i64 a.c, .int .i64 a.ln, .int .i64 a.lv] 58) 58 [.int .i64 b.s, .int .i64 b.r, .int .i64 b.c, .int .i64 b.ln, .int .i64 b.lv]
  have f1 := AtL.f5 p1
  have f2 := AtL.f5 p2
  have hb0 := ballD (ballD (BlD.refl w) (.cells #[.int .i64 a.s, .int .i64 a.r, .int .i64 a.c, .int .i64 a.ln, .int .i64 a.lv] 58)) (.cells #[.int .i64 b.s, .int .i64 b.r, .int .i64 b.c, .int .i64 b.ln, .int .i64 b.lv] 58)
  have HB0 : Hid (BlD w ((w.alloc (.cells #[.int .i64 a.s, .int .i64 a.r, .int .i64 a.c, .int .i64 a.ln, .int .i64 a.lv] 58)).alloc (.cells #[.int .i64 b.s, .int .i64 b.r, .int .i64 b.c, .int .i64 b.ln, .int .i64 b.lv] 58))) := hb0
  clear p1 p2 hb0
  show Calls _ _ #[.agg #[.int .i64 a.s, .int .i64 a.r, .int .i64 a.c, .int .i64 a.ln, .int .i64 a.lv], .agg #[.int .i64 b.s, .int .i64 b.r, .int .i64 b.c, .int .i64 b.ln, .int .i64 b.lv]] _ _
  go_enter Try.func50, Try.ntmps50
  go_upto_region 1 with fail
  generalize (w.alloc (.cells #[.int .i64 a.s, .int .i64 a.r, .int .i64 a.c, .int .i64 a.ln, .int .i64 a.lv] 58)).alloc (.cells #[.int .i64 b.s, .int .i64 b.r, .int .i64 b.c, .int .i64 b.ln, .int .i64 b.lv] 58) = W0 at *
  obtain ⟨a0, a1, a2, a3, a4⟩ := f1
  obtain ⟨b0, b1, b2, b3, b4⟩ := f2
  go_wp2_with fail
  refine (compare_D a b _).mono ?_
  rintro en w1 ⟨rfl, hb1⟩
  have HB1 : Hid (BlD w w1) := endD HB0.out hb1
  clear hb1 HB0
  go_wp2
  go_ret
  exact ⟨rfl, HB1.out⟩
abbrev inW : Inhabited Wq.Wr := ⟨zeW⟩
theorem cmpLaysQ (blk off size : Nat) (w : World) : @CmpLays Wq.Wr inW Try.prog 50 #[] wrV 5 Wq.cmpW blk off size w := fun m os dk _ x y => by
  refine (sorted1_D x y _).mono ?_
  rintro en w1 ⟨he, hb⟩
  exact ⟨he, hb.grow⟩
theorem flatKW (l : List Wq.Wr) : (@flatK Wq.Wr inW wrV 5 l.toArray).toList = flatW l := by
  letI : Inhabited Wq.Wr := inW
  apply List.ext_getElem?
  intro t
  by_cases h : t < l.length * 5
  · have hi : t / 5 < l.length := by omega
    have q := flatW_gt l (t / 5) hi (t % 5) (by omega)
    rw [show t / 5 * 5 + t % 5 = t from by omega] at q
    rw [q]
    have e : (l.toArray)[t / 5]! = l[t / 5] := by simp [hi]
    have h5 : t % 5 < (wrV (l[t / 5])).length := by simp [wrV]; omega
    rw [Array.getElem?_toList]
    simp only [flatK, Array.getElem?_map, List.size_toArray, Array.getElem?_range, h, if_true, Option.map_some]
    rw [e, List.getElem?_eq_getElem h5]
    congr 1
    rw [List.getElem!_eq_getElem?_getD, List.getElem?_eq_getElem h5]
    rfl
  · rw [List.getElem?_eq_none (by simp [size_flatK]; omega), List.getElem?_eq_none (by rw [flatW_len]; omega)]
theorem flatKW_get (l : List Wq.Wr) (j : Nat) (hj : j < l.length * 5) : (flatW l)[j]? = some ((@flatK Wq.Wr inW wrV 5 l.toArray)[j]!) := by
  rw [← flatKW, Array.getElem?_toList]
  have : j < (@flatK Wq.Wr inW wrV 5 l.toArray).size := by simp [size_flatK]; omega
  rw [getElem!_pos (@flatK Wq.Wr inW wrV 5 l.toArray) j this, Array.getElem?_eq_getElem this]
/-- What SortFunc answers. -/
def SfP (l : List Wq.Wr) (g : Nat) (w : World) (en : Ending) (w' : World) : Prop := en = .returned (.tuple #[]) ∧ (∀ j u, (flatW (Wq.srt l))[j]? = some u → w'.cell? ⟨g, j, none⟩ = some u) ∧ w.grownBy w' (some g)
theorem sortF_any (g n cap B : Nat) (l : List Wq.Wr) (w : World) (h : w.ownsRow B 58 5 (.slice (some ⟨g, 0, none⟩) n cap) n (flatW l)) (hn : l.length = n) (hN : True → n ≤ 1000000000) :
    Calls Try.prog 49 #[.slice (some ⟨g, 0, none⟩) n cap, .func (.func 50) #[] #[]] w (SfP l g w) := by
  have hN := hN trivial
  subst hn
  have hlt := (own_blk h rfl).2
  have hH : @HoldsK Wq.Wr inW wrV 5 w g 0 l.toArray := fun j hj => by
    have hj5 : j < l.length * 5 := by simpa [size_flatK] using hj
    have e := flatKW_get l j hj5
    have hc := h.cells (g := g) rfl j _ e
    rw [show (⟨g, 0, none⟩ : Addr).add j = ⟨g, 0 + j, none⟩ from by simp [Addr.add]; intro h; omega] at hc
    refine ⟨hc, ?_⟩
    rcases h.2 with ⟨e, _⟩ | ⟨g', cap', cur, e, _, hg, _⟩
    · cases e
    · simp only [Value.slice.injEq, Option.some.injEq, Addr.mk.injEq] at e
      obtain ⟨⟨rfl, _⟩, _⟩ := e
      simp [World.frozen?, hg]
  have eg : ∀ args w, (callFunc 50 args).run Try.prog w = .ok (.enter 50 args) w := enters_of Try.func50 (by kernel_rfl) rfl
  have hcon := @AnyQ.slices_SortFunc_total Try.prog srtQ_ren Wq.Wr inW srtQ 5 Try.isAgg58 Try.sizeOf58 wrV (fun _ => rfl) oneWl Wq.cmpW swoW 50 #[] g 0 cap l.toArray w eg (cmpLaysQ g 0 l.length w) hH hlt (by simp; omega) (fun x y h1 h2 => by rw [ltOf_W] at *; exact Wq.ltW_eq h1 h2)
  change Calls Try.prog 49 _ _ _ at hcon
  refine hcon.mono ?_
  rintro en w' ⟨he, m, os, hw⟩
  have es : (l.toArray.toList.mergeSort fun x y => !(ltOf Wq.cmpW) y x) = Wq.srt l := by
    unfold Wq.srt
    congr 1
    funext x y
    rw [ltOf_W]
    rfl
  rw [es] at hw
  have hs : (Wq.srt l).toArray.size = l.toArray.size := by simp [Wq.srt_len]
  have hH2 : @HoldsK Wq.Wr inW wrV 5 w' g 0 (Wq.srt l).toArray := by
    rw [hw]
    exact @holdsK_grow Wq.Wr inW wrV 5 _ os g 0 _ (by simpa [putRowK] using hlt) (@holdsK_putRowK Wq.Wr inW wrV 5 _ g 0 _ _ (@holdsK_ahead Wq.Wr inW wrV 5 w m g 0 _ hH) hs)
  refine ⟨he, fun j u hu => ?_, ?_⟩
  · have hj5 : j < (Wq.srt l).length * 5 := by rw [← flatW_len]; exact (List.getElem?_eq_some_iff.1 hu).1
    have e := flatKW_get (Wq.srt l) j hj5
    rw [hu] at e
    have := (hH2 j (by simp only [size_flatK]; simpa using hj5)).1
    rw [Nat.zero_add] at this
    rw [this]
    exact e.symm
  · rw [hw]
    refine ⟨rfl, rfl, rfl, by simp [sortWorldK, putRowK, grow, Sort.ahead], fun k hk hne => ?_⟩
    have hgk : g ≠ k := fun e => hne (by rw [e])
    letI : Inhabited Wq.Wr := inW
    show (grow (putRowK wrV 5 (Sort.ahead w m) g 0 (Wq.srt l).toArray) os).heap[k]? = _
    rw [heap_grow_old _ _ (by simpa [putRowK] using hk)]
    simp [putRowK, putRow, mapBlock, Sort.ahead, Array.getElem?_modify, hgk]
end Go.Proofs.Ytpbjmhcpaeillaa
