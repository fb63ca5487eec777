import PyProof.Rows.All
import Wide.All
import OpenK.AllK
import Wide.FinOn
import HandS.ForMost
import HandS.Codes
import HandS.Replace
import HandS.DeepEq
import KE.KeyNested
import KE.KDictCopyH
import PyProof.DictMoreH
import PyProof.DictUpdate
import KE.KDictOf
import HandS.IsInst
import HandS.Conv
import PyProof.ReprRoads
import PyProof.StrLawsRepr
import PyProof.EqKinds
import KE.KIsAll
import PyProof.Rows.StrMeet
import HandS.DictComp
import HandS.Flow
import HandS.Walk
import HandS.Finally
import HandS.WordsDict
import HandS.SetTxt0
import HandS.SetBool
import HandS.SetFor
import HandS.Strs
import PyProof.Rows.SortShellAny
import HandS.Comp
import PyProof.NsCount
import HandS.OwnEq
import PyProof.NeKinds
import PyProof.InstEq
import HandS.Iter
import KE.GoesEnum
import OpenK.KMeth
import OpenK.KOps
import KE.KOpsOwn
import HandS.More
import HandS.ExcInit
import HandS.ExcField
import HandS.ExcIs
import HandS.HotCalls
import HandS.Small
import KE.KExcIs
import HandS.ExcOwn
import HandS.ExcCtx
import HandS.Style
import HandS.TupLe
import HandS.Defaults
import PySem.Challenge.RW_endchecks_k26_two_hundred_rows
set_option Elab.async false
set_option linter.all false
set_option maxRecDepth 100000
namespace Lw
open PySem PySem.Spec PyProof.Rows L2
/-! ### small words -/
theorem small {n : Nat} (h : n ≤ 1000) : n ≤ sizeLine := Nat.le_of_lt (small1000 h)
theorem same_new {H : Hp} {p : Addr} (h : H p = none) (o : HO) : Same H (upd H p o) := fun b u q => by rw [upd_ne (ne_of_none q h)]; exact q
/-- all that was tracked is as it was, but what stands at b -/
def But (b : Addr) (H H' : Hp) : Prop := ∀ a o, H a = some o → a ≠ b → H' a = some o
theorem But.refl (b : Addr) (H : Hp) : But b H H := fun _ _ h _ => h
theorem But.trans {b : Addr} {H H1 H2 : Hp} (x : But b H H1) (y : But b H1 H2) : But b H H2 := fun a o h n => y a o (x a o h n) n
theorem But.of {b : Addr} {H H' : Hp} (x : Same H H') : But b H H' := fun a o h _ => x a o h
theorem But.new {b p : Addr} {H H' : Hp} {o : HO} (x : But b H H') (h : H' p = none) : But b H (upd H' p o) := fun a u q n => by
  have q' := x a u q n
  rw [upd_ne (ne_of_none q' h)]
  exact q'
theorem But.set {b : Addr} {H H' : Hp} {o : HO} (x : But b H H') : But b H (upd H' b o) := fun a u q n => by
  rw [upd_ne n]
  exact x a u q n
/-- xs[i] read for xs[i] op= e -/
def rGetL (K : PySem.W.Frag) : V → V → Hp → VK → Prop := fun x y H Q => ∃ p xs i v, x = .ref p ∧ y = .int i ∧ 0 ≤ i ∧ SqL K H p xs ∧ xs[i.toNat]? = some v ∧ Q v H
theorem get_list {X : Cx} : PGet X (rGetL X.K) := by
  intro pins s σ H x y v u Q I rx ry h
  obtain ⟨p, xs, i, z, rfl, rfl, h0, hq, he, q⟩ := h
  cases rx
  obtain ⟨t, rfl⟩ := ry
  obtain ⟨its, r, pl, hz⟩ := I.list hq
  obtain ⟨w, ew, rw'⟩ := r.get he
  have hl := r.length
  have hn := line63
  have hlt : i.toNat < xs.length := (List.getElem?_eq_some_iff.mp he).1
  exact wpAny_getItem_list pl.isList h0 (by omega) (by simpa using ew) ⟨z, H, I, rw', q⟩
theorem map_get {α : Type} {f : α → V} {l : List α} {i : Nat} {x : V} (h : (l.map f)[i]? = some x) : ∃ z, l[i]? = some z ∧ x = f z := by
  rw [List.getElem?_map] at h
  cases e : l[i]? with
  | none => rw [e] at h; cases h
  | some z => rw [e] at h; exact ⟨z, rfl, (Option.some.inj h).symm⟩
theorem cut_ints (ns : List Int) (h : ns.length ≤ 63) : ∃ ms : List Int, cutV (ns.map V.int) none (some 63) = ms.map V.int ∧ ms.length ≤ 63 := by
  unfold cutV
  refine ⟨((ns.drop (HT.sIx (ns.map V.int).length 0 none)).take (HT.sIx (ns.map V.int).length (ns.map V.int).length (some 63) - HT.sIx (ns.map V.int).length 0 none)), ?_, ?_⟩
  · rw [List.map_take, List.map_drop]
  · rw [List.length_take, List.length_drop]
    omega
theorem cut_ints' (ns : List Int) (lo hi : Option Int) : ∃ ms : List Int, cutV (ns.map V.int) lo hi = ms.map V.int := by
  unfold cutV
  exact ⟨_, by rw [← List.map_drop, ← List.map_take]⟩
theorem yes_if {σ : L2.St} {H : Hp} {F G : Hp → Prop} (h : F H) : tYes σ H (fun b H3 => if b = true then F H3 else G H3) := by
  show if true = true then F H else G H
  exact iteT h
theorem BagNe {H : Hp} {b p : Addr} {o : HO} (h : H b = some o) (n : H p = none) : p ≠ b := (ne_of_none h n).symm
/-- a comprehension over a text's signs -/
theorem lc_strI {z : Str} {g : TG} {tt : TT} {te : TE} {vs : List Nat} {σ : L2.St} {H1 : Hp} {D : Addr} {Qd : Hp → Prop} (Pv : Nat → Hp → Prop) (h0 : Pv 0 (upd H1 D (.lst [])))
    (hs : ∀ i c H, z.cps.toList[i]? = some c → Pv i H → g (.str ⟨#[c]⟩) (wipe σ vs) H fun σ2 H2 => wipe σ2 vs = wipe σ vs ∧ tt σ2 H2 fun b H3 =>
      if b = true then te σ2 H3 fun y H4 => ∃ acc, H4 D = some (.lst acc) ∧ acc.length < sizeLine ∧ Pv (i + 1) (upd H4 D (.lst (acc ++ [y]))) else Pv (i + 1) H3) (hd : ∀ H, Pv z.cps.toList.length H → Qd H) :
    ∃ W : Nat → Nat → Hp → Prop, (∃ m, W 0 m (upd H1 D (.lst []))) ∧ ∀ i m H, W i m H →
      ((Its z).stop i H ∧ Qd H) ∨ ((Its z).go i H ∧ ∃ Nx : Hp → Prop, (∀ H', Nx H' → ∃ m', m' < m ∧ W (i + 1) m' H') ∧ ∀ x H', (Its z).yld i H x H' → g x (wipe σ vs) H' fun σ2 H2 => wipe σ2 vs = wipe σ vs ∧ tt σ2 H2 fun b H3 =>
        if b = true then te σ2 H3 fun y H4 => ∃ acc, H4 D = some (.lst acc) ∧ acc.length < sizeLine ∧ Nx (upd H4 D (.lst (acc ++ [y]))) else Nx H3) := by
  have en : z.cps.toList.length = z.cps.size := Array.length_toList
  refine ⟨fun i m H => m = z.cps.size - i ∧ i ≤ z.cps.size ∧ Pv i H, ⟨z.cps.size, by simp, Nat.zero_le _, h0⟩, fun i m H hw => ?_⟩
  obtain ⟨rfl, hi, p⟩ := hw
  by_cases hlt : i < z.cps.size
  · refine .inr ⟨hlt, Pv (i + 1), fun H' p' => ⟨z.cps.size - (i + 1), by omega, rfl, hlt, p'⟩, fun x H' y => ?_⟩
    obtain ⟨e, c, hc, e2⟩ := y
    subst e
    subst e2
    exact hs i c _ (by rw [Array.getElem?_toList]; exact hc) p
  · have e : i = z.cps.size := by omega
    subst e
    exact .inl ⟨Nat.le_refl _, hd H (by rw [en]; exact p)⟩
/-! ### the bag of draws -/
/-- at b the bag, at c the numbers of the script -/
structure BagAt (H : Hp) (b c : Addr) : Prop where
  ex : ∃ (x y z : Int) (ns : List Int), H b = some (.lst [.int x, .int y, .int z, .ref c]) ∧ H c = some (.lst (ns.map V.int)) ∧ ns.length ≤ 63
theorem BagAt.mono {H H' : Hp} {b c : Addr} (x : BagAt H b c) (e : Same H H') : BagAt H' b c := by
  obtain ⟨x, y, z, ns, h1, h2, h3⟩ := x
  exact ⟨x, y, z, ns, e _ _ h1, e _ _ h2, h3⟩
theorem BagAt.nb {H : Hp} {b c p : Addr} (x : BagAt H b c) (n : H p = none) : p ≠ b := by
  obtain ⟨x, y, z, ns, h1, h2, h3⟩ := x
  exact (ne_of_none h1 n).symm
theorem BagAt.nc {H : Hp} {b c p : Addr} (x : BagAt H b c) (n : H p = none) : p ≠ c := by
  obtain ⟨x, y, z, ns, h1, h2, h3⟩ := x
  exact (ne_of_none h2 n).symm
theorem BagAt.new {H : Hp} {b c p : Addr} {o : HO} (x : BagAt H b c) (n : H p = none) : BagAt (upd H p o) b c := x.mono (same_new n o)
theorem BagAt.set {H : Hp} {b c p : Addr} {o : HO} (x : BagAt H b c) (n1 : p ≠ b) (n2 : p ≠ c) : BagAt (upd H p o) b c := by
  obtain ⟨x, y, z, ns, h1, h2, h3⟩ := x
  exact ⟨x, y, z, ns, by rw [upd_ne n1.symm]; exact h1, by rw [upd_ne n2.symm]; exact h2, h3⟩
theorem bag_ne {H : Hp} {b c : Addr} {x y z : Int} {ns : List Int} (h1 : H b = some (.lst [.int x, .int y, .int z, .ref c])) (h2 : H c = some (.lst (ns.map V.int))) : c ≠ b := by
  intro e
  rw [e, h1] at h2
  injection h2 with h2
  injection h2 with h2
  match ns with
  | [] => simp at h2
  | [_] => simp at h2
  | [_, _] => simp at h2
  | [_, _, _] => simp at h2
  | [_, _, _, _] => simp at h2
  | _ :: _ :: _ :: _ :: _ :: _ => simp at h2
/-- what is new behind a But is new ahead of it -/
theorem But.free {b p : Addr} {H H' : Hp} (x : But b H H') (n : H' p = none) (ne : p ≠ b) : H p = none := by
  cases q : H p with
  | none => rfl
  | some u => rw [x p u q ne] at n; cases n
/-- a change of a thing that is new -/
theorem But.put {b p : Addr} {H H' : Hp} {o : HO} (x : But b H H') (n : H p = none) : But b H (upd H' p o) := fun a u q ne => by
  rw [upd_ne (ne_of_none q n)]
  exact x a u q ne
/-- _law_bag(script) -/
def spBag (K : PySem.W.Frag) : Sp := fun vs H Q _ => ∃ (a : Addr) (ns : List Int), vs = [.ref a] ∧ SqL K H a (ns.map V.int) ∧ ns.length ≤ 63 ∧ ∀ (b c : Addr) (H' : Hp), H b = none → H c = none → BagAt H' b c → Same H H' → Q (.ref b) H'
/-- _law_take(bag, many) -/
def spTake : Sp := fun vs H Q _ => ∃ (b c : Addr) (m : Int), vs = [.ref b, .int m] ∧ BagAt H b c ∧ 0 < m ∧ m < 1000000 ∧
  ∀ (r : Int) (H' : Hp), 0 ≤ r → r < m → BagAt H' b c → But b H H' → Q (.int r) H'
end Lw

set_option Elab.async false
set_option linter.all false
set_option maxRecDepth 100000
set_option maxHeartbeats 4000000
namespace Lw
open PySem PySem.Spec PyProof.Rows L2
def topS (i : Nat) : Stmt := PySem.Challenge.pw_endchecks_k26_two_hundred_rows.main.body.getD i (.Pass ⟨0, 0, 0, 0⟩)
abbrev sBag : Stmt := topS 45
section
variable {P : Program} {w : World} {K : PySem.W.Frag} {mg : Str → Option Value} {base : Heap}
theorem scBag : FnScope ["_law_script", "_law_cell"] ["_law_script"] (defScope sBag) := ⟨rfl, rfl, rfl, by decide +kernel, rfl, by decide +kernel, by decide +kernel⟩
theorem ok_bag {f : Addr} {fd : FuncData} (F : Fun K "_law_bag" "_law_bag" sBag f fd) (mabs : mg "abs" = none) : FnOk P w K mg base CX0 1 f fd ["_law_script"] (spBag K) := by
  refine F.ok scBag (fun vs H Q E h => ?_) (fun cdv A outer s H vs Q E hr h => ?_)
  · obtain ⟨a, ns, rfl, _⟩ := h
    rfl
  obtain ⟨a, ns, rfl, hS, h63, k⟩ := h
  refine ⟨_, pss_one (ps_ret (pe_lst (pa_cons pe_int (pa_cons pe_int (pa_cons pe_int (pa_cons
    (pe_lc (own := [("_law_cell", 1)]) (g := gName 1) (tt := tYes) rfl scBag.nd (pi_list (pe_slice sl_list (pv 0) po_none (po_some pe_int))) (blkOk_by (N := ["_law_script", "_law_cell"]) (sc := defScope sBag) (by decide +kernel))
      (fun _ _ _ _ _ => pg_name (i := 1) scBag.nd rfl (Or.inl rfl)) (fun _ _ _ _ _ => pts_nil) (fun _ _ _ _ _ => pe_callB call_abs (by rfl) mabs (by decide +kernel) (pa_cons (pv 1) pa_nil))) pa_nil)))))), ?_⟩
  refine ⟨.ref a, rfl, 63, rfl, a, ns.map V.int, rfl, hS, fun p hp => ?_⟩
  have s1 : Same H (upd H p (.lst (cutV (ns.map V.int) none (some 63)))) := same_new hp _
  obtain ⟨ms, hms, hml⟩ : ∃ ms : List Int, cutV (ns.map V.int) none (some 63) = ms.map V.int ∧ ms.length ≤ 63 := cut_ints ns h63
  rw [hms] at s1 ⊢
  refine ⟨p, rfl, ⟨_, .inl (.inl upd_same)⟩, fun D nD => ?_⟩
  have nDp : p ≠ D := ne_of_none (upd_same (H := H)) nD
  refine lc_list (K := K) (a := p) (xs := ms.map V.int) (fun i H1 => Same H H1 ∧ H1 p = some (.lst (ms.map V.int)) ∧ ∃ cs : List Int, H1 D = some (.lst (cs.map V.int)) ∧ cs.length ≤ i)
    ⟨fun c o q => by rw [upd_ne (ne_of_none (s1 c o q) nD)]; exact s1 c o q, by rw [upd_ne nDp]; exact upd_same, [], upd_same, Nat.le_refl _⟩ (fun i H1 _ q => .inl (.inl q.2.1)) ?_ ?_
  · rintro i x H1 hx ⟨s2, h2, cs, h3, h4⟩
    obtain ⟨z, hz, rfl⟩ := map_get hx
    have hil : i < ms.length := (List.getElem?_eq_some_iff.mp hz).1
    refine ⟨rfl, yes_if ?_⟩
    refine ⟨.int z, rfl, z, rfl, cs.map V.int, h3, by rw [List.length_map]; exact small1000 (by omega), fun c o q => ?_, ?_, cs ++ [if z < 0 then -z else z], ?_, ?_⟩
    · have n1 : c ≠ D := ne_of_none q (s1.free nD)
      rw [upd_ne n1]
      exact s2 c o q
    · rw [upd_ne nDp]
      exact h2
    · rw [upd_same, List.map_append]
      rfl
    · rw [List.length_append]
      exact Nat.add_le_add_right h4 1
  · rintro H1 ⟨s2, h2, cs, h3, h4⟩
    rw [List.length_map] at h4
    refine ⟨small (by show 4 ≤ 1000; decide), fun b nb => ?_⟩
    refine k b D _ (s2.free nb) (s1.free nD) ⟨0, 1234567891, 0, cs, upd_same, ?_, by omega⟩ ?_
    · rw [upd_ne (ne_of_none h3 nb)]
      exact h3
    · exact s2.trans (same_new nb _)
abbrev NTake : List Str := ["_law_bag_here", "_law_many_here", "_law_cell", "_law_mixed", "_law_drawn", "_law_early", "_law_second"]
end
end Lw

set_option Elab.async false
set_option linter.all false
set_option maxRecDepth 100000
namespace Lw
open PySem PySem.Spec PyProof.Rows L2
/-! ### names -/
abbrev LET : Str := "abcdefghijklmnopqrstuvwxyz"
abbrev WORDS : Str := "own not none some late now each done mark link tag row new self gone other"
def wordsL : List Str := ["own", "not", "none", "some", "late", "now", "each", "done", "mark", "link", "tag", "row", "new", "self", "gone", "other"]
theorem split_words : Txt.split WORDS " " = wordsL := by decide +kernel
def Low (c : Nat) : Prop := 97 ≤ c ∧ c ≤ 122
instance (c : Nat) : Decidable (Low c) := inferInstanceAs (Decidable (_ ∧ _))
structure NameOk (z : Str) : Prop where
  pos : 1 ≤ z.length
  most : z.length ≤ 8
  low : ∀ c ∈ z.cps.toList, Low c
abbrev one (c : Nat) : Str := ⟨#[c]⟩
def lowB (c : Nat) : Bool := decide (97 ≤ c) && decide (c ≤ 122)
theorem lowB_iff {c : Nat} : lowB c = true ↔ Low c := by unfold lowB Low; simp
def nameB (z : Str) : Bool := decide (1 ≤ z.length) && decide (z.length ≤ 8) && z.cps.toList.all lowB
theorem nameB_ok {z : Str} (h : nameB z = true) : NameOk z := by
  unfold nameB at h
  simp only [Bool.and_eq_true, decide_eq_true_eq, List.all_eq_true] at h
  exact ⟨h.1.1, h.1.2, fun c hc => lowB_iff.mp (h.2 c hc)⟩
theorem words_ok : ∀ z ∈ wordsL, NameOk z := fun z hz => nameB_ok (List.all_eq_true.mp (by decide +kernel : wordsL.all nameB = true) z hz)
theorem let_list : LET.cps.toList = List.range' 97 26 := by decide +kernel
theorem let_at {r : Int} (h0 : 0 ≤ r) (h1 : r < 26) : ∃ c : Nat, atI LET.cps.toList r = some c ∧ Low c ∧ (c : Int) = 97 + r := by
  obtain ⟨j, rfl⟩ : ∃ j : Nat, r = (j : Int) := ⟨r.toNat, by omega⟩
  have hj : j < 26 := by omega
  refine ⟨97 + j, atI_nat ?_, ⟨by omega, by omega⟩, by omega⟩
  rw [let_list, List.getElem?_range' hj]
  simp
theorem let_index {c : Nat} (h : Low c) : ∃ rest, Builtin.Str.occurrences LET (one c) 0 LET.length 1 = (c - 97) :: rest := by
  have key : ∀ j ∈ List.range 26, ∃ rest, Builtin.Str.occurrences LET (one (97 + j)) 0 LET.length 1 = j :: rest := by
    intro j hj
    have e : (List.range 26).all (fun j => (Builtin.Str.occurrences LET (one (97 + j)) 0 LET.length 1).head? == some j) = true := by decide +kernel
    have e2 := List.all_eq_true.mp e j hj
    cases q : Builtin.Str.occurrences LET (one (97 + j)) 0 LET.length 1 with
    | nil => rw [q] at e2; cases e2
    | cons a r =>
      rw [q] at e2
      have e3 : a = j := by simpa using e2
      exact ⟨r, by rw [e3]⟩
  obtain ⟨h1, h2⟩ := h
  obtain ⟨rest, e⟩ := key (c - 97) (List.mem_range.mpr (by omega))
  rw [show 97 + (c - 97) = c by omega] at e
  exact ⟨rest, e⟩
/-- the letters from one on, all round -/
def rot (at_ : Nat) : Str := cutS LET (some (at_ : Int)) none ++ cutS LET none (some (at_ : Int))
theorem rot_ok {j : Nat} (h : j < 26) : (rot j).cps.toList.length = 26 ∧ (rot j).cps.toList.Nodup ∧ ∀ c ∈ (rot j).cps.toList, Low c := by
  have e : (List.range 26).all (fun j => decide ((rot j).cps.toList.length = 26) && decide ((rot j).cps.toList.Nodup) && (rot j).cps.toList.all lowB) = true := by decide +kernel
  have e2 := List.all_eq_true.mp e j (List.mem_range.mpr h)
  simp only [Bool.and_eq_true, decide_eq_true_eq, List.all_eq_true] at e2
  exact ⟨e2.1.1, e2.1.2, fun c hc => lowB_iff.mp (e2.2 c hc)⟩
theorem str_ext {a b : Str} (h : a.cps.toList = b.cps.toList) : a = b := by
  obtain ⟨⟨l⟩⟩ := a
  obtain ⟨⟨m⟩⟩ := b
  have e : l = m := h
  rw [e]
theorem app_list (a b : Str) : (a ++ b).cps.toList = a.cps.toList ++ b.cps.toList := by
  show (a.cps ++ b.cps).toList = _
  exact Array.toList_append ..
theorem len_list (a : Str) : a.length = a.cps.toList.length := by
  show a.cps.size = _
  simp
theorem one_inj {a b : Nat} {r : Str} (h : one a ++ r = one b ++ r) : a = b := by
  have e := congrArg (fun z : Str => z.cps.toList) h
  rw [app_list, app_list] at e
  exact (List.cons.inj e).1
theorem cand_ok {c : Nat} {r : Str} (hc : Low c) (hl : r.length ≤ 7) (hr : ∀ c ∈ r.cps.toList, Low c) : NameOk (one c ++ r) := by
  have e : (one c ++ r).length = 1 + r.length := by rw [len_list, app_list, List.length_append, ← len_list r]; rfl
  refine ⟨by omega, by omega, fun d hd => ?_⟩
  rw [app_list] at hd
  rcases List.mem_append.mp hd with h | h
  · have : d = c := by simpa using h
    rw [this]; exact hc
  · exact hr d h
theorem nodup_le {α : Type} [DecidableEq α] : ∀ {l m : List α}, l.Nodup → (∀ x ∈ l, x ∈ m) → l.length ≤ m.length
  | [], _, _, _ => Nat.zero_le _
  | a :: l, m, hn, hs => by
    obtain ⟨h1, h2⟩ := List.nodup_cons.mp hn
    have ha : a ∈ m := hs a List.mem_cons_self
    have ih := nodup_le (l := l) (m := m.erase a) h2 fun x hx => (List.mem_erase_of_ne fun e => h1 (by rw [← e]; exact hx)).mpr (hs x (List.mem_cons_of_mem _ hx))
    have e := List.length_erase_of_mem ha
    have p : 0 < m.length := List.length_pos_of_mem ha
    show l.length + 1 ≤ m.length
    omega
theorem cand_free {j : Nat} (hj : j < 26) (r : Str) {zs : List Str} (hz : zs.length ≤ 25) : ∃ x ∈ (rot j).cps.toList.map (fun c => one c ++ r), x ∉ zs := by
  obtain ⟨e1, e2, e3⟩ := rot_ok hj
  by_cases h : ∃ x ∈ (rot j).cps.toList.map (fun c => one c ++ r), x ∉ zs
  · exact h
  · have nd : ((rot j).cps.toList.map (fun c => one c ++ r)).Nodup := by
      refine List.Pairwise.map _ (fun a b ne => fun e => ne (one_inj e)) e2
    have le := nodup_le nd fun x hx => Decidable.byContradiction fun q => h ⟨x, hx, q⟩
    rw [List.length_map, e1] at le
    omega
theorem inV_str (z : Str) (zs : List Str) : inV (.str z) (zs.map V.str) = decide (z ∈ zs) := by
  unfold inV
  induction zs with
  | nil => rfl
  | cons a r ih =>
    rw [List.map_cons, List.any_cons, ih]
    show ((a == z) || decide (z ∈ r)) = decide (z ∈ a :: r)
    by_cases e : a = z
    · subst e
      simp
    · have e' : (a == z) = false := beq_eq_false_iff_ne.mpr e
      rw [e', Bool.false_or]
      simp [List.mem_cons, Ne.symm e]
theorem flat_strs (zs : List Str) : (zs.map V.str).all flatV = true := by
  induction zs with
  | nil => rfl
  | cons a r ih => rw [List.map_cons, List.all_cons, ih]; rfl
/-- what is joined of single signs -/
theorem join_ones : ∀ cs : List Nat, Txt.join (Str.ofString "") (cs.map one) = ⟨cs.toArray⟩ := by
  intro cs
  rw [TL.join_eq]
  refine str_ext ?_
  show _ = cs
  induction cs with
  | nil => rfl
  | cons c r ih =>
    cases r with
    | nil => rfl
    | cons d r =>
      show (one c ++ Str.ofString "" ++ Str.join (Str.ofString "") ((d :: r).map one)).cps.toList = _
      rw [app_list, app_list, ih]
      rfl
theorem cut_drop1 (xs : List V) : cutV xs (some 1) none = xs.drop 1 := by
  have e : HT.sIx xs.length 0 (some ((1 : Nat) : Int)) = min 1 xs.length := HT.sIx_nat xs.length 0 1
  unfold cutV
  rw [show HT.sIx xs.length 0 (some (1 : Int)) = min 1 xs.length from e, HT.sIx_none]
  cases xs with
  | nil => rfl
  | cons a r =>
    have m : min 1 (a :: r).length = 1 := by rw [List.length_cons]; omega
    rw [m]
    exact List.take_of_length_le (by rw [List.length_drop]; exact Nat.le_refl _)
theorem cut_strs (zs : List Str) (lo hi : Option Int) : ∃ ys : List Str, cutV (zs.map V.str) lo hi = ys.map V.str ∧ ∀ y ∈ ys, y ∈ zs := by
  unfold cutV
  refine ⟨(zs.drop (HT.sIx (zs.map V.str).length 0 lo)).take (HT.sIx (zs.map V.str).length (zs.map V.str).length hi - HT.sIx (zs.map V.str).length 0 lo), ?_, fun y hy => List.mem_of_mem_drop (List.mem_of_mem_take hy)⟩
  rw [List.map_take, List.map_drop]
theorem ones_len (cs : List Nat) : ((cs.map one).map (·.length)).sum = cs.length := by
  induction cs with
  | nil => rfl
  | cons c r ih =>
    rw [List.map_cons, List.map_cons, List.sum_cons, ih, List.length_cons]
    show 1 + r.length = r.length + 1
    omega
theorem rep_strs (ws : List Str) (k : Bool) : ∃ ys : List Str, (List.replicate (if k = true then (1 : Int) else 0).toNat (ws.map V.str)).flatten = ys.map V.str ∧ ∀ y ∈ ys, y ∈ ws := by
  cases k with
  | false => exact ⟨[], rfl, fun y h => absurd h List.not_mem_nil⟩
  | true => exact ⟨ws, List.append_nil _, fun y h => h⟩
theorem take_more {α : Type} {l : List α} {i : Nat} {x : α} (h : l[i]? = some x) : l.take (i + 1) = l.take i ++ [x] := by
  rw [List.take_add_one, h]
  rfl
theorem rot_len (j : Nat) : (cutS LET (some (j : Int)) none).length + (cutS LET none (some (j : Int))).length ≤ sizeLine := by
  have h1 := cutS_length LET (some (j : Int)) none
  have h2 := cutS_length LET none (some (j : Int))
  have h3 : LET.length = 26 := by decide +kernel
  exact small (by omega)
theorem pick4 {r : Int} (h0 : 0 ≤ r) (h1 : r < 4) : ∃ ln : Int, atI [V.int 1, V.int 2, V.int 8, V.int 4] r = some (.int ln) ∧ 1 ≤ ln ∧ ln ≤ 8 := by
  obtain h | h | h | h : r = 0 ∨ r = 1 ∨ r = 2 ∨ r = 3 := by omega
  · exact ⟨1, by rw [h]; rfl, by decide, by decide⟩
  · exact ⟨2, by rw [h]; rfl, by decide, by decide⟩
  · exact ⟨8, by rw [h]; rfl, by decide, by decide⟩
  · exact ⟨4, by rw [h]; rfl, by decide, by decide⟩
end Lw

set_option Elab.async false
set_option linter.all false
set_option maxRecDepth 100000
set_option maxHeartbeats 4000000
namespace Lw
open PySem PySem.Spec PyProof.Rows L2
abbrev NNames : List Str := ["_law_bag_here", "_law_many_here", "_law_letters", "_law_found", "_law_words", "_law_k", "_law_signs", "_law_at", "_law_rest", "_law_some", "_law_turn", "_law_one"]
section
variable {P : Program} {w : World} {K : PySem.W.Frag} {mg : Str → Option Value} {base : Heap}
def spNames : Sp := fun vs H Q _ => ∃ (b c : Addr) (n : Int), vs = [.ref b, .int n] ∧ BagAt H b c ∧ 0 ≤ n ∧ n ≤ 20 ∧
  ∀ (p : Addr) (zs : List Str) (H' : Hp), (zs.length : Int) = n → zs.Nodup → (∀ z ∈ zs, NameOk z) → H' p = some (.lst (zs.map V.str)) → H p = none → BagAt H' b c → But b H H' → Q (.ref p) H'
end
end Lw

set_option Elab.async false
set_option linter.all false
set_option maxRecDepth 100000
set_option maxHeartbeats 4000000
/-! plain tests, rows -/
namespace Lw
open PySem PySem.Spec PyProof.Rows L2
inductive Tst where
  | is (f : Str) (ws : List Str) | non (f : Str) | nt (t : Tst)
def Tst.depth : Tst → Nat
  | .nt t => t.depth + 1
  | _ => 0
def Tst.field : Tst → Str
  | .is f _ => f | .non f => f | .nt t => t.field
/-- what stands within all nots -/
def Tst.core : Tst → Tst
  | .nt t => t.core
  | t => t
/-- a row: what a field has, None or a text -/
abbrev Row := Str → Option (Option Str)
def Tst.pass (ρ : Row) : Tst → Bool
  | .is f ws => match ρ f with | some (some z) => decide (z ∈ ws) | _ => false
  | .non f => decide (ρ f = some none)
  | .nt t => !t.pass ρ
def cellV : Option Str → V
  | none => .non
  | some z => .str z
structure RowAt (H : Hp) (a : Addr) (ρ : Row) : Prop where
  ex : ∃ kvs, H a = some (.dK kvs) ∧ ∀ f, valV kvs (.inr f) = (ρ f).map cellV
inductive TV (H : Hp) : V → Tst → Prop
  | is {t l : Addr} {f : Str} {ws : List Str} (a : H t = some (.tup [.str "is", .str f, .ref l])) (b : H l = some (.lst (ws.map V.str))) : TV H (.ref t) (.is f ws)
  | non {t : Addr} {f : Str} (a : H t = some (.tup [.str "none", .str f])) : TV H (.ref t) (.non f)
  | nt {t : Addr} {v : V} {s : Tst} (a : H t = some (.tup [.str "not", v])) (b : TV H v s) : TV H (.ref t) (.nt s)
theorem RowAt.mono {H H' : Hp} {a : Addr} {ρ : Row} (x : RowAt H a ρ) (s : Same H H') : RowAt H' a ρ := by
  obtain ⟨kvs, e, g⟩ := x.ex
  exact ⟨kvs, s _ _ e, g⟩
theorem TV.mono {H H' : Hp} {v : V} {t : Tst} (x : TV H v t) (s : Same H H') : TV H' v t := by
  induction x with
  | is a b => exact .is (s _ _ a) (s _ _ b)
  | non a => exact .non (s _ _ a)
  | nt a _ ih => exact .nt (s _ _ a) ih
/-- the bag is none of it -/
theorem TV.but {H H' : Hp} {b c : Addr} {v : V} {t : Tst} (x : TV H v t) (g : BagAt H b c) (s : But b H H') : TV H' v t := by
  obtain ⟨x1, y1, z1, ns, h1, _, _⟩ := g
  have nt : ∀ {a : Addr} {xs : List V}, H a = some (.tup xs) → a ≠ b := fun e n => by rw [n, h1] at e; cases e
  have nl : ∀ {a : Addr} {ws : List Str}, H a = some (.lst (ws.map V.str)) → a ≠ b := fun {a ws} e n => by
    rw [n, h1] at e
    injection e with e
    injection e with e
    match ws with
    | [] => simp at e
    | w :: r => simp at e
  induction x with
  | is a b => exact .is (s _ _ a (nt a)) (s _ _ b (nl b))
  | non a => exact .non (s _ _ a (nt a))
  | nt a _ ih => exact .nt (s _ _ a (nt a)) ih
theorem RowAt.but {H H' : Hp} {a b c : Addr} {ρ : Row} (x : RowAt H a ρ) (g : BagAt H b c) (s : But b H H') : RowAt H' a ρ := by
  obtain ⟨kvs, e, f⟩ := x.ex
  obtain ⟨x1, y1, z1, ns, h1, _, _⟩ := g
  exact ⟨kvs, s _ _ e (fun n => by rw [n, h1] at e; cases e), f⟩
theorem RowAt.get {H : Hp} {a : Addr} {ρ : Row} {f : Str} {o : Option Str} (x : RowAt H a ρ) (e : ρ f = some o) : DGet H a (.str f) (some (cellV o)) := by
  obtain ⟨kvs, q, g⟩ := x.ex
  have := DGet.k (k := .inr f) q
  rw [g f, e] at this
  exact this
/-- by levels: the test's nots are fewer than n -/
def spPass (n : Nat) : Sp := fun vs H Q _ => ∃ (r : Addr) (v : V) (t : Tst) (ρ : Row) (o : Option Str), vs = [.ref r, v] ∧ RowAt H r ρ ∧ TV H v t ∧ t.depth < n ∧ ρ t.field = some o ∧ Q (.bl (t.pass ρ)) H
theorem in_cell {o : Option Str} {ws : List Str} : inV (cellV o) (ws.map V.str) = (match (some o : Option (Option Str)) with | some (some z) => decide (z ∈ ws) | _ => false) := by
  cases o with
  | none =>
    show inV V.non (ws.map V.str) = false
    unfold inV
    rw [List.any_eq_false]
    intro y hy
    obtain ⟨z, _, rfl⟩ := List.mem_map.mp hy
    exact Bool.false_ne_true
  | some z => exact inV_str z ws
theorem non_cell (o : Option Str) : decide (cellV o = V.non) = decide (some o = (some none : Option (Option Str))) := by cases o <;> simp [cellV]
theorem tt_if {b : Bool} {F G : Prop} (e : b = true) (h : F) : if b = true then F else G := by
  rw [e]
  exact h
theorem ff_if {b : Bool} {F G : Prop} (e : b = false) (h : G) : if b = true then F else G := by
  rw [e]
  exact h
theorem flat_strs' (ws : List Str) : (ws.map V.str).all flatV = true := by
  rw [List.all_eq_true]
  intro y hy
  obtain ⟨z, _, rfl⟩ := List.mem_map.mp hy
  rfl
theorem pass_is {ρ : Row} {f : Str} {ws : List Str} {o : Option Str} (h : ρ f = some o) : Tst.pass ρ (.is f ws) = inV (cellV o) (ws.map V.str) := by
  rw [in_cell]
  unfold Tst.pass
  rw [h]
theorem pass_non {ρ : Row} {f : Str} {o : Option Str} (h : ρ f = some o) : Tst.pass ρ (.non f) = decide (cellV o = V.non) := by
  rw [non_cell]
  unfold Tst.pass
  rw [h]
theorem flat_cell (o : Option Str) : flatV (cellV o) = true := by cases o <;> rfl
end Lw

set_option Elab.async false
set_option linter.all false
set_option maxRecDepth 100000
set_option maxHeartbeats 4000000
/-! dicts whose keys are of any plain kinds together: numbers, bools, texts, None, tuples of such -/
namespace Lw
open PySem
open PySem.Sem (wp)
abbrev Ent := NestedKey × Value × Value
def entM (w : World) (x : Ent) : DictEntry := ⟨x.1.hash w, x.2.1, x.2.2⟩
/-- the entries of the dict at d -/
def MixD (w : World) (h : Heap) (d : Addr) (xs : List Ent) : Prop :=
  ∃ o es ep, h.get? d = some o ∧ o.ExactDict ∧ o.data = .dict es ep ∧ es.toList = xs.map (entM w) ∧ (∀ x ∈ xs, NestedIs h x.1 x.2.1 ∧ x.1.depth ≤ 8) ∧ (xs.map (·.1)).Nodup
def FoundAt (xs : List Ent) (k : NestedKey) : Option Nat → Prop
  | none => k ∉ xs.map (·.1)
  | some j => ∃ kv v, xs[j]? = some (k, kv, v)
theorem ent_at {w : World} {es : Array DictEntry} {xs : List Ent} (he : es.toList = xs.map (entM w)) (i : Nat) : es[i]? = (xs[i]?).map (entM w) := by
  rw [← Array.getElem?_toList, he, List.getElem?_map]
theorem ent_size {w : World} {es : Array DictEntry} {xs : List Ent} (he : es.toList = xs.map (entM w)) : es.size = xs.length := by
  have := congrArg List.length he
  rw [Array.length_toList, List.length_map] at this
  exact this
theorem uniq_at {xs : List Ent} (hn : (xs.map (·.1)).Nodup) {i j : Nat} {k : NestedKey} {a b : Value × Value} (hi : xs[i]? = some (k, a)) (hj : xs[j]? = some (k, b)) : i = j := by
  have li : i < xs.length := (List.getElem?_eq_some_iff.mp hi).1
  have lj : j < xs.length := (List.getElem?_eq_some_iff.mp hj).1
  have e : (xs.map (·.1))[i]? = (xs.map (·.1))[j]? := by rw [List.getElem?_map, List.getElem?_map, hi, hj]; rfl
  exact (List.getElem?_inj (by rw [List.length_map]; exact li) hn).mp e
section
variable {prog : Program} {w : World} {A : Around} {E : Value → Shared → Prop} {s : Shared} {d : Addr} {o : Obj} {es : Array DictEntry} {ep : Nat} {xs : List Ent} {k : NestedKey} {key : Value}
theorem eq_mix {x : NestedKey} {u : Value} {Q : Bool → Shared → Prop} (hu : A.units + 8 < cLine) (hx : NestedIs s.heap x u) (dx : x.depth ≤ 8) (hk : NestedIs s.heap k key) (h : Q (decide (x = k)) s) : wpAny (model prog w) A (eqBool u key) Q E s :=
  eqAt_key x k A s u key hx hk (by omega) _ _ _ _ (by rw [← NestedKey.decide_eq]; exact h)
theorem tell_mix {stored : List Value} {Q : Bool → Shared → Prop} (hk : NestedIs s.heap k key) (dk : k.depth ≤ 8) (hs : ∀ v ∈ stored, ∃ x, NestedIs s.heap x v ∧ x.depth ≤ 8) (h : Q false s) : wpAny (model prog w) A (tableMayTell key stored) Q E s := by
  unfold tableMayTell
  refine wpAny_ite_split (fun _ => wpAny_pure h) fun _ => ?_
  refine wpAny_bind (quiet_key k key 8 s hk dk _ _ _ ?_)
  rw [Bool.not_true, if_neg Bool.false_ne_true]
  refine wpAny_bind (wpAny_forIn_list _ (fun rest r z => z = s ∧ r = (none, ()) ∧ ∀ v ∈ rest, ∃ x, NestedIs s.heap x v ∧ x.depth ≤ 8) _ ?_ ?_ _ _ ⟨rfl, rfl, hs⟩)
  · rintro v rest r z ⟨rfl, rfl, hr⟩
    obtain ⟨x, hx, dx⟩ := hr v List.mem_cons_self
    refine wpAny_bind (quiet_key x v 8 _ hx dx _ _ _ ?_)
    rw [Bool.not_true, if_neg Bool.false_ne_true]
    exact wpAny_pure ⟨rfl, rfl, fun y hy => hr y (List.mem_cons_of_mem _ hy)⟩
  · rintro r z ⟨rfl, rfl, _⟩
    exact wpAny_pure h
/-- the places with the key's hash are walked from the left -/
def Seen (xs : List Ent) (k : NestedKey) (was : List Nat) : Option Nat → Prop
  | none => ∀ i ∈ was, ∀ a, xs[i]? ≠ some (k, a)
  | some j => ∃ a, xs[j]? = some (k, a) ∧ j ∈ was
theorem places_mem {n : Nat} {f : Nat → Option Int} {h : Int} {i : Nat} : i ∈ placesWithHash n f h ↔ i < n ∧ (f i == some h) = true := by
  unfold placesWithHash
  rw [List.mem_filter, List.mem_range]
theorem found_of {es : Array DictEntry} (he : es.toList = xs.map (entM w)) {r : Option Nat} (h : Seen xs k (placesWithHash es.size (fun i => es[i]?.map (·.hash)) (k.hash w)) r) : FoundAt xs k r := by
  cases r with
  | none =>
    intro hin
    obtain ⟨x, hx, ex⟩ := List.mem_map.mp hin
    obtain ⟨i, li, ei⟩ := List.getElem_of_mem hx
    have eg : xs[i]? = some x := by rw [List.getElem?_eq_getElem li, ei]
    refine h i (places_mem.mpr ⟨by rw [ent_size he]; exact li, ?_⟩) x.2 ?_
    · rw [ent_at he, eg]
      show (some (x.1.hash w) == some (k.hash w)) = true
      rw [ex]; exact beq_self_eq_true _
    · rw [eg, ← ex]
  | some j =>
    obtain ⟨⟨kv, v⟩, e, _⟩ := h
    exact ⟨kv, v, e⟩
theorem place_at (he : es.toList = xs.map (entM w)) {i : Nat} (hi : i ∈ placesWithHash es.size (fun i => es[i]?.map (·.hash)) (k.hash w)) : ∃ x, xs[i]? = some x ∧ es[i]? = some (entM w x) ∧ x.1.hash w = k.hash w := by
  obtain ⟨li, hh⟩ := places_mem.mp hi
  have lx : i < xs.length := by rw [← ent_size he]; exact li
  refine ⟨xs[i], List.getElem?_eq_getElem lx, ?_⟩
  rw [ent_at he, List.getElem?_eq_getElem lx] at hh ⊢
  exact ⟨rfl, Option.some.inj (beq_iff_eq.mp hh)⟩
theorem found_walk (hu : A.units + 8 < cLine) (hk : NestedIs s.heap k key) (ho : s.heap.get? d = some o) (hd : o.data = .dict es ep) (he : es.toList = xs.map (entM w)) (hx : ∀ x ∈ xs, NestedIs s.heap x.1 x.2.1 ∧ x.1.depth ≤ 8) {Q : Option Nat → Shared → Prop}
    (h : ∀ r, FoundAt xs k r → Q r s) : wpAny (model prog w) A (dictWalkPlain d key (k.hash w) es (placesWithHash es.size (fun i => es[i]?.map (·.hash)) (k.hash w))) Q E s := by
  unfold dictWalkPlain
  refine wpAny_bind (wpAny_forIn_list _ (fun rest r z => z = s ∧ r = (none, ()) ∧ ∃ was, placesWithHash es.size (fun i => es[i]?.map (·.hash)) (k.hash w) = was ++ rest ∧ Seen xs k was none) _ ?_ ?_ _ _ ⟨rfl, rfl, [], rfl, fun i hi => absurd hi List.not_mem_nil⟩)
  · rintro i rest r z ⟨rfl, rfl, was, ew, hs⟩
    obtain ⟨x, ex, ee, eh⟩ := place_at (k := k) he (i := i) (by rw [ew]; exact List.mem_append_right _ List.mem_cons_self)
    obtain ⟨ix, dx⟩ := hx x (List.mem_of_getElem? ex)
    rw [ee]
    show wpAny _ _ (ite ((x.1.hash w == k.hash w) = true) _ _) _ _ _
    rw [if_pos (beq_iff_eq.mpr eh)]
    refine wpAny_bind (wpAny_dictEpoch ho hd (wpAny_bind (eq_mix hu ix dx hk (wpAny_bind (wpAny_dictEpoch ho hd ?_)))))
    rw [if_neg (by simp)]
    by_cases q : x.1 = k
    · rw [decide_eq_true q]
      obtain ⟨kx, kv, v⟩ := x
      cases (show kx = k from q)
      refine wpAny_bind (wpAny_rule (wpAny_pure (wpAny_pure (h (some i) ⟨kv, v, ex⟩))))
    · rw [decide_eq_false q]
      refine wpAny_bind (wpAny_rule (wpAny_pure ⟨rfl, rfl, was ++ [i], by rw [ew, List.append_assoc]; rfl, fun j hj a ej => ?_⟩))
      rcases List.mem_append.mp hj with g | g
      · exact hs j g a ej
      · cases List.mem_singleton.mp g
        rw [ex] at ej
        exact q (by rw [Option.some.inj ej])
  · rintro r z ⟨rfl, rfl, was, ew, hs⟩
    rw [List.append_nil] at ew
    exact wpAny_pure (h _ (found_of he (ew ▸ hs)))
theorem is_text {h : Heap} {x : NestedKey} {u : Value} {z : Str} (hx : NestedIs h x u) (e : u.isStr z = true) : x = .text z := by
  cases hx with
  | text y t =>
    have : y = z := by simpa [Value.isStr] using e
    rw [this]
  | _ => simp [Value.isStr] at e
theorem found_text {z : Str} {t : Tok} (hu : A.units + 8 < cLine) (ho : s.heap.get? d = some o) (hd : o.data = .dict es ep) (he : es.toList = xs.map (entM w)) (hx : ∀ x ∈ xs, NestedIs s.heap x.1 x.2.1 ∧ x.1.depth ≤ 8) {Q : Option Nat → Shared → Prop}
    (h : ∀ r, FoundAt xs (.text z) r → Q r s) : wpAny (model prog w) A (foundByValue d (.str z t) es z) Q E s := by
  unfold foundByValue
  cases ef : es.findIdx? (·.key.isStr z) with
  | none =>
    refine wpAny_pure (h none fun hin => ?_)
    obtain ⟨x, hm, ex⟩ := List.mem_map.mp hin
    obtain ⟨ix, _⟩ := hx x hm
    rw [ex] at ix
    have : x.2.1.isStr z = true := by
      generalize x.2.1 = u at ix
      cases ix with
      | text y t => simp [Value.isStr]
    rw [Array.findIdx?_eq_none_iff] at ef
    have := ef (entM w x) (Array.mem_toList_iff.mp (he ▸ List.mem_map_of_mem hm))
    simp_all [entM]
  | some i =>
    obtain ⟨li, hi, _⟩ := Array.findIdx?_eq_some_iff_getElem.mp ef
    have lx : i < xs.length := by rw [← ent_size he]; exact li
    have ex : xs[i]? = some xs[i] := List.getElem?_eq_getElem lx
    have ee := ent_at he i
    rw [ex] at ee
    generalize xs[i] = x at ex ee
    obtain ⟨ix, dx⟩ := hx x (List.mem_of_getElem? ex)
    have ei : es[i] = entM w x := by
      rw [Array.getElem?_eq_getElem li] at ee
      exact Option.some.inj ee
    rw [ei] at hi
    have ek := is_text ix hi
    dsimp only
    rw [ee]
    refine wpAny_bind (wpAny_dictEpoch ho hd (wpAny_bind (eq_mix (k := .text z) (key := .str z t) hu ix dx (.text z t) (wpAny_bind (wpAny_dictEpoch ho hd ?_)))))
    rw [if_neg (by simp), decide_eq_true ek]
    obtain ⟨kx, kv, v⟩ := x
    cases (show kx = .text z from ek)
    exact wpAny_bind (wpAny_rule (wpAny_pure (h (some i) ⟨kv, v, ex⟩)))
theorem found_mix (hu : A.units + 8 < cLine) (hk : NestedIs s.heap k key) (dk : k.depth ≤ 8) (ho : s.heap.get? d = some o) (hd : o.data = .dict es ep) (he : es.toList = xs.map (entM w)) (hx : ∀ x ∈ xs, NestedIs s.heap x.1 x.2.1 ∧ x.1.depth ≤ 8) (hn : (xs.map (·.1)).Nodup)
    {Q : Option Nat → Shared → Prop} (h : ∀ r, FoundAt xs k r → Q r s) : wpAny (model prog w) A (dictFind d key (k.hash w)) Q E s := by
  have plain := found_walk (prog := prog) (E := E) hu hk ho hd he hx h
  have stay : ∀ {v : Value}, v ∈ (placesWithHash es.size (fun i => es[i]?.map (·.hash)) (k.hash w)).filterMap (fun i => es[i]?.map (·.key)) → ∃ x, NestedIs s.heap x v ∧ x.depth ≤ 8 := by
    intro v hv
    obtain ⟨i, hi, e⟩ := List.mem_filterMap.mp hv
    obtain ⟨x, ex, ee, _⟩ := place_at (k := k) he hi
    rw [ee] at e
    obtain rfl : x.2.1 = v := Option.some.inj e
    exact ⟨x.1, hx x (List.mem_of_getElem? ex)⟩
  unfold dictFind
  (try with_reducible refine wpAny_holding ?_)
  refine wpAny_bind (wpAny_dictEntries ho hd ?_)
  have nokey : ¬ ((es.any fun e => e.key == key && e.hash != k.hash w) = true) := by
    rw [← Array.any_toList, List.any_eq_true]
    rintro ⟨e, hin, hc⟩
    rw [he] at hin
    obtain ⟨x, hm, rfl⟩ := List.mem_map.mp hin
    simp only [entM, Bool.and_eq_true, beq_iff_eq, bne_iff_ne, ne_eq] at hc
    have ix := (hx x hm).1
    rw [hc.1] at ix
    exact hc.2 (by rw [NestedIs.inj _ _ _ ix hk])
  have hk' := hk
  obtain ⟨k0, ek, hk⟩ : ∃ k0, k = k0 ∧ NestedIs s.heap k0 key := ⟨k, rfl, hk⟩
  cases hk <;> dsimp only
  all_goals (try refine wpAny_ite_split (fun _ => by subst ek; exact found_text hu ho hd he hx h) fun _ => ?_)
  all_goals refine wpAny_ite_split (fun _ => plain) fun _ => ?_
  all_goals (try rw [if_neg nokey])
  all_goals refine wpAny_ite_split (fun _ => wpAny_bind (wpAny_pure ?_)) (fun _ => wpAny_bind (tell_mix hk' dk (fun _ => stay) ?_))
  all_goals (
    rw [if_neg (by simp)]
    refine wpAny_bind (wpAny_forIn_list _ (fun rest r z => z = s ∧ ∃ hit was, r = (none, hit) ∧ placesWithHash es.size (fun i => es[i]?.map (·.hash)) (NestedKey.hash w k) = was ++ rest ∧ Seen xs k was hit) _ ?_ ?_ _ _ ⟨rfl, none, [], rfl, rfl, fun i hi => absurd hi List.not_mem_nil⟩)
    · rintro i rest r z ⟨rfl, hit, was, rfl, ew, hs⟩
      obtain ⟨x, ex, ee, eh⟩ := place_at (k := k) he (i := i) (by rw [ew]; exact List.mem_append_right _ List.mem_cons_self)
      obtain ⟨ix, dx⟩ := hx x (List.mem_of_getElem? ex)
      rw [ee]
      show wpAny _ _ (ite ((x.1.hash w == NestedKey.hash w k) = true) _ _) _ _ _
      rw [if_pos (beq_iff_eq.mpr eh)]
      refine wpAny_bind (wpAny_dictEpoch ho hd (wpAny_bind (eq_mix hu ix dx hk' (wpAny_bind (wpAny_dictEpoch ho hd ?_)))))
      rw [if_neg (by simp)]
      refine wpAny_ite_split (fun q => ?_) (fun q => ?_)
      · have q := of_decide_eq_true q
        obtain ⟨kx, kv, v⟩ := x
        obtain rfl := (show kx = k from q)
        cases hit with
        | some j =>
          obtain ⟨a, ea, hj⟩ := hs
          obtain rfl := uniq_at hn ea ex
          have nd : (placesWithHash es.size (fun i => es[i]?.map (·.hash)) (NestedKey.hash w kx)).Nodup := List.Pairwise.filter _ List.nodup_range
          rw [ew] at nd
          exact absurd rfl ((List.nodup_append.mp nd).2.2 _ hj _ List.mem_cons_self)
        | none =>
          rw [if_neg (by simp)]
          refine wpAny_bind (wpAny_rule ?_)
          exact wpAny_ite_split (fun _ => wpAny_pure (wpAny_pure (h (some i) ⟨kv, v, ex⟩))) fun _ => wpAny_pure ⟨rfl, some i, was ++ [i], rfl, by rw [ew, List.append_assoc]; rfl, ⟨(kv, v), ex, by simp⟩⟩
      · have q : ¬ x.1 = k := fun e => q (decide_eq_true e)
        refine wpAny_bind (wpAny_rule ?_)
        rw [if_neg (by simp)]
        refine wpAny_pure ⟨rfl, hit, was ++ [i], rfl, by rw [ew, List.append_assoc]; rfl, ?_⟩
        cases hit with
        | some j =>
          obtain ⟨a, ea, hj⟩ := hs
          exact ⟨a, ea, List.mem_append_left _ hj⟩
        | none =>
          intro j hj a ej
          rcases List.mem_append.mp hj with g | g
          · exact hs j g a ej
          · cases List.mem_singleton.mp g
            rw [ex] at ej
            exact q (by rw [Option.some.inj ej])
    · rintro r z ⟨rfl, hit, was, rfl, ew, hs⟩
      rw [List.append_nil] at ew
      exact wpAny_pure (h _ (found_of he (ew ▸ hs))))
theorem mix_stays {h : Heap} {f : Array DictEntry → Array DictEntry} {o' : Obj} (ho : h.get? d = some o) (hd : o.data = .dict es ep) {h' : Heap} (hs : Heap.SameBut d h h') {x : NestedKey} {u : Value} (hx : NestedIs h x u) : NestedIs h' x u :=
  NestedIs.at (fun b ob vs n hb hc => by
    refine Eq.trans (hs.2 b fun e => ?_) hb
    rw [e, ho] at hb
    cases Option.some.inj hb
    exact nomatch hd.symm.trans hc) x u hx
/-- what d[k] = v leaves -/
def SetTo (xs : List Ent) (k : NestedKey) (key v : Value) (ys : List Ent) : Prop :=
  (k ∉ xs.map (·.1) ∧ ys = xs ++ [(k, key, v)]) ∨ ∃ j kv old, xs[j]? = some (k, kv, old) ∧ ys = xs.set j (k, kv, v)
theorem set_mix (hu : A.units + 8 < cLine) (hk : NestedIs s.heap k key) (dk : k.depth ≤ 8) (hm : MixD w s.heap d xs) (hz : xs.length ≤ sizeLine) {v : Value} {Q : Unit → Shared → Prop}
    (h : ∀ h' ys, MixD w h' d ys → Heap.SameBut d s.heap h' → SetTo xs k key v ys → Q () { s with heap := h', toks := s.toks + k.draws }) : wpAny (model prog w) A (dictSet d key v) Q E s := by
  obtain ⟨o, es, ep, ho, hc, hd, he, hx, hn⟩ := hm
  unfold dictSet
  (try with_reducible refine wpAny_holding ?_)
  refine wpAny_bind (pyHash_key _ _ _ _ _ hk (by omega) ?_)
  unfold dictSetHashed
  (try with_reducible refine wpAny_holding ?_)
  refine wpAny_bind (found_mix (s := { s with toks := s.toks + k.draws }) hu hk dk ho hd he hx hn fun r hr => ?_)
  cases r with
  | none =>
    have hr : k ∉ xs.map (·.1) := hr
    refine wpAny_bind (wpAny_rule (wpAny_updateDictKeys (hz := by have := ent_size he; omega) (s := { s with toks := s.toks + k.draws }) ho hd ?_))
    have sb : Heap.SameBut d s.heap (s.heap.update d (Obj.mapDictKeys (·.push ⟨k.hash w, key, v⟩))) := Heap.SameBut.update ..
    refine h _ (xs ++ [(k, key, v)]) ⟨_, _, ep + 1, Heap.get?_update_self _ ho (Obj.isFreed_of_dict (Obj.data_mapDictKeys hd _)), hc.mapDictKeys _, Obj.data_mapDictKeys hd _, ?_, fun x hin => ?_, ?_⟩ sb (.inl ⟨hr, rfl⟩)
    · rw [Array.toList_push, he, List.map_append]; rfl
    · rcases List.mem_append.mp hin with g | g
      · exact ⟨mix_stays (f := id) (o' := o) ho hd sb (hx x g).1, (hx x g).2⟩
      · cases List.mem_singleton.mp g
        exact ⟨mix_stays (f := id) (o' := o) ho hd sb hk, dk⟩
    · rw [List.map_append, List.nodup_append]
      refine ⟨hn, by simp, fun a ha b hb e => ?_⟩
      cases List.mem_singleton.mp hb
      subst e
      exact hr ha
  | some j =>
    obtain ⟨kv, old, ej⟩ := hr
    refine wpAny_bind (wpAny_rule (wpAny_bind (wpAny_updateDict (s := { s with toks := s.toks + k.draws }) ho hd (wpAny_point ?_))))
    have sb : Heap.SameBut d s.heap (s.heap.update d (Obj.mapDict (·.modify j fun e => { e with val := v }))) := Heap.SameBut.update ..
    have ek : (xs.set j (k, kv, v)).map (·.1) = xs.map (·.1) := by
      rw [List.map_set]
      refine List.ext_getElem? fun i => ?_
      rw [List.getElem?_set]
      split
      · rename_i q; subst q
        rw [List.getElem?_map, ej, List.length_map]
        rw [if_pos (List.getElem?_eq_some_iff.mp ej).1]; rfl
      · rfl
    refine h _ (xs.set j (k, kv, v)) ⟨_, _, ep, Heap.get?_update_self _ ho (Obj.isFreed_of_dict (Obj.data_mapDict hd _)), hc.mapDict _, Obj.data_mapDict hd _, ?_, fun x hin => ?_, ek ▸ hn⟩ sb (.inr ⟨j, kv, old, ej, rfl⟩)
    · rw [Array.toList_modify, he]
      refine List.ext_getElem? fun i => ?_
      rw [List.getElem?_modify, List.map_set, List.getElem?_set, List.getElem?_map]
      by_cases q : j = i
      · subst q
        rw [if_pos rfl, ej, List.length_map, if_pos (List.getElem?_eq_some_iff.mp ej).1]
        simp [entM]
      · rw [if_neg q]
        simp [q]
    · rcases List.mem_or_eq_of_mem_set hin with g | g
      · exact ⟨mix_stays (f := id) (o' := o) ho hd sb (hx x g).1, (hx x g).2⟩
      · subst g
        obtain ⟨a, b⟩ := hx _ (List.mem_of_getElem? ej)
        exact ⟨mix_stays (f := id) (o' := o) ho hd sb a, b⟩
end
end Lw

set_option Elab.async false
set_option linter.all false
set_option maxRecDepth 100000
set_option maxHeartbeats 4000000
namespace Lw
open PySem
open PySem.Sem (wp)
section
variable {prog : Program} {w : World} {A : Around} {E : Value → Shared → Prop} {s : Shared} {d : Addr} {xs : List Ent} {k : NestedKey} {key : Value}
theorem MixD.typeIs (x : MixD w s.heap d xs) : s.TypeIs (.ref d) "dict" := let ⟨o, _, _, ho, hc, _⟩ := x; ⟨o, ho, hc.1⟩
theorem there_of {r : Option Nat} (hin : k ∈ xs.map (·.1)) (h : FoundAt xs k r) : ∃ j kv v, r = some j ∧ xs[j]? = some (k, kv, v) := by
  cases r with
  | none => exact absurd hin h
  | some j => obtain ⟨kv, v, e⟩ := h; exact ⟨j, kv, v, rfl, e⟩
theorem getitem_mix (hu : A.units + 9 < cLine) (hk : NestedIs s.heap k key) (dk : k.depth ≤ 8) (hm : MixD w s.heap d xs) (hin : k ∈ xs.map (·.1)) {Q : Value → Shared → Prop}
    (h : ∀ (j : Nat) (kv v : Value), xs[j]? = some (k, kv, v) → Q v { s with toks := s.toks + k.draws }) : wpAny (model prog w) A (getItem (.ref d) key) Q E s := by
  obtain ⟨o, es, ep, ho, hc, hd, he, hx, hn⟩ := id hm
  unfold getItem
  (try with_reducible refine wpAny_holding ?_)
  refine wpAny_bind (wpAny_sequenceKey hm.typeIs (by decide) (wpAny_bind (wpAny_callSpecial?_slot (name := Str.ofString "__getitem__") hm.typeIs slot_dict_getitem (wpAny_call_entry slot_dict_getitem hm.typeIs entry_dict_getitem ?_ (args_dict_getitem _ _)))))
  show wpAny _ _ (dictGet d key >>= _) _ _ s
  refine wpAny_bind ?_
  unfold dictGet
  (try with_reducible refine wpAny_holding ?_)
  refine wpAny_bind (pyHash_key k key A.in1 _ _ hk (by rw [Around.in1_units]; omega) (wpAny_bind (found_mix (s := { s with toks := s.toks + k.draws }) (by rw [Around.in1_units]; omega) hk dk ho hd he hx hn fun r hr => ?_)))
  obtain ⟨j, kv, v, rfl, ej⟩ := there_of hin hr
  refine wpAny_bind (wpAny_dictEntries (s := { s with toks := s.toks + k.draws }) ho hd ?_)
  rw [ent_at he, ej]
  exact wpAny_pure (wpAny_pure ⟨v, rfl, wpAny_pure (h j kv v ej)⟩)
theorem setitem_mix (hu : A.units + 9 < cLine) (hk : NestedIs s.heap k key) (dk : k.depth ≤ 8) (hm : MixD w s.heap d xs) (hz : xs.length ≤ sizeLine) {v : Value} {Q : Unit → Shared → Prop}
    (h : ∀ h' ys, MixD w h' d ys → Heap.SameBut d s.heap h' → SetTo xs k key v ys → Q () { s with heap := h', toks := s.toks + k.draws }) : wpAny (model prog w) A (setItem (.ref d) key v) Q E s := by
  unfold setItem
  (try with_reducible refine wpAny_holding ?_)
  refine wpAny_bind (wpAny_sequenceKey hm.typeIs (by decide) (wpAny_bind (wpAny_callSpecial?_slot (name := Str.ofString "__setitem__") hm.typeIs slot_dict_setitem (wpAny_call_entry slot_dict_setitem hm.typeIs entry_dict_setitem ?_ (args_dict_setitem _ _ _)))))
  show wpAny _ _ (Builtin.Dict.notOrdered "__setitem__" ⟨[.ref d, key, v], []⟩ >>= _) _ _ s
  refine wpAny_bind (wpAny_notOrdered_dict hm.typeIs ?_)
  show wpAny _ _ (dictSet d key v >>= _) _ _ s
  exact wpAny_bind (set_mix (by rw [Around.in1_units]; omega) hk dk hm hz fun h' ys m sb st => wpAny_pure ⟨.none, rfl, wpAny_pure (h h' ys m sb st)⟩)
theorem take_mix (hu : A.units + 8 < cLine) (hk : NestedIs s.heap k key) (dk : k.depth ≤ 8) (hm : MixD w s.heap d xs) (hz : xs.length ≤ sizeLine) (hin : k ∈ xs.map (·.1)) {Q : Option DictEntry → Shared → Prop}
    (h : ∀ h' (j : Nat) (kv v : Value), xs[j]? = some (k, kv, v) → MixD w h' d (xs.eraseIdx j) → Heap.SameBut d s.heap h' → Q (some (entM w (k, kv, v))) { s with heap := h', toks := s.toks + k.draws }) : wpAny (model prog w) A (Builtin.Dict.takeOut d key) Q E s := by
  obtain ⟨o, es, ep, ho, hc, hd, he, hx, hn⟩ := id hm
  unfold Builtin.Dict.takeOut
  (try with_reducible refine wpAny_holding ?_)
  refine wpAny_bind (pyHash_key k key A _ _ hk (by omega) (wpAny_bind (found_mix (s := { s with toks := s.toks + k.draws }) hu hk dk ho hd he hx hn fun r hr => ?_)))
  obtain ⟨j, kv, v, rfl, ej⟩ := there_of hin hr
  refine wpAny_bind (wpAny_dictEntries (s := { s with toks := s.toks + k.draws }) ho hd ?_)
  rw [ent_at he, ej]
  have sb : Heap.SameBut d s.heap (s.heap.update d (Obj.mapDictKeys (·.eraseIdxIfInBounds j))) := Heap.SameBut.update ..
  refine wpAny_bind (wpAny_updateDictKeys (hz := by have := ent_size he; omega) (s := { s with toks := s.toks + k.draws }) ho hd (wpAny_pure (h _ j kv v ej ⟨_, _, ep + 1, Heap.get?_update_self _ ho (Obj.isFreed_of_dict (Obj.data_mapDictKeys hd _)), hc.mapDictKeys _, Obj.data_mapDictKeys hd _, ?_, fun x hin => ?_, ?_⟩ sb)))
  · obtain ⟨l⟩ := es
    have he : l = xs.map (entM w) := he
    subst he
    rw [List.eraseIdxIfInBounds_toArray, map_eraseIdx]
  · have g := List.mem_of_mem_eraseIdx hin
    exact ⟨mix_stays (f := id) (o' := o) ho hd sb (hx x g).1, (hx x g).2⟩
  · rw [map_eraseIdx]
    exact List.Nodup.eraseIdx _ hn
end
end Lw

set_option Elab.async false
set_option linter.all false
set_option maxRecDepth 100000
set_option maxHeartbeats 4000000
namespace Lw
open PySem
open PySem.Sem (wp)
def lf : NestedKey → Leaf
  | .none => .none
  | .num i => .num i
  | .text z => .text z
  | .tup _ => .none
theorem lf_key {h : Heap} {k : NestedKey} {u : Value} (x : NestedIs h k u) (b : carriedByValue u = true) : (lf k).key = k ∧ Leaf.isOf (lf k) u = true := by
  cases x with
  | none => exact ⟨rfl, rfl⟩
  | bool e => exact ⟨rfl, decide_eq_true e.symm⟩
  | int i t => exact ⟨rfl, decide_eq_true rfl⟩
  | text z t => exact ⟨rfl, by show Value.isStrOf z (.str z t) = true; simp [Value.isStrOf]⟩
  | tup p q r t => exact absurd (show false = true from b) (by decide)
theorem is_leaf {h : Heap} {l : Leaf} {u : Value} (x : Leaf.isOf l u = true) : NestedIs h l.key u ∧ l.key.depth ≤ 8 := ⟨Leaf.nested x, by cases l <;> exact Nat.zero_le _⟩
section
variable {prog : Program} {w : World} {A : Around} {E : Value → Shared → Prop} {s : Shared} {d o : Addr} {xs : List Ent} {h : Heap}
theorem leaf_nodup {xs : List Ent} (hx : ∀ x ∈ xs, (lf x.1).key = x.1) (hn : (xs.map (·.1)).Nodup) : (xs.map fun x => lf x.1).Nodup := by
  have e : xs.map (·.1) = (xs.map fun x => lf x.1).map Leaf.key := by
    rw [List.map_map]
    exact List.map_congr_left fun x m => (hx x m).symm
  rw [e] at hn
  exact List.Pairwise.of_map Leaf.key (fun a b n q => n (by rw [q])) hn
/-- all keys carried by value: the library's dict of leaves -/
theorem MixD.leaves (x : MixD w h d xs) (hv : ∀ x ∈ xs, carriedByValue x.2.1 = true) : h.DictOf (leafKind prog w) d (xs.map fun x => (lf x.1, x.2.2)) := by
  obtain ⟨o, es, ep, ho, hc, hd, he, hx, hn⟩ := x
  refine ⟨o, es, ep, ho, hc, hd, fun e hm => ?_, ?_, ?_⟩
  · rw [← Array.mem_toList_iff, he] at hm
    obtain ⟨x, hxm, rfl⟩ := List.mem_map.mp hm
    obtain ⟨a, b⟩ := lf_key (hx x hxm).1 (hv x hxm)
    exact ⟨lf x.1, b, by show x.1.hash w = (lf x.1).key.hash w; rw [a]⟩
  · rw [he]
    clear he hn
    induction xs with
    | nil => exact .nil
    | cons x r ih => exact .cons (lf_key (hx x List.mem_cons_self).1 (hv x List.mem_cons_self)).2 rfl (ih (fun y m => hv y (List.mem_cons_of_mem _ m)) (fun y m => hx y (List.mem_cons_of_mem _ m)))
  · rw [List.map_map]
    exact leaf_nodup (fun x m => (lf_key (hx x m).1 (hv x m)).1) hn
/-- and back: the keys are some values that are these keys -/
theorem mix_of {kvs : List (Leaf × Value)} (x : h.DictOf (leafKind prog w) d kvs) : ∃ xs, MixD w h d xs ∧ xs.map (fun x => (x.1, x.2.2)) = kvs.map (fun p => (p.1.key, p.2)) ∧ ∀ x ∈ xs, carriedByValue x.2.1 = true := by
  obtain ⟨o, es, ep, ho, hc, hd, hk, hp, hn⟩ := x
  have go : ∀ {l : List DictEntry} {kvs : List (Leaf × Value)}, (∀ e ∈ l, ∃ k, (leafKind prog w).is k e.key = true ∧ e.hash = (leafKind prog w).hash k) → PySem.Pairs (leafKind prog w) l kvs →
      ∃ xs : List Ent, l = xs.map (entM w) ∧ (∀ x ∈ xs, (NestedIs h x.1 x.2.1 ∧ x.1.depth ≤ 8) ∧ carriedByValue x.2.1 = true) ∧ xs.map (fun x => (x.1, x.2.2)) = kvs.map (fun p => (p.1.key, p.2)) := by
    intro l kvs hk hp
    induction hp with
    | nil => exact ⟨[], rfl, fun x m => absurd m List.not_mem_nil, rfl⟩
    | @cons e kv l kvs a b _ ih =>
      obtain ⟨xs, e1, e2, e3⟩ := ih fun e m => hk e (List.mem_cons_of_mem _ m)
      obtain ⟨k, k1, k2⟩ := hk e List.mem_cons_self
      have ek := (leafKind prog w).inj _ _ _ k1 a
      subst ek
      refine ⟨(kv.1.key, e.key, e.val) :: xs, ?_, fun x m => ?_, ?_⟩
      · rw [List.map_cons, ← e1]
        obtain ⟨eh, ek, ev⟩ := e
        exact congrArg (· :: l) (by show DictEntry.mk eh ek ev = ⟨kv.1.key.hash w, ek, ev⟩; rw [show eh = kv.1.key.hash w from k2])
      · rcases List.mem_cons.mp m with g | g
        · subst g
          exact ⟨is_leaf a, Leaf.byValue a⟩
        · exact e2 x g
      · rw [List.map_cons, List.map_cons, e3, b]
  obtain ⟨xs, e1, e2, e3⟩ := go (fun e m => hk e (Array.mem_toList_iff.mp m)) hp
  refine ⟨xs, ⟨o, es, ep, ho, hc, hd, e1, fun x m => (e2 x m).1, ?_⟩, e3, fun x m => (e2 x m).2⟩
  have e : xs.map (·.1) = (kvs.map (·.1)).map Leaf.key := by
    have := congrArg (List.map Prod.fst) e3
    rw [List.map_map, List.map_map] at this
    rw [List.map_map]
    exact this
  rw [e]
  exact List.Pairwise.map _ (fun a b n q => n (Leaf.key_inj q)) hn
/-- keys that may be copied: carried by value, or a tuple that no other key hashes like -/
def Apart (w : World) (s : Shared) (xs : List Ent) : Prop := ∀ x ∈ xs, carriedByValue x.2.1 = true ∨ ∃ a, x.2.1 = .ref a ∧ s.TypeIs (.ref a) "tuple" ∧ (xs.filter fun y => y.1.hash w == x.1.hash w).length ≤ 1
theorem apart_key {es : Array DictEntry} (he : es.toList = xs.map (entM w)) (ap : Apart w s xs) : ∀ e ∈ es.toList, KeyApart s es e := by
  intro e m
  have m' := m
  rw [he] at m'
  obtain ⟨x, hx, rfl⟩ := List.mem_map.mp m'
  rcases ap x hx with g | ⟨a, g1, g2, g3⟩
  · exact .inl g
  · refine .inr ⟨a, g1, g2, ?_⟩
    have e1 : (es.filter (·.hash == (entM w x).hash)).toList = (xs.filter fun y => y.1.hash w == x.1.hash w).map (entM w) := by
      rw [Array.toList_filter, he, List.filter_map]
      rfl
    have e2 := congrArg List.length e1
    rw [Array.length_toList, List.length_map] at e2
    omega
theorem merge_mix {nm : String} (hdo : d ≠ o) (hoS : (o == sysModules) = false) (hd : MixD w s.heap d []) (ho : MixD w s.heap o xs) (ap : Apart w s xs) (hz : xs.length ≤ sizeLine) {Q : Unit → Shared → Prop}
    (hQ : ∀ h' ys, MixD w h' d ys → ys.map (fun x => (x.1, x.2.2)) = xs.map (fun x => (x.1, x.2.2)) → (ys = xs ∨ ∀ y ∈ ys, carriedByValue y.2.1 = true) → Heap.SameBut d s.heap h' → Q () { s with heap := h' }) : wpAny (model prog w) A (Builtin.Dict.mergeDict nm d o) Q E s := by
  by_cases hv : ∀ x ∈ xs, carriedByValue x.2.1 = true
  · refine wpAny_mergeDict (knd := leafKind prog w) (kvs := []) hdo hoS (hd.leaves fun x m => absurd m List.not_mem_nil) (ho.leaves hv) (fun h' a b sb => ?_) (by rw [List.length_map]; simpa using hz)
    rw [merged_nil_of_nodup _ (let ⟨_, _, _, _, _, _, _, _, n⟩ := b; n)] at a
    obtain ⟨ys, m1, m2, m3⟩ := mix_of a
    refine hQ h' ys m1 ?_ (.inr m3) sb
    rw [m2, List.map_map]
    obtain ⟨_, _, _, _, _, _, _, hx, _⟩ := ho
    exact List.map_congr_left fun x m => Prod.ext (lf_key (hx x m).1 (hv x m)).1 rfl
  · obtain ⟨od, esd, epd, hod, hcd, hdd, hed, hxd, hnd⟩ := id hd
    obtain ⟨oo, eso, epo, hoo, hco, hdo', heo, hxo, hno⟩ := id ho
    have few : ¬ ((decide (eso.size ≤ 8) && eso.all fun e => (keyPart e.key).isSome) = true) := by
      intro q
      rw [Bool.and_eq_true] at q
      refine hv fun x m => ?_
      have q2 := q.2
      rw [← Array.all_toList, List.all_eq_true, heo] at q2
      have := q2 _ (List.mem_map_of_mem m)
      cases hk : x.2.1 with
      | ref a => rw [show (entM w x).key = x.2.1 from rfl, hk] at this; exact absurd (show false = true from this) (by decide)
      | _ => rfl
    unfold Builtin.Dict.mergeDict
    rw [if_neg (by simpa using hdo)]
    unfold Builtin.Dict.showsAll
    rw [if_neg (by rw [hoS]; exact Bool.false_ne_true)]
    refine wpAny_bind (wpAny_pure (wpAny_bind (wpAny_dictEntries hoo hdo' ?_)))
    dsimp only
    rw [if_pos (by rw [Bool.not_eq_true] at few; rw [few]; rfl)]
    refine wpAny_bind (wpAny_dictEntries hod hdd ?_)
    have e0 : esd = #[] := Array.toList_inj.mp hed
    rw [if_pos (by rw [e0]; rfl)]
    refine wpAny_bind (wpAny_entriesForEmpty_raw hoo hdo' (apart_key heo ap) ?_)
    have ne : eso.isEmpty = false := by
      cases q : eso.isEmpty with
      | false => rfl
      | true =>
        exfalso
        rw [Array.isEmpty_iff.mp q] at heo
        cases xs with
        | nil => exact hv fun x m => absurd m List.not_mem_nil
        | cons _ _ => exact nomatch heo
    rw [ne, if_pos (by rfl)]
    have sb : Heap.SameBut d s.heap (s.heap.update d (Obj.mapDictKeys fun _ => eso)) := Heap.SameBut.update ..
    refine wpAny_bind (wpAny_updateDictKeysTo hod hdd (wpAny_pure (hQ _ xs ⟨_, _, epd + 1, Heap.get?_update_self _ hod (Obj.isFreed_of_dict (Obj.data_mapDictKeys hdd _)), hcd.mapDictKeys _, Obj.data_mapDictKeys hdd _, heo, fun x m => ⟨mix_stays (f := id) (o' := od) hod hdd sb (hxo x m).1, (hxo x m).2⟩, hno⟩ rfl (.inl rfl) sb)) (by rw [ent_size heo]; omega))
end
end Lw

set_option Elab.async false
set_option linter.all false
set_option maxRecDepth 100000
set_option maxHeartbeats 4000000
namespace Lw
open PySem
open PySem.Sem (wp)
section
variable {prog : Program} {w : World} {A : Around} {E : Value → Shared → Prop} {s : Shared} {d o : Addr} {xs : List Ent} {h : Heap}
theorem MixD.lt (x : MixD w h d xs) : d < h.objs.size := let ⟨_, _, _, e, _⟩ := x; Heap.lt_size e
theorem MixD.kept {h' : Heap} (x : MixD w h d xs) (k : ∀ b o, h.get? b = some o → h'.get? b = some o) : MixD w h' d xs := by
  obtain ⟨o, es, ep, ho, hc, hd, he, hx, hn⟩ := x
  exact ⟨o, es, ep, k _ _ ho, hc, hd, he, fun x m => ⟨NestedIs.at (fun b ob _ _ e _ => k b ob e) _ _ (hx x m).1, (hx x m).2⟩, hn⟩
theorem MixD.new (h : Heap) : MixD w (h.push { cls := .type "dict", data := .dict #[] }) h.objs.size [] := ⟨_, #[], _, Heap.get?_push_size _ rfl, ⟨rfl, rfl, rfl⟩, rfl, rfl, fun x m => absurd m List.not_mem_nil, List.nodup_nil⟩
theorem call_dict_mix (hoS : (o == sysModules) = false) (ho : MixD w s.heap o xs) (ap : Apart w s xs) (hz : xs.length ≤ sizeLine) {Q : Value → Shared → Prop}
    (hQ : ∀ h' ys, MixD w h' s.heap.objs.size ys → ys.map (fun x => (x.1, x.2.2)) = xs.map (fun x => (x.1, x.2.2)) → (ys = xs ∨ ∀ y ∈ ys, carriedByValue y.2.1 = true) → (∀ b q, s.heap.get? b = some q → h'.get? b = some q) → Q (.ref s.heap.objs.size) { s with heap := h' }) :
    wpAny (model prog w) A (call (.type "dict") [.ref o]) Q E s := by
  refine callType_codes (Q₁ := fun p z => p = .ref s.heap.objs.size ∧ z = { s with heap := s.heap.push { cls := .type "dict", data := .dict #[] } }) F.kt_called_dict (F.kt_typeCall_dict_1 _) F.entry_dict_init (kt_code_dict_new _ ⟨rfl, rfl⟩) ?_
  rintro p z ⟨rfl, rfl⟩
  have nw : MixD w (s.heap.push { cls := .type "dict", data := .dict #[] }) s.heap.objs.size [] := .new s.heap
  have kp : ∀ b q, s.heap.get? b = some q → (s.heap.push { cls := .type "dict", data := .dict #[] }).get? b = some q := fun b q e => Heap.get?_push_of_some _ e
  have o1 : MixD w (s.heap.push { cls := .type "dict", data := .dict #[] }) o xs := ho.kept kp
  have ne : s.heap.objs.size ≠ o := Nat.ne_of_gt ho.lt
  refine ⟨nw.typeIs, F.args_dict_init_2 _ _, ?_⟩
  (unfold Builtin.«dict.__init__»); refine wpAny_bind ?_
  (unfold Builtin.Dict.selfAndRest); refine wpAny_bind (wpAny_notOrdered_dict nw.typeIs ?_)
  show wpAny _ _ (pure (s.heap.objs.size, [Value.ref o])) _ _ _
  refine wpAny_pure ?_
  show wpAny _ _ (Builtin.Dict.updateFrom "dict.__init__" s.heap.objs.size (.ref o) [] .none) _ _ _
  (unfold Builtin.Dict.updateFrom); refine wpAny_bind (wpAny_typeOf o1.typeIs ?_)
  rw [if_neg (by decide)]
  refine wpAny_bind ?_
  (unfold Builtin.Dict.merge); refine wpAny_bind ?_
  (unfold Builtin.Dict.readDirectly); refine wpAny_bind (wpAny_isInstance o1.typeIs isSubtype_dict_dict ?_)
  rw [Bool.not_true, if_neg Bool.false_ne_true]
  refine wpAny_bind (wpAny_specialOf o1.typeIs F.slot_dict_iter.lookup (wpAny_pure ?_))
  rw [beq_self_eq_true, if_pos rfl]
  refine wpAny_bind (wpAny_pure (merge_mix (s := { s with heap := s.heap.push { cls := .type "dict", data := .dict #[] } }) ne hoS nw o1 ?_ hz fun h' ys m1 m2 m3 sb => ?_))
  · intro x m
    rcases ap x m with g | ⟨a, g1, g2, g3⟩
    · exact .inl g
    · obtain ⟨oa, e1, e2⟩ := g2
      exact .inr ⟨a, g1, ⟨oa, kp _ _ e1, e2⟩, g3⟩
  · show wpAny _ _ (Builtin.Dict.addKeywords _ [] >>= _) _ _ _
    refine wpAny_bind (wpAny_pure (wpAny_pure ?_))
    exact ⟨rfl, hQ h' ys m1 m2 m3 fun b q e => (sb.2 b (Nat.ne_of_lt (Heap.lt_size e))).trans (kp _ _ e)⟩
/-- d.pop(k), there -/
theorem pop_mix {k : NestedKey} {key : Value} (hd : (d == sysModules) = false) (hu : A.units + 9 < cLine) (hk : NestedIs s.heap k key) (dk : k.depth ≤ 8) (hm : MixD w s.heap d xs) (hz : xs.length ≤ sizeLine) (hin : k ∈ xs.map (·.1)) {Q : Value → Shared → Prop}
    (h : ∀ h' (j : Nat) (kv v : Value), xs[j]? = some (k, kv, v) → MixD w h' d (xs.eraseIdx j) → Heap.SameBut d s.heap h' → Q v { s with heap := h', toks := s.toks + k.draws }) : wpAny (model prog w) A (call (.builtin "dict.pop") [.ref d, key]) Q E s := by
  refine call_meetsIn F.slot_dict_pop hm.typeIs F.entry_dict_pop (F.args_dict_pop_2 _ _) (S := fun A' R z => A' = A ∧ z = s ∧ ∀ h' (j : Nat) (kv v : Value), xs[j]? = some (k, kv, v) → MixD w h' d (xs.eraseIdx j) → Heap.SameBut d s.heap h' → R (.ok (.ret v)) { s with heap := h', toks := s.toks + k.draws }) (.of_wp fun A' R z hS => ?_) ⟨rfl, rfl, h⟩
  obtain ⟨rfl, rfl, hR⟩ := hS
  obtain ⟨ob, es, ep, ho, hc, hdat, he, hx, hn⟩ := id hm
  (unfold Builtin.«dict.pop»); refine wpAny_bind ?_
  (unfold Builtin.Dict.keyAndDefault); refine wpAny_bind (wpAny_notOrdered_dict hm.typeIs ?_)
  show wpAny _ _ (pure (d, key, none)) _ _ _
  refine wpAny_pure ?_
  have ne : es.isEmpty = false := by
    cases q : es.isEmpty with
    | false => rfl
    | true =>
      exfalso
      rw [Array.isEmpty_iff.mp q] at he
      cases xs with
      | nil => exact absurd hin List.not_mem_nil
      | cons _ _ => exact nomatch he
  have fin : wpAny (model prog w) A'.in1 (Builtin.Dict.takeOut d key) (fun r z' => ∃ h' j kv v, r = some (entM w (k, kv, v)) ∧ xs[j]? = some (k, kv, v) ∧ MixD w h' d (xs.eraseIdx j) ∧ Heap.SameBut d z.heap h' ∧ z' = { z with heap := h', toks := z.toks + k.draws }) (fun e s' => R (.error e) s') z :=
    take_mix (by rw [Around.in1_units]; omega) hk dk hm hz hin fun h' j kv v e1 e2 e3 => ⟨h', j, kv, v, rfl, e1, e2, e3, rfl⟩
  dsimp only
  refine wpAny_ite_split (fun _ => wpAny_bind (wpAny_pure ?_)) (fun _ => wpAny_bind (wpAny_dictEntries ho hdat (wpAny_bind (wpAny_pure ?_))))
  · rw [if_neg Bool.false_ne_true]
    refine wpAny_bind (wpAny_mono fin (fun r z' hr => ?_) fun _ _ e => e)
    obtain ⟨h', j, kv, v, rfl, e1, e2, e3, rfl⟩ := hr
    rw [if_neg (by simp)]
    exact wpAny_bind (wpAny_letGo (wpAny_pure ⟨v, rfl, hR h' j kv v e1 e2 e3⟩))
  · rw [ne, if_neg Bool.false_ne_true]
    refine wpAny_bind (wpAny_mono fin (fun r z' hr => ?_) fun _ _ e => e)
    obtain ⟨h', j, kv, v, rfl, e1, e2, e3, rfl⟩ := hr
    rw [if_neg (by simp)]
    exact wpAny_bind (wpAny_letGo (wpAny_pure ⟨v, rfl, hR h' j kv v e1 e2 e3⟩))
end
end Lw

set_option Elab.async false
set_option linter.all false
set_option maxRecDepth 100000
set_option maxHeartbeats 4000000
/-! dicts of mixed keys within the heap of a proof -/
namespace Lw
open PySem PySem.Spec PyProof.Rows L2
/-- a key as it is written -/
inductive MK where
  | non
  | bl (b : Bool)
  | int (i : Int)
  | str (z : Str)
  | unit (a : Addr)
def MK.v : MK → V
  | .non => .non
  | .bl b => .bl b
  | .int i => .int i
  | .str z => .str z
  | .unit a => .ref a
def MK.nk : MK → NestedKey
  | .non => .none
  | .bl b => .num (if b = true then 1 else 0)
  | .int i => .num i
  | .str z => .text z
  | .unit _ => .tup []
def MK.byV : MK → Bool
  | .unit _ => false
  | _ => true
/-- where a key is (), it stands there -/
def KOk (H : Hp) (k : MK) : Prop := ∀ e, k = .unit e → H e = some (.tup [])
abbrev Mkv := MK × V
def UOk (H : Hp) (kvs : List Mkv) : Prop := ∀ p ∈ kvs, KOk H p.1
def MRel (p : Mkv) (x : Ent) : Prop := x.1 = p.1.nk ∧ RelV p.1.v x.2.1 ∧ RelV p.2 x.2.2
def MEnt (w : World) (p : Mkv) (e : DictEntry) : Prop := e.hash = p.1.nk.hash w ∧ RelV p.1.v e.key ∧ RelV p.2 e.val
def DObj (w : World) (a : Addr) (kvs : List Mkv) (h : Heap) : Prop :=
  kvs.length ≤ sizeLine ∧ (a == sysModules) = false ∧ (kvs.map fun p => p.1.nk).Nodup ∧ ∃ o es ep, h.get? a = some o ∧ o.ExactDict ∧ o.data = .dict es ep ∧ Paired (MEnt w) kvs es.toList
def MixO (w : World) (a : Addr) (kvs : List Mkv) : HO := .ext (DObj w a kvs)
theorem nk_depth (k : MK) : k.nk.depth ≤ 8 := by cases k <;> first | exact Nat.zero_le _ | exact (by decide : (NestedKey.tup []).depth ≤ 8)
theorem nk_is {P : Program} {w : World} {H : Hp} {h : Heap} {k : MK} {u : Value} (ok : HOk P w H h) (ko : KOk H k) (r : RelV k.v u) : NestedIs h k.nk u := by
  cases k with
  | non => cases (show u = Value.none from r); exact .none
  | bl b => cases (show u = Value.bool b from r); exact .bool rfl
  | int i => obtain ⟨t, rfl⟩ := (show ∃ t, u = Value.int i t from r); exact .int i t
  | str z => obtain ⟨t, rfl⟩ := (show ∃ t, u = Value.str z t from r); exact .text z t
  | unit a =>
    cases (show u = Value.ref a from r)
    obtain ⟨_, its, rv, o, h1, h2, n, h3⟩ := (show ObjOk P w H h a (.tup []) from ok a _ (ko a rfl))
    cases rv
    exact .tup h1 h2 h3 .nil
theorem byV_is {k : MK} {u : Value} (r : RelV k.v u) : carriedByValue u = k.byV := by
  cases k with
  | non => cases (show u = Value.none from r); rfl
  | bl b => cases (show u = Value.bool b from r); rfl
  | int i => obtain ⟨t, rfl⟩ := (show ∃ t, u = Value.int i t from r); rfl
  | str z => obtain ⟨t, rfl⟩ := (show ∃ t, u = Value.str z t from r); rfl
  | unit a => cases (show u = Value.ref a from r); rfl
theorem paired_nk {kvs : List Mkv} {xs : List Ent} (p : Paired MRel kvs xs) : xs.map (·.1) = kvs.map fun p => p.1.nk := by
  induction p with
  | nil => rfl
  | cons a _ ih => rw [List.map_cons, List.map_cons, ih, a.1]
theorem paired_at {α β : Type} {F : α → β → Prop} {as : List α} {bs : List β} (p : Paired F as bs) : ∀ {i : Nat} {b : β}, bs[i]? = some b → ∃ a, as[i]? = some a ∧ F a b := by
  induction p with
  | nil => intro i b e; simp at e
  | cons r _ ih =>
    intro i b e
    cases i with
    | zero => cases e; exact ⟨_, rfl, r⟩
    | succ i => exact ih e
theorem paired_mem {α β : Type} {F : α → β → Prop} {as : List α} {bs : List β} (p : Paired F as bs) {b : β} (m : b ∈ bs) : ∃ a ∈ as, F a b := by
  obtain ⟨i, li, ei⟩ := List.getElem_of_mem m
  obtain ⟨a, ea, r⟩ := paired_at p (i := i) (b := b) (by rw [List.getElem?_eq_getElem li, ei])
  exact ⟨a, List.mem_of_getElem? ea, r⟩
theorem paired_len {α β : Type} {F : α → β → Prop} {as : List α} {bs : List β} (p : Paired F as bs) : as.length = bs.length := Paired.length p
theorem paired_erase {α β : Type} {F : α → β → Prop} {as : List α} {bs : List β} (p : Paired F as bs) : ∀ j, Paired F (as.eraseIdx j) (bs.eraseIdx j) := by
  induction p with
  | nil => intro j; exact .nil
  | cons r t ih =>
    intro j
    cases j with
    | zero => exact t
    | succ j => exact .cons r (ih j)
theorem paired_set {α β : Type} {F : α → β → Prop} {as : List α} {bs : List β} (p : Paired F as bs) {a : α} {b : β} (r : F a b) : ∀ j, Paired F (as.set j a) (bs.set j b) := by
  induction p with
  | nil => intro j; exact .nil
  | cons q t ih =>
    intro j
    cases j with
    | zero => exact .cons r t
    | succ j => exact .cons q (ih j)
theorem paired_snoc {α β : Type} {F : α → β → Prop} {as : List α} {bs : List β} (p : Paired F as bs) {a : α} {b : β} (r : F a b) : Paired F (as ++ [a]) (bs ++ [b]) := by
  induction p with
  | nil => exact .cons r .nil
  | cons q t ih => exact .cons q ih
section
variable {P : Program} {w : World} {H : Hp} {h : Heap} {a : Addr} {kvs : List Mkv}
theorem mix_open (ok : HOk P w H h) (e : H a = some (MixO w a kvs)) (u : UOk H kvs) : kvs.length ≤ sizeLine ∧ (a == sysModules) = false ∧ ∃ xs, MixD w h a xs ∧ Paired MRel kvs xs := by
  obtain ⟨⟨l, ns, nd, o, es, ep, ho, hc, hd, pr⟩, _⟩ := (show ObjOk P w H h a (MixO w a kvs) from ok a _ e)
  refine ⟨l, ns, ?_⟩
  have go : ∀ {kvs : List Mkv} {es : List DictEntry}, UOk H kvs → Paired (MEnt w) kvs es → ∃ xs : List Ent, es = xs.map (entM w) ∧ Paired MRel kvs xs ∧ ∀ x ∈ xs, NestedIs h x.1 x.2.1 ∧ x.1.depth ≤ 8 := by
    intro kvs es u pr
    induction pr with
    | nil => exact ⟨[], rfl, .nil, fun x m => absurd m List.not_mem_nil⟩
    | @cons p e ps es r _ ih =>
      obtain ⟨xs, e1, e2, e3⟩ := ih fun q m => u q (List.mem_cons_of_mem _ m)
      obtain ⟨eh, ek, ev⟩ := e
      obtain ⟨r1, r2, r3⟩ := r
      refine ⟨(p.1.nk, ek, ev) :: xs, ?_, .cons ⟨rfl, r2, r3⟩ e2, fun x m => ?_⟩
      · rw [List.map_cons, ← e1]
        exact congrArg (· :: es) (by show DictEntry.mk eh ek ev = ⟨p.1.nk.hash w, ek, ev⟩; rw [show eh = p.1.nk.hash w from r1])
      · rcases List.mem_cons.mp m with g | g
        · subst g
          exact ⟨nk_is ok (u p List.mem_cons_self) r2, nk_depth p.1⟩
        · exact e3 x g
  obtain ⟨xs, e1, e2, e3⟩ := go u pr
  exact ⟨xs, ⟨o, es, ep, ho, hc, hd, e1, e3, by rw [paired_nk e2]; exact nd⟩, e2⟩
theorem mix_close {P' : Program} {H' : Hp} {xs : List Ent} (l : kvs.length ≤ sizeLine) (ns : (a == sysModules) = false) (m : MixD w h a xs) (pr : Paired MRel kvs xs) : ObjOk P' w H' h a (MixO w a kvs) := by
  obtain ⟨o, es, ep, ho, hc, hd, he, hx, hn⟩ := m
  have pe : Paired (MEnt w) kvs es.toList := by
    rw [he]
    clear he hx hn
    induction pr with
    | nil => exact .nil
    | cons r _ ih => exact .cons ⟨by show NestedKey.hash w _ = _; rw [r.1], r.2.1, r.2.2⟩ (ih (by rw [List.length_cons] at l; omega))
  refine ⟨⟨l, ns, by rw [← paired_nk pr]; exact hn, o, es, ep, ho, hc, hd, pe⟩, ⟨o, ho⟩, fun h1 h2 p k => ?_⟩
  obtain ⟨q1, q2, q3, o2, es2, ep2, g1, g2⟩ := p
  exact ⟨q1, q2, q3, o2, es2, ep2, k _ g1, g2⟩
end
end Lw

set_option Elab.async false
set_option linter.all false
set_option maxRecDepth 100000
set_option maxHeartbeats 4000000
namespace Lw
open PySem PySem.Spec PyProof.Rows L2
section
variable {X : Cx} {pl : List (Addr × Obj)} {σ : L2.St} {H : Hp} {s : Shared} {a : Addr} {kvs : List Mkv}
/-- what is tracked may be told otherwise -/
def Ghost (X : Cx) (H H' : Hp) : Prop := ∀ (pl : List (Addr × Obj)) (σ : L2.St) (s : Shared), Inv X pl σ H s → Inv X pl σ H' s
theorem mix_write {h' : Heap} {t' : Nat} {kvs' : List Mkv} {xs' : List Ent} (J : Inv X pl σ H s) (e : H a = some (MixO X.w a kvs)) (l : kvs'.length ≤ sizeLine) (ns : (a == sysModules) = false) (m : MixD X.w h' a xs') (pr : Paired MRel kvs' xs') (sb : Heap.SameBut a s.heap h') :
    Inv X pl σ (upd H a (MixO X.w a kvs')) { s with heap := h', toks := t' } := by
  obtain ⟨o, _, _, eo, _⟩ := id m
  exact J.write (x := a) (e := a) (by rw [e]; exact True.intro) (.inl rfl) (fun b u hb hu => (sb.2 b hb).trans hu) ⟨o, eo⟩ (mix_close l ns m pr)
/-- len(d) -/
def rLenM (w : World) : List V → Hp → VK → Prop := fun vs H Q => ∃ (a : Addr) (kvs : List Mkv), vs = [.ref a] ∧ H a = some (MixO w a kvs) ∧ Q (.int kvs.length) H
theorem call_lenM : CallR X (.builtin "len") (rLenM X.w) := by
  intro pl s σ H vs us Q J r h
  obtain ⟨a, kvs, rfl, e, q⟩ := h
  rw [Vals.ref1 r]
  obtain ⟨⟨l, ns, _, o, es, ep, ho, hc, hd, pr⟩, _⟩ := (show ObjOk X.prog X.w H s.heap a (MixO X.w a kvs) from J.hok a _ e)
  have el : kvs.length = es.size := by rw [paired_len pr, Array.length_toList]
  refine PyProof.Rows.call_len_slot (n := es.size) (T := "dict") ⟨o, ho, hc.1⟩ F.slot_dict_len (fun Q' hq => PySem.call_len_raw ns ⟨o, ho, hc, hd⟩ hq) (by omega) (by rw [sizeLine_eq] at l; omega) ?_
  rw [← el]
  exact ⟨.int kvs.length, H, J.tok _, ⟨_, rfl⟩, q⟩
/-- list(d): the keys -/
def rListM (w : World) : List V → Hp → VK → Prop := fun vs H Q => ∃ (a : Addr) (kvs : List Mkv), vs = [.ref a] ∧ H a = some (MixO w a kvs) ∧ ∀ p, H p = none → Q (.ref p) (upd H p (.lst (kvs.map fun q => q.1.v)))
theorem call_listM (hc : X.calm = true) : CallR X (.type "list") (rListM X.w) := by
  intro pl s σ H vs us Q J r h
  obtain ⟨a, kvs, rfl, e, q⟩ := h
  rw [Vals.ref1 r]
  obtain ⟨⟨l, ns, _, o, es, ep, ho, hx, hd, pr⟩, _⟩ := (show ObjOk X.prog X.w H s.heap a (MixO X.w a kvs) from J.hok a _ e)
  have el : kvs.length = es.size := by rw [paired_len pr, Array.length_toList]
  refine PySem.W.kdl_call (PySem.KdlSrc.rawDict ns) (J.ok.hd hc) ⟨o, ho, hx, hd⟩ (by omega) fun h' tk out c' kp eS it => ?_
  refine ⟨.ref s.heap.objs.size, upd H s.heap.objs.size (.lst (kvs.map fun q => q.1.v)), J.laid kp (Nat.le_refl _) (show ObjOk X.prog X.w _ _ _ (.lst _) from ⟨by rw [List.length_map]; exact l, out.toList, c', ?_, by rw [Array.toArray_toList]; exact eS⟩), rfl, q _ (J.hok.fresh (Nat.le_refl _))⟩
  have lo : out.toList.length = out.size := by simp
  refine vals_of_at (by rw [List.length_map, lo, it.1, el]) fun j x u h1 h2 => ?_
  obtain ⟨lt, hv⟩ := it.2 j u (by rw [← Array.getElem?_toList]; exact h2)
  obtain ⟨p, ej, r⟩ := paired_at pr (i := j) (b := es[j]) (by rw [Array.getElem?_toList]; exact Array.getElem?_eq_getElem lt)
  rw [List.getElem?_map, ej] at h1
  cases h1
  rw [hv]
  exact r.2.1
/-- keys whose copy asks no == -/
def ApartM (w : World) (kvs : List Mkv) : Prop := ∀ p ∈ kvs, p.1.byV = true ∨ (kvs.filter fun q => q.1.nk.hash w == p.1.nk.hash w).length ≤ 1
/-- dict(d) -/
def rDictM (w : World) : List V → Hp → VK → Prop := fun vs H Q => ∃ (a : Addr) (kvs : List Mkv), vs = [.ref a] ∧ H a = some (MixO w a kvs) ∧ UOk H kvs ∧ ApartM w kvs ∧
  ∀ (p : Addr) (kvs' : List Mkv), H p = none → kvs'.map (fun q => (q.1.nk, q.2)) = kvs.map (fun q => (q.1.nk, q.2)) → (∀ q ∈ kvs', ∀ e, q.1 = .unit e → ∃ q0 ∈ kvs, q0.1 = .unit e) → Q (.ref p) (upd H p (MixO w p kvs'))
theorem mk_of {h : Heap} {x : NestedKey} {u : Value} (i : NestedIs h x u) (b : carriedByValue u = true) : ∃ k : MK, k.byV = true ∧ k.nk = x ∧ RelV k.v u := by
  cases i with
  | none => exact ⟨.non, rfl, rfl, rfl⟩
  | @bool c m e => exact ⟨.bl c, rfl, by show NestedKey.num _ = NestedKey.num m; rw [e], rfl⟩
  | int m t => exact ⟨.int m, rfl, rfl, ⟨t, rfl⟩⟩
  | text z t => exact ⟨.str z, rfl, rfl, ⟨t, rfl⟩⟩
  | tup p q r t => exact absurd (show false = true from b) (by decide)
theorem rekeyed {h : Heap} : ∀ {kvs : List Mkv} {xs ys : List Ent}, Paired MRel kvs xs → (∀ y ∈ ys, NestedIs h y.1 y.2.1) → (∀ y ∈ ys, carriedByValue y.2.1 = true) → ys.map (fun x => (x.1, x.2.2)) = xs.map (fun x => (x.1, x.2.2)) →
    ∃ kvs' : List Mkv, Paired MRel kvs' ys ∧ kvs'.map (fun q => (q.1.nk, q.2)) = kvs.map (fun q => (q.1.nk, q.2)) ∧ ∀ p ∈ kvs', p.1.byV = true
  | _, _, ys, .nil, _, _, e => by
    cases ys with
    | nil => exact ⟨[], .nil, rfl, fun p m => absurd m List.not_mem_nil⟩
    | cons _ _ => exact nomatch e
  | _, _, ys, .cons (a := p) r t, hi, hv, e => by
    cases ys with
    | nil => exact nomatch e
    | cons y ys =>
      obtain ⟨e1, e2⟩ := List.cons.inj e
      obtain ⟨ks, k1, k2, k3⟩ := rekeyed t (fun z m => hi z (List.mem_cons_of_mem _ m)) (fun z m => hv z (List.mem_cons_of_mem _ m)) e2
      obtain ⟨k, b1, b2, b3⟩ := mk_of (hi y List.mem_cons_self) (hv y List.mem_cons_self)
      injection e1 with e3 e4
      refine ⟨(k, p.2) :: ks, .cons ⟨b2.symm, b3, by rw [e4]; exact r.2.2⟩ k1, ?_, fun q m => ?_⟩
      · rw [List.map_cons, List.map_cons, k2, b2, e3, r.1]
      · rcases List.mem_cons.mp m with g | g
        · rw [g]; exact b1
        · exact k3 q g
theorem byV_uok {H : Hp} {kvs : List Mkv} (h : ∀ p ∈ kvs, p.1.byV = true) : UOk H kvs := fun p m e ee => by
  have := h p m
  rw [ee] at this
  exact absurd (show false = true from this) (by decide)
theorem call_dictM : CallR X (.type "dict") (rDictM X.w) := by
  intro pl s σ H vs us Q J r h
  obtain ⟨a, kvs, rfl, e, u, ap, q⟩ := h
  rw [Vals.ref1 r]
  obtain ⟨l, ns, xs, m, pr⟩ := mix_open J.hok e u
  have lx : xs.length ≤ sizeLine := by rw [← paired_len pr]; exact l
  obtain ⟨_, _, _, _, _, _, _, hx, _⟩ := id m
  have apx : Apart X.w s xs := by
    intro x mx
    obtain ⟨p, mp, r1, r2, r3⟩ := paired_mem pr mx
    rcases ap p mp with g | g
    · exact .inl (by rw [byV_is r2]; exact g)
    · cases hv : carriedByValue x.2.1 with
      | true => exact .inl rfl
      | false =>
        refine .inr ?_
        have hi := (hx x mx).1
        generalize ez : x.2.1 = z at hi hv
        generalize ek : x.1 = k at hi
        cases hi with
        | @tup ta to tv tn tks g1 g2 g3 g4 =>
          refine ⟨_, rfl, ⟨_, g1, g2⟩, ?_⟩
          have e1 : (xs.filter fun y => y.1.hash X.w == NestedKey.hash X.w (.tup tks)).length = (kvs.filter fun q => q.1.nk.hash X.w == p.1.nk.hash X.w).length := by
            have : ∀ {kvs : List Mkv} {xs : List Ent}, Paired MRel kvs xs → (xs.filter fun y => y.1.hash X.w == x.1.hash X.w).length = (kvs.filter fun q => q.1.nk.hash X.w == p.1.nk.hash X.w).length := by
              intro kvs xs pr
              induction pr with
              | nil => rfl
              | cons b _ ih =>
                rw [List.filter_cons, List.filter_cons, b.1, r1]
                split
                · rw [List.length_cons, List.length_cons, ← r1, ih, r1]
                · rw [← r1, ih, r1]
            rw [← ek]
            exact this pr
          rw [e1]
          exact g
        | _ => exact absurd hv (by simp [carriedByValue])
  refine call_dict_mix ns m apx lx fun h' ys my e1 e2 kp => ?_
  have nb : (s.heap.objs.size == sysModules) = false := beq_eq_false_iff_ne.mpr (Nat.ne_of_gt J.big)
  have fr := J.hok.fresh (Nat.le_refl _)
  have ly : ys.length = xs.length := by
    have := congrArg List.length e1
    rw [List.length_map, List.length_map] at this
    exact this
  obtain ⟨kvs', p1, p2, p3⟩ : ∃ kvs' : List Mkv, Paired MRel kvs' ys ∧ kvs'.map (fun q => (q.1.nk, q.2)) = kvs.map (fun q => (q.1.nk, q.2)) ∧ (∀ q ∈ kvs', ∀ e, q.1 = .unit e → ∃ q0 ∈ kvs, q0.1 = .unit e) := by
    rcases e2 with g | g
    · rw [g]; exact ⟨kvs, pr, rfl, fun q m e ee => ⟨q, m, ee⟩⟩
    · obtain ⟨_, _, _, _, _, _, _, hy, _⟩ := id my
      obtain ⟨kvs', k1, k2, k3⟩ := rekeyed pr (fun y m => (hy y m).1) g e1
      exact ⟨kvs', k1, k2, fun q m e ee => by have h := k3 q m; rw [ee] at h; exact absurd (show false = true from h) (by decide)⟩
  exact ⟨.ref s.heap.objs.size, _, J.laid kp (Nat.le_refl _) (mix_close (by rw [paired_len p1, ly]; exact lx) nb my p1), rfl, q _ kvs' fr p2 p3⟩
end
end Lw

set_option Elab.async false
set_option linter.all false
set_option maxRecDepth 100000
/-! a def's promise where nothing is being shown (no guard of repr stands around): for laws that call repr -/
namespace Lw
open PySem PySem.Spec PyProof.Rows L2
structure FnG (P : Program) (w : World) (K : PySem.W.Frag) (mg : Str → Option Value) (base : Heap) (k : Nat) (f : Addr) (fd : FuncData) (ps : List Str) (sp : Sp) : Prop where
  few : ∀ vs H Q E, sp vs H Q E → vs.length = ps.length
  go : ∀ (A : Around) (outs : List Env) (st : Shared) (H : Hp) (ar : Args) (us : List Value) (vs : List V) (Q : VK) (E : XK), Room k A → A.guards = some [] → Env0 P w K mg base A outs st H → BindsTo st fd ar (ps.zip us) → Vals vs us →
    sp vs H Q E → codeAny (model P w) A (.call (.ref f) ar) (CR CX0 outs P w H st Q E) st
theorem FnG.of {P : Program} {w : World} {K : PySem.W.Frag} {mg : Str → Option Value} {base : Heap} {k : Nat} {f : Addr} {fd : FuncData} {ps : List Str} {sp : Sp} (F : FnOk P w K mg base CX0 k f fd ps sp) : FnG P w K mg base k f fd ps sp :=
  ⟨F.len, fun A outs st H ar us vs Q E hr _ he hb hv hs => F.run A outs st H ar us vs Q E hr he hb hv hs⟩
section
variable {P : Program} {w : World} {K : PySem.W.Frag} {mg : Str → Option Value} {base : Heap}
theorem fun_okG {x qual : Str} {dst : Stmt} {f : Addr} {fd : FuncData} {N ps : List Str} {k : Nat} {sp : Sp} (F : Fun K x qual dst f fd) (S : FnScope N ps (defScope dst)) (few : ∀ vs H Q E, sp vs H Q E → vs.length = ps.length)
    (body : ∀ (cdv : Value) (A : Around) (outs : List Env) (st : Shared) (H : Hp) (vs : List V) (Q : VK) (E : XK), Room k (A.deeper (envOfC qual (defScope dst) st.heap.objs.size f cdv)) → A.guards = some [] → sp vs H Q E →
      ∃ t, PSs (cxOf CX0 P w K mg base N qual (defScope dst) f cdv A outs st H E).nox (defBody dst) t ∧ t { nx := fun _ H' => Q .non H', rt := Q } (L2.start N vs) H) : FnG P w K mg base (k + 1) f fd ps sp := by
  obtain ⟨oc, od, kV, doc, pm, an, cdv, ct, osl, rfl, lk, hcd⟩ := F.ex
  refine ⟨few, fun A outs st H ar us vs Q E room hg ev hb hv hsp => ?_⟩
  have lenV := few _ _ _ _ hsp
  have kin : K.In st.heap := ev.mod.kin.keeps fun c o e => (ev.bs c o e).1
  have nl : st.heap.NoLimit := ev.mod.nolimit.keeps fun c o e => (ev.bs c o e).1
  have kinds : ∀ y ∈ ps.zip us, (defScope dst).names.lookup y.1 = some .local ∨ ((defScope dst).names.lookup y.1 = some .cell ∧ ((cellsFrom (st.heap.objs.size + 1) (defScope dst).names []).lookup y.1).isSome = true) := by
    rintro ⟨n, v⟩ hy
    rcases S.par n (List.of_mem_zip hy).1 with z | z
    · exact .inl z
    · exact .inr ⟨z, PySem.W.cellsFrom_some _ _ _ (.inl z)⟩
  refine codeAny_call_function room.depth (kin _ _ lk) rfl S.co S.gen rfl (PySem.W.codeRec_of kin hcd) (hb _ _ _ _ ?_)
  refine wpAny_newFunctionEnv_cells S.kind kinds fun ev1 he st1 ic => ?_
  subst he
  refine ⟨nl.keeps ic.toInCall.keep, codeAny_func ?_⟩
  obtain ⟨t, ht, hq⟩ := body cdv A outs st H vs Q E (room.deeper _) hg hsp
  have I : Inv (cxOf CX0 P w K mg base N qual (defScope dst) f cdv A outs st H E) [] (L2.start N vs) H st1 := inv_start S room.hd ev lenV hv ic
  refine wpAny_mono (ht.nox.run [] st1 (L2.start N vs) H _ I hq) (fun fl st' hs => ?_) fun e st' hs => hs
  have back : ∀ {σ' : L2.St} {H' : Hp} {v : V} {u : Value}, Inv (cxOf CX0 P w K mg base N qual (defScope dst) f cdv A outs st H E) [] σ' H' st' → RelV v u → Q v H' → CE outs P w H st Q u st' := by
    intro σ' H' v u J rv q
    exact ⟨v, H', J.os, J.bare, J.base, J.hok, rv, q⟩
  cases fl with
  | ret u =>
    obtain ⟨v, σ', H', J, rv, q⟩ := hs
    exact back J rv q
  | next =>
    obtain ⟨σ', H', J, q⟩ := hs
    exact back (v := V.non) (u := Value.none) J rfl q
  | brk => exact hs.elim fun _ h => h.elim fun _ h => False.elim h.2
  | cont => exact hs.elim fun _ h => h.elim fun _ h => False.elim h.2
end
section
variable {X : Cx} {k : Nat} {f : Addr} {fd : FuncData} {ps : List Str} {sp : Sp} {E : XK} {x : Str} {p pos : Pos} {e : Expr} {es : List Expr} {t : TA}
theorem pe_callG (F : FnG X.prog X.w X.K X.mg X.base k f fd ps sp) (hr : Room k X.A) (hgd : X.A.guards = some []) (hg : Gl X x) (hm : X.mg x = some (.ref f)) (hk : PySem.W.keepIn X.K (.ref f) = true) (hb : Binds X.K fd ps []) (hx : Passes CX0 X E) (ha : PA X (e :: es) t)
    (hdb : (x == ("__debug__" : Str)) = false := by decide) (he : starEach (e :: es) X.env = (false, eval e X.env) :: starEach es X.env := by rfl) (hpl : (backTo pos (starEach es X.env)).any (·.1) = false := by rfl) :
    PE X (.Call (.Name x p) (e :: es) [] pos) (tCall sp [] E t) := by
  refine ⟨fun pins st σ H Q I h => wpAny_Call_Name_kw (ld_glob I hg hm ?_ hdb)⟩
  refine PySem.W.callWith_K (h₀ := X.base) I.ok.mod.kin hk (thn (ha.run pos pins st σ H _ I h) fun us st1 got => ?_) he hpl
  obtain ⟨vs, H1, I1, r, q⟩ := got
  refine ⟨I1.kIn, ?_⟩
  have q' : sp vs H1 Q E := by rw [List.append_nil] at q; exact q
  have le : us.length = ps.length := by rw [← r.length]; exact F.few _ _ _ _ q'
  have bi := hb st1 us I1.kIn (by rw [List.append_nil]; exact le)
  rw [List.append_nil] at bi
  refine wpAny_call (codeAny_mono (F.go X.A X.stack st1 H1 ⟨us, []⟩ us vs Q E hr hgd I1.env0 bi r q') fun res st2 hq => ?_)
  cases res with
  | error er => exact hx pins σ H1 st1 er st2 I1 hq
  | ok fl =>
    cases fl with
    | ret u => exact I1.after hq
    | next => exact hq.elim
    | brk => exact hq.elim
    | cont => exact hq.elim
end

/-! ### the law's own call -/
section
variable {P : Program} {w : World} {K : PySem.W.Frag} {mg mb : Str → Option Value} {k : Nat} {fa a : Addr} {fd : FuncData} {x : Str} {sp : Sp} {st : Shared} {vs : List Value} {ns : List Int}
/-- the script's own object -/
abbrev scriptObj (vs : List Value) : Obj := { cls := .type "list", data := .seq vs.toArray }
abbrev LawEnd (st : Shared) (r : Result) (st' : Shared) : Prop := r = .ok (.ret (.bool true)) ∧ OldK st.heap st'.heap ∧ st'.os = st.os ∧ AllBare st'.gens
theorem law_from (kin : K.In st.heap) (gns : st.heap.Ns mainGlobals mg) (bns : st.heap.Ns builtinsNs mb) (bbs : ∀ y : Str, y ≠ "__name__" → mb y = bootBuiltins y) (nl : st.heap.NoLimit) (gn : st.gens = #[])
    (so : st.heap.get? a = some (scriptObj vs)) (room : Room k callerA) (sm : ∃ mm, st.heap.Ns sysModules mm) (F : ∀ base : Heap, K.In base → base.Ns mainGlobals mg → (∃ o, base.get? sysModules = some o) → FnG P w K mg base k fa fd [x] sp) (bd : ∀ (z : Shared) (u : Value), BindsTo z fd ⟨[u], []⟩ [(x, u)])
    (G : Hp) (only : Only G) (hok : HOk P w G st.heap) (atA : ∀ c, G c ≠ none → c = a) (nk : G a ≠ none → K.lookup a = none) (hsp : sp [.ref a] G (fun v _ => v = .bl true) fun _ _ _ => False) :
    codeAny (model P w) callerA (.call (.ref fa) ⟨[.ref a], []⟩) (LawEnd st) st := by
  have hid : ∀ {c : Addr} {o : Obj}, st.heap.get? c = some o → G c = none → (hidT st.heap G).get? c = some o := fun e n => hidT_get e n
  have free : ∀ {c : Addr} {o : Obj}, st.heap.get? c = some o → (c = a → False) → G c = none := by
    intro c o _ ne
    cases q : G c with
    | none => rfl
    | some u => exact (ne (atA c (by rw [q]; exact fun z => nomatch z))).elim
  have nsk : ∀ {c : Addr} {m : Str → Option Value}, st.heap.Ns c m → (hidT st.heap G).Ns c m := by
    rintro c m ⟨o, es, ep, e, d, r⟩
    refine ⟨o, es, ep, hid e (free e fun z => ?_), d, r⟩
    rw [z, so] at e
    cases e
    have d' : Data.seq vs.toArray _ = Data.dict es ep := d
    cases d'
  have kb : K.In (hidT st.heap G) := by
    intro c o e
    refine hid (kin c o e) ?_
    cases q : G c with
    | none => rfl
    | some u =>
      have ca := atA c (by rw [q]; exact fun z => nomatch z)
      rw [ca] at q e
      rw [nk (by rw [q]; exact fun z => nomatch z)] at e
      cases e
  have md : Mod K mg (hidT st.heap G) := by
    obtain ⟨mc, h1, h2⟩ := nl
    exact ⟨kb, nsk gns, ⟨mb, nsk bns, bbs⟩, ⟨mc, nsk h1, h2⟩⟩
  have ev : Env0 P w K mg (hidT st.heap G) callerA [] st G := ⟨rfl, md, fun c o e => of_hidT e, Nat.le_of_eq (hidT_size _ _), trivial, fun c hc => (List.not_mem_nil hc).elim, hok, .of_eq gn⟩
  refine codeAny_mono ((F _ kb (nsk gns) (sm.elim fun mm h => (nsk h).elim fun o h => h.elim fun es h => h.elim fun ep h => ⟨o, h.1⟩)).go callerA [] st G ⟨[.ref a], []⟩ [.ref a] [.ref a] _ _ room rfl ev (bd st (.ref a)) (.cons rfl .nil) hsp) fun r st' h => ?_
  cases r with
  | error er => exact False.elim h
  | ok fl =>
    cases fl with
    | ret u =>
      obtain ⟨v, G', os, bare, un, hok', rv, q⟩ := h
      have q' : v = .bl true := q
      subst q'
      obtain rfl : u = Value.bool true := rv
      refine ⟨rfl, OldK.of_keep fun c o e => ?_, os, bare⟩
      cases q : G c with
      | none => exact un.keep c o e q List.not_mem_nil List.not_mem_nil
      | some u =>
        rcases only c with z | ⟨ob, xs, z⟩
        · rw [q] at z
          cases z
        · obtain ⟨e1, _⟩ := hok c _ z
          obtain ⟨e2, _⟩ := hok' c _ (un.frzs c ob _ z)
          rw [e] at e1
          cases e1
          exact e2
    | next => exact False.elim h
    | brk => exact False.elim h
    | cont => exact False.elim h
theorem law_callG (kin : K.In st.heap) (gns : st.heap.Ns mainGlobals mg) (bns : st.heap.Ns builtinsNs mb) (bbs : ∀ y : Str, y ≠ "__name__" → mb y = bootBuiltins y) (nl : st.heap.NoLimit) (gn : st.gens = #[])
    (so : st.heap.get? a = some (scriptObj vs)) (hi : IntsAre vs ns) (hl : ns.length ≤ sizeLine) (room : Room k callerA) (sm : ∃ mm, st.heap.Ns sysModules mm) (F : ∀ base : Heap, K.In base → base.Ns mainGlobals mg → (∃ o, base.get? sysModules = some o) → FnG P w K mg base k fa fd [x] sp)
    (bd : ∀ (z : Shared) (u : Value), BindsTo z fd ⟨[u], []⟩ [(x, u)]) (hsp : ∀ G : Hp, Only G → SqL K G a (ns.map V.int) → sp [.ref a] G (fun v _ => v = .bl true) fun _ _ _ => False) :
    codeAny (model P w) callerA (.call (.ref fa) ⟨[.ref a], []⟩) (LawEnd st) st := by
  have rv := vals_ints hi
  have lenV := hi.length
  cases hk : K.lookup a with
  | none =>
    have at1 : (fun c => if c = a then some (HO.frz (scriptObj vs) (.lst (ns.map V.int))) else none : Hp) a = some (.frz (scriptObj vs) (.lst (ns.map V.int))) := if_pos rfl
    have at2 : ∀ {c : Addr}, c ≠ a → (fun c => if c = a then some (HO.frz (scriptObj vs) (.lst (ns.map V.int))) else none : Hp) c = none := fun n => if_neg n
    generalize (fun c => if c = a then some (HO.frz (scriptObj vs) (.lst (ns.map V.int))) else none : Hp) = G at at1 at2
    have on : Only G := fun c => if h : c = a then .inr ⟨scriptObj vs, ns.map V.int, by rw [h]; exact at1⟩ else .inl (at2 h)
    refine law_from kin gns bns bbs nl gn so room sm F bd G on (fun c u z => ?_) (fun c z => ?_) (fun _ => hk) (hsp G on (.inl (.inr ⟨_, at1⟩)))
    · by_cases hc : c = a
      · rw [hc, at1] at z
        cases z
        rw [hc]
        exact ⟨so, by rw [List.length_map]; exact hl, vs, _, rv, so⟩
      · rw [at2 hc] at z
        cases z
    · by_cases hc : c = a
      · exact hc
      · exact absurd (at2 hc) z
  | some o =>
    have e := kin a o hk
    rw [so] at e
    cases e
    have on : Only (fun _ => none) := fun _ => .inl rfl
    exact law_from kin gns bns bbs nl gn so room sm F bd (fun _ => none) on (fun c u z => nomatch z) (fun c z => (z rfl).elim) (fun z => (z rfl).elim)
      (hsp _ on (.inr ⟨_, vs.toArray, _, hk, rfl, rfl, rfl, by rw [List.size_toArray, lenV]; exact hl, by simpa using rv⟩))
end
/-- the end of a law row, from the law's promise where nothing is being shown -/
theorem walkG {l : PySem.W.OpenLaw} {n k : Nat} {q : Program} {loose : List Str} {XP : (Str → Option Value) → Heap → Prop} {YP : World → Heap → Prop} {d : DefRec} {K : Params → PySem.W.Frag} {sp : PySem.W.Frag → Sp} {x : Str}
    (hn : l.most = some n) (hn2 : n ≤ sizeLine) (hdf : d.params.defaults = []) (hin : PyProof.Rows.importsNone q = true) (room : Room k callerA) (hY : ∀ (w : World) (h : Heap), YP w h → (K w.params).In h)
    (F : ∀ (w : World) (mg : Str → Option Value) (fa : Addr) (h : Heap), (K w.params).In h → h.Ns mainGlobals mg → mg d.name = some (.ref fa) →
      ∃ fd : FuncData, (∀ (z : Shared) (u : Value), BindsTo z fd ⟨[u], []⟩ [(x, u)]) ∧ ∀ base : Heap, (K w.params).In base → base.Ns mainGlobals mg → (∃ o, base.get? sysModules = some o) → FnG l.prog w (K w.params) mg base k fa fd [x] (sp (K w.params)))
    (hsp : ∀ (K : PySem.W.Frag) (G : Hp) (a : Addr) (ns : List Int), ns.length ≤ n → Only G → SqL K G a (ns.map V.int) → sp K [.ref a] G (fun v _ => v = .bl true) fun _ _ _ => False) :
    PySem.W.WalkO q loose XP YP l.row.toRowW d [] (fun f vs => PySem.call f vs) := by
  refine Att.attach_call hn hdf fun w s0 s1 mg mb fa o pm cd doc a vs ns G Y ho hd hcd hmg hobj hints hlen hg => ?_
  obtain ⟨fd, bd, hF⟩ := F w mg fa _ (hY w _ Y) G.T.g hmg
  exact law_callG (hY w _ Y) G.T.g G.T.b G.T.builtins G.T.nolimit hg hobj hints (Nat.le_trans hlen hn2) room (let ⟨mm, h, _⟩ := (G.T.seer hin).mods; ⟨mm, h⟩) hF bd fun H hO hS => hsp (K w.params) H a ns hlen hO hS
end Lw

set_option Elab.async false
set_option linter.all false
set_option maxRecDepth 100000
set_option maxHeartbeats 4000000
/-! repr of lists, tuples and dicts of texts -/
namespace Lw
open PySem PySem.Spec PyProof.Rows L2
mutual
/-- what a value shows: in a heap of a proof -/
inductive DX (H : Hp) : V → PyData → Prop
  | non : DX H .non .none
  | bl (b : Bool) : DX H (.bl b) (.bool b)
  | str (x : Str) : DX H (.str x) (.str x)
  | lst {a : Addr} {xs : List V} {ds : List PyData} (e : H a = some (.lst xs)) (d : DXs H xs ds) : DX H (.ref a) (.list ds)
  | tup {a : Addr} {xs : List V} {ds : List PyData} (e : H a = some (.tup xs)) (d : DXs H xs ds) : DX H (.ref a) (.tuple ds)
  | dct {a : Addr} {kvs : List (Key × V)} {kds : List (Str × PyData)} (e : H a = some (.dK kvs)) (k : kvs.map (·.1) = kds.map fun p => Sum.inr p.1) (d : DXs H (kvs.map (·.2)) (kds.map (·.2))) : DX H (.ref a) (.dict (kds.map fun p => (.str p.1, p.2)))
inductive DXs (H : Hp) : List V → List PyData → Prop
  | nil : DXs H [] []
  | cons {v : V} {vs : List V} {d : PyData} {ds : List PyData} (a : DX H v d) (b : DXs H vs ds) : DXs H (v :: vs) (d :: ds)
end
section
variable {X : Cx} {pl : List (Addr × Obj)} {σ : L2.St} {H : Hp} {s : Shared}
def Tracked (H : Hp) (as : List Addr) : Prop := ∀ b ∈ as, ∃ o, H b = some o
theorem keys_read {knd : Key → Value → Bool} {h : Heap} : ∀ {es : List DictEntry} {vs : List (Key × Value)} {kds : List (Str × PyData)}, PySem.Pairs (mixKind X.prog X.w) es vs → vs.map (·.1) = kds.map (fun p => Sum.inr p.1) →
    ReadsAll h (es.map (·.key)) ((kds.map fun p => (PyData.str p.1, p.2)).map (·.1)) [] ∧ es.map (·.val) = vs.map (·.2) := by
  intro es vs kds p
  induction p generalizing kds with
  | nil =>
    intro e
    cases kds with
    | nil => exact ⟨.nil, rfl⟩
    | cons _ _ => cases e
  | @cons en kv es vs a b _ ih =>
    intro e
    cases kds with
    | nil => cases e
    | cons kd kds =>
      obtain ⟨e1, e2⟩ := List.cons.inj e
      obtain ⟨r1, r2⟩ := ih e2
      have a : keyIs kv.1 en.key = true := a
      have e1 : kv.1 = Sum.inr kd.1 := e1
      rw [e1] at a
      have z : ∃ t, en.key = .str kd.1 t := by
        cases hk : en.key with
        | str x t =>
          rw [hk] at a
          have a : Value.isStrOf kd.1 (Value.str x t) = true := a
          have : x = kd.1 := by simpa [Value.isStrOf] using a
          exact ⟨t, by rw [this]⟩
        | _ => rw [hk] at a; cases a
      obtain ⟨t, z⟩ := z
      refine ⟨?_, by rw [List.map_cons, List.map_cons, b, r2]⟩
      have q := ReadsAll.cons (Reads.str (h := h) kd.1 t) r1
      rw [List.nil_append] at q
      rw [List.map_cons, z]
      exact q
theorem kv_keys {kvs : List (Key × V)} {vs : List (Key × Value)} (kv : KV kvs vs) : vs.map (·.1) = kvs.map (·.1) := by
  unfold KV at kv
  induction kv with
  | nil => rfl
  | cons x _ ih => rw [List.map_cons, List.map_cons, ih, x.1]
theorem kv_vals {kvs : List (Key × V)} {vs : List (Key × Value)} (kv : KV kvs vs) : Vals (kvs.map (·.2)) (vs.map (·.2)) := by
  unfold KV at kv
  induction kv with
  | nil => exact .nil
  | cons x _ ih => exact .cons x.2 ih
mutual
theorem DX.reads (J : Inv X pl σ H s) : ∀ {v : V} {d : PyData}, DX H v d → ∀ {u : Value}, RelV v u → ∃ as, Reads s.heap u d as ∧ Tracked H as
  | _, _, .non, u, r => ⟨[], by cases (show u = Value.none from r); exact .none, fun b hb => absurd hb (by simp)⟩
  | _, _, .bl b, u, r => ⟨[], by cases (show u = Value.bool b from r); exact .bool b, fun b hb => absurd hb (by simp)⟩
  | _, _, .str x, u, r => ⟨[], by obtain ⟨t, rfl⟩ := (show ∃ t, u = Value.str x t from r); exact .str x t, fun b hb => absurd hb (by simp)⟩
  | _, _, @DX.lst _ a xs ds e d, u, r => by
    cases (show u = Value.ref a from r)
    obtain ⟨_, its, n, rv, ob⟩ := J.hok a _ e
    obtain ⟨as, q, t⟩ := DXs.reads J d rv
    exact ⟨a :: as, .list ob rfl rfl (by simpa using q), fun b hb => (List.mem_cons.mp hb).elim (fun z => ⟨_, z ▸ e⟩) (t b)⟩
  | _, _, @DX.tup _ a xs ds e d, u, r => by
    cases (show u = Value.ref a from r)
    obtain ⟨_, its, rv, o, h1, h2, n, h3⟩ := (show ObjOk X.prog X.w H s.heap a (.tup xs) from J.hok a _ e)
    obtain ⟨as, q, t⟩ := DXs.reads J d rv
    exact ⟨as, .tuple h1 h2 h3 (by simpa using q), t⟩
  | _, _, @DX.dct _ a kvs kds e k d, u, r => by
    cases (show u = Value.ref a from r)
    obtain ⟨_, _, vs, kv, o, es, ep, h1, h2, h3, _, h4, _⟩ := (show ObjOk X.prog X.w H s.heap a (.dK kvs) from J.hok a _ e)
    have kk := kv_keys kv
    have vv := kv_vals kv
    obtain ⟨r1, r2⟩ := keys_read (X := X) (knd := keyIs) (h := s.heap) h4 (kk.trans k)
    obtain ⟨as, q, t⟩ := DXs.reads J d vv
    have q' : ReadsAll s.heap (es.toList.map (·.val)) ((kds.map fun p => (PyData.str p.1, p.2)).map (·.2)) as := by
      rw [r2, List.map_map]
      exact q
    exact ⟨a :: [] ++ as, .dict h1 h2.1 h3 r1 q', fun b hb => (List.mem_cons.mp hb).elim (fun z => ⟨_, z ▸ e⟩) (t b)⟩
theorem DXs.reads (J : Inv X pl σ H s) : ∀ {vs : List V} {ds : List PyData}, DXs H vs ds → ∀ {us : List Value}, Vals vs us → ∃ as, ReadsAll s.heap us ds as ∧ Tracked H as
  | _, _, .nil, _, .nil => ⟨[], .nil, fun b hb => absurd hb (by simp)⟩
  | _, _, .cons a b, _, .cons x y => by
    obtain ⟨as, q1, t1⟩ := DX.reads J a x
    obtain ⟨bs, q2, t2⟩ := DXs.reads J b y
    exact ⟨as ++ bs, .cons q1 q2, fun c hc => (List.mem_append.mp hc).elim (t1 c) (t2 c)⟩
end
/-- repr(x) -/
def rRepr : List V → Hp → VK → Prop := fun vs H Q => ∃ (a : Addr) (d : PyData), vs = [.ref a] ∧ DX H (.ref a) d ∧ d.showable = true ∧ d.depth ≤ 40 ∧ d.shown.length ≤ sizeLine ∧ Q (.str d.shown) H
theorem call_repr (hg : X.A.guards = some []) (hu : X.A.units + 64 < cLine) (hs : ∃ o, X.base.get? sysModules = some o) : CallR X (.builtin "repr") rRepr := by
  intro pl s σ H vs us Q J r h
  obtain ⟨a, d, rfl, dx, sh, dp, sz, q⟩ := h
  rw [Vals.ref1 r]
  obtain ⟨as, rd, tr⟩ := DX.reads J dx (u := .ref a) rfl
  obtain ⟨o, eo⟩ := hs
  obtain ⟨e0, n0⟩ := J.ok.bs _ _ eo
  have none0 : H sysModules = none := J.base.free _ _ e0 n0 (J.ok.noex _ _ eo)
  refine repr_of_reads' rd sh (fun _ hm => ?_) hg (by omega) (fun _ _ z => z) (fun h' u tk k => ⟨.str d.shown, H, J.kept (t' := tk) k, ⟨u, rfl⟩, q⟩) sz
  obtain ⟨o2, e2⟩ := tr _ hm
  rw [none0] at e2
  cases e2
end
end Lw

set_option Elab.async false
set_option linter.all false
set_option maxRecDepth 100000
set_option maxHeartbeats 4000000
namespace Lw
open PySem PySem.Spec PyProof.Rows L2
section
variable {X : Cx} {pl : List (Addr × Obj)} {σ : L2.St} {H : Hp} {s : Shared} {a : Addr} {kvs : List Mkv} {o i e value : Expr} {pos pos' apos cpos : Pos} {td ty tv : TE} {t : TE}
theorem key_in {k : NestedKey} {xs : List Ent} (pr : Paired MRel kvs xs) (h : k ∈ kvs.map fun p => p.1.nk) : k ∈ xs.map (·.1) := by rw [paired_nk pr]; exact h
theorem ent_of {k : NestedKey} {xs : List Ent} (pr : Paired MRel kvs xs) {j : Nat} {kv v : Value} (e : xs[j]? = some (k, kv, v)) : ∃ p, kvs[j]? = some p ∧ p.1.nk = k ∧ RelV p.1.v kv ∧ RelV p.2 v := by
  obtain ⟨p, ep, r1, r2, r3⟩ := paired_at pr e
  exact ⟨p, ep, r1.symm, r2, r3⟩
/-- d[k], there -/
def tMGet (w : World) (td ty : TE) : TE := fun σ H Q => td σ H fun x H1 => ty σ H1 fun y H2 => ∃ (a : Addr) (kvs : List Mkv) (k : MK), x = .ref a ∧ y = k.v ∧ H2 a = some (MixO w a kvs) ∧ UOk H2 kvs ∧ KOk H2 k ∧ k.nk ∈ kvs.map (fun p => p.1.nk) ∧
  ∀ (j : Nat) (p : Mkv), kvs[j]? = some p → p.1.nk = k.nk → Q p.2 H2
theorem pe_mget (hu : X.A.units + 9 < cLine) (ho : PE X o td) (hi : PE X i ty) (hs : NoSl i) : PE X (.Subscript o i pos) (tMGet X.w td ty) := by
  refine ⟨fun pl s σ H Q J h => ?_⟩
  refine subD_of F.slot_dict_getitem.lookup hs (thn (ho.run pl s σ H _ J h) fun u s1 ⟨x, H1, J1, rx, q1⟩ => thn (hi.run pl s1 σ H1 _ J1 q1) fun iv s2 ⟨y, H2, J2, ry, a, kvs, k, ex, ey, e, uo, ko, hin, q2⟩ => ?_)
  subst ex ey
  cases (show u = Value.ref a from rx)
  obtain ⟨l, ns, xs, m, pr⟩ := mix_open J2.hok e uo
  refine ⟨m.typeIs, getitem_mix hu (nk_is J2.hok ko ry) (nk_depth k) m (key_in pr hin) fun j kv v ej => ?_⟩
  obtain ⟨p, ep, p1, p2, p3⟩ := ent_of pr ej
  exact ⟨p.2, H2, J2.tok _, p3, q2 j p ep p1⟩
/-- d[k] = v: the key's place is kept, or is the last one -/
def MSet (kvs : List Mkv) (k : MK) (v : V) (kvs' : List Mkv) : Prop :=
  (k.nk ∉ kvs.map (fun p => p.1.nk) ∧ kvs' = kvs ++ [(k, v)]) ∨ ∃ (j : Nat) (p : Mkv), kvs[j]? = some p ∧ p.1.nk = k.nk ∧ kvs' = kvs.set j (p.1, v)
def sMPut (w : World) (td ty tv : TE) : TS := fun D σ H => tv σ H fun v H1 => td σ H1 fun x H2 => ty σ H2 fun y H3 => ∃ (a : Addr) (kvs : List Mkv) (k : MK), x = .ref a ∧ y = k.v ∧ H3 a = some (MixO w a kvs) ∧ UOk H3 kvs ∧ KOk H3 k ∧ kvs.length + 1 ≤ sizeLine ∧
  ∀ kvs', MSet kvs k v kvs' → D.nx σ (upd H3 a (MixO w a kvs'))
theorem ps_mput (hu : X.A.units + 9 < cLine) (ho : PE X o td) (hi : PE X i ty) (hv : PE X value tv) (hs : swapsWith value (some (.Subscript o i pos')) pos.line X.env = pure false) : PS X (.Assign [.Subscript o i pos'] value pos) (sMPut X.w td ty tv) := by
  refine ⟨fun pl s σ H D J h => ?_⟩
  refine wpAny_Assign_Subscript (thn (hv.run pl s σ H _ J h) fun r s1 ⟨v, H1, J1, rv, q1⟩ => thn (ho.run pl s1 σ H1 _ J1 q1) fun u s2 ⟨x, H2, J2, rx, q2⟩ => thn (hi.run pl s2 σ H2 _ J2 q2) fun iv s3 ⟨y, H3, J3, ry, a, kvs, k, ex, ey, e, uo, ko, lz, q3⟩ => ?_) hs
  subst ex ey
  cases (show u = Value.ref a from rx)
  obtain ⟨l, ns, xs, m, pr⟩ := mix_open J3.hok e uo
  refine setitem_mix hu (nk_is J3.hok ko ry) (nk_depth k) m (by rw [← paired_len pr]; exact l) fun h' ys m' sb st => ?_
  rcases st with ⟨st1, st2⟩ | ⟨j, kv, old, ej, st2⟩
  · have pr' : Paired MRel (kvs ++ [(k, v)]) ys := by rw [st2]; exact paired_snoc pr ⟨rfl, ry, rv⟩
    exact ⟨σ, _, mix_write J3 e (by rw [List.length_append]; exact lz) ns m' pr' sb, q3 _ (.inl ⟨by rw [← paired_nk pr]; exact st1, rfl⟩)⟩
  · obtain ⟨p, ep, p1, p2, p3⟩ := ent_of pr ej
    have pr' : Paired MRel (kvs.set j (p.1, v)) ys := by rw [st2]; exact paired_set pr ⟨p1.symm, p2, rv⟩ j
    exact ⟨σ, _, mix_write J3 e (by rw [List.length_set]; exact l) ns m' pr' sb, q3 _ (.inr ⟨j, p, ep, p1, rfl⟩)⟩
/-- d.pop(k), there -/
def tMPop (w : World) (td ty : TE) : TE := fun σ H Q => td σ H fun x H1 => ∃ (a : Addr) (kvs : List Mkv), x = .ref a ∧ H1 a = some (MixO w a kvs) ∧ ty σ H1 fun y H2 => ∃ (k : MK), y = k.v ∧ H2 a = some (MixO w a kvs) ∧ UOk H2 kvs ∧ KOk H2 k ∧ k.nk ∈ kvs.map (fun p => p.1.nk) ∧
  ∀ (j : Nat) (p : Mkv), kvs[j]? = some p → p.1.nk = k.nk → Q p.2 (upd H2 a (MixO w a (kvs.eraseIdx j)))
theorem mix_type {w : World} {P : Program} {h : Heap} (ok : HOk P w H h) (e : H a = some (MixO w a kvs)) : ∃ ob, h.get? a = some ob ∧ ob.cls = .type "dict" ∧ ob.dict = none := by
  obtain ⟨⟨l, ns, _, ob, es, ep, ho, hx, hd, pr⟩, _⟩ := (show ObjOk P w H h a (MixO w a kvs) from ok a _ e)
  exact ⟨ob, ho, hx.1, hx.2.1⟩
theorem pe_mpop (hu : X.A.units + 9 < cLine) (ho : PE X o td) (he : PE X e ty) (m : M1 X o "pop" apos e cpos) : PE X (.Call (.Attribute o "pop" apos) [e] [] cpos) (tMPop X.w td ty) := by
  refine ⟨fun pl s σ H Q J h => ?_⟩
  refine wpAny_Call_method m.base m.few m.line F.plainAttrs_dict F.slot_dict_pop F.type_dict_pop (thn (ho.run pl s σ H _ J h) fun u s1 ⟨x, H1, J1, rx, a, kvs, ex, e1, q1⟩ => ?_)
  subst ex
  cases (show u = Value.ref a from rx)
  obtain ⟨ob, t1, t2, t3⟩ := mix_type J1.hok e1
  refine ⟨⟨ob, t1, t2⟩, fun b q => by cases q; exact ⟨ob, t1, t3⟩, ?_⟩
  rw [m.trees]
  refine Calls.callWith_builtin rfl (Calls.evalArgs_plain (Calls.spliced_cons (thn (he.run pl s1 σ H1 _ J1 q1) fun iv s2 ⟨y, H2, J2, ry, k, ey, e2, uo, ko, hin, q2⟩ => Calls.spliced_nil ?_)))
  subst ey
  obtain ⟨l, ns, xs, mm, pr⟩ := mix_open J2.hok e2 uo
  refine pop_mix ns hu (nk_is J2.hok ko ry) (nk_depth k) mm (by rw [← paired_len pr]; exact l) (key_in pr hin) fun h' j kv v ej m' sb => ?_
  obtain ⟨p, ep, p1, p2, p3⟩ := ent_of pr ej
  exact ⟨p.2, _, mix_write J2 e2 (Nat.le_trans (by rw [List.length_eraseIdx]; split <;> omega) l) ns m' (paired_erase pr j) sb, p3, q2 j p ep p1⟩
/-! ### told otherwise -/
theorem pe_ghost (h : PE X e t) : PE X e (fun σ H Q => t σ H fun v H1 => ∃ H2, Ghost X H1 H2 ∧ Q v H2) := by
  refine ⟨fun pl s σ H Q J w => ?_⟩
  exact thn (h.run pl s σ H _ J w) fun u s1 ⟨v, H1, J1, rv, H2, g, q⟩ => ⟨v, H2, g pl σ s1 J1, rv, q⟩
def convK : Key → MK
  | .inl i => .int i
  | .inr z => .str z
abbrev convD (kvs : List (Key × V)) : List Mkv := kvs.map fun p => (convK p.1, p.2)
theorem conv_v (k : Key) : (convK k).v = kV k := by cases k <;> rfl
theorem conv_hash (w : World) (k : Key) : (convK k).nk.hash w = keyH w k := by cases k <;> rfl
theorem conv_inj {a b : Key} (h : (convK a).nk = (convK b).nk) : a = b := by
  cases a <;> cases b <;> first | (injection h with h; rw [h]) | exact nomatch h
theorem conv_key {k : Key} {u : Value} (h : keyIs k u = true) : RelV (convK k).v u := by
  rcases keyIs_shape h with ⟨i, t, rfl, rfl⟩ | ⟨z, t, rfl, rfl⟩
  · exact ⟨t, rfl⟩
  · exact ⟨t, rfl⟩
theorem conv_ents {P : Program} {w : World} : ∀ {kvs : List (Key × V)} {vs : List (Key × Value)} {l : List DictEntry}, KV kvs vs → PySem.Pairs (mixKind P w) l vs → (∀ e ∈ l, ∃ k, keyIs k e.key = true ∧ e.hash = keyH w k) → Paired (MEnt w) (convD kvs) l
  | _, _, _, .nil, .nil, _ => .nil
  | _, _, _, .cons r t, .cons a b p, hk => by
    rename_i kv vs kv' vs' en es
    obtain ⟨k, k1, k2⟩ := hk en List.mem_cons_self
    have ek : k = vs.1 := (mixKind P w).inj _ _ _ k1 a
    subst ek
    refine .cons ⟨?_, ?_, ?_⟩ (conv_ents t p fun e m => hk e (List.mem_cons_of_mem _ m))
    · show en.hash = (convK kv.1).nk.hash w
      rw [conv_hash, r.1, k2]
    · show RelV (convK kv.1).v en.key
      rw [r.1]
      exact conv_key k1
    · show RelV kv.2 en.val
      rw [b]
      exact r.2
theorem ghost_dk {kvs : List (Key × V)} (e : H a = some (.dK kvs)) : Ghost X H (upd H a (MixO X.w a (convD kvs))) := by
  intro pl σ s J
  obtain ⟨z, ns, vs, kv, ob, es, ep, ho, hx, hd, hk, hp, hn⟩ := (show ObjOk X.prog X.w H s.heap a (.dK kvs) from J.hok a _ e)
  refine J.write (x := a) (e := a) (t' := s.toks) (h' := s.heap) (by rw [e]; exact True.intro) (.inl rfl) (fun b u _ hu => hu) ⟨ob, ho⟩ ?_
  have ek := kv_keys kv
  have nd : ((convD kvs).map fun p => p.1.nk).Nodup := by
    have : ((convD kvs).map fun p => p.1.nk) = (kvs.map (·.1)).map fun k => (convK k).nk := by rw [List.map_map, List.map_map]; rfl
    rw [this, ← ek]
    exact List.Pairwise.map _ (fun a b n q => n (conv_inj q)) hn
  refine ⟨⟨by rw [List.length_map]; exact z, ns, nd, ob, es, ep, ho, hx, hd, conv_ents kv hp fun e m => hk e (Array.mem_toList_iff.mp m)⟩, ⟨ob, ho⟩, fun h1 h2 p k => ?_⟩
  obtain ⟨q1, q2, q3, o2, es2, ep2, g1, g2⟩ := p
  exact ⟨q1, q2, q3, o2, es2, ep2, k _ g1, g2⟩
end
end Lw

set_option Elab.async false
set_option linter.all false
set_option maxRecDepth 100000
set_option maxHeartbeats 4000000
namespace Lw
open PySem PySem.Spec PyProof.Rows L2
theorem dict_no_str (l : Addr) (es : Array DictEntry) (n : Nat) (dd : Option Addr) (sl : Array (Option Value)) (b : Str) (u : Tok) :
    Meets (Builtin.«dict.__eq__» ⟨[.ref l, .str b u], []⟩) (fun _ R s => s.heap.get? l = some { cls := .type "dict", dict := dd, data := .dict es n, slots := sl } ∧ R (.ok (.ret .notImplemented)) s) :=
  .of_wp fun prog w A R s h => by
    obtain ⟨hp, g, d, tk, os⟩ := s
    obtain ⟨hl, h⟩ := h
    have f1 := F.sub_str_dict
    wp_walk using wpAny_loadPart' hl
    exact ⟨_, rfl, h⟩
theorem str_no_dict (b : Str) (u : Tok) (l : Addr) (es : Array DictEntry) (n : Nat) (dd : Option Addr) (sl : Array (Option Value)) :
    Meets (Builtin.«str.__eq__» ⟨[.str b u, .ref l], []⟩) (fun _ R s => s.heap.get? l = some { cls := .type "dict", dict := dd, data := .dict es n, slots := sl } ∧ R (.ok (.ret .notImplemented)) s) :=
  .of_wp fun prog w A R s h => by
    obtain ⟨hp, g, d, tk, os⟩ := s
    obtain ⟨hl, h⟩ := h
    wp_walk using wpAny_loadPart' hl, wpAny_load hl
    exact ⟨_, rfl, h⟩
theorem rc_str_dict {A : Around} {s : Shared} {l : Addr} {o : Obj} {es : Array DictEntry} {n : Nat} (b : Str) (u : Tok) (ho : s.heap.get? l = some o) (hc : o.cls = .type "dict") (hd : o.data = .dict es n) (hu : A.units < cLine) : SeqAt.RcAt A s (.str b u) (.ref l) false := fun prog w E Q h => by
  obtain ⟨cls, dd, data, sl⟩ := o
  simp only at hc hd
  subst hc hd
  exact SeqAt.rc_eq_decline_or (k := false) (typeIs_str s b u) ⟨_, ho, rfl⟩ (by decide) F.sub_dict_str F.slot_str_eq F.slot_dict_eq_refl
    (fun _ hq => call_meets F.slot_str_eq (typeIs_str s b u) F.entry_str_eq (F.args_str_eq_2 _ _) (str_no_dict b u l es n dd sl) ⟨ho, hq⟩)
    (fun _ hq => call_meets F.slot_dict_eq_refl ⟨_, ho, rfl⟩ F.entry_dict_eq (F.args_dict_eq_2 _ _) (dict_no_str l es n dd sl b u) ⟨ho, hq⟩)
    (fun _ hq => wpAny_of_eq (rfl : isSame (.str b u) (.ref l) = pure false) hq) (.inr hu) h
theorem eq_str_dict {A : Around} {s : Shared} {l : Addr} {o : Obj} {es : Array DictEntry} {n : Nat} (b : Str) (u : Tok) (ho : s.heap.get? l = some o) (hc : o.cls = .type "dict") (hd : o.data = .dict es n) (hu : A.units < cLine) : SeqAt.EqAt A s (.str b u) (.ref l) false := fun prog w E Q h => by
  unfold eqBool
  refine wpAny_holding (wpAny_ite_split (fun q => absurd (eq_of_beq q) nofun) (fun _ => ?_))
  exact wpAny_bind (rc_str_dict b u ho hc hd hu prog w E _ (wpAny_truthy_bool h))
/-! ### isinstance -/
inductive TyM (K : PySem.W.Frag) (w : World) (H : Hp) : V → Value → Prop
  | base {x : V} {t : Value} (h : TyX K H x t) : TyM K w H x t
  | mix {a : Addr} {kvs : List Mkv} (e : H a = some (MixO w a kvs)) : TyM K w H (.ref a) (.type "dict")
section
variable {X : Cx} {pl : List (Addr × Obj)} {σ : L2.St} {H : Hp} {s : Shared}
theorem kit_ofM {x : V} {u t : Value} (J : Inv X pl σ H s) (rx : RelV x u) (ty : TyM X.K X.w H x t) : ∃ P : Heap → Prop, PySem.W.KitX X.K u t P ∧ P s.heap ∧ u ≠ .builtin "__main__.__loader__#opaque" := by
  cases ty with
  | base h => exact kit_of J rx h
  | mix e =>
    cases (show u = Value.ref _ from rx)
    obtain ⟨ob, h1, h2, _⟩ := mix_type J.hok e
    exact ⟨_, PySem.W.kitx_dict, ⟨ob, h1, h2⟩, fun z => nomatch z⟩
def rIsiM (K : PySem.W.Frag) (w : World) : List V → Hp → VK → Prop := fun xs H Q => ∃ (x c : V) (t u : Value) (b : Bool), xs = [x, c] ∧ ClsV c u ∧ TyM K w H x t ∧ PySem.W.kitOne K t u = some b ∧ Q (.bl b) H
def rIsiTM (K : PySem.W.Frag) (w : World) : List V → Hp → VK → Prop := fun xs H Q => ∃ (x : V) (tp : Addr) (cs : List V) (t : Value) (us : List Value) (b : Bool), xs = [x, .ref tp] ∧ H tp = some (.tup cs) ∧ Paired ClsV cs us ∧ TyM K w H x t ∧ PySem.W.kitAny K t us = some b ∧ Q (.bl b) H
theorem call_isiM : CallR X (.builtin "isinstance") (rIsiM X.K X.w) := by
  intro pl s σ H xs us Q J r h
  obtain ⟨x, c, t, u, b, rfl, k, ty, e, q⟩ := h
  obtain ⟨u1, u2, rfl, r1, r2⟩ := vals2 r
  have eu := k.eq r2
  subst eu
  obtain ⟨P, Z, p, hx⟩ := kit_ofM J r1 ty
  exact PySem.W.kia_one Z J.kIn p e hx fun tk => ⟨.bl b, H, J.tok tk, rfl, q⟩
theorem call_isiTM : CallR X (.builtin "isinstance") (rIsiTM X.K X.w) := by
  intro pl s σ H xs us Q J r h
  obtain ⟨x, tp, cs, t, ws, b, rfl, hT, k, ty, e, q⟩ := h
  obtain ⟨u1, u2, rfl, r1, r2⟩ := vals2 r
  cases (show u2 = Value.ref tp from r2)
  obtain ⟨P, Z, p, hx⟩ := kit_ofM J r1 ty
  obtain ⟨_, its, rv, o, h1, h2, n, h3⟩ := (show ObjOk X.prog X.w H s.heap tp (.tup cs) from J.hok tp _ hT)
  obtain rfl := ClsV.all k rv
  obtain ⟨oc, od, dt, sl⟩ := o
  cases (show oc = _ from h2)
  cases (show dt = _ from h3)
  exact PySem.W.kia_tup Z J.kIn p h1 e hx fun tk => ⟨.bl b, H, J.tok tk, rfl, q⟩
/-! ### x in (texts), whatever x is -/
/-- a value of one of the plain kinds -/
inductive Kd (K : PySem.W.Frag) (w : World) (H : Hp) : V → Prop
  | non : Kd K w H .non
  | bl (b : Bool) : Kd K w H (.bl b)
  | int (i : Int) : Kd K w H (.int i)
  | str (z : Str) : Kd K w H (.str z)
  | lst {a : Addr} {xs : List V} (e : H a = some (.lst xs)) : Kd K w H (.ref a)
  | tup {a : Addr} {xs : List V} (e : H a = some (.tup xs)) : Kd K w H (.ref a)
  | mix {a : Addr} {kvs : List Mkv} (e : H a = some (MixO w a kvs)) : Kd K w H (.ref a)
def isStrV (z : Str) : V → Bool
  | .str y => z == y
  | _ => false
theorem eq_str_kd {x : V} {v : Value} {A : Around} (hu : A.units < cLine) (J : Inv X pl σ H s) (k : Kd X.K X.w H x) (r : RelV x v) (z : Str) (t : Tok) : SeqAt.EqAt A s (.str z t) v (isStrV z x) := by
  cases k with
  | non => cases (show v = Value.none from r); exact SeqAt.EqAt.str_none z t
  | bl b => cases (show v = Value.bool b from r); exact SeqAt.EqAt.str_bool z t b
  | int i => obtain ⟨u, rfl⟩ := (show ∃ t, v = Value.int i t from r); exact SeqAt.EqAt.str_int z t i u
  | str y => obtain ⟨u, rfl⟩ := (show ∃ t, v = Value.str y t from r); exact SeqAt.EqAt.str_str z t y u
  | @lst a xs e =>
    cases (show v = Value.ref a from r)
    obtain ⟨_, its, n, _, h1⟩ := (show ObjOk X.prog X.w H s.heap a (.lst xs) from J.hok a _ e)
    exact SeqAt.EqAt.str_list z t ⟨_, h1, rfl, n, rfl⟩ hu
  | @tup a xs e =>
    cases (show v = Value.ref a from r)
    obtain ⟨_, its, _, o, h1, h2, n, h3⟩ := (show ObjOk X.prog X.w H s.heap a (.tup xs) from J.hok a _ e)
    exact SeqAt.EqAt.str_tuple z t ⟨o, h1, h2, n, h3⟩ hu
  | @mix a kvs e =>
    cases (show v = Value.ref a from r)
    obtain ⟨⟨l, ns, _, o, es, ep, ho, hx, hd, pr⟩, _⟩ := (show ObjOk X.prog X.w H s.heap a (MixO X.w a kvs) from J.hok a _ e)
    exact eq_str_dict z t ho hx.1 hd hu
def rInM (K : PySem.W.Frag) (w : World) : R2 := fun x y H Q => ∃ (p : Addr) (zs : List Str), y = .ref p ∧ (SqL K H p (zs.map V.str) ∨ SqT K H p (zs.map V.str)) ∧ Kd K w H x ∧ Q (.bl (zs.any fun z => isStrV z x)) H
theorem strs_any {x : V} {zs : List Str} {its : List Value} (r : Vals (zs.map V.str) its) : its.any (fun u => match u with | .str z _ => isStrV z x | _ => false) = zs.any (fun z => isStrV z x) := by
  induction zs generalizing its with
  | nil => cases r; rfl
  | cons z zs ih =>
    cases r with
    | cons a b =>
      obtain ⟨t, rfl⟩ := (show ∃ t, _ = Value.str z t from a)
      rw [List.any_cons, List.any_cons, ih b]
theorem strs_mem {zs : List Str} {its : List Value} (r : Vals (zs.map V.str) its) : ∀ u ∈ its, ∃ z t, u = Value.str z t := by
  induction zs generalizing its with
  | nil => cases r; exact fun u m => absurd m List.not_mem_nil
  | cons z zs ih =>
    cases r with
    | cons a b =>
      intro u m
      rcases List.mem_cons.mp m with g | g
      · obtain ⟨t, e⟩ := (show ∃ t, _ = Value.str z t from a)
        exact ⟨z, t, g.trans e⟩
      · exact ih b u g
theorem op_inM (hu : X.A.units + 64 < cLine) : OpR X (compareOp .In) (rInM X.K X.w) := by
  intro pl s σ H x y v u Q J rx ry h
  obtain ⟨p, zs, rfl, hq, kx, q⟩ := h
  cases (show u = Value.ref p from ry)
  have each : ∀ {its : List Value} {A : Around}, A.units < cLine → Vals (zs.map V.str) its → ∀ u ∈ its, SeqAt.EqAt A s u v (match u with | .str z _ => isStrV z x | _ => false) := by
    intro its A ha r u m
    obtain ⟨z, t, rfl⟩ := strs_mem r u m
    exact eq_str_kd ha J kx rx z t
  rcases hq with hq | hq
  · obtain ⟨its, r, pl, hz⟩ := J.list hq
    refine SeqAt.in_listAt (fun u => match u with | .str z _ => isStrV z x | _ => false) pl.isList (fun u m => each (by rw [Around.in1_units]; omega) r u (by simpa using m)) ⟨.bl _, H, J, rfl, ?_⟩
    rw [List.any_toArray, strs_any r]
    exact q
  · obtain ⟨its, r, pl, hz⟩ := J.tuple hq
    refine SeqAt.in_tupleAt (fun u => match u with | .str z _ => isStrV z x | _ => false) pl (fun u m => each (by rw [Around.in1_units]; omega) r u (by simpa using m)) ⟨.bl _, H, J, rfl, ?_⟩
    rw [List.any_toArray, strs_any r]
    exact q
end
end Lw

set_option Elab.async false
set_option linter.all false
set_option maxRecDepth 100000
set_option maxHeartbeats 4000000
/-! data of any kind: what a value shows, and how large it is -/
namespace Lw
open PySem PySem.Spec PyProof.Rows L2
/-- data that can be shown: at most n levels, of weight at most m -/
structure Fine (d : PyData) (n m : Nat) : Prop where
  sh : d.showable = true
  lf : d.leavesShort 48 = true
  dep : d.depth ≤ n
  wt : d.weight ≤ m
structure FineAll (ds : List PyData) (n m : Nat) : Prop where
  ok : ∀ d ∈ ds, d.showable = true ∧ d.leavesShort 48 = true ∧ d.depth ≤ n
  wt : PyData.weightAll ds ≤ m
theorem Fine.le {d : PyData} {n m n' m' : Nat} (x : Fine d n m) (a : n ≤ n') (b : m ≤ m') : Fine d n' m' := ⟨x.sh, x.lf, Nat.le_trans x.dep a, Nat.le_trans x.wt b⟩
theorem FineAll.le {ds : List PyData} {n m n' m' : Nat} (x : FineAll ds n m) (a : n ≤ n') (b : m ≤ m') : FineAll ds n' m' := ⟨fun d h => ⟨(x.ok d h).1, (x.ok d h).2.1, Nat.le_trans (x.ok d h).2.2 a⟩, Nat.le_trans x.wt b⟩
theorem showAll_iff : ∀ ds : List PyData, PyData.showableAll ds = true ↔ ∀ d ∈ ds, d.showable = true
  | [] => ⟨fun _ d h => absurd h List.not_mem_nil, fun _ => rfl⟩
  | d :: r => by
    have e : PyData.showableAll (d :: r) = (PyData.showable d && PyData.showableAll r) := rfl
    rw [e, Bool.and_eq_true, showAll_iff r, List.forall_mem_cons]
theorem leafAll_iff (B : Nat) : ∀ ds : List PyData, PyData.leavesShortAll B ds = true ↔ ∀ d ∈ ds, d.leavesShort B = true
  | [] => ⟨fun _ d h => absurd h List.not_mem_nil, fun _ => rfl⟩
  | d :: r => by
    have e : PyData.leavesShortAll B (d :: r) = (PyData.leavesShort B d && PyData.leavesShortAll B r) := rfl
    rw [e, Bool.and_eq_true, leafAll_iff B r, List.forall_mem_cons]
theorem depAll_iff (n : Nat) : ∀ ds : List PyData, PyData.depthAll ds ≤ n ↔ ∀ d ∈ ds, d.depth ≤ n
  | [] => ⟨fun _ d h => absurd h List.not_mem_nil, fun _ => Nat.zero_le _⟩
  | d :: r => by
    rw [PyData.depthAll, Nat.max_le, depAll_iff n r, List.forall_mem_cons]
theorem FineAll.lst {ds : List PyData} {n m : Nat} (x : FineAll ds n m) : Fine (.list ds) (n + 1) m :=
  ⟨(showAll_iff ds).mpr fun d h => (x.ok d h).1, (leafAll_iff 48 ds).mpr fun d h => (x.ok d h).2.1, by rw [PyData.depth]; exact Nat.succ_le_succ ((depAll_iff n ds).mpr fun d h => (x.ok d h).2.2), x.wt⟩
theorem FineAll.tup {ds : List PyData} {n m : Nat} (x : FineAll ds n m) : Fine (.tuple ds) (n + 1) m :=
  ⟨(showAll_iff ds).mpr fun d h => (x.ok d h).1, (leafAll_iff 48 ds).mpr fun d h => (x.ok d h).2.1, by rw [PyData.depth]; exact Nat.succ_le_succ ((depAll_iff n ds).mpr fun d h => (x.ok d h).2.2), x.wt⟩
theorem Fine.items {ds : List PyData} {n m : Nat} (x : Fine (.list ds) (n + 1) m) : FineAll ds n m := by
  have h := x.dep
  rw [PyData.depth] at h
  exact ⟨fun d hd => ⟨(showAll_iff ds).mp x.sh d hd, (leafAll_iff 48 ds).mp x.lf d hd, (depAll_iff n ds).mp (Nat.le_of_succ_le_succ h) d hd⟩, x.wt⟩
theorem Fine.itemsT {ds : List PyData} {n m : Nat} (x : Fine (.tuple ds) (n + 1) m) : FineAll ds n m := by
  have h := x.dep
  rw [PyData.depth] at h
  exact ⟨fun d hd => ⟨(showAll_iff ds).mp x.sh d hd, (leafAll_iff 48 ds).mp x.lf d hd, (depAll_iff n ds).mp (Nat.le_of_succ_le_succ h) d hd⟩, x.wt⟩
theorem weight_get : ∀ {ds : List PyData} {i : Nat} {d : PyData}, ds[i]? = some d → d.weight + 1 ≤ PyData.weightAll ds
  | [], _, _, e => by simp at e
  | x :: r, 0, d, e => by cases e; rw [PyData.weightAll]; omega
  | x :: r, i + 1, d, e => by
    have := weight_get (ds := r) (i := i) (d := d) (by simpa using e)
    rw [PyData.weightAll]; omega
theorem weight_set : ∀ {ds : List PyData} {i : Nat} {d x : PyData}, ds[i]? = some d → PyData.weightAll (ds.set i x) + d.weight = PyData.weightAll ds + x.weight
  | [], _, _, _, e => by simp at e
  | y :: r, 0, d, x, e => by cases e; rw [List.set_cons_zero, PyData.weightAll, PyData.weightAll]; omega
  | y :: r, i + 1, d, x, e => by
    have := weight_set (ds := r) (i := i) (d := d) (x := x) (by simpa using e)
    rw [List.set_cons_succ, PyData.weightAll, PyData.weightAll]; omega
theorem weight_app : ∀ xs ys : List PyData, PyData.weightAll (xs ++ ys) = PyData.weightAll xs + PyData.weightAll ys
  | [], ys => by rw [List.nil_append, PyData.weightAll]; omega
  | x :: xs, ys => by rw [List.cons_append, PyData.weightAll, PyData.weightAll, weight_app xs ys]; omega
theorem weight_erase : ∀ (ds : List PyData) (i : Nat), PyData.weightAll (ds.eraseIdx i) ≤ PyData.weightAll ds
  | [], _ => Nat.le_refl _
  | x :: r, 0 => by rw [List.eraseIdx_cons_zero, PyData.weightAll]; omega
  | x :: r, i + 1 => by
    have := weight_erase r i
    rw [List.eraseIdx_cons_succ, PyData.weightAll, PyData.weightAll]; omega
theorem FineAll.get {ds : List PyData} {n m i : Nat} {d : PyData} (x : FineAll ds n m) (e : ds[i]? = some d) : Fine d n m := by
  obtain ⟨a, b, c⟩ := x.ok d (List.mem_of_getElem? e)
  exact ⟨a, b, c, by have := weight_get e; have := x.wt; omega⟩
theorem FineAll.erase {ds : List PyData} {n m : Nat} (x : FineAll ds n m) (i : Nat) : FineAll (ds.eraseIdx i) n m := ⟨fun d h => x.ok d (List.mem_of_mem_eraseIdx h), Nat.le_trans (weight_erase ds i) x.wt⟩
/-- an item put in the place of another one -/
theorem FineAll.put {ds : List PyData} {n m i k l : Nat} {d y : PyData} (x : FineAll ds n m) (e : ds[i]? = some d) (z : Fine y n k) (h : k ≤ 2 * d.weight + l) : FineAll (ds.set i y) n (2 * m + l) := by
  refine ⟨fun q hq => ?_, ?_⟩
  · rcases List.mem_or_eq_of_mem_set hq with g | g
    · exact x.ok q g
    · subst g; exact ⟨z.sh, z.lf, z.dep⟩
  · have h1 := weight_set (x := y) e
    have h2 := weight_get e
    have h3 := x.wt
    have h4 := z.wt
    omega
/-- an item told twice -/
theorem FineAll.twice {ds : List PyData} {n m i : Nat} {d : PyData} (x : FineAll ds n m) (e : ds[i]? = some d) : FineAll (ds.take i ++ [d] ++ ds.drop i) n (2 * m) := by
  have w : PyData.weightAll (ds.take i ++ [d] ++ ds.drop i) = PyData.weightAll ds + d.weight + 1 := by
    have h := weight_app (ds.take i) (ds.drop i)
    rw [List.take_append_drop] at h
    rw [weight_app, weight_app, h, PyData.weightAll, PyData.weightAll]
    omega
  refine ⟨fun q hq => ?_, ?_⟩
  · rcases List.mem_append.mp hq with g | g
    · rcases List.mem_append.mp g with g | g
      · exact x.ok q (List.mem_of_mem_take g)
      · cases List.mem_singleton.mp g
        exact x.ok d (List.mem_of_getElem? e)
    · exact x.ok q (List.mem_of_mem_drop g)
  · rw [w]
    have h2 := weight_get e
    have h3 := x.wt
    omega
theorem FineAll.snoc {ds : List PyData} {n m k : Nat} {d : PyData} (x : FineAll ds n m) (z : Fine d n k) : FineAll (ds ++ [d]) n (m + k + 1) := by
  refine ⟨fun q hq => ?_, ?_⟩
  · rcases List.mem_append.mp hq with g | g
    · exact x.ok q g
    · cases List.mem_singleton.mp g
      exact ⟨z.sh, z.lf, z.dep⟩
  · rw [weight_app, PyData.weightAll, PyData.weightAll]
    have := x.wt
    have := z.wt
    omega
theorem FineAll.nil {n m : Nat} : FineAll [] n m := ⟨fun d h => absurd h List.not_mem_nil, Nat.zero_le _⟩
theorem FineAll.cons {d : PyData} {ds : List PyData} {n m k : Nat} (z : Fine d n k) (x : FineAll ds n m) : FineAll (d :: ds) n (k + 1 + m) := by
  refine ⟨fun q hq => ?_, ?_⟩
  · rcases List.mem_cons.mp hq with g | g
    · subst g; exact ⟨z.sh, z.lf, z.dep⟩
    · exact x.ok q g
  · rw [PyData.weightAll]
    have := x.wt
    have := z.wt
    omega
theorem kv_zip : ∀ {ks ds : List PyData}, ks.length = ds.length → PyData.weightKv (ks.zip ds) = PyData.weightAll ks + PyData.weightAll ds ∧ (PyData.showableKv (ks.zip ds) = true ↔ PyData.showableAll ks = true ∧ PyData.showableAll ds = true) ∧
    (PyData.leavesShortKv 48 (ks.zip ds) = true ↔ PyData.leavesShortAll 48 ks = true ∧ PyData.leavesShortAll 48 ds = true) ∧ ∀ n, PyData.depthKv (ks.zip ds) ≤ n ↔ PyData.depthAll ks ≤ n ∧ PyData.depthAll ds ≤ n
  | [], [], _ => ⟨rfl, ⟨fun _ => ⟨rfl, rfl⟩, fun _ => rfl⟩, ⟨fun _ => ⟨rfl, rfl⟩, fun _ => rfl⟩, fun n => ⟨fun _ => ⟨Nat.zero_le _, Nat.zero_le _⟩, fun _ => Nat.zero_le _⟩⟩
  | k :: ks, d :: ds, e => by
    obtain ⟨h1, h2, h3, h4⟩ := kv_zip (ks := ks) (ds := ds) (by simpa using e)
    rw [List.zip_cons_cons]
    refine ⟨?_, ?_, ?_, fun n => ?_⟩
    · rw [PyData.weightKv, PyData.weightAll, PyData.weightAll, h1]; omega
    · show (PyData.showable k && PyData.showable d && PyData.showableKv (ks.zip ds)) = true ↔ (PyData.showable k && PyData.showableAll ks) = true ∧ (PyData.showable d && PyData.showableAll ds) = true
      simp only [Bool.and_eq_true, h2]
      exact ⟨fun ⟨⟨a, b⟩, c, d⟩ => ⟨⟨a, c⟩, b, d⟩, fun ⟨⟨a, c⟩, b, d⟩ => ⟨⟨a, b⟩, c, d⟩⟩
    · show (PyData.leavesShort 48 k && PyData.leavesShort 48 d && PyData.leavesShortKv 48 (ks.zip ds)) = true ↔ (PyData.leavesShort 48 k && PyData.leavesShortAll 48 ks) = true ∧ (PyData.leavesShort 48 d && PyData.leavesShortAll 48 ds) = true
      simp only [Bool.and_eq_true, h3]
      exact ⟨fun ⟨⟨a, b⟩, c, d⟩ => ⟨⟨a, c⟩, b, d⟩, fun ⟨⟨a, c⟩, b, d⟩ => ⟨⟨a, b⟩, c, d⟩⟩
    · rw [PyData.depthKv, PyData.depthAll, PyData.depthAll, Nat.max_le, Nat.max_le, Nat.max_le, Nat.max_le, h4 n]
      exact ⟨fun ⟨⟨a, b⟩, c, d⟩ => ⟨⟨a, c⟩, b, d⟩, fun ⟨⟨a, c⟩, b, d⟩ => ⟨⟨a, b⟩, c, d⟩⟩
theorem FineAll.dct {ks ds : List PyData} {n m k : Nat} (e : ks.length = ds.length) (x : FineAll ks n k) (y : FineAll ds n m) : Fine (.dict (ks.zip ds)) (n + 1) (k + m) := by
  obtain ⟨h1, h2, h3, h4⟩ := kv_zip e
  refine ⟨h2.mpr ⟨(showAll_iff ks).mpr fun d h => (x.ok d h).1, (showAll_iff ds).mpr fun d h => (y.ok d h).1⟩, h3.mpr ⟨(leafAll_iff 48 ks).mpr fun d h => (x.ok d h).2.1, (leafAll_iff 48 ds).mpr fun d h => (y.ok d h).2.1⟩, ?_, ?_⟩
  · rw [PyData.depth]
    exact Nat.succ_le_succ ((h4 n).mpr ⟨(depAll_iff n ks).mpr fun d h => (x.ok d h).2.2, (depAll_iff n ds).mpr fun d h => (y.ok d h).2.2⟩)
  · show PyData.weightKv (ks.zip ds) ≤ _
    have := x.wt
    have := y.wt
    omega
theorem Fine.kvs {ks ds : List PyData} {n m : Nat} (e : ks.length = ds.length) (x : Fine (.dict (ks.zip ds)) (n + 1) m) : FineAll ks n (PyData.weightAll ks) ∧ FineAll ds n (PyData.weightAll ds) ∧ PyData.weightAll ks + PyData.weightAll ds ≤ m := by
  obtain ⟨h1, h2, h3, h4⟩ := kv_zip e
  obtain ⟨s1, s2⟩ := h2.mp x.sh
  obtain ⟨l1, l2⟩ := h3.mp x.lf
  have hd := x.dep
  rw [PyData.depth] at hd
  obtain ⟨d1, d2⟩ := (h4 n).mp (Nat.le_of_succ_le_succ hd)
  refine ⟨⟨fun d h => ⟨(showAll_iff ks).mp s1 d h, (leafAll_iff 48 ks).mp l1 d h, (depAll_iff n ks).mp d1 d h⟩, Nat.le_refl _⟩, ⟨fun d h => ⟨(showAll_iff ds).mp s2 d h, (leafAll_iff 48 ds).mp l2 d h, (depAll_iff n ds).mp d2 d h⟩, Nat.le_refl _⟩, ?_⟩
  rw [← h1]
  exact x.wt
theorem Fine.fits {d : PyData} {n m : Nat} (x : Fine d n m) (hn : n ≤ 40) (hm : m ≤ 100000) : d.showable = true ∧ d.depth ≤ 40 ∧ d.shown.length ≤ sizeLine := by
  refine ⟨x.sh, Nat.le_trans x.dep hn, ?_⟩
  have h := PyData.shown_le 48 (by decide) d x.lf
  have w := x.wt
  rw [sizeLine_eq]
  omega
/-- all signs of a text are low -/
def LowS (z : Str) : Prop := ∀ c ∈ z.cps.toList, c < 256
theorem Fine.non : Fine .none 0 0 := ⟨rfl, rfl, Nat.le_refl _, Nat.le_refl _⟩
theorem Fine.bl (b : Bool) : Fine (.bool b) 0 0 := ⟨rfl, rfl, Nat.le_refl _, Nat.le_refl _⟩
theorem Fine.str {z : Str} {m : Nat} (h : LowS z) (l : z.length ≤ m) : Fine (.str z) 0 m := by
  refine ⟨rfl, ?_, Nat.le_refl _, l⟩
  show (z.cps.toList.all fun c => decide (c < 16 ^ 8)) = true
  rw [List.all_eq_true]
  exact fun c hc => decide_eq_true (Nat.lt_of_lt_of_le (h c hc) (by decide))
end Lw

set_option Elab.async false
set_option linter.all false
set_option maxRecDepth 100000
set_option maxHeartbeats 4000000
/-! trees of plain data: lists, tuples, dicts of texts; the places that they take -/
namespace Lw
open PySem PySem.Spec PyProof.Rows L2
inductive Tr where
  | non | bl (b : Bool) | int (i : Int) | str (z : Str)
  | lst (xs : List Tr) | tup (xs : List Tr)
  | dct (ks : List Str) (xs : List Tr)
mutual
/-- in the heap H the value v is the tree t; all its places are such -/
inductive DT (H : Hp) (A : Addr → Prop) : V → Tr → Prop
  | non : DT H A .non .non
  | bl (b : Bool) : DT H A (.bl b) (.bl b)
  | int (i : Int) : DT H A (.int i) (.int i)
  | str (z : Str) : DT H A (.str z) (.str z)
  | lst {a : Addr} {xs : List V} {ts : List Tr} (e : H a = some (.lst xs)) (n : A a) (d : DTs H A xs ts) : DT H A (.ref a) (.lst ts)
  | tup {a : Addr} {xs : List V} {ts : List Tr} (e : H a = some (.tup xs)) (n : A a) (d : DTs H A xs ts) : DT H A (.ref a) (.tup ts)
  | dct {a : Addr} {kvs : List (Key × V)} {ks : List Str} {ts : List Tr} (e : H a = some (.dK kvs)) (n : A a) (k : kvs.map (·.1) = ks.map Sum.inr) (nd : ks.Nodup) (few : ks.length < 64) (d : DTs H A (kvs.map (·.2)) ts) : DT H A (.ref a) (.dct ks ts)
inductive DTs (H : Hp) (A : Addr → Prop) : List V → List Tr → Prop
  | nil : DTs H A [] []
  | cons {v : V} {vs : List V} {t : Tr} {ts : List Tr} (x : DT H A v t) (y : DTs H A vs ts) : DTs H A (v :: vs) (t :: ts)
end
section
variable {H H' : Hp} {A B : Addr → Prop}
mutual
theorem DT.mono (s : ∀ a o, A a → H a = some o → H' a = some o) : ∀ {v : V} {t : Tr}, DT H A v t → DT H' A v t
  | _, _, .non => .non
  | _, _, .bl b => .bl b
  | _, _, .int i => .int i
  | _, _, .str z => .str z
  | _, _, .lst e n d => .lst (s _ _ n e) n (DTs.mono s d)
  | _, _, .tup e n d => .tup (s _ _ n e) n (DTs.mono s d)
  | _, _, .dct e n k nd few d => .dct (s _ _ n e) n k nd few (DTs.mono s d)
theorem DTs.mono (s : ∀ a o, A a → H a = some o → H' a = some o) : ∀ {vs : List V} {ts : List Tr}, DTs H A vs ts → DTs H' A vs ts
  | _, _, .nil => .nil
  | _, _, .cons x y => .cons (DT.mono s x) (DTs.mono s y)
end
mutual
theorem DT.sub (s : ∀ a, A a → B a) : ∀ {v : V} {t : Tr}, DT H A v t → DT H B v t
  | _, _, .non => .non
  | _, _, .bl b => .bl b
  | _, _, .int i => .int i
  | _, _, .str z => .str z
  | _, _, .lst e n d => .lst e (s _ n) (DTs.sub s d)
  | _, _, .tup e n d => .tup e (s _ n) (DTs.sub s d)
  | _, _, .dct e n k nd few d => .dct e (s _ n) k nd few (DTs.sub s d)
theorem DTs.sub (s : ∀ a, A a → B a) : ∀ {vs : List V} {ts : List Tr}, DTs H A vs ts → DTs H B vs ts
  | _, _, .nil => .nil
  | _, _, .cons x y => .cons (DT.sub s x) (DTs.sub s y)
end
theorem DT.same {v : V} {t : Tr} (x : DT H A v t) (s : Same H H') : DT H' A v t := x.mono fun a o _ e => s a o e
theorem DTs.same {vs : List V} {ts : List Tr} (x : DTs H A vs ts) (s : Same H H') : DTs H' A vs ts := x.mono fun a o _ e => s a o e
theorem DTs.len : ∀ {vs : List V} {ts : List Tr}, DTs H A vs ts → vs.length = ts.length
  | _, _, .nil => rfl
  | _, _, .cons _ y => by rw [List.length_cons, List.length_cons, DTs.len y]
theorem DTs.get : ∀ {vs : List V} {ts : List Tr} {i : Nat} {v : V}, DTs H A vs ts → vs[i]? = some v → ∃ t, ts[i]? = some t ∧ DT H A v t
  | _, _, _, _, .nil, e => by simp at e
  | _, _, 0, _, .cons x _, e => by cases e; exact ⟨_, rfl, x⟩
  | _, _, i + 1, _, .cons _ y, e => by
    obtain ⟨t, e1, e2⟩ := DTs.get (i := i) y (by simpa using e)
    exact ⟨t, by simpa using e1, e2⟩
theorem DTs.at {vs : List V} {ts : List Tr} {i : Nat} {t : Tr} (x : DTs H A vs ts) (e : ts[i]? = some t) : ∃ v, vs[i]? = some v ∧ DT H A v t := by
  have li : i < vs.length := by rw [x.len]; exact (List.getElem?_eq_some_iff.mp e).1
  obtain ⟨t', e1, d⟩ := x.get (List.getElem?_eq_getElem li)
  rw [e] at e1
  cases e1
  exact ⟨vs[i], List.getElem?_eq_getElem li, d⟩
theorem DTs.snoc : ∀ {vs : List V} {ts : List Tr} {v : V} {t : Tr}, DTs H A vs ts → DT H A v t → DTs H A (vs ++ [v]) (ts ++ [t])
  | _, _, _, _, .nil, x => .cons x .nil
  | _, _, _, _, .cons z y, x => .cons z (DTs.snoc y x)
theorem DTs.strs : ∀ {vs : List V} {ws : List Str}, DTs H A vs (ws.map Tr.str) → vs = ws.map V.str
  | _, [], .nil => rfl
  | _, w :: ws, .cons x y => by
    cases x
    rw [DTs.strs y]
    rfl
theorem DTs.ofStrs : ∀ ws : List Str, DTs H A (ws.map V.str) (ws.map Tr.str)
  | [] => .nil
  | w :: r => .cons (.str w) (DTs.ofStrs r)
theorem DT.lstI {v : V} {ts : List Tr} (x : DT H A v (.lst ts)) : ∃ a xs, v = .ref a ∧ H a = some (.lst xs) ∧ A a ∧ DTs H A xs ts := by
  cases x with
  | lst e n d => exact ⟨_, _, rfl, e, n, d⟩
theorem DT.tupI {v : V} {ts : List Tr} (x : DT H A v (.tup ts)) : ∃ a xs, v = .ref a ∧ H a = some (.tup xs) ∧ A a ∧ DTs H A xs ts := by
  cases x with
  | tup e n d => exact ⟨_, _, rfl, e, n, d⟩
theorem DT.dctI {v : V} {ks : List Str} {ts : List Tr} (x : DT H A v (.dct ks ts)) : ∃ a kvs, v = .ref a ∧ H a = some (.dK kvs) ∧ A a ∧ kvs.map (·.1) = ks.map Sum.inr ∧ ks.Nodup ∧ ks.length < 64 ∧ DTs H A (kvs.map (·.2)) ts := by
  cases x with
  | dct e n k nd few d => exact ⟨_, _, rfl, e, n, k, nd, few, d⟩
end
/-! ### what is shown -/
mutual
def Tr.data : Tr → PyData
  | .non => .none
  | .bl b => .bool b
  | .int i => .int i
  | .str z => .str z
  | .lst xs => .list (Tr.datas xs)
  | .tup xs => .tuple (Tr.datas xs)
  | .dct ks xs => .dict ((ks.map PyData.str).zip (Tr.datas xs))
def Tr.datas : List Tr → List PyData
  | [] => []
  | x :: r => x.data :: Tr.datas r
end
theorem datas_map : ∀ ts : List Tr, Tr.datas ts = ts.map Tr.data
  | [] => rfl
  | t :: r => by rw [Tr.datas, datas_map r]; rfl
/-! ### a dict's values -/
def lookT (ks : List Str) (ts : List Tr) (z : Str) : Option Tr := ((ks.zip ts).find? fun p => decide (p.1 = z)).map (·.2)
theorem look_at {ks : List Str} {ts : List Tr} {i : Nat} {z : Str} {t : Tr} (nd : ks.Nodup) (hk : ks[i]? = some z) (ht : ts[i]? = some t) : lookT ks ts z = some t := by
  induction ks generalizing ts i with
  | nil => simp at hk
  | cons k r ih =>
    cases ts with
    | nil => simp at ht
    | cons t' ts =>
      cases i with
      | zero =>
        cases hk
        cases ht
        unfold lookT
        rw [List.zip_cons_cons, List.find?_cons_of_pos (by exact decide_eq_true rfl)]
        rfl
      | succ i =>
        have hk' : r[i]? = some z := by simpa using hk
        have ht' : ts[i]? = some t := by simpa using ht
        have ne : ¬ k = z := fun e => (List.nodup_cons.mp nd).1 (e ▸ List.mem_of_getElem? hk')
        unfold lookT
        rw [List.zip_cons_cons, List.find?_cons_of_neg (by rw [decide_eq_true_eq]; exact ne)]
        exact ih (List.nodup_cons.mp nd).2 hk' ht'
/-- a key's value, in the heap -/
theorem DT.look {H : Hp} {A : Addr → Prop} {kvs : List (Key × V)} {ks : List Str} {ts : List Tr} {z : Str} (k : kvs.map (·.1) = ks.map Sum.inr) (d : DTs H A (kvs.map (·.2)) ts) (m : z ∈ ks) : ∃ v t, valV kvs (.inr z) = some v ∧ lookT ks ts z = some t ∧ DT H A v t := by
  induction ks generalizing kvs ts with
  | nil => cases m
  | cons y r ih =>
    cases kvs with
    | nil => cases k
    | cons p kvs =>
      obtain ⟨k1, k2⟩ := List.cons.inj k
      cases d with
      | @cons _ _ t ts x y' =>
        obtain ⟨pk, pv⟩ := p
        have k1 : pk = Sum.inr y := k1
        subst k1
        by_cases q : y = z
        · subst q
          refine ⟨pv, t, ?_, ?_, x⟩
          · show ((List.find? _ ((Sum.inr y, pv) :: kvs)).map _) = _
            rw [List.find?_cons_of_pos (by exact decide_eq_true rfl)]
            rfl
          · unfold lookT
            rw [List.zip_cons_cons, List.find?_cons_of_pos (by exact decide_eq_true rfl)]
            rfl
        · obtain ⟨v, t', e1, e2, e3⟩ := ih k2 y' (by
            rcases List.mem_cons.mp m with h | h
            · exact absurd h.symm q
            · exact h)
          refine ⟨v, t', ?_, ?_, e3⟩
          · show ((List.find? _ ((Sum.inr y, pv) :: kvs)).map _) = _
            rw [List.find?_cons_of_neg (by rw [decide_eq_true_eq]; exact fun n => q (Sum.inr.inj n))]
            exact e1
          · unfold lookT
            rw [List.zip_cons_cons, List.find?_cons_of_neg (by rw [decide_eq_true_eq]; exact q)]
            exact e2
end Lw

set_option Elab.async false
set_option linter.all false
set_option maxRecDepth 100000
set_option maxHeartbeats 4000000
namespace Lw
open PySem PySem.Spec PyProof.Rows L2
/-! ### sorted texts -/
abbrev leS (a b : Str) : Bool := decide (a.cps.toList ≤ b.cps.toList)
theorem rising_of : ∀ (p : Str) (r : List Str), (p :: r).Pairwise (fun a b => a.cps.toList ≤ b.cps.toList) → risingS p r = true
  | p, [], _ => rfl
  | p, x :: r, h => by
    obtain ⟨h1, h2⟩ := List.pairwise_cons.mp h
    have ih := rising_of x r h2
    simp only [risingS, Bool.and_eq_true, Bool.not_eq_true']
    refine ⟨?_, ih⟩
    rw [ltCps_eq]
    exact decide_eq_false (List.not_lt.mpr (h1 x List.mem_cons_self))
theorem rising_pw : ∀ (p : Str) (r : List Str), risingS p r = true → (p :: r).Pairwise (fun a b => a.cps.toList ≤ b.cps.toList)
  | p, [], _ => by simp
  | p, x :: r, h => by
    simp only [risingS, Bool.and_eq_true, Bool.not_eq_true'] at h
    obtain ⟨h1, h2⟩ := h
    have ih := rising_pw x r h2
    have le : p.cps.toList ≤ x.cps.toList := by
      rw [ltCps_eq] at h1
      exact List.not_lt.mp (of_decide_eq_false h1)
    refine List.pairwise_cons.mpr ⟨fun y hy => ?_, ih⟩
    rcases List.mem_cons.mp hy with e | e
    · rw [e]; exact le
    · exact List.le_trans le ((List.pairwise_cons.mp ih).1 y e)
theorem sorted_pw : ∀ {l : List Str}, sortedS l = true → l.Pairwise (fun a b => a.cps.toList ≤ b.cps.toList)
  | [], _ => List.Pairwise.nil
  | x :: r, h => rising_pw x r h
theorem sorted_one {xs ys : List Str} (p : xs.Perm ys) (hx : sortedS xs = true) (hy : sortedS ys = true) : xs = ys :=
  List.Perm.eq_of_pairwise (le := fun a b : Str => a.cps.toList ≤ b.cps.toList) (fun a b _ _ h h' => by
    have e := List.le_antisymm h h'
    cases a
    cases b
    congr 1
    exact Array.toList_inj.mp e) (sorted_pw hx) (sorted_pw hy) p
def sortT (ks : List Str) : List Str := ks.mergeSort leS
theorem sortT_perm (ks : List Str) : (sortT ks).Perm ks := List.mergeSort_perm ks leS
theorem sortT_sorted (ks : List Str) : sortedS (sortT ks) = true := by
  have h : (sortT ks).Pairwise (fun a b => leS a b = true) := List.pairwise_mergeSort (le := leS) (fun a b c h1 h2 => decide_eq_true (List.le_trans (of_decide_eq_true h1) (of_decide_eq_true h2))) (fun a b => by
    rcases List.le_total a.cps.toList b.cps.toList with h | h
    · simp [leS, h]
    · simp [leS, h]) ks
  have h2 : (sortT ks).Pairwise (fun a b => a.cps.toList ≤ b.cps.toList) := h.imp fun h => of_decide_eq_true h
  cases e : sortT ks with
  | nil => rfl
  | cons x r =>
    rw [e] at h2
    exact rising_of x r h2
theorem sort_eq {ys ks : List Str} (p : ys.Perm ks) (h : sortedS ys = true) : ys = sortT ks := sorted_one (p.trans (sortT_perm ks).symm) h (sortT_sorted ks)
theorem sortT_nodup {ks : List Str} (h : ks.Nodup) : (sortT ks).Nodup := (sortT_perm ks).nodup_iff.mpr h
theorem sortT_mem {ks : List Str} {z : Str} : z ∈ sortT ks ↔ z ∈ ks := (sortT_perm ks).mem_iff
theorem sortT_len (ks : List Str) : (sortT ks).length = ks.length := (sortT_perm ks).length_eq
/-! ### copies with dicts in order -/
mutual
def Tr.canon : Tr → Tr
  | .non => .non
  | .bl b => .bl b
  | .int i => .int i
  | .str z => .str z
  | .lst xs => .lst (Tr.canons xs)
  | .tup xs => .tup (Tr.canons xs)
  | .dct ks xs => .dct (sortT ks) ((sortT ks).map fun z => (lookT ks (Tr.canons xs) z).getD .non)
def Tr.canons : List Tr → List Tr
  | [] => []
  | x :: r => x.canon :: Tr.canons r
end
theorem canons_map : ∀ ts : List Tr, Tr.canons ts = ts.map Tr.canon
  | [] => rfl
  | t :: r => by rw [Tr.canons, canons_map r]; rfl
theorem look_map {f : Tr → Tr} (ks : List Str) (ts : List Tr) (z : Str) : lookT ks (ts.map f) z = (lookT ks ts z).map f := by
  induction ks generalizing ts with
  | nil => rfl
  | cons k r ih =>
    cases ts with
    | nil => rfl
    | cons t ts =>
      unfold lookT
      rw [List.map_cons, List.zip_cons_cons, List.zip_cons_cons]
      by_cases q : k = z
      · rw [List.find?_cons_of_pos (by exact decide_eq_true q), List.find?_cons_of_pos (by exact decide_eq_true q)]
        rfl
      · rw [List.find?_cons_of_neg (by rw [decide_eq_true_eq]; exact q), List.find?_cons_of_neg (by rw [decide_eq_true_eq]; exact q)]
        exact ih ts
mutual
def Tr.depth : Tr → Nat
  | .lst xs => Tr.depths xs + 1
  | .tup xs => Tr.depths xs + 1
  | .dct _ xs => Tr.depths xs + 1
  | .non => 0
  | .bl _ => 0
  | .int _ => 0
  | .str _ => 0
def Tr.depths : List Tr → Nat
  | [] => 0
  | x :: r => max x.depth (Tr.depths r)
end
mutual
/-- no list of more than a thousand -/
def Tr.few : Tr → Bool
  | .lst xs => decide (xs.length ≤ 1000) && Tr.fews xs
  | .tup xs => decide (xs.length ≤ 1000) && Tr.fews xs
  | .dct _ xs => Tr.fews xs
  | .non => true
  | .bl _ => true
  | .int _ => true
  | .str _ => true
def Tr.fews : List Tr → Bool
  | [] => true
  | x :: r => x.few && Tr.fews r
end
theorem depth_mem : ∀ {ts : List Tr} {t : Tr}, t ∈ ts → t.depth ≤ Tr.depths ts
  | x :: r, t, h => by
    rw [Tr.depths]
    rcases List.mem_cons.mp h with e | e
    · rw [e]; exact Nat.le_max_left _ _
    · exact Nat.le_trans (depth_mem e) (Nat.le_max_right _ _)
theorem few_mem : ∀ {ts : List Tr} {t : Tr}, t ∈ ts → Tr.fews ts = true → t.few = true
  | x :: r, t, h, f => by
    rw [Tr.fews, Bool.and_eq_true] at f
    rcases List.mem_cons.mp h with e | e
    · rw [e]; exact f.1
    · exact few_mem e f.2
/-- a comprehension of a dict over a list that stays -/
theorem dc_list {K : PySem.W.Frag} {a : Addr} {xs : List V} {g : TG} {tt : TT} {tk tv : TE} {vs : List Nat} {σ : L2.St} {H1 : Hp} {D : Addr} {Qd : Hp → Prop} (Pv : Nat → Hp → Prop) (first : Pv 0 (upd H1 D (.dK []))) (stays : ∀ i H, i ≤ xs.length → Pv i H → SqL K H a xs)
    (turn : ∀ i x H, xs[i]? = some x → Pv i H → g x (wipe σ vs) H fun σ2 H2 => wipe σ2 vs = wipe σ vs ∧ tt σ2 H2 fun b H3 => if b = true then tk σ2 H3 fun y H4 => tv σ2 H4 fun z H5 => ∃ kvs k, y = kV k ∧ H5 D = some (.dK kvs) ∧ kvs.length < sizeLine ∧ Pv (i + 1) (upd H5 D (.dK (putK kvs k z))) else Pv (i + 1) H3)
    (last : ∀ H, Pv xs.length H → Qd H) :
    ∃ W : Nat → Nat → Hp → Prop, (∃ m, W 0 m (upd H1 D (.dK []))) ∧ ∀ i m H, W i m H →
      ((Itl K a).stop i H ∧ Qd H) ∨ ((Itl K a).go i H ∧ ∃ Nx : Hp → Prop, (∀ H', Nx H' → ∃ m', m' < m ∧ W (i + 1) m' H') ∧ ∀ x H', (Itl K a).yld i H x H' → g x (wipe σ vs) H' fun σ2 H2 => wipe σ2 vs = wipe σ vs ∧ tt σ2 H2 fun b H3 =>
        if b = true then tk σ2 H3 fun y H4 => tv σ2 H4 fun z H5 => ∃ kvs k, y = kV k ∧ H5 D = some (.dK kvs) ∧ kvs.length < sizeLine ∧ Nx (upd H5 D (.dK (putK kvs k z))) else Nx H3) := by
  refine ⟨fun i m H => m = xs.length - i ∧ i ≤ xs.length ∧ Pv i H, ⟨_, rfl, Nat.zero_le _, first⟩, fun i m H hw => ?_⟩
  obtain ⟨rfl, hi, p⟩ := hw
  have sq := stays i H hi p
  rcases Nat.lt_or_ge i xs.length with lt | ge
  · refine .inr ⟨⟨xs, xs[i], sq, List.getElem?_eq_getElem lt⟩, Pv (i + 1), fun H' p' => ⟨_, by omega, rfl, lt, p'⟩, fun x H' y => ?_⟩
    obtain ⟨rfl, y⟩ := y
    exact turn i x _ (y xs sq) p
  · obtain rfl : i = xs.length := Nat.le_antisymm hi ge
    exact .inl ⟨⟨xs, sq, Nat.le_refl _⟩, last H p⟩
end Lw

set_option Elab.async false
set_option linter.all false
set_option maxRecDepth 100000
set_option maxHeartbeats 4000000
/-! trees with the list of all their places: none twice where that list has none twice -/
namespace Lw
open PySem PySem.Spec PyProof.Rows L2
mutual
inductive DL (H : Hp) : List Addr → V → Tr → Prop
  | non : DL H [] .non .non
  | bl (b : Bool) : DL H [] (.bl b) (.bl b)
  | int (i : Int) : DL H [] (.int i) (.int i)
  | str (z : Str) : DL H [] (.str z) (.str z)
  | lst {a : Addr} {L : List Addr} {xs : List V} {ts : List Tr} (e : H a = some (.lst xs)) (d : DLs H L xs ts) : DL H (a :: L) (.ref a) (.lst ts)
  | tup {a : Addr} {L : List Addr} {xs : List V} {ts : List Tr} (e : H a = some (.tup xs)) (d : DLs H L xs ts) : DL H (a :: L) (.ref a) (.tup ts)
  | dct {a : Addr} {L : List Addr} {kvs : List (Key × V)} {ks : List Str} {ts : List Tr} (e : H a = some (.dK kvs)) (k : kvs.map (·.1) = ks.map Sum.inr) (nd : ks.Nodup) (few : ks.length < 64) (d : DLs H L (kvs.map (·.2)) ts) : DL H (a :: L) (.ref a) (.dct ks ts)
inductive DLs (H : Hp) : List Addr → List V → List Tr → Prop
  | nil : DLs H [] [] []
  | cons {L M : List Addr} {v : V} {vs : List V} {t : Tr} {ts : List Tr} (x : DL H L v t) (y : DLs H M vs ts) : DLs H (L ++ M) (v :: vs) (t :: ts)
end
section
variable {H H' : Hp} {A : Addr → Prop}
mutual
theorem DL.dt : ∀ {L : List Addr} {v : V} {t : Tr}, DL H L v t → (∀ a ∈ L, A a) → DT H A v t
  | _, _, _, .non, _ => .non
  | _, _, _, .bl b, _ => .bl b
  | _, _, _, .int i, _ => .int i
  | _, _, _, .str z, _ => .str z
  | _, _, _, .lst e d, s => .lst e (s _ List.mem_cons_self) (DLs.dts d fun a h => s a (List.mem_cons_of_mem _ h))
  | _, _, _, .tup e d, s => .tup e (s _ List.mem_cons_self) (DLs.dts d fun a h => s a (List.mem_cons_of_mem _ h))
  | _, _, _, .dct e k nd few d, s => .dct e (s _ List.mem_cons_self) k nd few (DLs.dts d fun a h => s a (List.mem_cons_of_mem _ h))
theorem DLs.dts : ∀ {L : List Addr} {vs : List V} {ts : List Tr}, DLs H L vs ts → (∀ a ∈ L, A a) → DTs H A vs ts
  | _, _, _, .nil, _ => .nil
  | _, _, _, .cons x y, s => .cons (DL.dt x fun a h => s a (List.mem_append_left _ h)) (DLs.dts y fun a h => s a (List.mem_append_right _ h))
end
mutual
theorem DL.keep : ∀ {L : List Addr} {v : V} {t : Tr}, DL H L v t → (∀ a ∈ L, ∀ o, H a = some o → H' a = some o) → DL H' L v t
  | _, _, _, .non, _ => .non
  | _, _, _, .bl b, _ => .bl b
  | _, _, _, .int i, _ => .int i
  | _, _, _, .str z, _ => .str z
  | _, _, _, .lst e d, s => .lst (s _ List.mem_cons_self _ e) (DLs.keep d fun a h => s a (List.mem_cons_of_mem _ h))
  | _, _, _, .tup e d, s => .tup (s _ List.mem_cons_self _ e) (DLs.keep d fun a h => s a (List.mem_cons_of_mem _ h))
  | _, _, _, .dct e k nd few d, s => .dct (s _ List.mem_cons_self _ e) k nd few (DLs.keep d fun a h => s a (List.mem_cons_of_mem _ h))
theorem DLs.keep : ∀ {L : List Addr} {vs : List V} {ts : List Tr}, DLs H L vs ts → (∀ a ∈ L, ∀ o, H a = some o → H' a = some o) → DLs H' L vs ts
  | _, _, _, .nil, _ => .nil
  | _, _, _, .cons x y, s => .cons (DL.keep x fun a h => s a (List.mem_append_left _ h)) (DLs.keep y fun a h => s a (List.mem_append_right _ h))
end
mutual
theorem DL.there : ∀ {L : List Addr} {v : V} {t : Tr}, DL H L v t → ∀ a ∈ L, ∃ o, H a = some o
  | _, _, _, .lst e d, a, h => by
    rcases List.mem_cons.mp h with q | q
    · subst q; exact ⟨_, e⟩
    · exact DLs.there d a q
  | _, _, _, .tup e d, a, h => by
    rcases List.mem_cons.mp h with q | q
    · subst q; exact ⟨_, e⟩
    · exact DLs.there d a q
  | _, _, _, .dct e k nd few d, a, h => by
    rcases List.mem_cons.mp h with q | q
    · subst q; exact ⟨_, e⟩
    · exact DLs.there d a q
theorem DLs.there : ∀ {L : List Addr} {vs : List V} {ts : List Tr}, DLs H L vs ts → ∀ a ∈ L, ∃ o, H a = some o
  | _, _, _, .cons x y, a, h => by
    rcases List.mem_append.mp h with q | q
    · exact DL.there x a q
    · exact DLs.there y a q
end
theorem DL.same {L : List Addr} {v : V} {t : Tr} (x : DL H L v t) (s : Same H H') : DL H' L v t := x.keep fun a _ o e => s a o e
theorem DLs.same {L : List Addr} {vs : List V} {ts : List Tr} (x : DLs H L vs ts) (s : Same H H') : DLs H' L vs ts := x.keep fun a _ o e => s a o e
theorem DLs.len : ∀ {L : List Addr} {vs : List V} {ts : List Tr}, DLs H L vs ts → vs.length = ts.length
  | _, _, _, .nil => rfl
  | _, _, _, .cons _ y => by rw [List.length_cons, List.length_cons, DLs.len y]
theorem DLs.snoc : ∀ {L M : List Addr} {vs : List V} {ts : List Tr} {v : V} {t : Tr}, DLs H L vs ts → DL H M v t → DLs H (L ++ M) (vs ++ [v]) (ts ++ [t])
  | _, M, _, _, _, _, .nil, x => by
    have h := DLs.cons x .nil
    rw [List.append_nil] at h
    exact h
  | _, _, _, _, _, _, .cons z y, x => by
    rw [List.append_assoc]
    exact .cons z (DLs.snoc y x)
end
/-- new places beside older ones -/
theorem nodup_new {H : Hp} {L M : List Addr} (hL : L.Nodup) (hM : M.Nodup) (there : ∀ a ∈ L, ∃ o, H a = some o) (new : ∀ a ∈ M, H a = none) : (L ++ M).Nodup :=
  List.nodup_append.mpr ⟨hL, hM, fun a ha b hb e => by
    obtain ⟨o, h⟩ := there a ha
    rw [e, new b hb] at h
    cases h⟩
end Lw

set_option Elab.async false
set_option linter.all false
set_option maxRecDepth 100000
set_option maxHeartbeats 4000000
namespace Lw
open PySem PySem.Spec PyProof.Rows L2
abbrev sCopy : Stmt := topS 31
abbrev NCopy : List Str := ["thing", "part", "key"]
def Tr.ty : Tr → String
  | .non => "NoneType"
  | .bl _ => "bool"
  | .int _ => "int"
  | .str _ => "str"
  | .lst _ => "list"
  | .tup _ => "tuple"
  | .dct _ _ => "dict"
theorem DT.ty {K : PySem.W.Frag} {H : Hp} {A : Addr → Prop} {v : V} {t : Tr} (x : DT H A v t) : TyX K H v (.type t.ty) := by
  cases x with
  | non => exact .base .non
  | bl b => exact .base (.bl b)
  | int i => exact .base (.int i)
  | str z => exact .base (.str z)
  | lst e n d => exact .base (.lst e)
  | tup e n d => exact .base (.tup e)
  | dct e n k nd few d => exact .base (.dK e)
def Tr.is (T : String) (t : Tr) : Bool := t.ty == T
theorem kitT_list (K : PySem.W.Frag) (t : Tr) : PySem.W.kitOne K (.type t.ty) (.type "list") = some (t.is "list") := by cases t <;> rfl
theorem kitT_tuple (K : PySem.W.Frag) (t : Tr) : PySem.W.kitOne K (.type t.ty) (.type "tuple") = some (t.is "tuple") := by cases t <;> rfl
theorem kitT_dict (K : PySem.W.Frag) (t : Tr) : PySem.W.kitOne K (.type t.ty) (.type "dict") = some (t.is "dict") := by cases t <;> rfl
theorem take_not_mem {ys : List Str} {i : Nat} {z : Str} (nd : ys.Nodup) (h : ys[i]? = some z) : z ∉ ys.take i := fun m => by
  obtain ⟨j, hj⟩ := List.getElem?_of_mem m
  have hlt : j < i := by
    have h2 := (List.getElem?_eq_some_iff.mp hj).1
    rw [List.length_take] at h2
    omega
  rw [List.getElem?_take_of_lt hlt] at hj
  have := (List.getElem?_inj (List.getElem?_eq_some_iff.mp hj).1 nd).mp (hj.trans h.symm)
  omega
section
variable {P : Program} {w : World} {K : PySem.W.Frag} {mg : Str → Option Value} {base : Heap}
theorem scCopy : FnScope NCopy ["thing"] (defScope sCopy) := ⟨rfl, rfl, rfl, by decide +kernel, rfl, by decide +kernel, by decide +kernel⟩
def spCopy (n : Nat) : Sp := fun vs H Q _ => ∃ (v : V) (t : Tr) (A : Addr → Prop), vs = [v] ∧ DT H A v t ∧ t.depth < n ∧ t.few = true ∧
  ∀ (v' : V) (L : List Addr) (H' : Hp), Same H H' → DL H' L v' t.canon → L.Nodup → (∀ a ∈ L, H a = none) → Q v' H'
theorem ok_copy {f : Addr} {fd : FuncData} (F : Fun K "copy_of" "copy_of" sCopy f fd) (m : mg "copy_of" = some (.ref f)) (b : Binds K fd ["thing"] []) (mi : mg "isinstance" = none) (ml : mg "list" = none) (mt : mg "tuple" = none) (md : mg "dict" = none) (mso : mg "sorted" = none) :
    ∀ n, FnOk P w K mg base CX0 n f fd ["thing"] (spCopy n)
  | 0 => ⟨fun vs H Q E h => by obtain ⟨_, _, _, _, _, z, _⟩ := h; exact absurd z (Nat.not_lt_zero _), fun A outer s H args us vs Q E hr e0 bi rv h => by obtain ⟨_, _, _, _, _, z, _⟩ := h; exact absurd z (Nat.not_lt_zero _)⟩
  | n + 1 => by
    have IH := ok_copy F m b mi ml mt md mso n
    refine F.ok scCopy (fun vs H Q E h => ?_) (fun cdv A outer s H vs Q E hr h => ?_)
    · obtain ⟨v, t, A, rfl, _⟩ := h
      rfl
    obtain ⟨v, t, A, rfl, dv, dp, fw, q⟩ := h
    refine ⟨_, pss_cons (ps_if (pt_val (pe_callB call_isi (by rfl) mi (by decide +kernel) (pa_cons (pv 0) (pa_cons (pe_bltn (v := .ty "list") (by rfl) ml (by decide +kernel) rfl) pa_nil))))
        (pss_one (ps_ret (pe_lc (own := [("part", 1)]) (g := gName 1) (tt := tYes) rfl scCopy.nd (pi_list (pv 0)) (blkOk_by (N := NCopy) (sc := defScope sCopy) (by decide +kernel))
          (fun _ _ _ _ _ => pg_name (i := 1) scCopy.nd rfl (Or.inl rfl)) (fun _ _ _ _ _ => pts_nil) (fun _ _ _ _ _ => pe_call IH hr (by rfl) m F.kp b .nil pass0 (pa_cons (pv 1) pa_nil))))) pss_nil)
      (pss_cons (ps_if (pt_val (pe_callB call_isi (by rfl) mi (by decide +kernel) (pa_cons (pv 0) (pa_cons (pe_bltn (v := .ty "tuple") (by rfl) mt (by decide +kernel) rfl) pa_nil))))
        (pss_one (ps_ret (pe_callTy call_tuple_of (by rfl) mt (by decide +kernel) (pa_cons (pe_lc (own := [("part", 1)]) (g := gName 1) (tt := tYes) rfl scCopy.nd (pi_tup (pv 0)) (blkOk_by (N := NCopy) (sc := defScope sCopy) (by decide +kernel))
          (fun _ _ _ _ _ => pg_name (i := 1) scCopy.nd rfl (Or.inl rfl)) (fun _ _ _ _ _ => pts_nil) (fun _ _ _ _ _ => pe_call IH hr (by rfl) m F.kp b .nil pass0 (pa_cons (pv 1) pa_nil))) pa_nil)))) pss_nil)
      (pss_cons (ps_if (pt_val (pe_callB call_isi (by rfl) mi (by decide +kernel) (pa_cons (pv 0) (pa_cons (pe_bltn (v := .ty "dict") (by rfl) md (by decide +kernel) rfl) pa_nil))))
        (pss_one (ps_ret (pe_dc (own := [("key", 2)]) (g := gName 2) (tt := tYes) rfl scCopy.nd (pi_list (pe_callB (call_sortedD rfl) (by rfl) mso (by decide +kernel) (pa_cons (pv 0) pa_nil))) (blkOk_by (N := NCopy) (sc := defScope sCopy) (by decide +kernel))
          (fun _ _ _ _ _ => pg_name (i := 2) scCopy.nd rfl (Or.inl rfl)) (fun _ _ _ _ _ => pts_nil) (fun _ _ _ _ _ => pv 2) (fun _ _ _ _ _ => pe_call IH hr (by rfl) m F.kp b .nil pass0 (pa_cons (pe_dget (hu_of hr) (pv 0) (pv 2) (fun _ _ => rfl)) pa_nil))))) pss_nil)
      (pss_one (ps_ret (pv 0))))), ?_⟩
    have stepL : ∀ {a : Addr} {xs : List V} {ts : List Tr} {D : Addr}, DTs H A xs ts → Tr.depths ts < n → Tr.fews ts = true → ts.length ≤ 1000 → H D = none → ∀ (i : Nat) (x : V) (H1 : Hp), xs[i]? = some x →
        (Same H H1 ∧ ∃ L acc, H1 D = some (.lst acc) ∧ acc.length = i ∧ DLs H1 L acc ((Tr.canons ts).take i) ∧ L.Nodup ∧ (∀ a ∈ L, H a = none) ∧ D ∉ L) → spCopy n [x] H1 (fun y H4 => ∃ acc, H4 D = some (.lst acc) ∧ acc.length < sizeLine ∧
          (Same H (upd H4 D (.lst (acc ++ [y]))) ∧ ∃ L acc', upd H4 D (.lst (acc ++ [y])) D = some (.lst acc') ∧ acc'.length = i + 1 ∧ DLs (upd H4 D (.lst (acc ++ [y]))) L acc' ((Tr.canons ts).take (i + 1)) ∧ L.Nodup ∧ (∀ a ∈ L, H a = none) ∧ D ∉ L)) (E0 : XK) := by
      rintro a xs ts D d dd ff hl nD i x H1 hx ⟨s1, L, acc, hD, hi, dl, nd, new, nL⟩
      obtain ⟨t, ht, dt⟩ := d.get hx
      have mem : t ∈ ts := List.mem_of_getElem? ht
      have lt : i < ts.length := (List.getElem?_eq_some_iff.mp ht).1
      refine ⟨x, t, A, rfl, dt.same s1, Nat.lt_of_le_of_lt (depth_mem mem) dd, few_mem mem ff, fun v' M H' s2 dv' nd' new' => ?_⟩
      have hD' : H' D = some (.lst acc) := s2 _ _ hD
      have nM : D ∉ M := fun h => by rw [new' D h] at hD; cases hD
      have k1 : ∀ b, b ≠ D → (upd H' D (.lst (acc ++ [v']))) b = H' b := fun b nb => upd_ne nb
      refine ⟨acc, hD', small1000 (by omega), fun b o e => ?_, L ++ M, acc ++ [v'], upd_same, by rw [List.length_append, hi]; rfl, ?_, nodup_new nd nd' dl.there new', fun b hb => ?_, fun h => ?_⟩
      · rw [k1 b (ne_of_none e nD)]
        exact s2 _ _ (s1 _ _ e)
      · have e1 : (Tr.canons ts).take (i + 1) = (Tr.canons ts).take i ++ [t.canon] := by
          rw [List.take_add_one, canons_map, List.getElem?_map, ht]
          rfl
        rw [e1]
        refine DLs.keep (H := H') ((dl.same s2).snoc dv') fun b hb o e => ?_
        rw [k1 b (fun eb => ?_)]
        · exact e
        · subst eb
          rcases List.mem_append.mp hb with h | h
          · exact nL h
          · exact nM h
      · rcases List.mem_append.mp hb with h | h
        · exact new b h
        · exact s1.free (new' b h)
      · rcases List.mem_append.mp h with h | h
        · exact nL h
        · exact nM h
    have zero : ∀ {ts : List Tr} {D : Addr}, H D = none → (Same H (upd H D (.lst [])) ∧ ∃ L acc, upd H D (.lst []) D = some (.lst acc) ∧ acc.length = 0 ∧ DLs (upd H D (.lst [])) L acc ((Tr.canons ts).take 0) ∧ L.Nodup ∧ (∀ a ∈ L, H a = none) ∧ D ∉ L) := fun nD =>
      ⟨same_new nD _, [], [], upd_same, rfl, .nil, List.nodup_nil, (fun _ h => nomatch h), (fun h => nomatch h)⟩
    have clen : ∀ ts : List Tr, (Tr.canons ts).length = ts.length := fun ts => by rw [canons_map, List.length_map]
    refine ⟨v, rfl, v, .ty "list", _, _, _, rfl, .ty "list", dv.ty, kitT_list K t, _, rfl, ?_⟩
    cases dv with
    | non => exact ff_if rfl ⟨_, rfl, _, .ty "tuple", _, _, _, rfl, .ty "tuple", .base .non, kitT_tuple K .non, _, rfl, ff_if rfl ⟨_, rfl, _, .ty "dict", _, _, _, rfl, .ty "dict", .base .non, kitT_dict K .non, _, rfl, ff_if rfl ⟨_, rfl, q _ [] H (fun _ _ h => h) .non List.nodup_nil fun _ h => nomatch h⟩⟩⟩
    | bl x => exact ff_if rfl ⟨_, rfl, _, .ty "tuple", _, _, _, rfl, .ty "tuple", .base (.bl x), kitT_tuple K (.bl x), _, rfl, ff_if rfl ⟨_, rfl, _, .ty "dict", _, _, _, rfl, .ty "dict", .base (.bl x), kitT_dict K (.bl x), _, rfl, ff_if rfl ⟨_, rfl, q _ [] H (fun _ _ h => h) (.bl x) List.nodup_nil fun _ h => nomatch h⟩⟩⟩
    | int x => exact ff_if rfl ⟨_, rfl, _, .ty "tuple", _, _, _, rfl, .ty "tuple", .base (.int x), kitT_tuple K (.int x), _, rfl, ff_if rfl ⟨_, rfl, _, .ty "dict", _, _, _, rfl, .ty "dict", .base (.int x), kitT_dict K (.int x), _, rfl, ff_if rfl ⟨_, rfl, q _ [] H (fun _ _ h => h) (.int x) List.nodup_nil fun _ h => nomatch h⟩⟩⟩
    | str x => exact ff_if rfl ⟨_, rfl, _, .ty "tuple", _, _, _, rfl, .ty "tuple", .base (.str x), kitT_tuple K (.str x), _, rfl, ff_if rfl ⟨_, rfl, _, .ty "dict", _, _, _, rfl, .ty "dict", .base (.str x), kitT_dict K (.str x), _, rfl, ff_if rfl ⟨_, rfl, q _ [] H (fun _ _ h => h) (.str x) List.nodup_nil fun _ h => nomatch h⟩⟩⟩
    | @lst a xs ts e nA d =>
      have dd : Tr.depths ts < n := Nat.lt_of_succ_lt_succ dp
      have ff : ts.length ≤ 1000 ∧ Tr.fews ts = true := by
        have h : (decide (ts.length ≤ 1000) && Tr.fews ts) = true := fw
        rw [Bool.and_eq_true, decide_eq_true_eq] at h
        exact h
      refine tt_if rfl ⟨_, rfl, a, rfl, ⟨xs, .inl (.inl e)⟩, fun D nD => ?_⟩
      refine lc_list (K := K) (a := a) (xs := xs) (fun i H1 => Same H H1 ∧ ∃ L acc, H1 D = some (.lst acc) ∧ acc.length = i ∧ DLs H1 L acc ((Tr.canons ts).take i) ∧ L.Nodup ∧ (∀ a ∈ L, H a = none) ∧ D ∉ L)
        (zero nD) (fun i H1 _ p => .inl (.inl (p.1 _ _ e))) (fun i x H1 hx p => ⟨rfl, yes_if ?_⟩) ?_
      · exact ⟨x, rfl, stepL (a := a) d dd ff.2 ff.1 nD i x H1 hx p⟩
      · rintro H1 ⟨s1, L, acc, hD, _, dl, nd, new, nL⟩
        rw [List.take_of_length_le (by rw [clen, d.len]; exact Nat.le_refl _)] at dl
        refine q _ (D :: L) H1 s1 (.lst hD dl) (List.nodup_cons.mpr ⟨nL, nd⟩) fun b hb => ?_
        rcases List.mem_cons.mp hb with h | h
        · subst h; exact nD
        · exact new b h
    | @tup a xs ts e nA d =>
      have dd : Tr.depths ts < n := Nat.lt_of_succ_lt_succ dp
      have ff : ts.length ≤ 1000 ∧ Tr.fews ts = true := by
        have h : (decide (ts.length ≤ 1000) && Tr.fews ts) = true := fw
        rw [Bool.and_eq_true, decide_eq_true_eq] at h
        exact h
      refine ff_if rfl ⟨_, rfl, _, .ty "tuple", _, _, _, rfl, .ty "tuple", .base (.tup e), kitT_tuple K (.tup ts), _, rfl, tt_if rfl ⟨_, rfl, a, rfl, ⟨xs, .inl (.inl e)⟩, fun D nD => ?_⟩⟩
      refine lc_tup (K := K) (a := a) (xs := xs) (fun i H1 => Same H H1 ∧ ∃ L acc, H1 D = some (.lst acc) ∧ acc.length = i ∧ DLs H1 L acc ((Tr.canons ts).take i) ∧ L.Nodup ∧ (∀ a ∈ L, H a = none) ∧ D ∉ L)
        (zero nD) (fun i H1 _ p => .inl (.inl (p.1 _ _ e))) (fun i x H1 hx p => ⟨rfl, yes_if ?_⟩) ?_
      · exact ⟨x, rfl, stepL (a := a) d dd ff.2 ff.1 nD i x H1 hx p⟩
      · rintro H1 ⟨s1, L, acc, hD, _, dl, nd, new, nL⟩
        rw [List.take_of_length_le (by rw [clen, d.len]; exact Nat.le_refl _)] at dl
        refine ⟨D, acc, rfl, .inl ⟨.inl (.inl hD), fun l nl => ?_⟩⟩
        refine q _ (l :: L) _ (s1.trans (same_new nl _)) (.tup upd_same (dl.same (same_new nl _))) (List.nodup_cons.mpr ⟨fun h => ?_, nd⟩) fun b hb => ?_
        · obtain ⟨o, h⟩ := dl.there l h
          rw [nl] at h
          cases h
        · rcases List.mem_cons.mp hb with h | h
          · subst h; exact s1.free nl
          · exact new b h
    | @dct a kvs ks ts e nA k ndk few d =>
      have dd : Tr.depths ts < n := Nat.lt_of_succ_lt_succ dp
      have ff : Tr.fews ts = true := fw
      have sl : (sortT ks).length = ks.length := sortT_len ks
      refine ff_if rfl ⟨_, rfl, _, .ty "tuple", _, _, _, rfl, .ty "tuple", .base (.dK e), kitT_tuple K (.dct ks ts), _, rfl, ff_if rfl ⟨_, rfl, _, .ty "dict", _, _, _, rfl, .ty "dict", .base (.dK e), kitT_dict K (.dct ks ts), _, rfl, tt_if rfl ⟨_, rfl, a, kvs, ks, rfl, .inl e, k, few, fun ys p perm srt np => ?_⟩⟩⟩
      have ey : ys = sortT ks := sort_eq perm srt
      subst ey
      have s0 : Same H (upd H p (.lst ((sortT ks).map V.str))) := same_new np _
      refine ⟨p, rfl, ⟨_, .inl (.inl upd_same)⟩, fun D nD' => ?_⟩
      have nD : H D = none := s0.free nD'
      have npD : p ≠ D := ne_of_none upd_same nD'
      refine dc_list (K := K) (a := p) (xs := (sortT ks).map V.str) (fun i H1 => Same H H1 ∧ H1 p = some (.lst ((sortT ks).map V.str)) ∧ ∃ (L : List Addr) (es : List (Key × V)), H1 D = some (.dK es) ∧ es.map (·.1) = ((sortT ks).take i).map Sum.inr ∧
          DLs H1 L (es.map (·.2)) (((sortT ks).take i).map fun z => (lookT ks (Tr.canons ts) z).getD .non) ∧ L.Nodup ∧ (∀ a ∈ L, H a = none) ∧ D ∉ L ∧ p ∉ L)
        ⟨s0.trans (same_new nD' _), by rw [upd_ne npD]; exact upd_same, [], [], upd_same, rfl, .nil, List.nodup_nil, (fun _ h => nomatch h), (fun h => nomatch h), (fun h => nomatch h)⟩ (fun i H1 _ p => .inl (.inl p.2.1)) ?_ ?_
      · rintro i x H1 hx ⟨s1, hp, L, es, hD, ek, dl, nd, new, nL, npL⟩
        obtain ⟨z, hz, rfl⟩ := map_get hx
        have lt : i < (sortT ks).length := (List.getElem?_eq_some_iff.mp hz).1
        have zk : z ∈ ks := sortT_mem.mp (List.mem_of_getElem? hz)
        obtain ⟨u, t, g1, g2, g3⟩ := DT.look k d zk
        have g3' : t ∈ ts := by
          unfold lookT at g2
          obtain ⟨pr, h1, h2⟩ := Option.map_eq_some_iff.mp g2
          have h3 := List.of_mem_zip (List.mem_of_find?_eq_some h1)
          rw [← h2]
          exact h3.2
        refine ⟨rfl, yes_if ⟨.str z, rfl, .ref a, rfl, .str z, rfl, a, u, rfl, ?_, ?_⟩⟩
        · exact .inl ⟨kvs, .inr z, .inl (s1 _ _ e), rfl, g1.symm⟩
        refine ⟨u, t, A, rfl, g3.same s1, Nat.lt_of_le_of_lt (depth_mem g3') dd, few_mem g3' ff, fun v' M H' s2 dv' nd' new' => ?_⟩
        have hD' : H' D = some (.dK es) := s2 _ _ hD
        have nM : D ∉ M := fun h => by rw [new' D h] at hD; cases hD
        have npM : p ∉ M := fun h => by rw [new' p h] at hp; cases hp
        have el : es.length = i := by
          have h := congrArg List.length ek
          rw [List.length_map, List.length_map, List.length_take] at h
          omega
        have newz : valV es (Sum.inr z : Key) = none := by
          have nm : (Sum.inr z : Key) ∉ es.map (·.1) := by
            rw [ek]
            intro h
            obtain ⟨y, hy, e2⟩ := List.mem_map.mp h
            have ezy : y = z := Sum.inr.inj e2
            subst ezy
            exact take_not_mem (sortT_nodup ndk) hz hy
          unfold valV
          rw [Option.map_eq_none_iff, List.find?_eq_none]
          intro pr hp' h
          exact nm (by rw [← of_decide_eq_true h]; exact List.mem_map_of_mem hp')
        refine ⟨es, .inr z, rfl, hD', small1000 (by omega), ?_⟩
        rw [L2.putK_new v' newz]
        have e0 : (sortT ks).take (i + 1) = (sortT ks).take i ++ [z] := by
          rw [List.take_add_one, hz]
          rfl
        refine ⟨fun b o eb => ?_, by rw [upd_ne npD]; exact s2 _ _ hp, L ++ M, es ++ [(.inr z, v')], upd_same, ?_, ?_, nodup_new nd nd' dl.there new', fun b hb => ?_, fun h => ?_, fun h => ?_⟩
        · rw [upd_ne (ne_of_none eb nD)]
          exact s2 _ _ (s1 _ _ eb)
        · rw [e0, List.map_append, List.map_append, ek]
          rfl
        · rw [e0, List.map_append, List.map_append]
          have e1 : (lookT ks (Tr.canons ts) z).getD .non = t.canon := by
            rw [canons_map, look_map, g2]
            rfl
          show DLs _ (L ++ M) (es.map (·.2) ++ [v']) (_ ++ [(lookT ks (Tr.canons ts) z).getD .non])
          rw [e1]
          refine DLs.keep (H := H') ((dl.same s2).snoc dv') fun b hb o eb => ?_
          rw [upd_ne (fun q => ?_)]
          · exact eb
          · subst q
            rcases List.mem_append.mp hb with h | h
            · exact nL h
            · exact nM h
        · rcases List.mem_append.mp hb with h | h
          · exact new b h
          · exact s1.free (new' b h)
        · rcases List.mem_append.mp h with h | h
          · exact nL h
          · exact nM h
        · rcases List.mem_append.mp h with h | h
          · exact npL h
          · exact npM h
      · rintro H1 ⟨s1, hp, L, es, hD, ek, dl, nd, new, nL, _⟩
        rw [List.length_map, List.take_length] at ek dl
        refine q _ (D :: L) H1 s1 (.dct hD ek (sortT_nodup ndk) (by rw [sl]; exact few) dl) (List.nodup_cons.mpr ⟨nL, nd⟩) fun b hb => ?_
        rcases List.mem_cons.mp hb with h | h
        · subst h; exact nD
        · exact new b h
end
end Lw

set_option Elab.async false
set_option linter.all false
set_option maxRecDepth 100000
set_option maxHeartbeats 4000000
/-! a value is one tree alone; no tree stands within itself; dicts of texts -/
namespace Lw
open PySem PySem.Spec PyProof.Rows L2
theorem inr_inj : ∀ {ks ls : List Str}, ks.map (Sum.inr : Str → Key) = ls.map Sum.inr → ks = ls
  | [], [], _ => rfl
  | [], _ :: _, h => by cases h
  | _ :: _, [], h => by cases h
  | k :: r, l :: q, h => by
    obtain ⟨h1, h2⟩ := List.cons.inj h
    rw [Sum.inr.inj h1, inr_inj h2]
section
variable {H : Hp} {A B : Addr → Prop}
mutual
theorem DT.one : ∀ {v : V} {t t' : Tr}, DT H A v t → DT H B v t' → t = t'
  | _, _, _, .non, y => by cases y; rfl
  | _, _, _, .bl b, y => by cases y; rfl
  | _, _, _, .int b, y => by cases y; rfl
  | _, _, _, .str b, y => by cases y; rfl
  | _, _, _, .lst e n d, y => by
    cases y with
    | lst e' n' d' => rw [e] at e'; cases e'; rw [DTs.one d d']
    | tup e' n' d' => rw [e] at e'; cases e'
    | dct e' n' _ _ _ d' => rw [e] at e'; cases e'
  | _, _, _, .tup e n d, y => by
    cases y with
    | lst e' n' d' => rw [e] at e'; cases e'
    | tup e' n' d' => rw [e] at e'; cases e'; rw [DTs.one d d']
    | dct e' n' _ _ _ d' => rw [e] at e'; cases e'
  | _, _, _, .dct e n k nd few d, y => by
    cases y with
    | lst e' n' d' => rw [e] at e'; cases e'
    | tup e' n' d' => rw [e] at e'; cases e'
    | dct e' n' k' _ _ d' => rw [e] at e'; cases e'; rw [k] at k'; rw [inr_inj k', DTs.one d d']
theorem DTs.one : ∀ {vs : List V} {ts ts' : List Tr}, DTs H A vs ts → DTs H B vs ts' → ts = ts'
  | _, _, _, .nil, y => by cases y; rfl
  | _, _, _, .cons a b, y => by
    cases y with
    | cons a' b' => rw [DT.one a a', DTs.one b b']
end
section
variable {a : Addr} {T : Tr}
mutual
theorem DT.avoid (x : DT H B (.ref a) T) : ∀ {v : V} {t : Tr}, DT H A v t → t.depth < T.depth → DT H (fun b => A b ∧ b ≠ a) v t
  | _, _, .non, _ => .non
  | _, _, .bl b, _ => .bl b
  | _, _, .int i, _ => .int i
  | _, _, .str z, _ => .str z
  | _, _, .lst (a := c) (ts := ts) e n d, h => .lst e ⟨n, fun q => by subst q; have h1 := DT.one x (.lst e n d); rw [h1] at h; exact Nat.lt_irrefl _ h⟩ (DTs.avoid x d (Nat.lt_of_succ_lt h))
  | _, _, .tup (a := c) (ts := ts) e n d, h => .tup e ⟨n, fun q => by subst q; have h1 := DT.one x (.tup e n d); rw [h1] at h; exact Nat.lt_irrefl _ h⟩ (DTs.avoid x d (Nat.lt_of_succ_lt h))
  | _, _, .dct (a := c) (ts := ts) e n k nd few d, h => .dct e ⟨n, fun q => by subst q; have h1 := DT.one x (.dct e n k nd few d); rw [h1] at h; exact Nat.lt_irrefl _ h⟩ k nd few (DTs.avoid x d (Nat.lt_of_succ_lt h))
theorem DTs.avoid (x : DT H B (.ref a) T) : ∀ {vs : List V} {ts : List Tr}, DTs H A vs ts → Tr.depths ts < T.depth → DTs H (fun b => A b ∧ b ≠ a) vs ts
  | _, _, .nil, _ => .nil
  | _, _, .cons (t := t) (ts := ts) z y, h => by
    have h' : max t.depth (Tr.depths ts) < T.depth := h
    exact .cons (DT.avoid x z (Nat.lt_of_le_of_lt (Nat.le_max_left _ _) h')) (DTs.avoid x y (Nat.lt_of_le_of_lt (Nat.le_max_right _ _) h'))
end
end
end
/-! ### dicts of texts -/
abbrev tkD (es : List (Str × V)) : List (Key × V) := es.map fun p => (Sum.inr p.1, p.2)
theorem tkD_keys (es : List (Str × V)) : (tkD es).map (·.1) = (es.map (·.1)).map Sum.inr := by
  rw [List.map_map, List.map_map]
  rfl
theorem tkD_vals (es : List (Str × V)) : (tkD es).map (·.2) = es.map (·.2) := by
  rw [List.map_map]
  rfl
theorem valV_no {kvs : List (Key × V)} {k : Key} (h : k ∉ kvs.map (·.1)) : valV kvs k = none := by
  unfold valV
  rw [Option.map_eq_none_iff, List.find?_eq_none]
  intro pr hp' q
  exact h (by rw [← of_decide_eq_true q]; exact List.mem_map_of_mem hp')
theorem tk_merge : ∀ {rs es : List (Str × V)}, ((es ++ rs).map (·.1)).Nodup → mergeK (tkD es) (tkD rs) = tkD (es ++ rs)
  | [], es, _ => by rw [List.append_nil]; rfl
  | p :: r, es, nd => by
    show mergeK (putK (tkD es) (.inr p.1) p.2) (tkD r) = _
    have new : (Sum.inr p.1 : Key) ∉ (tkD es).map (·.1) := fun m => by
      rw [tkD_keys] at m
      obtain ⟨y, hy, e⟩ := List.mem_map.mp m
      rw [Sum.inr.inj e] at hy
      rw [List.map_append, List.nodup_append] at nd
      exact nd.2.2 _ hy _ (by rw [List.map_cons]; exact List.mem_cons_self) rfl
    have h1 : putK (tkD es) (.inr p.1) p.2 = tkD (es ++ [p]) := by
      rw [L2.putK_new p.2 (valV_no new)]
      show _ = List.map _ (es ++ [p])
      rw [List.map_append]
      rfl
    rw [h1, tk_merge (by rw [List.append_assoc]; exact nd), List.append_assoc]
    rfl
theorem tk_dict {es : List (Str × V)} (nd : (es.map (·.1)).Nodup) : mergeK [] (tkD es) = tkD es := tk_merge (es := []) nd
end Lw

set_option Elab.async false
set_option linter.all false
set_option maxRecDepth 100000
set_option maxHeartbeats 4000000
namespace Lw
open PySem PySem.Spec PyProof.Rows L2
abbrev NLCopied : List Str := ["_law_thing", "_law_one", "_law_key"]
/-- a list of new copies on its way -/
def CopL (H : Hp) (D : Addr) (ts : List Tr) (i : Nat) (H1 : Hp) : Prop :=
  Same H H1 ∧ ∃ L acc, H1 D = some (.lst acc) ∧ acc.length = i ∧ DLs H1 L acc (ts.take i) ∧ L.Nodup ∧ (∀ a ∈ L, H a = none) ∧ D ∉ L
theorem CopL.zero {H : Hp} {D : Addr} {ts : List Tr} (nD : H D = none) : CopL H D ts 0 (upd H D (.lst [])) :=
  ⟨same_new nD _, [], [], upd_same, rfl, .nil, List.nodup_nil, (fun _ h => nomatch h), (fun h => nomatch h)⟩
/-- one more -/
theorem CopL.step {H H1 H' : Hp} {D : Addr} {ts : List Tr} {i : Nat} {t : Tr} {v' : V} {M : List Addr} (nD : H D = none) (p : CopL H D ts i H1) (ht : ts[i]? = some t) (s2 : Same H1 H') (dv' : DL H' M v' t) (nd' : M.Nodup) (new' : ∀ a ∈ M, H1 a = none) :
    ∃ acc, H' D = some (.lst acc) ∧ acc.length = i ∧ CopL H D ts (i + 1) (upd H' D (.lst (acc ++ [v']))) := by
  obtain ⟨s1, L, acc, hD, hi, dl, nd, new, nL⟩ := p
  have hD' : H' D = some (.lst acc) := s2 _ _ hD
  have nM : D ∉ M := fun h => by rw [new' D h] at hD; cases hD
  have k1 : ∀ b, b ≠ D → (upd H' D (.lst (acc ++ [v']))) b = H' b := fun b nb => upd_ne nb
  refine ⟨acc, hD', hi, fun b o e => ?_, L ++ M, acc ++ [v'], upd_same, by rw [List.length_append, hi]; rfl, ?_, nodup_new nd nd' dl.there new', fun b hb => ?_, fun h => ?_⟩
  · rw [k1 b (ne_of_none e nD)]
    exact s2 _ _ (s1 _ _ e)
  · have e1 : ts.take (i + 1) = ts.take i ++ [t] := by
      rw [List.take_add_one, ht]
      rfl
    rw [e1]
    refine DLs.keep (H := H') ((dl.same s2).snoc dv') fun b hb o e => ?_
    rw [k1 b (fun eb => ?_)]
    · exact e
    · subst eb
      rcases List.mem_append.mp hb with h | h
      · exact nL h
      · exact nM h
  · rcases List.mem_append.mp hb with h | h
    · exact new b h
    · exact s1.free (new' b h)
  · rcases List.mem_append.mp h with h | h
    · exact nL h
    · exact nM h
theorem CopL.last {H H1 : Hp} {D : Addr} {ts : List Tr} {n : Nat} (hn : ts.length ≤ n) (nD : H D = none) (p : CopL H D ts n H1) : ∃ L acc, Same H H1 ∧ H1 D = some (.lst acc) ∧ DLs H1 L acc ts ∧ (D :: L).Nodup ∧ ∀ a ∈ D :: L, H a = none := by
  obtain ⟨s1, L, acc, hD, _, dl, nd, new, nL⟩ := p
  rw [List.take_of_length_le hn] at dl
  refine ⟨L, acc, s1, hD, dl, List.nodup_cons.mpr ⟨nL, nd⟩, fun b hb => ?_⟩
  rcases List.mem_cons.mp hb with h | h
  · subst h; exact nD
  · exact new b h
section
variable {P : Program} {w : World} {K : PySem.W.Frag} {mg : Str → Option Value} {base : Heap}
def spCopied (n : Nat) : Sp := fun vs H Q _ => ∃ (v : V) (t : Tr) (A : Addr → Prop), vs = [v] ∧ DT H A v t ∧ t.depth < n ∧ t.few = true ∧
  ∀ (v' : V) (L : List Addr) (H' : Hp), Same H H' → DL H' L v' t → L.Nodup → (∀ a ∈ L, H a = none) → Q v' H'
end
end Lw

set_option Elab.async false
set_option linter.all false
set_option maxRecDepth 100000
set_option maxHeartbeats 4000000
/-! what is changed: some places alone; values changed one after another -/
namespace Lw
open PySem PySem.Spec PyProof.Rows L2
/-- all stands but what stands at these places; none is freed -/
structure Off (L : List Addr) (H H' : Hp) : Prop where
  keep : ∀ a o, a ∉ L → H a = some o → H' a = some o
  free : ∀ a, H' a = none → H a = none
section
variable {L M : List Addr} {H H1 H2 : Hp}
theorem Off.refl (L : List Addr) (H : Hp) : Off L H H := ⟨fun _ _ _ h => h, fun _ h => h⟩
theorem Off.trans (x : Off L H H1) (y : Off M H1 H2) : Off (L ++ M) H H2 :=
  ⟨fun a o n e => y.keep a o (fun h => n (List.mem_append_right _ h)) (x.keep a o (fun h => n (List.mem_append_left _ h)) e), fun a e => x.free a (y.free a e)⟩
theorem Off.sub (x : Off L H H1) (s : ∀ a ∈ L, a ∈ M) : Off M H H1 := ⟨fun a o n e => x.keep a o (fun h => n (s a h)) e, x.free⟩
theorem Off.then (x : Off L H H1) (y : Off L H1 H2) : Off L H H2 := (x.trans y).sub fun a h => (List.mem_append.mp h).elim id id
theorem Off.same (s : Same H H1) : Off L H H1 := ⟨fun a o _ e => s a o e, fun a e => s.free e⟩
theorem Off.put {a : Addr} {u o : HO} (m : a ∈ L) (e : H a = some u) : Off L H (upd H a o) :=
  ⟨fun b w n h => by rw [upd_ne (fun q : b = a => n (by rw [q]; exact m))]; exact h, fun b h => by
    by_cases q : b = a
    · subst q; rw [upd_same] at h; cases h
    · rw [upd_ne q] at h; exact h⟩
end
/-- of some values, with places of their own, the first i are changed -/
structure Rui (H : Hp) (L : List Addr) (xs : List V) (ts : List Tr) (i : Nat) (Hx : Hp) : Prop where
  ex : ∃ L1 L2, L = L1 ++ L2 ∧ Off L1 H Hx ∧ DLs H L2 (xs.drop i) (ts.drop i)
section
variable {H Hx : Hp} {L : List Addr} {xs : List V} {ts : List Tr} {i : Nat}
theorem Rui.zero (d : DLs H L xs ts) : Rui H L xs ts 0 H := ⟨[], L, rfl, .refl _ _, d⟩
theorem Rui.off (r : Rui H L xs ts i Hx) : Off L H Hx := by
  obtain ⟨L1, L2, rfl, h, _⟩ := r.ex
  exact h.sub fun a m => List.mem_append_left _ m
theorem Rui.step (nd : L.Nodup) (r : Rui H L xs ts i Hx) {x : V} (hx : xs[i]? = some x) :
    ∃ t M, ts[i]? = some t ∧ DL Hx M x t ∧ M.Nodup ∧ (∀ b ∈ M, b ∈ L) ∧ ∀ H', Off M Hx H' → Rui H L xs ts (i + 1) H' := by
  obtain ⟨L1, L2, rfl, h, d⟩ := r.ex
  have lx : i < xs.length := (List.getElem?_eq_some_iff.mp hx).1
  have ex : xs.drop i = x :: xs.drop (i + 1) := by
    rw [List.drop_eq_getElem_cons lx, (List.getElem?_eq_some_iff.mp hx).2]
  rw [ex] at d
  have lt : i < ts.length := by
    have h1 := d.len
    rw [List.length_cons, List.length_drop, List.length_drop] at h1
    omega
  have et : ts.drop i = ts[i] :: ts.drop (i + 1) := List.drop_eq_getElem_cons lt
  rw [et] at d
  cases d with
  | @cons M L3 _ _ _ _ a b =>
    have nd1 := List.nodup_append.mp nd
    have nd2 := List.nodup_append.mp nd1.2.1
    refine ⟨ts[i], M, List.getElem?_eq_getElem lt, a.keep fun c hc o e => h.keep c o (fun hL => nd1.2.2 c hL c (List.mem_append_left _ hc) rfl) e, nd2.1, fun c hc => List.mem_append_right _ (List.mem_append_left _ hc), fun H' hO => ⟨L1 ++ M, L3, (List.append_assoc _ _ _).symm, h.trans hO, b⟩⟩
end
theorem valV_at : ∀ {kvs : List (Key × V)} {i : Nat} {k : Key} {v : V}, (kvs.map (·.1)).Nodup → kvs[i]? = some (k, v) → valV kvs k = some v
  | [], _, _, _, _, h => by simp at h
  | p :: r, 0, k, v, _, h => by
    cases h
    show ((List.find? _ ((k, v) :: r)).map _) = _
    rw [List.find?_cons_of_pos (by exact decide_eq_true rfl)]
    rfl
  | p :: r, i + 1, k, v, nd, h => by
    have h' : r[i]? = some (k, v) := by simpa using h
    rw [List.map_cons, List.nodup_cons] at nd
    have ne : ¬ p.1 = k := fun q => nd.1 (q ▸ List.mem_map_of_mem (f := (·.1)) (List.mem_of_getElem? h'))
    show ((List.find? _ (p :: r)).map _) = _
    rw [List.find?_cons_of_neg (by rw [decide_eq_true_eq]; exact ne)]
    exact valV_at nd.2 h'
theorem inr_nodup : ∀ {ks : List Str}, ks.Nodup → (ks.map (Sum.inr : Str → Key)).Nodup
  | [], _ => List.nodup_nil
  | k :: r, h => by
    rw [List.map_cons]
    refine List.nodup_cons.mpr ⟨fun m => ?_, inr_nodup (List.nodup_cons.mp h).2⟩
    obtain ⟨y, hy, e⟩ := List.mem_map.mp m
    rw [Sum.inr.inj e] at hy
    exact (List.nodup_cons.mp h).1 hy
end Lw

set_option Elab.async false
set_option linter.all false
set_option maxRecDepth 100000
set_option maxHeartbeats 4000000
namespace Lw
open PySem PySem.Spec PyProof.Rows L2
abbrev NRuined : List Str := ["_law_thing", "_law_one", "_law_key"]
def Tr.seq : Tr → Bool
  | .lst _ => true
  | .tup _ => true
  | _ => false
theorem kitT_seq (K : PySem.W.Frag) (t : Tr) : PySem.W.kitAny K (.type t.ty) [.type "list", .type "tuple"] = some t.seq := by cases t <;> rfl
section
variable {P : Program} {w : World} {K : PySem.W.Frag} {mg : Str → Option Value} {base : Heap}
def spRuined (n : Nat) : Sp := fun vs H Q _ => ∃ (v : V) (t : Tr) (L : List Addr), vs = [v] ∧ DL H L v t ∧ L.Nodup ∧ t.depth < n ∧ t.few = true ∧ ∀ H' : Hp, Off L H H' → Q (.bl true) H'
end
end Lw

set_option Elab.async false
set_option linter.all false
set_option maxRecDepth 100000
set_option maxHeartbeats 4000000
namespace Lw
open PySem PySem.Spec PyProof.Rows L2
inductive Fld where
  | mk (ws : List Str) | lk (t : Str) | tg
inductive FV (H : Hp) (ns : List Str) : V → Fld → Prop
  | mk {t l : Addr} {ws : List Str} (a : H t = some (.tup [.str "mark", .ref l])) (b : H l = some (.lst (ws.map V.str))) (c : ws ≠ []) (d : ∀ z ∈ ws, NameOk z) (few : ws.length ≤ 4) (nd : ws.Nodup) : FV H ns (.ref t) (.mk ws)
  | lk {t : Addr} {n : Str} (a : H t = some (.tup [.str "link", .str n])) (m : n ∈ ns) : FV H ns (.ref t) (.lk n)
  | tg {t : Addr} (a : H t = some (.tup [.str "tag"])) : FV H ns (.ref t) .tg
/-- as they are drawn: up to three words -/
def Fld.w3 : Fld → Prop
  | .mk ws => ws.length ≤ 3
  | .lk _ => True
  | .tg => True
def Fld.num : Fld → Nat
  | .mk _ => 0
  | .lk _ => 1
  | .tg => 2
/-- how many of a sort -/
def cntF (fs : List (Str × Fld)) (k : Nat) : Nat := (fs.filter fun p => decide (p.2.num = k)).length
theorem cntF_one (fs : List (Str × Fld)) (z : Str) (f : Fld) (k : Nat) : cntF (fs ++ [(z, f)]) k = cntF fs k + if f.num = k then 1 else 0 := by
  unfold cntF
  rw [List.filter_append, List.length_append]
  by_cases q : f.num = k
  · rw [if_pos q, List.filter_cons_of_pos (by exact decide_eq_true q)]
    rfl
  · rw [if_neg q, List.filter_cons_of_neg (by rw [decide_eq_true_eq]; exact q)]
    rfl
/-- a dict of texts -/
abbrev txD (es : List (Str × V)) : List (Key × V) := es.map fun p => (Sum.inr p.1, p.2)
/-- the fields of a table, in the order in which they came -/
structure FsAt (H : Hp) (ns : List Str) (a : Addr) (fs : List (Str × Fld)) : Prop where
  ex : ∃ es : List (Str × V), H a = some (.dK (txD es)) ∧ Paired (fun e f => e.1 = f.1 ∧ FV H ns e.2 f.2) es fs
  nd : (fs.map (·.1)).Nodup
  few : fs.length ≤ 6
  ok : ∀ p ∈ fs, NameOk p.1
  two : ∀ k, k < 3 → cntF fs k ≤ 2
theorem FV.mono {H H' : Hp} {ns : List Str} {v : V} {f : Fld} (x : FV H ns v f) (s : Same H H') : FV H' ns v f := by
  cases x with
  | mk a b c d e g => exact .mk (s _ _ a) (s _ _ b) c d e g
  | lk a m => exact .lk (s _ _ a) m
  | tg a => exact .tg (s _ _ a)
theorem FV.but {H H' : Hp} {ns : List Str} {b c : Addr} {v : V} {f : Fld} (x : FV H ns v f) (g : BagAt H b c) (s : But b H H') : FV H' ns v f := by
  obtain ⟨x1, y1, z1, ns1, h1, _, _⟩ := g
  have nt : ∀ {a : Addr} {xs : List V}, H a = some (.tup xs) → a ≠ b := fun e n => by rw [n, h1] at e; cases e
  have nl : ∀ {a : Addr} {ws : List Str}, H a = some (.lst (ws.map V.str)) → a ≠ b := fun {a ws} e n => by
    rw [n, h1] at e
    injection e with e
    injection e with e
    match ws with
    | [] => simp at e
    | w :: r => simp at e
  cases x with
  | mk a b c d e g => exact .mk (s _ _ a (nt a)) (s _ _ b (nl b)) c d e g
  | lk a m => exact .lk (s _ _ a (nt a)) m
  | tg a => exact .tg (s _ _ a (nt a))
theorem pairedF {H H' : Hp} {ns : List Str} {es : List (Str × V)} {fs : List (Str × Fld)} (x : Paired (fun e f => e.1 = f.1 ∧ FV H ns e.2 f.2) es fs) (up : ∀ v f, FV H ns v f → FV H' ns v f) : Paired (fun e f => e.1 = f.1 ∧ FV H' ns e.2 f.2) es fs := by
  induction x with
  | nil => exact .nil
  | cons a _ ih => exact .cons ⟨a.1, up _ _ a.2⟩ ih
theorem FsAt.mono {H H' : Hp} {ns : List Str} {a : Addr} {fs : List (Str × Fld)} (x : FsAt H ns a fs) (s : Same H H') : FsAt H' ns a fs := by
  obtain ⟨vs, e, p⟩ := x.ex
  exact ⟨⟨vs, s _ _ e, pairedF p fun _ _ z => z.mono s⟩, x.nd, x.few, x.ok, x.two⟩
theorem FsAt.but {H H' : Hp} {ns : List Str} {a b c : Addr} {fs : List (Str × Fld)} (x : FsAt H ns a fs) (g : BagAt H b c) (s : But b H H') : FsAt H' ns a fs := by
  obtain ⟨vs, e, p⟩ := x.ex
  refine ⟨⟨vs, s _ _ e fun n => ?_, pairedF p fun _ _ z => z.but g s⟩, x.nd, x.few, x.ok, x.two⟩
  obtain ⟨x1, y1, z1, ns1, h1, _, _⟩ := g
  rw [n, h1] at e
  cases e
/-- a dict of texts: one more -/
theorem putK_new {es : List (Str × V)} {k : Str} {v : V} (new : k ∉ es.map (·.1)) : putK (txD es) (.inr k) v = txD (es ++ [(k, v)]) := by
  have no : (txD es).any (fun kv => decide (kv.1 = Sum.inr k)) = false := by
    rw [List.any_eq_false]
    intro p hp
    obtain ⟨q, hq, rfl⟩ := List.mem_map.mp hp
    simp only [decide_eq_true_eq]
    intro z
    exact new (Sum.inr.inj z ▸ List.mem_map.mpr ⟨q, hq, rfl⟩)
  unfold putK
  rw [if_neg (by rw [no]; exact Bool.false_ne_true)]
  show txD es ++ [(Sum.inr k, v)] = (es ++ [(k, v)]).map fun p => (Sum.inr p.1, p.2)
  rw [List.map_append]
  rfl
theorem paired_keys {H : Hp} {ns : List Str} {es : List (Str × V)} {fs : List (Str × Fld)} (x : Paired (fun e f => e.1 = f.1 ∧ FV H ns e.2 f.2) es fs) : es.map (·.1) = fs.map (·.1) := by
  induction x with
  | nil => rfl
  | cons a _ ih => rw [List.map_cons, List.map_cons, ih, a.1]
theorem nd_snoc {α : Type} {l : List α} {x : α} (h : l.Nodup) (n : x ∉ l) : (l ++ [x]).Nodup := by
  rw [List.nodup_append]
  exact ⟨h, by simp, fun a ha b hb e => n (by rw [List.mem_singleton] at hb; rw [← hb, ← e]; exact ha)⟩
theorem lst_bag {H : Hp} {b c : Addr} {x y z : Int} {ns : List Str} (h1 : H b = some (.lst [.int x, .int y, .int z, .ref c])) (h2 : H b = some (.lst (ns.map V.str))) : False := by
  rw [h1] at h2
  injection h2 with e
  injection e with e
  match ns with
  | [] => simp at e
  | w :: r => simp at e
abbrev NFields : List Str := ["_law_bag_here", "_law_tables", "_law_rare", "_law_labels", "_law_found", "_law_k", "_law_sort"]
section
variable {P : Program} {w : World} {K : PySem.W.Frag} {mg : Str → Option Value} {base : Heap}
def spFields : Sp := fun vs H Q _ => ∃ (b c tb : Addr) (ns : List Str) (ra : Int), vs = [.ref b, .ref tb, .int ra] ∧ BagAt H b c ∧ H tb = some (.lst (ns.map V.str)) ∧ ns ≠ [] ∧ ns.length ≤ 20 ∧ 0 < ra ∧ ra ≤ 20 ∧ ∀ (p : Addr) (fs : List (Str × Fld)) (H' : Hp), FsAt H' ns p fs → (∀ p ∈ fs, p.2.w3) → H p = none → BagAt H' b c → But b H H' → Q (.ref p) H'
theorem cond_read {k : Nat} {ra : Int} {b c : Addr} {σ : L2.St} {H3 : Hp} {T F : Hp → Prop} (h0 : σ[0]? = some (some (.ref b))) (h2 : σ[2]? = some (some (.int ra))) (ra0 : 0 < ra) (ra1 : ra ≤ 20) (h5 : σ[5]? = some (some (.int (k : Nat)))) (hb : BagAt H3 b c)
    (t : ∀ H4, BagAt H4 b c → But b H3 H4 → T H4) (f : ∀ H4, BagAt H4 b c → But b H3 H4 → F H4) :
    tOr (tAnd (tTest (tOp (rI0 fun i j => V.bl (decide (i < j))) (tVar 5) (tC (V.int 3)))) (tTest (tOp (rI0 fun i j => V.bl (decide (j < i))) (tCall spTake [] E0 (tCons (tVar 0) (tCons (tC (V.int 4)) tNil))) (tC (V.int 0)))))
      (tAnd (tTest (tOp (rI0 fun i j => V.bl (decide (j < i))) (tVar 5) (tC (V.int 2)))) (tTest (tOp rEq (tCall spTake [] E0 (tCons (tVar 0) (tCons (tVar 2) tNil))) (tC (V.int 0))))) σ H3 (fun b H1 => if b = true then T H1 else F H1) := by
  by_cases h : k < 3
  · refine ⟨_, h5, _, _, rfl, rfl, _, rfl, tt_if (decide_eq_true (by omega)) ?_⟩
    refine ⟨_, h0, b, c, 4, rfl, hb, by decide, by decide, fun r H4 r0 r1 hb4 B4 => ⟨r, 0, rfl, rfl, _, rfl, ?_⟩⟩
    by_cases g : 0 < r
    · exact tt_if (decide_eq_true g) (tt_if rfl (t _ hb4 B4))
    · exact ff_if (decide_eq_false g) ⟨_, h5, _, _, rfl, rfl, _, rfl, ff_if (decide_eq_false (by omega)) (ff_if rfl (f _ hb4 B4))⟩
  · refine ⟨_, h5, _, _, rfl, rfl, _, rfl, ff_if (decide_eq_false (by omega)) (ff_if rfl ⟨_, h5, _, _, rfl, rfl, _, rfl, tt_if (decide_eq_true (by omega)) ?_⟩)⟩
    refine ⟨_, h0, _, h2, b, c, ra, rfl, hb, ra0, by omega, fun r H4 r0 r1 hb4 B4 => ⟨rfl, _, rfl, ?_⟩⟩
    by_cases g : V.int r = V.int 0
    · exact tt_if (decide_eq_true g) (t _ hb4 B4)
    · exact ff_if (decide_eq_false g) (f _ hb4 B4)
end
end Lw

set_option Elab.async false
set_option linter.all false
set_option maxRecDepth 100000
set_option maxHeartbeats 4000000
namespace Lw
open PySem PySem.Spec PyProof.Rows L2
/-- a dict held against the empty one -/
def rNeDE : R2 := fun x y H Q => ∃ (a b : Addr) (ks : List (Key × V)), x = .ref a ∧ y = .ref b ∧ H a = some (.dK ks) ∧ H b = some (.dK []) ∧ Q (.bl (!ks.isEmpty)) H
theorem op_ne_dictE {X : Cx} (hu : X.A.units < cLine) : OpR X (compareOp .NotEq) rNeDE := by
  intro pins s σ H x y v u Q I rx ry h
  obtain ⟨a, b, ks, rfl, rfl, ea, eb, q⟩ := h
  obtain rfl : v = Value.ref a := rx
  obtain rfl : u = Value.ref b := ry
  obtain ⟨_, ya, va, ra, da⟩ := (show ObjOk X.prog X.w H s.heap a (.dK ks) from I.hok a _ ea)
  obtain ⟨_, yb, vb, rb, db⟩ := (show ObjOk X.prog X.w H s.heap b (.dK []) from I.hok b _ eb)
  cases rb
  refine PySem.W.keq_ne (knd := mixKind X.prog X.w) (r := true) ya yb da db hu (fun e => ?_) ?_
  · have : va = [] := List.eq_nil_of_length_eq_zero e
    subst this
    exact .nil
  · have e : (!(va.length == ([] : List (Key × Value)).length && true)) = !ks.isEmpty := by
      cases ra with
      | nil => rfl
      | cons a b => rfl
    rw [e]
    exact ⟨.bl _, _, I, rfl, q⟩
theorem cut_take1 (x : V) (xs : List V) : cutV (x :: xs) none (some 1) = [x] := by
  have e : HT.sIx (x :: xs).length (x :: xs).length (some ((1 : Nat) : Int)) = min 1 (x :: xs).length := HT.sIx_nat _ _ 1
  unfold cutV
  rw [show HT.sIx (x :: xs).length (x :: xs).length (some (1 : Int)) = min 1 (x :: xs).length from e, HT.sIx_none]
  have m : min 1 (x :: xs).length = 1 := by rw [List.length_cons]; omega
  rw [m]
  rfl
theorem pick4' {r : Int} (h0 : 0 ≤ r) (h1 : r < 4) : ∃ ln : Int, atI [V.int 0, V.int 0, V.int 1, V.int 2] r = some (.int ln) ∧ 0 ≤ ln ∧ ln ≤ 2 := by
  obtain h | h | h | h : r = 0 ∨ r = 1 ∨ r = 2 ∨ r = 3 := by omega
  · exact ⟨0, by rw [h]; rfl, by decide, by decide⟩
  · exact ⟨0, by rw [h]; rfl, by decide, by decide⟩
  · exact ⟨1, by rw [h]; rfl, by decide, by decide⟩
  · exact ⟨2, by rw [h]; rfl, by decide, by decide⟩
/-- what a table of fields has at a name -/
theorem fv_at {H : Hp} {ns : List Str} {es : List (Str × V)} {fs : List (Str × Fld)} {z : Str} (x : Paired (fun e f => e.1 = f.1 ∧ FV H ns e.2 f.2) es fs) (m : z ∈ fs.map (·.1)) : ∃ v fl, valV (txD es) (.inr z) = some v ∧ FV H ns v fl ∧ (z, fl) ∈ fs := by
  induction x with
  | nil => cases m
  | @cons e f es fs a _ ih =>
    by_cases q : e.1 = z
    · refine ⟨e.2, f.2, ?_, a.2, by rw [← q, a.1]; exact List.mem_cons_self⟩
      show ((List.find? _ ((Sum.inr e.1, e.2) :: txD es)).map _) = _
      rw [List.find?_cons_of_pos (by rw [q]; exact decide_eq_true rfl)]
      rfl
    · obtain ⟨v, fl, e1, fv, mm⟩ := ih (by
        rcases List.mem_cons.mp m with h | h
        · exact absurd (a.1.trans h.symm) q
        · exact h)
      refine ⟨v, fl, ?_, fv, List.mem_cons_of_mem _ mm⟩
      show ((List.find? _ ((Sum.inr e.1, e.2) :: txD es)).map _) = _
      rw [List.find?_cons_of_neg (by rw [decide_eq_true_eq]; exact fun n => q (Sum.inr.inj n))]
      exact e1
theorem TV.isRef {H : Hp} {v : V} {t : Tst} (x : TV H v t) : ∃ a, v = .ref a := by
  cases x with
  | is a b => exact ⟨_, rfl⟩
  | non a => exact ⟨_, rfl⟩
  | nt a b => exact ⟨_, rfl⟩
/-- a list of tests grows: the tests stand -/
theorem TV.app {H : Hp} {D : Addr} {vs : List V} {ts : List Tst} {o : HO} (eD : H D = some (.lst vs)) (pp : Paired (TV H) vs ts) {v : V} {t : Tst} (x : TV H v t) (ne : ∀ f ws, t.core = .is f ws → ws ≠ []) : TV (upd H D o) v t := by
  have nt : ∀ {a : Addr} {xs : List V}, H a = some (.tup xs) → a ≠ D := fun e n => by rw [n, eD] at e; cases e
  induction x with
  | @is t l f ws a b =>
    refine .is (by rw [upd_ne (nt a)]; exact a) (by
      rw [upd_ne (fun n => ?_)]
      · exact b
      · rw [n, eD] at b
        injection b with b
        injection b with b
        have w0 := ne f ws rfl
        match ws, w0 with
        | w :: r, _ =>
          rw [List.map_cons] at b
          subst b
          cases pp with
          | cons q _ =>
            obtain ⟨a, e⟩ := q.isRef
            cases e)
  | non a => exact .non (by rw [upd_ne (nt a)]; exact a)
  | nt a _ ih => exact .nt (by rw [upd_ne (nt a)]; exact a) (ih ne)
theorem tv_list {H H' : Hp} {vs : List V} {ts : List Tst} (x : Paired (TV H) vs ts) (up : ∀ v t, t ∈ ts → TV H v t → TV H' v t) : Paired (TV H') vs ts := by
  induction x with
  | nil => exact .nil
  | cons a _ ih => exact .cons (up _ _ List.mem_cons_self a) (ih fun v t m => up v t (List.mem_cons_of_mem _ m))
/-- nots drawn, and the test put at the end -/
theorem turn_read {K : PySem.W.Frag} {b c D : Addr} {v1 v2 v4 v5 v7 v8 v9 v10 : Option V} {v : V} {t : Tst} {vs : List V} {H7 : Hp} {Dn : Ends} (hb : BagAt H7 b c) (nDb : D ≠ b) (hD : H7 D = some (.lst vs)) (few : vs.length < 100) (tv : TV H7 v t) (dt : t.depth = 0)
    (fin : ∀ (v' : V) (t' : Tst) (H8 : Hp) (v9' : Option V), TV H8 v' t' → t'.depth ≤ 2 → t'.field = t.field → t'.core = t.core → BagAt H8 b c → But b H7 H8 → Dn.nx [some (.ref b), v1, v2, some (.ref D), v4, v5, some v', v7, v8, v9', v10] (upd H8 D (.lst (vs ++ [v'])))) :
    tSeq (tFor (iRng1 (tCons (tOp (rIxL K) (tLst (tCons (tC (V.int 0)) (tCons (tC (V.int 0)) (tCons (tC (V.int 1)) (tCons (tC (V.int 2)) tNil))))) (tCall spTake [] E0 (tCons (tVar 0) (tCons (tC (V.int 4)) tNil)))) tNil)) (gName 9) (tAsg (tTup (tCons (tC (V.str "not")) (tCons (tVar 6) tNil))) (gName 6)))
      (tDrop (tBM K "list" rAppend (tVar 3) (tCons (tVar 6) tNil))) Dn [some (.ref b), v1, v2, some (.ref D), v4, v5, some v, v7, v8, v9, v10] H7 := by
  refine ⟨small (by show 4 ≤ 1000; decide), fun l nl => ⟨_, rfl, b, c, 4, rfl, hb.new nl, by decide, by decide, fun r H8 r0 r1 hb8 B8 => ?_⟩⟩
  have nlb : l ≠ b := hb.nb nl
  obtain ⟨ln, hln, l0, l2⟩ := pick4' r0 r1
  have B7 : But b H7 H8 := ((But.refl b H7).new nl).trans B8
  refine ⟨l, _, r, .int ln, rfl, rfl, .inl (.inl (B8 l _ upd_same nlb)), hln, ln, rfl, by omega, by omega, for_range (lo := 0) (n := ln.toNat) (fun i σ H' => ∃ (v' : V) (t' : Tst) (v9' : Option V), σ = [some (.ref b), v1, v2, some (.ref D), v4, v5, some v', v7, v8, v9', v10] ∧
    TV H' v' t' ∧ t'.depth = i ∧ t'.field = t.field ∧ t'.core = t.core ∧ BagAt H' b c ∧ But b H7 H') ⟨v, t, v9, rfl, tv.but hb B7, dt, rfl, rfl, hb8, B7⟩ ?_ ?_⟩
  · rintro i σ H' hi ⟨v', t', v9', rfl, tv', de, fe, ce, hb', B'⟩
    exact ⟨_, rfl, small (by show 2 ≤ 1000; decide), fun p np => ⟨.ref p, .nt t', _, rfl, .nt upd_same (tv'.mono (same_new np _)), by show t'.depth + 1 = i + 1; rw [de], fe, ce, hb'.new np, B'.new np⟩⟩
  · rintro σ H' ⟨v', t', v9', rfl, tv', de, fe, ce, hb', B'⟩
    have hD' := B' D _ hD nDb
    exact ⟨.ref D, rfl, .inl ⟨rfl, _, .inl (.inl hD')⟩, _, rfl, D, _, v', rfl, rfl, hD', small1000 (by omega), fin v' t' H' v9' tv' (by omega) fe ce hb' B'⟩
abbrev NTests : List Str := ["_law_bag_here", "_law_fields_here", "_law_top", "_law_found", "_law_k", "_law_name", "_law_test", "_law_words", "_law_some", "_law_turn", "_law_word"]
section
variable {P : Program} {w : World} {K : PySem.W.Frag} {mg : Str → Option Value} {base : Heap}
/-- what stands within the nots of a test fits the fields -/
inductive TstC (fs : List (Str × Fld)) (m : Nat) : Tst → Prop
  | is {f : Str} {ws vs : List Str} (a : (f, .mk vs) ∈ fs) (b : ws ≠ []) (c : ws.length ≤ m) (d : ∀ z ∈ ws, z ∈ vs) (e : ∀ z ∈ ws, NameOk z) : TstC fs m (.is f ws)
  | lk {f n : Str} (a : (f, .lk n) ∈ fs) : TstC fs m (.non f)
  | tg {f : Str} (a : (f, .tg) ∈ fs) : TstC fs m (.non f)
/-- a test drawn: so many nots, a field of these, so many words -/
structure TstOk (fs : List (Str × Fld)) (n m : Nat) (t : Tst) : Prop where
  dep : t.depth ≤ n
  core : TstC fs m t.core
theorem TstC.words {fs : List (Str × Fld)} {m : Nat} {t : Tst} (x : TstC fs m t) : ∀ f ws, t = .is f ws → ws ≠ [] := fun f ws e => by
  cases x with
  | is a b c d e' => injection e with e1 e2; rw [← e2]; exact b
  | lk a => cases e
  | tg a => cases e
def spTests : Sp := fun vs H Q _ => ∃ (b c f : Addr) (ns : List Str) (fs : List (Str × Fld)) (top : Int), vs = [.ref b, .ref f, .int top] ∧ BagAt H b c ∧ FsAt H ns f fs ∧ 0 ≤ top ∧ top ≤ 9 ∧
  ∀ (p : Addr) (vs : List V) (ts : List Tst) (H' : Hp), H' p = some (.lst vs) → Paired (TV H') vs ts → (∀ t ∈ ts, TstOk fs 2 4 t) → ts.length ≤ 9 → H p = none → BagAt H' b c → But b H H' → Q (.ref p) H'
end
end Lw

set_option Elab.async false
set_option linter.all false
set_option maxRecDepth 100000
set_option maxHeartbeats 4000000
namespace Lw
open PySem PySem.Spec PyProof.Rows L2
/-! ### fields as trees -/
def Fld.sort : Fld → Str
  | .mk _ => "mark"
  | .lk _ => "link"
  | .tg => "tag"
def Fld.tree : Fld → Tr
  | .mk ws => .tup [.str "mark", .lst (ws.map Tr.str)]
  | .lk n => .tup [.str "link", .str n]
  | .tg => .tup [.str "tag"]
abbrev Flds := List (Str × Fld)
def fieldsT (fs : Flds) : Tr := .dct (fs.map (·.1)) (fs.map (·.2.tree))
theorem FV.dt {H : Hp} {ns : List Str} {b c : Addr} {v : V} {f : Fld} (x : FV H ns v f) (g : BagAt H b c) : DT H (· ≠ b) v f.tree := by
  obtain ⟨x1, y1, z1, ns1, h1, _, _⟩ := g
  have nt : ∀ {a : Addr} {xs : List V}, H a = some (.tup xs) → a ≠ b := fun e n => by rw [n, h1] at e; cases e
  cases x with
  | mk a b c d e g => exact .tup a (nt a) (.cons (.str _) (.cons (.lst b (fun n => lst_bag h1 (n ▸ b)) (DTs.ofStrs _)) .nil))
  | lk a m => exact .tup a (nt a) (.cons (.str _) (.cons (.str _) .nil))
  | tg a => exact .tup a (nt a) (.cons (.str _) .nil)
theorem FsAt.dt {H : Hp} {ns : List Str} {a b c : Addr} {fs : Flds} (x : FsAt H ns a fs) (g : BagAt H b c) : DT H (· ≠ b) (.ref a) (fieldsT fs) := by
  obtain ⟨es, e, p⟩ := x.ex
  have nt : a ≠ b := fun n => by
    obtain ⟨x1, y1, z1, ns1, h1, _, _⟩ := g
    rw [n, h1] at e
    cases e
  have few := x.few
  refine .dct e nt ?_ x.nd (by rw [List.length_map]; omega) ?_
  · rw [← paired_keys p]
    exact tkD_keys es
  · have h := tkD_vals es
    show DTs H _ ((tkD es).map (·.2)) _
    rw [h]
    clear h e few x
    induction p with
    | nil => exact .nil
    | cons q _ ih => exact .cons (q.2.dt g) ih
/-- what a field of that name is -/
def fldAt (fs : Flds) (z : Str) : Option Fld := (fs.find? fun p => decide (p.1 = z)).map (·.2)
theorem fldAt_mem {fs : Flds} {z : Str} (m : z ∈ fs.map (·.1)) : ∃ fl, fldAt fs z = some fl ∧ (z, fl) ∈ fs := by
  induction fs with
  | nil => cases m
  | cons p r ih =>
    by_cases q : p.1 = z
    · refine ⟨p.2, ?_, by rw [← q]; exact List.mem_cons_self⟩
      unfold fldAt
      rw [List.find?_cons_of_pos (by exact decide_eq_true q)]
      rfl
    · obtain ⟨fl, e, h⟩ := ih (by
        rcases List.mem_cons.mp m with h | h
        · exact absurd h.symm q
        · exact h)
      refine ⟨fl, ?_, List.mem_cons_of_mem _ h⟩
      unfold fldAt
      rw [List.find?_cons_of_neg (by rw [decide_eq_true_eq]; exact q)]
      exact e
theorem fld_look (fs : Flds) (z : Str) : lookT (fs.map (·.1)) (fs.map (·.2.tree)) z = (fldAt fs z).map Fld.tree := by
  induction fs with
  | nil => rfl
  | cons p r ih =>
    unfold lookT fldAt
    rw [List.map_cons, List.map_cons, List.zip_cons_cons]
    by_cases q : p.1 = z
    · rw [List.find?_cons_of_pos (by exact decide_eq_true q), List.find?_cons_of_pos (by exact decide_eq_true q)]
      rfl
    · rw [List.find?_cons_of_neg (by rw [decide_eq_true_eq]; exact q), List.find?_cons_of_neg (by rw [decide_eq_true_eq]; exact q)]
      exact ih
/-- in the heap -/
theorem fields_get {H : Hp} {A : Addr → Prop} {f : Addr} {fs : Flds} {z : Str} (x : DT H A (.ref f) (fieldsT fs)) (m : z ∈ fs.map (·.1)) : ∃ v fl, DGet H f (.str z) (some v) ∧ fldAt fs z = some fl ∧ DT H A v fl.tree := by
  obtain ⟨a, kvs, e1, e, n, k, nd, few, d⟩ := x.dctI
  cases e1
  obtain ⟨v, t, h1, h2, h3⟩ := DT.look k d m
  obtain ⟨fl, g1, _⟩ := fldAt_mem m
  rw [fld_look, g1] at h2
  cases h2
  refine ⟨v, fl, ?_, g1, h3⟩
  have h := DGet.k (k := .inr z) e
  rw [h1] at h
  exact h
theorem fld_sort {H : Hp} {A : Addr → Prop} {v : V} {fl : Fld} (x : DT H A v fl.tree) : ∃ a xs, v = .ref a ∧ H a = some (.tup (.str fl.sort :: xs)) ∧ A a := by
  cases fl with
  | mk ws =>
    obtain ⟨a, xs, e, h, n, d⟩ := x.tupI
    cases d with
    | cons p q => cases p; exact ⟨a, _, e, h, n⟩
  | lk m =>
    obtain ⟨a, xs, e, h, n, d⟩ := x.tupI
    cases d with
    | cons p q => cases p; exact ⟨a, _, e, h, n⟩
  | tg =>
    obtain ⟨a, xs, e, h, n, d⟩ := x.tupI
    cases d with
    | cons p q => cases p; exact ⟨a, _, e, h, n⟩
def sortIs (fs : Flds) (s : Str) (z : Str) : Bool := decide ((fldAt fs z).map Fld.sort = some s)
/-- the names of the fields of a sort, ascending -/
def likeT (fs : Flds) (s : Str) : List Str := (sortT (fs.map (·.1))).filter (sortIs fs s)
theorem like_mem {fs : Flds} {s z : Str} (m : z ∈ likeT fs s) : ∃ fl, fldAt fs z = some fl ∧ (z, fl) ∈ fs ∧ fl.sort = s := by
  obtain ⟨h1, h2⟩ := List.mem_filter.mp m
  obtain ⟨fl, e1, e2⟩ := fldAt_mem (sortT_mem.mp h1)
  refine ⟨fl, e1, e2, ?_⟩
  have h := of_decide_eq_true h2
  rw [e1] at h
  exact Option.some.inj h
theorem like_len (fs : Flds) (s : Str) : (likeT fs s).length ≤ fs.length := by
  have h := List.length_filter_le (sortIs fs s) (sortT (fs.map (·.1)))
  rw [sortT_len, List.length_map] at h
  exact h
abbrev NLike : List Str := ["_law_fields_here", "_law_sort", "_law_name"]
section
variable {P : Program} {w : World} {K : PySem.W.Frag} {mg : Str → Option Value} {base : Heap}
def spLike : Sp := fun vs H Q _ => ∃ (f : Addr) (fs : Flds) (A : Addr → Prop) (s : Str), vs = [.ref f, .str s] ∧ DT H A (.ref f) (fieldsT fs) ∧ ∀ (p : Addr) (H' : Hp), Same H H' → H p = none → H' p = some (.lst ((likeT fs s).map V.str)) → Q (.ref p) H'
end
end Lw

set_option Elab.async false
set_option linter.all false
set_option maxRecDepth 100000
set_option maxHeartbeats 4000000
namespace Lw
open PySem PySem.Spec PyProof.Rows L2
inductive FldOk (ns : List Str) : Fld → Prop
  | mk {ws : List Str} (c : ws ≠ []) (d : ∀ z ∈ ws, NameOk z) (few : ws.length ≤ 4) (nd : ws.Nodup) : FldOk ns (.mk ws)
  | lk {n : Str} (m : n ∈ ns) : FldOk ns (.lk n)
  | tg : FldOk ns .tg
/-- the fields of a table, as they are drawn -/
structure FldsOk (ns : List Str) (fs : Flds) : Prop where
  nd : (fs.map (·.1)).Nodup
  few : fs.length ≤ 6
  ok : ∀ p ∈ fs, NameOk p.1
  two : ∀ k, k < 3 → cntF fs k ≤ 2
  val : ∀ p ∈ fs, FldOk ns p.2
theorem FsAt.flds {H : Hp} {ns : List Str} {a : Addr} {fs : Flds} (x : FsAt H ns a fs) : FldsOk ns fs := by
  refine ⟨x.nd, x.few, x.ok, x.two, ?_⟩
  obtain ⟨es, e0, p⟩ := x.ex
  clear x e0
  induction p with
  | nil => exact fun p h => nomatch h
  | @cons e f es fs a _ ih =>
    intro p hp
    rcases List.mem_cons.mp hp with h | h
    · subst h
      obtain ⟨a1, a2⟩ := a
      generalize p.2 = fl at a2
      generalize e.2 = u at a2
      cases a2 with
      | mk a b c d e g => exact .mk c d e g
      | lk a m => exact .lk m
      | tg a => exact .tg
    · exact ih p h
theorem FV.of {H : Hp} {A : Addr → Prop} {ns : List Str} {v : V} {fl : Fld} (x : DT H A v fl.tree) (o : FldOk ns fl) : FV H ns v fl := by
  cases o with
  | mk c d few nd =>
    obtain ⟨a, xs, rfl, h, _, y⟩ := x.tupI
    cases y with
    | cons p q =>
      cases p
      cases q with
      | cons p q =>
        cases q
        obtain ⟨l, ys, rfl, hl, _, z⟩ := p.lstI
        rw [DTs.strs z] at hl
        exact .mk h hl c d few nd
  | lk m =>
    obtain ⟨a, xs, rfl, h, _, y⟩ := x.tupI
    cases y with
    | cons p q =>
      cases p
      cases q with
      | cons p q =>
        cases q
        cases p
        exact .lk h m
  | tg =>
    obtain ⟨a, xs, rfl, h, _, y⟩ := x.tupI
    cases y with
    | cons p q =>
      cases p
      cases q
      exact .tg h
theorem FsAt.of {H : Hp} {A : Addr → Prop} {ns : List Str} {a : Addr} {fs : Flds} (x : DT H A (.ref a) (fieldsT fs)) (o : FldsOk ns fs) : FsAt H ns a fs := by
  obtain ⟨a', kvs, e1, e, n, k, nd, few, d⟩ := x.dctI
  cases e1
  refine ⟨?_, o.nd, o.few, o.ok, o.two⟩
  have go : ∀ {kvs : List (Key × V)} {fs : Flds}, kvs.map (·.1) = (fs.map (·.1)).map Sum.inr → DTs H A (kvs.map (·.2)) (fs.map (·.2.tree)) → (∀ p ∈ fs, FldOk ns p.2) → ∃ es : List (Str × V), kvs = txD es ∧ Paired (fun e f => e.1 = f.1 ∧ FV H ns e.2 f.2) es fs := by
    intro kvs fs
    induction fs generalizing kvs with
    | nil =>
      intro k _ _
      cases kvs with
      | nil => exact ⟨[], rfl, .nil⟩
      | cons p r => cases k
    | cons f fs ih =>
      intro k d o
      cases kvs with
      | nil => cases k
      | cons p r =>
        obtain ⟨k1, k2⟩ := List.cons.inj k
        cases d with
        | cons x y =>
          obtain ⟨es, h1, h2⟩ := ih k2 y fun p hp => o p (List.mem_cons_of_mem _ hp)
          obtain ⟨pk, pw⟩ := p
          have k1 : pk = Sum.inr f.1 := k1
          subst k1
          exact ⟨(f.1, pw) :: es, by rw [h1]; rfl, .cons ⟨rfl, FV.of x (o f List.mem_cons_self)⟩ h2⟩
  obtain ⟨es, h1, h2⟩ := go k d o.val
  exact ⟨es, by rw [e, h1], h2⟩
/-! ### tables -/
abbrev Tabs := List (Str × Flds)
def tablesT (tabs : Tabs) : Tr := .dct (tabs.map (·.1)) (tabs.map fun p => fieldsT p.2)
structure TabsOk (tabs : Tabs) : Prop where
  nd : (tabs.map (·.1)).Nodup
  one : tabs ≠ []
  few : tabs.length ≤ 3
  ok : ∀ p ∈ tabs, NameOk p.1
  val : ∀ p ∈ tabs, FldsOk (tabs.map (·.1)) p.2
def tabAt (tabs : Tabs) (z : Str) : Option Flds := (tabs.find? fun p => decide (p.1 = z)).map (·.2)
theorem tabAt_mem {tabs : Tabs} {z : Str} (m : z ∈ tabs.map (·.1)) : ∃ fs, tabAt tabs z = some fs ∧ (z, fs) ∈ tabs := by
  induction tabs with
  | nil => cases m
  | cons p r ih =>
    by_cases q : p.1 = z
    · refine ⟨p.2, ?_, by rw [← q]; exact List.mem_cons_self⟩
      unfold tabAt
      rw [List.find?_cons_of_pos (by exact decide_eq_true q)]
      rfl
    · obtain ⟨fl, e, h⟩ := ih (by
        rcases List.mem_cons.mp m with h | h
        · exact absurd h.symm q
        · exact h)
      refine ⟨fl, ?_, List.mem_cons_of_mem _ h⟩
      unfold tabAt
      rw [List.find?_cons_of_neg (by rw [decide_eq_true_eq]; exact q)]
      exact e
theorem tab_look (tabs : Tabs) (z : Str) : lookT (tabs.map (·.1)) (tabs.map fun p => fieldsT p.2) z = (tabAt tabs z).map fieldsT := by
  induction tabs with
  | nil => rfl
  | cons p r ih =>
    unfold lookT tabAt
    rw [List.map_cons, List.map_cons, List.zip_cons_cons]
    by_cases q : p.1 = z
    · rw [List.find?_cons_of_pos (by exact decide_eq_true q), List.find?_cons_of_pos (by exact decide_eq_true q)]
      rfl
    · rw [List.find?_cons_of_neg (by rw [decide_eq_true_eq]; exact q), List.find?_cons_of_neg (by rw [decide_eq_true_eq]; exact q)]
      exact ih
theorem tables_get {H : Hp} {A : Addr → Prop} {T : Addr} {tabs : Tabs} {z : Str} (x : DT H A (.ref T) (tablesT tabs)) (m : z ∈ tabs.map (·.1)) : ∃ f fs, DGet H T (.str z) (some (.ref f)) ∧ tabAt tabs z = some fs ∧ (z, fs) ∈ tabs ∧ DT H A (.ref f) (fieldsT fs) := by
  obtain ⟨a, kvs, e1, e, n, k, nd, few, d⟩ := x.dctI
  cases e1
  obtain ⟨v, t, h1, h2, h3⟩ := DT.look k d m
  obtain ⟨fs, g1, g2⟩ := tabAt_mem m
  rw [tab_look, g1] at h2
  cases h2
  obtain ⟨f, _, rfl, _⟩ := h3.dctI
  refine ⟨f, fs, ?_, g1, g2, h3⟩
  have h := DGet.k (k := .inr z) e
  rw [h1] at h
  exact h
/-! ### tests and rules -/
def Tst.tree : Tst → Tr
  | .is f ws => .tup [.str "is", .str f, .lst (ws.map Tr.str)]
  | .non f => .tup [.str "none", .str f]
  | .nt t => .tup [.str "not", t.tree]
def testsT (ts : List Tst) : Tr := .lst (ts.map Tst.tree)
/-- no place of the bag, and of no list of references that stood -/
def Aside (b : Addr) (H : Hp) (a : Addr) : Prop := a ≠ b ∧ ∀ ps : List Addr, H a ≠ some (.lst (ps.map V.ref))
theorem aside_new {H : Hp} {b c a : Addr} (hb : BagAt H b c) (n : H a = none) : Aside b H a := ⟨hb.nb n, fun ps e => by rw [n] at e; cases e⟩
theorem aside_tup {H H' : Hp} {b c a : Addr} {xs : List V} (hb : BagAt H' b c) (B : But b H H') (e : H' a = some (.tup xs)) : Aside b H a := by
  have nb : a ≠ b := fun n => by
    obtain ⟨x1, y1, z1, ns1, h1, _, _⟩ := hb
    rw [n, h1] at e
    cases e
  refine ⟨nb, fun ps h => ?_⟩
  rw [B _ _ h nb] at e
  cases e
theorem aside_txt {H H' : Hp} {b c a : Addr} {ws : List Str} (hb : BagAt H' b c) (B : But b H H') (ne : ws ≠ []) (e : H' a = some (.lst (ws.map V.str))) : Aside b H a := by
  have nb : a ≠ b := fun n => by
    obtain ⟨x1, y1, z1, ns1, h1, _, _⟩ := hb
    exact lst_bag h1 (n ▸ e)
  refine ⟨nb, fun ps h => ?_⟩
  rw [B _ _ h nb] at e
  injection e with e
  injection e with e
  cases ws with
  | nil => exact ne rfl
  | cons w r =>
    cases ps with
    | nil => cases e
    | cons p q => cases e
theorem TV.dtA {H : Hp} {A : Addr → Prop} (T : ∀ a xs, H a = some (.tup xs) → A a) (W : ∀ a (ws : List Str), ws ≠ [] → H a = some (.lst (ws.map V.str)) → A a) {v : V} {t : Tst} (x : TV H v t) (ne : ∀ f ws, t.core = .is f ws → ws ≠ []) : DT H A v t.tree := by
  induction x with
  | is a b => exact .tup a (T _ _ a) (.cons (.str _) (.cons (.str _) (.cons (.lst b (W _ _ (ne _ _ rfl) b) (DTs.ofStrs _)) .nil)))
  | non a => exact .tup a (T _ _ a) (.cons (.str _) (.cons (.str _) .nil))
  | nt a _ ih => exact .tup a (T _ _ a) (.cons (.str _) (.cons (ih ne) .nil))
theorem tests_dt {H H' : Hp} {b c p : Addr} (hb : BagAt H b c) (hb' : BagAt H' b c) (B : But b H H') {vs : List V} {ts : List Tst} (e : H' p = some (.lst vs)) (n : H p = none) (x : Paired (TV H') vs ts) (ne : ∀ t ∈ ts, ∀ f ws, t.core = .is f ws → ws ≠ []) : DT H' (Aside b H) (.ref p) (testsT ts) := by
  refine .lst e (aside_new hb n) ?_
  clear e
  induction x with
  | nil => exact .nil
  | cons a _ ih => exact .cons (a.dtA (fun _ _ h => aside_tup hb' B h) (fun _ _ w h => aside_txt hb' B w h) (ne _ List.mem_cons_self)) (ih fun t m => ne t (List.mem_cons_of_mem _ m))
theorem DT.but {H H' : Hp} {b : Addr} {v : V} {t : Tr} (x : DT H (· ≠ b) v t) (s : But b H H') : DT H' (· ≠ b) v t := x.mono fun a o n e => s a o e n
theorem DTs.but {H H' : Hp} {b : Addr} {vs : List V} {ts : List Tr} (x : DTs H (· ≠ b) vs ts) (s : But b H H') : DTs H' (· ≠ b) vs ts := x.mono fun a o n e => s a o e n
theorem DT.butA {H H' H0 : Hp} {b : Addr} {v : V} {t : Tr} (x : DT H (Aside b H0) v t) (s : But b H H') : DT H' (Aside b H0) v t := x.mono fun a o n e => s a o e n.1
inductive RK where
  | link (tb fd : Str) (x y : List Tst) | uniq (tb fd : Str) | one (tb : Str) (x : List Tst) | chk (tb : Str) (x : List Tst)
abbrev Rul := Str × RK
def ruleT : Rul → Tr
  | (n, .link tb fd x y) => .tup [.str n, .str "link", .str tb, .str fd, testsT x, testsT y]
  | (n, .uniq tb fd) => .tup [.str n, .str "unique", .str tb, .str fd]
  | (n, .one tb x) => .tup [.str n, .str "some", .str tb, testsT x]
  | (n, .chk tb x) => .tup [.str n, .str "check", .str tb, testsT x]
abbrev TstsOk (fs : Flds) (ts : List Tst) : Prop := (∀ t ∈ ts, TstOk fs 2 4 t) ∧ ts.length ≤ 9
inductive RKOk (tabs : Tabs) : RK → Prop
  | link {tb fd n2 : Str} {fs fs2 : Flds} {x y : List Tst} (h : (tb, fs) ∈ tabs) (l : (fd, .lk n2) ∈ fs) (h2 : (n2, fs2) ∈ tabs) (tx : TstsOk fs x) (ty : TstsOk fs2 y) : RKOk tabs (.link tb fd x y)
  | uniq {tb fd : Str} {fs : Flds} (h : (tb, fs) ∈ tabs) (l : (fd, .tg) ∈ fs) : RKOk tabs (.uniq tb fd)
  | one {tb : Str} {fs : Flds} {x : List Tst} (h : (tb, fs) ∈ tabs) (tx : TstsOk fs x) : RKOk tabs (.one tb x)
  | chk {tb : Str} {fs : Flds} {x : List Tst} (h : (tb, fs) ∈ tabs) (tx : TstsOk fs x) : RKOk tabs (.chk tb x)
/-- a list of names against the empty one -/
theorem strs_dp {K : PySem.W.Frag} {H : Hp} : ∀ ws : List Str, DpAll K H (ws.map V.str) (ws.map PyData.str)
  | [] => .nil
  | w :: r => .cons (.str w) (strs_dp r)
theorem strs_lay : ∀ {ws : List Str}, (∀ z ∈ ws, NameOk z) → PyData.canLayAll0 (ws.map PyData.str) = true
  | [], _ => rfl
  | z :: r, h => by
    show (PyData.canLay0 (.str z) && PyData.canLayAll0 (r.map PyData.str)) = true
    rw [strs_lay fun y hy => h y (List.mem_cons_of_mem _ hy), Bool.and_true]
    have o := h z List.mem_cons_self
    show PyData.strOk z = true
    unfold PyData.strOk
    rw [← Array.all_toList, List.all_eq_true]
    intro c hc
    exact decide_eq_true (Nat.lt_of_le_of_lt (o.low c hc).2 (by decide))
theorem strs_depth : ∀ ws : List Str, PyData.depthAll (ws.map PyData.str) ≤ 1
  | [] => Nat.zero_le _
  | z :: r => by
    show max (PyData.depth (.str z)) (PyData.depthAll (r.map PyData.str)) ≤ 1
    exact Nat.max_le.mpr ⟨Nat.zero_le _, strs_depth r⟩
theorem strs_shaped {ws : List Str} (h : ∀ z ∈ ws, NameOk z) : SeqAt.shaped (.list (ws.map PyData.str)) = true := by
  unfold SeqAt.shaped
  rw [Bool.and_eq_true]
  refine ⟨strs_lay h, decide_eq_true ?_⟩
  show PyData.depthAll (ws.map PyData.str) + 1 ≤ 64
  have := strs_depth ws
  omega
theorem strs_eqv (ws : List Str) : PyData.eqv (.list (ws.map PyData.str)) (.list []) = ws.isEmpty := by cases ws <;> rfl
theorem and_lt_read {K : PySem.W.Frag} {σ : L2.St} {H : Hp} {T F : Hp → Prop} {j : Nat} {k : Int} {l : Addr} {ws : List Str} (h5 : σ[5]? = some (some (.int k))) (h6 : σ[j]? = some (some (.ref l))) (e : H l = some (.lst (ws.map V.str))) (ok : ∀ z ∈ ws, NameOk z)
    (t : ws ≠ [] → ∀ H1, Same H H1 → T H1) (f : ∀ H1, Same H H1 → F H1) :
    tAnd (tTest (tOp (rI0 fun i j => V.bl (decide (i < j))) (tVar 5) (tC (V.int 2)))) (tTest (tOp (rNeD K) (tVar j) (tLst tNil))) σ H (fun b H1 => if b = true then T H1 else F H1) := by
  by_cases g : k < 2
  · refine ⟨_, h5, _, _, rfl, rfl, _, rfl, tt_if (decide_eq_true g) ⟨_, h6, Nat.zero_le _, fun p np => ⟨_, _, .lst (.inl (.inl (same_new np _ _ _ e))) (strs_dp ws), .lst (.inl (.inl upd_same)) .nil, strs_shaped ok, by rfl, !ws.isEmpty, by rw [strs_eqv], ?_⟩⟩⟩
    cases ws with
    | nil => exact ff_if rfl (f _ (same_new np _))
    | cons a r => exact tt_if rfl (t (by simp) _ (same_new np _))
  · exact ⟨_, h5, _, _, rfl, rfl, _, rfl, ff_if (decide_eq_false g) (ff_if rfl (f _ fun _ _ h => h))⟩
theorem and_eq_read {K : PySem.W.Frag} {σ : L2.St} {H : Hp} {T F : Hp → Prop} {j : Nat} {k : Int} {l : Addr} {ws : List Str} (h5 : σ[5]? = some (some (.int k))) (h6 : σ[j]? = some (some (.ref l))) (e : H l = some (.lst (ws.map V.str))) (ok : ∀ z ∈ ws, NameOk z)
    (t : ws ≠ [] → ∀ H1, Same H H1 → T H1) (f : ∀ H1, Same H H1 → F H1) :
    tAnd (tTest (tOp rEq (tVar 5) (tC (V.int 2)))) (tTest (tOp (rNeD K) (tVar j) (tLst tNil))) σ H (fun b H1 => if b = true then T H1 else F H1) := by
  by_cases g : V.int k = V.int 2
  · refine ⟨_, h5, rfl, _, rfl, tt_if (decide_eq_true g) ⟨_, h6, Nat.zero_le _, fun p np => ⟨_, _, .lst (.inl (.inl (same_new np _ _ _ e))) (strs_dp ws), .lst (.inl (.inl upd_same)) .nil, strs_shaped ok, by rfl, !ws.isEmpty, by rw [strs_eqv], ?_⟩⟩⟩
    cases ws with
    | nil => exact ff_if rfl (f _ (same_new np _))
    | cons a r => exact tt_if rfl (t (by simp) _ (same_new np _))
  · exact ⟨_, h5, rfl, _, rfl, ff_if (decide_eq_false g) (ff_if rfl (f _ fun _ _ h => h))⟩
theorem Same.but {H H' : Hp} (s : Same H H') (b : Addr) : But b H H' := fun a o e _ => s a o e
theorem BagAt.same {H H' : Hp} {b c : Addr} (x : BagAt H b c) (s : Same H H') : BagAt H' b c := by
  obtain ⟨x1, y1, z1, ns, h1, h2, h3⟩ := x
  exact ⟨x1, y1, z1, ns, s _ _ h1, s _ _ h2, h3⟩
abbrev NRule : List Str := ["_law_bag_here", "_law_tables", "_law_name", "_law_table", "_law_fields_here", "_law_kind", "_law_links", "_law_tags", "_law_field", "_law_there"]
section
variable {P : Program} {w : World} {K : PySem.W.Frag} {mg : Str → Option Value} {base : Heap}
def spRule : Sp := fun vs H Q _ => ∃ (b c T : Addr) (tabs : Tabs) (n : Str), vs = [.ref b, .ref T, .str n] ∧ BagAt H b c ∧ DT H (· ≠ b) (.ref T) (tablesT tabs) ∧ TabsOk tabs ∧
  ∀ (p : Addr) (r : RK) (H' : Hp), DT H' (Aside b H) (.ref p) (ruleT (n, r)) → RKOk tabs r → H p = none → BagAt H' b c → But b H H' → Q (.ref p) H'
end
end Lw

set_option Elab.async false
set_option linter.all false
set_option maxRecDepth 100000
set_option maxHeartbeats 4000000
namespace Lw
open PySem PySem.Spec PyProof.Rows L2
theorem FV.dtA {H : Hp} {A : Addr → Prop} {ns : List Str} (T : ∀ a xs, H a = some (.tup xs) → A a) (W : ∀ a (ws : List Str), ws ≠ [] → H a = some (.lst (ws.map V.str)) → A a) {v : V} {f : Fld} (x : FV H ns v f) : DT H A v f.tree := by
  cases x with
  | mk a b c d e g => exact .tup a (T _ _ a) (.cons (.str _) (.cons (.lst b (W _ _ c b) (DTs.ofStrs _)) .nil))
  | lk a m => exact .tup a (T _ _ a) (.cons (.str _) (.cons (.str _) .nil))
  | tg a => exact .tup a (T _ _ a) (.cons (.str _) .nil)
theorem FsAt.dtA {H H' : Hp} {ns : List Str} {a b c : Addr} {fs : Flds} (x : FsAt H' ns a fs) (hb : BagAt H' b c) (B : But b H H') : DT H' (Aside b H) (.ref a) (fieldsT fs) := by
  obtain ⟨es, e, p⟩ := x.ex
  have nt : Aside b H a := by
    have nb : a ≠ b := fun n => by
      obtain ⟨x1, y1, z1, ns1, h1, _, _⟩ := hb
      rw [n, h1] at e
      cases e
    refine ⟨nb, fun ps h => ?_⟩
    rw [B _ _ h nb] at e
    cases e
  have few := x.few
  refine .dct e nt ?_ x.nd (by rw [List.length_map]; omega) ?_
  · rw [← paired_keys p]
    exact tkD_keys es
  · have h := tkD_vals es
    show DTs H' _ ((tkD es).map (·.2)) _
    rw [h]
    clear h e few x
    induction p with
    | nil => exact .nil
    | cons q _ ih => exact .cons (q.2.dtA (fun _ _ h => aside_tup hb B h) (fun _ _ w h => aside_txt hb B w h)) ih
def rulesT (rs : List Rul) : Tr := .lst (rs.map ruleT)
def partsT (tabs : Tabs) (rs : List Rul) : Tr := .tup [tablesT tabs, rulesT rs]
/-- the parts of a schema, as they are drawn -/
structure PartsOk (tabs : Tabs) (rs : List Rul) : Prop where
  tab : TabsOk tabs
  nd : (rs.map (·.1)).Nodup
  ok : ∀ r ∈ rs, NameOk r.1 ∧ RKOk tabs r.2
  few : rs.length ≤ 6
theorem list_ref {H : Hp} {A : Addr → Prop} {v : V} {r : Rul} (x : DT H A v (ruleT r)) : ∃ a, v = .ref a := by
  obtain ⟨n, k⟩ := r
  cases k with
  | link tb fd x y => obtain ⟨a, _, h, _⟩ := x.tupI; exact ⟨a, h⟩
  | uniq tb fd => obtain ⟨a, _, h, _⟩ := x.tupI; exact ⟨a, h⟩
  | one tb x => obtain ⟨a, _, h, _⟩ := x.tupI; exact ⟨a, h⟩
  | chk tb x => obtain ⟨a, _, h, _⟩ := x.tupI; exact ⟨a, h⟩
abbrev NParts : List Str := ["_law_bag_here", "_law_many_here", "_law_rare", "_law_rules", "_law_tables", "_law_found", "_law_names_here", "_law_table", "_law_name"]
section
variable {P : Program} {w : World} {K : PySem.W.Frag} {mg : Str → Option Value} {base : Heap}
def spParts : Sp := fun vs H Q _ => ∃ (b c : Addr) (many ra rl : Int), vs = [.ref b, .int many, .int ra, .int rl] ∧ BagAt H b c ∧ 0 < many ∧ many ≤ 3 ∧ 0 < ra ∧ ra ≤ 20 ∧ 0 ≤ rl ∧ rl ≤ 6 ∧
  ∀ (p : Addr) (tabs : Tabs) (rs : List Rul) (H' : Hp), DT H' (· ≠ b) (.ref p) (partsT tabs rs) → PartsOk tabs rs → (∀ p ∈ tabs, ∀ q ∈ p.2, q.2.w3) → H p = none → BagAt H' b c → But b H H' → Q (.ref p) H'
end
end Lw

set_option Elab.async false
set_option linter.all false
set_option maxRecDepth 100000
set_option maxHeartbeats 4000000
/-! sets of texts: made, put into, sorted -/
namespace Lw
open PySem PySem.Spec PyProof.Rows L2
open PySem.Froz (SD TxOk sObj addTx tailTx)
/-- at a the set of the texts l (each once, in no order that one may rely on) -/
structure SetS (P : Program) (w : World) (h : Heap) (a : Addr) (l : List Str) : Prop where
  ex : ∃ D : SD, h.get? a = some (sObj "set" D) ∧ TxOk P w D l ∧ Ris D.2.2.place.toList ∧ (w.params.followText "set-order" = true ∨ D.2.2.led = true)
  nd : l.Nodup
  few : l.length < scanBound
/-- the payload behind an add rises, too -/
theorem add_ris {D : SD} {hs : Int} {v : Value} {F : Prop} (r : Ris D.2.2.place.toList) (b : F ∨ D.2.2.led = true) : Ris (addTx hs v D).2.2.place.toList ∧ (F ∨ (addTx hs v D).2.2.led = true) := by
  obtain ⟨es, ep, t⟩ := D
  have r1 := layNew_ris t es hs v r
  have l1 := layNew_led t es hs v
  have b1 : F ∨ (layNew t es hs v).2.1.led = true := b.imp id fun z => l1.trans z
  have key : ∀ (t2 : SetTable) (es1 : Array (Int × Value)) (wd : Bool), Ris t2.place.toList → (F ∨ t2.led = true) → Ris (tailTx ep es1 t2 wd).2.2.place.toList ∧ (F ∨ (tailTx ep es1 t2 wd).2.2.led = true) := by
    intro t2 es1 wd r2 b2
    unfold tailTx
    by_cases c : (!wd && t2.tooFull) = true
    · rw [if_pos c]
      exact ⟨relayAll_ris t2 es1 _, b2.imp id fun z => (relayAll_led t2 es1 _).trans z⟩
    · rw [if_neg c]
      exact ⟨r2, b2⟩
  show Ris (tailTx ep _ _ _).2.2.place.toList ∧ (F ∨ (tailTx ep _ _ _).2.2.led = true)
  refine key _ _ _ ?_ ?_
  · split
    · exact r1
    · exact r1
  · split
    · exact b1
    · exact b1
section
variable {P : Program} {w : World} {A : Around} {E : Value → Shared → Prop} {s : Shared}
theorem setS_fresh {h : Heap} : SetS P w (h.push { cls := .type "set", dict := none, data := .set #[] 0 (.fresh 0 0 (!w.params.followText "set-order")) }) h.objs.size [] :=
  ⟨⟨(#[], 0, .fresh 0 0 (!w.params.followText "set-order")), Heap.get?_push_size _ rfl, .nil rfl, List.Pairwise.nil, by
    show _ ∨ (!w.params.followText "set-order") = true
    cases w.params.followText "set-order"
    · exact .inr rfl
    · exact .inl rfl⟩, List.nodup_nil, by decide⟩
theorem SetS.at {h h' : Heap} {a : Addr} {l : List Str} (x : SetS P w h a l) (k : ∀ o, h.get? a = some o → h'.get? a = some o) : SetS P w h' a l := by
  obtain ⟨⟨D, e, r⟩, n, f⟩ := x
  exact ⟨⟨D, k _ e, r⟩, n, f⟩
/-- a text that is there is put in once more -/
theorem add_there {a : Addr} {D : SD} {l : List Str} {k : Str} {u : Tok} {Q : Bool → Shared → Prop} (ho : s.heap.get? a = some (sObj "set" D)) (F : TxOk P w D l) (hk : k ∈ l) (hb : l.length < scanBound) (h : Q false s) : wpAny (model P w) A (setAddHashed a (.str k u) (hashStr w k)) Q E s := by
  obtain ⟨es, ep, t⟩ := D
  have szl : es.size = l.length := F.sz
  have few : es.size < scanBound := by omega
  have itself : (strKind P w).is k (.str k u) = true := PySem.Froz.is_str k u
  unfold setAddHashed setAddHashedIn
  refine wpAny_holding (wpAny_bind (wpAny_setState_of ho (show (sObj "set" (es, ep, t)).data = .set es ep t from rfl) F.fit ?_))
  dsimp only
  rw [byScan_of rfl few F.el]
  simp only [↓reduceIte]
  unfold setAddByScan
  refine wpAny_bind (wpAny_bind (wpAny_rule (wpAny_bind (wpAny_setScan_of (knd := strKind P w) (k := k) itself ho rfl F.fit F.el ?_))))
  cases hf : List.findIdx? (fun e => (strKind P w).is k e.2) es.toList with
  | some j => exact wpAny_pure (wpAny_pure h)
  | none =>
    obtain ⟨e, he, q⟩ := (F.mem k).mp hk
    have c := List.findIdx?_eq_none_iff.mp hf e he
    rw [q] at c
    cases c
/-- found.add(k) -/
theorem setS_add {a : Addr} {l : List Str} {k : Str} {tk : Tok} {Q : Value → Shared → Prop} (R : SetS P w s.heap a l) (room : l.length + 1 < scanBound)
    (hQ : ∀ h', Heap.SameBut a s.heap h' → SetS P w h' a (if k ∈ l then l else k :: l) → Q .none { s with heap := h', toks := s.toks + 1 }) : wpAny (model P w) A (call (.builtin "set.add") [.ref a, .str k tk]) Q E s := by
  obtain ⟨⟨D, at_a, G, ris, led⟩, nd, few⟩ := R
  refine wpAny_call_entry F.slot_set_add ⟨_, at_a, rfl⟩ F.entry_set_add ?_ (F.args_set_add_2 _ _)
  unfold Builtin.«set.add» Builtin.Frozenset.oneOther
  simp only [List.isEmpty_nil, bind_assoc]
  unfold Builtin.Frozenset.addrOf setAdd
  refine wpAny_bind (wpAny_pure ?_)
  try dsimp only
  refine wpAny_bind (wpAny_pure ?_)
  try dsimp only
  refine wpAny_bind (wpAny_holding (wpAny_bind ((strKind P w).pyHash (k := k) (PySem.Froz.is_str _ _) ?_)))
  by_cases hk : k ∈ l
  · refine add_there (s := { s with toks := s.toks + 1 }) at_a G hk few ?_
    have q := hQ s.heap (Heap.SameBut.refl a s.heap) (by rw [if_pos hk]; exact ⟨⟨D, at_a, G, ris, led⟩, nd, few⟩)
    exact wpAny_pure ⟨_, rfl, q⟩
  · refine PySem.Froz.add_x (s := { s with toks := s.toks + 1 }) at_a G hk room ?_
    obtain ⟨r2, b2⟩ := add_ris (hs := hashStr w k) (v := .str k tk) ris led
    have q := hQ (s.heap.update a fun _ => sObj "set" (addTx (hashStr w k) (.str k tk) D)) (Heap.SameBut.update s.heap a _)
      (by rw [if_neg hk]; exact ⟨⟨_, PySem.Froz.get_upd _ at_a rfl, PySem.Froz.add_ok tk G, r2, b2⟩, List.nodup_cons.mpr ⟨hk, nd⟩, room⟩)
    exact wpAny_pure ⟨_, rfl, q⟩
/-! ### the members, in order -/
theorem perm_of {l ks : List Str} (nd : l.Nodup) (sub : ∀ x ∈ l, x ∈ ks) (len : ks.length = l.length) : l.Perm ks := by
  induction l generalizing ks with
  | nil => rw [List.length_nil] at len; rw [List.length_eq_zero_iff.mp len]
  | cons x r ih =>
    obtain ⟨s, t, rfl⟩ := List.append_of_mem (sub x List.mem_cons_self)
    obtain ⟨nx, nr⟩ := List.nodup_cons.mp nd
    have sub' : ∀ y ∈ r, y ∈ s ++ t := fun y hy => by
      rcases List.mem_append.mp (sub y (List.mem_cons_of_mem _ hy)) with z | z
      · exact List.mem_append_left _ z
      · rcases List.mem_cons.mp z with z | z
        · exact absurd (z ▸ hy) nx
        · exact List.mem_append_right _ z
    have len' : (s ++ t).length = r.length := by
      simp only [List.length_append, List.length_cons] at len ⊢
      omega
    exact ((ih nr sub' len').cons x).trans List.perm_middle.symm
def txtOf : Value → Str
  | .str k _ => k
  | _ => Str.empty
theorem txts_of : ∀ (l : List Value), (∀ v ∈ l, ∃ k tk, v = Value.str k tk) → StrsAre l (l.map txtOf)
  | [], _ => .nil
  | v :: l, h => by
    obtain ⟨k, tk, rfl⟩ := h v List.mem_cons_self
    exact .cons k tk (txts_of l fun u hu => h u (List.mem_cons_of_mem _ hu))
theorem is_txt {k : Str} {v : Value} (h : (strKind P w).is k v = true) : ∃ tk, v = .str k tk := by
  have h : Value.isStrOf k v = true := h
  cases v with
  | str x u =>
    have e : x = k := by simpa [Value.isStrOf] using h
    exact ⟨u, by rw [e]⟩
  | _ => cases h
theorem txts_perm {D : SD} {l : List Str} (G : TxOk P w D l) (nd : l.Nodup) : (∀ v ∈ D.1.toList.map (·.2), ∃ k tk, v = Value.str k tk) ∧ (D.1.toList.map fun e => txtOf e.2).Perm l := by
  refine ⟨fun v hv => ?_, (perm_of nd (fun x hx => ?_) ?_).symm⟩
  · obtain ⟨e, he, rfl⟩ := List.mem_map.mp hv
    obtain ⟨⟨k, q, _⟩, _⟩ := G.el e he
    obtain ⟨tk, z⟩ := is_txt q
    exact ⟨k, tk, z⟩
  · obtain ⟨e, he, q⟩ := (G.mem x).mp hx
    obtain ⟨tk, z⟩ := is_txt q
    exact List.mem_map.mpr ⟨e, he, by rw [z]; rfl⟩
  · rw [List.length_map, Array.length_toList]
    exact G.sz
theorem sorted_setS {a : Addr} {l : List Str} {Q : Value → Shared → Prop} (R : SetS P w s.heap a l) (hh : A.handled = none) (h64 : l.length < 64)
    (hQ : ∀ s' p (out : Array Value) (c : Nat) (ys : List Str), (∀ b o, s.heap.get? b = some o → s'.heap.get? b = some o) → s'.gens = s.gens → s'.os = s.os → s.heap.objs.size ≤ p →
      s'.heap.get? p = some (seqObj "list" out c) → StrsAre out.toList ys → ys.Perm l → sortedS ys = true → Q (.ref p) s') : wpAny (model P w) A (call (.builtin "sorted") [.ref a]) Q E s := by
  obtain ⟨⟨⟨es, ep, t⟩, at_a, G, ris, led⟩, nd, few⟩ := R
  obtain ⟨allT, pl⟩ := txts_perm G nd
  have szl : es.size = l.length := G.sz
  refine Calls.call_function_entry kind_sorted plain_sorted entry_sorted (args_sorted1 _) ?_
  unfold Builtin.«sorted»
  refine wpAny_bind (m := checkCount "sorted" 1 1 _) (wpAny_pure ?_)
  refine wpAny_bind (collect_set (A := A.in1) hh ⟨_, at_a, rfl, rfl⟩ G.fit (by show es.size < scanBound; omega) ris led fun s1 vs k1 z1 g1 o1 pm => ?_)
  have lv : vs.length = l.length := by rw [pm.length_eq, List.length_map, Array.length_toList]; exact szl
  have ts : StrsAre vs (vs.map txtOf) := txts_of vs fun v hv => allT v (pm.mem_iff.mp hv)
  have pv : (vs.map txtOf).Perm l := by
    have q := pm.map txtOf
    rw [List.map_map] at q
    exact q.trans pl
  refine wpAny_bind (wpAny_newList ?_ (by rw [lv, sizeLine_eq]; omega))
  have at_L : (s1.heap.push (seqObj "list" vs.toArray 0)).get? s1.heap.objs.size = some (seqObj "list" vs.toArray 0) := Heap.get?_push_size _ rfl
  refine wpAny_bind (wpAny_holding (wpAny_call_entry slot_list_sort ⟨_, at_L, rfl⟩ entry_list_sort (list_sort_treeK strKind_oneLt at_L ts.keysOf (fun v₁ v₂ rest e => keyKind_strs (by rw [← e]; exact ts)) (by rw [lv]; exact h64) fun st' hp hs => ⟨_, rfl, ?_⟩) (args_list_sort _)))
  obtain ⟨ys, y1, y2, y3⟩ := sorted_out_str ts hp hs
  obtain ⟨c, hc⟩ := sortedHeap_at (vs := vs) (out := (arrOf st').map (·.2)) at_L
  refine wpAny_pure ⟨_, rfl, hQ _ s1.heap.objs.size _ c ys (fun b u e => ?_) g1 o1 z1 hc y1 (y2.trans pv) y3⟩
  have q := k1 b u e
  have lt := Heap.lt_size q
  show (sortedHeap (s1.heap.push (seqObj "list" vs.toArray 0)) s1.heap.objs.size vs _).get? b = some u
  rw [sortedHeap_old (Nat.ne_of_lt lt) (by rw [size_push']; exact Nat.lt_succ_of_lt lt)]
  exact Heap.get?_push_of_some _ q
end
end Lw

set_option Elab.async false
set_option linter.all false
set_option maxRecDepth 100000
set_option maxHeartbeats 4000000
/-! sets of texts within the heap of a proof: the comprehension, sorted -/
namespace Lw
open PySem PySem.Spec PySem.W PySem.Calls PyProof.Rows L2
def SetSO (P : Program) (w : World) (a : Addr) (l : List Str) : HO := .ext fun h => SetS P w h a l
section
variable {X : Cx} {pl : List (Addr × Obj)} {σ : L2.St} {H : Hp} {s : Shared}
theorem setS_ok {P : Program} {w : World} {h : Heap} {a : Addr} {l : List Str} (R : SetS P w h a l) : ObjOk P w H h a (SetSO P w a l) := by
  obtain ⟨D, e, _⟩ := R.ex
  exact ⟨R, ⟨_, e⟩, fun h1 h2 p k => SetS.at p k⟩
theorem setS_get {a : Addr} {l : List Str} (J : Inv X pl σ H s) (ha : H a = some (SetSO X.prog X.w a l)) : SetS X.prog X.w s.heap a l := (J.hok a _ ha).1
/-- sorted(a set of texts) -/
def rSortedSS (P : Program) (w : World) : List V → Hp → VK → Prop := fun vs H Q => ∃ (a : Addr) (l : List Str), vs = [.ref a] ∧ H a = some (SetSO P w a l) ∧ l.length < 64 ∧ ∀ (ys : List Str) (p : Addr), ys.Perm l → sortedS ys = true → H p = none → Q (.ref p) (upd H p (.lst (ys.map V.str)))
theorem cr_sortedSS (hc : X.calm = true) : CallR X (.builtin "sorted") (rSortedSS X.prog X.w) := by
  intro pl s σ H vs us Q J r h
  obtain ⟨a, l, rfl, ha, h64, q⟩ := h
  rw [Vals.ref1 r]
  refine sorted_setS (setS_get J ha) (J.ok.hd hc) h64 fun s' p out c ys k g o new at_p ts py so => ?_
  have len : (ys.map V.str).length ≤ sizeLine := by rw [List.length_map, py.length_eq, sizeLine_eq]; omega
  have free : H p = none := J.hok.fresh new
  obtain ⟨h', g', d', t', o'⟩ := s'
  have J' : Inv X pl σ (upd H p (.lst (ys.map V.str))) ⟨h', g', d', t', o'⟩ :=
    J.call' (ch := []) o (Un.laid k new free) (J.hok.laid k new ⟨len, out.toList, c, vals_of_strs ts, by rw [Array.toArray_toList]; exact at_p⟩) (by show AllBare g'; rw [show g' = s.gens from g]; exact J.bare) (fun _ z => nomatch z)
  exact ⟨.ref p, _, J', rfl, q ys p py so free⟩
/-- D.add(x) within the comprehension -/
theorem addS_ok {E : Value → Shared → Prop} {D : Addr} {l : List Str} {k : Str} {tk : Tok} {Q : Value → Shared → Prop} (J : Inv X pl σ H s) (hD : H D = some (SetSO X.prog X.w D l)) (room : l.length + 1 < scanBound)
    (h : ∀ s', Inv X pl σ (upd H D (SetSO X.prog X.w D (if k ∈ l then l else k :: l))) s' → Q .none s') : wpAny (model X.prog X.w) X.A (call (.builtin "set.add") [.ref D, .str k tk]) Q E s := by
  refine setS_add (setS_get J hD) room fun h' sb new => ?_
  obtain ⟨D2, e, _⟩ := id new.ex
  exact h _ (J.write (e := D) (t' := s.toks + 1) (by rw [hD]; trivial) (.inl rfl) (fun b u hb hu => (sb.2 b hb).trans hu) ⟨_, e⟩ (setS_ok new))
/-- {elt for target in iter}, elt a text -/
def tScS (P : Program) (w : World) (wi : TI) (g : TG) (te : TE) (vs : List Nat) : TE := fun σ H Q => wi σ H fun J H1 => ∀ D, H1 D = none → ∃ W : Nat → Nat → Hp → Prop, (∃ m, W 0 m (upd H1 D (SetSO P w D []))) ∧ ∀ i m H, W i m H →
  (J.stop i H ∧ Q (.ref D) H) ∨ (J.go i H ∧ ∃ Nx : Hp → Prop, (∀ H', Nx H' → ∃ m', m' < m ∧ W (i + 1) m' H') ∧ ∀ x H', J.yld i H x H' → g x (wipe σ vs) H' fun σ2 H2 => wipe σ2 vs = wipe σ vs ∧
    te σ2 H2 fun y H4 => ∃ (k : Str) (l : List Str), y = .str k ∧ H4 D = some (SetSO P w D l) ∧ l.length + 1 < scanBound ∧ Nx (upd H4 D (SetSO P w D (if k ∈ l then l else k :: l))))
theorem pe_scS {elt tg iter : Expr} {scope : Scope} {own : List (Str × Nat)} {pos : Pos} {wi : TI} {g : TG} {te : TE} (calm : X.calm = true) (nd : X.N.Nodup) (src : PI X tg iter wi) (ok : BlkOk X.N X.env.scope scope own)
    (rg : ∀ (s : Shared) (H : Hp) (C : Addr) (cl : List (Str × Addr)) (fp : List Addr), PG (X.blk s H scope (compEnvC scope cl C X.env) fp) tg g)
    (re : ∀ (s : Shared) (H : Hp) (C : Addr) (cl : List (Str × Addr)) (fp : List Addr), PE (X.blk s H scope (compEnvC scope cl C X.env) fp) elt te) (plain : ∀ x, foldedSetIterable iter X.env x = pure x := by intro _; rfl) :
    PE X (.SetComp elt [⟨tg, iter, [], 0⟩] scope pos) (tScS X.prog X.w wi g te (own.map (·.2))) := by
  refine ⟨fun pl s0 σ H Q J0 want => ?_⟩
  rw [PpSet.eval_SetComp]
  have cellsFree : ∀ y ∈ scope.names, y.2 = .free → ∃ c, X.env.cells.lookup y.1 = some c := by
    intro y hy e
    exact (ok.free y hy e).elim (fun k => J0.ok.has _ (.inl k)) (fun k => J0.ok.has _ (.inr k))
  refine wpAny_comprehension_free (use := none) rfl plain (closure_ok cellsFree) ok.kind (fun y hy e => by rw [ok.uniq y hy, e])
    (thn (src.run pl s0 σ H _ J0 want) fun xv s1 got => thn got fun itv s2 got2 => ?_)
  obtain ⟨it, fp, tn, It1, H2, rfl, J2, T, tn2, fo2, rest⟩ := got2
  refine PpSet.newSet_ok (newEnv_comp ?_)
  generalize eL : s2.heap.objs.size = L
  have freeL : H2 L = none := J2.hok.fresh (Nat.le_of_eq eL)
  obtain ⟨W, ⟨m0, w0⟩, turn⟩ := rest L freeL
  generalize e3 : ({ s2 with heap := s2.heap.push { cls := .type "set", dict := none, data := .set #[] 0 (.fresh 0 0 (!X.w.params.followText "set-order")) } } : Shared) = s3
  have hp3 : s3.heap = s2.heap.push { cls := .type "set", dict := none, data := .set #[] 0 (.fresh 0 0 (!X.w.params.followText "set-order")) } := by rw [← e3]
  have J3 : Inv X pl σ (upd H2 L (SetSO X.prog X.w L [])) s3 := by
    rw [← e3]
    refine J2.laid (t' := s2.toks) (fun b o q => Heap.get?_push_of_some _ q) (Nat.le_of_eq eL) ?_
    rw [← eL]
    exact setS_ok setS_fresh
  have fo3 : ∀ b ∈ fp, FpOk X pl (upd H2 L (SetSO X.prog X.w L [])) b ∧ b < s3.heap.objs.size := by
    intro b hb
    obtain ⟨o, eo, _⟩ := T.obj _ _ tn2 b hb
    have lt := Heap.lt_size eo
    refine ⟨⟨?_, (fo2 b hb).2⟩, by rw [hp3, Heap.size_push]; exact Nat.lt_succ_of_lt lt⟩
    rw [upd_ne (by rw [← eL]; exact Nat.ne_of_lt lt)]
    exact (fo2 b hb).1
  have tn3 : tn 0 s3.heap := T.keep _ _ _ tn2 fun b _ o eo => by rw [hp3]; exact Heap.get?_push_of_some _ eo
  have J4 := block_start J3 ok nd fo3
  have ug := rg s3 (upd H2 L (SetSO X.prog X.w L [])) s3.heap.objs.size (cellsFrom (s3.heap.objs.size + 1) scope.names (cloFrom X.env.cells scope.names [])) fp
  have ue := re s3 (upd H2 L (SetSO X.prog X.w L [])) s3.heap.objs.size (cellsFrom (s3.heap.objs.size + 1) scope.names (cloFrom X.env.cells scope.names [])) fp
  show codeAny _ _ (.compStart (.SetComp elt [⟨tg, iter, [], 0⟩] scope pos) 0 (.ref it) (.ref L) (compEnvC scope (cellsFrom (s3.heap.objs.size + 1) scope.names (cloFrom X.env.cells scope.names [])) s3.heap.objs.size X.env)) (compPost (model X.prog X.w) X.A X.xe none (EP X pl σ Q) (.ref L) s3.heap.objs.size) { s3 with heap := pushCells (s3.heap.push { cls := .type "dict", data := .dict #[] }) scope.names }
  have none3 : ∀ b ∈ fp, (upd H2 L (SetSO X.prog X.w L [])) b = none := fun b hb => (fo3 b hb).1.1
  generalize ece : compEnvC scope (cellsFrom (s3.heap.objs.size + 1) scope.names (cloFrom X.env.cells scope.names [])) s3.heap.objs.size X.env = ce at J4 ug ue ⊢
  have locC : ce.locals = s3.heap.objs.size := by subst ece; rfl
  generalize eH3 : upd H2 L (SetSO X.prog X.w L []) = H3 at J3 J4 ug ue w0 none3 fo3
  generalize e4 : ({ s3 with heap := pushCells (s3.heap.push { cls := .type "dict", data := .dict #[] }) scope.names } : Shared) = s4 at J4 ⊢
  have tn4 : tn 0 s4.heap := T.keep _ _ _ tn3 fun b _ o eo => by rw [← e4]; exact pushCells_keeps _ _ _ _ (Heap.get?_push_of_some _ eo)
  have okB : ∀ {σ' : L2.St} {H' : Hp} {s' : Shared}, Inv (X.blk s3 H3 scope ce fp) [] σ' H' s' → (∀ b ∈ fp, H' b = none) → ∀ b ∈ fp, FpOk (X.blk s3 H3 scope ce fp) [] H' b := by
    intro σ' H' s' J fr b hb
    exact ⟨fr b hb, (J.ok.exf b hb).1, J.ok.exfs b hb, .inl hb, fun x c e => (J.ok.exf b hb).2 x c e, fun p hp => absurd (show p ∈ ([] : List (Addr × Obj)) ++ [] from hp) (by simp)⟩
  have loop : codeAny (model X.prog X.w) X.A (.compLoop (.SetComp elt [⟨tg, iter, [], 0⟩] scope pos) 0 (.ref it) (.ref L) ce) (compPost (model X.prog X.w) X.A X.xe none (EP X pl σ Q) (.ref L) s3.heap.objs.size) s4 := by
    refine PpSet.compLoopS_any (fun n s' => ∃ i H', Inv (X.blk s3 H3 scope ce fp) [] (wipe σ (own.map (·.2))) H' s' ∧ tn i s'.heap ∧ (∀ b ∈ fp, H' b = none) ∧ W i n H') ?_ m0 ⟨0, H3, J4, tn4, none3, w0⟩
    rintro n s5 ⟨i, H5, J5, tn5, fr5, w5⟩
    rcases turn i n H5 w5 with ⟨stop, qq⟩ | ⟨go, Nx, hNx, step⟩
    · refine thnF (T.done (X.blk s3 H3 scope ce fp) rfl rfl rfl calm i [] s5 _ H5 (fun _ _ => False) J5 (okB J5 fr5) tn5 stop) fun r s6 got6 => ?_
      obtain ⟨rfl, J6⟩ := got6
      have J7 : Inv X pl σ H5 s6 := J3.call' (ch := fp) J6.os J6.base J6.hok J6.bare fun b hb => ⟨(fo3 b hb).1.2.2.2.1, (fo3 b hb).1.2.1, (fo3 b hb).1.2.2.2.2.1, (fo3 b hb).1.2.2.2.2.2⟩
      have frC : H5 s3.heap.objs.size = none := locC ▸ (show H5 ce.locals = none from J6.free)
      obtain ⟨m, nsC, _⟩ := J6.loc
      have nsC : s6.heap.Ns s3.heap.objs.size m := locC ▸ (show s6.heap.Ns ce.locals m from nsC)
      obtain ⟨f0, f1, f2, f3, f4, f5⟩ := J3.fpOk (Nat.le_refl _) frC
      exact ⟨m, nsC, fun h'' sb => ⟨.ref L, H5, J7.turned (t' := s6.toks) (fun b o hb e => (sb.2 b hb).trans e) f0 f1 f3 f4 f5, rfl, qq⟩⟩
    · refine thnF (T.item (X.blk s3 H3 scope ce fp) rfl rfl rfl calm i [] s5 _ H5 (fun _ _ => False) J5 (okB J5 fr5) tn5 go) fun r s6 got6 => ?_
      obtain ⟨u, rfl, got6⟩ := got6
      refine thnF got6 fun _ s7 got7 => ?_
      obtain ⟨x, H7, J7, r7, y7, tn7, fr7⟩ := got7
      have J7p := J7.pinned (okB J7 fr7) (T.obj _ _ tn7)
      refine thnF (ug.run _ s7 _ H7 x u _ J7p r7 (step x H7 y7)) fun _ s8 got8 => ?_
      obtain ⟨σ8, H8, J8, ew, want8⟩ := got8
      have fin : ∀ {s' : Shared} {H' : Hp}, Inv (X.blk s3 H3 scope ce fp) ([] ++ pinsAt fp s7.heap) σ8 H' s' → Nx H' →
          ∃ m, m < n ∧ ∃ i H', Inv (X.blk s3 H3 scope ce fp) [] (wipe σ (own.map (·.2))) H' s' ∧ tn i s'.heap ∧ (∀ b ∈ fp, H' b = none) ∧ W i m H' := by
        intro s' H' J11 nx
        obtain ⟨m', lt, w'⟩ := hNx _ nx
        have pinned : ∀ b ∈ fp, ∀ o, s7.heap.get? b = some o → s'.heap.get? b = some o ∧ H' b = none := by
          intro b hb o eo
          obtain ⟨z1, z2, _⟩ := J11.pin (b, o) (List.mem_append_right _ (List.mem_append_right _ (mem_pinsAt hb eo)))
          exact ⟨z1, z2⟩
        have el : (wipe σ (own.map (·.2))).length = σ8.length := by rw [← ew, wipe_length]
        refine ⟨m', lt, i + 1, _, (J11.unpinned (pins := [])).weak el (fun j v ev => ?_), T.keep _ _ _ tn7 fun b hb o eo => (pinned b hb o eo).1, fun b hb => ?_, w'⟩
        · rw [← ew] at ev
          exact (wipe_some ev).1
        · obtain ⟨o, eo, _⟩ := T.obj _ _ tn7 b hb
          exact (pinned b hb o eo).2
      refine thnF ((pts_nil (X := X.blk s3 H3 scope ce fp)).run _ s8 σ8 H8 (fun b H9 => if b = true then te σ8 H9 _ else False) J8 want8) fun b s9 got9 => ?_
      obtain ⟨H9, J9, want9⟩ := got9
      cases b with
      | false => exact absurd want9 (by simp)
      | true =>
        simp only [if_true] at want9 ⊢
        refine thnF (ue.run _ s9 σ8 H9 _ J9 want9) fun z s10 got10 => ?_
        obtain ⟨yv, H10, J10, r10, k, l, rfl, eL10, lt10, nx⟩ := got10
        obtain ⟨tk, rfl⟩ := r10
        exact addS_ok (X := X.blk s3 H3 scope ce fp) J10 eL10 lt10 fun s11 J11 => fin J11 nx
  exact PpSet.codeAny_compStart_set loop (T.self X.A 0 _ _ _ tn4 loop)
end
end Lw

set_option Elab.async false
set_option linter.all false
set_option maxRecDepth 100000
set_option maxHeartbeats 4000000
/-! set(a list of texts) -/
namespace Lw
open PySem PySem.Spec PyProof.Rows L2
abbrev bareSet (w : World) : Obj := { cls := .type "set", dict := none, data := .set #[] 0 (.fresh 0 0 (!w.params.followText "set-order")) }
/-- put in, unless it is there -/
def ins (l : List Str) (k : Str) : List Str := if k ∈ l then l else k :: l
/-- the texts of a list, each once -/
def once (ks : List Str) : List Str := ks.foldl ins []
theorem once_snoc (ks : List Str) (k : Str) : once (ks ++ [k]) = ins (once ks) k := by
  unfold once
  rw [List.foldl_append]
  rfl
theorem ins_len (l : List Str) (k : Str) : (ins l k).length ≤ l.length + 1 := by
  unfold ins
  split
  · exact Nat.le_succ _
  · exact Nat.le_refl _
theorem once_go (ks : List Str) : ∀ l : List Str, (ks.foldl ins l).length ≤ l.length + ks.length := by
  induction ks with
  | nil => intro l; exact Nat.le_refl _
  | cons k r ih =>
    intro l
    have h1 := ih (ins l k)
    have h2 := ins_len l k
    show (r.foldl ins (ins l k)).length ≤ l.length + (r.length + 1)
    omega
theorem once_len (ks : List Str) : (once ks).length ≤ ks.length := by
  have h := once_go ks []
  rw [List.length_nil, Nat.zero_add] at h
  exact h
theorem mem_ins {l : List Str} {k x : Str} : x ∈ ins l k ↔ x = k ∨ x ∈ l := by
  unfold ins
  split
  · rename_i h
    exact ⟨.inr, fun z => z.elim (fun e => e ▸ h) id⟩
  · exact List.mem_cons
theorem mem_go (ks : List Str) : ∀ (l : List Str) (x : Str), x ∈ ks.foldl ins l ↔ x ∈ l ∨ x ∈ ks := by
  induction ks with
  | nil => intro l x; simp
  | cons k r ih =>
    intro l x
    show x ∈ r.foldl ins (ins l k) ↔ _
    rw [ih, mem_ins, List.mem_cons]
    constructor
    · rintro ((h | h) | h)
      · exact .inr (.inl h)
      · exact .inl h
      · exact .inr (.inr h)
    · rintro (h | h | h)
      · exact .inl (.inr h)
      · exact .inl (.inl h)
      · exact .inr h
theorem mem_once {ks : List Str} {x : Str} : x ∈ once ks ↔ x ∈ ks := by
  have h := mem_go ks [] x
  rw [show (x ∈ ([] : List Str)) = False from by simp] at h
  rw [show (False ∨ x ∈ ks) = (x ∈ ks) from false_or _] at h
  exact h
section
variable {P : Program} {w : World} {A : Around} {E : Value → Shared → Prop} {s : Shared}
theorem bare_at {h : Heap} {a : Addr} (e : h.get? a = some (bareSet w)) : SetS P w h a [] :=
  ⟨⟨(#[], 0, .fresh 0 0 (!w.params.followText "set-order")), e, .nil rfl, List.Pairwise.nil, by
    show _ ∨ (!w.params.followText "set-order") = true
    cases w.params.followText "set-order"
    · exact .inr rfl
    · exact .inl rfl⟩, List.nodup_nil, by decide⟩
/-- one more, its hash told -/
theorem setS_put {a : Addr} {l : List Str} {k : Str} {tk : Tok} {Q : Bool → Shared → Prop} (R : SetS P w s.heap a l) (room : l.length + 1 < scanBound)
    (hQ : ∀ b h', Heap.SameBut a s.heap h' → SetS P w h' a (ins l k) → Q b { s with heap := h' }) : wpAny (model P w) A (setAddHashed a (.str k tk) (hashStr w k)) Q E s := by
  obtain ⟨⟨D, at_a, G, ris, led⟩, nd, few⟩ := R
  by_cases hk : k ∈ l
  · exact add_there at_a G hk few (hQ _ s.heap (Heap.SameBut.refl a s.heap) (by unfold ins; rw [if_pos hk]; exact ⟨⟨D, at_a, G, ris, led⟩, nd, few⟩))
  · obtain ⟨r2, b2⟩ := add_ris (hs := hashStr w k) (v := .str k tk) ris led
    exact PySem.Froz.add_x at_a G hk room (hQ _ _ (Heap.SameBut.update s.heap a _)
      (by unfold ins; rw [if_neg hk]; exact ⟨⟨_, PySem.Froz.get_upd _ at_a rfl, PySem.Froz.add_ok tk G, r2, b2⟩, List.nodup_cons.mpr ⟨hk, nd⟩, room⟩))
theorem put_all {I S : Addr} {fp wr : List Addr} {G : Array GenState → Array GenState → Prop} {n : Nat} {Pv : Nat → Value → Prop} {St : Nat → Shared → Prop} {R : Result → Shared → Prop} (Wk : WalksS P w A.in1 I fp wr G n Pv St) (out : S ∉ fp) (ks : List Str)
    (hn : n = ks.length) (room : ks.length + 1 < scanBound) (what : ∀ i v, Pv i v → ∃ k t, ks[i]? = some k ∧ v = .str k t) : ∀ (left i : Nat) (s : Shared), n - i = left → i ≤ n → St i s → SetS P w s.heap S (once (ks.take i)) →
      (∀ s', Moved (S :: wr) G s s' → SetS P w s'.heap S (once ks) → R (.ok (.ret .none)) s') → codeAny (model P w) A (.builtin "set.update.loop" ⟨[.ref S, .ref I], []⟩) R s := by
  have nwr : S ∉ wr := fun h => out (Wk.sub _ h)
  have up : ∀ b ∈ wr, b ∈ S :: wr := fun b hb => List.mem_cons_of_mem _ hb
  intro left
  induction left with
  | zero =>
    intro i s hl hi st has fin
    obtain rfl : i = n := by omega
    refine codeAny_builtin F.entry_set_update_loop ?_
    rw [Around.under_plainId F.plain_set_update_loop _]
    show wpAny _ A.in1 (pyNext (.ref I) >>= _) _ _ s
    refine wpAny_bind (Wk.done s _ _ st fun s' mv => ?_)
    rw [List.take_of_length_le (by omega)] at has
    exact wpAny_pure (fin s' (mv.mono up) (has.at fun o e => mv.heap S o nwr e))
  | succ left ih =>
    intro i s hl hi st has fin
    have lt : i < n := by omega
    refine codeAny_builtin F.entry_set_update_loop ?_
    rw [Around.under_plainId F.plain_set_update_loop _]
    show wpAny _ A.in1 (pyNext (.ref I) >>= _) _ _ s
    refine wpAny_bind (Wk.item i s _ _ lt st fun v s' pv st' mv => ?_)
    obtain ⟨z, t, hz, rfl⟩ := what i v pv
    have has' : SetS P w s'.heap S (once (ks.take i)) := has.at fun o e => mv.heap S o nwr e
    have lenT : (once (ks.take i)).length ≤ i := Nat.le_trans (once_len _) (by rw [List.length_take]; omega)
    show wpAny _ A.in1 (holding [Value.str z t] (setAdd S (.str z t)) >>= _) _ _ s'
    refine wpAny_bind (wpAny_holding ?_)
    unfold setAdd
    refine wpAny_holding (wpAny_bind ((strKind P w).pyHash (k := z) (PySem.Froz.is_str _ _) ?_))
    refine setS_put (s := { s' with toks := s'.toks + 1 }) has' (by omega) fun b h' sb has2 => ?_
    rw [← once_snoc, show ks.take i ++ [z] = ks.take (i + 1) from by rw [List.take_add_one, hz]; rfl] at has2
    refine wpAny_pure ⟨plainId_quiet F.plain_set_update_loop _, ih (i + 1) _ (by omega) lt (Wk.frame _ s' _ _ st' (Nat.le_succ _) fun b hb o e => ?_) has2 fun s'' mv2 has3 => ?_⟩
    · exact (sb.2 b fun h : b = S => out (h ▸ hb)).trans e
    · exact fin s'' (Moved.trans Wk.gtrans ((mv.mono up).then_heap (Nat.le_succ _) fun b o hb e => (sb.2 b fun h : b = S => hb (h ▸ List.mem_cons_self)).trans e) mv2) has3
set_option maxHeartbeats 6400000 in
/-- set(xs), xs a list of texts -/
theorem call_set_txts {L : Addr} {items : Array Value} (ks : List Str) {Q : Value → Shared → Prop} (calm : A.handled = none) (isL : s.heap.IsList L items) (ts : StrsAre items.toList ks) (room : ks.length + 1 < scanBound)
    (h : ∀ (h' : Heap) (tk : Nat), SetS P w h' s.heap.objs.size (once ks) → (∀ b o, s.heap.get? b = some o → h'.get? b = some o) → Q (.ref s.heap.objs.size) { s with heap := h', toks := tk }) :
    wpAny (model P w) A (call (.type "set") [.ref L]) Q E s := by
  have size : items.size = ks.length := by rw [← StrsAre.len_eq ts, Array.length_toList]
  obtain ⟨cc, tl, hmro⟩ := F.called_set.mro
  have made := F.called_set.made
  have subs := F.called_set.sub
  refine wpAny_call (codeAny_of_tree ?_)
  show wpAny _ _ (callAny (.type "set") _) _ _ _
  refine wpAny_pure ⟨Code.quiet_builtin _ (by decide +kernel), codeAny_builtin F.entry_type_call ?_⟩
  rw [Around.under_plain (weight_type_call_type "set" [.ref L] []) rfl]
  have nt := F.called_set.notType
  have cr := F.called_set.canCreate
  have tc := F.typeCall_set_1 (.ref L)
  repeat (any_goals (first | assumption | wp_step))
  refine codeAny_mono (code_set_led1 (.ref L) (E := E) (Q₁ := fun ob s1 => ob = .ref s.heap.objs.size ∧ s1 = { s with heap := s.heap.push (bareSet w) }) ⟨rfl, rfl⟩) fun r s1 got => ?_
  cases r with
  | error e => exact got
  | ok fl =>
    cases fl with
    | ret ob =>
      obtain ⟨rfl, rfl⟩ := got
      have at_S : (s.heap.push (bareSet w)).get? s.heap.objs.size = some (bareSet w) := Heap.get?_push_size _ rfl
      have ty_S : Shared.TypeIs { s with heap := s.heap.push (bareSet w) } (.ref s.heap.objs.size) "set" := ⟨_, at_S, rfl⟩
      have il := F.called_set.init.lookup
      have ib := F.called_set.init.bind (.ref s.heap.objs.size)
      repeat (any_goals (first | assumption | wp_step))
      refine codeAny_mono (codeAny_call_builtin (R := wants (fun r s2 => r = .none ∧ ∃ h' tk, s2 = { s with heap := h', toks := tk } ∧ SetS P w h' s.heap.objs.size (once ks) ∧ (∀ b o, s.heap.get? b = some o → h'.get? b = some o)) E) F.called_set.init.plain F.entry_set_init (check_set_init_1 ty_S ?_)) fun r2 s2 got2 => ?_
      · obtain ⟨oL, at_L, cL, nL, dL⟩ := isL
        obtain ⟨q1, q2, q3, q4⟩ := oL
        simp only at cL dL
        subst cL
        subst dL
        have at_L' : (s.heap.push (bareSet w)).get? L = some { cls := .type "list", dict := q2, data := .seq items nL, slots := q4 } := Heap.get?_push_of_some _ at_L
        have z1 := F.sub_list_set
        have z2 := F.sub_list_frozenset
        have z3 : (Value.type "list" == Value.type "dict") = false := by decide
        have isL' : (s.heap.push (bareSet w)).IsList L items := ⟨_, at_L', rfl, nL, rfl⟩
        unfold Builtin.«set.__init__» noKeywords Builtin.Frozenset.updateFrom
        generalize epi : pyIter = PI
        wp_walk
        subst epi
        refine wpAny_pyIter_list isL' (wpAny_bind (wpAny_runValue ?_))
        have lt := Heap.lt_size at_L
        have calm3 : A.in1.in1.in1.handled = none := by simp [calm]
        have sz1 : (s.heap.push (bareSet w)).objs.size = s.heap.objs.size + 1 := Heap.size_push ..
        have neI : L ≠ (s.heap.push (bareSet w)).objs.size := by
          rw [sz1]
          exact Nat.ne_of_lt (Nat.lt_succ_of_lt lt)
        have neS : s.heap.objs.size ∉ [(s.heap.push (bareSet w)).objs.size, L] := by
          rw [sz1]
          simp only [List.mem_cons, List.not_mem_nil, or_false, not_or]
          exact ⟨Nat.ne_of_lt (Nat.lt_succ_self _), Nat.ne_of_gt lt⟩
        have what : ∀ (i : Nat) (v : Value), items[i]? = some v → ∃ k t, ks[i]? = some k ∧ v = .str k t := fun i v hv => by
          have hi : i < ks.length := by rw [← size]; exact (Array.getElem?_eq_some_iff.mp hv).1
          obtain ⟨t, e⟩ := SS.strs_at ts i v (by rw [Array.getElem?_toList]; exact hv)
          refine ⟨ks[i], t, List.getElem?_eq_getElem hi, ?_⟩
          rw [e, List.getD_eq_getElem?_getD, List.getElem?_eq_getElem hi] <;> rfl
        refine put_all ((Walks.list calm3 _ L neI items).toS) neS ks size room what (items.size - 0) 0 _ (by omega) (Nat.zero_le _) ⟨⟨_, Heap.get?_push_size _ rfl, rfl, rfl⟩, (isL'.push _)⟩ ?first ?last
        case first => exact bare_at (Heap.get?_push_of_some _ at_S)
        case last =>
          intro s' mv has
          obtain ⟨h', g', d', t', o'⟩ := s'
          have eg : g' = s.gens := mv.gens
          have ed : d' = s.drawn := mv.drawn
          have eo : o' = s.os := mv.os
          subst eg
          subst ed
          subst eo
          show wpAny _ _ _ _ _ _
          refine wpAny_pure ?_
          show wpAny _ _ (ret Value.none) _ _ _
          refine wpAny_pure ⟨rfl, h', t', rfl, has, fun b o e => ?_⟩
          have lb := Heap.lt_size e
          refine mv.heap b o ?_ (Heap.get?_push_of_some _ (Heap.get?_push_of_some _ e))
          rw [sz1]
          simp only [List.mem_cons, List.not_mem_nil, or_false, not_or]
          exact ⟨Nat.ne_of_lt lb, Nat.ne_of_lt (Nat.lt_succ_of_lt lb)⟩
      · cases r2 with
        | error e => exact got2
        | ok fl2 =>
          cases fl2 with
          | ret r =>
            obtain ⟨rfl, h', tk, rfl, has, old⟩ := got2
            repeat (any_goals (first | assumption | wp_step))
            exact h _ _ has old
          | _ => exact got2.elim
    | _ => exact got.elim
end
section
variable {X : Cx}
/-- set(a list of texts) -/
def rSetOfS (K : PySem.W.Frag) (P : Program) (w : World) : List V → Hp → VK → Prop := fun vs H Q => ∃ (a : Addr) (ks : List Str), vs = [.ref a] ∧ SqL K H a (ks.map V.str) ∧ ks.length ≤ 1000 ∧ ∀ p, H p = none → Q (.ref p) (upd H p (SetSO P w p (once ks)))
theorem cr_setS (hc : X.calm = true) : CallR X (.type "set") (rSetOfS X.K X.prog X.w) := by
  intro pl s σ H vs us Q J r h
  obtain ⟨a, ks, rfl, hs, few, q⟩ := h
  obtain ⟨its, rv, isl, _⟩ := J.list hs
  rw [Vals.ref1 r]
  refine call_set_txts (P := X.prog) (w := X.w) ks (J.ok.hd hc) isl.isList (by simpa using strsAre_of rv) (by have : 1001 < scanBound := (by decide); omega) fun h' tk has old => ?_
  have free : H s.heap.objs.size = none := J.hok.fresh (Nat.le_refl _)
  exact ⟨.ref s.heap.objs.size, _, J.laid (t' := tk) old (Nat.le_refl _) (setS_ok has), rfl, q _ free⟩
end
end Lw

set_option Elab.async false
set_option linter.all false
set_option maxRecDepth 100000
set_option maxHeartbeats 4000000
namespace Lw
open PySem PySem.Spec PyProof.Rows L2
/-- whether a sign is a letter -/
def inL (c : Nat) : Bool := !(Builtin.Str.occurrences LET ⟨#[c]⟩ 0 LET.length 1).isEmpty
theorem inL_low {c : Nat} (h : Low c) : inL c = true := by
  have all : ∀ i : Fin 26, inL (97 + i) = true := by decide +kernel
  have h1 : 97 ≤ c ∧ c ≤ 122 := h
  have h2 := all ⟨c - 97, by omega⟩
  have e : 97 + (c - 97) = c := by omega
  have h3 : inL (97 + (c - 97)) = true := h2
  rw [e] at h3
  exact h3
theorem Same.put {H H1 : Hp} {D : Addr} {o : HO} (s : Same H H1) (n : H D = none) : Same H (upd H1 D o) := fun a u e => by
  rw [upd_ne (ne_of_none e n)]
  exact s a u e
theorem once_nd {ks : List Str} (nd : ks.Nodup) : (once ks).length = ks.length := by
  have go : ∀ (ks l : List Str), (∀ x ∈ ks, x ∉ l) → ks.Nodup → (ks.foldl ins l).length = l.length + ks.length := by
    intro ks
    induction ks with
    | nil => intro l _ _; rfl
    | cons k r ih =>
      intro l n nd
      obtain ⟨n1, n2⟩ := List.nodup_cons.mp nd
      have e : ins l k = k :: l := if_neg (n k List.mem_cons_self)
      show (r.foldl ins (ins l k)).length = _
      rw [e, ih (k :: l) (fun x hx h => ?_) n2, List.length_cons, List.length_cons]
      · omega
      · rcases List.mem_cons.mp h with q | q
        · exact n1 (q ▸ hx)
        · exact n x (List.mem_cons_of_mem _ hx) q
  have h := go ks [] (fun _ _ h => nomatch h) nd
  rw [List.length_nil, Nat.zero_add] at h
  exact h
def rLenSS (P : Program) (w : World) : List V → Hp → VK → Prop := fun vs H Q => ∃ (a : Addr) (l : List Str), vs = [.ref a] ∧ H a = some (SetSO P w a l) ∧ l.length ≤ 1000 ∧ Q (.int l.length) H
theorem cr_lenSS {X : Cx} : CallR X (.builtin "len") (rLenSS X.prog X.w) := by
  intro pl s σ H vs us Q J r h
  obtain ⟨a, l, rfl, ha, few, q⟩ := h
  rw [Vals.ref1 r]
  obtain ⟨⟨D, e, T, _⟩, _, _⟩ := setS_get J ha
  have sz : D.1.size = l.length := T.sz
  refine call_len_set e ⟨rfl, rfl, rfl⟩ rfl T.fit (by omega) ?_
  rw [sz]
  exact ⟨.int l.length, H, J.tok _, ⟨_, rfl⟩, q⟩
abbrev sIsName : Stmt := topS 12
abbrev sAreNames : Stmt := topS 13
section
variable {P : Program} {w : World} {K : PySem.W.Frag} {mg : Str → Option Value} {base : Heap}
def spName1 : Sp := fun vs H Q _ => ∃ z : Str, vs = [.str z] ∧ NameOk z ∧ ∀ H', Same H H' → Q (.bl true) H'
theorem scIsName : FnScope ["thing", "letter"] ["thing"] (defScope sIsName) := ⟨rfl, rfl, rfl, by decide +kernel, rfl, by decide +kernel, by decide +kernel⟩
theorem ok_isname {f : Addr} {fd : FuncData} {t1 t2 : Tok} (F : Fun K "is_name" "is_name" sIsName f fd) (mi : mg "isinstance" = none) (ms : mg "str" = none) (ml : mg "len" = none) (mall : mg "all" = none) (mL : mg "LETTERS" = some (.str LET t1)) (mM : mg "LONGEST" = some (.int 8 t2)) :
    FnOk P w K mg base CX0 1 f fd ["thing"] spName1 := by
  refine F.ok scIsName (fun vs H Q E h => ?_) (fun cdv A outer s H vs Q E hr h => ?_)
  · obtain ⟨z, rfl, _⟩ := h
    rfl
  obtain ⟨z, rfl, o, q⟩ := h
  refine ⟨_, pss_cons (ps_if (PW.pt (pw_or (pt_not (pt_val (pe_callB call_isi (by rfl) mi (by decide +kernel) (pa_cons (pv 0) (pa_cons (pe_bltn (v := .ty "str") (by rfl) ms (by decide +kernel) rfl) pa_nil)))))
      (pw_or1 (pt_not ((pt_chain op_le op_le pe_int (pe_callB call_len (by rfl) ml (by decide +kernel) (pa_cons (pv 0) pa_nil)) (pe_glob (v := .int 8) (by rfl) mM ⟨t2, rfl⟩)))))))
      (pss_one (ps_ret pe_bl)) pss_nil)
    (pss_one (ps_ret (pe_callB (cr_all rfl) (by rfl) mall (by decide +kernel) (pa_cons (pe_lc (own := [("letter", 1)]) (g := gName 1) (tt := tYes) rfl scIsName.nd (pi_str (pv 0)) (blkOk_by (N := ["thing", "letter"]) (sc := defScope sIsName) (by decide +kernel))
      (fun _ _ _ _ _ => pg_name (i := 1) scIsName.nd rfl (Or.inl rfl)) (fun _ _ _ _ _ => pts_nil) (fun _ _ _ _ _ => pe_cmpR op_in_str (pv 1) (pe_glob (v := .str LET) (by rfl) mL ⟨t1, rfl⟩) (by rfl))) pa_nil)))), ?_⟩
  refine ⟨.str z, rfl, .str z, .ty "str", _, _, true, rfl, .ty _, .base (.str z), rfl, _, rfl, ?_⟩
  have p1 := o.pos
  have p8 := o.most
  have sz : z.length ≤ sizeLine := by rw [sizeLine_eq]; omega
  refine ff_if rfl ⟨.str z, rfl, .str z, z.length, rfl, ⟨sz, rfl⟩, 1, (z.length : Int), rfl, rfl, _, rfl, ?_⟩
  refine tt_if (decide_eq_true (by omega)) ⟨z.length, 8, rfl, rfl, _, rfl, ?_⟩
  rw [decide_eq_true (by omega : (z.length : Int) ≤ 8)]
  refine ff_if rfl ?_
  refine ⟨.str z, rfl, z, rfl, fun D nD => ?_⟩
  refine lc_strI (fun i H1 => Same H H1 ∧ H1 D = some (.lst ((z.cps.toList.take i).map fun c => V.bl (inL c)))) ⟨same_new nD _, upd_same⟩ ?_ ?_
  · rintro i c H1 hx ⟨s1, h1'⟩
    refine ⟨rfl, yes_if ⟨.str ⟨#[c]⟩, rfl, ⟨#[c]⟩, LET, rfl, rfl, _, h1', ?_, Same.put s1 nD, ?_⟩⟩
    · rw [List.length_map, List.length_take, Array.length_toList]
      have : z.cps.size = z.length := rfl
      rw [sizeLine_eq]; omega
    · rw [upd_same, List.take_add_one, hx]
      simp [inL]
  · rintro H1 ⟨s1, h1'⟩
    rw [List.take_length] at h1'
    refine ⟨D, z.cps.toList.map inL, rfl, SqL.of (by rw [List.map_map]; exact h1'), ?_⟩
    have e : (z.cps.toList.map inL).all id = true := by
      rw [List.all_eq_true]
      intro b hb
      obtain ⟨c, hc, rfl⟩ := List.mem_map.mp hb
      exact inL_low (o.low c hc)
    rw [e]
    exact q H1 s1
abbrev NAre : List Str := ["thing", "part"]
theorem scAre : FnScope NAre ["thing"] (defScope sAreNames) := ⟨rfl, rfl, rfl, by decide +kernel, rfl, by decide +kernel, by decide +kernel⟩
def spAre1 : Sp := fun vs H Q _ => ∃ (l : Addr) (ws : List Str), vs = [.ref l] ∧ H l = some (.lst (ws.map V.str)) ∧ (∀ z ∈ ws, NameOk z) ∧ ws.Nodup ∧ ws.length ≤ 100 ∧ ∀ H', Same H H' → Q (.bl true) H'
theorem ok_are {f f1 : Addr} {fd fd1 : FuncData} (F : Fun K "are_names" "are_names" sAreNames f fd) (G1 : FnOk P w K mg base CX0 1 f1 fd1 ["thing"] spName1) (m1 : mg "is_name" = some (.ref f1)) (k1 : PySem.W.keepIn K (.ref f1) = true) (b1 : Binds K fd1 ["thing"] [])
    (mi : mg "isinstance" = none) (ml : mg "list" = none) (mn : mg "len" = none) (mall : mg "all" = none) (ms : mg "set" = none) : FnOk P w K mg base CX0 2 f fd ["thing"] spAre1 := by
  refine F.ok scAre (fun vs H Q E h => ?_) (fun cdv A outer s H vs Q E hr h => ?_)
  · obtain ⟨l, ws, rfl, _⟩ := h
    rfl
  obtain ⟨l, ws, rfl, e, ok, nd, few, q⟩ := h
  refine ⟨_, pss_cons (ps_if (PW.pt (pw_or (pt_not (pt_val (pe_callB call_isi (by rfl) mi (by decide +kernel) (pa_cons (pv 0) (pa_cons (pe_bltn (v := .ty "list") (by rfl) ml (by decide +kernel) rfl) pa_nil)))))
      (pw_or1 (pt_not (pt_val (pe_callB (cr_all rfl) (by rfl) mall (by decide +kernel) (pa_cons (pe_lc (own := [("part", 1)]) (g := gName 1) (tt := tYes) rfl scAre.nd (pi_list (pv 0)) (blkOk_by (N := NAre) (sc := defScope sAreNames) (by decide +kernel))
        (fun _ _ _ _ _ => pg_name (i := 1) scAre.nd rfl (Or.inl rfl)) (fun _ _ _ _ _ => pts_nil) (fun _ _ _ _ _ => pe_call G1 hr (by rfl) m1 k1 b1 .nil pass0 (pa_cons (pv 1) pa_nil))) pa_nil)))))))
      (pss_one (ps_ret pe_bl)) pss_nil)
    (pss_one (ps_ret (pe_cmpR op_eq (pe_callB cr_lenSS (by rfl) mn (by decide +kernel) (pa_cons (pe_callTy (cr_setS rfl) (by rfl) ms (by decide +kernel) (pa_cons (pv 0) pa_nil)) pa_nil)) (pe_callB call_len_seq (by rfl) mn (by decide +kernel) (pa_cons (pv 0) pa_nil)) (nomark _)))), ?_⟩
  refine ⟨_, rfl, _, .ty "list", _, _, true, rfl, .ty _, .base (.lst e), rfl, _, rfl, ff_if rfl ⟨_, rfl, l, rfl, ⟨_, .inl (.inl e)⟩, fun D nD => ?_⟩⟩
  refine lc_list (K := K) (a := l) (xs := ws.map V.str) (fun i H1 => Same H H1 ∧ H1 D = some (.lst (List.replicate i (V.bl true)))) ⟨same_new nD _, upd_same⟩ (fun i H1 _ p => .inl (.inl (p.1 _ _ e))) ?_ ?_
  · rintro i x H1 hx ⟨s1, hD⟩
    obtain ⟨z, hz, rfl⟩ := map_get hx
    have il : i < ws.length := (List.getElem?_eq_some_iff.mp hz).1
    refine ⟨rfl, yes_if ⟨_, rfl, z, rfl, ok z (List.mem_of_getElem? hz), fun H2 s2 => ⟨_, s2 _ _ hD, small1000 (by rw [List.length_replicate]; omega), Same.put (s1.trans s2) nD, ?_⟩⟩⟩
    rw [upd_same, List.replicate_succ']
  · rintro H1 ⟨s1, hD⟩
    refine ⟨D, List.replicate (ws.map V.str).length true, rfl, .inl (.inl (by rw [List.map_replicate]; exact hD)), true, ?_, ff_if rfl ?_⟩
    · have h : (List.replicate (ws.map V.str).length true).all id = true := by
        rw [List.all_eq_true]
        intro b hb
        exact (List.mem_replicate.mp hb).2
      rw [h]
    refine ⟨_, rfl, l, ws, rfl, .inl (.inl (s1 _ _ e)), by omega, fun p np => ⟨p, once ws, rfl, upd_same, Nat.le_trans (once_len ws) (by omega), _, rfl, l, ws.map V.str, rfl, .inl (.inl (.inl ((s1.trans (same_new np _)) _ _ e))), rfl, ?_⟩⟩
    rw [once_nd nd, List.length_map]
    have h : decide (V.int (ws.length : Nat) = V.int (ws.length : Nat)) = true := decide_eq_true rfl
    rw [h]
    exact q _ (s1.trans (same_new np _))
end
end Lw

set_option Elab.async false
set_option linter.all false
set_option maxRecDepth 100000
set_option maxHeartbeats 4000000
namespace Lw
open PySem PySem.Spec PyProof.Rows L2
/-! ### how often a text stands in a list -/
def eqs (k : Str) (v : Value) : Bool := match v with
  | .str z _ => z == k
  | _ => false
theorem eqs_at {A : Around} {s : Shared} {k : Str} {t : Tok} : ∀ {us : List Value} {ws : List Str}, StrsAre us ws → ∀ y ∈ us, SeqAt.EqAt A s y (.str k t) (eqs k y)
  | _, _, .nil => fun y hy => by cases hy
  | _, _, .cons n t' h => fun y hy => by
    rcases List.mem_cons.mp hy with e | e
    · rw [e]
      exact SeqAt.EqAt.str_str n t' k t
    · exact eqs_at h y e
theorem eqs_count {k : Str} : ∀ {us : List Value} {ws : List Str}, StrsAre us ws → us.countP (eqs k) = ws.count k
  | _, _, .nil => rfl
  | _, _, .cons n t h => by
    have ih := eqs_count (k := k) h
    rw [List.countP_cons, List.count_cons, ih] <;> rfl
def rCntS (K : PySem.W.Frag) : V → List V → Hp → VK → Prop := fun x xs H Q => ∃ (p : Addr) (ws : List Str) (k : Str), x = .ref p ∧ xs = [.str k] ∧ SqL K H p (ws.map V.str) ∧ Q (.int (ws.count k : Nat)) H
theorem mt_lcountS {X : Cx} : MtR X "list.count" (rCntS X.K) := by
  intro pins s σ H x xs v us Q I rx rxs h
  obtain ⟨p, ns, k, rfl, rfl, hs, q⟩ := h
  cases rx
  obtain ⟨u, rfl, ru⟩ := rxs.one
  obtain ⟨t, rfl⟩ := ru
  obtain ⟨its, rv, ⟨⟨cls, dd, data, sl⟩, n, ho, hc, hdn, hd⟩, hlen⟩ := I.list hs
  simp only at hc hd
  subst hc hd
  have hi := strsAre_of rv
  refine call_meets PySem.F.slot_list_count ⟨_, ho, rfl⟩ PySem.F.entry_list_count (PySem.F.args_list_count_2 _ _)
    (SeqAt.list_countAt p its.toArray n dd sl (.str k t) (eqs k)) ⟨ho, fun y hy => eqs_at hi y (by simpa using hy), ?_⟩
  have ec : its.toArray.toList.countP (eqs k) = ns.count k := eqs_count hi
  refine ⟨.int (ns.count k : Nat), H, I.tok _, ⟨s.toks, ?_⟩, q⟩
  show Value.int ((its.toArray.toList.countP (eqs k) : Nat) : Int) s.toks = Value.int ((ns.count k : Nat) : Int) s.toks
  rw [ec]
end Lw

set_option Elab.async false
set_option linter.all false
set_option maxRecDepth 100000
set_option maxHeartbeats 4000000
namespace Lw
open PySem PySem.Spec PyProof.Rows L2
abbrev sIsField : Stmt := topS 23
abbrev sFieldsOf : Stmt := topS 22
section
variable {P : Program} {w : World} {K : PySem.W.Frag} {mg : Str → Option Value} {base : Heap}
theorem scIsField : FnScope ["thing"] ["thing"] (defScope sIsField) := ⟨rfl, rfl, rfl, by decide +kernel, rfl, by decide +kernel, by decide +kernel⟩
def spIsField1 : Sp := fun vs H Q _ => ∃ (v : V) (fl : Fld) (ns : List Str) (A : Addr → Prop), vs = [v] ∧ DT H A v fl.tree ∧ FldOk ns fl ∧ (∀ n ∈ ns, NameOk n) ∧ ∀ H', Same H H' → Q (.bl true) H'
theorem ok_isfield {f f1 f2 : Addr} {fd fd1 fd2 : FuncData} {t1 : Tok} (F : Fun K "_is_field" "_is_field" sIsField f fd) (G1 : FnOk P w K mg base CX0 1 f1 fd1 ["thing"] spName1) (m1 : mg "is_name" = some (.ref f1)) (k1 : PySem.W.keepIn K (.ref f1) = true) (b1 : Binds K fd1 ["thing"] [])
    (G2 : FnOk P w K mg base CX0 2 f2 fd2 ["thing"] spAre1) (m2 : mg "are_names" = some (.ref f2)) (k2 : PySem.W.keepIn K (.ref f2) = true) (b2 : Binds K fd2 ["thing"] [])
    (mi : mg "isinstance" = none) (mt : mg "tuple" = none) (mlen : mg "len" = none) (mW : mg "MOST_WORDS" = some (.int 4 t1)) : FnOk P w K mg base CX0 3 f fd ["thing"] spIsField1 := by
  refine F.ok scIsField (fun vs H Q E h => ?_) (fun cdv A outer s H vs Q E hr h => ?_)
  · obtain ⟨v, fl, ns, A, rfl, _⟩ := h
    rfl
  obtain ⟨v, fl, ns, A, rfl, d, o, okn, q⟩ := h
  refine ⟨_, (pss_cons (ps_if (pt_not (pt_val (pe_callB call_isi (by rfl) mi (by decide +kernel) (pa_cons (pv 0) (pa_cons (pe_bltn (v := .ty "tuple") (by rfl) mt (by decide +kernel) rfl) pa_nil))))) (pss_one (ps_ret pe_bl)) pss_nil) (pss_cons (ps_if (pt_cmpR op_eq (pe_callB call_len_seq (by rfl) mlen (by decide +kernel) (pa_cons (pv 0) pa_nil)) pe_int (nomark _)) (pss_one (ps_ret (pe_cmpR op_eq (pe_ix ix_tup (pv 0) pe_int (fun _ _ => rfl)) pe_str (nomark _)))) pss_nil) (pss_cons (ps_if (pt_cmpR op_ne (pe_callB call_len_seq (by rfl) mlen (by decide +kernel) (pa_cons (pv 0) pa_nil)) pe_int (nomark _)) (pss_one (ps_ret pe_bl)) pss_nil) (pss_cons (ps_if (pt_cmpR op_eq (pe_ix ix_tup (pv 0) pe_int (fun _ _ => rfl)) pe_str (nomark _)) (pss_one (ps_ret (pe_and (pe_call G2 (hr.mono (by decide)) (by rfl) m2 k2 b2 .nil pass0 (pa_cons (pe_ix ix_tup (pv 0) pe_int (fun _ _ => rfl)) pa_nil)) (pe_one (pe_chain op_le op_le pe_int (pe_callB call_len_seq (by rfl) mlen (by decide +kernel) (pa_cons (pe_ix ix_tup (pv 0) pe_int (fun _ _ => rfl)) pa_nil)) (pe_glob (v := .int 4) (by rfl) mW ⟨t1, rfl⟩)))))) pss_nil) (pss_one (ps_ret (pe_and (pe_cmpR op_eq (pe_ix ix_tup (pv 0) pe_int (fun _ _ => rfl)) pe_str (nomark _)) (pe_one (pe_call G1 (hr.mono (by decide)) (by rfl) m1 k1 b1 .nil pass0 (pa_cons (pe_ix ix_tup (pv 0) pe_int (fun _ _ => rfl)) pa_nil)))))))))), ?_⟩
  cases o with
  | @mk ws c dn few nd =>
    obtain ⟨a, xs, rfl, ha, _, y⟩ := d.tupI
    cases y with
    | cons p r =>
      cases p
      cases r with
      | cons p r =>
        cases r
        obtain ⟨l, ys, rfl, hl, _, z⟩ := p.lstI
        rw [DTs.strs z] at hl
        have at0 : SqT K H a [.str "mark", .ref l] := .inl (.inl ha)
        refine ⟨_, rfl, _, .ty "tuple", _, _, true, rfl, .ty _, .base (.tup ha), rfl, _, rfl, ff_if rfl ?_⟩
        refine ⟨_, rfl, a, _, rfl, .inr at0, rfl, _, rfl, ff_if (by show decide (V.int ((2 : Nat) : Int) = V.int 1) = false; decide +kernel) ?_⟩
        refine ⟨_, rfl, a, _, rfl, .inr at0, rfl, _, rfl, ff_if (by show (!decide (V.int ((2 : Nat) : Int) = V.int 2)) = false; decide +kernel) ?_⟩
        refine ⟨_, rfl, a, _, 0, .str "mark", rfl, rfl, at0, atI_nat (j := 0) rfl, rfl, _, rfl, tt_if (by decide +kernel) ?_⟩
        refine ⟨_, rfl, a, _, 1, .ref l, rfl, rfl, at0, atI_nat (j := 1) rfl, l, ws, rfl, hl, dn, nd, by omega, fun H1 s1 => ⟨true, rfl, tt_if rfl ?_⟩⟩
        have l1 : 1 ≤ ws.length := List.length_pos_iff.mpr c
        refine ⟨_, rfl, a, _, 1, .ref l, rfl, rfl, .inl (.inl (s1 _ _ ha)), atI_nat (j := 1) rfl, l, ws.map V.str, rfl, .inl (.inl (.inl (s1 _ _ hl))), 1, _, rfl, rfl, true, ?_, tt_if rfl ⟨_, 4, rfl, rfl, ?_⟩⟩
        · show V.bl (decide ((1 : Int) ≤ (((ws.map V.str).length : Nat) : Int))) = V.bl true
          rw [List.length_map, decide_eq_true (by omega)]
        · show Q (.bl (decide ((((ws.map V.str).length : Nat) : Int) ≤ 4))) H1
          rw [List.length_map, decide_eq_true (by omega)]
          exact q H1 s1
  | @lk n m =>
    obtain ⟨a, xs, rfl, ha, _, y⟩ := d.tupI
    cases y with
    | cons p r =>
      cases p
      cases r with
      | cons p r =>
        cases r
        cases p
        have at0 : SqT K H a [.str "link", .str n] := .inl (.inl ha)
        refine ⟨_, rfl, _, .ty "tuple", _, _, true, rfl, .ty _, .base (.tup ha), rfl, _, rfl, ff_if rfl ?_⟩
        refine ⟨_, rfl, a, _, rfl, .inr at0, rfl, _, rfl, ff_if (by show decide (V.int ((2 : Nat) : Int) = V.int 1) = false; decide +kernel) ?_⟩
        refine ⟨_, rfl, a, _, rfl, .inr at0, rfl, _, rfl, ff_if (by show (!decide (V.int ((2 : Nat) : Int) = V.int 2)) = false; decide +kernel) ?_⟩
        refine ⟨_, rfl, a, _, 0, .str "link", rfl, rfl, at0, atI_nat (j := 0) rfl, rfl, _, rfl, ff_if (by decide +kernel) ?_⟩
        refine ⟨_, rfl, a, _, 0, .str "link", rfl, rfl, at0, atI_nat (j := 0) rfl, rfl, true, by decide +kernel, tt_if rfl ?_⟩
        exact ⟨_, rfl, a, _, 1, .str n, rfl, rfl, at0, atI_nat (j := 1) rfl, n, rfl, okn n m, fun H1 s1 => q H1 s1⟩
  | tg =>
    obtain ⟨a, xs, rfl, ha, _, y⟩ := d.tupI
    cases y with
    | cons p r =>
      cases p
      cases r
      have at0 : SqT K H a [.str "tag"] := .inl (.inl ha)
      refine ⟨_, rfl, _, .ty "tuple", _, _, true, rfl, .ty _, .base (.tup ha), rfl, _, rfl, ff_if rfl ?_⟩
      refine ⟨_, rfl, a, _, rfl, .inr at0, rfl, _, rfl, tt_if (by decide +kernel) ?_⟩
      refine ⟨_, rfl, a, _, 0, .str "tag", rfl, rfl, at0, atI_nat (j := 0) rfl, rfl, ?_⟩
      have e : decide (V.str "tag" = V.str "tag") = true := decide_eq_true rfl
      rw [e]
      exact q H fun _ _ h => h
end
end Lw

set_option Elab.async false
set_option linter.all false
set_option maxRecDepth 100000
set_option maxHeartbeats 4000000
namespace Lw
open PySem PySem.Spec PyProof.Rows L2
/-- a dict that was locked stands as it was -/
theorem unlock_same {H Hx : Hp} {d : Addr} {u : HO} {od : Obj} (e : H d = some u) (s : Same (upd H d (.frz od u)) Hx) : Same H (upd Hx d u) := fun c o eo => by
  by_cases q : c = d
  · subst q
    rw [upd_same, ← eo, e]
  · rw [upd_ne q]
    exact s c o (by rw [upd_ne q]; exact eo)
/-- a dict's keys and values by their places -/
theorem DT.turn {H : Hp} {A : Addr → Prop} {kvs : List (Key × V)} {ks : List Str} {ts : List Tr} {i : Nat} {kk : Key} {vv : V} (k : kvs.map (·.1) = ks.map Sum.inr) (nd : ks.Nodup) (d : DTs H A (kvs.map (·.2)) ts) (h : kvs[i]? = some (kk, vv)) :
    ∃ z t, ks[i]? = some z ∧ ts[i]? = some t ∧ kk = Sum.inr z ∧ valV kvs (.inr z) = some vv ∧ DT H A vv t := by
  obtain ⟨z, hz, rfl⟩ : ∃ z, ks[i]? = some z ∧ kk = Sum.inr z := by
    have h1 : (kvs.map (·.1))[i]? = some kk := by rw [List.getElem?_map, h]; rfl
    rw [k, List.getElem?_map] at h1
    obtain ⟨z, h1, h2⟩ := Option.map_eq_some_iff.mp h1
    exact ⟨z, h1, h2.symm⟩
  obtain ⟨t, ht, dt⟩ := d.get (i := i) (v := vv) (by rw [List.getElem?_map, h]; rfl)
  exact ⟨z, t, hz, ht, rfl, valV_at (by rw [k]; exact inr_nodup nd) h, dt⟩
theorem cnt_sort {k : Nat} {s : Str} (h : ∀ fl : Fld, fl.sort = s ↔ fl.num = k) : ∀ fs : Flds, (fs.map (·.2.sort)).count s = cntF fs k
  | [] => rfl
  | (z, fl) :: r => by
    have ih := cnt_sort h r
    unfold cntF at ih ⊢
    rw [List.map_cons, List.count_cons, ih]
    by_cases q : fl.num = k
    · rw [List.filter_cons_of_pos (by exact decide_eq_true q), List.length_cons]
      have e : fl.sort = s := (h fl).mpr q
      rw [show ((z, fl).2.sort == s) = true from by rw [beq_iff_eq]; exact e]
      rfl
    · rw [List.filter_cons_of_neg (by rw [decide_eq_true_eq]; exact q)]
      have e : ¬ fl.sort = s := fun n => q ((h fl).mp n)
      rw [show ((z, fl).2.sort == s) = false from by rw [beq_eq_false_iff_ne]; exact e]
      rfl
abbrev sortL : List Str := ["mark", "link", "tag"]
theorem sort_num {i : Nat} {s : Str} (h : sortL[i]? = some s) : i < 3 ∧ ∀ fl : Fld, fl.sort = s ↔ fl.num = i := by
  match i, h with
  | 0, h => cases h; exact ⟨by decide, fun fl => by cases fl <;> simp only [Fld.sort, Fld.num] <;> decide +kernel⟩
  | 1, h => cases h; exact ⟨by decide, fun fl => by cases fl <;> simp only [Fld.sort, Fld.num] <;> decide +kernel⟩
  | 2, h => cases h; exact ⟨by decide, fun fl => by cases fl <;> simp only [Fld.sort, Fld.num] <;> decide +kernel⟩
def SortsAt (K : PySem.W.Frag) (mg : Str → Option Value) (p : Addr) : Prop := mg "SORTS" = some (.ref p) ∧ ∃ (ta tb tc : Tok) (n : Nat) (sl : Array (Option Value)), K.lookup p = some ⟨.type "tuple", none, .seq #[.str "mark" ta, .str "link" tb, .str "tag" tc] n, sl⟩
theorem SortsAt.sq {K : PySem.W.Frag} {mg : Str → Option Value} {p : Addr} (x : SortsAt K mg p) (H : Hp) : SqT K H p (sortL.map V.str) := by
  obtain ⟨_, ta, tb, tc, n, sl, e⟩ := x
  exact .inr ⟨_, _, n, e, rfl, rfl, by show 3 ≤ sizeLine; decide, .cons ⟨ta, rfl⟩ (.cons ⟨tb, rfl⟩ (.cons ⟨tc, rfl⟩ .nil))⟩
theorem all_true (n : Nat) : (List.replicate n true).all id = true := by
  rw [List.all_eq_true]
  intro b hb
  exact (List.mem_replicate.mp hb).2
abbrev NFieldsOf : List Str := ["thing", "sorts", "name", "sort"]
section
variable {P : Program} {w : World} {K : PySem.W.Frag} {mg : Str → Option Value} {base : Heap}
theorem scFieldsOf : FnScope NFieldsOf ["thing"] (defScope sFieldsOf) := ⟨rfl, rfl, rfl, by decide +kernel, rfl, by decide +kernel, by decide +kernel⟩
def spFieldsOf1 : Sp := fun vs H Q _ => ∃ (v : V) (fs : Flds) (ns : List Str) (A : Addr → Prop), vs = [v] ∧ DT H A v (fieldsT fs) ∧ FldsOk ns fs ∧ (∀ n ∈ ns, NameOk n) ∧ ∀ H', Same H H' → Q (.bl true) H'
theorem ok_fieldsof {f f1 f3 pS : Addr} {fd fd1 fd3 : FuncData} {t1 : Tok} (F : Fun K "fields_of" "fields_of" sFieldsOf f fd) (G1 : FnOk P w K mg base CX0 1 f1 fd1 ["thing"] spName1) (m1 : mg "is_name" = some (.ref f1)) (k1 : PySem.W.keepIn K (.ref f1) = true) (b1 : Binds K fd1 ["thing"] [])
    (G3 : FnOk P w K mg base CX0 3 f3 fd3 ["thing"] spIsField1) (m3 : mg "_is_field" = some (.ref f3)) (k3 : PySem.W.keepIn K (.ref f3) = true) (b3 : Binds K fd3 ["thing"] [])
    (mi : mg "isinstance" = none) (md : mg "dict" = none) (mall : mg "all" = none) (mO : mg "MOST_OF_A_SORT" = some (.int 2 t1)) (MS : SortsAt K mg pS) : FnOk P w K mg base CX0 4 f fd ["thing"] spFieldsOf1 := by
  refine F.ok scFieldsOf (fun vs H Q E h => ?_) (fun cdv A outer s H vs Q E hr h => ?_)
  · obtain ⟨v, fs, ns, A, rfl, _⟩ := h
    rfl
  obtain ⟨v, fs, ns, A, rfl, x, o, okn, q⟩ := h
  refine ⟨_, (pss_cons (ps_if (pt_not (pt_val (pe_callB call_isi (by rfl) mi (by decide +kernel) (pa_cons (pv 0) (pa_cons (pe_bltn (v := .ty "dict") (by rfl) md (by decide +kernel) rfl) pa_nil))))) (pss_one (ps_ret pe_bl)) pss_nil) (pss_cons (ps_if (pt_not (pt_val (pe_callB (cr_all rfl) (by rfl) mall (by decide +kernel) (pa_cons (pe_lock (pe_lc (own := [("name", 2)]) (g := gName 2) (tt := tYes) rfl scFieldsOf.nd (pi_keys (pv 0)) (blkOk_by (N := NFieldsOf) (sc := defScope sFieldsOf) (by decide +kernel)) (fun _ _ _ _ _ => pg_name (i := 2) scFieldsOf.nd rfl (Or.inl rfl)) (fun _ _ _ _ _ => pts_nil) (fun _ _ _ _ _ => (pe_and (pe_call G1 (hr.mono (by decide)) (by rfl) m1 k1 b1 .nil pass0 (pa_cons (pv 2) pa_nil)) (pe_one (pe_call G3 (hr.mono (by decide)) (by rfl) m3 k3 b3 .nil pass0 (pa_cons (pe_dget (hu_of hr) (pv 0) (pv 2) (fun _ _ => rfl)) pa_nil))))))) pa_nil)))) (pss_one (ps_ret pe_bl)) pss_nil) (pss_cons (ps_lock (ps_set (i := 1) scFieldsOf.nd rfl (.inr rfl) (pe_lc (own := [("name", 2)]) (g := gName 2) (tt := tYes) rfl scFieldsOf.nd (pi_keys (pv 0)) (blkOk_by (N := NFieldsOf) (sc := defScope sFieldsOf) (by decide +kernel)) (fun _ _ _ _ _ => pg_name (i := 2) scFieldsOf.nd rfl (Or.inl rfl)) (fun _ _ _ _ _ => pts_nil) (fun _ _ _ _ _ => (pe_ix (r := rIxT K) ix_tup (pe_dget (hu_of hr) (pv 0) (pv 2) (fun _ _ => rfl)) pe_int (fun _ _ => rfl)))))) (pss_one (ps_ret (pe_callB (cr_all rfl) (by rfl) mall (by decide +kernel) (pa_cons (pe_lc (own := [("sort", 3)]) (g := gName 3) (tt := tYes) rfl scFieldsOf.nd (pi_tup (pe_glob (v := .ref pS) (by rfl) MS.1 rfl)) (blkOk_by (N := NFieldsOf) (sc := defScope sFieldsOf) (by decide +kernel)) (fun _ _ _ _ _ => pg_name (i := 3) scFieldsOf.nd rfl (Or.inl rfl)) (fun _ _ _ _ _ => pts_nil) (fun _ _ _ _ _ => (pe_cmpR (r := rI0 fun i j => V.bl (decide (i ≤ j))) op_le (show PE _ _ (tBM K "list" (rCntS K) (tVar 1) (tCons (tVar 3) tNil)) from pe_bm PySem.F.plainAttrs_list PySem.F.slot_list_count PySem.F.type_list_count mt_lcountS (pv 1) (pa_cons (pv 3) pa_nil)) (pe_glob (v := .int 2) (by rfl) mO ⟨t1, rfl⟩) (nomark _)))) pa_nil))))))), ?_⟩
  obtain ⟨f, kvs, rfl, e, nA, k, nd, few, d⟩ := x.dctI
  have lk : kvs.length = fs.length := by
    have h := congrArg List.length k
    rw [List.length_map, List.length_map, List.length_map] at h
    exact h
  have l6 := o.few
  have dA : DTs H (fun c => A c ∧ c ≠ f) (kvs.map (·.2)) (fs.map (·.2.tree)) := DTs.avoid x d (Nat.lt_succ_self _)
  -- a value of the dict, at a turn
  have val : ∀ {Hx : Hp} {od : Obj} {i : Nat} {kk : Key} {vv : V}, Same (upd H f (.frz od (.dK kvs))) Hx → kvs[i]? = some (kk, vv) → ∃ z fl, kk = Sum.inr z ∧ (z, fl) ∈ fs ∧ fs[i]? = some (z, fl) ∧ DGet Hx f (.str z) (some vv) ∧ DT Hx (fun c => A c ∧ c ≠ f) vv fl.tree := by
    intro Hx od i kk vv s h
    obtain ⟨z, t, h1, h2, h3, h4, h5⟩ := DT.turn k nd dA h
    rw [List.getElem?_map] at h1 h2
    obtain ⟨pr, g1, g2⟩ := Option.map_eq_some_iff.mp h1
    rw [g1] at h2
    obtain ⟨pz, pf⟩ := pr
    cases g2
    cases h2
    refine ⟨pz, pf, h3, List.mem_of_getElem? g1, g1, .inl ⟨kvs, .inr pz, .inr ⟨od, s _ _ upd_same⟩, rfl, h4.symm⟩, h5.mono fun c u hc eu => s _ _ (by rw [upd_ne hc.2]; exact eu)⟩
  refine ⟨_, rfl, _, .ty "dict", _, _, true, rfl, .ty _, .base (.dK e), rfl, _, rfl, ff_if rfl ?_⟩
  refine ⟨f, _, e, trivial, fun od => ⟨_, rfl, f, od, rfl, .inl ⟨kvs, upd_same, fun D nD => ?_⟩⟩⟩
  refine lc_it walk_keys (fun i Hx => Same (upd H f (.frz od (.dK kvs))) Hx ∧ Hx D = some (.lst (List.replicate i (V.bl true)))) ⟨same_new nD _, upd_same⟩ (fun i Hx _ p => p.1 _ _ upd_same) ?_ ?_
  · rintro i y Hx H' hi ⟨s1, hD⟩ ⟨rfl, kk, vv, hkv, rfl⟩
    obtain ⟨z, fl, rfl, mz, _, dg, dv⟩ := val s1 hkv
    refine ⟨rfl, yes_if ⟨.str z, rfl, z, rfl, o.ok _ mz, fun H2 s2 => ⟨true, rfl, tt_if rfl ?_⟩⟩⟩
    refine ⟨_, rfl, .str z, rfl, f, vv, rfl, ?_, vv, fl, ns, _, rfl, dv.same s2, o.val _ mz, okn, fun H3 s3 => ?_⟩
    · rcases dg with ⟨kv2, kx, h1, h2, h3⟩ | ⟨kv2, kx, b, h1, h2, _, h3⟩
      · refine .inl ⟨kv2, kx, ?_, h2, h3⟩
        rcases h1 with h1 | ⟨o1, h1⟩
        · exact .inl (s2 _ _ h1)
        · exact .inr ⟨o1, s2 _ _ h1⟩
      · cases h2
    refine ⟨_, s3 _ _ (s2 _ _ hD), small1000 (by rw [List.length_replicate]; omega), Same.put ((s1.trans s2).trans s3) nD, ?_⟩
    rw [upd_same, List.replicate_succ']
  rintro Hx ⟨s1, hD⟩
  have sH : Same H (upd Hx f (.dK kvs)) := unlock_same e s1
  have nDf : D ≠ f := fun n => by rw [n, s1 _ _ upd_same] at hD; cases hD
  refine ⟨s1 _ _ upd_same, D, List.replicate kvs.length true, rfl, .inl (.inl (by rw [upd_ne nDf, List.map_replicate]; exact hD)), true, by rw [all_true], ff_if rfl ?_⟩
  generalize (upd Hx f (.dK kvs)) = H2 at sH ⊢
  have e2 := sH _ _ e
  have dA2 := dA.same sH
  have val2 : ∀ {Hx : Hp} {od : Obj} {i : Nat} {kk : Key} {vv : V}, Same (upd H2 f (.frz od (.dK kvs))) Hx → kvs[i]? = some (kk, vv) → ∃ z fl, kk = Sum.inr z ∧ fs[i]? = some (z, fl) ∧ DGet Hx f (.str z) (some vv) ∧ DT Hx (fun c => A c ∧ c ≠ f) vv fl.tree := by
    intro Hx od i kk vv s h
    obtain ⟨z, t, h1, h2, h3, h4, h5⟩ := DT.turn k nd dA2 h
    rw [List.getElem?_map] at h1 h2
    obtain ⟨pr, g1, g2⟩ := Option.map_eq_some_iff.mp h1
    rw [g1] at h2
    obtain ⟨pz, pf⟩ := pr
    cases g2
    cases h2
    refine ⟨pz, pf, h3, g1, .inl ⟨kvs, .inr pz, .inr ⟨od, s _ _ upd_same⟩, rfl, h4.symm⟩, h5.mono fun c u hc eu => s _ _ (by rw [upd_ne hc.2]; exact eu)⟩
  refine ⟨f, _, e2, trivial, fun od2 => ⟨_, rfl, f, od2, rfl, .inl ⟨kvs, upd_same, fun D2 nD2 => ?_⟩⟩⟩
  refine lc_it walk_keys (fun i Hx => Same (upd H2 f (.frz od2 (.dK kvs))) Hx ∧ Hx D2 = some (.lst (((fs.take i).map (·.2.sort)).map V.str))) ⟨same_new nD2 _, upd_same⟩ (fun i Hx _ p => p.1 _ _ upd_same) ?_ ?_
  · rintro i y Hx H' hi ⟨s1, hD2⟩ ⟨rfl, kk, vv, hkv, rfl⟩
    obtain ⟨z, fl, rfl, hz, dg, dv⟩ := val2 s1 hkv
    obtain ⟨ta, xs, rfl, ht, _⟩ := fld_sort dv
    refine ⟨rfl, yes_if ⟨_, rfl, .str z, rfl, f, _, rfl, dg, ta, _, 0, .str fl.sort, rfl, rfl, .inl (.inl ht), atI_nat (j := 0) rfl, ?_⟩⟩
    refine ⟨_, hD2, small1000 (by rw [List.length_map, List.length_map, List.length_take]; omega), Same.put s1 nD2, ?_⟩
    rw [upd_same, List.take_add_one, hz]
    simp
  rintro Hy ⟨s3, hD2⟩
  have sH2 : Same H2 (upd Hy f (.dK kvs)) := unlock_same e2 s3
  have nD2f : D2 ≠ f := fun n => by rw [n, s3 _ _ upd_same] at hD2; cases hD2
  rw [lk, List.take_length] at hD2
  refine ⟨s3 _ _ upd_same, ?_⟩
  have hD3 : (upd Hy f (.dK kvs)) D2 = some (.lst ((fs.map (·.2.sort)).map V.str)) := by rw [upd_ne nD2f]; exact hD2
  generalize (upd Hy f (.dK kvs)) = H3 at sH2 hD3 ⊢
  refine ⟨pS, rfl, ⟨_, MS.sq H3⟩, fun D3 nD3 => ?_⟩
  refine lc_tup (K := K) (a := pS) (xs := sortL.map V.str) (fun i Hx => Same H3 Hx ∧ Hx D3 = some (.lst (List.replicate i (V.bl true)))) ⟨same_new nD3 _, upd_same⟩ (fun i Hx _ _ => MS.sq Hx) ?_ ?_
  · rintro i y Hx hy ⟨s4, h3⟩
    obtain ⟨z, hz, rfl⟩ := map_get hy
    obtain ⟨i3, hn⟩ := sort_num hz
    have c2 := o.two i i3
    have cc := cnt_sort hn fs
    refine ⟨rfl, yes_if ⟨_, rfl, .inl ⟨rfl, _, .inl (.inl (s4 _ _ hD3))⟩, .str z, rfl, D2, _, z, rfl, rfl, .inl (.inl (s4 _ _ hD3)), _, 2, rfl, rfl, _, h3, small1000 (by rw [List.length_replicate]; omega), Same.put s4 nD3, ?_⟩⟩
    rw [cc]
    dsimp only
    rw [decide_eq_true (by omega), upd_same, List.replicate_succ']
  · rintro Hx ⟨s4, h3⟩
    refine ⟨D3, List.replicate (sortL.map V.str).length true, rfl, .inl (.inl (by rw [List.map_replicate]; exact h3)), ?_⟩
    rw [all_true]
    exact q _ ((sH.trans sH2).trans s4)
end
end Lw

set_option Elab.async false
set_option linter.all false
set_option maxRecDepth 100000
set_option maxHeartbeats 4000000
namespace Lw
open PySem PySem.Spec PyProof.Rows L2
theorem TV.of {H : Hp} {A : Addr → Prop} : ∀ {t : Tst} {v : V}, DT H A v t.tree → TV H v t
  | .is f ws, v, x => by
    obtain ⟨a, xs, rfl, h, _, y⟩ := x.tupI
    cases y with
    | cons p r =>
      cases p
      cases r with
      | cons p r =>
        cases p
        cases r with
        | cons p r =>
          cases r
          obtain ⟨l, ys, rfl, hl, _, z⟩ := p.lstI
          rw [DTs.strs z] at hl
          exact .is h hl
  | .non f, v, x => by
    obtain ⟨a, xs, rfl, h, _, y⟩ := x.tupI
    cases y with
    | cons p r =>
      cases p
      cases r with
      | cons p r =>
        cases p
        cases r
        exact .non h
  | .nt t, v, x => by
    obtain ⟨a, xs, rfl, h, _, y⟩ := x.tupI
    cases y with
    | cons p r =>
      cases p
      cases r with
      | cons p r =>
        cases r
        exact .nt h (TV.of p)
theorem fldAt_of {fs : Flds} (nd : (fs.map (·.1)).Nodup) {z : Str} {fl : Fld} (m : (z, fl) ∈ fs) : fldAt fs z = some fl := by
  induction fs with
  | nil => cases m
  | cons p r ih =>
    rw [List.map_cons, List.nodup_cons] at nd
    unfold fldAt
    rcases List.mem_cons.mp m with h | h
    · rw [← h, List.find?_cons_of_pos (by exact decide_eq_true rfl)]
      rfl
    · have ne : ¬ p.1 = z := fun q => nd.1 (by rw [q]; exact List.mem_map_of_mem (f := (·.1)) h)
      rw [List.find?_cons_of_neg (by rw [decide_eq_true_eq]; exact ne)]
      exact ih nd.2 h
theorem fldAt_name {fs : Flds} {z : Str} {fl : Fld} (e : fldAt fs z = some fl) : z ∈ fs.map (·.1) := by
  unfold fldAt at e
  obtain ⟨p, h1, h2⟩ := Option.map_eq_some_iff.mp e
  have h3 := List.mem_of_find?_eq_some h1
  have h4 : p.1 = z := of_decide_eq_true (List.find?_some (p := fun p : Str × Fld => decide (p.1 = z)) h1)
  rw [← h4]
  exact List.mem_map_of_mem h3
theorem in_strs {z : Str} {vs : List Str} (m : z ∈ vs) : inV (V.str z) (vs.map V.str) = true := by
  unfold inV
  rw [List.any_eq_true]
  exact ⟨V.str z, List.mem_map_of_mem m, by simp [eqV]⟩
abbrev sIsNot : Stmt := topS 27
abbrev sInside : Stmt := topS 26
abbrev sSortOf : Stmt := topS 24
abbrev sInner : Stmt := topS 29
abbrev sTs : Stmt := topS 28
abbrev NInner : List Str := ["fields", "thing", "words", "word"]
abbrev NTs : List Str := ["fields", "thing", "test"]
def Tst.isNt : Tst → Bool
  | .nt _ => true
  | _ => false
section
variable {P : Program} {w : World} {K : PySem.W.Frag} {mg : Str → Option Value} {base : Heap}
theorem scIsNot : FnScope ["thing"] ["thing"] (defScope sIsNot) := ⟨rfl, rfl, rfl, by decide +kernel, rfl, by decide +kernel, by decide +kernel⟩
def spIsNot : Sp := fun vs H Q _ => ∃ (v : V) (t : Tst), vs = [v] ∧ TV H v t ∧ Q (.bl t.isNt) H
theorem ok_isnot {f : Addr} {fd : FuncData} (F : Fun K "_is_not" "_is_not" sIsNot f fd) (mis : mg "isinstance" = none) (mtup : mg "tuple" = none) (mlen : mg "len" = none) : FnOk P w K mg base CX0 1 f fd ["thing"] spIsNot := by
  refine F.ok scIsNot (fun vs H Q E h => ?_) (fun cdv A outer s H vs Q E hr h => ?_)
  · obtain ⟨v, t, rfl, _⟩ := h
    rfl
  obtain ⟨v, t, rfl, tv, q⟩ := h
  refine ⟨_, pss_one (ps_ret (pe_and (pe_callB call_isi (by rfl) mis (by decide +kernel) (pa_cons (pv 0) (pa_cons (pe_bltn (v := .ty "tuple") (by rfl) mtup (by decide +kernel) rfl) pa_nil)))
    (pe_and (pe_cmpR op_eq (pe_callB call_len_seq (by rfl) mlen (by decide +kernel) (pa_cons (pv 0) pa_nil)) pe_int (nomark _)) (pe_one (pe_cmpR op_eq (pe_ix ix_tup (pv 0) pe_int (fun _ _ => rfl)) pe_str (nomark _)))))), ?_⟩
  have kt : PySem.W.kitOne K (.type "tuple") (.type "tuple") = some true := kit_ty (by rfl)
  cases tv with
  | @is t l f ws a b => exact ⟨.ref t, rfl, .ref t, .ty "tuple", .type "tuple", .type "tuple", true, rfl, .ty _, .base (.tup a), kt, true, rfl, tt_if rfl ⟨.ref t, rfl, t, _, rfl, .inr (.inl (.inl a)), rfl, _, rfl, ff_if rfl q⟩⟩
  | @non t f a => exact ⟨.ref t, rfl, .ref t, .ty "tuple", .type "tuple", .type "tuple", true, rfl, .ty _, .base (.tup a), kt, true, rfl, tt_if rfl ⟨.ref t, rfl, t, _, rfl, .inr (.inl (.inl a)), rfl, _, rfl, tt_if rfl ⟨.ref t, rfl, t, _, 0, _, rfl, rfl, .inl (.inl a), atI_nat (j := 0) rfl, rfl, q⟩⟩⟩
  | @nt t v' s' a bb => exact ⟨.ref t, rfl, .ref t, .ty "tuple", .type "tuple", .type "tuple", true, rfl, .ty _, .base (.tup a), kt, true, rfl, tt_if rfl ⟨.ref t, rfl, t, _, rfl, .inr (.inl (.inl a)), rfl, _, rfl, tt_if rfl ⟨.ref t, rfl, t, _, 0, _, rfl, rfl, .inl (.inl a), atI_nat (j := 0) rfl, rfl, q⟩⟩⟩
theorem scInside : FnScope ["test", "inner", "_"] ["test"] (defScope sInside) := ⟨rfl, rfl, rfl, by decide +kernel, rfl, by decide +kernel, by decide +kernel⟩
def spInside : Sp := fun vs H Q _ => ∃ (v : V) (t : Tst), vs = [v] ∧ TV H v t ∧ t.depth ≤ 4 ∧ ∀ v', TV H v' t.core → t.core.isNt = false → Q v' H
theorem core_no : ∀ t : Tst, t.core.isNt = false
  | .is _ _ => rfl
  | .non _ => rfl
  | .nt t => core_no t
theorem core_it : ∀ t : Tst, t.isNt = false → t.core = t
  | .is _ _, _ => rfl
  | .non _, _ => rfl
  | .nt _, h => nomatch h
theorem ok_inside {f f1 : Addr} {fd fd1 : FuncData} {tk : Tok} (F : Fun K "inside_nots" "inside_nots" sInside f fd) (G : FnOk P w K mg base CX0 1 f1 fd1 ["thing"] spIsNot) (m1 : mg "_is_not" = some (.ref f1)) (k1 : PySem.W.keepIn K (.ref f1) = true) (b1 : Binds K fd1 ["thing"] [])
    (mMost : mg "MOST_NOTS" = some (.int 4 tk)) (mrange : mg "range" = none) : FnOk P w K mg base CX0 2 f fd ["test"] spInside := by
  refine F.ok scInside (fun vs H Q E h => ?_) (fun cdv A outer s H vs Q E hr h => ?_)
  · obtain ⟨v, t, rfl, _⟩ := h
    rfl
  obtain ⟨v, t, rfl, tv, dp, q⟩ := h
  refine ⟨_, pss_cons (ps_set (i := 1) scInside.nd rfl (.inl rfl) (pv 0))
    (pss_cons (ps_for PassesOwn.never rfl (pi_range1 (by rfl) mrange (pa_cons (pe_glob (v := .int 4) (by rfl) mMost ⟨tk, rfl⟩) pa_nil)) (pg_name (i := 2) scInside.nd rfl (.inl rfl))
      (pss_one (ps_if (pt_val (pe_call G hr (by rfl) m1 k1 b1 .nil pass0 (pa_cons (pv 1) pa_nil))) (pss_one (ps_set (i := 1) scInside.nd rfl (.inl rfl) (pe_ix ix_tup (pv 1) pe_int (fun _ _ => rfl)))) pss_nil)))
    (pss_cons (ps_if (pt_val (pe_call G hr (by rfl) m1 k1 b1 .nil pass0 (pa_cons (pv 1) pa_nil))) (pss_one (ps_ret pe_non)) pss_nil) (pss_one (ps_ret (pv 1))))), ?_⟩
  refine ⟨v, rfl, 4, rfl, by decide, by decide, for_range (lo := 0) (n := 4) (fun i σ H3 => ∃ (u : V) (t' : Tst) (v2 : Option V), H3 = H ∧ σ = [some v, some u, v2] ∧ TV H u t' ∧ t'.core = t.core ∧ t'.depth ≤ 4 - i) ⟨v, t, none, rfl, rfl, tv, rfl, dp⟩ ?_ ?_⟩
  · rintro i σ H3 hi ⟨u, t', v2, rfl, rfl, tu, ec, ed⟩
    refine ⟨u, rfl, u, t', rfl, tu, _, rfl, ?_⟩
    cases tu with
    | @is t1 l f ws a b => exact ff_if rfl ⟨_, _, _, rfl, rfl, .is a b, ec, Nat.zero_le _⟩
    | @non t1 f a => exact ff_if rfl ⟨_, _, _, rfl, rfl, .non a, ec, Nat.zero_le _⟩
    | @nt t1 v' s' a bb => exact tt_if rfl ⟨.ref t1, rfl, t1, _, 1, _, rfl, rfl, .inl (.inl a), atI_nat (j := 1) rfl, v', s', _, rfl, rfl, bb, ec, by have : s'.depth + 1 ≤ 4 - i := ed; omega⟩
  · rintro σ H3 ⟨u, t', v2, rfl, rfl, tu, ec, ed⟩
    have no : t'.isNt = false := by
      cases t' with
      | nt s' => exact absurd (show s'.depth + 1 ≤ 0 from ed) (by omega)
      | _ => rfl
    refine ⟨u, rfl, u, t', rfl, tu, _, rfl, ff_if no ⟨u, rfl, q u ?_ (core_no t)⟩⟩
    rw [← ec, core_it t' no]
    exact tu

theorem scSortOf : FnScope ["fields", "name"] ["fields", "name"] (defScope sSortOf) := ⟨rfl, rfl, rfl, by decide +kernel, rfl, by decide +kernel, by decide +kernel⟩
def spSort1 : Sp := fun vs H Q _ => ∃ (f : Addr) (fs : Flds) (z : Str) (fl : Fld) (A : Addr → Prop), vs = [.ref f, .str z] ∧ DT H A (.ref f) (fieldsT fs) ∧ NameOk z ∧ fldAt fs z = some fl ∧ ∀ H', Same H H' → Q (.str fl.sort) H'
theorem ok_sortof {f f1 : Addr} {fd fd1 : FuncData} (F : Fun K "sort_of" "sort_of" sSortOf f fd) (G1 : FnOk P w K mg base CX0 1 f1 fd1 ["thing"] spName1) (m1 : mg "is_name" = some (.ref f1)) (k1 : PySem.W.keepIn K (.ref f1) = true) (b1 : Binds K fd1 ["thing"] []) : FnOk P w K mg base CX0 2 f fd ["fields", "name"] spSort1 := by
  refine F.ok scSortOf (fun vs H Q E h => ?_) (fun cdv A outer s H vs Q E hr h => ?_)
  · obtain ⟨f, fs, z, fl, A, rfl, _⟩ := h
    rfl
  obtain ⟨f, fs, z, fl, A, rfl, x, okz, e, q⟩ := h
  refine ⟨_, (pss_cons (ps_if (PW.pt (pw_and (pt_val (pe_call G1 (hr.mono (by decide)) (by rfl) m1 k1 b1 .nil pass0 (pa_cons (pv 1) pa_nil))) (pw_and1 (pt_cmp (pc_din (hu_of hr) (pv 1) (pv 0)))))) (pss_one (ps_ret (pe_ix ix_tup (pe_dget (hu_of hr) (pv 0) (pv 1) (fun _ _ => rfl)) pe_int (fun _ _ => rfl)))) pss_nil) (pss_one (ps_ret pe_non))), ?_⟩
  refine ⟨.str z, rfl, z, rfl, okz, fun H1 s1 => ⟨_, rfl, tt_if rfl ?_⟩⟩
  obtain ⟨v, fl', dg, e', dv⟩ := fields_get (x.same s1) (fldAt_name e)
  rw [e] at e'
  cases e'
  obtain ⟨ta, xs, rfl, ht, _⟩ := fld_sort dv
  exact ⟨.str z, rfl, _, rfl, f, _, rfl, dg, _, rfl, tt_if rfl ⟨_, rfl, .str z, rfl, f, _, rfl, dg, ta, _, 0, .str fl.sort, rfl, rfl, .inl (.inl ht), atI_nat (j := 0) rfl, q H1 s1⟩⟩
theorem scInner : FnScope NInner ["fields", "thing"] (defScope sInner) := ⟨rfl, rfl, rfl, by decide +kernel, rfl, by decide +kernel, by decide +kernel⟩
def spInner1 : Sp := fun vs H Q _ => ∃ (f : Addr) (v : V) (fs : Flds) (ns : List Str) (t : Tst) (A : Addr → Prop), vs = [.ref f, v] ∧ DT H A (.ref f) (fieldsT fs) ∧ FldsOk ns fs ∧ TV H v t ∧ TstC fs 4 t ∧ ∀ H', Same H H' → Q (.bl true) H'
theorem ok_inner {f f4 : Addr} {fd fd4 : FuncData} (F : Fun K "_is_inner_test" "_is_inner_test" sInner f fd) (G4 : FnOk P w K mg base CX0 2 f4 fd4 ["fields", "name"] spSort1) (m4 : mg "sort_of" = some (.ref f4)) (k4 : PySem.W.keepIn K (.ref f4) = true) (b4 : Binds K fd4 ["fields", "name"] [])
    (mi : mg "isinstance" = none) (mt : mg "tuple" = none) (ml : mg "list" = none) (mlen : mg "len" = none) (mall : mg "all" = none) : FnOk P w K mg base CX0 3 f fd ["fields", "thing"] spInner1 := by
  refine F.ok scInner (fun vs H Q E h => ?_) (fun cdv A outer s H vs Q E hr h => ?_)
  · obtain ⟨f, v, fs, ns, t, A, rfl, _⟩ := h
    rfl
  obtain ⟨f, v, fs, ns, t, A, rfl, x, o, tv, tc, q⟩ := h
  refine ⟨_, (pss_cons (ps_if (pt_not (pt_val (pe_callB call_isi (by rfl) mi (by decide +kernel) (pa_cons (pv 1) (pa_cons (pe_bltn (v := .ty "tuple") (by rfl) mt (by decide +kernel) rfl) pa_nil))))) (pss_one (ps_ret pe_bl)) pss_nil) (pss_cons (ps_if (pt_cmpR op_eq (pe_callB call_len_seq (by rfl) mlen (by decide +kernel) (pa_cons (pv 1) pa_nil)) pe_int (nomark _)) (pss_one (ps_ret (pe_and (pe_cmpR op_eq (pe_ix ix_tup (pv 1) pe_int (fun _ _ => rfl)) pe_str (nomark _)) (pe_one (pe_cmpR (r := rIn K false) op_in_seq (pe_call G4 (hr.mono (by decide)) (by rfl) m4 k4 b4 .nil pass0 (pa_cons (pv 0) (pa_cons (pe_ix ix_tup (pv 1) pe_int (fun _ _ => rfl)) pa_nil))) (pe_tup (pa_cons pe_str (pa_cons pe_str pa_nil))) (by rfl)))))) pss_nil) (pss_cons (ps_if (PW.pt (pw_or (pt_cmpR op_ne (pe_callB call_len_seq (by rfl) mlen (by decide +kernel) (pa_cons (pv 1) pa_nil)) pe_int (nomark _)) (pw_or (pt_cmpR op_ne (pe_ix ix_tup (pv 1) pe_int (fun _ _ => rfl)) pe_str (nomark _)) (pw_or1 (pt_cmpR op_ne (pe_call G4 (hr.mono (by decide)) (by rfl) m4 k4 b4 .nil pass0 (pa_cons (pv 0) (pa_cons (pe_ix ix_tup (pv 1) pe_int (fun _ _ => rfl)) pa_nil))) pe_str (nomark _)))))) (pss_one (ps_ret pe_bl)) pss_nil) (pss_cons (ps_if (PW.pt (pw_or (pt_not (pt_val (pe_callB call_isi (by rfl) mi (by decide +kernel) (pa_cons (pe_ix ix_tup (pv 1) pe_int (fun _ _ => rfl)) (pa_cons (pe_bltn (v := .ty "list") (by rfl) ml (by decide +kernel) rfl) pa_nil))))) (pw_or1 (pt_cmpR op_eq (pe_callB call_len_seq (by rfl) mlen (by decide +kernel) (pa_cons (pe_ix ix_tup (pv 1) pe_int (fun _ _ => rfl)) pa_nil)) pe_int (nomark _))))) (pss_one (ps_ret pe_bl)) pss_nil) (pss_cons (ps_set (i := 2) scInner.nd rfl (.inr rfl) (pe_ix ix_tup (pe_dget (hu_of hr) (pv 0) (pe_ix ix_tup (pv 1) pe_int (fun _ _ => rfl)) (fun _ _ => rfl)) pe_int (fun _ _ => rfl))) (pss_one (ps_ret (pe_callB (cr_all rfl) (by rfl) mall (by decide +kernel) (pa_cons (pe_lc (own := [("word", 3)]) (g := gName 3) (tt := tYes) rfl scInner.nd (pi_list (pe_ix ix_tup (pv 1) pe_int (fun _ _ => rfl))) (blkOk_by (N := NInner) (sc := defScope sInner) (by decide +kernel)) (fun _ _ _ _ _ => pg_name (i := 3) scInner.nd rfl (Or.inl rfl)) (fun _ _ _ _ _ => pts_nil) (fun _ _ _ _ _ => (pe_cmpR (r := rIn K false) op_in_seq (pv 3) (pv 2) (by rfl)))) pa_nil))))))))), ?_⟩
  cases tc with
  | @is y ws vs a nb c sub okw =>
    cases tv with
    | @is t l _ _ ht hl =>
      have at0 : ∀ {H'}, Same H H' → SqT K H' t [.str "is", .str y, .ref l] := fun s => .inl (.inl (s _ _ ht))
      have ea := fldAt_of o.nd a
      have oky : NameOk y := o.ok _ a
      refine ⟨_, rfl, _, .ty "tuple", _, _, true, rfl, .ty _, .base (.tup ht), rfl, _, rfl, ff_if rfl ?_⟩
      refine ⟨_, rfl, t, _, rfl, .inr (at0 fun _ _ h => h), rfl, _, rfl, ff_if (by show decide (V.int ((3 : Nat) : Int) = V.int 2) = false; decide +kernel) ?_⟩
      refine ⟨_, rfl, t, _, rfl, .inr (at0 fun _ _ h => h), rfl, _, rfl, ff_if (by show (!decide (V.int ((3 : Nat) : Int) = V.int 3)) = false; decide +kernel) ?_⟩
      refine ⟨_, rfl, t, _, 0, _, rfl, rfl, at0 (fun _ _ h => h), atI_nat (j := 0) rfl, rfl, _, rfl, ff_if (by decide +kernel) ?_⟩
      refine ⟨_, rfl, _, rfl, t, _, 1, _, rfl, rfl, at0 (fun _ _ h => h), atI_nat (j := 1) rfl, f, fs, y, .mk vs, A, rfl, x, oky, ea, fun H1 s1 => ⟨rfl, _, rfl, ff_if (by show (!decide (V.str "mark" = V.str "mark")) = false; decide +kernel) ?_⟩⟩
      have hl1 := s1 _ _ hl
      refine ⟨_, rfl, t, _, 2, .ref l, rfl, rfl, at0 s1, atI_nat (j := 2) rfl, _, .ty "list", _, _, true, rfl, .ty _, .base (.lst hl1), rfl, _, rfl, ff_if rfl ?_⟩
      refine ⟨_, rfl, t, _, 2, .ref l, rfl, rfl, at0 s1, atI_nat (j := 2) rfl, l, _, rfl, .inl (.inl (.inl hl1)), rfl, _, rfl, ff_if ?_ ?_⟩
      · refine decide_eq_false fun h => nb ?_
        injection h with h
        rw [List.length_map] at h
        exact List.eq_nil_of_length_eq_zero (by omega)
      obtain ⟨v, fl', dg, e', dv⟩ := fields_get (x.same s1) (fldAt_name ea)
      rw [ea] at e'
      cases e'
      obtain ⟨ta, xs, rfl, hta, _, dd⟩ := dv.tupI
      cases dd with
      | cons p r =>
        cases p
        cases r with
        | cons p r =>
          cases r
          obtain ⟨lw, ys, rfl, hlw, _, z⟩ := p.lstI
          rw [DTs.strs z] at hlw
          refine ⟨_, rfl, _, rfl, t, _, 1, _, rfl, rfl, at0 s1, atI_nat (j := 1) rfl, f, _, rfl, dg, ta, _, 1, .ref lw, rfl, rfl, .inl (.inl hta), atI_nat (j := 1) rfl, ?_⟩
          refine ⟨_, rfl, t, _, 2, .ref l, rfl, rfl, at0 s1, atI_nat (j := 2) rfl, l, rfl, ⟨_, .inl (.inl hl1)⟩, fun D nD => ?_⟩
          refine lc_list (K := K) (a := l) (xs := ws.map V.str) (fun i Hx => Same H1 Hx ∧ Hx D = some (.lst (List.replicate i (V.bl true)))) ⟨same_new nD _, upd_same⟩ (fun i Hx _ p => .inl (.inl (p.1 _ _ hl1))) ?_ ?_
          · rintro i u Hx hx ⟨s2, hD⟩
            obtain ⟨z0, hz, rfl⟩ := map_get hx
            have il : i < ws.length := (List.getElem?_eq_some_iff.mp hz).1
            have iv : inV (V.str z0) (vs.map V.str) = true := in_strs (sub z0 (List.mem_of_getElem? hz))
            refine ⟨rfl, yes_if ⟨_, rfl, _, rfl, lw, _, rfl, .inl (.inl (.inl (s2 _ _ hlw))), rfl, flat_strs' vs, _, hD, small1000 (by rw [List.length_replicate]; omega), Same.put s2 nD, ?_⟩⟩
            rw [iv, upd_same, List.replicate_succ']
            rfl
          · rintro Hx ⟨s2, hD⟩
            refine ⟨D, List.replicate (ws.map V.str).length true, rfl, .inl (.inl (by rw [List.map_replicate]; exact hD)), ?_⟩
            rw [all_true]
            exact q _ (s1.trans s2)
  | @lk y n a =>
    cases tv with
    | @non t _ ht =>
      have at0 : SqT K H t [.str "none", .str y] := .inl (.inl ht)
      refine ⟨_, rfl, _, .ty "tuple", _, _, true, rfl, .ty _, .base (.tup ht), rfl, _, rfl, ff_if rfl ?_⟩
      refine ⟨_, rfl, t, _, rfl, .inr at0, rfl, _, rfl, tt_if (by show decide (V.int ((2 : Nat) : Int) = V.int 2) = true; decide +kernel) ?_⟩
      refine ⟨_, rfl, t, _, 0, _, rfl, rfl, at0, atI_nat (j := 0) rfl, rfl, true, by decide +kernel, tt_if rfl ?_⟩
      refine ⟨_, rfl, _, rfl, t, _, 1, _, rfl, rfl, at0, atI_nat (j := 1) rfl, f, fs, y, .lk n, A, rfl, x, o.ok _ a, fldAt_of o.nd a, fun H1 s1 => ⟨small (by show 2 ≤ 1000; decide), fun p np => ⟨p, _, rfl, .inr (.inl (.inl upd_same)), rfl, rfl, ?_⟩⟩⟩
      exact q _ (s1.trans (same_new np _))
  | @tg y a =>
    cases tv with
    | @non t _ ht =>
      have at0 : SqT K H t [.str "none", .str y] := .inl (.inl ht)
      refine ⟨_, rfl, _, .ty "tuple", _, _, true, rfl, .ty _, .base (.tup ht), rfl, _, rfl, ff_if rfl ?_⟩
      refine ⟨_, rfl, t, _, rfl, .inr at0, rfl, _, rfl, tt_if (by show decide (V.int ((2 : Nat) : Int) = V.int 2) = true; decide +kernel) ?_⟩
      refine ⟨_, rfl, t, _, 0, _, rfl, rfl, at0, atI_nat (j := 0) rfl, rfl, true, by decide +kernel, tt_if rfl ?_⟩
      refine ⟨_, rfl, _, rfl, t, _, 1, _, rfl, rfl, at0, atI_nat (j := 1) rfl, f, fs, y, .tg, A, rfl, x, o.ok _ a, fldAt_of o.nd a, fun H1 s1 => ⟨small (by show 2 ≤ 1000; decide), fun p np => ⟨p, _, rfl, .inr (.inl (.inl upd_same)), rfl, rfl, ?_⟩⟩⟩
      exact q _ (s1.trans (same_new np _))
theorem scTs : FnScope NTs ["fields", "thing"] (defScope sTs) := ⟨rfl, rfl, rfl, by decide +kernel, rfl, by decide +kernel, by decide +kernel⟩
def spTs1 : Sp := fun vs H Q _ => ∃ (f : Addr) (v : V) (fs : Flds) (ns : List Str) (ts : List Tst) (A B : Addr → Prop), vs = [.ref f, v] ∧ DT H A (.ref f) (fieldsT fs) ∧ FldsOk ns fs ∧ DT H B v (testsT ts) ∧ TstsOk fs ts ∧ ∀ H', Same H H' → Q (.bl true) H'
theorem ok_ts {f f5 f6 : Addr} {fd fd5 fd6 : FuncData} (F : Fun K "is_tests" "is_tests" sTs f fd) (G5 : FnOk P w K mg base CX0 3 f5 fd5 ["fields", "thing"] spInner1) (m5 : mg "_is_inner_test" = some (.ref f5)) (k5 : PySem.W.keepIn K (.ref f5) = true) (b5 : Binds K fd5 ["fields", "thing"] [])
    (G6 : FnOk P w K mg base CX0 2 f6 fd6 ["test"] spInside) (m6 : mg "inside_nots" = some (.ref f6)) (k6 : PySem.W.keepIn K (.ref f6) = true) (b6 : Binds K fd6 ["test"] [])
    (mi : mg "isinstance" = none) (ml : mg "list" = none) (mall : mg "all" = none) : FnOk P w K mg base CX0 4 f fd ["fields", "thing"] spTs1 := by
  refine F.ok scTs (fun vs H Q E h => ?_) (fun cdv A outer s H vs Q E hr h => ?_)
  · obtain ⟨f, v, fs, ns, ts, A, B, rfl, _⟩ := h
    rfl
  obtain ⟨f, v, fs, ns, ts, A, B, rfl, x, o, d, ok, q⟩ := h
  refine ⟨_, (pss_cons (ps_if (pt_not (pt_val (pe_callB call_isi (by rfl) mi (by decide +kernel) (pa_cons (pv 1) (pa_cons (pe_bltn (v := .ty "list") (by rfl) ml (by decide +kernel) rfl) pa_nil))))) (pss_one (ps_ret pe_bl)) pss_nil) (pss_one (ps_ret (pe_callB (cr_all rfl) (by rfl) mall (by decide +kernel) (pa_cons (pe_lc (own := [("test", 2)]) (g := gName 2) (tt := tYes) rfl scTs.nd (pi_list (pv 1)) (blkOk_by (N := NTs) (sc := defScope sTs) (by decide +kernel)) (fun _ _ _ _ _ => pg_name (i := 2) scTs.nd rfl (Or.inl rfl)) (fun _ _ _ _ _ => pts_nil) (fun _ _ _ _ _ => (pe_call G5 (hr.mono (by decide)) (by rfl) m5 k5 b5 .nil pass0 (pa_cons (pv 0) (pa_cons (pe_call G6 (hr.mono (by decide)) (by rfl) m6 k6 b6 .nil pass0 (pa_cons (pv 2) pa_nil)) pa_nil))))) pa_nil))))), ?_⟩
  obtain ⟨l, vs, rfl, hl, _, dts⟩ := d.lstI
  have lv : vs.length = ts.length := by
    have h := dts.len
    rw [List.length_map] at h
    exact h
  have l9 := ok.2
  refine ⟨_, rfl, _, .ty "list", _, _, true, rfl, .ty _, .base (.lst hl), rfl, _, rfl, ff_if rfl ?_⟩
  refine ⟨_, rfl, l, rfl, ⟨_, .inl (.inl hl)⟩, fun D nD => ?_⟩
  refine lc_list (K := K) (a := l) (xs := vs) (fun i Hx => Same H Hx ∧ Hx D = some (.lst (List.replicate i (V.bl true)))) ⟨same_new nD _, upd_same⟩ (fun i Hx _ p => .inl (.inl (p.1 _ _ hl))) ?_ ?_
  · rintro i u Hx hx ⟨s1, hD⟩
    obtain ⟨tt, htt, dt⟩ := dts.get hx
    rw [List.getElem?_map] at htt
    obtain ⟨t, ht, rfl⟩ := Option.map_eq_some_iff.mp htt
    have il : i < ts.length := (List.getElem?_eq_some_iff.mp ht).1
    have okt := ok.1 t (List.mem_of_getElem? ht)
    have dep := okt.dep
    refine ⟨rfl, yes_if ⟨_, rfl, _, rfl, u, t, rfl, TV.of (dt.same s1), by omega, fun v' tv' _ => ⟨f, v', fs, ns, t.core, A, rfl, x.same s1, o, tv', okt.core, fun H2 s2 => ?_⟩⟩⟩
    refine ⟨_, s2 _ _ hD, small1000 (by rw [List.length_replicate]; omega), Same.put (s1.trans s2) nD, ?_⟩
    rw [upd_same, List.replicate_succ']
  · rintro Hx ⟨s1, hD⟩
    refine ⟨D, List.replicate vs.length true, rfl, .inl (.inl (by rw [List.map_replicate]; exact hD)), ?_⟩
    rw [all_true]
    exact q _ s1
end
end Lw

set_option Elab.async false
set_option linter.all false
set_option maxRecDepth 100000
set_option maxHeartbeats 4000000
namespace Lw
open PySem PySem.Spec PyProof.Rows L2
theorem tabAt_of {tabs : Tabs} (nd : (tabs.map (·.1)).Nodup) {z : Str} {fs : Flds} (m : (z, fs) ∈ tabs) : tabAt tabs z = some fs := by
  induction tabs with
  | nil => cases m
  | cons p r ih =>
    rw [List.map_cons, List.nodup_cons] at nd
    unfold tabAt
    rcases List.mem_cons.mp m with h | h
    · rw [← h, List.find?_cons_of_pos (by exact decide_eq_true rfl)]
      rfl
    · have ne : ¬ p.1 = z := fun q => nd.1 (by rw [q]; exact List.mem_map_of_mem (f := (·.1)) h)
      rw [List.find?_cons_of_neg (by rw [decide_eq_true_eq]; exact ne)]
      exact ih nd.2 h
/-- a table of tables, in the heap -/
theorem tab_get {H : Hp} {A : Addr → Prop} {T : Addr} {tabs : Tabs} {z : Str} {fs : Flds} (x : DT H A (.ref T) (tablesT tabs)) (nd : (tabs.map (·.1)).Nodup) (m : (z, fs) ∈ tabs) : ∃ f, DGet H T (.str z) (some (.ref f)) ∧ DT H A (.ref f) (fieldsT fs) := by
  obtain ⟨f, fs', dg, e, _, d⟩ := tables_get x (List.mem_map_of_mem (f := (·.1)) m)
  rw [tabAt_of nd m] at e
  cases e
  exact ⟨f, dg, d⟩
theorem fld_get {H : Hp} {A : Addr → Prop} {f : Addr} {fs : Flds} {z : Str} {fl : Fld} (x : DT H A (.ref f) (fieldsT fs)) (nd : (fs.map (·.1)).Nodup) (m : (z, fl) ∈ fs) : ∃ v, DGet H f (.str z) (some v) ∧ DT H A v fl.tree := by
  obtain ⟨v, fl', dg, e, d⟩ := fields_get x (List.mem_map_of_mem (f := (·.1)) m)
  rw [fldAt_of nd m] at e
  cases e
  exact ⟨v, dg, d⟩
theorem lk_at {H : Hp} {A : Addr → Prop} {v : V} {n : Str} (x : DT H A v (Fld.lk n).tree) : ∃ a, v = .ref a ∧ H a = some (.tup [.str "link", .str n]) := by
  obtain ⟨a, xs, rfl, h, _, y⟩ := x.tupI
  cases y with
  | cons p r =>
    cases p
    cases r with
    | cons p r =>
      cases p
      cases r
      exact ⟨a, rfl, h⟩
abbrev sLinkRule : Stmt := topS 38
abbrev sRule1 : Stmt := topS 37
section
variable {P : Program} {w : World} {K : PySem.W.Frag} {mg : Str → Option Value} {base : Heap}
theorem scLinkRule : FnScope ["tables", "fields", "thing"] ["tables", "fields", "thing"] (defScope sLinkRule) := ⟨rfl, rfl, rfl, by decide +kernel, rfl, by decide +kernel, by decide +kernel⟩
def spLinkRule1 : Sp := fun vs H Q _ => ∃ (T f a : Addr) (v4 v5 : V) (tabs : Tabs) (fs fs2 : Flds) (n fd n2 tb : Str) (x y : List Tst) (A B : Addr → Prop), vs = [.ref T, .ref f, .ref a] ∧ DT H A (.ref T) (tablesT tabs) ∧ TabsOk tabs ∧ DT H A (.ref f) (fieldsT fs) ∧ FldsOk (tabs.map (·.1)) fs ∧
  H a = some (.tup [.str n, .str "link", .str tb, .str fd, v4, v5]) ∧ DT H B v4 (testsT x) ∧ DT H B v5 (testsT y) ∧ (fd, .lk n2) ∈ fs ∧ (n2, fs2) ∈ tabs ∧ TstsOk fs x ∧ TstsOk fs2 y ∧ ∀ H', Same H H' → Q (.bl true) H'
theorem ok_linkrule {f f4 f7 : Addr} {fd fd4 fd7 : FuncData} (F : Fun K "_is_link_rule" "_is_link_rule" sLinkRule f fd) (G4 : FnOk P w K mg base CX0 2 f4 fd4 ["fields", "name"] spSort1) (m4 : mg "sort_of" = some (.ref f4)) (k4 : PySem.W.keepIn K (.ref f4) = true) (b4 : Binds K fd4 ["fields", "name"] [])
    (G7 : FnOk P w K mg base CX0 4 f7 fd7 ["fields", "thing"] spTs1) (m7 : mg "is_tests" = some (.ref f7)) (k7 : PySem.W.keepIn K (.ref f7) = true) (b7 : Binds K fd7 ["fields", "thing"] []) : FnOk P w K mg base CX0 5 f fd ["tables", "fields", "thing"] spLinkRule1 := by
  refine F.ok scLinkRule (fun vs H Q E h => ?_) (fun cdv A outer s H vs Q E hr h => ?_)
  · obtain ⟨T, f, a, v4, v5, tabs, fs, fs2, n, fd, n2, tb, x, y, A, B, rfl, _⟩ := h
    rfl
  obtain ⟨T, f, a, v4, v5, tabs, fs, fs2, n, fd, n2, tb, x, y, A, B, rfl, dT, okT, dF, okF, ha, d4, d5, mf, mt, tx, ty, q⟩ := h
  refine ⟨_, (pss_cons (ps_if (PW.pt (pw_or (pt_cmpR op_ne (pe_call G4 (hr.mono (by decide)) (by rfl) m4 k4 b4 .nil pass0 (pa_cons (pv 1) (pa_cons (pe_ix ix_tup (pv 2) pe_int (fun _ _ => rfl)) pa_nil))) pe_str (nomark _)) (pw_or1 (pt_not (pt_val (pe_call G7 (hr.mono (by decide)) (by rfl) m7 k7 b7 .nil pass0 (pa_cons (pv 1) (pa_cons (pe_ix ix_tup (pv 2) pe_int (fun _ _ => rfl)) pa_nil)))))))) (pss_one (ps_ret pe_bl)) pss_nil) (pss_one (ps_ret (pe_call G7 (hr.mono (by decide)) (by rfl) m7 k7 b7 .nil pass0 (pa_cons (pe_dget (hu_of hr) (pv 0) (pe_ix ix_tup (pe_dget (hu_of hr) (pv 1) (pe_ix ix_tup (pv 2) pe_int (fun _ _ => rfl)) (fun _ _ => rfl)) pe_int (fun _ _ => rfl)) (fun _ _ => rfl)) (pa_cons (pe_ix ix_tup (pv 2) pe_int (fun _ _ => rfl)) pa_nil)))))), ?_⟩
  have at0 : ∀ {H'}, Same H H' → SqT K H' a [.str n, .str "link", .str tb, .str fd, v4, v5] := fun s => .inl (.inl (s _ _ ha))
  refine ⟨_, rfl, _, rfl, a, _, 3, _, rfl, rfl, at0 (fun _ _ h => h), atI_nat (j := 3) rfl, f, fs, fd, .lk n2, A, rfl, dF, okF.ok _ mf, fldAt_of okF.nd mf, fun H1 s1 => ⟨rfl, _, rfl, ff_if (by show (!decide (V.str "link" = V.str "link")) = false; decide +kernel) ?_⟩⟩
  refine ⟨_, rfl, _, rfl, a, _, 4, _, rfl, rfl, at0 s1, atI_nat (j := 4) rfl, f, v4, fs, _, x, A, B, rfl, dF.same s1, okF, d4.same s1, tx, fun H2 s2 => ⟨_, rfl, ff_if rfl ?_⟩⟩
  have s12 := s1.trans s2
  obtain ⟨u, dg, du⟩ := fld_get (dF.same s12) okF.nd mf
  obtain ⟨ta, rfl, hta⟩ := lk_at du
  obtain ⟨f2, dg2, d2⟩ := tab_get (dT.same s12) okT.nd mt
  refine ⟨_, rfl, _, rfl, _, rfl, a, _, 3, _, rfl, rfl, at0 s12, atI_nat (j := 3) rfl, f, _, rfl, dg, ta, _, 1, .str n2, rfl, rfl, .inl (.inl hta), atI_nat (j := 1) rfl, T, _, rfl, dg2, ?_⟩
  exact ⟨_, rfl, a, _, 5, _, rfl, rfl, at0 s12, atI_nat (j := 5) rfl, f2, v5, fs2, _, y, A, B, rfl, d2, okT.val _ mt, d5.same s12, ty, fun H3 s3 => q H3 (s12.trans s3)⟩
/-- a rule's tuple -/
theorem rule_head {H : Hp} {B : Addr → Prop} {tabs : Tabs} {v : V} {n : Str} {r : RK} (d : DT H B v (ruleT (n, r))) (o : RKOk tabs r) : ∃ (a : Addr) (xs : List V) (tb : Str) (fs : Flds), v = .ref a ∧ H a = some (.tup xs) ∧ (tb, fs) ∈ tabs ∧ xs[0]? = some (.str n) ∧ xs[2]? = some (.str tb) ∧ (xs.length = 4 ∨ xs.length = 6) := by
  cases o with
  | @link tb fd n2 fs fs2 x y h l h2 tx ty =>
    obtain ⟨a, xs, e, ha, _, dd⟩ := d.tupI
    cases dd with
    | cons p1 q => cases p1; cases q with
      | cons p2 q => cases p2; cases q with
        | cons p3 q => cases p3; cases q with
          | cons p4 q => cases q with
            | cons p5 q => cases q with
              | cons p6 q => cases q; exact ⟨a, _, tb, fs, e, ha, h, rfl, rfl, .inr rfl⟩
  | @uniq tb fd fs h l =>
    obtain ⟨a, xs, e, ha, _, dd⟩ := d.tupI
    cases dd with
    | cons p1 q => cases p1; cases q with
      | cons p2 q => cases p2; cases q with
        | cons p3 q => cases p3; cases q with
          | cons p4 q => cases q; exact ⟨a, _, tb, fs, e, ha, h, rfl, rfl, .inl rfl⟩
  | @one tb fs x h tx =>
    obtain ⟨a, xs, e, ha, _, dd⟩ := d.tupI
    cases dd with
    | cons p1 q => cases p1; cases q with
      | cons p2 q => cases p2; cases q with
        | cons p3 q => cases p3; cases q with
          | cons p4 q => cases q; exact ⟨a, _, tb, fs, e, ha, h, rfl, rfl, .inl rfl⟩
  | @chk tb fs x h tx =>
    obtain ⟨a, xs, e, ha, _, dd⟩ := d.tupI
    cases dd with
    | cons p1 q => cases p1; cases q with
      | cons p2 q => cases p2; cases q with
        | cons p3 q => cases p3; cases q with
          | cons p4 q => cases q; exact ⟨a, _, tb, fs, e, ha, h, rfl, rfl, .inl rfl⟩
theorem tests4 {H : Hp} {B : Addr → Prop} {v : V} {n kd tb : Str} {t : Tr} (d : DT H B v (.tup [.str n, .str kd, .str tb, t])) : ∃ (a : Addr) (w : V), v = .ref a ∧ H a = some (.tup [.str n, .str kd, .str tb, w]) ∧ DT H B w t := by
  obtain ⟨a, xs, e, ha, _, dd⟩ := d.tupI
  cases dd with
  | cons p1 q => cases p1; cases q with
    | cons p2 q => cases p2; cases q with
      | cons p3 q => cases p3; cases q with
        | cons p4 q => cases q; exact ⟨a, _, e, ha, p4⟩
theorem tests6 {H : Hp} {B : Addr → Prop} {v : V} {n kd tb fd : Str} {t u : Tr} (d : DT H B v (.tup [.str n, .str kd, .str tb, .str fd, t, u])) : ∃ (a : Addr) (w w' : V), v = .ref a ∧ H a = some (.tup [.str n, .str kd, .str tb, .str fd, w, w']) ∧ DT H B w t ∧ DT H B w' u := by
  obtain ⟨a, xs, e, ha, _, dd⟩ := d.tupI
  cases dd with
  | cons p1 q => cases p1; cases q with
    | cons p2 q => cases p2; cases q with
      | cons p3 q => cases p3; cases q with
        | cons p4 q => cases p4; cases q with
          | cons p5 q => cases q with
            | cons p6 q => cases q; exact ⟨a, _, _, e, ha, p5, p6⟩
theorem len46 {xs : List V} (h : xs.length = 4 ∨ xs.length = 6) : (if true = true then !inV (V.int (xs.length : Nat)) [V.int 4, V.int 6] else inV (V.int (xs.length : Nat)) [V.int 4, V.int 6]) = false := by
  rcases h with e | e
  · rw [e]; decide +kernel
  · rw [e]; decide +kernel
theorem scRule1 : FnScope ["tables", "thing", "fields"] ["tables", "thing"] (defScope sRule1) := ⟨rfl, rfl, rfl, by decide +kernel, rfl, by decide +kernel, by decide +kernel⟩
def spRule1 : Sp := fun vs H Q _ => ∃ (T : Addr) (v : V) (tabs : Tabs) (n : Str) (r : RK) (A B : Addr → Prop), vs = [.ref T, v] ∧ DT H A (.ref T) (tablesT tabs) ∧ TabsOk tabs ∧ DT H B v (ruleT (n, r)) ∧ NameOk n ∧ RKOk tabs r ∧ ∀ H', Same H H' → Q (.bl true) H'
theorem ok_rule1 {f f1 f4 f7 f8 : Addr} {fd fd1 fd4 fd7 fd8 : FuncData} (F : Fun K "_is_rule" "_is_rule" sRule1 f fd) (G1 : FnOk P w K mg base CX0 1 f1 fd1 ["thing"] spName1) (m1 : mg "is_name" = some (.ref f1)) (k1 : PySem.W.keepIn K (.ref f1) = true) (b1 : Binds K fd1 ["thing"] [])
    (G4 : FnOk P w K mg base CX0 2 f4 fd4 ["fields", "name"] spSort1) (m4 : mg "sort_of" = some (.ref f4)) (k4 : PySem.W.keepIn K (.ref f4) = true) (b4 : Binds K fd4 ["fields", "name"] [])
    (G7 : FnOk P w K mg base CX0 4 f7 fd7 ["fields", "thing"] spTs1) (m7 : mg "is_tests" = some (.ref f7)) (k7 : PySem.W.keepIn K (.ref f7) = true) (b7 : Binds K fd7 ["fields", "thing"] [])
    (G8 : FnOk P w K mg base CX0 5 f8 fd8 ["tables", "fields", "thing"] spLinkRule1) (m8 : mg "_is_link_rule" = some (.ref f8)) (k8 : PySem.W.keepIn K (.ref f8) = true) (b8 : Binds K fd8 ["tables", "fields", "thing"] [])
    (mi : mg "isinstance" = none) (mt : mg "tuple" = none) (mlen : mg "len" = none) : FnOk P w K mg base CX0 6 f fd ["tables", "thing"] spRule1 := by
  refine F.ok scRule1 (fun vs H Q E h => ?_) (fun cdv A outer s H vs Q E hr h => ?_)
  · obtain ⟨T, v, tabs, n, r, A, B, rfl, _⟩ := h
    rfl
  obtain ⟨T, v, tabs, n, r, A, B, rfl, dT, okT, dr, okn, okr, q⟩ := h
  refine ⟨_, (pss_cons (ps_if (PW.pt (pw_or (pt_not (pt_val (pe_callB call_isi (by rfl) mi (by decide +kernel) (pa_cons (pv 1) (pa_cons (pe_bltn (v := .ty "tuple") (by rfl) mt (by decide +kernel) rfl) pa_nil))))) (pw_or1 (pt_cmpR (r := rIn K true) op_notIn_seq (pe_callB call_len_seq (by rfl) mlen (by decide +kernel) (pa_cons (pv 1) pa_nil)) (pe_tup (pa_cons pe_int (pa_cons pe_int pa_nil))) (by rfl))))) (pss_one (ps_ret pe_bl)) pss_nil) (pss_cons (ps_if (PW.pt (pw_or (pt_not (pt_val (pe_call G1 (hr.mono (by decide)) (by rfl) m1 k1 b1 .nil pass0 (pa_cons (pe_ix ix_tup (pv 1) pe_int (fun _ _ => rfl)) pa_nil)))) (pw_or (pt_not (pt_val (pe_call G1 (hr.mono (by decide)) (by rfl) m1 k1 b1 .nil pass0 (pa_cons (pe_ix ix_tup (pv 1) pe_int (fun _ _ => rfl)) pa_nil)))) (pw_or1 (pt_cmp (pc_dnotin (hu_of hr) (pe_ix ix_tup (pv 1) pe_int (fun _ _ => rfl)) (pv 0))))))) (pss_one (ps_ret pe_bl)) pss_nil) (pss_cons (ps_set (i := 2) scRule1.nd rfl (.inl rfl) (pe_dget (hu_of hr) (pv 0) (pe_ix ix_tup (pv 1) pe_int (fun _ _ => rfl)) (fun _ _ => rfl))) (pss_cons (ps_if (pt_cmpR op_eq (pe_callB call_len_seq (by rfl) mlen (by decide +kernel) (pa_cons (pv 1) pa_nil)) pe_int (nomark _)) (pss_one (ps_ret (pe_and (pe_cmpR op_eq (pe_ix ix_tup (pv 1) pe_int (fun _ _ => rfl)) pe_str (nomark _)) (pe_one (pe_call G8 (hr.mono (by decide)) (by rfl) m8 k8 b8 .nil pass0 (pa_cons (pv 0) (pa_cons (pv 2) (pa_cons (pv 1) pa_nil)))))))) pss_nil) (pss_cons (ps_if (pt_cmpR op_eq (pe_ix ix_tup (pv 1) pe_int (fun _ _ => rfl)) pe_str (nomark _)) (pss_one (ps_ret (pe_cmpR op_eq (pe_call G4 (hr.mono (by decide)) (by rfl) m4 k4 b4 .nil pass0 (pa_cons (pv 2) (pa_cons (pe_ix ix_tup (pv 1) pe_int (fun _ _ => rfl)) pa_nil))) pe_str (nomark _)))) pss_nil) (pss_one (ps_ret (pe_and (pe_cmpR (r := rIn K false) op_in_seq (pe_ix ix_tup (pv 1) pe_int (fun _ _ => rfl)) (pe_tup (pa_cons pe_str (pa_cons pe_str pa_nil))) (by rfl)) (pe_one (pe_call G7 (hr.mono (by decide)) (by rfl) m7 k7 b7 .nil pass0 (pa_cons (pv 2) (pa_cons (pe_ix ix_tup (pv 1) pe_int (fun _ _ => rfl)) pa_nil)))))))))))), ?_⟩
  obtain ⟨a, xs, tb, fs, rfl, ha, mt, x0, x2, hL⟩ := rule_head dr okr
  have at0 : ∀ {H'}, Same H H' → SqT K H' a xs := fun s => .inl (.inl (s _ _ ha))
  have okF := okT.val _ mt
  refine ⟨_, rfl, _, .ty "tuple", _, _, true, rfl, .ty _, .base (.tup ha), rfl, _, rfl, ff_if rfl ⟨_, rfl, a, _, rfl, .inr (at0 fun _ _ h => h), small (by show 2 ≤ 1000; decide), fun p np => ⟨p, _, rfl, .inr (.inl (.inl upd_same)), rfl, rfl, _, rfl, ff_if (len46 hL) ?_⟩⟩⟩
  have s0 : Same H (upd H p (.tup [.int 4, .int 6])) := same_new np _
  refine ⟨_, rfl, a, _, 0, _, rfl, rfl, at0 s0, atI_nat (j := 0) x0, n, rfl, okn, fun H1 s1 => ⟨_, rfl, ff_if rfl ?_⟩⟩
  have s01 := s0.trans s1
  refine ⟨_, rfl, a, _, 2, _, rfl, rfl, at0 s01, atI_nat (j := 2) x2, tb, rfl, okT.ok _ mt, fun H2 s2 => ⟨_, rfl, ff_if rfl ?_⟩⟩
  have s02 := s01.trans s2
  obtain ⟨f, dg, dF⟩ := tab_get (dT.same s02) okT.nd mt
  refine ⟨_, rfl, a, _, 2, _, rfl, rfl, at0 s02, atI_nat (j := 2) x2, _, rfl, T, _, rfl, dg, _, rfl, ff_if rfl ?_⟩
  refine ⟨_, rfl, _, rfl, a, _, 2, _, rfl, rfl, at0 s02, atI_nat (j := 2) x2, T, _, rfl, dg, ?_⟩
  have ha2 := s02 _ _ ha
  have dr2 := dr.same s02
  have eqT : ∀ {a' : Addr} {ys : List V}, V.ref a = V.ref a' → H2 a' = some (.tup ys) → xs = ys := fun e h => by
    cases e
    rw [ha2] at h
    cases h
    rfl
  cases okr with
  | @link tb' fd n2 fs' fs2 x y h l h2 tx ty =>
    obtain ⟨a', w, w', e, h', d4, d5⟩ := tests6 dr2
    obtain rfl := eqT e h'
    cases e
    injection x2 with x2
    injection x2 with x2
    subst x2
    have efs : fs' = fs := by
      have e1 := tabAt_of okT.nd h
      rw [tabAt_of okT.nd mt] at e1
      exact (Option.some.inj e1).symm
    subst efs
    have at2 : SqT K H2 a _ := .inl (.inl ha2)
    refine ⟨_, rfl, a, _, rfl, .inr at2, rfl, _, rfl, tt_if (by show decide (V.int ((6 : Nat) : Int) = V.int 6) = true; decide +kernel) ?_⟩
    refine ⟨_, rfl, a, _, 1, _, rfl, rfl, at2, atI_nat (j := 1) rfl, rfl, true, by decide +kernel, tt_if rfl ?_⟩
    exact ⟨_, rfl, _, rfl, _, rfl, T, f, a, w, w', tabs, fs', fs2, n, fd, n2, tb', x, y, A, B, rfl, dT.same s02, okT, dF, okF, ha2, d4, d5, l, h2, tx, ty, fun H3 s3 => q H3 (s02.trans s3)⟩
  | @uniq tb' fd fs' h l =>
    obtain ⟨a', w, e, h', d4⟩ := tests4 dr2
    obtain rfl := eqT e h'
    cases e
    cases d4
    injection x2 with x2
    injection x2 with x2
    subst x2
    have efs : fs' = fs := by
      have e1 := tabAt_of okT.nd h
      rw [tabAt_of okT.nd mt] at e1
      exact (Option.some.inj e1).symm
    subst efs
    have at2 : ∀ {H'}, Same H2 H' → SqT K H' a _ := fun s => .inl (.inl (s _ _ ha2))
    refine ⟨_, rfl, a, _, rfl, .inr (at2 fun _ _ h => h), rfl, _, rfl, ff_if (by show decide (V.int ((4 : Nat) : Int) = V.int 6) = false; decide +kernel) ?_⟩
    refine ⟨_, rfl, a, _, 1, _, rfl, rfl, at2 (fun _ _ h => h), atI_nat (j := 1) rfl, rfl, _, rfl, tt_if (by decide +kernel) ?_⟩
    refine ⟨_, rfl, _, rfl, a, _, 3, _, rfl, rfl, at2 (fun _ _ h => h), atI_nat (j := 3) rfl, f, fs', fd, .tg, A, rfl, dF, okF.ok _ l, fldAt_of okF.nd l, fun H3 s3 => ⟨rfl, ?_⟩⟩
    have e : decide (V.str Fld.tg.sort = V.str "tag") = true := decide_eq_true rfl
    rw [e]
    exact q H3 (s02.trans s3)
  | @one tb' fs' x h tx =>
    obtain ⟨a', w, e, h', d4⟩ := tests4 dr2
    obtain rfl := eqT e h'
    cases e
    injection x2 with x2
    injection x2 with x2
    subst x2
    have efs : fs' = fs := by
      have e1 := tabAt_of okT.nd h
      rw [tabAt_of okT.nd mt] at e1
      exact (Option.some.inj e1).symm
    subst efs
    have at2 : ∀ {H'}, Same H2 H' → SqT K H' a _ := fun s => .inl (.inl (s _ _ ha2))
    refine ⟨_, rfl, a, _, rfl, .inr (at2 fun _ _ h => h), rfl, _, rfl, ff_if (by show decide (V.int ((4 : Nat) : Int) = V.int 6) = false; decide +kernel) ?_⟩
    refine ⟨_, rfl, a, _, 1, _, rfl, rfl, at2 (fun _ _ h => h), atI_nat (j := 1) rfl, rfl, _, rfl, ff_if (by decide +kernel) ?_⟩
    refine ⟨_, rfl, a, _, 1, _, rfl, rfl, at2 (fun _ _ h => h), atI_nat (j := 1) rfl, small (by show 2 ≤ 1000; decide), fun p3 np3 => ⟨p3, _, rfl, .inr (.inl (.inl upd_same)), rfl, rfl, true, by decide +kernel, tt_if rfl ?_⟩⟩
    have s3 : Same H2 (upd H2 p3 (.tup [.str "check", .str "some"])) := same_new np3 _
    exact ⟨_, rfl, _, rfl, a, _, 3, _, rfl, rfl, at2 s3, atI_nat (j := 3) rfl, f, w, fs', _, x, A, B, rfl, dF.same s3, okF, d4.same s3, tx, fun H4 s4 => q H4 ((s02.trans s3).trans s4)⟩
  | @chk tb' fs' x h tx =>
    obtain ⟨a', w, e, h', d4⟩ := tests4 dr2
    obtain rfl := eqT e h'
    cases e
    injection x2 with x2
    injection x2 with x2
    subst x2
    have efs : fs' = fs := by
      have e1 := tabAt_of okT.nd h
      rw [tabAt_of okT.nd mt] at e1
      exact (Option.some.inj e1).symm
    subst efs
    have at2 : ∀ {H'}, Same H2 H' → SqT K H' a _ := fun s => .inl (.inl (s _ _ ha2))
    refine ⟨_, rfl, a, _, rfl, .inr (at2 fun _ _ h => h), rfl, _, rfl, ff_if (by show decide (V.int ((4 : Nat) : Int) = V.int 6) = false; decide +kernel) ?_⟩
    refine ⟨_, rfl, a, _, 1, _, rfl, rfl, at2 (fun _ _ h => h), atI_nat (j := 1) rfl, rfl, _, rfl, ff_if (by decide +kernel) ?_⟩
    refine ⟨_, rfl, a, _, 1, _, rfl, rfl, at2 (fun _ _ h => h), atI_nat (j := 1) rfl, small (by show 2 ≤ 1000; decide), fun p3 np3 => ⟨p3, _, rfl, .inr (.inl (.inl upd_same)), rfl, rfl, true, by decide +kernel, tt_if rfl ?_⟩⟩
    have s3 : Same H2 (upd H2 p3 (.tup [.str "check", .str "some"])) := same_new np3 _
    exact ⟨_, rfl, _, rfl, a, _, 3, _, rfl, rfl, at2 s3, atI_nat (j := 3) rfl, f, w, fs', _, x, A, B, rfl, dF.same s3, okF, d4.same s3, tx, fun H4 s4 => q H4 ((s02.trans s3).trans s4)⟩
end
end Lw

set_option Elab.async false
set_option linter.all false
set_option maxRecDepth 100000
set_option maxHeartbeats 4000000
/-! several dicts locked at once; loops within loops of a comprehension -/
namespace Lw
open PySem PySem.Spec PyProof.Rows L2
def lockN : Nat → TE → TE
  | 0, t => t
  | k + 1, t => tLockE (lockN k t)
theorem pe_lockN {X : Cx} {e : Expr} {t : TE} (h : PE X e t) : ∀ k, PE X e (lockN k t)
  | 0 => h
  | k + 1 => pe_lock (pe_lockN h k)
def lockNS : Nat → TS → TS
  | 0, t => t
  | k + 1, t => tLock (lockNS k t)
theorem ps_lockN {X : Cx} {st : Stmt} {t : TS} (h : PS X st t) : ∀ k, PS X st (lockNS k t)
  | 0 => h
  | k + 1 => ps_lock (ps_lockN h k)
/-- the heap with these locked -/
def lockAll : Hp → List (Addr × HO) → (Addr → Obj) → Hp
  | H, [], _ => H
  | H, p :: r, o => lockAll (upd H p.1 (.frz (o p.1) p.2)) r o
/-- .. and unlocked -/
def freeAll : Hp → List (Addr × HO) → Hp
  | H, [] => H
  | H, p :: r => upd (freeAll H r) p.1 p.2
/-- the ends, once these are unlocked -/
def endsN : List (Addr × HO) → (Addr → Obj) → Ends → Ends
  | [], _, D => D
  | p :: r, o, D => endsN r o ⟨fun σ' H' => H' p.1 = some (.frz (o p.1) p.2) ∧ D.nx σ' (upd H' p.1 p.2), fun v H' => H' p.1 = some (.frz (o p.1) p.2) ∧ D.rt v (upd H' p.1 p.2), fun σ' H' => H' p.1 = some (.frz (o p.1) p.2) ∧ D.bk σ' (upd H' p.1 p.2), fun σ' H' => H' p.1 = some (.frz (o p.1) p.2) ∧ D.ct σ' (upd H' p.1 p.2)⟩
theorem lockAll_cong : ∀ {L : List (Addr × HO)} {H : Hp} {o o' : Addr → Obj}, (∀ p ∈ L, o p.1 = o' p.1) → lockAll H L o = lockAll H L o'
  | [], _, _, _, _ => rfl
  | p :: r, H, o, o', h => by
    show lockAll (upd H p.1 (.frz (o p.1) p.2)) r o = lockAll (upd H p.1 (.frz (o' p.1) p.2)) r o'
    rw [h p List.mem_cons_self, lockAll_cong fun q hq => h q (List.mem_cons_of_mem _ hq)]
theorem endsN_cong : ∀ {L : List (Addr × HO)} {D : Ends} {o o' : Addr → Obj}, (∀ p ∈ L, o p.1 = o' p.1) → endsN L o D = endsN L o' D
  | [], _, _, _, _ => rfl
  | p :: r, D, o, o', h => by
    have e := h p List.mem_cons_self
    have ih : ∀ D, endsN r o D = endsN r o' D := fun D => endsN_cong fun q hq => h q (List.mem_cons_of_mem _ hq)
    unfold endsN
    rw [e, ih]
theorem lockNS_read {t : TS} : ∀ {L : List (Addr × HO)} {D : Ends} {σ : L2.St} {H : Hp}, (L.map (·.1)).Nodup → (∀ p ∈ L, H p.1 = some p.2 ∧ Mut (some p.2)) → (∀ o : Addr → Obj, t (endsN L o D) σ (lockAll H L o)) → lockNS L.length t D σ H
  | [], _, _, _, _, _, h => h fun _ => default
  | p :: r, D, σ, H, nd, al, h => by
    obtain ⟨n1, n2⟩ := List.nodup_cons.mp nd
    obtain ⟨e, mu⟩ := al p List.mem_cons_self
    refine ⟨p.1, p.2, e, mu, fun od => ?_⟩
    have ne : ∀ q ∈ r, q.1 ≠ p.1 := fun q hq z => n1 (by show p.1 ∈ _; rw [← z]; exact List.mem_map_of_mem hq)
    refine lockNS_read (t := t) (L := r) n2 (fun q hq => ?_) fun o => ?_
    · rw [upd_ne (ne q hq)]
      exact al q (List.mem_cons_of_mem _ hq)
    · have h1 := h fun c => if c = p.1 then od else o c
      have c1 : ∀ q ∈ r, (fun c => if c = p.1 then od else o c) q.1 = o q.1 := fun q hq => if_neg (ne q hq)
      have e1 : (fun c => if c = p.1 then od else o c) p.1 = od := if_pos rfl
      unfold endsN lockAll at h1
      rw [lockAll_cong c1, endsN_cong c1, e1] at h1
      exact h1
theorem endsN_nx : ∀ {L : List (Addr × HO)} {o : Addr → Obj} {D : Ends} {σ : L2.St} {Hx : Hp}, (L.map (·.1)).Nodup → (∀ p ∈ L, Hx p.1 = some (.frz (o p.1) p.2)) → D.nx σ (freeAll Hx L) → (endsN L o D).nx σ Hx
  | [], _, _, _, _, _, _, h => h
  | p :: r, o, D, σ, Hx, nd, al, h => by
    obtain ⟨n1, n2⟩ := List.nodup_cons.mp nd
    have stay : ∀ {r : List (Addr × HO)}, p.1 ∉ r.map (·.1) → freeAll Hx r p.1 = Hx p.1 := by
      intro r
      induction r with
      | nil => intro _; rfl
      | cons q r ih =>
        intro n
        rw [List.map_cons, List.mem_cons, not_or] at n
        show upd (freeAll Hx r) q.1 q.2 p.1 = _
        rw [upd_ne n.1]
        exact ih n.2
    exact endsN_nx (L := r) n2 (fun q hq => al q (List.mem_cons_of_mem _ hq)) ⟨(stay n1).trans (al p List.mem_cons_self), h⟩
theorem lockAll_ne : ∀ {L : List (Addr × HO)} {o : Addr → Obj} {H : Hp} {c : Addr}, c ∉ L.map (·.1) → lockAll H L o c = H c
  | [], _, _, _, _ => rfl
  | p :: r, o, H, c, n => by
    rw [List.map_cons, List.mem_cons, not_or] at n
    show lockAll (upd H p.1 _) r o c = _
    rw [lockAll_ne n.2, upd_ne n.1]
theorem lockAll_at : ∀ {L : List (Addr × HO)} {o : Addr → Obj} {H : Hp}, (L.map (·.1)).Nodup → ∀ p ∈ L, lockAll H L o p.1 = some (.frz (o p.1) p.2)
  | p :: r, o, H, nd, q, hq => by
    obtain ⟨n1, n2⟩ := List.nodup_cons.mp nd
    rcases List.mem_cons.mp hq with h | h
    · rw [h]
      show lockAll (upd H p.1 _) r o p.1 = _
      rw [lockAll_ne n1]
      exact upd_same
    · exact lockAll_at n2 q h
theorem freeAll_same : ∀ {L : List (Addr × HO)} {o : Addr → Obj} {H Hx : Hp}, (L.map (·.1)).Nodup → (∀ p ∈ L, H p.1 = some p.2) → Same (lockAll H L o) Hx → Same H (freeAll Hx L) := by
  intro L o H Hx nd al s c u e
  have out : ∀ {r : List (Addr × HO)}, c ∉ r.map (·.1) → freeAll Hx r c = Hx c := by
    intro r
    induction r with
    | nil => intro _; rfl
    | cons q r ih =>
      intro n
      rw [List.map_cons, List.mem_cons, not_or] at n
      show upd (freeAll Hx r) q.1 q.2 c = _
      rw [upd_ne n.1]
      exact ih n.2
  have ins : ∀ {r : List (Addr × HO)}, (∀ p ∈ r, H p.1 = some p.2) → c ∈ r.map (·.1) → freeAll Hx r c = some u := by
    intro r
    induction r with
    | nil => intro _ m; cases m
    | cons q r ih =>
      intro al m
      show upd (freeAll Hx r) q.1 q.2 c = _
      by_cases z : c = q.1
      · subst z
        rw [upd_same, ← e, al q List.mem_cons_self]
      · rw [upd_ne z]
        refine ih (fun p hp => al p (List.mem_cons_of_mem _ hp)) ?_
        rcases List.mem_cons.mp m with h | h
        · exact absurd h z
        · exact h
  by_cases m : c ∈ L.map (·.1)
  · exact ins al m
  · rw [out m]
    exact s c u (by rw [lockAll_ne m]; exact e)
theorem freeAll_ne {Hx : Hp} {c : Addr} : ∀ {r : List (Addr × HO)}, c ∉ r.map (·.1) → freeAll Hx r c = Hx c
  | [], _ => rfl
  | q :: r, n => by
    rw [List.map_cons, List.mem_cons, not_or] at n
    show upd (freeAll Hx r) q.1 q.2 c = _
    rw [upd_ne n.1]
    exact freeAll_ne n.2
/-- each once -/
def ded : List Addr → List Addr
  | [] => []
  | a :: r => if a ∈ r then ded r else a :: ded r
theorem mem_ded {x : Addr} : ∀ {l : List Addr}, x ∈ ded l ↔ x ∈ l
  | [] => Iff.rfl
  | a :: r => by
    unfold ded
    by_cases h : a ∈ r
    · rw [if_pos h, mem_ded, List.mem_cons]
      exact ⟨.inr, fun q => q.elim (fun e => e ▸ h) id⟩
    · rw [if_neg h, List.mem_cons, List.mem_cons, mem_ded]
theorem nodup_ded : ∀ l : List Addr, (ded l).Nodup
  | [] => List.nodup_nil
  | a :: r => by
    unfold ded
    by_cases h : a ∈ r
    · rw [if_pos h]
      exact nodup_ded r
    · rw [if_neg h]
      exact List.nodup_cons.mpr ⟨fun m => h (mem_ded.mp m), nodup_ded r⟩
end Lw

set_option Elab.async false
set_option linter.all false
set_option maxRecDepth 100000
set_option maxHeartbeats 4000000
namespace Lw
open PySem PySem.Spec PyProof.Rows L2
abbrev sTabs : Stmt := topS 35
abbrev NTabs : List Str := ["thing", "fields", "table", "name", "field"]
theorem tab_refs {H : Hp} {A : Addr → Prop} : ∀ {vs : List V} {tabs : Tabs}, DTs H A vs (tabs.map fun p => fieldsT p.2) → ∃ fa : List Addr, vs = fa.map V.ref ∧ ∀ a ∈ fa, ∃ kvs, H a = some (.dK kvs) ∧ A a
  | _, [], .nil => ⟨[], rfl, fun _ h => nomatch h⟩
  | _, p :: r, .cons x y => by
    obtain ⟨fa, h1, h2⟩ := tab_refs y
    obtain ⟨a, kvs, rfl, e, n, _⟩ := x.dctI
    refine ⟨a :: fa, by rw [h1]; rfl, fun b hb => ?_⟩
    rcases List.mem_cons.mp hb with h | h
    · rw [h]; exact ⟨kvs, e, n⟩
    · exact h2 b h
section
variable {P : Program} {w : World} {K : PySem.W.Frag} {mg : Str → Option Value} {base : Heap}
theorem scTabs : FnScope NTabs ["thing"] (defScope sTabs) := ⟨rfl, rfl, rfl, by decide +kernel, rfl, by decide +kernel, by decide +kernel⟩
def spTabs1 : Sp := fun vs H Q _ => ∃ (T : Addr) (tabs : Tabs) (A : Addr → Prop), vs = [.ref T] ∧ DT H A (.ref T) (tablesT tabs) ∧ TabsOk tabs ∧ ∀ H', Same H H' → Q (.bl true) H'
theorem ok_tabs {f f1 f9 : Addr} {fd fd1 fd9 : FuncData} {t1 : Tok} (F : Fun K "_are_tables" "_are_tables" sTabs f fd) (G1 : FnOk P w K mg base CX0 1 f1 fd1 ["thing"] spName1) (m1 : mg "is_name" = some (.ref f1)) (k1 : PySem.W.keepIn K (.ref f1) = true) (b1 : Binds K fd1 ["thing"] [])
    (G9 : FnOk P w K mg base CX0 4 f9 fd9 ["thing"] spFieldsOf1) (m9 : mg "fields_of" = some (.ref f9)) (k9 : PySem.W.keepIn K (.ref f9) = true) (b9 : Binds K fd9 ["thing"] [])
    (mi : mg "isinstance" = none) (md : mg "dict" = none) (mlen : mg "len" = none) (mall : mg "all" = none) (mM : mg "MOST_TABLES" = some (.int 3 t1)) : FnOk P w K mg base CX0 5 f fd ["thing"] spTabs1 := by
  refine F.ok scTabs (fun vs H Q E h => ?_) (fun cdv A0 outer s H vs Q E hr h => ?_)
  · obtain ⟨T, tabs, A, rfl, _⟩ := h
    rfl
  obtain ⟨T, tabs, A, rfl, x, ok, q⟩ := h
  obtain ⟨_, kvs, e1, e, nA, k, nd, few, d⟩ := x.dctI
  cases e1
  obtain ⟨fa, efa, hfa⟩ := tab_refs d
  have dA : DTs H (fun c => A c ∧ c ≠ T) (kvs.map (·.2)) (tabs.map fun p => fieldsT p.2) := DTs.avoid x d (Nat.lt_succ_self _)
  have nT : T ∉ fa := fun m => by
    obtain ⟨fa', h1, h2⟩ := tab_refs dA
    have e2 : fa' = fa := by
      have h3 : fa'.map V.ref = fa.map V.ref := h1.symm.trans efa
      exact List.map_inj_right (fun a b h => by injection h) |>.mp h3
    rw [← e2] at m
    obtain ⟨_, _, _, n⟩ := h2 T m
    exact n rfl
  obtain ⟨L, hL⟩ : ∃ L : List (Addr × HO), L = (T, .dK kvs) :: (ded fa).map fun a => (a, (H a).getD (.lst [])) := ⟨_, rfl⟩
  have Lk : L.map (·.1) = T :: ded fa := by
    rw [hL, List.map_cons, List.map_map]
    congr 1
    exact List.map_id' _
  have ndL : (L.map (·.1)).Nodup := by
    rw [Lk]
    exact List.nodup_cons.mpr ⟨fun m => nT (mem_ded.mp m), nodup_ded fa⟩
  have alL : ∀ p ∈ L, H p.1 = some p.2 ∧ Mut (some p.2) := by
    intro p hp
    rw [hL] at hp
    rcases List.mem_cons.mp hp with h | h
    · rw [h]; exact ⟨e, trivial⟩
    · obtain ⟨a, ha, rfl⟩ := List.mem_map.mp h
      obtain ⟨kv2, h2, _⟩ := hfa a (mem_ded.mp ha)
      show H a = some ((H a).getD _) ∧ Mut (some ((H a).getD _))
      rw [h2]
      exact ⟨rfl, trivial⟩
  refine ⟨_, (pss_cons (ps_if (PW.pt (pw_or (pt_not (pt_val (pe_callB call_isi (by rfl) mi (by decide +kernel) (pa_cons (pv 0) (pa_cons (pe_bltn (v := .ty "dict") (by rfl) md (by decide +kernel) rfl) pa_nil))))) (pw_or1 (pt_not (pt_chain op_le op_le pe_int (pe_callB call_lenD (by rfl) mlen (by decide +kernel) (pa_cons (pv 0) pa_nil)) (pe_glob (v := .int 3) (by rfl) mM ⟨t1, rfl⟩)))))) (pss_one (ps_ret pe_bl)) pss_nil) (pss_cons (ps_if (pt_not (pt_val (pe_callB (cr_all rfl) (by rfl) mall (by decide +kernel) (pa_cons (pe_lock (pe_lc (own := [("table", 2)]) (g := gName 2) (tt := tYes) rfl scTabs.nd (pi_keys (pv 0)) (blkOk_by (N := NTabs) (sc := defScope sTabs) (by decide +kernel)) (fun _ _ _ _ _ => pg_name (i := 2) scTabs.nd rfl (Or.inl rfl)) (fun _ _ _ _ _ => pts_nil) (fun _ _ _ _ _ => (pe_and (pe_call G1 (hr.mono (by decide)) (by rfl) m1 k1 b1 .nil pass0 (pa_cons (pv 2) pa_nil)) (pe_one (pe_call G9 (hr.mono (by decide)) (by rfl) m9 k9 b9 .nil pass0 (pa_cons (pe_dget (hu_of hr) (pv 0) (pv 2) (fun _ _ => rfl)) pa_nil))))))) pa_nil)))) (pss_one (ps_ret pe_bl)) pss_nil) (pss_cons (ps_lockN (ps_setLc2 (i := 1) (own := [("table", 2), ("name", 3)]) (vs1 := [3]) (g := gName 2) (g1 := gName 3) (tt := tYes) (tt1 := tYes) rfl scTabs.nd rfl rfl (sw_true rfl rfl rfl (by decide +kernel)) (pi_keys (pv 0)) (blkOk_by (N := NTabs) (sc := defScope sTabs) (by decide +kernel)) (by decide) (fun _ _ _ _ _ => pg_name (i := 2) scTabs.nd rfl (Or.inl rfl)) (fun _ _ _ _ _ => pts_nil) (fun _ _ _ _ _ => pi_keys (pe_dget (hu_of hr) (pv 0) (pv 2) (fun _ _ => rfl))) (fun _ _ _ _ _ => pg_name (i := 3) scTabs.nd rfl (Or.inl rfl)) (fun _ _ _ _ _ => pts_nil) (fun _ _ _ _ _ => (pe_dget (hu_of hr) (pe_dget (hu_of hr) (pv 0) (pv 2) (fun _ _ => rfl)) (pv 3) (fun _ _ => rfl)))) (L.length)) (pss_one (ps_ret (pe_callB (cr_all rfl) (by rfl) mall (by decide +kernel) (pa_cons (pe_lc (own := [("field", 4)]) (g := gName 4) rfl scTabs.nd (pi_list (pv 1)) (blkOk_by (N := NTabs) (sc := defScope sTabs) (by decide +kernel)) (fun _ _ _ _ _ => pg_name (i := 4) scTabs.nd rfl (Or.inl rfl)) (fun _ _ _ _ _ => pts_one (pt_cmpR (r := rEq) op_eq (pe_ix (r := rIxT K) ix_tup (pv 4) pe_int (fun _ _ => rfl)) pe_str (nomark _))) (fun _ _ _ _ _ => (pe_cmp (pc_din (hu_of hr) (pe_ix (r := rIxT K) ix_tup (pv 4) pe_int (fun _ _ => rfl)) (pv 0))))) pa_nil))))))), ?_⟩
  have lk : kvs.length = tabs.length := by
    have h := congrArg List.length k
    rw [List.length_map, List.length_map, List.length_map] at h
    exact h
  have l1 : 0 < tabs.length := List.length_pos_iff.mpr ok.one
  have l3 := ok.few
  have okn : ∀ n ∈ tabs.map (·.1), NameOk n := fun n hn => by
    obtain ⟨p, hp, rfl⟩ := List.mem_map.mp hn
    exact ok.ok p hp
  refine ⟨_, rfl, _, .ty "dict", _, _, true, rfl, .ty _, .base (.dK e), rfl, _, rfl, ff_if rfl ?_⟩
  refine ⟨_, rfl, T, kvs, rfl, e, 1, _, rfl, rfl, _, rfl, tt_if (decide_eq_true (by omega)) ⟨_, 3, rfl, rfl, _, rfl, ?_⟩⟩
  rw [decide_eq_true (by omega : ((kvs.length : Nat) : Int) ≤ 3)]
  refine ff_if rfl ?_
  -- a table at a turn
  have turn : ∀ {i : Nat} {kk : Key} {vv : V}, kvs[i]? = some (kk, vv) → ∃ z fs a kvf, kk = Sum.inr z ∧ vv = V.ref a ∧ (z, fs) ∈ tabs ∧ valV kvs (.inr z) = some (.ref a) ∧ DT H (fun c => A c ∧ c ≠ T) (.ref a) (fieldsT fs) ∧ a ∈ fa ∧ H a = some (.dK kvf) := by
    intro i kk vv h
    obtain ⟨z, t, h1, h2, h3, h4, h5⟩ := DT.turn k nd dA h
    rw [List.getElem?_map] at h1 h2
    obtain ⟨pr, g1, g2⟩ := Option.map_eq_some_iff.mp h1
    rw [g1] at h2
    obtain ⟨pz, pf⟩ := pr
    cases g2
    cases h2
    obtain ⟨a, kvf, rfl, ea, _⟩ := h5.dctI
    refine ⟨pz, pf, a, kvf, h3, rfl, List.mem_of_getElem? g1, h4, h5, ?_, ea⟩
    have m : V.ref a ∈ kvs.map (·.2) := List.mem_map_of_mem (f := (·.2)) (List.mem_of_getElem? h)
    rw [efa] at m
    obtain ⟨b, hb, eb⟩ := List.mem_map.mp m
    cases eb
    exact hb
  refine ⟨T, _, e, trivial, fun od => ⟨_, rfl, T, od, rfl, .inl ⟨kvs, upd_same, fun D nD => ?_⟩⟩⟩
  refine lc_it walk_keys (fun i Hx => Same (upd H T (.frz od (.dK kvs))) Hx ∧ Hx D = some (.lst (List.replicate i (V.bl true)))) ⟨same_new nD _, upd_same⟩ (fun i Hx _ p => p.1 _ _ upd_same) ?_ ?_
  · rintro i y Hx H' hi ⟨s1, hD⟩ ⟨rfl, kk, vv, hkv, rfl⟩
    obtain ⟨z, fs, a, kvf, rfl, rfl, mz, hv, dv, _, _⟩ := turn hkv
    have dvx : DT H' (fun c => A c ∧ c ≠ T) (.ref a) (fieldsT fs) := dv.mono fun c u hc eu => s1 _ _ (by rw [upd_ne hc.2]; exact eu)
    refine ⟨rfl, yes_if ⟨.str z, rfl, z, rfl, ok.ok _ mz, fun H2 s2 => ⟨true, rfl, tt_if rfl ?_⟩⟩⟩
    refine ⟨_, rfl, .str z, rfl, T, .ref a, rfl, .inl ⟨kvs, .inr z, .inr ⟨od, s2 _ _ (s1 _ _ upd_same)⟩, rfl, hv.symm⟩, .ref a, fs, _, _, rfl, dvx.same s2, ok.val _ mz, okn, fun H3 s3 => ?_⟩
    refine ⟨_, s3 _ _ (s2 _ _ hD), small1000 (by rw [List.length_replicate]; omega), Same.put ((s1.trans s2).trans s3) nD, ?_⟩
    rw [upd_same, List.replicate_succ']
  rintro Hx ⟨s1, hD⟩
  have sH : Same H (upd Hx T (.dK kvs)) := unlock_same e s1
  have nDf : D ≠ T := fun n => by rw [n, s1 _ _ upd_same] at hD; cases hD
  refine ⟨s1 _ _ upd_same, D, List.replicate kvs.length true, rfl, .inl (.inl (by rw [upd_ne nDf, List.map_replicate]; exact hD)), true, by rw [all_true], ff_if rfl ?_⟩
  generalize (upd Hx T (.dK kvs)) = H2 at sH ⊢
  clear s1 hD nDf nD
  have alL2 : ∀ p ∈ L, H2 p.1 = some p.2 ∧ Mut (some p.2) := fun p hp => ⟨sH _ _ (alL p hp).1, (alL p hp).2⟩
  refine lockNS_read ndL alL2 fun o => ?_
  have hFT : lockAll H2 L o T = some (.frz (o T) (.dK kvs)) := lockAll_at ndL (T, .dK kvs) (by rw [hL]; exact List.mem_cons_self)
  have hFa : ∀ {a kvf}, a ∈ fa → H a = some (.dK kvf) → lockAll H2 L o a = some (.frz (o a) (.dK kvf)) := fun {a kvf} m ea => lockAll_at ndL (a, .dK kvf) (by
    rw [hL]
    refine List.mem_cons_of_mem _ (List.mem_map.mpr ⟨a, mem_ded.mpr m, ?_⟩)
    rw [ea]
    rfl)
  have hFL := fun p hp => lockAll_at (o := o) (H := H2) ndL p hp
  have sF : ∀ {Hx}, Same (lockAll H2 L o) Hx → Same H2 (freeAll Hx L) := fun s => freeAll_same ndL (fun p hp => (alL2 p hp).1) s
  generalize (lockAll H2 L o) = HF at hFT hFa hFL sF ⊢
  refine ⟨_, rfl, T, o T, rfl, .inl ⟨kvs, hFT, fun D nD => ?_⟩⟩
  refine ⟨fun i m Hx => m = kvs.length - i ∧ i ≤ kvs.length ∧ Same HF Hx ∧ ∃ acc, Hx D = some (.lst acc) ∧ acc.length ≤ 6 * i ∧ ∀ v ∈ acc, ∃ fl, DT H A v fl.tree ∧ FldOk (tabs.map (·.1)) fl, ⟨_, rfl, Nat.zero_le _, same_new nD _, [], upd_same, Nat.le_refl _, fun _ h => nomatch h⟩, ?_⟩
  rintro i m Hx ⟨rfl, hi, s3, acc0, hD0, la0, ac0⟩
  by_cases lt : i < kvs.length
  · refine .inr ⟨⟨s3 _ _ hFT, lt⟩, fun Hy => Same HF Hy ∧ ∃ acc, Hy D = some (.lst acc) ∧ acc.length ≤ 6 * (i + 1) ∧ ∀ v ∈ acc, ∃ fl, DT H A v fl.tree ∧ FldOk (tabs.map (·.1)) fl, fun H' p' => ⟨_, by omega, rfl, lt, p'⟩, fun y H' yy => ?_⟩
    obtain ⟨rfl, kk, vv, hkv, rfl⟩ := yy
    obtain ⟨z, fs, a, kvf, rfl, rfl, mz, hv, dv, ma, ea⟩ := turn hkv
    have okF := ok.val _ mz
    have l6 : fs.length ≤ 6 := okF.few
    obtain ⟨a', kvf', e1, ea', _, kf, ndf, _, df⟩ := dv.dctI
    cases e1
    rw [ea] at ea'
    cases ea'
    have lkf : kvf.length = fs.length := by
      have h := congrArg List.length kf
      rw [List.length_map, List.length_map, List.length_map] at h
      exact h
    have dgT : ∀ {H6}, Same HF H6 → DGet H6 T (.str z) (some (.ref a)) := fun s => .inl ⟨kvs, .inr z, .inr ⟨o T, s _ _ hFT⟩, rfl, hv.symm⟩
    refine ⟨rfl, yes_if ⟨_, rfl, .str z, rfl, T, _, rfl, dgT s3, a, o a, rfl, .inl ⟨kvf, s3 _ _ (hFa ma ea), ?_⟩⟩⟩
    refine ⟨fun j k' Hy => k' = kvf.length - j ∧ j ≤ kvf.length ∧ Same HF Hy ∧ ∃ acc, Hy D = some (.lst acc) ∧ acc.length ≤ 6 * i + j ∧ ∀ v ∈ acc, ∃ fl, DT H A v fl.tree ∧ FldOk (tabs.map (·.1)) fl, ⟨_, rfl, Nat.zero_le _, s3, acc0, hD0, la0, ac0⟩, ?_⟩
    rintro j k' Hy ⟨rfl, hj, s4, acc, hD, la, ac⟩
    by_cases ltj : j < kvf.length
    · refine .inr ⟨⟨s4 _ _ (hFa ma ea), ltj⟩, fun Hz => Same HF Hz ∧ ∃ acc, Hz D = some (.lst acc) ∧ acc.length ≤ 6 * i + (j + 1) ∧ ∀ v ∈ acc, ∃ fl, DT H A v fl.tree ∧ FldOk (tabs.map (·.1)) fl, fun H' p' => ⟨_, by omega, rfl, ltj, p'⟩, fun y H' yy => ?_⟩
      obtain ⟨rfl, kk2, vv2, hkv2, rfl⟩ := yy
      obtain ⟨z2, t2, h1, h2, rfl, h4, h5⟩ := DT.turn kf ndf df hkv2
      rw [List.getElem?_map] at h1 h2
      obtain ⟨pr, g1, g2⟩ := Option.map_eq_some_iff.mp h1
      rw [g1] at h2
      obtain ⟨pz, fl⟩ := pr
      cases g2
      cases h2
      refine ⟨rfl, yes_if ⟨_, rfl, .str z, rfl, T, _, rfl, dgT s4, .str pz, rfl, a, vv2, rfl, .inl ⟨kvf, .inr pz, .inr ⟨o a, s4 _ _ (hFa ma ea)⟩, rfl, h4.symm⟩, acc, hD, small1000 (by omega), Same.put s4 nD, acc ++ [vv2], upd_same, by rw [List.length_append]; exact Nat.succ_le_succ la, fun v hv => ?_⟩⟩
      rcases List.mem_append.mp hv with h | h
      · exact ac v h
      · rw [List.mem_singleton.mp h]
        exact ⟨fl, h5.sub fun c hc => hc.1, okF.val _ (List.mem_of_getElem? g1)⟩
    · obtain rfl : j = kvf.length := by omega
      exact .inl ⟨⟨s4 _ _ (hFa ma ea), Nat.le_refl _⟩, s4, acc, hD, by omega, ac⟩
  · obtain rfl : i = kvs.length := by omega
    refine .inl ⟨⟨s3 _ _ hFT, Nat.le_refl _⟩, ?_⟩
    refine endsN_nx ndL (fun p hp => s3 _ _ (hFL p hp)) ?_
    have s5 := sH.trans (sF s3)
    have hD5 : freeAll Hx L D = some (.lst acc0) := by
      rw [freeAll_ne fun m => ?_]
      · exact hD0
      · obtain ⟨p, hp, ep⟩ := List.mem_map.mp m
        have h := s3 _ _ (hFL p hp)
        rw [show p.1 = D from ep, hD0] at h
        cases h
    generalize (freeAll Hx L) = H5 at s5 hD5 ⊢
    refine ⟨_, rfl, D, rfl, ⟨_, .inl (.inl hD5)⟩, fun D3 nD3 => ?_⟩
    refine lc_list (K := K) (a := D) (xs := acc0) (fun i Hx => Same H5 Hx ∧ ∃ n, n ≤ i ∧ Hx D3 = some (.lst (List.replicate n (V.bl true)))) ⟨same_new nD3 _, 0, Nat.le_refl _, upd_same⟩ (fun i Hx _ p => .inl (.inl (p.1 _ _ hD5))) ?_ ?_
    · rintro i v Hy hv ⟨s6, n, ln, h3⟩
      have il : i < acc0.length := (List.getElem?_eq_some_iff.mp hv).1
      obtain ⟨fl, dl, ofl⟩ := ac0 v (List.mem_of_getElem? hv)
      have dl6 := dl.same (s5.trans s6)
      cases ofl with
      | @lk n2 mn =>
        obtain ⟨ta, rfl, hta⟩ := lk_at dl6
        obtain ⟨f2, fs2, dg2, _⟩ := tables_get (x.same (s5.trans s6)) mn
        refine ⟨rfl, _, rfl, ta, _, 0, .str "link", rfl, rfl, .inl (.inl hta), atI_nat (j := 0) rfl, rfl, _, rfl, tt_if (by decide +kernel) ?_⟩
        refine ⟨_, rfl, ta, _, 1, .str n2, rfl, rfl, .inl (.inl hta), atI_nat (j := 1) rfl, _, rfl, T, _, rfl, dg2, _, h3, small1000 (by rw [List.length_replicate]; omega), Same.put s6 nD3, n + 1, by omega, ?_⟩
        rw [upd_same, List.replicate_succ']
        rfl
      | mk c dn few nd =>
        obtain ⟨ta, xs, rfl, hta, _⟩ := fld_sort dl6
        exact ⟨rfl, _, rfl, ta, _, 0, .str "mark", rfl, rfl, .inl (.inl hta), atI_nat (j := 0) rfl, rfl, _, rfl, ff_if (by decide +kernel) ⟨s6, n, by omega, h3⟩⟩
      | tg =>
        obtain ⟨ta, xs, rfl, hta, _⟩ := fld_sort dl6
        exact ⟨rfl, _, rfl, ta, _, 0, .str "tag", rfl, rfl, .inl (.inl hta), atI_nat (j := 0) rfl, rfl, _, rfl, ff_if (by decide +kernel) ⟨s6, n, by omega, h3⟩⟩
    · rintro Hy ⟨s6, n, _, h3⟩
      refine ⟨D3, List.replicate n true, rfl, .inl (.inl (by rw [List.map_replicate]; exact h3)), ?_⟩
      rw [all_true]
      exact q _ (s5.trans s6)
end
end Lw

set_option Elab.async false
set_option linter.all false
set_option maxRecDepth 100000
set_option maxHeartbeats 4000000
namespace Lw
open PySem PySem.Spec PyProof.Rows L2
mutual
theorem DT.exist {H : Hp} {A : Addr → Prop} : ∀ {v : V} {t : Tr}, DT H A v t → DT H (fun a => A a ∧ H a ≠ none) v t
  | _, _, .non => .non
  | _, _, .bl b => .bl b
  | _, _, .int i => .int i
  | _, _, .str z => .str z
  | _, _, .lst e n d => .lst e ⟨n, by rw [e]; exact nofun⟩ (DTs.exist d)
  | _, _, .tup e n d => .tup e ⟨n, by rw [e]; exact nofun⟩ (DTs.exist d)
  | _, _, .dct e n k nd few d => .dct e ⟨n, by rw [e]; exact nofun⟩ k nd few (DTs.exist d)
theorem DTs.exist {H : Hp} {A : Addr → Prop} : ∀ {vs : List V} {ts : List Tr}, DTs H A vs ts → DTs H (fun a => A a ∧ H a ≠ none) vs ts
  | _, _, .nil => .nil
  | _, _, .cons x y => .cons (DT.exist x) (DTs.exist y)
end
theorem depths_le {n : Nat} : ∀ {ts : List Tr}, (∀ t ∈ ts, t.depth ≤ n) → Tr.depths ts ≤ n
  | [], _ => Nat.zero_le _
  | t :: r, h => by
    show max t.depth (Tr.depths r) ≤ n
    exact Nat.max_le.mpr ⟨h t List.mem_cons_self, depths_le fun u hu => h u (List.mem_cons_of_mem _ hu)⟩
theorem fews_all : ∀ {ts : List Tr}, (∀ t ∈ ts, t.few = true) → Tr.fews ts = true
  | [], _ => rfl
  | t :: r, h => by
    show (t.few && Tr.fews r) = true
    rw [h t List.mem_cons_self, fews_all fun u hu => h u (List.mem_cons_of_mem _ hu)]
    rfl
theorem strs_depths (ws : List Str) : Tr.depths (ws.map Tr.str) ≤ 0 := depths_le fun t ht => by
  obtain ⟨z, _, rfl⟩ := List.mem_map.mp ht
  exact Nat.le_refl _
theorem strs_fews (ws : List Str) : Tr.fews (ws.map Tr.str) = true := fews_all fun t ht => by
  obtain ⟨z, _, rfl⟩ := List.mem_map.mp ht
  rfl
theorem fld_depth : ∀ fl : Fld, fl.tree.depth ≤ 2
  | .mk ws => by
    have h := strs_depths ws
    show max 0 (max (Tr.depths (ws.map Tr.str) + 1) 0) + 1 ≤ 2
    omega
  | .lk n => by show max 0 (max 0 0) + 1 ≤ 2; omega
  | .tg => by show max 0 0 + 1 ≤ 2; omega
theorem fld_few {ns : List Str} : ∀ {fl : Fld}, FldOk ns fl → fl.tree.few = true
  | .mk ws, .mk c dn few nd => by
    show (decide (2 ≤ 1000) && (true && ((decide ((ws.map Tr.str).length ≤ 1000) && Tr.fews (ws.map Tr.str)) && true))) = true
    rw [strs_fews, List.length_map, decide_eq_true (by omega : ws.length ≤ 1000)]
    rfl
  | .lk n, _ => rfl
  | .tg, _ => rfl
theorem fields_depth (fs : Flds) : (fieldsT fs).depth ≤ 3 := by
  show Tr.depths (fs.map (·.2.tree)) + 1 ≤ 3
  have h : Tr.depths (fs.map (·.2.tree)) ≤ 2 := depths_le fun t ht => by
    obtain ⟨p, _, rfl⟩ := List.mem_map.mp ht
    exact fld_depth p.2
  omega
theorem fields_few {ns : List Str} {fs : Flds} (o : ∀ p ∈ fs, FldOk ns p.2) : (fieldsT fs).few = true := by
  show Tr.fews (fs.map (·.2.tree)) = true
  exact fews_all fun t ht => by
    obtain ⟨p, hp, rfl⟩ := List.mem_map.mp ht
    exact fld_few (o p hp)
theorem fld_canon : ∀ fl : Fld, fl.tree.canon = fl.tree
  | .mk ws => by
    show Tr.tup [.str "mark", .lst (Tr.canons (ws.map Tr.str))] = _
    rw [canons_map, List.map_map]
    rfl
  | .lk n => rfl
  | .tg => rfl
/-- the fields in order -/
def atF (fs : Flds) (z : Str) : Fld := (fldAt fs z).getD .tg
def ordFld : Fld → Fld
  | .mk ws => .mk (sortT ws)
  | f => f
def ordF (fs : Flds) : Flds := (sortT (fs.map (·.1))).map fun z => (z, ordFld (atF fs z))
theorem ordF_keys (fs : Flds) : (ordF fs).map (·.1) = sortT (fs.map (·.1)) := by
  unfold ordF
  rw [List.map_map]
  exact List.map_id' _
theorem fields_canon (fs : Flds) : (fieldsT fs).canon = .dct (sortT (fs.map (·.1))) ((sortT (fs.map (·.1))).map fun z => (atF fs z).tree) := by
  show Tr.dct (sortT (fs.map (·.1))) ((sortT (fs.map (·.1))).map fun z => (lookT (fs.map (·.1)) (Tr.canons (fs.map (·.2.tree))) z).getD .non) = _
  congr 1
  refine List.map_congr_left fun z hz => ?_
  obtain ⟨fl, e, _⟩ := fldAt_mem (sortT_mem.mp hz)
  rw [canons_map, look_map, fld_look, e]
  unfold atF
  rw [e]
  exact fld_canon fl
theorem putK_old {es : List (Str × V)} {z : Str} {v : V} (m : z ∈ es.map (·.1)) : putK (tkD es) (.inr z) v = tkD (es.map fun p => if p.1 = z then (p.1, v) else p) := by
  have yes : (tkD es).any (fun kv => decide (kv.1 = Sum.inr z)) = true := by
    rw [List.any_eq_true]
    obtain ⟨p, hp, e⟩ := List.mem_map.mp m
    exact ⟨_, List.mem_map_of_mem hp, decide_eq_true (by rw [← e])⟩
  unfold putK
  rw [if_pos yes]
  show (es.map _).map _ = (es.map _).map _
  rw [List.map_map, List.map_map]
  refine List.map_congr_left fun p _ => ?_
  by_cases q : p.1 = z
  · show (if (Sum.inr p.1 : Key) = Sum.inr z then ((Sum.inr p.1 : Key), v) else (Sum.inr p.1, p.2)) = _
    rw [if_pos (by rw [q])]
    show _ = (fun p : Str × V => ((Sum.inr p.1 : Key), p.2)) (if p.1 = z then (p.1, v) else p)
    rw [if_pos q]
  · show (if (Sum.inr p.1 : Key) = Sum.inr z then ((Sum.inr p.1 : Key), v) else (Sum.inr p.1, p.2)) = _
    rw [if_neg (fun n => q (Sum.inr.inj n))]
    show _ = (fun p : Str × V => ((Sum.inr p.1 : Key), p.2)) (if p.1 = z then (p.1, v) else p)
    rw [if_neg q]
/-- a dict's cells, by their names -/
abbrev Cur (H : Hp) (A : Addr → Prop) (g : Str → Fld) (es : List (Str × V)) (ks : List Str) : Prop := Paired (fun e z => e.1 = z ∧ DT H A e.2 (g z).tree) es ks
theorem Cur.keys {H : Hp} {A : Addr → Prop} {g : Str → Fld} {es : List (Str × V)} {ks : List Str} (x : Cur H A g es ks) : es.map (·.1) = ks := by
  induction x with
  | nil => rfl
  | cons a _ ih => rw [List.map_cons, ih, a.1]
theorem Cur.vals {H : Hp} {A : Addr → Prop} {g : Str → Fld} {es : List (Str × V)} {ks : List Str} (x : Cur H A g es ks) : DTs H A (es.map (·.2)) (ks.map fun z => (g z).tree) := by
  induction x with
  | nil => exact .nil
  | cons a _ ih => exact .cons a.2 ih
theorem Cur.of {H : Hp} {A : Addr → Prop} {g : Str → Fld} : ∀ {kvs : List (Key × V)} {ks : List Str}, kvs.map (·.1) = ks.map Sum.inr → DTs H A (kvs.map (·.2)) (ks.map fun z => (g z).tree) → ∃ es, kvs = tkD es ∧ Cur H A g es ks
  | [], [], _, _ => ⟨[], rfl, .nil⟩
  | (kk, v) :: r, z :: ks, k, .cons x y => by
    obtain ⟨k1, k2⟩ := List.cons.inj k
    have k1 : kk = Sum.inr z := k1
    subst k1
    obtain ⟨es, h1, h2⟩ := Cur.of k2 y
    exact ⟨(z, v) :: es, by rw [h1]; rfl, .cons ⟨rfl, x⟩ h2⟩
theorem Cur.put {H H' : Hp} {A : Addr → Prop} {g g' : Str → Fld} {es : List (Str × V)} {ks : List Str} {z : Str} {v : V} (x : Cur H A g es ks) (up : ∀ v t, DT H A v t → DT H' A v t) (dv : DT H' A v (g' z).tree) (e : ∀ y, y ≠ z → g' y = g y) : Cur H' A g' (es.map fun p => if p.1 = z then (p.1, v) else p) ks := by
  induction x with
  | nil => exact .nil
  | @cons p y es ks a _ ih =>
    refine .cons ?_ ih
    show (if p.1 = z then (p.1, v) else p).1 = y ∧ DT H' A (if p.1 = z then (p.1, v) else p).2 (g' y).tree
    by_cases q : p.1 = z
    · rw [if_pos q]
      exact ⟨a.1, by rw [← a.1, q]; exact dv⟩
    · rw [if_neg q]
      exact ⟨a.1, by rw [e y (fun n => q (a.1.trans n))]; exact up _ _ a.2⟩
theorem Cur.mono {H H' : Hp} {A : Addr → Prop} {g g' : Str → Fld} {es : List (Str × V)} {ks : List Str} (x : Cur H A g es ks) (up : ∀ v t, DT H A v t → DT H' A v t) (e : ∀ y ∈ ks, g' y = g y) : Cur H' A g' es ks := by
  induction x with
  | nil => exact .nil
  | @cons p y es ks a _ ih => exact .cons ⟨a.1, by rw [e y List.mem_cons_self]; exact up _ _ a.2⟩ (ih fun z hz => e z (List.mem_cons_of_mem _ hz))
end Lw

set_option Elab.async false
set_option linter.all false
set_option maxRecDepth 100000
set_option maxHeartbeats 4000000
namespace Lw
open PySem PySem.Spec PyProof.Rows L2
abbrev sOrd : Stmt := topS 36
section
variable {P : Program} {w : World} {K : PySem.W.Frag} {mg : Str → Option Value} {base : Heap}
theorem scOrd : FnScope ["fields", "copy", "name"] ["fields"] (defScope sOrd) := ⟨rfl, rfl, rfl, by decide +kernel, rfl, by decide +kernel, by decide +kernel⟩
def spOrd : Sp := fun vs H Q _ => ∃ (f : Addr) (fs : Flds) (ns : List Str) (A : Addr → Prop), vs = [.ref f] ∧ DT H A (.ref f) (fieldsT fs) ∧ FldsOk ns fs ∧ ∀ (p : Addr) (H' : Hp), Same H H' → DT H' (fun c => H c = none) (.ref p) (fieldsT (ordF fs)) → Q (.ref p) H'
theorem ok_ord {f f2 : Addr} {fd fd2 : FuncData} (F : Fun K "_ordered" "_ordered" sOrd f fd) (G2 : FnOk P w K mg base CX0 4 f2 fd2 ["thing"] (spCopy 4)) (m2 : mg "copy_of" = some (.ref f2)) (k2 : PySem.W.keepIn K (.ref f2) = true) (b2 : Binds K fd2 ["thing"] [])
    (mso : mg "sorted" = none) : FnOk P w K mg base CX0 5 f fd ["fields"] spOrd := by
  refine F.ok scOrd (fun vs H Q E h => ?_) (fun cdv A0 outer s H vs Q E hr h => ?_)
  · obtain ⟨f, fs, ns, A, rfl, _⟩ := h
    rfl
  obtain ⟨f, fs, ns, A, rfl, x, o, q⟩ := h
  refine ⟨_, (pss_cons (ps_set (i := 1) scOrd.nd rfl (.inl rfl) (pe_call G2 (hr.mono (by decide)) (by rfl) m2 k2 b2 .nil pass0 (pa_cons (pv 0) pa_nil))) (pss_cons (ps_lock (ps_for PassesOwn.never rfl (pi_keys (pv 0)) (pg_name (i := 2) scOrd.nd rfl (.inl rfl)) (pss_one (ps_if (pt_cmpR op_eq (pe_ix ix_tup (pe_dget (hu_of hr) (pv 0) (pv 2) (fun _ _ => rfl)) pe_int (fun _ _ => rfl)) pe_str (nomark _)) (pss_one (ps_dput (hu_of hr) (pv 1) (pv 2) (pe_tup (pa_cons pe_str (pa_cons (pe_callB cr_sortedS (by rfl) mso (by decide +kernel) (pa_cons (pe_ix ix_tup (pe_dget (hu_of hr) (pv 0) (pv 2) (fun _ _ => rfl)) pe_int (fun _ _ => rfl)) pa_nil)) pa_nil))) (by rfl))) pss_nil)))) (pss_one (ps_ret (pv 1))))), ?_⟩
  refine ⟨_, rfl, .ref f, fieldsT fs, A, rfl, x, Nat.lt_of_le_of_lt (fields_depth fs) (by decide), fields_few o.val, fun v' M H1 s1 dl ndM new => ?_⟩
  rw [fields_canon] at dl
  have dlt : DT H1 (· ∈ M) v' _ := dl.dt fun a h => h
  obtain ⟨cp, kvc, rfl, ec, mcp, kc, ndc, fewc, dc⟩ := dlt.dctI
  have x1 := x.exist.same s1
  obtain ⟨f', kvs, e1, e, nA, k, nd, few, d⟩ := x1.dctI
  cases e1
  have lk : kvs.length = fs.length := by
    have h := congrArg List.length k
    rw [List.length_map, List.length_map, List.length_map] at h
    exact h
  have l6 := o.few
  have dA : DTs H1 (fun c => (A c ∧ H c ≠ none) ∧ c ≠ f) (kvs.map (·.2)) (fs.map (·.2.tree)) := DTs.avoid x1 d (Nat.lt_succ_self _)
  have ncp : H cp = none := new cp mcp
  have hf : H f ≠ none := nA.2
  have nfc : cp ≠ f := fun n => hf (by rw [← n]; exact ncp)
  -- the copy's cells, beside the copy itself
  have dcA : DTs H1 (fun c => H c = none ∧ c ≠ cp) (kvc.map (·.2)) ((sortT (fs.map (·.1))).map fun z => (atF fs z).tree) :=
    (DTs.avoid dlt dc (Nat.lt_succ_self _)).sub fun c h => ⟨new c h.1, h.2⟩
  obtain ⟨es0, rfl, cur0⟩ := Cur.of kc dcA
  refine ⟨f, _, e, trivial, fun od => ⟨_, rfl, f, od, rfl, .inl ⟨kvs, upd_same, ?_⟩⟩⟩
  have hF : (upd H1 f (.frz od (.dK kvs))) f = some (.frz od (.dK kvs)) := upd_same
  have hO : ∀ c, c ≠ f → (upd H1 f (.frz od (.dK kvs))) c = H1 c := fun c n => upd_ne n
  generalize (upd H1 f (.frz od (.dK kvs))) = HF at hF hO ⊢
  refine for_it walk_keys (fun i σ Hx => (∃ o2, σ = [some (.ref f), some (.ref cp), o2]) ∧ (∀ c u, HF c = some u → c ≠ cp → Hx c = some u) ∧ ∃ es, Hx cp = some (.dK (tkD es)) ∧
      Cur Hx (fun c => H c = none ∧ c ≠ cp) (fun z => if z ∈ (fs.map (·.1)).take i then ordFld (atF fs z) else atF fs z) es (sortT (fs.map (·.1))))
    ⟨⟨_, rfl⟩, fun c u h _ => h, es0, by rw [hO cp nfc]; exact ec, cur0.mono (fun v t dt => dt.mono fun c u hc eu => by rw [hO c (fun n => hf (by rw [← n]; exact hc.1))]; exact eu) fun y _ => by
      rw [List.take_zero]
      exact if_neg (fun h => nomatch h)⟩
    (fun i σ Hx _ p => p.2.1 _ _ hF nfc.symm) ?_ ?_
  · rintro i y σ Hx H' hi ⟨⟨o2, rfl⟩, keep, es, hcp, cur⟩ ⟨rfl, kk, vv, hkv, rfl⟩
    obtain ⟨z, t, h1, h2, rfl, h4, h5⟩ := DT.turn k nd dA hkv
    rw [List.getElem?_map] at h2
    obtain ⟨pr, g1, g2⟩ := Option.map_eq_some_iff.mp h2
    have hz : (fs.map (·.1))[i]? = some pr.1 := by rw [List.getElem?_map, g1]; rfl
    rw [h1] at hz
    obtain ⟨pz, fl⟩ := pr
    have ez : z = pz := Option.some.inj hz
    subst ez
    subst g2
    have mem : (z, fl) ∈ fs := List.mem_of_getElem? g1
    have eat : atF fs z = fl := by
      unfold atF
      rw [fldAt_of o.nd mem]
      rfl
    have zks : z ∈ sortT (fs.map (·.1)) := sortT_mem.mpr (List.mem_map_of_mem (f := (·.1)) mem)
    have e1 : (fs.map (·.1)).take (i + 1) = (fs.map (·.1)).take i ++ [z] := by
      rw [List.take_add_one, h1]
      rfl
    have gs : ∀ y, y ≠ z → (if y ∈ (fs.map (·.1)).take (i + 1) then ordFld (atF fs y) else atF fs y) = if y ∈ (fs.map (·.1)).take i then ordFld (atF fs y) else atF fs y := fun y ny => by
      rw [e1]
      by_cases m : y ∈ (fs.map (·.1)).take i
      · rw [if_pos m, if_pos (List.mem_append_left _ m)]
      · rw [if_neg m, if_neg (fun h => (List.mem_append.mp h).elim m fun h => ny (List.mem_singleton.mp h))]
    have gz : (if z ∈ (fs.map (·.1)).take (i + 1) then ordFld (atF fs z) else atF fs z) = ordFld fl := by
      rw [if_pos (by rw [e1]; exact List.mem_append_right _ List.mem_cons_self), eat]
    have gz0 : (if z ∈ (fs.map (·.1)).take i then ordFld (atF fs z) else atF fs z) = fl := by
      rw [if_neg (take_not_mem o.nd h1), eat]
    have dv : DT H' (fun c => (A c ∧ H c ≠ none) ∧ c ≠ f) vv fl.tree := h5.mono fun c u hc eu => keep c u (by rw [hO c hc.2]; exact eu) fun n => hc.1.2 (by rw [n]; exact ncp)
    have dg : ∀ {H6}, H6 f = some (.frz od (.dK kvs)) → DGet H6 f (.str z) (some vv) := fun h => .inl ⟨kvs, .inr z, .inr ⟨od, h⟩, rfl, h4.symm⟩
    have hfx := keep _ _ hF nfc.symm
    obtain ⟨ta, xs, rfl, hta, _⟩ := fld_sort dv
    refine ⟨_, rfl, .str z, rfl, f, _, rfl, dg hfx, ta, _, 0, .str fl.sort, rfl, rfl, .inl (.inl hta), atI_nat (j := 0) rfl, rfl, _, rfl, ?_⟩
    have plain : ordFld fl = fl → (∃ o2, [some (V.ref f), some (V.ref cp), some (kV (Sum.inr z))] = [some (V.ref f), some (V.ref cp), o2]) ∧ (∀ c u, HF c = some u → c ≠ cp → H' c = some u) ∧ ∃ es, H' cp = some (.dK (tkD es)) ∧
      Cur H' (fun c => H c = none ∧ c ≠ cp) (fun z => if z ∈ (fs.map (·.1)).take (i + 1) then ordFld (atF fs z) else atF fs z) es (sortT (fs.map (·.1))) := fun eo => ⟨⟨_, rfl⟩, keep, es, hcp, cur.mono (fun _ _ h => h) fun y _ => by
        by_cases ny : y = z
        · subst ny
          rw [gz, gz0, eo]
        · exact gs y ny⟩
    cases fl with
    | lk n => exact ff_if (by show decide (V.str "link" = V.str "mark") = false; decide +kernel) (plain rfl)
    | tg => exact ff_if (by show decide (V.str "tag" = V.str "mark") = false; decide +kernel) (plain rfl)
    | mk ws =>
      obtain ⟨a', xs', e2, ha', _, dd⟩ := dv.tupI
      cases e2
      rw [hta] at ha'
      cases ha'
      cases dd with
      | cons p1 r1 =>
        cases r1 with
        | cons p2 r2 =>
          cases r2
          obtain ⟨l, ys, rfl, hl, _, zz⟩ := p2.lstI
          rw [DTs.strs zz] at hl
          have fw : ws.length ≤ 4 := by
            cases o.val _ mem with
            | mk c dn few nd => exact few
          refine tt_if (by show decide (V.str "mark" = V.str "mark") = true; decide +kernel) ?_
          refine ⟨_, rfl, .str z, rfl, f, _, rfl, dg hfx, ta, _, 1, .ref l, rfl, rfl, .inl (.inl hta), atI_nat (j := 1) rfl, l, ws, rfl, .inl (.inl hl), by omega, fun ys p pm srt np => ?_⟩
          obtain rfl : ys = sortT ws := sort_eq pm srt
          refine ⟨small (by show 2 ≤ 1000; decide), fun t nt => ⟨_, rfl, _, rfl, cp, upd (upd (upd H' p (.lst ((sortT ws).map V.str))) t (.tup [.str "mark", .ref p])) cp (.dK (putK (tkD es) (Sum.inr z) (V.ref t))), rfl, ?_⟩⟩
          have sp : Same H' (upd (upd H' p (.lst ((sortT ws).map V.str))) t (.tup [.str "mark", .ref p])) := (same_new np _).trans (same_new nt _)
          have ht : (upd (upd H' p (.lst ((sortT ws).map V.str))) t (.tup [.str "mark", .ref p])) t = some (.tup [.str "mark", .ref p]) := upd_same
          have hp : (upd (upd H' p (.lst ((sortT ws).map V.str))) t (.tup [.str "mark", .ref p])) p = some (.lst ((sortT ws).map V.str)) := same_new nt _ _ _ upd_same
          have n2 : p ≠ cp := ne_of_none hcp np |>.symm
          have n1 : t ≠ cp := fun n => by
            have h := same_new np (.lst ((sortT ws).map V.str)) _ _ hcp
            rw [← n, nt] at h
            cases h
          have free : ∀ c, H' c = none → H c = none := fun c hc => by
            by_cases q : c = cp
            · rw [q]; exact ncp
            · refine Classical.byContradiction fun hn => ?_
              obtain ⟨u, hu⟩ := Option.ne_none_iff_exists'.mp hn
              have hu1 := s1 _ _ hu
              by_cases qf : c = f
              · rw [qf, hfx] at hc; cases hc
              · rw [keep c u (by rw [hO c qf]; exact hu1) q] at hc
                cases hc
          have fp : H p = none := free p np
          have ft : H t = none := by
            refine free t ?_
            have h := (same_new np (.lst ((sortT ws).map V.str))).free nt
            exact h
          generalize (upd (upd H' p (.lst ((sortT ws).map V.str))) t (.tup [.str "mark", .ref p])) = Ht at sp ht hp ⊢
          have hcpt := sp _ _ hcp
          have zes : z ∈ es.map (·.1) := by rw [cur.keys]; exact zks
          have les : es.length ≤ 6 := by
            have h := congrArg List.length cur.keys
            rw [List.length_map, sortT_len, List.length_map] at h
            omega
          refine ⟨.inl ⟨tkD es, .inr z, hcpt, rfl, small1000 (by rw [List.length_map]; omega), rfl⟩, ⟨_, rfl⟩, fun c u h n => ?_, es.map (fun p => if p.1 = z then (p.1, V.ref t) else p), by rw [upd_same, putK_old zes], ?_⟩
          · rw [upd_ne n]
            exact sp _ _ (keep c u h n)
          · refine cur.put (fun v t dt => (dt.same sp).mono fun c u hc eu => by rw [upd_ne hc.2]; exact eu) ?_ gs
            rw [gz]
            exact .tup (by rw [upd_ne n1]; exact ht) ⟨ft, n1⟩ (.cons (.str _) (.cons (.lst (by rw [upd_ne n2]; exact hp) ⟨fp, n2⟩ (DTs.ofStrs _)) .nil))
  · rintro σ Hx ⟨⟨o2, rfl⟩, keep, es, hcp, cur⟩
    have hfx := keep _ _ hF nfc.symm
    refine ⟨hfx, _, rfl, q cp _ (fun c u h => ?_) ?_⟩
    · have h1 := s1 _ _ h
      by_cases qf : c = f
      · subst qf
        rw [upd_same, ← h1, e]
      · rw [upd_ne qf]
        exact keep c u (by rw [hO c qf]; exact h1) fun n => by rw [n, ncp] at h; cases h
    · have all : (fs.map (·.1)).take kvs.length = fs.map (·.1) := List.take_of_length_le (by rw [List.length_map]; omega)
      rw [all] at cur
      refine .dct (kvs := tkD es) (by rw [upd_ne nfc]; exact hcp) ncp (by rw [tkD_keys, cur.keys, ordF_keys]) (by rw [ordF_keys]; exact ndc) (by rw [ordF_keys]; exact fewc) ?_
      rw [tkD_vals]
      have hv := cur.vals
      have e3 : ((sortT (fs.map (·.1))).map fun z => (if z ∈ fs.map (·.1) then ordFld (atF fs z) else atF fs z).tree) = (ordF fs).map (·.2.tree) := by
        unfold ordF
        rw [List.map_map]
        refine List.map_congr_left fun z hz => ?_
        rw [if_pos (sortT_mem.mp hz)]
        rfl
      rw [e3] at hv
      exact (hv.mono fun c u hc eu => by rw [upd_ne (fun n => hf (by rw [← n]; exact hc.1))]; exact eu).sub fun c hc => hc.1
end
end Lw

set_option Elab.async false
set_option linter.all false
set_option maxRecDepth 100000
set_option maxHeartbeats 4000000
namespace Lw
open PySem PySem.Spec PyProof.Rows L2
theorem Cur.snoc {H H' : Hp} {A : Addr → Prop} {g : Str → Fld} {es : List (Str × V)} {ks : List Str} {z : Str} {v : V} (x : Cur H A g es ks) (up : ∀ v t, DT H A v t → DT H' A v t) (dv : DT H' A v (g z).tree) : Cur H' A g (es ++ [(z, v)]) (ks ++ [z]) := by
  induction x with
  | nil => exact .cons ⟨rfl, dv⟩ .nil
  | cons a _ ih => exact .cons ⟨a.1, up _ _ a.2⟩ ih
abbrev NPlain : List Str := ["_law_fields_here", "_law_found", "_law_name", "_law_sort"]
section
variable {P : Program} {w : World} {K : PySem.W.Frag} {mg : Str → Option Value} {base : Heap}
def spPlain : Sp := fun vs H Q _ => ∃ (f : Addr) (fs : Flds) (ns : List Str) (A : Addr → Prop), vs = [.ref f] ∧ DT H A (.ref f) (fieldsT fs) ∧ FldsOk ns fs ∧ ∀ (p : Addr) (H' : Hp), Same H H' → H p = none → DT H' (fun c => (A c ∧ H c ≠ none) ∨ H c = none) (.ref p) (fieldsT (ordF fs)) → Q (.ref p) H'
end
end Lw

set_option Elab.async false
set_option linter.all false
set_option maxRecDepth 100000
set_option maxHeartbeats 4000000
namespace Lw
open PySem PySem.Spec PyProof.Rows L2
def wordsN : Fld → Nat
  | .mk ws => ws.length
  | _ => 0
/-- the product of the numbers of words of these fields -/
def manyL (fs : Flds) (l : List Str) : Nat := l.foldl (fun a z => a * wordsN (atF fs z)) 1
def manyF (fs : Flds) : Nat := manyL fs (likeT fs "mark")
theorem manyL_snoc (fs : Flds) (l : List Str) (z : Str) : manyL fs (l ++ [z]) = manyL fs l * wordsN (atF fs z) := by
  unfold manyL
  rw [List.foldl_append]
  rfl
abbrev NMany : List Str := ["_law_fields_here", "_law_found", "_law_mark"]
section
variable {P : Program} {w : World} {K : PySem.W.Frag} {mg : Str → Option Value} {base : Heap}
def spMany : Sp := fun vs H Q _ => ∃ (f : Addr) (fs : Flds) (ns : List Str) (A : Addr → Prop), vs = [.ref f] ∧ DT H A (.ref f) (fieldsT fs) ∧ FldsOk ns fs ∧ ∀ H', Same H H' → Q (.int (manyF fs : Nat)) H'
end
end Lw

set_option Elab.async false
set_option linter.all false
set_option maxRecDepth 100000
set_option maxHeartbeats 4000000
namespace Lw
open PySem PySem.Spec PyProof.Rows L2
abbrev NStrange : List Str := ["_law_bag_here", "_law_known", "_law_one"]
def inB (known : List Str) (z : Str) : Bool := inV (V.str z) (known.map V.str)
theorem inB_iff {known : List Str} {z : Str} : inB known z = true ↔ z ∈ known := by
  unfold inB inV
  rw [List.any_eq_true]
  constructor
  · rintro ⟨y, hy, e⟩
    obtain ⟨x, hx, rfl⟩ := List.mem_map.mp hy
    have e2 : (x == z) = true := e
    rw [← beq_iff_eq.mp e2]
    exact hx
  · intro m
    exact ⟨V.str z, List.mem_map_of_mem m, by simp [eqV]⟩
section
variable {P : Program} {w : World} {K : PySem.W.Frag} {mg : Str → Option Value} {base : Heap}
def spStrange : Sp := fun vs H Q _ => ∃ (b c l : Addr) (known : List Str), vs = [.ref b, .ref l] ∧ BagAt H b c ∧ H l = some (.lst (known.map V.str)) ∧ known.length ≤ 19 ∧ ∀ (z : Str) (H' : Hp), NameOk z → z ∉ known → BagAt H' b c → But b H H' → Q (.str z) H'
end
end Lw

set_option Elab.async false
set_option linter.all false
set_option maxRecDepth 100000
set_option maxHeartbeats 4000000
/-! trees: read, shown, compared -/
namespace Lw
open PySem PySem.Spec PyProof.Rows L2
theorem zip_fst : ∀ {α β : Type} {ks : List α} {ts : List β}, ks.length = ts.length → (ks.zip ts).map (·.1) = ks
  | _, _, [], [], _ => rfl
  | _, _, [], _ :: _, h => by cases h
  | _, _, _ :: _, [], h => by cases h
  | _, _, k :: r, t :: q, h => by rw [List.zip_cons_cons, List.map_cons, zip_fst (Nat.succ.inj h)]
theorem zip_snd : ∀ {α β : Type} {ks : List α} {ts : List β}, ks.length = ts.length → (ks.zip ts).map (·.2) = ts
  | _, _, [], [], _ => rfl
  | _, _, [], _ :: _, h => by cases h
  | _, _, _ :: _, [], h => by cases h
  | _, _, k :: r, t :: q, h => by rw [List.zip_cons_cons, List.map_cons, zip_snd (Nat.succ.inj h)]
theorem zip_mapl : ∀ {α β γ : Type} (f : α → γ) (ks : List α) (ts : List β), (ks.map f).zip ts = (ks.zip ts).map fun p => (f p.1, p.2)
  | _, _, _, _, [], _ => rfl
  | _, _, _, _, _ :: _, [] => rfl
  | _, _, _, f, k :: r, t :: q => by rw [List.map_cons, List.zip_cons_cons, List.zip_cons_cons, List.map_cons, zip_mapl f r q]
section
variable {X : Cx} {pl : List (Addr × Obj)} {σ : L2.St} {H : Hp} {s : Shared} {A B : Addr → Prop}
mutual
theorem DT.reads (J : Inv X pl σ H s) : ∀ {v : V} {t : Tr}, DT H A v t → ∀ {u : Value}, RelV v u → ∃ as, Reads s.heap u t.data as ∧ Tracked H as
  | _, _, .non, u, r => ⟨[], by cases (show u = Value.none from r); exact .none, fun b hb => absurd hb (by simp)⟩
  | _, _, .bl b, u, r => ⟨[], by cases (show u = Value.bool b from r); exact .bool b, fun b hb => absurd hb (by simp)⟩
  | _, _, .int i, u, r => ⟨[], by obtain ⟨t, rfl⟩ := (show ∃ t, u = Value.int i t from r); exact .int i t, fun b hb => absurd hb (by simp)⟩
  | _, _, .str x, u, r => ⟨[], by obtain ⟨t, rfl⟩ := (show ∃ t, u = Value.str x t from r); exact .str x t, fun b hb => absurd hb (by simp)⟩
  | _, _, @DT.lst _ _ a xs ts e n d, u, r => by
    cases (show u = Value.ref a from r)
    obtain ⟨_, its, k, rv, ob⟩ := J.hok a _ e
    obtain ⟨as, q, t⟩ := DTs.reads J d rv
    exact ⟨a :: as, .list ob rfl rfl (by simpa using q), fun b hb => (List.mem_cons.mp hb).elim (fun z => ⟨_, z ▸ e⟩) (t b)⟩
  | _, _, @DT.tup _ _ a xs ts e n d, u, r => by
    cases (show u = Value.ref a from r)
    obtain ⟨_, its, rv, o, h1, h2, k, h3⟩ := (show ObjOk X.prog X.w H s.heap a (.tup xs) from J.hok a _ e)
    obtain ⟨as, q, t⟩ := DTs.reads J d rv
    exact ⟨as, .tuple h1 h2 h3 (by simpa using q), t⟩
  | _, _, @DT.dct _ _ a kvs ks ts e n k nd few d, u, r => by
    cases (show u = Value.ref a from r)
    obtain ⟨_, _, vs, kv, o, es, ep, h1, h2, h3, _, h4, _⟩ := (show ObjOk X.prog X.w H s.heap a (.dK kvs) from J.hok a _ e)
    have kk := kv_keys kv
    have vv := kv_vals kv
    have len : ks.length = (Tr.datas ts).length := by
      rw [datas_map, List.length_map, ← d.len, List.length_map, ← List.length_map (as := kvs) (f := (·.1)), k, List.length_map]
    obtain ⟨r1, r2⟩ := keys_read (X := X) (knd := keyIs) (h := s.heap) (kds := ks.zip (Tr.datas ts)) h4 (by
      rw [kk.trans k, show (fun p : Str × PyData => (Sum.inr p.1 : Key)) = Sum.inr ∘ (·.1) from rfl, ← List.map_map, zip_fst len])
    obtain ⟨as, q, t⟩ := DTs.reads J d vv
    have q' : ReadsAll s.heap (es.toList.map (·.val)) (((ks.zip (Tr.datas ts)).map fun p => (PyData.str p.1, p.2)).map (·.2)) as := by
      rw [r2, List.map_map]
      show ReadsAll _ _ ((ks.zip (Tr.datas ts)).map (·.2)) _
      rw [zip_snd len]
      exact q
    refine ⟨a :: [] ++ as, ?_, fun b hb => (List.mem_cons.mp hb).elim (fun z => ⟨_, z ▸ e⟩) (t b)⟩
    show Reads _ _ (.dict ((ks.map PyData.str).zip (Tr.datas ts))) _
    rw [zip_mapl]
    exact .dict h1 h2.1 h3 r1 q'
theorem DTs.reads (J : Inv X pl σ H s) : ∀ {vs : List V} {ts : List Tr}, DTs H A vs ts → ∀ {us : List Value}, Vals vs us → ∃ as, ReadsAll s.heap us (Tr.datas ts) as ∧ Tracked H as
  | _, _, .nil, _, .nil => ⟨[], .nil, fun b hb => absurd hb (by simp)⟩
  | _, _, .cons a b, _, .cons x y => by
    obtain ⟨as, q1, t1⟩ := DT.reads J a x
    obtain ⟨bs, q2, t2⟩ := DTs.reads J b y
    exact ⟨as ++ bs, .cons q1 q2, fun c hc => (List.mem_append.mp hc).elim (t1 c) (t2 c)⟩
end
/-- repr of a tree -/
def rReprT : List V → Hp → VK → Prop := fun vs H Q => ∃ (a : Addr) (t : Tr) (A : Addr → Prop), vs = [.ref a] ∧ DT H A (.ref a) t ∧ t.data.showable = true ∧ t.data.depth ≤ 40 ∧ t.data.shown.length ≤ sizeLine ∧ Q (.str t.data.shown) H
theorem call_reprT (hg : X.A.guards = some []) (hu : X.A.units + 64 < cLine) (hs : ∃ o, X.base.get? sysModules = some o) : CallR X (.builtin "repr") rReprT := by
  intro pl s σ H vs us Q J r h
  obtain ⟨a, t, A, rfl, dx, sh, dp, sz, q⟩ := h
  rw [Vals.ref1 r]
  obtain ⟨as, rd, tr⟩ := DT.reads J dx (u := .ref a) rfl
  obtain ⟨o, eo⟩ := hs
  obtain ⟨e0, n0⟩ := J.ok.bs _ _ eo
  have none0 : H sysModules = none := J.base.free _ _ e0 n0 (J.ok.noex _ _ eo)
  refine repr_of_reads' rd sh (fun _ hm => ?_) hg (by omega) (fun _ _ z => z) (fun h' u tk k => ⟨.str t.data.shown, H, J.kept (t' := tk) k, ⟨u, rfl⟩, q⟩) sz
  obtain ⟨o2, e2⟩ := tr _ hm
  rw [none0] at e2
  cases e2
/-- two trees without dicts -/
theorem plain_eqP (J : Inv X pl σ H s) {A1 : Around} {v v' : V} {t t' : Tr} {u u' : Value} (x : DT H A v t) (y : DT H B v' t') (r : RelV v u) (r' : RelV v' u') (h : SeqAt.shaped t.data = true) (h' : SeqAt.shaped t'.data = true) (hu : A1.units + 64 < cLine) :
    SeqAt.EqP X.prog X.w A1 s u u' (PyData.eqv t.data t'.data) := by
  obtain ⟨as, r1, _⟩ := DT.reads J x r
  obtain ⟨bs, r2, _⟩ := DT.reads J y r'
  exact (SeqAt.eqAt_reads t.data t'.data A1 s u u' as bs r1 r2 (SeqAt.canLay_of_shaped h) (SeqAt.canLay_of_shaped h') (SeqAt.room_of_shaped h hu)).eqP
/-- the items of two dicts -/
def eqItems (f : Tr → Tr → Bool) (ks : List Str) (ts : List Tr) (ls : List Str) (us : List Tr) : Bool := (ks.zip ts).all fun p => match lookT ls us p.1 with | none => false | some u => f p.2 u
def eqDct (f : Tr → Tr → Bool) (ks : List Str) (ts : List Tr) (ls : List Str) (us : List Tr) : Bool := (ks.length == ls.length) && eqItems f ks ts ls us
theorem look_no {kvs : List (Key × V)} {ks : List Str} {z : Str} (k : kvs.map (·.1) = ks.map Sum.inr) (m : z ∉ ks) (ts : List Tr) : valV kvs (.inr z) = none ∧ lookT ks ts z = none := by
  refine ⟨valV_no fun h => ?_, ?_⟩
  · rw [k] at h
    obtain ⟨y, hy, e⟩ := List.mem_map.mp h
    exact m (Sum.inr.inj e ▸ hy)
  · unfold lookT
    rw [Option.map_eq_none_iff, List.find?_eq_none]
    intro p hp q
    have h1 : p.1 = z := of_decide_eq_true q
    exact m (h1 ▸ (List.of_mem_zip hp).1)
theorem look_mem {ks : List Str} {ts : List Tr} {z : Str} {t : Tr} (h : lookT ks ts z = some t) : t ∈ ts := by
  unfold lookT at h
  obtain ⟨p, hp, rfl⟩ := Option.map_eq_some_iff.mp h
  exact (List.of_mem_zip (List.mem_of_find?_eq_some hp)).2
theorem items_hits {A1 : Around} {f : Tr → Tr → Bool} {ls : List Str} {us : List Tr} {lvs : List (Key × V)} {vb : List (Key × Value)} (rb : KV lvs vb) (kl : lvs.map (·.1) = ls.map Sum.inr) (dl : DTs H B (lvs.map (·.2)) us)
    {G G' : Tr → Prop} (hu : ∀ t ∈ us, G' t) (hf : ∀ v v' t t' u u', DT H A v t → G t → DT H B v' t' → G' t' → RelV v u → RelV v' u' → SeqAt.EqP X.prog X.w A1 s u u' (f t t')) :
    ∀ {kvs : List (Key × V)} {va : List (Key × Value)} {ks : List Str} {ts : List Tr}, KV kvs va → kvs.map (·.1) = ks.map Sum.inr → DTs H A (kvs.map (·.2)) ts → (∀ t ∈ ts, G t) → PySem.W.KeqHitsP X.prog X.w A1 s vb va (eqItems f ks ts ls us) := by
  intro kvs va ks ts ra
  unfold KV at ra
  induction ra generalizing ks ts with
  | nil =>
    intro k d hg
    cases ks with
    | nil => cases d; exact .nil
    | cons _ _ => cases k
  | @cons p q ps qs h hr ih =>
    intro k d hg
    obtain ⟨h1, h2⟩ := h
    cases ks with
    | nil => cases k
    | cons z ks =>
      obtain ⟨e1, e2⟩ := List.cons.inj k
      cases d with
      | @cons _ _ t ts x y =>
        have rest := ih e2 y fun t m => hg t (List.mem_cons_of_mem _ m)
        obtain ⟨key, v⟩ := q
        have h1' : p.1 = key := h1
        have ez : key = Sum.inr z := by rw [← h1']; exact e1
        subst ez
        by_cases m : z ∈ ls
        · obtain ⟨w', t', ev, et, dw⟩ := DT.look kl dl m
          have rr : RelO (some w') (valueAt vb (Sum.inr z)) := by rw [← ev]; exact rb.val _
          obtain ⟨y', hy, ry⟩ := rr.some_of
          have e : eqItems f (z :: ks) (t :: ts) ls us = (f t t' && eqItems f ks ts ls us) := by
            show ((match lookT ls us z with | none => false | some u => f t u) && _) = _
            rw [et]
            rfl
          rw [e]
          exact .hit hy (hf _ _ _ _ _ _ x (hg _ List.mem_cons_self) dw (hu _ (look_mem et)) h2 ry) rest
        · obtain ⟨ev, et⟩ := look_no kl m us
          have rr : RelO none (valueAt vb (Sum.inr z)) := by rw [← ev]; exact rb.val _
          have e : eqItems f (z :: ks) (t :: ts) ls us = false := by
            show ((match lookT ls us z with | none => false | some u => f t u) && _) = _
            rw [et]
            rfl
          rw [e]
          refine .miss ?_
          cases hv : valueAt vb (Sum.inr z) with
          | none => rfl
          | some y => rw [hv] at rr; cases rr
/-- two dicts of texts -/
theorem dct_rcP (J : Inv X pl σ H s) {A1 : Around} (hu : A1.units < cLine) {f : Tr → Tr → Bool} {v v' : V} {ks ls : List Str} {ts us : List Tr} {u u' : Value} (x : DT H A v (.dct ks ts)) (y : DT H B v' (.dct ls us)) (r : RelV v u) (r' : RelV v' u')
    {G G' : Tr → Prop} (hg : ∀ t ∈ ts, G t) (hg' : ∀ t ∈ us, G' t) (hf : ∀ v v' t t' u u', DT H A v t → G t → DT H B v' t' → G' t' → RelV v u → RelV v' u' → SeqAt.EqP X.prog X.w A1.in1 s u u' (f t t')) (E Q : Value → Shared → Prop) (q : Q (.bool (eqDct f ks ts ls us)) s) : wpAny (model X.prog X.w) A1 (richCompare .Eq u u') Q E s := by
  obtain ⟨a, kvs, rfl, ea, _, ka, nda, _, da⟩ := x.dctI
  obtain ⟨b, lvs, rfl, eb, _, kb, ndb, _, db⟩ := y.dctI
  cases (show u = Value.ref a from r)
  cases (show u' = Value.ref b from r')
  obtain ⟨_, ya, va, ra, oa⟩ := (show ObjOk X.prog X.w H s.heap a (.dK kvs) from J.hok a _ ea)
  obtain ⟨_, yb, vb, rb, ob⟩ := (show ObjOk X.prog X.w H s.heap b (.dK lvs) from J.hok b _ eb)
  refine PySem.W.rcP_dicts (knd := mixKind X.prog X.w) (r := eqItems f ks ts ls us) ya yb oa ob hu (fun _ => items_hits rb kb db hg' hf ra ka da hg) E Q ?_
  have e1 : va.length = ks.length := by rw [← ra.length, ← List.length_map (as := kvs) (f := (·.1)), ka, List.length_map]
  have e2 : vb.length = ls.length := by rw [← rb.length, ← List.length_map (as := lvs) (f := (·.1)), kb, List.length_map]
  rw [e1, e2]
  exact q
/-- two equal trees of any kind -/
theorem paired_dts {F : V → V → Prop} : ∀ {vs ws : List V} {ts : List Tr}, DTs H A vs ts → DTs H B ws ts → (∀ v w t, t ∈ ts → DT H A v t → DT H B w t → F v w) → Paired F vs ws
  | _, _, _, .nil, y, _ => by cases y; exact .nil
  | _, _, _, .cons a b, y, h => by
    cases y with
    | cons a' b' => exact .cons (h _ _ _ List.mem_cons_self a a') (paired_dts b b' fun v w t m => h v w t (List.mem_cons_of_mem _ m))
theorem same_hits {kvs lvs : List (Key × V)} {ks : List Str} {ts : List Tr} {F : V → V → Prop} (nd : ks.Nodup) (k : kvs.map (·.1) = ks.map Sum.inr) (d : DTs H A (kvs.map (·.2)) ts) (k' : lvs.map (·.1) = ks.map Sum.inr) (d' : DTs H B (lvs.map (·.2)) ts)
    (h : ∀ v w t, t ∈ ts → DT H A v t → DT H B w t → F v w) : ∀ p ∈ kvs, ∃ u, valV lvs p.1 = some u ∧ F p.2 u := fun p hp => by
  obtain ⟨i, hi⟩ := List.mem_iff_getElem?.mp hp
  have hk : (kvs.map (·.1))[i]? = some p.1 := by rw [List.getElem?_map, hi]; rfl
  have hv : (kvs.map (·.2))[i]? = some p.2 := by rw [List.getElem?_map, hi]; rfl
  rw [k] at hk
  obtain ⟨z, hz, e⟩ := (by simpa using hk : ∃ z, ks[i]? = some z ∧ Sum.inr z = p.1)
  obtain ⟨t, ht, dv⟩ := d.get hv
  obtain ⟨u, t', ev, et, du⟩ := DT.look k' d' (List.mem_of_getElem? hz)
  rw [look_at nd hz ht] at et
  cases et
  exact ⟨u, by rw [← e]; exact ev, h _ _ _ (List.mem_of_getElem? ht) dv du⟩
theorem sameP (J : Inv X pl σ H s) : ∀ (n : Nat) (A1 : Around), A1.units + n < cLine → ∀ {t : Tr} {v v' : V} {u u' : Value}, t.depth ≤ n → DT H A v t → DT H B v' t → RelV v u → RelV v' u' → SeqAt.EqP X.prog X.w A1 s u u' true := by
  intro n
  induction n with
  | zero =>
    intro A1 hu t v v' u u' dp x y r r'
    cases x with
    | non => cases y; exact (eqAt_same r r' rfl).eqP
    | bl b => cases y; exact (eqAt_same r r' rfl).eqP
    | int b => cases y; exact (eqAt_same r r' rfl).eqP
    | str b => cases y; exact (eqAt_same r r' rfl).eqP
    | lst e n d => exact absurd dp (Nat.not_succ_le_zero _)
    | tup e n d => exact absurd dp (Nat.not_succ_le_zero _)
    | dct e n k nd few d => exact absurd dp (Nat.not_succ_le_zero _)
  | succ n ih =>
    intro A1 hu t v v' u u' dp x y r r'
    have hu0 : A1.units < cLine := by omega
    have hu1 : A1.in1.units + n < cLine := by show A1.units + 1 + n < cLine; omega
    cases x with
    | non => cases y; exact (eqAt_same r r' rfl).eqP
    | bl b => cases y; exact (eqAt_same r r' rfl).eqP
    | int b => cases y; exact (eqAt_same r r' rfl).eqP
    | str b => cases y; exact (eqAt_same r r' rfl).eqP
    | @lst a xs ts e na d =>
      cases y with
      | @lst b ys _ e' nb d' =>
        have dp' : Tr.depths ts ≤ n := Nat.le_of_succ_le_succ dp
        cases (show u = Value.ref a from r)
        cases (show u' = Value.ref b from r')
        by_cases eab : a = b
        · subst eab
          exact (SeqAt.EqAt.same _).eqP
        obtain ⟨us, r1, p1, _⟩ := J.list (.inl (.inl e))
        obtain ⟨ws, r2, p2, _⟩ := J.list (.inl (.inl e'))
        have pr := paired_dts (F := fun x y => ∃ t : Tr, t.depth ≤ n ∧ DT H A x t ∧ DT H B y t) d d' fun v w t m h1 h2 => ⟨t, Nat.le_trans (depth_mem m) dp', h1, h2⟩
        have hsz : us.toArray.size = ws.toArray.size := by
          rw [List.size_toArray, List.size_toArray, ← r1.length, ← r2.length]
          exact Paired.length pr
        refine SeqAt.eqP_refs eab fun E Q q => SeqAt.rcP_lists (e := fun _ => true) p1.isList p2.isList hsz hu0 (fun j h1 h2 => ?_) E Q ?_
        · have k := items_run (P := X.prog) (w := X.w) (A := A1.in1) (s := s) (fun x y v u ⟨t, h0, h1, h2⟩ => ih A1.in1 hu1 h0 h1 h2) pr r1 r2 j (by simpa using h1) (by simpa using h2)
          simpa using k
        · rw [show ((List.range us.toArray.size).all fun _ => true) = true from List.all_eq_true.mpr fun _ _ => rfl]
          exact q
    | @tup a xs ts e na d =>
      cases y with
      | @tup b ys _ e' nb d' =>
        have dp' : Tr.depths ts ≤ n := Nat.le_of_succ_le_succ dp
        cases (show u = Value.ref a from r)
        cases (show u' = Value.ref b from r')
        by_cases eab : a = b
        · subst eab
          exact (SeqAt.EqAt.same _).eqP
        obtain ⟨us, r1, p1, _⟩ := J.tuple (.inl (.inl e))
        obtain ⟨ws, r2, p2, _⟩ := J.tuple (.inl (.inl e'))
        have pr := paired_dts (F := fun x y => ∃ t : Tr, t.depth ≤ n ∧ DT H A x t ∧ DT H B y t) d d' fun v w t m h1 h2 => ⟨t, Nat.le_trans (depth_mem m) dp', h1, h2⟩
        have hsz : us.toArray.size = ws.toArray.size := by
          rw [List.size_toArray, List.size_toArray, ← r1.length, ← r2.length]
          exact Paired.length pr
        refine SeqAt.eqP_refs eab fun E Q q => GQ.rc_tupG hsz hu0 (fun (_ : Nat) (s' : Shared) => s' = s) p1 p2 (fun j h1 h2 s' es => ?_) (fun s' es => by rw [es]; exact q) rfl
        subst es
        have k := items_run (P := X.prog) (w := X.w) (A := A1.in1) (s := s') (F := fun x y => ∃ t : Tr, t.depth ≤ n ∧ DT H A x t ∧ DT H B y t) (fun x y v u ⟨t, h0, h1, h2⟩ => ih A1.in1 hu1 h0 h1 h2) pr r1 r2 j (by simpa using h1) (by simpa using h2)
        have kk : SeqAt.EqP X.prog X.w A1.in1 s' us.toArray[j] ws.toArray[j] true := by simpa using k
        exact kk E (fun r s2 => r = true ∧ s2 = s') (And.intro rfl rfl)
    | @dct a kvs ks ts e na k nd few d =>
      cases y with
      | @dct b lvs _ _ e' nb k' nd' few' d' =>
        have dp' : Tr.depths ts ≤ n := Nat.le_of_succ_le_succ dp
        cases (show u = Value.ref a from r)
        cases (show u' = Value.ref b from r')
        by_cases eab : a = b
        · subst eab
          exact (SeqAt.EqAt.same _).eqP
        obtain ⟨_, ya, va, ra, oa⟩ := (show ObjOk X.prog X.w H s.heap a (.dK kvs) from J.hok a _ e)
        obtain ⟨_, yb, vb, rb, ob⟩ := (show ObjOk X.prog X.w H s.heap b (.dK lvs) from J.hok b _ e')
        have pr := same_hits (F := fun x y => ∃ t : Tr, t.depth ≤ n ∧ DT H A x t ∧ DT H B y t) nd k d k' d' fun v w t m h1 h2 => ⟨t, Nat.le_trans (depth_mem m) dp', h1, h2⟩
        refine SeqAt.eqP_refs eab fun E Q q => PySem.W.rcP_dicts (knd := mixKind X.prog X.w) (r := true) ya yb oa ob hu0 (fun _ => hits_run (F := fun x y => ∃ t : Tr, t.depth ≤ n ∧ DT H A x t ∧ DT H B y t) (fun x y v u ⟨t, h0, h1, h2⟩ => ih A1.in1 hu1 h0 h1 h2) rb ra pr) E Q ?_
        have e1 : va.length = vb.length := by
          rw [← ra.length, ← rb.length, ← List.length_map (as := kvs) (f := (·.1)), k, ← k', List.length_map]
        rw [show (va.length == vb.length && true) = true from by rw [e1]; simp]
        exact q
/-- a rich comparison of two equal trees -/
theorem same_rcP (J : Inv X pl σ H s) {A1 : Around} (hu : A1.units + 64 < cLine) {t : Tr} {a b : Addr} (dp : t.depth ≤ 60) (x : DT H A (.ref a) t) (y : DT H B (.ref b) t) (E Q : Value → Shared → Prop) (q : Q (.bool true) s) : wpAny (model X.prog X.w) A1 (richCompare .Eq (.ref a) (.ref b)) Q E s := by
  have hu0 : A1.units < cLine := by omega
  have hu1 : A1.in1.units + 60 < cLine := by show A1.units + 1 + 60 < cLine; omega
  cases x with
  | @lst _ xs ts e na d =>
    cases y with
    | @lst _ ys _ e' nb d' =>
      have dp' : Tr.depths ts ≤ 60 := Nat.le_of_succ_le dp
      obtain ⟨us, r1, p1, _⟩ := J.list (.inl (.inl e))
      obtain ⟨ws, r2, p2, _⟩ := J.list (.inl (.inl e'))
      have pr := paired_dts (F := fun x y => ∃ t : Tr, t.depth ≤ 60 ∧ DT H A x t ∧ DT H B y t) d d' fun v w t m h1 h2 => ⟨t, Nat.le_trans (depth_mem m) dp', h1, h2⟩
      have hsz : us.toArray.size = ws.toArray.size := by
        rw [List.size_toArray, List.size_toArray, ← r1.length, ← r2.length]
        exact Paired.length pr
      refine SeqAt.rcP_lists (e := fun _ => true) p1.isList p2.isList hsz hu0 (fun j h1 h2 => ?_) E Q ?_
      · have k := items_run (P := X.prog) (w := X.w) (A := A1.in1) (s := s) (fun x y v u ⟨t, h0, h1, h2⟩ => sameP J 60 A1.in1 hu1 h0 h1 h2) pr r1 r2 j (by simpa using h1) (by simpa using h2)
        simpa using k
      · rw [show ((List.range us.toArray.size).all fun _ => true) = true from List.all_eq_true.mpr fun _ _ => rfl]
        exact q
  | @tup _ xs ts e na d =>
    cases y with
    | @tup _ ys _ e' nb d' =>
      have dp' : Tr.depths ts ≤ 60 := Nat.le_of_succ_le dp
      obtain ⟨us, r1, p1, _⟩ := J.tuple (.inl (.inl e))
      obtain ⟨ws, r2, p2, _⟩ := J.tuple (.inl (.inl e'))
      have pr := paired_dts (F := fun x y => ∃ t : Tr, t.depth ≤ 60 ∧ DT H A x t ∧ DT H B y t) d d' fun v w t m h1 h2 => ⟨t, Nat.le_trans (depth_mem m) dp', h1, h2⟩
      have hsz : us.toArray.size = ws.toArray.size := by
        rw [List.size_toArray, List.size_toArray, ← r1.length, ← r2.length]
        exact Paired.length pr
      refine GQ.rc_tupG hsz hu0 (fun (_ : Nat) (s' : Shared) => s' = s) p1 p2 (fun j h1 h2 s' es => ?_) (fun s' es => by rw [es]; exact q) rfl
      subst es
      have k := items_run (P := X.prog) (w := X.w) (A := A1.in1) (s := s') (F := fun x y => ∃ t : Tr, t.depth ≤ 60 ∧ DT H A x t ∧ DT H B y t) (fun x y v u ⟨t, h0, h1, h2⟩ => sameP J 60 A1.in1 hu1 h0 h1 h2) pr r1 r2 j (by simpa using h1) (by simpa using h2)
      have kk : SeqAt.EqP X.prog X.w A1.in1 s' us.toArray[j] ws.toArray[j] true := by simpa using k
      exact kk E (fun r s2 => r = true ∧ s2 = s') (And.intro rfl rfl)
  | @dct _ kvs ks ts e na k nd few d =>
    cases y with
    | @dct _ lvs _ _ e' nb k' nd' few' d' =>
      have dp' : Tr.depths ts ≤ 60 := Nat.le_of_succ_le dp
      obtain ⟨_, ya, va, ra, oa⟩ := (show ObjOk X.prog X.w H s.heap a (.dK kvs) from J.hok a _ e)
      obtain ⟨_, yb, vb, rb, ob⟩ := (show ObjOk X.prog X.w H s.heap b (.dK lvs) from J.hok b _ e')
      have pr := same_hits (F := fun x y => ∃ t : Tr, t.depth ≤ 60 ∧ DT H A x t ∧ DT H B y t) nd k d k' d' fun v w t m h1 h2 => ⟨t, Nat.le_trans (depth_mem m) dp', h1, h2⟩
      refine PySem.W.rcP_dicts (knd := mixKind X.prog X.w) (r := true) ya yb oa ob hu0 (fun _ => hits_run (F := fun x y => ∃ t : Tr, t.depth ≤ 60 ∧ DT H A x t ∧ DT H B y t) (fun x y v u ⟨t, h0, h1, h2⟩ => sameP J 60 A1.in1 hu1 h0 h1 h2) rb ra pr) E Q ?_
      have e1 : va.length = vb.length := by
        rw [← ra.length, ← rb.length, ← List.length_map (as := kvs) (f := (·.1)), k, ← k', List.length_map]
      rw [show (va.length == vb.length && true) = true from by rw [e1]; simp]
      exact q
end
section
variable {X : Cx}
/-- == of two equal trees -/
def rEqSame : R2 := fun x y H Q => ∃ (a b : Addr) (t : Tr) (A B : Addr → Prop), x = .ref a ∧ y = .ref b ∧ DT H A (.ref a) t ∧ DT H B (.ref b) t ∧ t.depth ≤ 60 ∧ Q (.bl true) H
theorem op_eqSame (hu : X.A.units + 64 < cLine) : OpR X (compareOp .Eq) rEqSame := by
  intro pins s σ H x y v u Q I rx ry h
  obtain ⟨a, b, t, A, B, rfl, rfl, dx, dy, dp, q⟩ := h
  obtain rfl : v = Value.ref a := rx
  obtain rfl : u = Value.ref b := ry
  exact same_rcP I hu dp dx dy _ _ ⟨.bl true, H, I, rfl, q⟩
/-- == of two trees without dicts -/
def rEqPl : R2 := fun x y H Q => ∃ (t u : Tr) (A B : Addr → Prop), DT H A x t ∧ DT H B y u ∧ SeqAt.shaped t.data = true ∧ SeqAt.shaped u.data = true ∧ Q (.bl (PyData.eqv t.data u.data)) H
theorem op_eqPl (hu : X.A.units + 64 < cLine) : OpR X (compareOp .Eq) rEqPl := by
  intro pins s σ H x y v u Q I rx ry h
  obtain ⟨t, t', A, B, dx, dy, sd, se, q⟩ := h
  obtain ⟨as, r1, _⟩ := DT.reads I dx rx
  obtain ⟨bs, r2, _⟩ := DT.reads I dy ry
  exact SeqAt.compareEq_shaped r1 r2 sd se hu ⟨.bl _, H, I, rfl, q⟩
abbrev eqD1 (t u : Tr) : Bool := PyData.eqv t.data u.data
/-- == of two dicts of trees without dicts -/
def eqD2 : Tr → Tr → Bool
  | .dct ks ts, .dct ls us => eqDct eqD1 ks ts ls us
  | _, _ => false
inductive Dict1 : Tr → Prop
  | mk {ks : List Str} {ts : List Tr} (h : ∀ t ∈ ts, SeqAt.shaped t.data = true) : Dict1 (.dct ks ts)
theorem eqD2_self {ks : List Str} {ts : List Tr} (nd : ks.Nodup) (len : ks.length = ts.length) {f : Tr → Tr → Bool} (h : ∀ t ∈ ts, f t t = true) : eqDct f ks ts ks ts = true := by
  unfold eqDct eqItems
  rw [Bool.and_eq_true]
  refine ⟨by simp, List.all_eq_true.mpr fun p hp => ?_⟩
  obtain ⟨i, hi⟩ := List.mem_iff_getElem?.mp hp
  have hz : ks[i]? = some p.1 := by
    have h1 : ((ks.zip ts).map (·.1))[i]? = some p.1 := by rw [List.getElem?_map, hi]; rfl
    rwa [zip_fst len] at h1
  have ht : ts[i]? = some p.2 := by
    have h1 : ((ks.zip ts).map (·.2))[i]? = some p.2 := by rw [List.getElem?_map, hi]; rfl
    rwa [zip_snd len] at h1
  rw [look_at nd hz ht]
  exact h _ (List.mem_of_getElem? ht)
theorem d2_eqP {pl : List (Addr × Obj)} {σ : L2.St} {H : Hp} {s : Shared} {A B : Addr → Prop} (J : Inv X pl σ H s) {A1 : Around} (hu : A1.units + 66 < cLine) {v v' : V} {t t' : Tr} {u u' : Value} (x : DT H A v t) (g : Dict1 t) (y : DT H B v' t') (g' : Dict1 t') (r : RelV v u) (r' : RelV v' u') :
    SeqAt.EqP X.prog X.w A1 s u u' (eqD2 t t') := by
  cases g with
  | @mk ks ts g =>
    cases g' with
    | @mk ls us g' =>
      obtain ⟨a, kvs, rfl, ea, na, ka, nda, fa, da⟩ := x.dctI
      obtain ⟨b, lvs, rfl, eb, nb, kb, ndb, fb, db⟩ := y.dctI
      cases (show u = Value.ref a from r)
      cases (show u' = Value.ref b from r')
      by_cases eab : a = b
      · subst eab
        have e := DT.one x y
        injection e with e1 e2
        subst e1 e2
        have len : ks.length = ts.length := by rw [← da.len, List.length_map, ← List.length_map (as := kvs) (f := (·.1)), ka, List.length_map]
        rw [show eqD2 (.dct ks ts) (.dct ks ts) = true from eqD2_self nda len fun t m => SeqAt.eqv_refl _ (SeqAt.canLay_of_shaped (g t m))]
        exact (SeqAt.EqAt.same _).eqP
      · exact SeqAt.eqP_refs eab fun E Q q => dct_rcP J (by omega) x y rfl rfl (f := eqD1) (G := fun t => SeqAt.shaped t.data = true) (G' := fun t => SeqAt.shaped t.data = true) g g' (fun v v' t t' u u' d1 h1 d2 h2 r1 r2 => plain_eqP J d1 d2 r1 r2 h1 h2 (by show A1.units + 1 + 64 < cLine; omega)) E Q q
/-- == of two dicts of dicts of trees without dicts -/
def rEqDD : R2 := fun x y H Q => ∃ (ks ls : List Str) (ts us : List Tr) (A B : Addr → Prop), DT H A x (.dct ks ts) ∧ DT H B y (.dct ls us) ∧ (∀ t ∈ ts, Dict1 t) ∧ (∀ t ∈ us, Dict1 t) ∧ Q (.bl (eqDct eqD2 ks ts ls us)) H
theorem op_eqDD (hu : X.A.units + 68 < cLine) : OpR X (compareOp .Eq) rEqDD := by
  intro pins s σ H x y v u Q I rx ry h
  obtain ⟨ks, ls, ts, us, A, B, dx, dy, g, g', q⟩ := h
  exact dct_rcP I (A1 := X.A) (by omega) dx dy rx ry (f := eqD2) g g' (fun v v' t t' u u' d1 h1 d2 h2 r1 r2 => d2_eqP I (by show X.A.units + 1 + 66 < cLine; omega) d1 h1 d2 h2 r1 r2) _ _ ⟨.bl _, H, I, rfl, q⟩
end
end Lw

set_option Elab.async false
set_option linter.all false
set_option maxRecDepth 100000
set_option maxHeartbeats 4000000
/-! != of two equal trees, tuples at the top -/
namespace Lw
open PySem PySem.Spec PyProof.Rows L2
section
open AutoSeq1 (wpAny_loadPart')
variable {P : Program} {w : World} {A : Around} {R : Result → Shared → Prop}
theorem tup_ne_same (l b : Addr) (xs ys : Array Value) (n m : Nat) (d1 d2 : Option Addr) (s1 s2 : Array (Option Value)) (sz : xs.size = ys.size) {s : Shared}
    (each : ∀ i (h1 : i < xs.size) (h2 : i < ys.size), SeqAt.EqP P w A.in1 s xs[i] ys[i] true) (fin : R (.ok (.ret (.bool false))) s)
    (hl : s.heap.get? l = some { cls := .type "tuple", dict := d1, data := .seq xs n, slots := s1 }) (hb : s.heap.get? b = some { cls := .type "tuple", dict := d2, data := .seq ys m, slots := s2 }) :
    wpAny (model P w) A.in1 (Builtin.«tuple.__ne__» ⟨[.ref l, .ref b], []⟩) (GQ.FinOf P w A R) (fun e s' => R (.error e) s') s := by
  have sub := AutoSeq1.sub_tuple_tuple
  have hZ : (xs.toList.zip ys.toList).length = xs.size := by simp [sz]
  obtain ⟨hp, gs, dr, tk, os⟩ := s
  wp_walk using wpAny_loadPart' hl, wpAny_loadPart' hb, wpAny_forIn_list _ (fun left acc s' => acc.1 = none ∧ s' = ⟨hp, gs, dr, tk, os⟩ ∧ ∃ i, left = (xs.toList.zip ys.toList).drop i ∧ i ≤ xs.size) _
  case turn =>
    rintro ⟨y, x⟩ left acc s' ⟨ha, rfl, i, hz, hi⟩
    have lt : i < (xs.toList.zip ys.toList).length := by
      rcases Nat.lt_or_ge i (xs.toList.zip ys.toList).length with h' | h'
      · exact h'
      · rw [List.drop_of_length_le h'] at hz
        cases hz
    have h1 : i < xs.size := hZ ▸ lt
    have h2 : i < ys.size := sz ▸ h1
    rw [List.drop_eq_getElem_cons lt] at hz
    injection hz with hyx hrest
    obtain rfl : y = xs[i] := by have q := congrArg Prod.fst hyx; simpa using q
    obtain rfl : x = ys[i] := by have q := congrArg Prod.snd hyx; simpa using q
    refine wpAny_bind (each i h1 h2 _ _ ?_)
    wp_walk
    exact ⟨rfl, rfl, i + 1, hrest, h1⟩
  case fin =>
    rintro ⟨b1, b2⟩ s' ⟨ha, rfl, i, hz, hi⟩
    simp only at ha
    subst ha
    wp_walk
    simpa [Builtin.Tuple.tupleCompareSizes, sz] using fin
  case h =>
    exact ⟨rfl, rfl, 0, rfl, Nat.zero_le _⟩
end
section
variable {X : Cx}
def rNeSame : R2 := fun x y H Q => ∃ (a b : Addr) (ts : List Tr) (A B : Addr → Prop), x = .ref a ∧ y = .ref b ∧ DT H A (.ref a) (.tup ts) ∧ DT H B (.ref b) (.tup ts) ∧ Tr.depths ts ≤ 60 ∧ Q (.bl false) H
theorem op_neSame (hu : X.A.units + 64 < cLine) : OpR X (compareOp .NotEq) rNeSame := by
  intro pins s σ H x y v u Q J rx ry h
  obtain ⟨a, b, ts, A, B, rfl, rfl, dx, dy, dp, q⟩ := h
  obtain rfl : v = Value.ref a := rx
  obtain rfl : u = Value.ref b := ry
  obtain ⟨_, xs, e1, ex, _, d⟩ := dx.tupI
  cases e1
  obtain ⟨_, ys, e2, ey, _, d'⟩ := dy.tupI
  cases e2
  obtain ⟨us, r1, p1, _⟩ := J.tuple (.inl (.inl ex))
  obtain ⟨ws, r2, p2, _⟩ := J.tuple (.inl (.inl ey))
  have pr := paired_dts (F := fun x y => ∃ t : Tr, t.depth ≤ 60 ∧ DT H A x t ∧ DT H B y t) d d' fun v w t m h1 h2 => ⟨t, Nat.le_trans (depth_mem m) dp, h1, h2⟩
  have hsz : us.toArray.size = ws.toArray.size := by
    rw [List.size_toArray, List.size_toArray, ← r1.length, ← r2.length]
    exact Paired.length pr
  obtain ⟨⟨c1, dd, t1, sl⟩, ho, hc, n, hd⟩ := id p1
  obtain ⟨⟨c2, dd2, t2, sl2⟩, ho2, hc2, n2, hd2⟩ := id p2
  simp only at hc hd hc2 hd2
  subst hc hd hc2 hd2
  show wpAny (model X.prog X.w) X.A (richCompare .NotEq (.ref a) (.ref b)) (EP X pins σ Q) X.xe s
  refine wpAny_richCompare_same_room (op := .NotEq) ⟨_, ho, rfl⟩ ⟨_, ho2, rfl⟩ F.slot_tuple_ne (GQ.call_here F.slot_tuple_ne ⟨_, ho, rfl⟩ F.entry_tuple_ne (F.args_tuple_ne_2 _ _) ?_) (by omega)
  refine tup_ne_same (R := wants (fun v s' => v ≠ .notImplemented ∧ EP X pins σ Q v s') X.xe) a b us.toArray ws.toArray n n2 dd dd2 sl sl2 hsz (fun j h1 h2 => ?_) ⟨(fun x => nomatch x), .bl false, H, J, rfl, q⟩ ho ho2
  have k := items_run (P := X.prog) (w := X.w) (A := X.A.in1) (s := s) (F := fun x y => ∃ t : Tr, t.depth ≤ 60 ∧ DT H A x t ∧ DT H B y t) (fun x y v u ⟨t, h0, h1, h2⟩ => sameP J 60 X.A.in1 (by show X.A.units + 1 + 60 < cLine; omega) h0 h1 h2) pr r1 r2 j (by simpa using h1) (by simpa using h2)
  simpa using k
end
end Lw

set_option Elab.async false
set_option linter.all false
set_option maxRecDepth 100000
set_option maxHeartbeats 4000000
/-! == and != by an own __eq__, whatever it answers -/
namespace Lw
open PySem PySem.Spec PyProof.Rows L2
section
variable {X : Cx} {n : Nat}
/-- what stands on the right: a type that is not asked first -/
def RightOk (X : Cx) (C : Addr) (h : Heap) (v : Value) : Prop := ∃ tb, PySem.W.Looks (model X.prog X.w) h (typeOf v) tb ∧ PySem.W.notFirst X.K C tb = true
theorem own_call {CX : CXT} {f : Addr} {fd : FuncData} {ps : List Str} {sp : Sp} {E : XK} (F : FnOk X.prog X.w X.K X.mg X.base CX n f fd ps sp) (hb : Binds X.K fd ps []) (hx : Passes CX X E)
    {A : Around} {pl : List (Addr × Obj)} {s : Shared} {σ : L2.St} {H : Hp} {a : Addr} {y : V} {v : Value} (sb : Sub X n A) (J : Inv X pl σ H s) (ry : RelV y v) {Q : Bool → Hp → Prop} (q : sp [.ref a, y] H (fun z H' => ∃ b, z = .bl b ∧ Q b H') E) :
    wpAny (model X.prog X.w) A (call (.ref f) [.ref a, v]) (fun r s' => ∃ b H', r = .bool b ∧ Inv X pl σ H' s' ∧ Q b H') X.xe s := by
  have e0 : Env0 X.prog X.w X.K X.mg X.base A X.stack s H := by
    have e := J.env0
    exact ⟨by rw [sb.fr]; exact e.frames, e.mod, e.bs, e.bsz, e.funs, e.frf, e.hok, e.bare⟩
  have hl := F.len _ _ _ _ q
  have r2 : Vals [V.ref a, y] [Value.ref a, v] := .cons rfl (.cons ry .nil)
  refine wpAny_call (codeAny_mono (F.run A X.stack s H ⟨[.ref a, v], []⟩ [.ref a, v] [.ref a, y] _ E sb.room e0 (by
    have h := hb s [.ref a, v] J.kIn (by simpa using hl)
    simpa using h) r2 q) fun r s' hq => ?_)
  cases r with
  | error e => exact hx pl σ H s e s' J hq
  | ok fl =>
    cases fl with
    | ret w =>
      obtain ⟨z, H', J', rz, b, ez, ex⟩ := J.after hq
      subst ez
      cases rz
      exact ⟨b, H', rfl, J', ex⟩
    | next => exact False.elim hq
    | brk => exact False.elim hq
    | cont => exact False.elim hq
/-- the class at C has this def as its __eq__, and nothing else in the way -/
structure EqCls (K : PySem.W.Frag) (C f : Addr) : Prop where
  eq : PySem.W.findIn K (.ref C) "__eq__" = some (some (.ref f))
  ne : PySem.W.findIn K (.ref C) "__ne__" = some (some (.builtin "object.__ne__"))
  fn : PySem.W.isFn K (.ref f) = true
  ob : PySem.W.subIn K (.ref C) (.type "object") = some true
def rEqOwn (C : Addr) (sp : Sp) (E : XK) (ok : V → Hp → Prop) : R2 := fun x y H Q => ∃ (a dx : Addr) (fs : List (Str × V)), x = .ref a ∧ H a = some (.ins C dx fs) ∧ ok y H ∧ sp [x, y] H (fun z H' => ∃ b, z = .bl b ∧ Q (.bl b) H') E
theorem op_eqOwn {CX : CXT} {C f : Addr} {fd : FuncData} {ps : List Str} {sp : Sp} {E : XK} {ok : V → Hp → Prop} (F : FnOk X.prog X.w X.K X.mg X.base CX n f fd ps sp) (hb : Binds X.K fd ps []) (hx : Passes CX X E) (c : EqCls X.K C f) (hr : Room n X.A)
    (hok : ∀ pl σ H s y v, Inv X pl σ H s → RelV y v → ok y H → RightOk X C s.heap v) : OpR X (compareOp .Eq) (rEqOwn C sp E ok) := by
  intro pl s σ H x y v u Q J rx ry h
  obtain ⟨a, dx, fs, rfl, ha, o, q⟩ := h
  cases (show v = Value.ref a from rx)
  obtain ⟨mA, G, _⟩ := ins_get J.hok ha
  obtain ⟨od, G, _⟩ := G.look
  obtain ⟨m, hF⟩ := J.fr
  obtain ⟨tb, L, nf⟩ := hok pl σ H s y u J ry o
  show wpAny (model X.prog X.w) X.A (richCompare .Eq (.ref a) u) (EP X pl σ Q) X.xe s
  refine PySem.W.cmp_K (op := .Eq) (tb := tb) hr.units0 hF J.ok.mod.kin G L nf c.eq c.fn ?_
  refine wpAny_mono (own_call F hb hx (A := X.A) ⟨hr, rfl⟩ J ry q) (fun r s' z => ?_) fun _ _ x => x
  obtain ⟨b, H', rfl, J', q'⟩ := z
  exact ⟨.bl b, H', J', rfl, q'⟩
section
variable {M : Model} {A : Around} {E : Value → Shared → Prop} {s : Shared} {K : PySem.W.Frag} {x C : Addr} {ox : Obj} {od : Option Obj} {name : Str} {id T : String}
/-- a built-in method of an instance is called -/
theorem bound_B {args : List Value} {Q : Option Value → Shared → Prop} (K1 : K.In s.heap) (G : PySem.W.InstAt s.heap x ox C od) (hs : PySem.W.findIn K (.ref C) name = some (some (.builtin id))) (S : Slot T name id)
    (h : wpAny M A (call (.builtin id) (.ref x :: args)) (fun v => Q (some v)) E s) : wpAny M A (callSpecialIfBound? (.ref x) name args) Q E s := by
  simp only [callSpecialIfBound?, bindSpecialIfBound?]
  refine wpAny_holding (wpAny_bind (wpAny_bind (wpAny_bind (G.type.here ((PySem.W.looks_findIn K1 hs).here ?_)))))
  simp only [S.bind]
  refine wpAny_bind (wpAny_askSetting (wpAny_ite ?_))
  have last : wpAny M A (call (.builtin id) ([.ref x] ++ args) >>= fun v => pure (some v)) Q E s := wpAny_bind (wpAny_mono h (fun v s' h' => wpAny_pure h') fun _ _ h' => h')
  split
  · exact wpAny_bind (wpAny_pure (wpAny_pure last))
  · exact wpAny_tryCatch (wpAny_bind (wpAny_pure (wpAny_pure last)))
/-- object.__ne__ is asked of an instance -/
theorem check_ne {b : Value} {Q : Unit → Shared → Prop} (K1 : K.In s.heap) (G : PySem.W.InstAt s.heap x ox C od) (ho : PySem.W.subIn K (.ref C) (.type "object") = some true) (q : Q () s) :
    wpAny M A (checkBuiltinCall "object.__ne__" ⟨[.ref x, b], []⟩) Q E s := by
  simp only [checkBuiltinCall, F.cmpKind_ne, F.cmpSplit_ne]
  refine wpAny_bind ?_
  unfold isInstance
  refine wpAny_bind (G.type.here ((PySem.W.looks_subIn K1 ho).here ?_))
  simp only [Bool.not_true, Bool.false_eq_true, if_false]
  have ok := F.cmpArgs_ne (.ref x) b
  cases hsig : Manifest.signature? "object.__ne__" with
  | none => exact wpAny_pure q
  | some sig =>
    simp only [argsOk, hsig] at ok
    have h2 : Bind.checkArgs "object.__ne__" sig ⟨[.ref x, b], []⟩ = pure () := ok
    show wpAny M A (Bind.checkArgs "object.__ne__" sig ⟨[.ref x, b], []⟩) Q E s
    rw [h2]
    exact wpAny_pure q
end
theorem ne_rc {P : Program} {w : World} {A : Around} {E : Value → Shared → Prop} {s : Shared} {K : PySem.W.Frag} {x C f L : Addr} {ox : Obj} {od : Option Obj} {b tb : Value} {h₀ : Heap} {m : Str → Option Value} {Q : Value → Shared → Prop}
    (c : EqCls K C f) (hu : A.units + 1 < cLine) (hF : Fr h₀ L s.heap m) (K0 : K.In h₀) (G : PySem.W.InstAt s.heap x ox C od) (hb : PySem.W.Looks (model P w) s.heap (typeOf b) tb) (hn : PySem.W.notFirst K C tb = true)
    (h : wpAny (model P w) A.in1 (call (.ref f) [.ref x, b]) (fun r s' => ∃ k, r = .bool k ∧ Q (.bool (!k)) s') E s) : wpAny (model P w) A (richCompare .NotEq (.ref x) b) Q E s := by
  have K1 := K0.keeps hF.keep
  have hu0 : A.units < cLine := Nat.lt_of_succ_lt hu
  have told : wpAny (model P w) A (call (.builtin "object.__ne__") [.ref x, b]) (fun v s' => ∃ k, v = .bool k ∧ Q (.bool k) s') E s := by
    refine wpAny_call (codeAny_call_builtin F.cmp_object.ne.plain F.cmpEntry_ne (check_ne K1 G c.ob ?_))
    unfold Builtin.«object.__ne__»
    repeat (first | (with_reducible refine wpAny_cRoomFor (by exact hu) ?_) | (with_reducible refine wpAny_bind (PySem.W.ifBound_K K1 G c.eq c.fn (wpAny_mono h (fun r s' hq => ?_) fun _ _ y => y))) | wp_step)
    obtain ⟨k, rfl, q⟩ := hq
    show wpAny _ _ (truthy (.bool k) >>= fun t => ret (Value.bool (!t))) _ _ _
    exact wpAny_bind (wpAny_truthy_bool (wpAny_pure ⟨!k, rfl, q⟩))
  have one : wpAny (model P w) A (tryCompare (.ref x) (cmpInfo .NotEq).2.1 b) (fun r s' => ∃ v, r = some v ∧ Q v s') E s := by
    unfold tryCompare
    refine wpAny_bind (bound_B K1 G c.ne F.cmp_object.ne (wpAny_mono told (fun v s' hv => ?_) fun _ _ y => y))
    obtain ⟨k, rfl, q⟩ := hv
    exact wpAny_pure ⟨_, rfl, q⟩
  unfold richCompare
  simp only [oneThing_ref]
  refine wpAny_holding (wpAny_bind (wpAny_cRoomFor hu0 ?_))
  refine wpAny_bind (G.type.here (wpAny_bind (hb.here ?_)))
  split
  · rename_i q
    have e : PySem.W.subIn K tb (.ref C) = some false := by
      rcases Bool.or_eq_true_iff.mp hn with e | e
      · rw [beq_iff_eq.mp e] at q
        simp at q
      · exact beq_iff_eq.mp e
    refine wpAny_bind ((PySem.W.looks_subIn K1 e).here ?_)
    simp only [Bool.false_eq_true, if_false]
    refine wpAny_bind (wpAny_mono one (fun r s' z => ?_) fun _ _ y => y)
    obtain ⟨v, rfl, hq⟩ := z
    exact wpAny_pure hq
  · refine wpAny_bind (wpAny_pure ?_)
    simp only [Bool.false_eq_true, if_false]
    refine wpAny_bind (wpAny_mono one (fun r s' z => ?_) fun _ _ y => y)
    obtain ⟨v, rfl, hq⟩ := z
    exact wpAny_pure hq
end
section
variable {X : Cx} {n : Nat}
theorem op_neOwn {CX : CXT} {C f : Addr} {fd : FuncData} {ps : List Str} {sp : Sp} {E : XK} {ok : V → Hp → Prop} (F : FnOk X.prog X.w X.K X.mg X.base CX n f fd ps sp) (hb : Binds X.K fd ps []) (hx : Passes CX X E) (c : EqCls X.K C f) (hr : Room (n + 1) X.A)
    (hok : ∀ pl σ H s y v, Inv X pl σ H s → RelV y v → ok y H → RightOk X C s.heap v) :
    OpR X (compareOp .NotEq) (fun x y H Q => ∃ (a dx : Addr) (fs : List (Str × V)), x = .ref a ∧ H a = some (.ins C dx fs) ∧ ok y H ∧ sp [x, y] H (fun z H' => ∃ b, z = .bl b ∧ Q (.bl (!b)) H') E) := by
  intro pl s σ H x y v u Q J rx ry h
  obtain ⟨a, dx, fs, rfl, ha, o, q⟩ := h
  cases (show v = Value.ref a from rx)
  obtain ⟨mA, G, _⟩ := ins_get J.hok ha
  obtain ⟨od, G, _⟩ := G.look
  obtain ⟨m, hF⟩ := J.fr
  obtain ⟨tb, L, nf⟩ := hok pl σ H s y u J ry o
  show wpAny (model X.prog X.w) X.A (richCompare .NotEq (.ref a) u) (EP X pl σ Q) X.xe s
  refine ne_rc c hr.in1.units0 hF J.ok.mod.kin G L nf ?_
  refine wpAny_mono (own_call F hb hx (A := X.A.in1) (Sub.in1 ⟨hr, rfl⟩) J ry (Q := fun b H' => Q (.bl (!b)) H') q) (fun r s' z => ?_) fun _ _ x => x
  obtain ⟨b, H', rfl, J', q'⟩ := z
  exact ⟨b, rfl, .bl (!b), H', J', rfl, q'⟩
/-- an instance of the same class, or a value of a type of Python's -/
theorem right_of {C : Addr} {pl : List (Addr × Obj)} {σ : L2.St} {H : Hp} {s : Shared} {y t : Value} {v : V} (J : Inv X pl σ H s) (r : RelV v y) (ty : TyX X.K H v t) (nf : PySem.W.notFirst X.K C t = true) : RightOk X C s.heap y := by
  obtain ⟨P, Z, p, _⟩ := kit_of J r ty
  exact ⟨t, Z.ty _ _ J.kIn p, nf⟩
end
end Lw

set_option Elab.async false
set_option linter.all false
set_option maxRecDepth 100000
set_option maxHeartbeats 4000000
/-! enumerate over a tuple -/
namespace Lw
open PySem PySem.Spec PyProof.Rows L2
theorem enum_one {v : Value} {o : Obj} {Hs : Heap → Prop} (B : Begins v o Hs) :
    Meets (Builtin.«enumerate.__new__» ⟨[.type "enumerate", v], []⟩) (fun _ R s => Hs s.heap ∧
      R (.ok (.ret (.ref (s.heap.push o).objs.size))) { s with heap := (s.heap.push o).push ⟨.type "enumerate", none, .fields #[.none, .bool false, .ref s.heap.objs.size, rawInt 0, .none, .none], #[]⟩ }) :=
  .of_wp fun P w A R s h => by
    obtain ⟨hp, gs, dr, tk, os⟩ := s
    obtain ⟨hH, h⟩ := h
    have sub := sub_enumerate
    have one : ∀ {A' : Around} {E : Value → Shared → Prop} {Q : Value → Shared → Prop}, Q (.ref hp.objs.size) ⟨hp.push o, gs, dr, tk, os⟩ → wpAny (model P w) A' (pyIter v) Q E ⟨hp, gs, dr, tk, os⟩ := fun q => B.iter P w _ _ ⟨hp, gs, dr, tk, os⟩ _ hH q
    wp_walk using one
    refine wpAny_stack_any fun stk => wpAny_pure ?_
    split
    · rename_i cc _ _ _ _ _
      cases (cc == Value.type "enumerate") <;> (wp_walk using one; exact ⟨_, rfl, h⟩)
    · wp_walk using one
      exact ⟨_, rfl, h⟩
theorem call_enum1 {P : Program} {w : World} {A : Around} {E : Value → Shared → Prop} {s : Shared} {v : Value} {o : Obj} {Hs : Heap → Prop} {Q : Value → Shared → Prop} (B : Begins v o Hs) (hH : Hs s.heap)
    (h : ∀ h', IsEnum h' (s.heap.objs.size + 1) s.heap.objs.size 0 .none → h'.get? s.heap.objs.size = some o → (∀ b ob, s.heap.get? b = some ob → h'.get? b = some ob) → Q (.ref (s.heap.objs.size + 1)) { s with heap := h' }) :
    wpAny (model P w) A (call (.type "enumerate") [v]) Q E s := by
  refine callType_new F.called_enumerate (by decide) (F.typeCall_enumerate_1 _) (F.newCall_enumerate_1 _) (fun ob => F.args_object_init_2 ob _) F.entry_enumerate_new (enum_one B) ⟨hH, ?_⟩
  have z : (s.heap.push o).objs.size = s.heap.objs.size + 1 := Heap.size_push ..
  show _ ∧ _
  rw [z]
  have g : IsEnum ((s.heap.push o).push ⟨.type "enumerate", none, .fields #[.none, .bool false, .ref s.heap.objs.size, rawInt 0, .none, .none], #[]⟩) (s.heap.objs.size + 1) s.heap.objs.size 0 .none := by
    have q := Heap.get?_push_size (s.heap.push o) (o := ⟨.type "enumerate", none, .fields #[.none, .bool false, .ref s.heap.objs.size, rawInt 0, .none, .none], #[]⟩) rfl
    rw [z] at q
    exact q
  exact ⟨⟨_, g, rfl⟩, h _ g (Heap.get?_push_of_some _ (Heap.get?_push_size _ B.free)) fun b ob e => Heap.get?_push_of_some _ (Heap.get?_push_of_some _ e)⟩
/-- the tuple at a, each item in a new pair -/
def IteT (K : PySem.W.Frag) (a : Addr) : It :=
  ⟨fun i H => ∃ (xs : List V) (x : V), SqT K H a xs ∧ xs[i]? = some x, fun i H v H' => ∃ T x, v = .ref T ∧ H T = none ∧ H' = upd H T (.tup [.int (i : Nat), x]) ∧ ∀ xs, SqT K H a xs → xs[i]? = some x, fun i H => ∃ xs : List V, SqT K H a xs ∧ xs.length = i⟩
theorem turn_enumT {P : Program} {w : World} {K : PySem.W.Frag} {elts : List Expr} {kk : Nat} {tpos : Pos} (a e it : Addr) :
    Turn P w K (.Tuple elts kk tpos) (IteT K a) [e, it] e (fun i h => (∃ old, IsEnum h e it ((i : Nat) : Int) old) ∧ h.IsTupleIter it a i ∧ e ≠ it ∧ a ≠ it ∧ a ≠ e) where
  mem := by simp
  obj := fun i h st b hb => by
    obtain ⟨⟨old, he⟩, ⟨o, ho, hc, hd⟩, _⟩ := st
    rcases (by simpa using hb : b = e ∨ b = it) with z | z
    · rw [z]; exact ⟨_, he, fun v q => nomatch q⟩
    · rw [z]; exact ⟨o, ho, fun v q => by rw [hd] at q; cases q⟩
  keep := fun i h h' st k => let ⟨⟨old, he⟩, hi, ne⟩ := st; ⟨⟨old, k e (by simp) _ he⟩, hi.at fun o q => k it (by simp) o q, ne⟩
  item := by
    intro X hP hw hK hc i pl s σ H E J hf st hg
    subst hP hw hK
    obtain ⟨⟨old, he⟩, hit, hne, hai, hae⟩ := st
    obtain ⟨xs, x, hq, hx⟩ := hg
    obtain ⟨its, rv, p, hz⟩ := J.tuple hq
    obtain ⟨u, hu, ru⟩ := rv.get hx
    have hel : e < s.heap.objs.size := Heap.lt_size he
    have hil : it < s.heap.objs.size := by obtain ⟨_, q, _⟩ := hit; exact Heap.lt_size q
    have hlt : i < its.toArray.size := by
      have h1 := (List.getElem?_eq_some_iff.mp hu).1
      simpa using h1
    have nef : e ∉ [it, a] := by
      intro m
      rcases (by simpa using m : e = it ∨ e = a) with z | z
      · exact hne z
      · exact hae z.symm
    refine wpAny_pyNext_enum_itemD (Draws.tuple (prog := X.prog) (w := X.w) (A := X.A.in1) (J.ok.hd hc) it a hai its.toArray) he ⟨hit, p⟩ hlt hne nef fun y h' tk hy ho st' hT hsz hk => ?_
    obtain rfl : u = y := by
      have h2 : its.toArray[i]? = some u := by simpa using hu
      rw [h2] at hy
      exact Option.some.inj hy
    refine ⟨_, rfl, wpAny_letOwnedTupleGo_enum (s := { s with heap := h', toks := tk + 1 }) ho fun h'' he' sb => ?_⟩
    have hT2 : h''.get? s.heap.objs.size = some { cls := .type "tuple", data := .seq #[.int i tk, u] } := (sb.2 _ (Nat.ne_of_gt hel)).trans hT
    have new : ObjOk X.prog X.w (upd H s.heap.objs.size (.tup [.int (i : Nat), x])) h'' s.heap.objs.size (.tup [.int (i : Nat), x]) :=
      ⟨by show 2 ≤ sizeLine; decide, [.int i tk, u], .cons ⟨_, rfl⟩ (.cons ru .nil), ⟨_, hT2, rfl, _, rfl⟩⟩
    have J1 : Inv X pl σ (upd H s.heap.objs.size (.tup [.int (i : Nat), x])) { s with heap := h'', toks := tk + 1 } :=
      J.turnedNew (ch := [e, it]) (fun b ob hb q => (sb.2 b (fun z => hb (by simp [z]))).trans (hk b ob (fun z => hb (by simp [z])) (fun z => hb (by simp [z])) q)) hf (Nat.le_refl _) new
    refine ⟨.ref s.heap.objs.size, _, J1, rfl, ⟨_, x, rfl, J.hok.fresh (Nat.le_refl _), rfl, fun ys hy2 => by rw [J.tuple_inj hy2 hq]; exact hx⟩, ⟨⟨u, ?_⟩, st'.1.at fun o q => (sb.2 it (Ne.symm hne)).trans q, hne, hai, hae⟩, fun b hb => ?_⟩
    · have e1 : ((i + 1 : Nat) : Int) = (i : Int) + 1 := by omega
      rw [e1]
      exact he'
    · have hb' : b < s.heap.objs.size := by
        rcases (by simpa using hb : b = e ∨ b = it) with z | z
        · rw [z]; exact hel
        · rw [z]; exact hil
      rw [upd_ne (Nat.ne_of_lt hb')]
      exact (hf b hb).1
  done := by
    intro X hP hw hK hc i pl s σ H E J hf st hg
    subst hP hw hK
    obtain ⟨⟨old, he⟩, hit, hne, hai, hae⟩ := st
    obtain ⟨xs, hq, hx⟩ := hg
    obtain ⟨its, rv, p, hz⟩ := J.tuple hq
    obtain ⟨f0, f1, f2, f3, f4, f5⟩ := hf it (by simp)
    have hl : its.toArray.size = i := by rw [List.size_toArray, ← rv.length]; exact hx
    refine wpAny_pyNext_enum_endD (Draws.tuple (prog := X.prog) (w := X.w) (A := X.A.in1) (J.ok.hd hc) it a hai its.toArray) he (by rw [hl]; exact ⟨hit, p⟩) fun h' eb => ?_
    exact ⟨rfl, J.turned (t' := s.toks) (fun b o hb q => eb b o hb q) f0 f1 f3 f4 f5⟩
  self := fun A i s Q E st h => let ⟨⟨_, he⟩, _⟩ := st; wpAny_pyIter_enum he h
def iEnumT (K : PySem.W.Frag) (ta : TA) : TI := fun σ H R => ta σ H fun vs H1 => ∃ a xs, vs = [.ref a] ∧ SqT K H1 a xs ∧ R (IteT K a) H1
theorem pi_enumT {X : Cx} {e : Expr} {ta : TA} {p pos tpos : Pos} {elts : List Expr} {kk : Nat} (hg : Gl X "enumerate") (hm : X.mg "enumerate" = none) (ha : PA X [e] ta) (hs : starEach [e] X.env = [(false, eval e X.env)] := by rfl) :
    PI X (.Tuple elts kk tpos) (.Call (.Name "enumerate" p) [e] [] pos) (iEnumT X.K ta) := by
  refine ⟨fun pl s σ H R J h => ?_⟩
  refine Call_ (ld_blt J hg hm boot_enumerate (PyProof.Rows.callWith_type1 (thn (ha.run pos pl s σ H _ J h) fun us s1 ⟨vs, H1, J1, r1, q1⟩ => ?_) hs rfl))
  obtain ⟨a, xs, ex, hq, q⟩ := q1
  subst ex
  cases r1 with
  | cons r rr =>
    cases rr
    cases r
    obtain ⟨its, rv, p', hz⟩ := J1.tuple hq
    have hal : a < s1.heap.objs.size := by obtain ⟨_, q, _⟩ := p'; exact Heap.lt_size q
    refine call_enum1 (begins_tuple a its.toArray) p' fun h' he hit hk => wpAny_pyIter_enum he ?_
    have J2 : Inv X pl σ H1 { s1 with heap := h' } := J1.kept (t' := s1.toks) hk
    refine ⟨s1.heap.objs.size + 1, [s1.heap.objs.size + 1, s1.heap.objs.size], _, _, H1, rfl, J2, turn_enumT a (s1.heap.objs.size + 1) s1.heap.objs.size, ⟨⟨.none, he⟩, ⟨_, hit, rfl, rfl⟩, Nat.succ_ne_self _, Nat.ne_of_lt hal, Nat.ne_of_lt (Nat.lt_succ_of_lt hal)⟩, fun b hb => ?_, q⟩
    have hle : s1.heap.objs.size ≤ b := by
      rcases (by simpa using hb : b = s1.heap.objs.size + 1 ∨ b = s1.heap.objs.size) with z | z
      · rw [z]; exact Nat.le_add_right _ _
      · rw [z]; exact Nat.le_refl _
    exact J1.fpOk hle (J1.hok.fresh hle)
end Lw

set_option Elab.async false
set_option linter.all false
namespace Lw
open PySem PySem.Spec PyProof.Rows L2
/-- a row that nobody comes to -/
theorem ps_never {X : Cx} {st : Stmt} : PS X st (fun _ _ _ => False) := ⟨fun _ _ _ _ _ _ h => h.elim⟩
end Lw

set_option Elab.async false
set_option linter.all false
set_option maxRecDepth 100000
set_option maxHeartbeats 4000000
namespace Lw
open PySem PySem.Spec PyProof.Rows L2
/-! ### the tables in order; rules as trees -/
def tabOf (tabs : Tabs) (z : Str) : Flds := (tabAt tabs z).getD []
def ordTabs (tabs : Tabs) : Tabs := (sortT (tabs.map (·.1))).map fun z => (z, ordF (tabOf tabs z))
theorem ordTabs_keys (tabs : Tabs) : (ordTabs tabs).map (·.1) = sortT (tabs.map (·.1)) := by
  unfold ordTabs
  rw [List.map_map]
  exact List.map_id' _
theorem ordTabs_vals (tabs : Tabs) : (ordTabs tabs).map (fun p => fieldsT p.2) = (sortT (tabs.map (·.1))).map fun z => fieldsT (ordF (tabOf tabs z)) := by
  unfold ordTabs
  rw [List.map_map]
  rfl
theorem tst_canon : ∀ t : Tst, t.tree.canon = t.tree
  | .is f ws => by
    show Tr.tup [.str "is", .str f, .lst (Tr.canons (ws.map Tr.str))] = _
    rw [canons_map, List.map_map]
    rfl
  | .non f => rfl
  | .nt t => by
    show Tr.tup [.str "not", t.tree.canon] = _
    rw [tst_canon t]
    rfl
theorem tests_canon (ts : List Tst) : (testsT ts).canon = testsT ts := by
  show Tr.lst (Tr.canons (ts.map Tst.tree)) = _
  rw [canons_map, List.map_map]
  unfold testsT
  congr 1
  exact List.map_congr_left fun t _ => tst_canon t
theorem rule_canon : ∀ r : Rul, (ruleT r).canon = ruleT r
  | (n, .link tb fd x y) => by
    show Tr.tup [.str n, .str "link", .str tb, .str fd, (testsT x).canon, (testsT y).canon] = _
    rw [tests_canon, tests_canon]
    rfl
  | (n, .uniq tb fd) => rfl
  | (n, .one tb x) => by
    show Tr.tup [.str n, .str "some", .str tb, (testsT x).canon] = _
    rw [tests_canon]
    rfl
  | (n, .chk tb x) => by
    show Tr.tup [.str n, .str "check", .str tb, (testsT x).canon] = _
    rw [tests_canon]
    rfl
theorem tst_depth : ∀ t : Tst, t.tree.depth ≤ t.depth + 2
  | .is f ws => by
    show max 0 (max 0 (max (Tr.depths (ws.map Tr.str) + 1) 0)) + 1 ≤ 2
    have h := strs_depths ws
    omega
  | .non f => by show max 0 (max 0 0) + 1 ≤ 2; omega
  | .nt t => by
    show max 0 (max t.tree.depth 0) + 1 ≤ t.depth + 1 + 2
    have h := tst_depth t
    omega
theorem tests_depth {fs : Flds} {ts : List Tst} (o : TstsOk fs ts) : (testsT ts).depth ≤ 5 := by
  have h : Tr.depths (ts.map Tst.tree) ≤ 4 := depths_le fun t ht => by
    obtain ⟨s, hs, rfl⟩ := List.mem_map.mp ht
    have h1 := tst_depth s
    have h2 := (o.1 s hs).dep
    omega
  show Tr.depths (ts.map Tst.tree) + 1 ≤ 5
  omega
theorem core_few {fs : Flds} {m : Nat} (hm : m ≤ 1000) : ∀ {t : Tst}, TstC fs m t.core → t.tree.few = true
  | .is f ws, h => by
    have h2 : ws.length ≤ m := by
      cases h with
      | is a b c d e => exact c
    show (decide (3 ≤ 1000) && (true && (true && ((decide ((ws.map Tr.str).length ≤ 1000) && Tr.fews (ws.map Tr.str)) && true)))) = true
    rw [strs_fews, List.length_map, decide_eq_true (by omega : ws.length ≤ 1000)]
    rfl
  | .non f, _ => rfl
  | .nt t, h => by
    show (decide (2 ≤ 1000) && (true && (t.tree.few && true))) = true
    rw [core_few hm (t := t) h]
    rfl
theorem tests_few {fs : Flds} {ts : List Tst} (o : TstsOk fs ts) : (testsT ts).few = true := by
  show (decide ((ts.map Tst.tree).length ≤ 1000) && Tr.fews (ts.map Tst.tree)) = true
  rw [List.length_map, decide_eq_true (by have := o.2; omega : ts.length ≤ 1000), fews_all fun t ht => by
    obtain ⟨s, hs, rfl⟩ := List.mem_map.mp ht
    exact core_few (by decide) (o.1 s hs).core]
  rfl
theorem rule_depth {tabs : Tabs} : ∀ {r : Rul}, RKOk tabs r.2 → (ruleT r).depth ≤ 6
  | (n, .link tb fd x y), .link h l h2 tx ty => by
    show max 0 (max 0 (max 0 (max 0 (max (testsT x).depth (max (testsT y).depth 0))))) + 1 ≤ 6
    have h1 := tests_depth tx
    have h2 := tests_depth ty
    omega
  | (n, .uniq tb fd), _ => by show max 0 (max 0 (max 0 (max 0 0))) + 1 ≤ 6; omega
  | (n, .one tb x), .one h tx => by
    show max 0 (max 0 (max 0 (max (testsT x).depth 0))) + 1 ≤ 6
    have h1 := tests_depth tx
    omega
  | (n, .chk tb x), .chk h tx => by
    show max 0 (max 0 (max 0 (max (testsT x).depth 0))) + 1 ≤ 6
    have h1 := tests_depth tx
    omega
theorem rule_few {tabs : Tabs} : ∀ {r : Rul}, RKOk tabs r.2 → (ruleT r).few = true
  | (n, .link tb fd x y), .link h l h2 tx ty => by
    show (decide (6 ≤ 1000) && (true && (true && (true && (true && ((testsT x).few && ((testsT y).few && true))))))) = true
    rw [tests_few tx, tests_few ty]
    rfl
  | (n, .uniq tb fd), _ => rfl
  | (n, .one tb x), .one h tx => by
    show (decide (4 ≤ 1000) && (true && (true && (true && ((testsT x).few && true))))) = true
    rw [tests_few tx]
    rfl
  | (n, .chk tb x), .chk h tx => by
    show (decide (4 ≤ 1000) && (true && (true && (true && ((testsT x).few && true))))) = true
    rw [tests_few tx]
    rfl
theorem rules_canon (rs : List Rul) : (rulesT rs).canon = rulesT rs := by
  show Tr.lst (Tr.canons (rs.map ruleT)) = _
  rw [canons_map, List.map_map]
  unfold rulesT
  congr 1
  exact List.map_congr_left fun t _ => rule_canon t
theorem rules_depth {tabs : Tabs} {rs : List Rul} (o : PartsOk tabs rs) : (rulesT rs).depth ≤ 7 := by
  have h : Tr.depths (rs.map ruleT) ≤ 6 := depths_le fun t ht => by
    obtain ⟨s, hs, rfl⟩ := List.mem_map.mp ht
    exact rule_depth (o.ok s hs).2
  show Tr.depths (rs.map ruleT) + 1 ≤ 7
  omega
theorem rules_few {tabs : Tabs} {rs : List Rul} (o : PartsOk tabs rs) : (rulesT rs).few = true := by
  show (decide ((rs.map ruleT).length ≤ 1000) && Tr.fews (rs.map ruleT)) = true
  rw [List.length_map, decide_eq_true (by have := o.few; omega : rs.length ≤ 1000), fews_all fun t ht => by
    obtain ⟨s, hs, rfl⟩ := List.mem_map.mp ht
    exact rule_few (o.ok s hs).2]
  rfl
/-! ### a schema -/
structure SchAt (C : Addr) (H : Hp) (A : Addr → Prop) (s : Addr) (tabs : Tabs) (rs : List Rul) : Prop where
  ex : ∃ dx dT dR, A s ∧ H s = some (.ins C dx [("_tables", .ref dT), ("_rules", .ref dR)]) ∧ DT H A (.ref dT) (tablesT (ordTabs tabs)) ∧ DT H A (.ref dR) (rulesT rs)
theorem SchAt.mono {C : Addr} {H H' : Hp} {A : Addr → Prop} {s : Addr} {tabs : Tabs} {rs : List Rul} (x : SchAt C H A s tabs rs) (k : ∀ a o, A a → H a = some o → H' a = some o) : SchAt C H' A s tabs rs := by
  obtain ⟨dx, dT, dR, n, e, d1, d2⟩ := x.ex
  exact ⟨dx, dT, dR, n, k _ _ n e, d1.mono k, d2.mono k⟩
theorem SchAt.sub {C : Addr} {H : Hp} {A B : Addr → Prop} {s : Addr} {tabs : Tabs} {rs : List Rul} (x : SchAt C H A s tabs rs) (k : ∀ a, A a → B a) : SchAt C H B s tabs rs := by
  obtain ⟨dx, dT, dR, n, e, d1, d2⟩ := x.ex
  exact ⟨dx, dT, dR, k _ n, e, d1.sub k, d2.sub k⟩
section
variable {K : PySem.W.Frag} {a : Addr} {xs : List V}
theorem walk_enumT : Walk (IteT K a) xs.length (fun H => SqT K H a xs) (YPair (fun i => some (.int (i : Nat))) (fun i => xs[i]?)) := by
  refine ⟨fun i _ hi q => ⟨xs, xs[i], q, by simp [hi]⟩, fun _ q => ⟨xs, q, rfl⟩, fun i H v H' _ q y => ?_⟩
  obtain ⟨T, x, h1, h2, h3, h4⟩ := y
  exact ⟨T, .int (i : Nat), x, h1, h2, h3, rfl, h4 xs q⟩
end
/-! ### Schema.__init__ -/
abbrev sMeth (i : Nat) : Stmt := (C8.clsBody (topS 40)).getD i (.Pass ⟨0, 0, 0, 0⟩)
abbrev sInit : Stmt := sMeth 0
abbrev NInit : List Str := ["self", "tables", "rules", "at", "rule", "earlier", "table"]
theorem scInit : FnScope NInit ["self", "tables", "rules"] (C8.fnScope sInit) := ⟨rfl, rfl, rfl, by decide +kernel, rfl, by decide +kernel, by decide +kernel⟩
end Lw

set_option Elab.async false
set_option linter.all false
set_option maxRecDepth 100000
set_option maxHeartbeats 4000000
namespace Lw
open PySem PySem.Spec PyProof.Rows L2
/-- the places of a tree hold lists, tuples, dicts -/
def PlainO : HO → Prop
  | .lst _ => True
  | .tup _ => True
  | .dK _ => True
  | _ => False
mutual
theorem DT.plain {H : Hp} {A : Addr → Prop} : ∀ {v : V} {t : Tr}, DT H A v t → DT H (fun a => A a ∧ ∃ o, H a = some o ∧ PlainO o) v t
  | _, _, .non => .non
  | _, _, .bl b => .bl b
  | _, _, .int i => .int i
  | _, _, .str z => .str z
  | _, _, .lst e n d => .lst e ⟨n, _, e, trivial⟩ (DTs.plain d)
  | _, _, .tup e n d => .tup e ⟨n, _, e, trivial⟩ (DTs.plain d)
  | _, _, .dct e n k nd few d => .dct e ⟨n, _, e, trivial⟩ k nd few (DTs.plain d)
theorem DTs.plain {H : Hp} {A : Addr → Prop} : ∀ {vs : List V} {ts : List Tr}, DTs H A vs ts → DTs H (fun a => A a ∧ ∃ o, H a = some o ∧ PlainO o) vs ts
  | _, _, .nil => .nil
  | _, _, .cons x y => .cons (DT.plain x) (DTs.plain y)
end
/-- an instance is none of them -/
theorem DT.noIns {H : Hp} {A : Addr → Prop} {s C dx : Addr} {fs : List (Str × V)} (hs : H s = some (.ins C dx fs)) {v : V} {t : Tr} (d : DT H A v t) : DT H (fun a => A a ∧ a ≠ s) v t := d.plain.sub fun a h => ⟨h.1, fun n => by
  obtain ⟨_, o, e, p⟩ := h
  rw [n, hs] at e
  cases e
  exact p⟩
theorem DTs.noIns {H : Hp} {A : Addr → Prop} {s C dx : Addr} {fs : List (Str × V)} (hs : H s = some (.ins C dx fs)) {vs : List V} {ts : List Tr} (d : DTs H A vs ts) : DTs H (fun a => A a ∧ a ≠ s) vs ts := d.plain.sub fun a h => ⟨h.1, fun n => by
  obtain ⟨_, o, e, p⟩ := h
  rw [n, hs] at e
  cases e
  exact p⟩
theorem cut_take (xs : List V) (i : Nat) : cutV xs none (some (i : Int)) = xs.take i := by
  have e : HT.sIx xs.length xs.length (some ((i : Nat) : Int)) = min i xs.length := HT.sIx_nat _ _ i
  unfold cutV
  rw [e, HT.sIx_none]
  simp
theorem inB_no {known : List Str} {z : Str} (h : z ∉ known) : inV (V.str z) (known.map V.str) = false := by
  cases g : inV (V.str z) (known.map V.str) with
  | false => rfl
  | true => exact absurd (inB_iff.mp g) h
/-- a rule's name stands at its head -/
theorem rule_name {H : Hp} {B : Addr → Prop} {v : V} : ∀ {r : Rul}, DT H B v (ruleT r) → ∃ (a : Addr) (xs : List V), v = .ref a ∧ H a = some (.tup xs) ∧ B a ∧ xs[0]? = some (.str r.1)
  | (n, .link tb fd x y), d => by
    obtain ⟨a, xs, rfl, e, n, dd⟩ := d.tupI
    cases dd with
    | cons p q => cases p; exact ⟨a, _, rfl, e, n, rfl⟩
  | (n, .uniq tb fd), d => by
    obtain ⟨a, xs, rfl, e, n, dd⟩ := d.tupI
    cases dd with
    | cons p q => cases p; exact ⟨a, _, rfl, e, n, rfl⟩
  | (n, .one tb x), d => by
    obtain ⟨a, xs, rfl, e, n, dd⟩ := d.tupI
    cases dd with
    | cons p q => cases p; exact ⟨a, _, rfl, e, n, rfl⟩
  | (n, .chk tb x), d => by
    obtain ⟨a, xs, rfl, e, n, dd⟩ := d.tupI
    cases dd with
    | cons p q => cases p; exact ⟨a, _, rfl, e, n, rfl⟩
theorem nodup_map_take {rs : List Rul} (nd : (rs.map (·.1)).Nodup) {i : Nat} {r : Rul} (h : rs[i]? = some r) : r.1 ∉ (rs.take i).map (·.1) := by
  rw [List.map_take]
  exact take_not_mem nd (by rw [List.getElem?_map, h]; rfl)
theorem tabOf_at {tabs : Tabs} {z : Str} {fs : Flds} (h : tabAt tabs z = some fs) : tabOf tabs z = fs := by unfold tabOf; rw [h]; rfl
section
variable {P : Program} {w : World} {K : PySem.W.Frag} {mg : Str → Option Value} {base : Heap}
/-- what stands behind it: the instance with its two fields, all else as it was -/
def MadeAt (C : Addr) (H : Hp) (s dx : Addr) (tabs : Tabs) (rs : List Rul) (H' : Hp) : Prop := (∀ c u, H c = some u → c ≠ s → H' c = some u) ∧ ∃ dT dR, H' s = some (.ins C dx [("_tables", .ref dT), ("_rules", .ref dR)]) ∧ DT H' (fun c => H c = none) (.ref dT) (tablesT (ordTabs tabs)) ∧ DT H' (fun c => H c = none) (.ref dR) (rulesT rs)
structure InitCls (K : PySem.W.Frag) (C : Addr) : Prop where
  cls : Cls K C
  n1 : NoAttr K C "_tables"
  n2 : NoAttr K C "_rules"
def spInitL (C : Addr) : Sp := fun vs H Q _ => ∃ (s dx T R : Addr) (tabs : Tabs) (rs : List Rul) (A B : Addr → Prop), vs = [.ref s, .ref T, .ref R] ∧ H s = some (.ins C dx []) ∧ DT H A (.ref T) (tablesT tabs) ∧ DT H B (.ref R) (rulesT rs) ∧ PartsOk tabs rs ∧ ∀ H', MadeAt C H s dx tabs rs H' → Q .non H'
theorem ok_initL {C f f27 f29 f28 f19 : Addr} {fd fd27 fd29 fd28 fd19 : FuncData} {t1 : Tok} (F : C8.Fun K "__init__" "Schema.__init__" sInit f fd) (c : InitCls K C)
    (G27 : FnOk P w K mg base CX0 5 f27 fd27 ["thing"] spTabs1) (m27 : mg "_are_tables" = some (.ref f27)) (k27 : PySem.W.keepIn K (.ref f27) = true) (b27 : Binds K fd27 ["thing"] [])
    (G29 : FnOk P w K mg base CX0 6 f29 fd29 ["tables", "thing"] spRule1) (m29 : mg "_is_rule" = some (.ref f29)) (k29 : PySem.W.keepIn K (.ref f29) = true) (b29 : Binds K fd29 ["tables", "thing"] [])
    (G28 : FnOk P w K mg base CX0 5 f28 fd28 ["fields"] spOrd) (m28 : mg "_ordered" = some (.ref f28)) (k28 : PySem.W.keepIn K (.ref f28) = true) (b28 : Binds K fd28 ["fields"] [])
    (G19 : FnOk P w K mg base CX0 8 f19 fd19 ["thing"] (spCopy 8)) (m19 : mg "copy_of" = some (.ref f19)) (k19 : PySem.W.keepIn K (.ref f19) = true) (b19 : Binds K fd19 ["thing"] [])
    (mi : mg "isinstance" = none) (ml : mg "list" = none) (mt : mg "tuple" = none) (mlen : mg "len" = none) (men : mg "enumerate" = none) (mso : mg "sorted" = none) (mM : mg "MOST_RULES" = some (.int 6 t1)) : FnOk P w K mg base CX0 9 f fd ["self", "tables", "rules"] (spInitL C) := by
  refine C8.fn0 F scInit (fun vs H Q E h => ?_) (fun cdv A0 outer s0 H vs Q E hr h => ?_)
  · obtain ⟨s, dx, T, R, tabs, rs, A, B, rfl, _⟩ := h
    rfl
  obtain ⟨s, dx, T, R, tabs, rs, A, B, rfl, hs, dT, dR, ok, q⟩ := h
  refine ⟨_, (pss_cons (ps_if (pt_not (pt_val (pe_call G27 (hr.mono (by decide)) (by rfl) m27 k27 b27 .nil pass0 (pa_cons (pv 1) pa_nil)))) (pss_one ps_never) pss_nil)
    (pss_cons (ps_if (PW.pt (pw_or (pt_not (pt_val (pe_callB call_isiT (by rfl) mi (by decide +kernel) (pa_cons (pv 2) (pa_cons (pe_tup (pa_cons (pe_bltn (v := .ty "list") (by rfl) ml (by decide +kernel) rfl) (pa_cons (pe_bltn (v := .ty "tuple") (by rfl) mt (by decide +kernel) rfl) pa_nil))) pa_nil))))) (pw_or1 (pt_cmpR op_gt (pe_callB call_len_seq (by rfl) mlen (by decide +kernel) (pa_cons (pv 2) pa_nil)) (pe_glob (v := .int 6) (by rfl) mM ⟨t1, rfl⟩) (nomark _))))) (pss_one ps_never) pss_nil)
    (pss_cons (ps_for PassesOwn.never rfl (pi_enum (by rfl) men (pa_cons (pv 2) pa_nil)) (pg_tup rfl (pgs_cons (pg_name (i := 3) scInit.nd rfl (.inl rfl)) (pgs_cons (pg_name (i := 4) scInit.nd rfl (.inl rfl)) pgs_nil)))
      (pss_one (ps_if (PW.pt (pw_or (pt_not (pt_val (pe_call G29 (hr.mono (by decide)) (by rfl) m29 k29 b29 .nil pass0 (pa_cons (pv 1) (pa_cons (pv 4) pa_nil))))) (pw_or1 (pt_cmpR (r := rIn K false) op_in_seq (pe_ix ix_tup (pv 4) pe_int (fun _ _ => rfl)) (pe_lc (own := [("earlier", 5)]) (g := gName 5) (tt := tYes) rfl scInit.nd (pi_list (pe_slice sl_list (pv 2) po_none (po_some (pv 3)))) (blkOk_by (N := NInit) (sc := C8.fnScope sInit) (by decide +kernel)) (fun _ _ _ _ _ => pg_name (i := 5) scInit.nd rfl (Or.inl rfl)) (fun _ _ _ _ _ => pts_nil) (fun _ _ _ _ _ => pe_ix (r := rIxT K) ix_tup (pv 5) pe_int (fun _ _ => rfl))) (by rfl))))) (pss_one ps_never) pss_nil)))
    (pss_cons (ps_fld (pv 0) (pe_dc (own := [("table", 6)]) (g := gName 6) (tt := tYes) rfl scInit.nd (pi_list (pe_callB (call_sortedD rfl) (by rfl) mso (by decide +kernel) (pa_cons (pv 1) pa_nil))) (blkOk_by (N := NInit) (sc := C8.fnScope sInit) (by decide +kernel)) (fun _ _ _ _ _ => pg_name (i := 6) scInit.nd rfl (Or.inl rfl)) (fun _ _ _ _ _ => pts_nil) (fun _ _ _ _ _ => pv 6) (fun _ _ _ _ _ => pe_call G28 (hr.mono (by decide)) (by rfl) m28 k28 b28 .nil pass0 (pa_cons (pe_dget (hu_of hr) (pv 1) (pv 6) (fun _ _ => rfl)) pa_nil))) (by rfl))
    (pss_one (ps_fld (pv 0) (pe_lc (own := [("rule", 4)]) (g := gName 4) (tt := tYes) rfl scInit.nd (pi_list (pv 2)) (blkOk_by (N := NInit) (sc := C8.fnScope sInit) (by decide +kernel)) (fun _ _ _ _ _ => pg_name (i := 4) scInit.nd rfl (Or.inl rfl)) (fun _ _ _ _ _ => pts_nil) (fun _ _ _ _ _ => pe_call G19 (hr.mono (by decide)) (by rfl) m19 k19 b19 .nil pass0 (pa_cons (pv 4) pa_nil))) (by rfl))))))), ?_⟩
  obtain ⟨_, xs, e1, eR, nR, dRs⟩ := dR.lstI
  cases e1
  have sqR : ∀ {Hx : Hp}, Same H Hx → SqL K Hx R xs := fun sx => .inl (.inl (sx _ _ eR))
  have lxs : xs.length = rs.length := by rw [dRs.len, List.length_map]
  have l6 := ok.few
  -- a rule at its place
  have ruleAt : ∀ {i : Nat} {x : V}, xs[i]? = some x → ∃ r, rs[i]? = some r ∧ DT H B x (ruleT r) := fun {i x} hx => by
    obtain ⟨t, ht, d⟩ := dRs.get hx
    rw [List.getElem?_map] at ht
    obtain ⟨r, hr', rfl⟩ := Option.map_eq_some_iff.mp ht
    exact ⟨r, hr', d⟩
  refine ⟨_, rfl, T, tabs, A, rfl, dT, ok.tab, fun H1 s1 => ⟨_, rfl, ff_if rfl ?_⟩⟩
  refine ⟨_, rfl, small (by show 2 ≤ 1000; decide), fun tp ntp => ⟨_, tp, [.ty "list", .ty "tuple"], _, [.type "list", .type "tuple"], true, rfl, upd_same, .cons (.ty "list") (.cons (.ty "tuple") .nil), .base (.lst (same_new ntp _ _ _ (s1 _ _ eR))), rfl, _, rfl, ff_if rfl ?_⟩⟩
  have s2 : Same H (upd H1 tp (.tup [.ty "list", .ty "tuple"])) := s1.trans (same_new ntp _)
  generalize (upd H1 tp (.tup [.ty "list", .ty "tuple"])) = H2 at s2 ⊢
  clear s1 ntp
  refine ⟨_, rfl, R, xs, rfl, .inl (sqR s2), _, _, rfl, rfl, _, rfl, ff_if (decide_eq_false (by omega)) ?_⟩
  refine ⟨_, rfl, R, xs, rfl, sqR s2, ?_⟩
  refine for_it walk_enum (fun i σ Hx => Same H Hx ∧ ∃ o3 o4, σ = [some (.ref s), some (.ref T), some (.ref R), o3, o4, none, none]) ⟨s2, _, _, rfl⟩ (fun i σ Hx _ p => sqR p.1) ?_ ?_
  · rintro i y σ Hx H' hi ⟨s3, o3, o4, rfl⟩ ⟨pr, x1, x2, rfl, npr, rfl, e1, e2⟩
    have e1' : V.int (i : Nat) = x1 := Option.some.inj e1
    subst e1'
    obtain ⟨r, er, dr⟩ := ruleAt e2
    have s4 : Same H (upd Hx pr (.tup [.int (i : Nat), x2])) := s3.trans (same_new npr _)
    refine ⟨pr, [.int (i : Nat), x2], rfl, .inl (.inl upd_same), rfl, .int (i : Nat), [x2], rfl, x2, [], rfl, rfl, ?_⟩
    generalize (upd Hx pr (.tup [.int (i : Nat), x2])) = H4 at s4 ⊢
    obtain ⟨okn, okr⟩ := ok.ok r (List.mem_of_getElem? er)
    refine ⟨_, rfl, _, rfl, T, x2, tabs, r.1, r.2, A, B, rfl, dT.same s4, ok.tab, dr.same s4, okn, okr, fun H5 s5 => ⟨_, rfl, ff_if rfl ?_⟩⟩
    have s6 := s4.trans s5
    obtain ⟨ra, ys, rfl, era, _, y0⟩ := rule_name dr
    refine ⟨_, rfl, ra, ys, 0, .str r.1, rfl, rfl, .inl (.inl (s6 _ _ era)), atI_nat (j := 0) y0, ?_⟩
    refine ⟨.ref R, rfl, .int (i : Nat), rfl, (i : Int), rfl, R, xs, rfl, sqR s6, fun p np => ?_⟩
    rw [cut_take]
    have s7 : Same H (upd H5 p (.lst (xs.take i))) := s6.trans (same_new np _)
    have hp : (upd H5 p (.lst (xs.take i))) p = some (.lst (xs.take i)) := upd_same
    generalize (upd H5 p (.lst (xs.take i))) = H7 at s7 hp ⊢
    refine ⟨p, rfl, ⟨_, .inl (.inl hp)⟩, fun D nD => ?_⟩
    refine lc_list (K := K) (a := p) (xs := xs.take i) (fun j Hy => Same H7 Hy ∧ Hy D = some (.lst (((rs.take j).map (·.1)).map V.str))) ⟨same_new nD _, upd_same⟩ (fun j Hy _ q => .inl (.inl (q.1 _ _ hp))) ?_ ?_
    · rintro j x Hy hx ⟨s8, hD⟩
      have hx' : xs[j]? = some x := by
        rw [List.getElem?_take] at hx
        split at hx
        · exact hx
        · cases hx
      obtain ⟨r2, er2, dr2⟩ := ruleAt hx'
      obtain ⟨rb, zs, rfl, erb, _, z0⟩ := rule_name dr2
      refine ⟨rfl, yes_if ⟨_, rfl, rb, zs, 0, .str r2.1, rfl, rfl, .inl (.inl (s8 _ _ (s7 _ _ erb))), atI_nat (j := 0) z0, _, hD, small1000 (by rw [List.length_map, List.length_map, List.length_take]; omega), Same.put s8 nD, ?_⟩⟩
      rw [upd_same, List.take_add_one, er2, List.map_append, List.map_append]
      rfl
    · rintro Hy ⟨s8, hD⟩
      have el : (xs.take i).length = i := by rw [List.length_take]; omega
      rw [el] at hD
      refine ⟨D, _, rfl, .inl (.inl (.inl hD)), rfl, flat_strs' _, _, rfl, ff_if (inB_no (nodup_map_take ok.nd er)) ?_⟩
      exact ⟨s7.trans s8, _, _, rfl⟩
  rintro σ Hx ⟨s3, o3, o4, rfl⟩
  -- self._tables
  have dTx := (dT.noIns hs).same s3
  obtain ⟨_, kvs, e1, eT, nT, kT, ndT, fewT, dTs⟩ := dTx.dctI
  cases e1
  refine ⟨_, rfl, T, kvs, tabs.map (·.1), rfl, .inl eT, kT, fewT, fun ys p perm srt np => ?_⟩
  obtain rfl : ys = sortT (tabs.map (·.1)) := sort_eq perm srt
  have s4 : Same H (upd Hx p (.lst ((sortT (tabs.map (·.1))).map V.str))) := s3.trans (same_new np _)
  have hp : (upd Hx p (.lst ((sortT (tabs.map (·.1))).map V.str))) p = some (.lst ((sortT (tabs.map (·.1))).map V.str)) := upd_same
  have eT4 := same_new np (.lst ((sortT (tabs.map (·.1))).map V.str)) _ _ eT
  generalize (upd Hx p (.lst ((sortT (tabs.map (·.1))).map V.str))) = H4 at s4 hp eT4 ⊢
  refine ⟨p, rfl, ⟨_, .inl (.inl hp)⟩, fun D nD => ?_⟩
  have nD0 : H D = none := s4.free nD
  have nDs : s ≠ D := ne_of_none hs nD0
  refine dc_list (K := K) (a := p) (xs := (sortT (tabs.map (·.1))).map V.str) (fun i Hy => Same H4 Hy ∧ ∃ es : List (Str × V), Hy D = some (.dK (tkD es)) ∧ es.map (·.1) = (sortT (tabs.map (·.1))).take i ∧ DTs Hy (fun c => H c = none ∧ c ≠ D) (es.map (·.2)) (((sortT (tabs.map (·.1))).take i).map fun z => fieldsT (ordF (tabOf tabs z))))
    ⟨same_new nD _, [], upd_same, rfl, .nil⟩ (fun i Hy _ q => .inl (.inl (q.1 _ _ hp))) ?_ ?_
  · rintro i x Hy hx ⟨s5, es, hD, ek, dd⟩
    obtain ⟨z, hz, rfl⟩ := map_get hx
    have zk : z ∈ tabs.map (·.1) := sortT_mem.mp (List.mem_of_getElem? hz)
    have dTy := dT.same (s4.trans s5)
    obtain ⟨fa, fs, dg, et, mt', dfs⟩ := tables_get dTy zk
    refine ⟨rfl, yes_if ⟨.str z, rfl, _, rfl, .str z, rfl, T, .ref fa, rfl, dg, fa, fs, _, _, rfl, dfs, ok.tab.val _ mt', fun p' H' s' d' => ?_⟩⟩
    have hD' := s' _ _ hD
    have el : es.length ≤ 3 := by
      have h1 := congrArg List.length ek
      have h2 := ok.tab.few
      have h3 := sortT_len (tabs.map (·.1))
      rw [List.length_map, List.length_take, h3, List.length_map] at h1
      omega
    have zno : (Sum.inr z : Key) ∉ (tkD es).map (·.1) := fun m => by
      rw [tkD_keys, ek] at m
      obtain ⟨y, hy, e⟩ := List.mem_map.mp m
      rw [Sum.inr.inj e] at hy
      exact take_not_mem (sortT_nodup ok.tab.nd) hz hy
    have e0 : (sortT (tabs.map (·.1))).take (i + 1) = (sortT (tabs.map (·.1))).take i ++ [z] := by
      rw [List.take_add_one, hz]
      rfl
    refine ⟨tkD es, .inr z, rfl, hD', small1000 (by rw [List.length_map]; omega), Same.put (s5.trans s') nD, es ++ [(z, .ref p')], ?_, ?_, ?_⟩
    · rw [upd_same, L2.putK_new _ (valV_no zno)]
      show _ = some (HO.dK (List.map _ (es ++ [(z, V.ref p')])))
      rw [List.map_append]
      rfl
    · rw [e0, List.map_append, ek]
      rfl
    · rw [e0, List.map_append, List.map_append]
      refine DTs.mono (fun c u hc eu => by rw [upd_ne hc.2]; exact eu) ((dd.same s').snoc ?_)
      show DT H' _ (V.ref p') (fieldsT (ordF (tabOf tabs z)))
      rw [tabOf_at et]
      exact d'.sub fun c hc => ⟨(s4.trans s5).free hc, fun n => by rw [n, hD] at hc; cases hc⟩
  rintro Hy ⟨s5, es, hD, ek, dd⟩
  rw [List.length_map, List.take_length] at ek dd
  have s6 := s4.trans s5
  have dTt : DT Hy (fun c => H c = none) (.ref D) (tablesT (ordTabs tabs)) := by
    refine .dct hD nD0 (by rw [tkD_keys, ek, ordTabs_keys]) (by rw [ordTabs_keys]; exact sortT_nodup ok.tab.nd) (by rw [ordTabs_keys, sortT_len]; exact fewT) ?_
    rw [tkD_vals, ordTabs_vals]
    exact dd.sub fun c h => h.1
  refine ⟨_, rfl, s, C, dx, [], rfl, s6 _ _ hs, c.cls, c.n1, by show 0 < 1000; decide, ?_⟩

  have hs7 : (upd Hy s (.ins C dx (putF "_tables" (.ref D) []))) s = some (.ins C dx [("_tables", .ref D)]) := upd_same
  have k7 : ∀ c u, H c = some u → c ≠ s → (upd Hy s (.ins C dx (putF "_tables" (.ref D) []))) c = some u := fun c u h n => by rw [upd_ne n]; exact s6 _ _ h
  have f7 : ∀ c, (upd Hy s (.ins C dx (putF "_tables" (.ref D) []))) c = none → H c = none := fun c h => by
    by_cases n : c = s
    · rw [n, upd_same] at h; cases h
    · rw [upd_ne n] at h; exact s6.free h
  have dTt7 : DT (upd Hy s (.ins C dx (putF "_tables" (.ref D) []))) (fun c => H c = none) (.ref D) (tablesT (ordTabs tabs)) := dTt.mono fun c u hc eu => by
    rw [upd_ne (fun n => by rw [n, hs] at hc; cases hc)]
    exact eu
  generalize (upd Hy s (.ins C dx (putF "_tables" (.ref D) []))) = H7 at hs7 k7 f7 dTt7 ⊢
  have eR7 : H7 R = some (.lst xs) := k7 _ _ eR fun n => by rw [n, hs] at eR; cases eR
  refine ⟨_, rfl, R, rfl, ⟨xs, .inl (.inl eR7)⟩, fun D2 nD2 => ?_⟩
  refine lc_list (K := K) (a := R) (xs := xs) (fun i Hz => Same H7 Hz ∧ ∃ acc, Hz D2 = some (.lst acc) ∧ acc.length = i ∧ DTs Hz (fun c => H c = none ∧ c ≠ D2) acc ((rs.take i).map ruleT)) ⟨same_new nD2 _, [], upd_same, rfl, .nil⟩ (fun i Hz _ q => .inl (.inl (q.1 _ _ eR7))) ?_ ?_
  · rintro i x Hz hx ⟨s8, acc, hD, la, dd⟩
    obtain ⟨r, er, dr⟩ := ruleAt hx
    have drz : DT Hz (fun a => B a ∧ a ≠ s) x (ruleT r) := ((dr.noIns hs).mono fun c u hc eu => k7 c u eu hc.2).same s8
    have okr := (ok.ok r (List.mem_of_getElem? er)).2
    refine ⟨rfl, yes_if ⟨_, rfl, x, ruleT r, _, rfl, drz, Nat.lt_of_le_of_lt (rule_depth okr) (by decide), rule_few okr, fun v' M H' s9 dl ndM new => ?_⟩⟩
    rw [rule_canon] at dl
    have il : i < rs.length := (List.getElem?_eq_some_iff.mp er).1
    refine ⟨acc, s9 _ _ hD, small1000 (by omega), Same.put (s8.trans s9) nD2, acc ++ [v'], upd_same, by rw [List.length_append, la]; rfl, ?_⟩
    rw [List.take_add_one, er, List.map_append]
    refine DTs.mono (fun c u hc eu => by rw [upd_ne hc.2]; exact eu) ((dd.same s9).snoc (t := ruleT r) (dl.dt fun a h => ⟨f7 a (s8.free (new a h)), fun n => ?_⟩))
    have h1 := new a h
    rw [n, hD] at h1
    cases h1
  rintro Hz ⟨s8, acc, hD, la, dd⟩
  rw [lxs, List.take_length] at dd
  refine ⟨_, rfl, s, C, dx, [("_tables", .ref D)], rfl, s8 _ _ hs7, c.cls, c.n2, by show 1 < 1000; decide, ?_⟩
  have nD2 : H D2 = none := f7 _ nD2
  refine q _ ⟨fun c u h n => by rw [upd_ne n]; exact s8 _ _ (k7 _ _ h n), D, D2, upd_same, ?_, ?_⟩
  · exact (dTt7.same s8).mono fun c u hc eu => by
      rw [upd_ne (fun n => by rw [n, hs] at hc; cases hc)]
      exact eu
  · refine .lst (by rw [upd_ne (fun n => by rw [n, hs] at nD2; cases nD2)]; exact hD) nD2 ?_
    exact (dd.sub (B := fun c => H c = none) fun c h => h.1).mono fun c u hc eu => by
      rw [upd_ne (fun n => by rw [n, hs] at hc; cases hc)]
      exact eu
end
end Lw

set_option Elab.async false
set_option linter.all false
set_option maxRecDepth 100000
set_option maxHeartbeats 4000000
namespace Lw
open PySem PySem.Spec PyProof.Rows L2
theorem cut_part {xs : List V} {i : Nat} (h : i < xs.length) : ¬ (HT.sIx xs.length 0 none = 0 ∧ HT.sIx xs.length xs.length (some ((i : Nat) : Int)) = xs.length) := fun n => by
  have e : HT.sIx xs.length xs.length (some ((i : Nat) : Int)) = min i xs.length := HT.sIx_nat _ _ i
  rw [e] at n
  omega
theorem sqT_keep {K : PySem.W.Frag} {H H' : Hp} {s C dx R : Addr} {fs : List (Str × V)} {xs : List V} (hs : H s = some (.ins C dx fs)) (h : SqT K H R xs) (k : ∀ c u, H c = some u → c ≠ s → H' c = some u) : SqT K H' R xs :=
  h.elim (fun h => .inl (h.elim (fun h => .inl (k _ _ h fun n => by rw [n, hs] at h; cases h)) fun ⟨o, h⟩ => .inr ⟨o, k _ _ h fun n => by rw [n, hs] at h; cases h⟩)) fun h => .inr h
section
variable {P : Program} {w : World} {K : PySem.W.Frag} {mg : Str → Option Value} {base : Heap}
def spInitT (K : PySem.W.Frag) (C : Addr) : Sp := fun vs H Q _ => ∃ (s dx T R : Addr) (xs : List V) (tabs : Tabs) (rs : List Rul) (A B : Addr → Prop), vs = [.ref s, .ref T, .ref R] ∧ H s = some (.ins C dx []) ∧ DT H A (.ref T) (tablesT tabs) ∧ SqT K H R xs ∧ (∀ H', Same H H' → TyX K H' (.ref R) (.type "tuple")) ∧ DTs H B xs (rs.map ruleT) ∧ PartsOk tabs rs ∧ ∀ H', MadeAt C H s dx tabs rs H' → Q .non H'
theorem ok_initT {C f f27 f29 f28 f19 : Addr} {fd fd27 fd29 fd28 fd19 : FuncData} {t1 : Tok} (F : C8.Fun K "__init__" "Schema.__init__" sInit f fd) (c : InitCls K C)
    (G27 : FnOk P w K mg base CX0 5 f27 fd27 ["thing"] spTabs1) (m27 : mg "_are_tables" = some (.ref f27)) (k27 : PySem.W.keepIn K (.ref f27) = true) (b27 : Binds K fd27 ["thing"] [])
    (G29 : FnOk P w K mg base CX0 6 f29 fd29 ["tables", "thing"] spRule1) (m29 : mg "_is_rule" = some (.ref f29)) (k29 : PySem.W.keepIn K (.ref f29) = true) (b29 : Binds K fd29 ["tables", "thing"] [])
    (G28 : FnOk P w K mg base CX0 5 f28 fd28 ["fields"] spOrd) (m28 : mg "_ordered" = some (.ref f28)) (k28 : PySem.W.keepIn K (.ref f28) = true) (b28 : Binds K fd28 ["fields"] [])
    (G19 : FnOk P w K mg base CX0 8 f19 fd19 ["thing"] (spCopy 8)) (m19 : mg "copy_of" = some (.ref f19)) (k19 : PySem.W.keepIn K (.ref f19) = true) (b19 : Binds K fd19 ["thing"] [])
    (mi : mg "isinstance" = none) (ml : mg "list" = none) (mt : mg "tuple" = none) (mlen : mg "len" = none) (men : mg "enumerate" = none) (mso : mg "sorted" = none) (mM : mg "MOST_RULES" = some (.int 6 t1)) : FnOk P w K mg base CX0 9 f fd ["self", "tables", "rules"] (spInitT K C) := by
  refine C8.fn0 F scInit (fun vs H Q E h => ?_) (fun cdv A0 outer s0 H vs Q E hr h => ?_)
  · obtain ⟨s, dx, T, R, xs, tabs, rs, A, B, rfl, _⟩ := h
    rfl
  obtain ⟨s, dx, T, R, xs, tabs, rs, A, B, rfl, hs, dT, sq0, ty0, dRs, ok, q⟩ := h
  refine ⟨_, (pss_cons (ps_if (pt_not (pt_val (pe_call G27 (hr.mono (by decide)) (by rfl) m27 k27 b27 .nil pass0 (pa_cons (pv 1) pa_nil)))) (pss_one ps_never) pss_nil)
    (pss_cons (ps_if (PW.pt (pw_or (pt_not (pt_val (pe_callB call_isiT (by rfl) mi (by decide +kernel) (pa_cons (pv 2) (pa_cons (pe_tup (pa_cons (pe_bltn (v := .ty "list") (by rfl) ml (by decide +kernel) rfl) (pa_cons (pe_bltn (v := .ty "tuple") (by rfl) mt (by decide +kernel) rfl) pa_nil))) pa_nil))))) (pw_or1 (pt_cmpR op_gt (pe_callB call_len_seq (by rfl) mlen (by decide +kernel) (pa_cons (pv 2) pa_nil)) (pe_glob (v := .int 6) (by rfl) mM ⟨t1, rfl⟩) (nomark _))))) (pss_one ps_never) pss_nil)
    (pss_cons (ps_for PassesOwn.never rfl (pi_enumT (by rfl) men (pa_cons (pv 2) pa_nil)) (pg_tup rfl (pgs_cons (pg_name (i := 3) scInit.nd rfl (.inl rfl)) (pgs_cons (pg_name (i := 4) scInit.nd rfl (.inl rfl)) pgs_nil)))
      (pss_one (ps_if (PW.pt (pw_or (pt_not (pt_val (pe_call G29 (hr.mono (by decide)) (by rfl) m29 k29 b29 .nil pass0 (pa_cons (pv 1) (pa_cons (pv 4) pa_nil))))) (pw_or1 (pt_cmpR (r := rIn K false) op_in_seq (pe_ix ix_tup (pv 4) pe_int (fun _ _ => rfl)) (pe_lc (own := [("earlier", 5)]) (g := gName 5) (tt := tYes) rfl scInit.nd (pi_tup (pe_slice sl_tup (pv 2) po_none (po_some (pv 3)))) (blkOk_by (N := NInit) (sc := C8.fnScope sInit) (by decide +kernel)) (fun _ _ _ _ _ => pg_name (i := 5) scInit.nd rfl (Or.inl rfl)) (fun _ _ _ _ _ => pts_nil) (fun _ _ _ _ _ => pe_ix (r := rIxT K) ix_tup (pv 5) pe_int (fun _ _ => rfl))) (by rfl))))) (pss_one ps_never) pss_nil)))
    (pss_cons (ps_fld (pv 0) (pe_dc (own := [("table", 6)]) (g := gName 6) (tt := tYes) rfl scInit.nd (pi_list (pe_callB (call_sortedD rfl) (by rfl) mso (by decide +kernel) (pa_cons (pv 1) pa_nil))) (blkOk_by (N := NInit) (sc := C8.fnScope sInit) (by decide +kernel)) (fun _ _ _ _ _ => pg_name (i := 6) scInit.nd rfl (Or.inl rfl)) (fun _ _ _ _ _ => pts_nil) (fun _ _ _ _ _ => pv 6) (fun _ _ _ _ _ => pe_call G28 (hr.mono (by decide)) (by rfl) m28 k28 b28 .nil pass0 (pa_cons (pe_dget (hu_of hr) (pv 1) (pv 6) (fun _ _ => rfl)) pa_nil))) (by rfl))
    (pss_one (ps_fld (pv 0) (pe_lc (own := [("rule", 4)]) (g := gName 4) (tt := tYes) rfl scInit.nd (pi_tup (pv 2)) (blkOk_by (N := NInit) (sc := C8.fnScope sInit) (by decide +kernel)) (fun _ _ _ _ _ => pg_name (i := 4) scInit.nd rfl (Or.inl rfl)) (fun _ _ _ _ _ => pts_nil) (fun _ _ _ _ _ => pe_call G19 (hr.mono (by decide)) (by rfl) m19 k19 b19 .nil pass0 (pa_cons (pv 4) pa_nil))) (by rfl))))))), ?_⟩
  have sqR : ∀ {Hx : Hp}, Same H Hx → SqT K Hx R xs := fun sx => sq0.ext sx
  have lxs : xs.length = rs.length := by rw [dRs.len, List.length_map]
  have l6 := ok.few
  -- a rule at its place
  have ruleAt : ∀ {i : Nat} {x : V}, xs[i]? = some x → ∃ r, rs[i]? = some r ∧ DT H B x (ruleT r) := fun {i x} hx => by
    obtain ⟨t, ht, d⟩ := dRs.get hx
    rw [List.getElem?_map] at ht
    obtain ⟨r, hr', rfl⟩ := Option.map_eq_some_iff.mp ht
    exact ⟨r, hr', d⟩
  refine ⟨_, rfl, T, tabs, A, rfl, dT, ok.tab, fun H1 s1 => ⟨_, rfl, ff_if rfl ?_⟩⟩
  refine ⟨_, rfl, small (by show 2 ≤ 1000; decide), fun tp ntp => ⟨_, tp, [.ty "list", .ty "tuple"], _, [.type "list", .type "tuple"], true, rfl, upd_same, .cons (.ty "list") (.cons (.ty "tuple") .nil), ty0 _ (s1.trans (same_new ntp _)), rfl, _, rfl, ff_if rfl ?_⟩⟩
  have s2 : Same H (upd H1 tp (.tup [.ty "list", .ty "tuple"])) := s1.trans (same_new ntp _)
  generalize (upd H1 tp (.tup [.ty "list", .ty "tuple"])) = H2 at s2 ⊢
  clear s1 ntp
  refine ⟨_, rfl, R, xs, rfl, .inr (sqR s2), _, _, rfl, rfl, _, rfl, ff_if (decide_eq_false (by omega)) ?_⟩
  refine ⟨_, rfl, R, xs, rfl, sqR s2, ?_⟩
  refine for_it walk_enumT (fun i σ Hx => Same H Hx ∧ ∃ o3 o4, σ = [some (.ref s), some (.ref T), some (.ref R), o3, o4, none, none]) ⟨s2, _, _, rfl⟩ (fun i σ Hx _ p => sqR p.1) ?_ ?_
  · rintro i y σ Hx H' hi ⟨s3, o3, o4, rfl⟩ ⟨pr, x1, x2, rfl, npr, rfl, e1, e2⟩
    have e1' : V.int (i : Nat) = x1 := Option.some.inj e1
    subst e1'
    obtain ⟨r, er, dr⟩ := ruleAt e2
    have s4 : Same H (upd Hx pr (.tup [.int (i : Nat), x2])) := s3.trans (same_new npr _)
    refine ⟨pr, [.int (i : Nat), x2], rfl, .inl (.inl upd_same), rfl, .int (i : Nat), [x2], rfl, x2, [], rfl, rfl, ?_⟩
    generalize (upd Hx pr (.tup [.int (i : Nat), x2])) = H4 at s4 ⊢
    obtain ⟨okn, okr⟩ := ok.ok r (List.mem_of_getElem? er)
    refine ⟨_, rfl, _, rfl, T, x2, tabs, r.1, r.2, A, B, rfl, dT.same s4, ok.tab, dr.same s4, okn, okr, fun H5 s5 => ⟨_, rfl, ff_if rfl ?_⟩⟩
    have s6 := s4.trans s5
    obtain ⟨ra, ys, rfl, era, _, y0⟩ := rule_name dr
    refine ⟨_, rfl, ra, ys, 0, .str r.1, rfl, rfl, .inl (.inl (s6 _ _ era)), atI_nat (j := 0) y0, ?_⟩
    refine ⟨.ref R, rfl, .int (i : Nat), rfl, (i : Int), rfl, R, xs, rfl, sqR s6, cut_part hi, fun p np => ?_⟩
    rw [cut_take]
    have s7 : Same H (upd H5 p (.tup (xs.take i))) := s6.trans (same_new np _)
    have hp : (upd H5 p (.tup (xs.take i))) p = some (.tup (xs.take i)) := upd_same
    generalize (upd H5 p (.tup (xs.take i))) = H7 at s7 hp ⊢
    refine ⟨p, rfl, ⟨_, .inl (.inl hp)⟩, fun D nD => ?_⟩
    refine lc_tup (K := K) (a := p) (xs := xs.take i) (fun j Hy => Same H7 Hy ∧ Hy D = some (.lst (((rs.take j).map (·.1)).map V.str))) ⟨same_new nD _, upd_same⟩ (fun j Hy _ q => .inl (.inl (q.1 _ _ hp))) ?_ ?_
    · rintro j x Hy hx ⟨s8, hD⟩
      have hx' : xs[j]? = some x := by
        rw [List.getElem?_take] at hx
        split at hx
        · exact hx
        · cases hx
      obtain ⟨r2, er2, dr2⟩ := ruleAt hx'
      obtain ⟨rb, zs, rfl, erb, _, z0⟩ := rule_name dr2
      refine ⟨rfl, yes_if ⟨_, rfl, rb, zs, 0, .str r2.1, rfl, rfl, .inl (.inl (s8 _ _ (s7 _ _ erb))), atI_nat (j := 0) z0, _, hD, small1000 (by rw [List.length_map, List.length_map, List.length_take]; omega), Same.put s8 nD, ?_⟩⟩
      rw [upd_same, List.take_add_one, er2, List.map_append, List.map_append]
      rfl
    · rintro Hy ⟨s8, hD⟩
      have el : (xs.take i).length = i := by rw [List.length_take]; omega
      rw [el] at hD
      refine ⟨D, _, rfl, .inl (.inl (.inl hD)), rfl, flat_strs' _, _, rfl, ff_if (inB_no (nodup_map_take ok.nd er)) ?_⟩
      exact ⟨s7.trans s8, _, _, rfl⟩
  rintro σ Hx ⟨s3, o3, o4, rfl⟩
  -- self._tables
  have dTx := (dT.noIns hs).same s3
  obtain ⟨_, kvs, e1, eT, nT, kT, ndT, fewT, dTs⟩ := dTx.dctI
  cases e1
  refine ⟨_, rfl, T, kvs, tabs.map (·.1), rfl, .inl eT, kT, fewT, fun ys p perm srt np => ?_⟩
  obtain rfl : ys = sortT (tabs.map (·.1)) := sort_eq perm srt
  have s4 : Same H (upd Hx p (.lst ((sortT (tabs.map (·.1))).map V.str))) := s3.trans (same_new np _)
  have hp : (upd Hx p (.lst ((sortT (tabs.map (·.1))).map V.str))) p = some (.lst ((sortT (tabs.map (·.1))).map V.str)) := upd_same
  have eT4 := same_new np (.lst ((sortT (tabs.map (·.1))).map V.str)) _ _ eT
  generalize (upd Hx p (.lst ((sortT (tabs.map (·.1))).map V.str))) = H4 at s4 hp eT4 ⊢
  refine ⟨p, rfl, ⟨_, .inl (.inl hp)⟩, fun D nD => ?_⟩
  have nD0 : H D = none := s4.free nD
  have nDs : s ≠ D := ne_of_none hs nD0
  refine dc_list (K := K) (a := p) (xs := (sortT (tabs.map (·.1))).map V.str) (fun i Hy => Same H4 Hy ∧ ∃ es : List (Str × V), Hy D = some (.dK (tkD es)) ∧ es.map (·.1) = (sortT (tabs.map (·.1))).take i ∧ DTs Hy (fun c => H c = none ∧ c ≠ D) (es.map (·.2)) (((sortT (tabs.map (·.1))).take i).map fun z => fieldsT (ordF (tabOf tabs z))))
    ⟨same_new nD _, [], upd_same, rfl, .nil⟩ (fun i Hy _ q => .inl (.inl (q.1 _ _ hp))) ?_ ?_
  · rintro i x Hy hx ⟨s5, es, hD, ek, dd⟩
    obtain ⟨z, hz, rfl⟩ := map_get hx
    have zk : z ∈ tabs.map (·.1) := sortT_mem.mp (List.mem_of_getElem? hz)
    have dTy := dT.same (s4.trans s5)
    obtain ⟨fa, fs, dg, et, mt', dfs⟩ := tables_get dTy zk
    refine ⟨rfl, yes_if ⟨.str z, rfl, _, rfl, .str z, rfl, T, .ref fa, rfl, dg, fa, fs, _, _, rfl, dfs, ok.tab.val _ mt', fun p' H' s' d' => ?_⟩⟩
    have hD' := s' _ _ hD
    have el : es.length ≤ 3 := by
      have h1 := congrArg List.length ek
      have h2 := ok.tab.few
      have h3 := sortT_len (tabs.map (·.1))
      rw [List.length_map, List.length_take, h3, List.length_map] at h1
      omega
    have zno : (Sum.inr z : Key) ∉ (tkD es).map (·.1) := fun m => by
      rw [tkD_keys, ek] at m
      obtain ⟨y, hy, e⟩ := List.mem_map.mp m
      rw [Sum.inr.inj e] at hy
      exact take_not_mem (sortT_nodup ok.tab.nd) hz hy
    have e0 : (sortT (tabs.map (·.1))).take (i + 1) = (sortT (tabs.map (·.1))).take i ++ [z] := by
      rw [List.take_add_one, hz]
      rfl
    refine ⟨tkD es, .inr z, rfl, hD', small1000 (by rw [List.length_map]; omega), Same.put (s5.trans s') nD, es ++ [(z, .ref p')], ?_, ?_, ?_⟩
    · rw [upd_same, L2.putK_new _ (valV_no zno)]
      show _ = some (HO.dK (List.map _ (es ++ [(z, V.ref p')])))
      rw [List.map_append]
      rfl
    · rw [e0, List.map_append, ek]
      rfl
    · rw [e0, List.map_append, List.map_append]
      refine DTs.mono (fun c u hc eu => by rw [upd_ne hc.2]; exact eu) ((dd.same s').snoc ?_)
      show DT H' _ (V.ref p') (fieldsT (ordF (tabOf tabs z)))
      rw [tabOf_at et]
      exact d'.sub fun c hc => ⟨(s4.trans s5).free hc, fun n => by rw [n, hD] at hc; cases hc⟩
  rintro Hy ⟨s5, es, hD, ek, dd⟩
  rw [List.length_map, List.take_length] at ek dd
  have s6 := s4.trans s5
  have dTt : DT Hy (fun c => H c = none) (.ref D) (tablesT (ordTabs tabs)) := by
    refine .dct hD nD0 (by rw [tkD_keys, ek, ordTabs_keys]) (by rw [ordTabs_keys]; exact sortT_nodup ok.tab.nd) (by rw [ordTabs_keys, sortT_len]; exact fewT) ?_
    rw [tkD_vals, ordTabs_vals]
    exact dd.sub fun c h => h.1
  refine ⟨_, rfl, s, C, dx, [], rfl, s6 _ _ hs, c.cls, c.n1, by show 0 < 1000; decide, ?_⟩

  have hs7 : (upd Hy s (.ins C dx (putF "_tables" (.ref D) []))) s = some (.ins C dx [("_tables", .ref D)]) := upd_same
  have k7 : ∀ c u, H c = some u → c ≠ s → (upd Hy s (.ins C dx (putF "_tables" (.ref D) []))) c = some u := fun c u h n => by rw [upd_ne n]; exact s6 _ _ h
  have f7 : ∀ c, (upd Hy s (.ins C dx (putF "_tables" (.ref D) []))) c = none → H c = none := fun c h => by
    by_cases n : c = s
    · rw [n, upd_same] at h; cases h
    · rw [upd_ne n] at h; exact s6.free h
  have dTt7 : DT (upd Hy s (.ins C dx (putF "_tables" (.ref D) []))) (fun c => H c = none) (.ref D) (tablesT (ordTabs tabs)) := dTt.mono fun c u hc eu => by
    rw [upd_ne (fun n => by rw [n, hs] at hc; cases hc)]
    exact eu
  generalize (upd Hy s (.ins C dx (putF "_tables" (.ref D) []))) = H7 at hs7 k7 f7 dTt7 ⊢
  have eR7 : SqT K H7 R xs := sqT_keep hs sq0 k7
  refine ⟨_, rfl, R, rfl, ⟨xs, eR7⟩, fun D2 nD2 => ?_⟩
  refine lc_tup (K := K) (a := R) (xs := xs) (fun i Hz => Same H7 Hz ∧ ∃ acc, Hz D2 = some (.lst acc) ∧ acc.length = i ∧ DTs Hz (fun c => H c = none ∧ c ≠ D2) acc ((rs.take i).map ruleT)) ⟨same_new nD2 _, [], upd_same, rfl, .nil⟩ (fun i Hz _ q => eR7.ext q.1) ?_ ?_
  · rintro i x Hz hx ⟨s8, acc, hD, la, dd⟩
    obtain ⟨r, er, dr⟩ := ruleAt hx
    have drz : DT Hz (fun a => B a ∧ a ≠ s) x (ruleT r) := ((dr.noIns hs).mono fun c u hc eu => k7 c u eu hc.2).same s8
    have okr := (ok.ok r (List.mem_of_getElem? er)).2
    refine ⟨rfl, yes_if ⟨_, rfl, x, ruleT r, _, rfl, drz, Nat.lt_of_le_of_lt (rule_depth okr) (by decide), rule_few okr, fun v' M H' s9 dl ndM new => ?_⟩⟩
    rw [rule_canon] at dl
    have il : i < rs.length := (List.getElem?_eq_some_iff.mp er).1
    refine ⟨acc, s9 _ _ hD, small1000 (by omega), Same.put (s8.trans s9) nD2, acc ++ [v'], upd_same, by rw [List.length_append, la]; rfl, ?_⟩
    rw [List.take_add_one, er, List.map_append]
    refine DTs.mono (fun c u hc eu => by rw [upd_ne hc.2]; exact eu) ((dd.same s9).snoc (t := ruleT r) (dl.dt fun a h => ⟨f7 a (s8.free (new a h)), fun n => ?_⟩))
    have h1 := new a h
    rw [n, hD] at h1
    cases h1
  rintro Hz ⟨s8, acc, hD, la, dd⟩
  rw [lxs, List.take_length] at dd
  refine ⟨_, rfl, s, C, dx, [("_tables", .ref D)], rfl, s8 _ _ hs7, c.cls, c.n2, by show 1 < 1000; decide, ?_⟩
  have nD2 : H D2 = none := f7 _ nD2
  refine q _ ⟨fun c u h n => by rw [upd_ne n]; exact s8 _ _ (k7 _ _ h n), D, D2, upd_same, ?_, ?_⟩
  · exact (dTt7.same s8).mono fun c u hc eu => by
      rw [upd_ne (fun n => by rw [n, hs] at hc; cases hc)]
      exact eu
  · refine .lst (by rw [upd_ne (fun n => by rw [n, hs] at nD2; cases nD2)]; exact hD) nD2 ?_
    exact (dd.sub (B := fun c => H c = none) fun c h => h.1).mono fun c u hc eu => by
      rw [upd_ne (fun n => by rw [n, hs] at hc; cases hc)]
      exact eu
end
end Lw

set_option Elab.async false
set_option linter.all false
set_option maxRecDepth 100000
set_option maxHeartbeats 4000000
namespace Lw
open PySem PySem.Spec PyProof.Rows L2
/-! ### what a schema's own tables tell -/
theorem sortT_idem (ks : List Str) : sortT (sortT ks) = sortT ks := (sort_eq (List.Perm.refl _) (sortT_sorted ks)).symm
theorem fldAt_map {α : Type} (f : Str → Fld) : ∀ {ks : List Str} {z : Str}, z ∈ ks → fldAt (ks.map fun z => (z, f z)) z = some (f z)
  | k :: r, z, m => by
    unfold fldAt
    rw [List.map_cons]
    by_cases q : k = z
    · rw [List.find?_cons_of_pos (by exact decide_eq_true q), q]
      rfl
    · rw [List.find?_cons_of_neg (by rw [decide_eq_true_eq]; exact q)]
      rcases List.mem_cons.mp m with h | h
      · exact absurd h.symm q
      · exact fldAt_map (α := α) f h
theorem ordF_at {fs : Flds} {z : Str} (m : z ∈ fs.map (·.1)) : fldAt (ordF fs) z = some (ordFld (atF fs z)) := fldAt_map (α := Unit) (fun z => ordFld (atF fs z)) (sortT_mem.mpr m)
theorem ordF_atF {fs : Flds} {z : Str} (m : z ∈ fs.map (·.1)) : atF (ordF fs) z = ordFld (atF fs z) := by
  unfold atF
  rw [ordF_at m]
  rfl
theorem ordF_canon (fs : Flds) : (fieldsT (ordF fs)).canon = fieldsT (ordF fs) := by
  rw [fields_canon, ordF_keys, sortT_idem]
  unfold fieldsT
  rw [ordF_keys]
  congr 1
  unfold ordF
  rw [List.map_map]
  exact List.map_congr_left fun z hz => by
    have h := ordF_atF (fs := fs) (sortT_mem.mp hz)
    unfold ordF at h
    show (atF _ z).tree = _
    rw [h]
    rfl
theorem tabAt_map (f : Str → Flds) : ∀ {ks : List Str} {z : Str}, z ∈ ks → tabAt (ks.map fun z => (z, f z)) z = some (f z)
  | k :: r, z, m => by
    unfold tabAt
    rw [List.map_cons]
    by_cases q : k = z
    · rw [List.find?_cons_of_pos (by exact decide_eq_true q), q]
      rfl
    · rw [List.find?_cons_of_neg (by rw [decide_eq_true_eq]; exact q)]
      rcases List.mem_cons.mp m with h | h
      · exact absurd h.symm q
      · exact tabAt_map f h
/-- a table of a schema -/
theorem sch_tab {H : Hp} {A : Addr → Prop} {T : Addr} {tabs : Tabs} {z : Str} {fs : Flds} (x : DT H A (.ref T) (tablesT (ordTabs tabs))) (nd : (tabs.map (·.1)).Nodup) (m : (z, fs) ∈ tabs) : ∃ f, DGet H T (.str z) (some (.ref f)) ∧ DT H A (.ref f) (fieldsT (ordF fs)) := by
  have zk : z ∈ tabs.map (·.1) := List.mem_map_of_mem (f := (·.1)) m
  obtain ⟨f, fs', dg, et, _, d⟩ := tables_get x (z := z) (by rw [ordTabs_keys]; exact sortT_mem.mpr zk)
  have e : tabAt (ordTabs tabs) z = some (ordF (tabOf tabs z)) := tabAt_map (fun z => ordF (tabOf tabs z)) (sortT_mem.mpr zk)
  rw [e] at et
  rw [tabOf_at (tabAt_of nd m)] at et
  cases et
  exact ⟨f, dg, d⟩
/-- a field of one -/
theorem sch_fld {H : Hp} {A : Addr → Prop} {f : Addr} {fs : Flds} {z : Str} {fl : Fld} (x : DT H A (.ref f) (fieldsT (ordF fs))) (nd : (fs.map (·.1)).Nodup) (m : (z, fl) ∈ fs) : ∃ v, DGet H f (.str z) (some v) ∧ DT H A v (ordFld fl).tree := by
  have zk : z ∈ fs.map (·.1) := List.mem_map_of_mem (f := (·.1)) m
  obtain ⟨v, fl', dg, et, d⟩ := fields_get x (z := z) (by rw [ordF_keys]; exact sortT_mem.mpr zk)
  rw [ordF_at zk] at et
  have e : atF fs z = fl := by unfold atF; rw [fldAt_of nd m]; rfl
  rw [e] at et
  cases et
  exact ⟨v, dg, d⟩
theorem sort_same (fl : Fld) : (ordFld fl).sort = fl.sort := by cases fl <;> rfl
theorem ordF_few {ns : List Str} {fs : Flds} (o : ∀ p ∈ fs, FldOk ns p.2) : (fieldsT (ordF fs)).few = true := by
  have h : Tr.fews ((ordF fs).map (·.2.tree)) = true := fews_all fun t ht => by
    obtain ⟨p, hp, rfl⟩ := List.mem_map.mp ht
    unfold ordF at hp
    obtain ⟨z, hz, rfl⟩ := List.mem_map.mp hp
    have zk := sortT_mem.mp hz
    obtain ⟨fl, e, m⟩ := fldAt_mem zk
    have e2 : atF fs z = fl := by unfold atF; rw [e]; rfl
    show (ordFld (atF fs z)).tree.few = true
    rw [e2]
    cases o _ m with
    | mk c d few nd => exact fld_few (ns := ns) (.mk (fun n => c (List.length_eq_zero_iff.mp (by rw [← sortT_len, n]; rfl))) (fun z hz => d z (sortT_mem.mp hz)) (by rw [sortT_len]; exact few) (sortT_nodup nd))
    | lk m => rfl
    | tg => rfl
  exact h
/-! ### the methods -/
/-- what the class has at these names -/
structure SchCls (K : PySem.W.Frag) (C : Addr) : Prop where
  ini : InitCls K C
theorem sch_fields {C : Addr} {H : Hp} {A : Addr → Prop} {s : Addr} {tabs : Tabs} {rs : List Rul} (x : SchAt C H A s tabs rs) : ∃ dx dT dR, H s = some (.ins C dx [("_tables", .ref dT), ("_rules", .ref dR)]) ∧ DT H A (.ref dT) (tablesT (ordTabs tabs)) ∧ DT H A (.ref dR) (rulesT rs) := by
  obtain ⟨dx, dT, dR, _, e, d1, d2⟩ := x.ex
  exact ⟨dx, dT, dR, e, d1, d2⟩
abbrev sMTables : Stmt := sMeth 2
abbrev sMFields : Stmt := sMeth 3
abbrev sMMarks : Stmt := sMeth 4
abbrev sMLinks : Stmt := sMeth 5
abbrev sMTags : Stmt := sMeth 6
abbrev sMSort : Stmt := sMeth 7
abbrev sMWords : Stmt := sMeth 8
abbrev sMLeads : Stmt := sMeth 9
abbrev sMRules : Stmt := sMeth 10
abbrev sMNames : Stmt := sMeth 11
abbrev sMRuleOf : Stmt := sMeth 12
abbrev sMRank : Stmt := sMeth 13
abbrev sMRows : Stmt := sMeth 15
section
variable {P : Program} {w : World} {K : PySem.W.Frag} {mg : Str → Option Value} {base : Heap} {C : Addr}
theorem scMTables : FnScope ["self"] ["self"] (C8.fnScope sMTables) := ⟨rfl, rfl, rfl, by decide +kernel, rfl, by decide +kernel, by decide +kernel⟩
theorem scMFields : FnScope ["self", "table"] ["self", "table"] (C8.fnScope sMFields) := ⟨rfl, rfl, rfl, by decide +kernel, rfl, by decide +kernel, by decide +kernel⟩
theorem scMSort : FnScope ["self", "table", "sort", "fields", "name"] ["self", "table", "sort"] (C8.fnScope sMSort) := ⟨rfl, rfl, rfl, by decide +kernel, rfl, by decide +kernel, by decide +kernel⟩
theorem scMWords : FnScope ["self", "table", "mark"] ["self", "table", "mark"] (C8.fnScope sMWords) := ⟨rfl, rfl, rfl, by decide +kernel, rfl, by decide +kernel, by decide +kernel⟩
theorem scMLeads : FnScope ["self", "table", "link"] ["self", "table", "link"] (C8.fnScope sMLeads) := ⟨rfl, rfl, rfl, by decide +kernel, rfl, by decide +kernel, by decide +kernel⟩
theorem scMRules : FnScope ["self"] ["self"] (C8.fnScope sMRules) := ⟨rfl, rfl, rfl, by decide +kernel, rfl, by decide +kernel, by decide +kernel⟩
theorem scMNames : FnScope ["self", "rule"] ["self"] (C8.fnScope sMNames) := ⟨rfl, rfl, rfl, by decide +kernel, rfl, by decide +kernel, by decide +kernel⟩
theorem scMRuleOf : FnScope ["self", "name"] ["self", "name"] (C8.fnScope sMRuleOf) := ⟨rfl, rfl, rfl, by decide +kernel, rfl, by decide +kernel, by decide +kernel⟩
theorem scMRank : FnScope ["self", "name"] ["self", "name"] (C8.fnScope sMRank) := ⟨rfl, rfl, rfl, by decide +kernel, rfl, by decide +kernel, by decide +kernel⟩
theorem scMRows : FnScope ["self", "table", "many", "mark"] ["self", "table"] (C8.fnScope sMRows) := ⟨rfl, rfl, rfl, by decide +kernel, rfl, by decide +kernel, by decide +kernel⟩
def spMTables (C : Addr) : Sp := fun vs H Q _ => ∃ (s : Addr) (tabs : Tabs) (rs : List Rul) (A : Addr → Prop), vs = [.ref s] ∧ SchAt C H A s tabs rs ∧ ∀ (p : Addr) (H' : Hp), Same H H' → H p = none → H' p = some (.lst ((sortT (tabs.map (·.1))).map V.str)) → Q (.ref p) H'
theorem ok_mtables {f : Addr} {fd : FuncData} (c : InitCls K C) (me : Meth K C "tables" f) (F : C8.Fun K "tables" "Schema.tables" sMTables f fd) (b : Binds K fd ["self"] []) (ml : mg "list" = none) : C8.Met P w K mg base 1 C "tables" (spMTables C) [] := by
  refine C8.met0 c.cls me F b scMTables (fun vs H Q E h => ?_) (fun cdv A0 outer s0 H vs Q E hr h => ?_)
  · obtain ⟨s, tabs, rs, A, rfl, _⟩ := h
    rfl
  obtain ⟨s, tabs, rs, A, rfl, x, q⟩ := h
  obtain ⟨dx, dT, dR, e, d1, d2⟩ := sch_fields x
  refine ⟨_, pss_one (ps_ret (pe_callTy (call_listD rfl) (by rfl) ml (by decide +kernel) (pa_cons (pe_fld (pv 0) (by rfl)) pa_nil))), ?_⟩
  obtain ⟨_, kvs, e1, eT, nT, kT, ndT, fewT, dd⟩ := d1.dctI
  cases e1
  refine ⟨_, rfl, s, C, dx, _, .ref dT, rfl, e, c.cls, c.n1, rfl, dT, kvs, rfl, .inl eT, fun p np => q p _ (same_new np _) np ?_⟩
  rw [upd_same]
  have h : (kvs.map fun kv => kV kv.1) = ((kvs.map (·.1)).map kV) := by rw [List.map_map]; rfl
  rw [h, kT, ordTabs_keys, List.map_map]
  rfl
def spMFields (C : Addr) : Sp := fun vs H Q _ => ∃ (s : Addr) (tabs : Tabs) (rs : List Rul) (z : Str) (fs : Flds) (A : Addr → Prop), vs = [.ref s, .str z] ∧ SchAt C H A s tabs rs ∧ TabsOk tabs ∧ (z, fs) ∈ tabs ∧ ∀ (v : V) (L : List Addr) (H' : Hp), Same H H' → DL H' L v (fieldsT (ordF fs)) → L.Nodup → (∀ a ∈ L, H a = none) → Q v H'
theorem ok_mfields {f f19 : Addr} {fd fd19 : FuncData} (c : InitCls K C) (me : Meth K C "fields" f) (F : C8.Fun K "fields" "Schema.fields" sMFields f fd) (b : Binds K fd ["self", "table"] [])
    (G19 : FnOk P w K mg base CX0 8 f19 fd19 ["thing"] (spCopy 8)) (m19 : mg "copy_of" = some (.ref f19)) (k19 : PySem.W.keepIn K (.ref f19) = true) (b19 : Binds K fd19 ["thing"] []) : C8.Met P w K mg base 9 C "fields" (spMFields C) [] := by
  refine C8.met0 c.cls me F b scMFields (fun vs H Q E h => ?_) (fun cdv A0 outer s0 H vs Q E hr h => ?_)
  · obtain ⟨s, tabs, rs, z, fs, A, rfl, _⟩ := h
    rfl
  obtain ⟨s, tabs, rs, z, fs, A, rfl, x, ok, m, q⟩ := h
  obtain ⟨dx, dT, dR, e, d1, d2⟩ := sch_fields x
  refine ⟨_, pss_one (ps_ret (pe_call G19 hr (by rfl) m19 k19 b19 .nil pass0 (pa_cons (pe_dget (hu_of hr) (pe_fld (pv 0) (by rfl)) (pv 1) (fun _ _ => rfl)) pa_nil))), ?_⟩
  obtain ⟨f2, dg, d3⟩ := sch_tab d1 ok.nd m
  refine ⟨_, rfl, s, C, dx, _, .ref dT, rfl, e, c.cls, c.n1, rfl, .str z, rfl, dT, .ref f2, rfl, dg, _, _, A, rfl, d3, Nat.lt_of_le_of_lt (fields_depth _) (by decide), ordF_few (ok.val _ m).val, fun v' L H' s' dl nd new => ?_⟩
  rw [ordF_canon] at dl
  exact q v' L H' s' dl nd new
end
end Lw

set_option Elab.async false
set_option linter.all false
set_option maxRecDepth 100000
set_option maxHeartbeats 4000000
namespace Lw
open PySem PySem.Spec PyProof.Rows L2
/-! ### is_name, is_new_id, is_id of any text -/
structure Nmd (K : PySem.W.Frag) (mg : Str → Option Value) (x : Str) (f : Addr) (fd : FuncData) (ps : List Str) : Prop where
  m : mg x = some (.ref f)
  k : PySem.W.keepIn K (.ref f) = true
  b : Binds K fd ps []
def nmB (z : Str) : Bool := decide (1 ≤ z.length) && decide (z.length ≤ 8) && z.cps.toList.all inL
def plusB (z : Str) : Bool := decide (V.str (cutS z none (some 1)) = V.str "+")
def nwB (z : Str) : Bool := plusB z && nmB (cutS z (some 1) none)
def idB (z : Str) : Bool := nmB z || nwB z
theorem nmB_ok {z : Str} (h : NameOk z) : nmB z = true := by
  have p1 := h.pos
  have p8 := h.most
  show (decide (1 ≤ z.length) && decide (z.length ≤ 8) && z.cps.toList.all inL) = true
  rw [decide_eq_true (by omega : 1 ≤ z.length), decide_eq_true p8, List.all_eq_true.mpr fun c hc => inL_low (h.low c hc)]
  rfl
theorem cut_len {z : Str} {lo hi : Option Int} {n : Nat} (h : z.length ≤ n) : (cutS z lo hi).length ≤ n := Nat.le_trans (cutS_length z lo hi) h
abbrev sIsId : Stmt := topS 14
abbrev sIsNew : Stmt := topS 15
section
variable {P : Program} {w : World} {K : PySem.W.Frag} {mg : Str → Option Value} {base : Heap}
def spIsName : Sp := fun vs H Q _ => ∃ z : Str, vs = [.str z] ∧ z.length ≤ 100000 ∧ ∀ H', Same H H' → Q (.bl (nmB z)) H'
def spIsNew : Sp := fun vs H Q _ => ∃ z : Str, vs = [.str z] ∧ z.length ≤ 100000 ∧ ∀ H', Same H H' → Q (.bl (nwB z)) H'
def spIsId : Sp := fun vs H Q _ => ∃ z : Str, vs = [.str z] ∧ z.length ≤ 100000 ∧ ∀ H', Same H H' → Q (.bl (idB z)) H'
theorem ok_isnameZ {f : Addr} {fd : FuncData} {t1 t2 : Tok} (F : Fun K "is_name" "is_name" sIsName f fd) (mi : mg "isinstance" = none) (ms : mg "str" = none) (ml : mg "len" = none) (mall : mg "all" = none) (mL : mg "LETTERS" = some (.str LET t1)) (mM : mg "LONGEST" = some (.int 8 t2)) :
    FnOk P w K mg base CX0 1 f fd ["thing"] spIsName := by
  refine F.ok scIsName (fun vs H Q E h => ?_) (fun cdv A outer s H vs Q E hr h => ?_)
  · obtain ⟨z, rfl, _⟩ := h
    rfl
  obtain ⟨z, rfl, hz, q⟩ := h
  refine ⟨_, pss_cons (ps_if (PW.pt (pw_or (pt_not (pt_val (pe_callB call_isi (by rfl) mi (by decide +kernel) (pa_cons (pv 0) (pa_cons (pe_bltn (v := .ty "str") (by rfl) ms (by decide +kernel) rfl) pa_nil)))))
      (pw_or1 (pt_not ((pt_chain op_le op_le pe_int (pe_callB call_len (by rfl) ml (by decide +kernel) (pa_cons (pv 0) pa_nil)) (pe_glob (v := .int 8) (by rfl) mM ⟨t2, rfl⟩)))))))
      (pss_one (ps_ret pe_bl)) pss_nil)
    (pss_one (ps_ret (pe_callB (cr_all rfl) (by rfl) mall (by decide +kernel) (pa_cons (pe_lc (own := [("letter", 1)]) (g := gName 1) (tt := tYes) rfl scIsName.nd (pi_str (pv 0)) (blkOk_by (N := ["thing", "letter"]) (sc := defScope sIsName) (by decide +kernel))
      (fun _ _ _ _ _ => pg_name (i := 1) scIsName.nd rfl (Or.inl rfl)) (fun _ _ _ _ _ => pts_nil) (fun _ _ _ _ _ => pe_cmpR op_in_str (pv 1) (pe_glob (v := .str LET) (by rfl) mL ⟨t1, rfl⟩) (by rfl))) pa_nil)))), ?_⟩
  refine ⟨.str z, rfl, .str z, .ty "str", _, _, true, rfl, .ty _, .base (.str z), rfl, _, rfl, ?_⟩
  have sz : z.length ≤ sizeLine := by rw [sizeLine_eq]; omega
  refine ff_if rfl ⟨.str z, rfl, .str z, z.length, rfl, ⟨sz, rfl⟩, 1, (z.length : Int), rfl, rfl, _, rfl, ?_⟩
  by_cases h1 : (1 : Int) ≤ (z.length : Int)
  · refine tt_if (decide_eq_true h1) ⟨z.length, 8, rfl, rfl, _, rfl, ?_⟩
    by_cases h8 : (z.length : Int) ≤ 8
    · rw [decide_eq_true h8]
      refine ff_if rfl ?_
      refine ⟨.str z, rfl, z, rfl, fun D nD => ?_⟩
      refine lc_strI (fun i H1 => Same H H1 ∧ H1 D = some (.lst ((z.cps.toList.take i).map fun c => V.bl (inL c)))) ⟨same_new nD _, upd_same⟩ ?_ ?_
      · rintro i c H1 hx ⟨s1, h1'⟩
        refine ⟨rfl, yes_if ⟨.str ⟨#[c]⟩, rfl, ⟨#[c]⟩, LET, rfl, rfl, _, h1', ?_, Same.put s1 nD, ?_⟩⟩
        · rw [List.length_map, List.length_take, Array.length_toList]
          have : z.cps.size = z.length := rfl
          rw [sizeLine_eq]; omega
        · rw [upd_same, List.take_add_one, hx]
          simp [inL]
      · rintro H1 ⟨s1, h1'⟩
        rw [List.take_length] at h1'
        refine ⟨D, z.cps.toList.map inL, rfl, SqL.of (by rw [List.map_map]; exact h1'), ?_⟩
        have e : nmB z = (z.cps.toList.map inL).all id := by
          show (decide (1 ≤ z.length) && decide (z.length ≤ 8) && z.cps.toList.all inL) = _
          rw [decide_eq_true (by omega : 1 ≤ z.length), decide_eq_true (by omega : z.length ≤ 8), List.all_map]
          rfl
        rw [← e]
        exact q H1 s1
    · rw [decide_eq_false h8]
      refine tt_if rfl ?_
      have e : nmB z = false := by
        show (decide (1 ≤ z.length) && decide (z.length ≤ 8) && z.cps.toList.all inL) = false
        rw [decide_eq_false (by omega : ¬ z.length ≤ 8), Bool.and_false, Bool.false_and]
      rw [e] at q
      exact q H fun _ _ e => e
  · refine ff_if (decide_eq_false h1) ⟨_, rfl, tt_if rfl ?_⟩
    have e : nmB z = false := by
      show (decide (1 ≤ z.length) && decide (z.length ≤ 8) && z.cps.toList.all inL) = false
      rw [decide_eq_false (by omega : ¬ 1 ≤ z.length), Bool.false_and, Bool.false_and]
    rw [e] at q
    exact q H fun _ _ e => e
theorem scIsNew : FnScope ["thing"] ["thing"] (defScope sIsNew) := ⟨rfl, rfl, rfl, by decide +kernel, rfl, by decide +kernel, by decide +kernel⟩
theorem ok_isnewZ {f f1 : Addr} {fd fd1 : FuncData} (F : Fun K "is_new_id" "is_new_id" sIsNew f fd) (G : FnOk P w K mg base CX0 1 f1 fd1 ["thing"] spIsName) (n1 : Nmd K mg "is_name" f1 fd1 ["thing"]) (mi : mg "isinstance" = none) (ms : mg "str" = none) : FnOk P w K mg base CX0 2 f fd ["thing"] spIsNew := by
  refine F.ok scIsNew (fun vs H Q E h => ?_) (fun cdv A outer s H vs Q E hr h => ?_)
  · obtain ⟨z, rfl, _⟩ := h
    rfl
  obtain ⟨z, rfl, hz, q⟩ := h
  refine ⟨_, pss_one (ps_ret (pe_and (pe_callB call_isi (by rfl) mi (by decide +kernel) (pa_cons (pv 0) (pa_cons (pe_bltn (v := .ty "str") (by rfl) ms (by decide +kernel) rfl) pa_nil))) (pe_and (pe_cmpR op_eq (pe_slice sl_str (pv 0) po_none (po_some pe_int)) pe_str (nomark _)) (pe_one (pe_call G hr (by rfl) n1.m n1.k n1.b .nil pass0 (pa_cons (pe_slice sl_str (pv 0) (po_some pe_int) po_none) pa_nil)))))), ?_⟩
  refine ⟨.str z, rfl, .str z, .ty "str", _, _, true, rfl, .ty _, .base (.str z), rfl, _, rfl, ?_⟩
  have sz : z.length ≤ sizeLine := by rw [sizeLine_eq]; omega
  refine tt_if rfl ⟨.str z, rfl, 1, rfl, z, rfl, sz, rfl, _, rfl, ?_⟩
  cases hp : plusB z with
  | false =>
    refine ff_if hp ?_
    have e : nwB z = false := by show (plusB z && _) = false; rw [hp]; rfl
    rw [e] at q
    exact q H fun _ _ e => e
  | true =>
    refine tt_if hp ⟨.str z, rfl, 1, rfl, z, rfl, sz, _, rfl, cut_len hz, fun H' s' => ?_⟩
    have e : nwB z = nmB (cutS z (some 1) none) := by show (plusB z && _) = _; rw [hp]; rfl
    rw [← e]
    exact q H' s'
theorem scIsId : FnScope ["thing"] ["thing"] (defScope sIsId) := ⟨rfl, rfl, rfl, by decide +kernel, rfl, by decide +kernel, by decide +kernel⟩
theorem ok_isidZ {f f1 f2 : Addr} {fd fd1 fd2 : FuncData} (F : Fun K "is_id" "is_id" sIsId f fd) (G : FnOk P w K mg base CX0 1 f1 fd1 ["thing"] spIsName) (n1 : Nmd K mg "is_name" f1 fd1 ["thing"]) (G2 : FnOk P w K mg base CX0 2 f2 fd2 ["thing"] spIsNew) (n2 : Nmd K mg "is_new_id" f2 fd2 ["thing"]) : FnOk P w K mg base CX0 3 f fd ["thing"] spIsId := by
  refine F.ok scIsId (fun vs H Q E h => ?_) (fun cdv A outer s H vs Q E hr h => ?_)
  · obtain ⟨z, rfl, _⟩ := h
    rfl
  obtain ⟨z, rfl, hz, q⟩ := h
  refine ⟨_, pss_one (ps_ret (pe_or (pe_call G (hr.mono (by decide)) (by rfl) n1.m n1.k n1.b .nil pass0 (pa_cons (pv 0) pa_nil)) (pe_one (pe_call G2 hr (by rfl) n2.m n2.k n2.b .nil pass0 (pa_cons (pv 0) pa_nil))))), ?_⟩
  refine ⟨_, rfl, z, rfl, hz, fun H1 s1 => ⟨_, rfl, ?_⟩⟩
  cases h1 : nmB z with
  | true =>
    refine tt_if rfl ?_
    have e : idB z = true := by unfold idB; rw [h1]; rfl
    rw [e] at q
    exact q H1 s1
  | false =>
    refine ff_if rfl ⟨_, rfl, z, rfl, hz, fun H2 s2 => ?_⟩
    have e : idB z = nwB z := by unfold idB; rw [h1]; rfl
    rw [← e]
    exact q H2 (s1.trans s2)
end
end Lw

set_option Elab.async false
set_option linter.all false
set_option maxRecDepth 100000
set_option maxHeartbeats 4000000
/-! {**a, **b} of dicts whose keys are ints and texts -/
namespace Lw
open PySem PySem.Spec PyProof.Rows L2
section
variable {prog : Program} {w : World} {κ : Type} [DecidableEq κ] {kd : KeyKind prog w κ} {A : Around} {E : Value → Shared → Prop}
/-- where a key stands: in the table as in the list -/
theorem place_of {ents : Array DictEntry} {l : List (κ × Value)} (pr : Pairs kd ents.toList l) (k : κ) : (ents.findIdx? fun x => kd.is k x.key) = l.findIdx? fun p => decide (p.1 = k) := by
  have e := pr.findIdx k
  cases ents
  simpa using e
/-- an entry that is there is written over -/
theorem over_of {h : Heap} {d : Addr} {ob : Obj} {ents : Array DictEntry} {gen j : Nat} {l : List (κ × Value)} {k : κ} {v : Value} (look : h.get? d = some ob) (ex : ob.ExactDict) (dat : ob.data = .dict ents gen) (keys : PySem.KeysOf kd ents) (pr : Pairs kd ents.toList l) (nd : (l.map (·.1)).Nodup)
    (found : (ents.findIdx? fun x => kd.is k x.key) = some j) : (h.update d (Obj.mapDict (·.modify j fun x => { x with val := v }))).DictOf kd d (stored l k v) := by
  have idx : (l.findIdx? fun p => decide (p.1 = k)) = some j := (place_of pr k).symm.trans found
  have there := any_of_findIdx_some idx
  refine ⟨_, _, gen, Heap.get?_update_self _ look (Obj.isFreed_of_dict (Obj.data_mapDict dat _)), ex.mapDict _, Obj.data_mapDict dat _, keys.modify _ _, ?_, ?_⟩
  · rw [stored, if_pos there]
    have tl : (ents.toList.findIdx? fun x => kd.is k x.key) = some j := by
      rw [← found]
      cases ents
      simp
    have z := pr.modify nd tl v
    cases ents
    simpa using z
  · rw [stored, if_pos there, keys_map_store]
    exact nd
/-- a new entry stands at the end -/
theorem grown_of {h : Heap} {d : Addr} {ob : Obj} {ents : Array DictEntry} {gen : Nat} {l : List (κ × Value)} {k : κ} {key v : Value} (is : kd.is k key = true) (look : h.get? d = some ob) (ex : ob.ExactDict) (dat : ob.data = .dict ents gen) (keys : PySem.KeysOf kd ents) (pr : Pairs kd ents.toList l) (nd : (l.map (·.1)).Nodup)
    (found : (ents.findIdx? fun x => kd.is k x.key) = none) : (h.update d (Obj.mapDictKeys (·.push ⟨kd.hash k, key, v⟩))).DictOf kd d (stored l k v) := by
  have no : k ∉ l.map (·.1) := not_mem_of_findIdx_none ((place_of pr k).symm.trans found)
  have nowhere : ¬ (l.any fun p => decide (p.1 = k)) = true := fun h => by
    obtain ⟨p, hp, e⟩ := List.any_eq_true.mp h
    exact no (List.mem_map.mpr ⟨p, hp, of_decide_eq_true e⟩)
  have shape : stored l k v = l ++ [(k, v)] := if_neg nowhere
  refine ⟨_, _, gen + 1, Heap.get?_update_self _ look (Obj.isFreed_of_dict (Obj.data_mapDictKeys dat _)), ex.mapDictKeys _, Obj.data_mapDictKeys dat _, keys.push is _, ?_, ?_⟩
  · rw [shape]
    have z := pr.append is (kd.hash k) v
    cases ents
    simpa using z
  · rw [shape, List.map_append]
    exact List.nodup_append.mpr ⟨nd, by simp, fun a ha b hb q => no (by
      have eb : b = k := by simpa using hb
      rw [← eb, ← q]
      exact ha)⟩
theorem put_any {s : Shared} {d : Addr} {l : List (κ × Value)} {k : κ} {key v : Value} {Q : Unit → Shared → Prop} (is : kd.is k key = true) (D : s.heap.DictOf kd d l) (room : l.length ≤ sizeLine)
    (q : ∀ h', h'.DictOf kd d (stored l k v) → Heap.SameBut d s.heap h' → Q () { s with heap := h' }) : wpAny (model prog w) A (dictPut d (kd.hash k) key v) Q E s := by
  obtain ⟨ob, ents, gen, look, ex, dat, keys, pr, nd⟩ := D
  have few : ents.size ≤ sizeLine := by
    have e := pr.length
    rw [Array.length_toList] at e
    omega
  unfold dictPut
  refine wpAny_bind (wpAny_dictFind_of is look dat keys ?_)
  cases found : ents.findIdx? fun x => kd.is k x.key with
  | some j => exact wpAny_updateDict look dat (q _ (over_of look ex dat keys pr nd found) (Heap.SameBut.update ..))
  | none => exact wpAny_updateDictKeys (hz := few) look dat (q _ (grown_of is look ex dat keys pr nd found) (Heap.SameBut.update ..))
/-- the turns of a merge that are left -/
theorem turns_any {src d : Addr} {os : Obj} {ents : Array DictEntry} {gen : Nat} {l more : List (κ × Value)} {R : Unit → Shared → Prop} {s0 : Heap} (apart : d ≠ src) (dat : os.data = .dict ents gen) (keys : PySem.KeysOf kd ents) (pr : Pairs kd ents.toList more) (room : l.length + more.length ≤ sizeLine)
    {F : Nat → PUnit → Sem (ForInStep PUnit)} (body : ∀ (i : Nat) (x : DictEntry) (s : Shared) (T : ForInStep PUnit → Shared → Prop), ents[i]? = some x → s.heap.get? src = some os →
      wpAny (model prog w) A (dictPut d x.hash x.key x.val) (fun _ s' => s'.heap.get? src = some os ∧ T (.yield PUnit.unit) s') E s → wpAny (model prog w) A (F i PUnit.unit) T E s) :
    ∀ (n i : Nat) (s : Shared), i + n = ents.size → s.heap.DictOf kd d (merged l (more.take i)) → s.heap.get? src = some os → Heap.SameBut d s0 s.heap →
      (∀ h', h'.DictOf kd d (merged l more) → h'.get? src = some os → Heap.SameBut d s0 h' → R () { s with heap := h' }) → wpAny (model prog w) A (forIn (List.range' i n) PUnit.unit F) R E s
  | 0, i, s, e, D, look, same, q => by
    have full : more.take i = more := List.take_of_length_le (by
      rw [← pr.length, Array.length_toList]
      omega)
    rw [full] at D
    exact wpAny_pure (q s.heap D look same)
  | n + 1, i, s, e, D, look, same, q => by
    have lt : i < ents.size := by omega
    obtain ⟨p, hp⟩ : ∃ p, more[i]? = some p := ⟨_, List.getElem?_eq_getElem (by
      rw [← pr.length, Array.length_toList]
      exact lt)⟩
    have at_ : ents.toList[i]? = some ents[i] := by simp [lt]
    obtain ⟨is, val⟩ := pr.get? at_ hp
    obtain ⟨k2, is2, hash⟩ := keys _ (Array.getElem_mem lt)
    have one : k2 = p.1 := kd.inj _ _ _ is2 is
    rw [List.range'_succ, List.forIn_cons]
    refine wpAny_bind (body i _ s _ (Array.getElem?_eq_getElem lt) look ?_)
    rw [hash, val, one]
    have size : (merged l (more.take i)).length ≤ sizeLine := by
      have a := merged_length_le l (more.take i)
      have b := List.length_take_le i more
      have c : (more.take i).length ≤ more.length := by
        rw [List.length_take]
        exact Nat.min_le_right _ _
      omega
    refine put_any is D size fun h' D' same' => ?_
    have look' : h'.get? src = some os := (same'.2 src apart.symm).trans look
    rw [← merged_take_succ l more i (p.1, p.2) hp] at D'
    exact ⟨look', turns_any apart dat keys pr room body n (i + 1) { s with heap := h' } (by omega) D' look' (same.trans same') q⟩
theorem merge_map {s : Shared} {d src : Addr} {l more : List (κ × Value)} {Q : Unit → Shared → Prop} (plain : ∀ k a, kd.is k (.ref a) = false) (apart : d ≠ src) (noSys : (src == sysModules) = false) (D : s.heap.DictOf kd d l) (M : s.heap.DictOf kd src more)
    (q : ∀ h', h'.DictOf kd d (merged l more) → Heap.SameBut d s.heap h' → Q () { s with heap := h' }) (room : l.length + more.length ≤ sizeLine) :
    wpAny (model prog w) A (mergeMapping d (.ref src) false) Q E s := by
  have ty := M.typeIs
  obtain ⟨od, de, dg, dlook, _, ddat, _⟩ := id D
  obtain ⟨os, ents, gen, look, _, dat, keys, pr, _⟩ := id M
  unfold mergeMapping
  refine wpAny_bind (wpAny_isInstance ty isSubtype_dict_dict ?_)
  rw [if_pos rfl]
  refine wpAny_bind (wpAny_specialOf ty F.slot_dict_iter.lookup (wpAny_bind (wpAny_pure ?_)))
  simp only [beq_self_eq_true, noSys, Bool.false_eq_true, if_false]
  refine wpAny_bind (wpAny_dictEntries dlook ddat ?_)
  -- the turns, whatever stood ahead of them
  have rest : ∀ (G : Sem Unit), (∀ T : Unit → Shared → Prop, (∀ (F : Nat → PUnit → Sem (ForInStep PUnit)), (∀ (i : Nat) (x : DictEntry) (z : Shared) (U : ForInStep PUnit → Shared → Prop), ents[i]? = some x → z.heap.get? src = some os →
      wpAny (model prog w) A (dictPut d x.hash x.key x.val) (fun _ z' => z'.heap.get? src = some os ∧ U (.yield PUnit.unit) z') E z → wpAny (model prog w) A (F i PUnit.unit) U E z) → wpAny (model prog w) A (forIn (List.range' 0 ents.size) PUnit.unit F) T E s) → wpAny (model prog w) A G T E s) → wpAny (model prog w) A G Q E s := fun G h =>
    h Q fun F body => turns_any apart dat keys pr room body ents.size 0 s (by omega) (by simpa [merged] using D) look (Heap.SameBut.refl _ _) fun h' D' _ same => q h' D' same
  have same_body : ∀ {T : Unit → Shared → Prop}, (∀ (F : Nat → PUnit → Sem (ForInStep PUnit)), (∀ (i : Nat) (x : DictEntry) (z : Shared) (U : ForInStep PUnit → Shared → Prop), ents[i]? = some x → z.heap.get? src = some os →
      wpAny (model prog w) A (dictPut d x.hash x.key x.val) (fun _ z' => z'.heap.get? src = some os ∧ U (.yield PUnit.unit) z') E z → wpAny (model prog w) A (F i PUnit.unit) U E z) → wpAny (model prog w) A (forIn (List.range' 0 ents.size) PUnit.unit F) T E s) →
      wpAny (model prog w) A (do
        let a ← dictEntries src
        let g ← dictEpoch src
        forIn (List.range a.size) PUnit.unit fun i (_ : PUnit) => (do
          let b ← dictEntries src
          match b[i]? with
          | some x => do
            holding [x.key, x.val] (dictPut d x.hash x.key x.val)
            let g2 ← dictEpoch src
            if (g2 != g) = true then do (unsupported "dict.changed-during-merge" : Sem PUnit); pure (ForInStep.yield PUnit.unit) else pure (ForInStep.yield PUnit.unit)
          | _ => do (unsupported "dict.changed-during-merge" : Sem PUnit); pure (ForInStep.yield PUnit.unit) : Sem (ForInStep PUnit))
        pure ()) T E s := fun {T} h => by
    refine wpAny_bind (wpAny_dictEntries look dat (wpAny_bind (wpAny_dictEpoch look dat (wpAny_bind ?_))))
    rw [List.range_eq_range']
    refine wpAny_mono (h _ fun i x z U hx hz put => ?_) (fun _ _ t => wpAny_pure t) fun _ _ t => t
    refine wpAny_bind (wpAny_dictEntries hz dat ?_)
    rw [hx]
    refine wpAny_bind (wpAny_holding (wpAny_mono put (fun _ z' t => ?_) fun _ _ t => t))
    refine wpAny_bind (wpAny_dictEpoch t.1 dat ?_)
    rw [if_neg (by simp)]
    exact wpAny_pure t.2
  split
  · refine wpAny_bind (wpAny_dictEntries look dat (wpAny_bind ?_))
    rw [← Array.forIn_toList]
    refine wpAny_forIn_list _ (fun left _ z => z = s ∧ ∀ x ∈ left, x ∈ ents) _ ?_ ?_ _ _ ⟨rfl, fun x hx => by simpa using hx⟩
    · rintro x left _ z ⟨rfl, all⟩
      obtain ⟨k, hk, _⟩ := keys x (all x List.mem_cons_self)
      split
      · rename_i a e
        rw [e, plain k a] at hk
        cases hk
      · exact wpAny_pure ⟨rfl, fun y hy => all y (List.mem_cons_of_mem _ hy)⟩
    · rintro _ z ⟨rfl, _⟩
      exact rest _ fun T h => same_body h
  · exact rest _ fun T h => same_body h
end
/-- the two dicts in one, the second over the first -/
def tMerge2 (ta tb : TE) : TE := fun σ H Q => ∀ p, H p = none → ta σ (upd H p (.dK [])) fun x H1 => ∃ a kvs, x = .ref a ∧ a ≠ p ∧ H1 p = some (.dK []) ∧ H1 a = some (.dK kvs) ∧ kvs.length ≤ 1000 ∧
  tb σ (upd H1 p (.dK (mergeK [] kvs))) fun y H2 => ∃ b kvs2, y = .ref b ∧ b ≠ p ∧ H2 p = some (.dK (mergeK [] kvs)) ∧ H2 b = some (.dK kvs2) ∧ kvs.length + kvs2.length ≤ 1000 ∧ Q (.ref p) (upd H2 p (.dK (mergeK (mergeK [] kvs) kvs2)))
theorem mix_ref {P : Program} {w : World} : ∀ (k : Key) (a : Addr), (mixKind P w).is k (.ref a) = false := fun k a => by
  cases k <;> rfl
theorem d_merge {X : Cx} {pins : List (Addr × Obj)} {σ : L2.St} {H : Hp} {s : Shared} {p a : Addr} {kvs more : List (Key × V)} {Q : Unit → Shared → Prop} {E : Value → Shared → Prop} (J : Inv X pins σ H s) (n : a ≠ p) (hp : H p = some (.dK kvs)) (ha : H a = some (.dK more)) (few : kvs.length + more.length ≤ 1000)
    (q : ∀ s', Inv X pins σ (upd H p (.dK (mergeK kvs more))) s' → Q () s') : wpAny (model X.prog X.w) X.A (mergeMapping p (.ref a) false) Q E s := by
  obtain ⟨zp, hdp, vs, relp, ddp⟩ := dk_of J.hok hp
  obtain ⟨za, hda, us, rela, dda⟩ := dk_of J.hok ha
  have sz := small few
  refine merge_map mix_ref n.symm hda ddp dda (fun h' dd' hs => q _ ?_) (by rw [← relp.length, ← rela.length]; exact sz)
  have he : ∃ q, h'.get? p = some q := let ⟨q, _, _, hq, _⟩ := dd'; ⟨q, hq⟩
  exact d_write J (by rw [hp]; exact True.intro) hs he (dk_new (Nat.le_trans (length_mergeK more kvs) sz) hdp (rela.merge relp) dd')
theorem pe_merge2 {X : Cx} {ea eb : Expr} {pos : Pos} {ta tb : TE} (pa : PE X ea ta) (pb : PE X eb tb) : PE X (.Dict [none, none] [ea, eb] pos) (tMerge2 ta tb) := ⟨fun pl0 s σ H Q J want => by
  have new := J.hok.fresh (Nat.le_refl s.heap.objs.size)
  have J1 := J.laid (t' := s.toks) (a := s.heap.objs.size) (h' := s.heap.push { cls := .type "dict", data := .dict #[] }) (o := .dK []) (fun _ _ old => Heap.get?_push_of_some _ old) (Nat.le_refl _) (dk_empty s.heap J.big)
  rw [arm_eval_Dict]
  refine wpAny_bind (wpAny_standAt (?_ : wpAny _ _ (dictDisplay [(none, (do let x ← eval ea X.env; standAt pos; pure x)), (none, (do let x ← eval eb X.env; standAt pos; pure x))]) _ _ _))
  unfold dictDisplay
  simp only [List.forIn_cons, List.forIn_nil, List.isEmpty_nil, if_true, bind_assoc, pure_bind]
  refine wpAny_bind (wpAny_alloc (wpAny_bind (wpAny_holding (wpAny_bind (thn (pa.run pl0 _ σ _ _ J1 (want _ new)) fun v s1 got => wpAny_bind (wpAny_standAt (wpAny_pure ?_)))))))
  obtain ⟨x, H1, J2, rx, a, kvs, rfl, na, hp, ha, few1, want1⟩ := got
  cases (show v = .ref a from rx)
  refine wpAny_bind (wpAny_onRaise (wpAny_tryCatch (wpAny_onRaise (wpAny_holding (d_merge J2 na hp ha (by rw [List.length_nil]; omega) fun s2 J3 => ?_)))))
  refine wpAny_bind (wpAny_holding (wpAny_bind (thn (pb.run pl0 s2 σ _ _ J3 want1) fun u s3 got2 => wpAny_bind (wpAny_standAt (wpAny_pure ?_)))))
  obtain ⟨y, H2, J4, ry, b, kvs2, rfl, nb, hp2, hb, few, want2⟩ := got2
  cases (show u = .ref b from ry)
  refine wpAny_bind (wpAny_onRaise (wpAny_tryCatch (wpAny_onRaise (wpAny_holding (d_merge J4 nb hp2 hb ?_ fun s4 J5 => wpAny_pure ⟨.ref s.heap.objs.size, _, J5, rfl, want2⟩)))))
  have h := length_mergeK kvs []
  rw [List.length_nil] at h
  omega⟩
end Lw

set_option Elab.async false
set_option linter.all false
set_option maxRecDepth 100000
set_option maxHeartbeats 4000000
/-! o[i], o[i] = v and len(o) by an own __getitem__, __setitem__, __len__ -/
namespace Lw
open PySem PySem.Spec PyProof.Rows L2
section
variable {X : Cx} {n : Nat}
/-- a def called by its values -/
theorem own_go {CX : CXT} {f : Addr} {fd : FuncData} {ps : List Str} {sp : Sp} {E : XK} (F : FnOk X.prog X.w X.K X.mg X.base CX n f fd ps sp) (hb : Binds X.K fd ps []) (hx : Passes CX X E)
    {A : Around} {pl : List (Addr × Obj)} {s : Shared} {σ : L2.St} {H : Hp} {vs : List V} {us : List Value} (sb : Sub X n A) (J : Inv X pl σ H s) (rv : Vals vs us) {Q : VK} (q : sp vs H Q E) :
    wpAny (model X.prog X.w) A (call (.ref f) us) (EP X pl σ Q) X.xe s := by
  have e0 : Env0 X.prog X.w X.K X.mg X.base A X.stack s H := by
    have e := J.env0
    exact ⟨by rw [sb.fr]; exact e.frames, e.mod, e.bs, e.bsz, e.funs, e.frf, e.hok, e.bare⟩
  have hl := F.len _ _ _ _ q
  have hlu : us.length = ps.length := by rw [← rv.length]; exact hl
  refine wpAny_call (codeAny_mono (F.run A X.stack s H ⟨us, []⟩ us vs _ E sb.room e0 (by
    have h := hb s us J.kIn (by simpa using hlu)
    simpa using h) rv q) fun r s' hq => ?_)
  cases r with
  | error e => exact hx pl σ H s e s' J hq
  | ok fl =>
    cases fl with
    | ret w => exact J.after hq
    | next => exact False.elim hq
    | brk => exact False.elim hq
    | cont => exact False.elim hq
/-- the class at C has this def at that name -/
structure OwnAt (K : PySem.W.Frag) (C f : Addr) (m : Str) : Prop where
  at_ : PySem.W.findIn K (.ref C) m = some (some (.ref f))
  fn : PySem.W.isFn K (.ref f) = true
def rOwnSet (C : Addr) (sp : Sp) (E : XK) : V → V → V → Hp → (Hp → Prop) → Prop := fun o i v H Q => ∃ (a dx : Addr) (fs : List (Str × V)), o = .ref a ∧ H a = some (.ins C dx fs) ∧ sp [o, i, v] H (fun _ H' => Q H') E
theorem set_own {CX : CXT} {C f : Addr} {fd : FuncData} {ps : List Str} {sp : Sp} {E : XK} (F : FnOk X.prog X.w X.K X.mg X.base CX n f fd ps sp) (hb : Binds X.K fd ps []) (hx : Passes CX X E) (c : OwnAt X.K C f "__setitem__") (nq : PySem.W.noSeq X.K C = true) (hr : Room n X.A) : PSet X (rOwnSet C sp E) := by
  intro pl s σ H o i v ov iv u Q J ro ri rv h
  obtain ⟨a, dx, fs, rfl, ha, q⟩ := h
  cases (show ov = Value.ref a from ro)
  obtain ⟨mA, G, _⟩ := ins_get J.hok ha
  obtain ⟨od, G, _⟩ := G.look
  obtain ⟨m, hF⟩ := J.fr
  refine PySem.W.ksp_setItem hF J.ok.mod.kin G nq c.at_ c.fn ?_
  refine wpAny_mono (own_go F hb hx (A := X.A) ⟨hr, rfl⟩ J (.cons ro (.cons ri (.cons rv .nil))) q) (fun r s' z => ?_) fun _ _ x => x
  obtain ⟨v', H', J', _, q'⟩ := z
  exact ⟨H', J', q'⟩
def rOwnGet (C : Addr) (sp : Sp) (E : XK) : R2 := fun x y H Q => ∃ (a dx : Addr) (fs : List (Str × V)), x = .ref a ∧ H a = some (.ins C dx fs) ∧ sp [x, y] H Q E
theorem pe_ixO {CX : CXT} {C f : Addr} {fd : FuncData} {ps : List Str} {sp : Sp} {E : XK} {a b : Expr} {pos : Pos} {ta tb : TE} (F : FnOk X.prog X.w X.K X.mg X.base CX n f fd ps sp) (hb : Binds X.K fd ps []) (hx : Passes CX X E) (c : OwnAt X.K C f "__getitem__") (fi : PySem.W.fnIn X.K f = true) (hr : Room (n + 1) X.A) (pa : PE X a ta) (pb : PE X b tb)
    (hsl : ∀ v i : Value, subscripted b true v i = runValue (.builtin "lifetime.subscript" ⟨[v, i], []⟩) := by intros; with_unfolding_all rfl) : PE X (.Subscript a b pos) (tOp (rOwnGet C sp E) ta tb) := by
  refine ⟨fun pins s σ H Q I h => ?_⟩
  refine Subscript_ (binT pa pb I h fun v u s2 x y H2 J ry rz q => ?_)
  obtain ⟨o, dx, fs, rfl, ho, q⟩ := q
  cases (show v = Value.ref o from ry)
  obtain ⟨mA, G, _⟩ := ins_get J.hok ho
  obtain ⟨od, G, _⟩ := G.look
  obtain ⟨m, hF⟩ := J.fr
  refine PySem.W.sub_K hF J.ok.mod.kin G c.at_ fi c.fn (own_go F hb hx (A := X.A.in1) (Sub.in1 ⟨hr, rfl⟩) J (.cons ry (.cons rz .nil)) q) (hsl _ _)
def rOwnLen (C : Addr) (sp : Sp) (E : XK) : List V → Hp → VK → Prop := fun xs H Q => ∃ (a dx : Addr) (fs : List (Str × V)), xs = [.ref a] ∧ H a = some (.ins C dx fs) ∧ sp xs H (fun v H' => ∃ n : Nat, v = .int (n : Nat) ∧ n ≤ 1000 ∧ Q v H') E
theorem call_lenOwn {CX : CXT} {C f : Addr} {fd : FuncData} {ps : List Str} {sp : Sp} {E : XK} (F : FnOk X.prog X.w X.K X.mg X.base CX n f fd ps sp) (hb : Binds X.K fd ps []) (hx : Passes CX X E) (c : OwnAt X.K C f "__len__") (hr : Room (n + 1) X.A) : CallR X (.builtin "len") (rOwnLen C sp E) := by
  intro pl s σ H vs us Q J r h
  obtain ⟨a, dx, fs, rfl, ha, q⟩ := h
  rw [Vals.ref1 r]
  obtain ⟨mA, G, _⟩ := ins_get J.hok ha
  obtain ⟨od, G, _⟩ := G.look
  obtain ⟨m, hF⟩ := J.fr
  refine PySem.W.len_K hF J.ok.mod.kin G c.at_ c.fn ?_
  refine wpAny_mono (own_go F hb hx (A := X.A.in1) (Sub.in1 ⟨hr, rfl⟩) J (.cons (show RelV (V.ref a) (Value.ref a) from rfl) .nil) q) (fun r s' z => ?_) fun _ _ x => x
  obtain ⟨v', H', J', rv, n, rfl, n0, q'⟩ := z
  obtain ⟨t, rfl⟩ := (show ∃ t, r = Value.int (n : Nat) t from rv)
  exact ⟨⟨by omega, by omega⟩, .int (n : Nat), H', J'.tok _, ⟨_, rfl⟩, q'⟩
end
end Lw

set_option Elab.async false
set_option linter.all false
set_option maxRecDepth 100000
set_option maxHeartbeats 4000000
/-! sorted of texts, up to a thousand of them: a list, the keys of a dict -/
namespace Lw
open PySem PySem.Spec PyProof.Rows L2
section
variable {X : Cx}
def rSortSA (K : PySem.W.Frag) : List V → Hp → VK → Prop := fun args H Q => ∃ (a : Addr) (zs : List Str), args = [.ref a] ∧ SqL K H a (zs.map V.str) ∧ zs.length ≤ 1000 ∧ ∀ (ws : List Str) (p : Addr), ws.Perm zs → sortedS ws = true → H p = none → Q (.ref p) (upd H p (.lst (ws.map V.str)))
theorem cr_sortSA : CallR X (.builtin "sorted") (rSortSA X.K) := by
  intro pl s σ H args us Q J r want
  obtain ⟨a, zs, rfl, at_, few, fin⟩ := want
  obtain ⟨vals, rel, isl, _⟩ := J.list at_
  have le : vals.length ≤ 1000 := by rw [← rel.length, List.length_map]; exact few
  rw [Vals.ref1 r]
  refine sorted_strsAny isl.isList rel.strs (small le) fun out ws so pm sr => ?_
  obtain ⟨e, he⟩ := sortedAll_at s.heap vals out
  have lw : (ws.map V.str).length ≤ sizeLine := by rw [List.length_map]; exact small (by rw [pm.length_eq]; exact few)
  have up : s.heap.objs.size ≤ s.heap.objs.size + 1 := Nat.le_add_right _ 1
  exact ⟨.ref _, _, J.laid (o := .lst (ws.map V.str)) (t' := s.toks) (fun _ _ => sortedAll_old) up ⟨lw, out.toList, e, vals_of_strs so, he⟩, rfl, fin ws _ pm sr (J.hok.fresh up)⟩
def rSortDA : List V → Hp → VK → Prop := fun args H Q => ∃ (d : Addr) (kvs : List (Key × V)) (zs : List Str), args = [.ref d] ∧ Rd H d (.dK kvs) ∧ kvs.map (·.1) = zs.map Sum.inr ∧ zs.length ≤ 1000 ∧ ∀ (ws : List Str) (p : Addr), ws.Perm zs → sortedS ws = true → H p = none → Q (.ref p) (upd H p (.lst (ws.map V.str)))
theorem cr_sortDA (calm : X.calm = true) : CallR X (.builtin "sorted") rSortDA := by
  intro pl s σ H args us Q J r want
  obtain ⟨d, kvs, zs, rfl, rd, names, few, fin⟩ := want
  obtain ⟨u, rfl, ru⟩ := vals1 r
  cases ru
  obtain ⟨_, low, ents, rel, raw⟩ := dk_rd J.hok rd
  obtain ⟨ep, there⟩ := raw.dictAt
  have nm : ents.map (·.1) = zs.map Sum.inr := by rw [← names]; exact rel.keys.symm
  have le : ents.length = zs.length := by
    have h := congrArg List.length nm
    simpa using h
  refine Calls.call_function_entry kind_sorted plain_sorted entry_sorted (args_sorted1 _) ?_
  unfold Builtin.«sorted»
  refine wpAny_bind (m := checkCount "sorted" 1 1 _) (wpAny_pure ?_)
  have col := PySem.W.kdl_dict (knd := mixKind X.prog X.w) (kvs := ents) (ep := ep) low
  refine wpAny_bind (PySem.W.kdu_collect (A := X.A.in1) col (J.ok.hd calm) there (small (by omega)) fun hp tk got kept each => ?_)
  have lg : got.toList.length = zs.length := by rw [← le, ← each.1, Array.length_toList]
  have txt : StrsAre got.toList zs := strs_at lg fun j v e => by
    obtain ⟨key, _, at1, is1⟩ := each.2 j v (by rw [← e, Array.getElem?_toList])
    have at2 : (zs.map (Sum.inr : Str → Key))[j]? = some key := by rw [← nm, List.getElem?_map, at1]; rfl
    rw [List.getElem?_map] at at2
    obtain ⟨z, at3, rfl⟩ := Option.map_eq_some_iff.mp at2
    obtain ⟨t, ht⟩ := Value.isStrOf_shape (x := z) (v := v) is1
    exact ⟨z, t, at3, ht⟩
  have J1 : Inv X pl σ H { s with heap := hp, toks := tk } := J.kept kept
  refine wpAny_bind (wpAny_newList ?_ (small (by omega)))
  have obj := Heap.get?_push_size hp (o := seqObj "list" got.toList.toArray 0) rfl
  refine wpAny_bind (wpAny_holding (wpAny_call_entry (s := { s with heap := hp.push (seqObj "list" got.toList.toArray 0), toks := tk }) slot_list_sort ⟨_, obj, rfl⟩ entry_list_sort (list_sort_treeKAny strKind_oneLt (s := { s with heap := hp.push (seqObj "list" got.toList.toArray 0), toks := tk }) obj txt.keysOf
    (fun _ _ _ e => keyKind_strs (by rw [← e]; exact txt)) (small (by omega)) fun st pm0 so0 => ⟨_, rfl, ?_⟩) (args_list_sort _)))
  obtain ⟨ws, so, pm, sr⟩ := sorted_out_str txt pm0 so0
  obtain ⟨e, he⟩ := sortedHeap_at (vs := got.toList) (out := (arrOf st).map (·.2)) obj
  have lw : (ws.map V.str).length ≤ sizeLine := by rw [List.length_map]; exact small (by rw [pm.length_eq]; exact few)
  refine wpAny_pure ⟨_, rfl, .ref hp.objs.size, _, J1.laid (t' := tk) (fun b o eo => ?_) (Nat.le_refl _) (o := .lst (ws.map V.str)) ⟨lw, ((arrOf st).map (·.2)).toList, e, vals_of_strs so, he⟩, rfl, fin ws _ pm sr (J1.hok.fresh (Nat.le_refl _))⟩
  have lt := Heap.lt_size eo
  have ne : b ≠ hp.objs.size := Nat.ne_of_lt lt
  have lt2 : b < (hp.push (seqObj "list" got.toList.toArray 0)).objs.size := by rw [size_push']; exact Nat.lt_succ_of_lt lt
  rw [sortedHeap_old ne lt2]
  exact Heap.get?_push_of_some _ eo
end
end Lw

set_option Elab.async false
set_option linter.all false
set_option maxRecDepth 100000
set_option maxHeartbeats 4000000
namespace Lw
open PySem PySem.Spec PyProof.Rows L2
/-! ### rows: dicts of texts, each value a text or None -/
def CellV (v : V) : Prop := v = .non ∨ ∃ z : Str, v = .str z ∧ z.length ≤ 100000
abbrev Rw := List (Str × V)
structure RwAt (H : Hp) (a : Addr) (r : Rw) : Prop where
  e : H a = some (.dK (tkD r))
  nd : (r.map (·.1)).Nodup
  few : r.length ≤ 60
  ok : ∀ p ∈ r, CellV p.2
theorem RwAt.same {H H' : Hp} {a : Addr} {r : Rw} (x : RwAt H a r) (s : Same H H') : RwAt H' a r := ⟨s _ _ x.e, x.nd, x.few, x.ok⟩
def okV : V → Bool
  | .str z => idB z
  | _ => true
def hasF (ks : List Str) (r : Rw) : Bool := decide (r.length = ks.length) && ks.all fun z => (valV (tkD r) (.inr z)).isSome
def rowOk (ks : List Str) (r : Rw) : Bool := hasF ks r && ks.all fun z => okV ((valV (tkD r) (.inr z)).getD .non)
abbrev sHasF : Stmt := topS 25
abbrev sIsValue : Stmt := topS 39
abbrev NHas : List Str := ["fields", "thing", "name"]
theorem tk_len (r : Rw) : (tkD r).length = r.length := List.length_map ..
theorem int_ne (a b : Nat) : (!decide ((V.int (a : Nat)) = (V.int (b : Nat)))) = !decide (a = b) := by
  by_cases h : a = b
  · rw [h, decide_eq_true rfl, decide_eq_true rfl]
  · rw [decide_eq_false h, decide_eq_false fun n => h (by have := V.int.inj n; omega)]
section
variable {P : Program} {w : World} {K : PySem.W.Frag} {mg : Str → Option Value} {base : Heap}
theorem scHas : FnScope NHas ["fields", "thing"] (defScope sHasF) := ⟨rfl, rfl, rfl, by decide +kernel, rfl, by decide +kernel, by decide +kernel⟩
def spHas : Sp := fun vs H Q _ => ∃ (f a : Addr) (kvs : List (Key × V)) (ks : List Str) (r : Rw), vs = [.ref f, .ref a] ∧ H f = some (.dK kvs) ∧ kvs.map (·.1) = ks.map Sum.inr ∧ ks.length < 64 ∧ RwAt H a r ∧ ∀ H', Same H H' → Q (.bl (hasF ks r)) H'
theorem ok_has {f0 : Addr} {fd : FuncData} (F : Fun K "has_fields" "has_fields" sHasF f0 fd) (mi : mg "isinstance" = none) (md : mg "dict" = none) (ml : mg "len" = none) (mall : mg "all" = none) : FnOk P w K mg base CX0 1 f0 fd ["fields", "thing"] spHas := by
  refine F.ok scHas (fun vs H Q E h => ?_) (fun cdv A outer s H vs Q E hr h => ?_)
  · obtain ⟨f, a, kvs, ks, r, rfl, _⟩ := h
    rfl
  obtain ⟨f, a, kvs, ks, r, rfl, ef, ek, few, x, q⟩ := h
  refine ⟨_, (pss_cons (ps_if (PW.pt (pw_or (pt_not (pt_val (pe_callB call_isi (by rfl) mi (by decide +kernel) (pa_cons (pv 1) (pa_cons (pe_bltn (v := .ty "dict") (by rfl) md (by decide +kernel) rfl) pa_nil))))) (pw_or1 (pt_cmpR op_ne (pe_callB call_lenD (by rfl) ml (by decide +kernel) (pa_cons (pv 1) pa_nil)) (pe_callB call_lenD (by rfl) ml (by decide +kernel) (pa_cons (pv 0) pa_nil)) (nomark _))))) (pss_one (ps_ret pe_bl)) pss_nil)
    (pss_one (ps_ret (pe_callB (cr_all rfl) (by rfl) mall (by decide +kernel) (pa_cons (pe_lock (pe_lc (own := [("name", 2)]) (g := gName 2) (tt := tYes) rfl scHas.nd (pi_keys (pv 0)) (blkOk_by (N := NHas) (sc := defScope sHasF) (by decide +kernel)) (fun _ _ _ _ _ => pg_name (i := 2) scHas.nd rfl (Or.inl rfl)) (fun _ _ _ _ _ => pts_nil) (fun _ _ _ _ _ => pe_cmp (pc_din (hu_of hr) (pv 2) (pv 1))))) pa_nil))))), ?_⟩
  have lk : kvs.length = ks.length := by
    have h := congrArg List.length ek
    rw [List.length_map, List.length_map] at h
    exact h
  refine ⟨_, rfl, _, .ty "dict", _, _, true, rfl, .ty _, .base (.dK x.e), rfl, _, rfl, ff_if rfl ?_⟩
  refine ⟨_, rfl, a, _, rfl, x.e, _, rfl, f, _, rfl, ef, rfl, _, rfl, ?_⟩
  rw [tk_len, lk, int_ne]
  by_cases hl : r.length = ks.length
  · rw [decide_eq_true hl]
    refine ff_if rfl ?_
    refine ⟨f, _, ef, trivial, fun od => ⟨_, rfl, f, od, rfl, .inl ⟨kvs, upd_same, fun D nD => ?_⟩⟩⟩
    refine lc_it walk_keys (fun i Hx => Same (upd H f (.frz od (.dK kvs))) Hx ∧ Hx D = some (.lst ((ks.take i).map fun z => V.bl (valV (tkD r) (.inr z)).isSome))) ⟨same_new nD _, upd_same⟩ (fun i Hx _ p => p.1 _ _ upd_same) ?_ ?_
    · rintro i y Hx H' hi ⟨s1, hD⟩ ⟨rfl, kk, vv, hkv, rfl⟩
      obtain ⟨z, hz, rfl⟩ : ∃ z, ks[i]? = some z ∧ kk = Sum.inr z := by
        have h1 : (kvs.map (·.1))[i]? = some kk := by rw [List.getElem?_map, hkv]; rfl
        rw [ek, List.getElem?_map] at h1
        obtain ⟨z, h1, h2⟩ := Option.map_eq_some_iff.mp h1
        exact ⟨z, h1, h2.symm⟩
      have rd : Rd H' a (.dK (tkD r)) := by
        by_cases n : a = f
        · have e2 := x.e
          rw [n, ef] at e2
          have e3 : kvs = tkD r := by injection e2 with e2; injection e2
          rw [n, ← e3]
          exact .inr ⟨od, s1 _ _ upd_same⟩
        · exact .inl (s1 _ _ (by rw [upd_ne n]; exact x.e))
      refine ⟨rfl, yes_if ⟨.str z, rfl, _, rfl, a, _, rfl, .inl ⟨tkD r, .inr z, rd, rfl, rfl⟩, _, hD, small1000 (by rw [List.length_map, List.length_take]; omega), Same.put s1 nD, ?_⟩⟩
      rw [upd_same, List.take_add_one, hz, List.map_append]
      rfl
    rintro Hx ⟨s1, hD⟩
    have sH : Same H (upd Hx f (.dK kvs)) := unlock_same ef s1
    have nDf : D ≠ f := fun n => by rw [n, s1 _ _ upd_same] at hD; cases hD
    refine ⟨s1 _ _ upd_same, D, ks.map fun z => (valV (tkD r) (.inr z)).isSome, rfl, .inl (.inl (by rw [upd_ne nDf, hD, lk, List.take_length, List.map_map]; rfl)), ?_⟩
    have e : hasF ks r = (ks.map fun z => (valV (tkD r) (.inr z)).isSome).all id := by
      unfold hasF
      rw [decide_eq_true hl, List.all_map]
      rfl
    rw [← e]
    exact q _ sH
  · rw [decide_eq_false hl]
    refine tt_if rfl ?_
    have e : hasF ks r = false := by
      unfold hasF
      rw [decide_eq_false hl]
      rfl
    rw [e] at q
    exact q H fun _ _ e => e
abbrev NVal : List Str := ["field", "thing"]
theorem scVal : FnScope NVal NVal (defScope sIsValue) := ⟨rfl, rfl, rfl, by decide +kernel, rfl, by decide +kernel, by decide +kernel⟩
def spValL : Sp := fun vs H Q _ => ∃ (t v : V) (tb : Str) (A : Addr → Prop), vs = [t, v] ∧ DT H A t (Fld.lk tb).tree ∧ CellV v ∧ ∀ H', Same H H' → Q (.bl (okV v)) H'
theorem ok_valL {f f1 : Addr} {fd fd1 : FuncData} (F : Fun K "_is_value" "_is_value" sIsValue f fd) (G : FnOk P w K mg base CX0 3 f1 fd1 ["thing"] spIsId) (n1 : Nmd K mg "is_id" f1 fd1 ["thing"]) : FnOk P w K mg base CX0 4 f fd ["field", "thing"] spValL := by
  refine F.ok scVal (fun vs H Q E h => ?_) (fun cdv A outer s H vs Q E hr h => ?_)
  · obtain ⟨t, v, tb, A, rfl, _⟩ := h
    rfl
  obtain ⟨t, v, tb, A, rfl, x, c, q⟩ := h
  refine ⟨_, (pss_cons (ps_if (pt_cmpR op_eq (pe_ix ix_tup (pv 0) pe_int (fun _ _ => rfl)) pe_str (nomark _)) (pss_one ps_never) pss_nil)
    (pss_cons (ps_if (pt_cmpR op_isN (pv 1) pe_non (nomark _)) (pss_one (ps_ret pe_bl)) pss_nil)
    (pss_cons (ps_if (pt_cmpR op_eq (pe_ix ix_tup (pv 0) pe_int (fun _ _ => rfl)) pe_str (nomark _)) (pss_one (ps_ret (pe_call G hr (by rfl) n1.m n1.k n1.b .nil pass0 (pa_cons (pv 1) pa_nil)))) pss_nil)
    (pss_one ps_never)))), ?_⟩
  obtain ⟨a, xs, rfl, e, _⟩ := fld_sort x
  refine ⟨_, rfl, a, _, 0, .str "link", rfl, rfl, .inl (.inl e), atI_nat (j := 0) rfl, rfl, _, rfl, ff_if (by show decide (V.str "link" = V.str "mark") = false; decide +kernel) ?_⟩
  rcases c with rfl | ⟨z, rfl, hz⟩
  · exact ⟨_, rfl, rfl, _, rfl, tt_if (by show decide (V.non = V.non) = true; decide) (q H fun _ _ e => e)⟩
  · refine ⟨_, rfl, rfl, _, rfl, ff_if (decide_eq_false fun n => nomatch n) ?_⟩
    exact ⟨_, rfl, a, _, 0, .str "link", rfl, rfl, .inl (.inl e), atI_nat (j := 0) rfl, rfl, _, rfl, tt_if (by show decide (V.str "link" = V.str "link") = true; decide +kernel) ⟨_, rfl, z, rfl, hz, q⟩⟩
end
end Lw

set_option Elab.async false
set_option linter.all false
set_option maxRecDepth 100000
set_option maxHeartbeats 4000000
namespace Lw
open PySem PySem.Spec PyProof.Rows L2
/-! ### Schema.is_row, where every field leads to a table -/
def LinkF (fs : Flds) : Prop := ∀ p ∈ fs, ∃ t, p.2 = Fld.lk t
abbrev sMRow : Stmt := sMeth 14
abbrev NMRow : List Str := ["self", "table", "thing", "fields", "name"]
theorem rd_lock {H Hx : Hp} {a f : Addr} {kvs r : List (Key × V)} {od : Obj} (ef : H f = some (.dK kvs)) (ea : H a = some (.dK r)) (s : Same (upd H f (.frz od (.dK kvs))) Hx) : Rd Hx a (.dK r) := by
  by_cases n : a = f
  · rw [n, ef] at ea
    have e3 : kvs = r := by injection ea with e2; injection e2
    rw [n, ← e3]
    exact .inr ⟨od, s _ _ upd_same⟩
  · exact .inl (s _ _ (by rw [upd_ne n]; exact ea))
section
variable {P : Program} {w : World} {K : PySem.W.Frag} {mg : Str → Option Value} {base : Heap} {C : Addr}
theorem scMRow : FnScope NMRow ["self", "table", "thing"] (C8.fnScope sMRow) := ⟨rfl, rfl, rfl, by decide +kernel, rfl, by decide +kernel, by decide +kernel⟩
def spMRow (C : Addr) : Sp := fun vs H Q _ => ∃ (s a : Addr) (tabs : Tabs) (rs : List Rul) (z : Str) (fs : Flds) (r : Rw) (A : Addr → Prop), vs = [.ref s, .str z, .ref a] ∧ SchAt C H A s tabs rs ∧ TabsOk tabs ∧ (z, fs) ∈ tabs ∧ LinkF fs ∧ RwAt H a r ∧
  ∀ H', Same H H' → Q (.bl (rowOk (sortT (fs.map (·.1))) r)) H'
theorem ok_mrow {f f1 f2 : Addr} {fd fd1 fd2 : FuncData} (c : InitCls K C) (me : Meth K C "is_row" f) (F : C8.Fun K "is_row" "Schema.is_row" sMRow f fd) (b : Binds K fd ["self", "table", "thing"] [])
    (G1 : FnOk P w K mg base CX0 1 f1 fd1 ["fields", "thing"] spHas) (n1 : Nmd K mg "has_fields" f1 fd1 ["fields", "thing"])
    (G2 : FnOk P w K mg base CX0 4 f2 fd2 ["field", "thing"] spValL) (n2 : Nmd K mg "_is_value" f2 fd2 ["field", "thing"]) (mall : mg "all" = none) : C8.Met P w K mg base 5 C "is_row" (spMRow C) [] := by
  refine C8.met0 c.cls me F b scMRow (fun vs H Q E h => ?_) (fun cdv A0 outer s0 H vs Q E hr h => ?_)
  · obtain ⟨s, a, tabs, rs, z, fs, r, A, rfl, _⟩ := h
    rfl
  obtain ⟨s, a, tabs, rs, z, fs, r, A, rfl, x, ok, m, lk, xr, q⟩ := h
  refine ⟨_, (pss_cons (ps_set (i := 3) scMRow.nd rfl (by first | exact .inl rfl | exact .inr rfl) (pe_dget (hu_of hr) (pe_fld (pv 0) (by rfl)) (pv 1) (fun _ _ => rfl)))
    (pss_one (ps_ret (pe_and (pe_call G1 (hr.mono (by decide)) (by rfl) n1.m n1.k n1.b .nil pass0 (pa_cons (pv 3) (pa_cons (pv 2) pa_nil))) (pe_one (pe_callB (cr_all rfl) (by rfl) mall (by decide +kernel) (pa_cons (pe_lock (pe_lc (own := [("name", 4)]) (g := gName 4) (tt := tYes) rfl scMRow.nd (pi_keys (pv 3)) (blkOk_by (N := NMRow) (sc := C8.fnScope sMRow) (by decide +kernel)) (fun _ _ _ _ _ => pg_name (i := 4) scMRow.nd rfl (Or.inl rfl)) (fun _ _ _ _ _ => pts_nil)
      (fun _ _ _ _ _ => pe_call G2 hr (by rfl) n2.m n2.k n2.b .nil pass0 (pa_cons (pe_dget (hu_of hr) (pv 3) (pv 4) (fun _ _ => rfl)) (pa_cons (pe_dget (hu_of hr) (pv 2) (pv 4) (fun _ _ => rfl)) pa_nil))))) pa_nil))))))), ?_⟩
  obtain ⟨dx, dT, dR, e, d1, d2⟩ := sch_fields x
  obtain ⟨g, dg, d3⟩ := sch_tab d1 ok.nd m
  obtain ⟨_, kvs, e1, ef, nf, ek, nd, few, dd⟩ := d3.dctI
  cases e1
  rw [ordF_keys] at ek nd few
  obtain ⟨ks, eks⟩ : ∃ ks, ks = sortT (fs.map (·.1)) := ⟨_, rfl⟩
  rw [← eks] at ek nd few q
  have ltk : kvs.length = ks.length := by
    have h := congrArg List.length ek
    rw [List.length_map, List.length_map] at h
    exact h
  have dA : DTs H (fun c => A c ∧ c ≠ g) (kvs.map (·.2)) ((ordF fs).map (·.2.tree)) := DTs.avoid d3 dd (Nat.lt_succ_self _)
  refine ⟨_, rfl, s, C, dx, _, .ref dT, rfl, e, c.cls, c.n1, rfl, .str z, rfl, dT, .ref g, rfl, dg, ?_⟩
  refine ⟨_, rfl, _, rfl, g, a, kvs, ks, r, rfl, ef, ek, few, xr, fun H1 s1 => ⟨_, rfl, ?_⟩⟩
  cases hf : hasF ks r with
  | false =>
    refine ff_if rfl ?_
    have e : rowOk ks r = false := by unfold rowOk; rw [hf]; rfl
    rw [e] at q
    exact q H1 s1
  | true =>
    refine tt_if rfl ?_
    have ef1 := s1 _ _ ef
    refine ⟨g, _, ef1, trivial, fun od => ⟨_, rfl, g, od, rfl, .inl ⟨kvs, upd_same, fun D nD => ?_⟩⟩⟩
    refine lc_it walk_keys (fun i Hx => Same (upd H1 g (.frz od (.dK kvs))) Hx ∧ Hx D = some (.lst ((ks.take i).map fun z => V.bl (okV ((valV (tkD r) (.inr z)).getD .non))))) ⟨same_new nD _, upd_same⟩ (fun i Hx _ p => p.1 _ _ upd_same) ?_ ?_
    · rintro i y Hx H' hi ⟨s2, hD⟩ ⟨rfl, kk, vv, hkv, rfl⟩
      have hk2 : (kvs.map (·.1))[i]? = some kk := by rw [List.getElem?_map, hkv]; rfl
      obtain ⟨y, t, h1, h2, rfl, h4, h5⟩ := DT.turn ek nd dA hkv
      have hy : ks[i]? = some y := h1
      have ym : y ∈ fs.map (·.1) := by
        have h6 := List.mem_of_getElem? hy
        rw [eks] at h6
        exact sortT_mem.mp h6
      have ht : ∃ tb, t = (Fld.lk tb).tree := by
        have h7 := List.mem_of_getElem? h2
        obtain ⟨p, hp, rfl⟩ := List.mem_map.mp h7
        unfold ordF at hp
        obtain ⟨y2, hy2, rfl⟩ := List.mem_map.mp hp
        have m2 := sortT_mem.mp hy2
        obtain ⟨fl, e2, mm⟩ := fldAt_mem m2
        obtain ⟨tb, e3⟩ := lk _ mm
        have e4 : atF fs y2 = fl := by unfold atF; rw [e2]; rfl
        refine ⟨tb, ?_⟩
        show (ordFld (atF fs y2)).tree = _
        rw [e4]
        have e5 : fl = Fld.lk tb := e3
        rw [e5]
        rfl
      obtain ⟨tb, rfl⟩ := ht
      have there : (valV (tkD r) (.inr y)).isSome = true := by
        unfold hasF at hf
        rw [Bool.and_eq_true, List.all_eq_true] at hf
        exact hf.2 y (List.mem_of_getElem? hy)
      obtain ⟨v, ev⟩ := Option.isSome_iff_exists.mp there
      have cv : CellV v := by
        unfold valV at ev
        obtain ⟨p, hp, rfl⟩ := Option.map_eq_some_iff.mp ev
        have mp := List.mem_of_find?_eq_some hp
        obtain ⟨p0, hp0, rfl⟩ := List.mem_map.mp mp
        exact xr.ok p0 hp0
      have rdg : Rd H' g (.dK kvs) := .inr ⟨od, s2 _ _ upd_same⟩
      have rda : Rd H' a (.dK (tkD r)) := rd_lock ef1 (s1 _ _ xr.e) s2
      refine ⟨rfl, yes_if ⟨_, rfl, .str y, rfl, g, vv, rfl, .inl ⟨kvs, .inr y, rdg, rfl, h4.symm⟩, _, rfl, .str y, rfl, a, v, rfl, .inl ⟨tkD r, .inr y, rda, rfl, ev.symm⟩, ?_⟩⟩
      refine ⟨vv, v, tb, _, rfl, h5.mono fun c u hc eu => s2 _ _ (by rw [upd_ne hc.2]; exact s1 _ _ eu), cv, fun H3 s3 => ?_⟩
      refine ⟨_, s3 _ _ hD, small1000 (by rw [List.length_map, List.length_take]; omega), Same.put (s2.trans s3) nD, ?_⟩
      rw [upd_same, List.take_add_one, hy, List.map_append]
      show _ = some (HO.lst (_ ++ [V.bl (okV ((valV (tkD r) (Sum.inr y)).getD V.non))]))
      rw [ev]
      rfl
    rintro Hx ⟨s2, hD⟩
    have sH : Same H1 (upd Hx g (.dK kvs)) := unlock_same ef1 s2
    have nDf : D ≠ g := fun n => by rw [n, s2 _ _ upd_same] at hD; cases hD
    refine ⟨s2 _ _ upd_same, D, ks.map fun z => okV ((valV (tkD r) (.inr z)).getD .non), rfl, .inl (.inl (by rw [upd_ne nDf, hD, ltk, List.take_length, List.map_map]; rfl)), ?_⟩
    have e : rowOk ks r = (ks.map fun z => okV ((valV (tkD r) (.inr z)).getD .non)).all id := by
      unfold rowOk
      rw [hf, List.all_map]
      rfl
    rw [← e]
    exact q _ (s1.trans sH)
end
end Lw

set_option Elab.async false
set_option linter.all false
set_option maxRecDepth 100000
set_option maxHeartbeats 4000000
/-! dicts of texts and what their values stand for, held together -/
namespace Lw
open PySem PySem.Spec PyProof.Rows L2
section
variable {α β : Type}
def findS (l : List (Str × α)) (z : Str) : Option α := (l.find? fun p => decide (p.1 = z)).map (·.2)
def putS (l : List (Str × α)) (z : Str) (v : α) : List (Str × α) := if (l.any fun p => decide (p.1 = z)) = true then l.map (fun p => if p.1 = z then (p.1, v) else p) else l ++ [(z, v)]
def dropS (l : List (Str × α)) (z : Str) : List (Str × α) := l.filter fun p => decide (p.1 ≠ z)
theorem findS_pos {p : Str × α} {r : List (Str × α)} {z : Str} (e : p.1 = z) : findS (p :: r) z = some p.2 := by simp [findS, List.find?_cons, e]
theorem findS_neg {p : Str × α} {r : List (Str × α)} {z : Str} (e : ¬ p.1 = z) : findS (p :: r) z = findS r z := by simp [findS, List.find?_cons, e]
theorem findS_some {l : List (Str × α)} {z : Str} {v : α} (h : findS l z = some v) : (z, v) ∈ l := by
  unfold findS at h
  obtain ⟨p, hp, rfl⟩ := Option.map_eq_some_iff.mp h
  have m := List.mem_of_find?_eq_some hp
  have e := List.find?_some hp
  have e2 : p.1 = z := of_decide_eq_true e
  rw [← e2]
  exact m
theorem findS_none {l : List (Str × α)} {z : Str} : findS l z = none ↔ z ∉ l.map (·.1) := by
  induction l with
  | nil => simp [findS]
  | cons p r ih =>
    by_cases e : p.1 = z
    · rw [findS_pos e]
      simp [e]
    · rw [findS_neg e, ih, List.map_cons, List.mem_cons, not_or]
      exact ⟨fun h => ⟨fun n => e n.symm, h⟩, fun h => h.2⟩
theorem findS_mem {l : List (Str × α)} {z : Str} (m : z ∈ l.map (·.1)) : ∃ v, findS l z = some v := by
  cases h : findS l z with
  | some v => exact ⟨v, rfl⟩
  | none => exact absurd m (findS_none.mp h)
theorem findS_of {l : List (Str × α)} {z : Str} {v : α} (nd : (l.map (·.1)).Nodup) (m : (z, v) ∈ l) : findS l z = some v := by
  induction l with
  | nil => cases m
  | cons p r ih =>
    obtain ⟨n1, n2⟩ := List.nodup_cons.mp (by simpa using nd : (p.1 :: r.map (·.1)).Nodup)
    rcases List.mem_cons.mp m with e | m
    · rw [findS_pos (by rw [← e]), ← e]
    · rw [findS_neg (fun e => n1 (by rw [e]; exact List.mem_map_of_mem (f := (·.1)) m))]
      exact ih n2 m
theorem any_iff {l : List (Str × α)} {z : Str} : (l.any fun p => decide (p.1 = z)) = true ↔ z ∈ l.map (·.1) := by
  rw [List.any_eq_true, List.mem_map]
  exact ⟨fun ⟨p, hp, e⟩ => ⟨p, hp, of_decide_eq_true e⟩, fun ⟨p, hp, e⟩ => ⟨p, hp, decide_eq_true e⟩⟩
theorem putS_in {l : List (Str × α)} {z : Str} {v : α} (m : z ∈ l.map (·.1)) : (putS l z v).map (·.1) = l.map (·.1) := by
  unfold putS
  rw [if_pos (any_iff.mpr m), List.map_map]
  refine List.map_congr_left fun p _ => ?_
  show (if p.1 = z then (p.1, v) else p).1 = p.1
  split <;> rfl
theorem putS_out {l : List (Str × α)} {z : Str} {v : α} (m : z ∉ l.map (·.1)) : putS l z v = l ++ [(z, v)] := by
  unfold putS
  rw [if_neg fun h => m (any_iff.mp h)]
theorem find_app (l m : List (Str × α)) (j : Str) : findS (l ++ m) j = (findS l j).or (findS m j) := by
  unfold findS
  rw [List.find?_append]
  cases l.find? fun p => decide (p.1 = j) <;> rfl
theorem findS_put (l : List (Str × α)) (z j : Str) (v : α) : findS (putS l z v) j = if j = z then some v else findS l j := by
  by_cases m : z ∈ l.map (·.1)
  · have e : putS l z v = l.map (fun p => if p.1 = z then (p.1, v) else p) := by
      unfold putS
      rw [if_pos (any_iff.mpr m)]
    rw [e]
    have go : ∀ l : List (Str × α), findS (l.map (fun p => if p.1 = z then (p.1, v) else p)) j = if j = z then (findS l j).map (fun _ => v) else findS l j := by
      intro l
      induction l with
      | nil => by_cases q : j = z <;> simp [findS, q]
      | cons p r ih =>
        rw [List.map_cons]
        by_cases q : j = z
        · subst q
          rw [if_pos rfl] at ih ⊢
          by_cases e : p.1 = j
          · rw [findS_pos (by rw [if_pos e]; exact e), findS_pos e, if_pos e]
            rfl
          · rw [findS_neg (by rw [if_neg e]; exact e), findS_neg e, ih]
        · rw [if_neg q] at ih ⊢
          by_cases e : p.1 = j
          · have ne : ¬ p.1 = z := fun n => q (by rw [← e, n])
            rw [findS_pos (by rw [if_neg ne]; exact e), findS_pos e, if_neg ne]
          · rw [findS_neg (by split <;> exact e), findS_neg e, ih]
    rw [go]
    by_cases q : j = z
    · rw [if_pos q, if_pos q, q]
      obtain ⟨u, hu⟩ := findS_mem m
      rw [hu]
      rfl
    · rw [if_neg q, if_neg q]
  · rw [putS_out m, find_app]
    by_cases q : j = z
    · rw [if_pos q, q, findS_none.mpr m]
      exact findS_pos rfl
    · rw [if_neg q]
      have e : findS [(z, v)] j = none := by
        rw [findS_neg (fun n => q n.symm)]
        rfl
      rw [e]
      cases findS l j <;> rfl
theorem dropS_keys (l : List (Str × α)) (z : Str) : (dropS l z).map (·.1) = (l.map (·.1)).filter fun x => decide (x ≠ z) := by
  unfold dropS
  rw [List.filter_map]
  rfl
theorem findS_drop (l : List (Str × α)) (z j : Str) (n : j ≠ z) : findS (dropS l z) j = findS l j := by
  induction l with
  | nil => rfl
  | cons p r ih =>
    unfold dropS at ih ⊢
    by_cases q : p.1 = z
    · rw [List.filter_cons_of_neg (by rw [decide_eq_true_eq]; exact fun h => h q), ih, findS_neg fun e => n (by rw [← e, q])]
    · rw [List.filter_cons_of_pos (by exact decide_eq_true q)]
      by_cases e : p.1 = j
      · rw [findS_pos e, findS_pos e]
      · rw [findS_neg e, findS_neg e, ih]
end
/-! ### as dicts of the heap -/
theorem tk_find (xs : List (Str × V)) (z : Str) : valV (tkD xs) (.inr z) = findS xs z := by
  induction xs with
  | nil => rfl
  | cons p r ih =>
    by_cases e : p.1 = z
    · rw [findS_pos e]
      exact valV_pos (p := ((Sum.inr p.1 : Key), p.2)) (by rw [e])
    · rw [findS_neg e, ← ih]
      exact valV_neg (p := ((Sum.inr p.1 : Key), p.2)) fun n => e (Sum.inr.inj n)
theorem tk_any (xs : List (Str × V)) (z : Str) : ((tkD xs).any fun kv => decide (kv.1 = (Sum.inr z : Key))) = xs.any fun p => decide (p.1 = z) := by
  induction xs with
  | nil => rfl
  | cons p r ih =>
    show (decide ((Sum.inr p.1 : Key) = Sum.inr z) || (tkD r).any _) = (decide (p.1 = z) || r.any _)
    rw [ih]
    congr 1
    by_cases e : p.1 = z
    · rw [decide_eq_true e, decide_eq_true (by rw [e])]
    · rw [decide_eq_false e, decide_eq_false fun n => e (Sum.inr.inj n)]
theorem tk_putS (xs : List (Str × V)) (z : Str) (v : V) : putK (tkD xs) (.inr z) v = tkD (putS xs z v) := by
  unfold putK putS
  rw [tk_any]
  split
  · unfold tkD
    rw [List.map_map, List.map_map]
    refine List.map_congr_left fun p _ => ?_
    show (if (Sum.inr p.1 : Key) = Sum.inr z then _ else _) = _
    by_cases e : p.1 = z
    · rw [if_pos (by rw [e])]
      show _ = ((Sum.inr (if p.1 = z then (p.1, v) else p).1 : Key), (if p.1 = z then (p.1, v) else p).2)
      rw [if_pos e]
    · rw [if_neg fun n => e (Sum.inr.inj n)]
      show _ = ((Sum.inr (if p.1 = z then (p.1, v) else p).1 : Key), (if p.1 = z then (p.1, v) else p).2)
      rw [if_neg e]
  · unfold tkD
    rw [List.map_append]
    rfl
theorem tk_dropS (xs : List (Str × V)) (z : Str) : dropK (tkD xs) (.inr z) = tkD (dropS xs z) := by
  unfold dropK dropS tkD
  rw [List.filter_map]
  congr 1
  refine List.filter_congr fun p _ => ?_
  by_cases e : p.1 = z
  · simp [e]
  · simp [e]
theorem merge_app : ∀ (more kvs : List (Key × V)), (more.map (·.1)).Nodup → (∀ k ∈ more.map (·.1), k ∉ kvs.map (·.1)) → mergeK kvs more = kvs ++ more
  | [], kvs, _, _ => (List.append_nil _).symm
  | p :: r, kvs, nd, dj => by
    obtain ⟨n1, n2⟩ := List.nodup_cons.mp (by simpa using nd : (p.1 :: r.map (·.1)).Nodup)
    show mergeK (putK kvs p.1 p.2) r = _
    have e : putK kvs p.1 p.2 = kvs ++ [p] := L2.putK_new _ (valV_no (dj p.1 List.mem_cons_self))
    rw [e, merge_app r (kvs ++ [p]) n2 (fun k hk h => ?_), List.append_assoc]
    · rfl
    · rw [List.map_append, List.mem_append] at h
      rcases h with h | h
      · exact dj k (List.mem_cons_of_mem _ hk) h
      · rw [List.map_cons, List.map_nil, List.mem_singleton] at h
        exact n1 (h ▸ hk)
section
variable {α β : Type} {R R' : α → β → Prop}
/-- one beside the other, by the same names -/
inductive PrS (R : α → β → Prop) : List (Str × α) → List (Str × β) → Prop
  | nil : PrS R [] []
  | cons {z : Str} {x : α} {y : β} {xs : List (Str × α)} {ys : List (Str × β)} (h : R x y) (t : PrS R xs ys) : PrS R ((z, x) :: xs) ((z, y) :: ys)
theorem PrS.mono (m : ∀ x y, R x y → R' x y) {xs : List (Str × α)} {ys : List (Str × β)} (h : PrS R xs ys) : PrS R' xs ys := by
  induction h with
  | nil => exact .nil
  | cons a _ ih => exact .cons (m _ _ a) ih
theorem PrS.keys {xs : List (Str × α)} {ys : List (Str × β)} (h : PrS R xs ys) : xs.map (·.1) = ys.map (·.1) := by
  induction h with
  | nil => rfl
  | cons a _ ih => rw [List.map_cons, List.map_cons, ih]
theorem PrS.len {xs : List (Str × α)} {ys : List (Str × β)} (h : PrS R xs ys) : xs.length = ys.length := by
  have e := congrArg List.length h.keys
  rw [List.length_map, List.length_map] at e
  exact e
theorem PrS.find {xs : List (Str × α)} {ys : List (Str × β)} (h : PrS R xs ys) (z : Str) : (findS ys z = none ∧ findS xs z = none) ∨ ∃ x y, findS xs z = some x ∧ findS ys z = some y ∧ R x y := by
  induction h with
  | nil => exact .inl ⟨rfl, rfl⟩
  | @cons j x y xs ys a _ ih =>
    by_cases e : j = z
    · exact .inr ⟨x, y, findS_pos e, findS_pos e, a⟩
    · rw [findS_neg (p := (j, x)) e, findS_neg (p := (j, y)) e]
      exact ih
theorem PrS.app {xs xs2 : List (Str × α)} {ys ys2 : List (Str × β)} (h : PrS R xs ys) (g : PrS R xs2 ys2) : PrS R (xs ++ xs2) (ys ++ ys2) := by
  induction h with
  | nil => exact g
  | cons a _ ih => exact .cons a ih
theorem PrS.put {xs : List (Str × α)} {ys : List (Str × β)} (h : PrS R xs ys) (z : Str) {x : α} {y : β} (r : R x y) : PrS R (putS xs z x) (putS ys z y) := by
  unfold putS
  have e : (xs.any fun p => decide (p.1 = z)) = ys.any fun p => decide (p.1 = z) := by
    rw [Bool.eq_iff_iff, any_iff, any_iff, h.keys]
  rw [e]
  split
  · clear e
    rename_i hh
    clear hh
    induction h with
    | nil => exact .nil
    | @cons j x0 y0 xs ys a _ ih =>
      rw [List.map_cons, List.map_cons]
      by_cases q : j = z
      · rw [if_pos q, if_pos q]
        exact .cons r ih
      · rw [if_neg q, if_neg q]
        exact .cons a ih
  · exact h.app (.cons r .nil)
theorem PrS.drop {xs : List (Str × α)} {ys : List (Str × β)} (h : PrS R xs ys) (z : Str) : PrS R (dropS xs z) (dropS ys z) := by
  unfold dropS
  induction h with
  | nil => exact .nil
  | @cons j x y xs ys a _ ih =>
    by_cases q : j = z
    · rw [List.filter_cons_of_neg (by rw [decide_eq_true_eq]; exact fun h => h q), List.filter_cons_of_neg (by rw [decide_eq_true_eq]; exact fun h => h q)]
      exact ih
    · rw [List.filter_cons_of_pos (by exact decide_eq_true q), List.filter_cons_of_pos (by exact decide_eq_true q)]
      exact .cons a ih
end
end Lw

set_option Elab.async false
set_option linter.all false
set_option maxRecDepth 100000
set_option maxHeartbeats 4000000
namespace Lw
open PySem PySem.Spec PySem.W PySem.Calls PyProof.Rows L2
/-! ### own errors made (the kept context is None) -/
theorem made_bare {X : Cx} {pl : List (Addr × Obj)} {σ : L2.St} {Ha Hb : Hp} {Q : XK} {ha hm hb : Heap} {ga gb : Array GenState} {da db : Drawn} {ta tb : Nat} {osa osb : OsState} {x C : Addr} (rs : Raises X (.ref C)) (J : Inv X pl σ Ha ⟨ha, ga, da, ta, osa⟩)
    (new : ha.objs.size ≤ x) (kept : ∀ b o, ha.get? b = some o → hm.get? b = some o) (U : Un (frs X.stack) [] (upd Ha x (exo x C none)) Hb hm hb) (ok : HOk X.prog X.w Hb hb) (os : osb = osa) (bare : AllBare gb)
    (ex : Hb x = some (exo x C none)) (q : Q (.ref C) none (del Hb x)) : L2N.MkP X pl σ Q (.ref x) ⟨hb, gb, db, tb, osb⟩ := by
  obtain ⟨tp, obj⟩ := exo_at ok ex
  have Hx : Ha x = none := J.hok.fresh new
  obtain ⟨G, G1, G2⟩ := restrict hb fun b => decide (b ≠ x)
  have Gk : ∀ b, b ≠ x → G.get? b = hb.get? b := fun b n => G1 b (decide_eq_true n)
  have Gx : G.get? x = none := G2 x (by simp)
  have old : ∀ {b : Addr} {o : Obj}, ha.get? b = some o → b ≠ x := fun e => Nat.ne_of_lt (Nat.lt_of_lt_of_le (Heap.lt_size e) new)
  have at1 : ∀ {b : Addr}, b ≠ x → Ha b = none → upd Ha x (exo x C none) b = none := fun n e => (upd_ne n).trans e
  have dn : ∀ {b : Addr}, b ≠ x → del Hb x b = Hb b := fun n => del_ne n
  have U' : Un (frs X.stack) [] Ha (del Hb x) ha G := by
    constructor
    case keep => exact fun b o e n f x => (Gk b (old e)).trans (U.keep b o (kept b o e) (at1 (old e) n) f x)
    case slot => exact fun b o e n f x => (U.slot b o (kept b o e) (at1 (old e) n) f x).imp fun _ z => (Gk b (old e)).trans z
    case free => exact fun b o e n x => (dn (old e)).trans (U.free b o (kept b o e) (at1 (old e) n) x)
    case there => exact fun b o e x => (U.there b o (kept b o e) x).imp fun _ z => (Gk b (old e)).trans z
    case tups => exact fun b xs e => (dn (ne_of_none e Hx)).trans (U.tups b xs ((upd_ne (ne_of_none e Hx)).trans e))
    case frzs => exact fun b o v e => (dn (ne_of_none e Hx)).trans (U.frzs b o v ((upd_ne (ne_of_none e Hx)).trans e))
    case tbls => exact fun b ps e => (U.tbls b ps ((upd_ne (ne_of_none e Hx)).trans e)).imp fun _ z => (dn (ne_of_none e Hx)).trans z
  have ok' : HOk X.prog X.w (del Hb x) G := by
    intro b o e
    have n : b ≠ x := fun z => by rw [z, del_same] at e; cases e
    have nx : ∀ {c : Addr}, Hb c = some (.own b) → c ≠ x := fun e => at_ne ex e exo_own
    refine (ok b o (by rwa [dn n] at e)).stay (fun c v hc y => ?_) (fun c e => (dn (nx e)).trans e) (fun c xs e => (dn (at_ne ex e exo_tup)).trans e)
    have nc : c ≠ x := hc.elim (fun z => z ▸ n) nx
    exact (Gk c nc).trans y
  have J' : Inv X pl σ (del Hb x) ⟨G, gb, db, tb, osb⟩ := J.call' (ch := []) os U' ok' bare (fun b z => absurd z (by simp))
  refine ⟨x, _, _, ⟨G, gb, db, tb, osb⟩, _, .ref C, none, rfl, J', fun b o e => ?_, Gx, obj, ⟨rfl, rfl, fun vs hv => ?_⟩, rfl, rfl, del_same, rfl, bare, rs, q⟩
  · have n : b ≠ x := fun z => by rw [z, Gx] at e; cases e
    exact (Gk b n).symm.trans e
  · cases hv
    rfl
/-- C(), C's own __init__ keeping sp and storing nothing -/
def tMkN (C : Addr) (sp : Sp) : L2.St → Hp → XK → Prop := fun σ H Q => ∀ a, H a = none → sp [.ref a] (upd H a (exo a C none)) (fun v H2 => v = .non ∧ H2 a = some (exo a C none) ∧ Q (.ref C) none (del H2 a)) (fun _ _ _ => False)
section
variable {X : Cx} {p pos : Pos} {x : Str} {C fI : Addr} {k : Nat} {fd : FuncData} {ps : List Str} {sp : Sp} {e : Expr} {es : List Expr} {ta : TA}
/-- the call of a class by its values -/
theorem make_run {pl : List (Addr × Obj)} {σ : L2.St} {H : Hp} {s : Shared} {us : List Value} {vs : List V} {Q : Addr → VK} {R : Value → Shared → Prop} (T : OexC X.K C) (iC : PySem.W.findIn X.K (.ref C) "__init__" = some (some (.ref fI))) (tI : PySem.W.typeIn X.K (.ref fI) = some (.type "function"))
    (Fi : FnOk X.prog X.w X.K X.mg X.base CX0 k fI fd ps sp) (room : Room (k + 1) X.A) (bi : Binds X.K fd ps []) (J : Inv X pl σ H s) (rv : Vals vs us) (few : vs.length ≤ 1000)
    (want : ∀ x0, H x0 = none → sp (.ref x0 :: vs) (upd H x0 (exo x0 C none)) (Q x0) (fun _ _ _ => False))
    (back : ∀ (x0 : Addr) (hm : Heap) (v : V) (u : Value) (H2 : Hp) (s2 : Shared), s.heap.objs.size ≤ x0 → (∀ b o, s.heap.get? b = some o → hm.get? b = some o) → s2.os = s.os → AllBare s2.gens → Un (frs X.stack) [] (upd H x0 (exo x0 C none)) H2 hm s2.heap →
      HOk X.prog X.w H2 s2.heap → RelV v u → H x0 = none → sp (.ref x0 :: vs) (upd H x0 (exo x0 C none)) (Q x0) (fun _ _ _ => False) → Q x0 v H2 → u = .none ∧ R (.ref x0) s2) : wpAny (model X.prog X.w) X.A (call (.ref C) us) R X.xe s := by
  obtain ⟨nm, qn, N, bs, mro, sn, sub, ab, col, dd, k0, k1, k2, k3, k5, cls, bmro⟩ := T.cls
  obtain ⟨h0, g0, d0, t0, o0⟩ := s
  have size : h0.objs.size ≤ h0.objs.size + 1 := Nat.le_succ _
  have fresh : H (h0.objs.size + 1) = none := J.hok.fresh size
  have asked := want _ fresh
  have keep2 : ∀ b o, h0.get? b = some o → ((h0.push (PySem.W.kdv_tup us)).push (PySem.HandSPX.excO C h0.objs.size)).get? b = some o := fun b o e => Heap.get?_push_of_some _ (Heap.get?_push_of_some _ e)
  have there : ((h0.push (PySem.W.kdv_tup us)).push (PySem.HandSPX.excO C h0.objs.size)).get? (h0.objs.size + 1) = some (PySem.HandSPX.excO C h0.objs.size) := by heap_get
  have J2 : Inv X pl σ (upd H (h0.objs.size + 1) (exo (h0.objs.size + 1) C none)) ⟨(h0.push (PySem.W.kdv_tup us)).push (PySem.HandSPX.excO C h0.objs.size), g0, d0, t0, o0⟩ :=
    J.laid (t' := t0) (a := h0.objs.size + 1) (o := exo (h0.objs.size + 1) C none) (h' := (h0.push (PySem.W.kdv_tup us)).push (PySem.HandSPX.excO C h0.objs.size)) keep2 size (exo_ok there)
  have rv2 : Vals (V.ref (h0.objs.size + 1) :: vs) (Value.ref (h0.objs.size + 1) :: us) := .cons rfl rv
  have len : (Value.ref (h0.objs.size + 1) :: us).length = ps.length := rv2.length.symm.trans (Fi.len _ _ _ _ asked)
  have bnd := bi ⟨(h0.push (PySem.W.kdv_tup us)).push (PySem.HandSPX.excO C h0.objs.size), g0, d0, t0, o0⟩ (Value.ref (h0.objs.size + 1) :: us) J2.kIn (by rw [List.append_nil]; exact len)
  rw [List.append_nil] at bnd
  have line : us.length ≤ sizeLine := by
    have e := Paired.length rv
    have l := sizeLine_eq
    omega
  have body := Fi.run _ X.stack _ _ ⟨Value.ref (h0.objs.size + 1) :: us, []⟩ _ _ _ (fun _ _ _ => False) (room.make C us []) (J2.env0.make C us []) bnd rv2 asked
  refine wpAny_call (PySem.HandSPX.call_own F.excBase_ValueError (fun Y => PySem.HandSPX.refsVE_contains Y mro bmro) (J.kIn _ _ cls) (PySem.W.looks_findIn J.kIn iC) (fun self => PySem.W.bind_fn J.kIn self tI) line (codeAny_mono body fun res s2 out => ?_))
  cases res with
  | error er => exact out.elim
  | ok fl =>
    cases fl with
    | ret u =>
      obtain ⟨v, H2, q1, q2, q3, q4, q5, q6⟩ := out
      exact back _ _ v u H2 s2 size keep2 q1 q2 q3 q4 q5 fresh asked q6
    | next => exact out.elim
    | brk => exact out.elim
    | cont => exact out.elim
/-- what C(..) leaves -/
def madeK (C : Addr) (Q : XK) : Addr → VK := fun a v H2 => v = .non ∧ H2 a = some (exo a C none) ∧ Q (.ref C) none (del H2 a)
def madeF (C : Addr) (H1 : Hp) (Q : XK) : Addr → VK := fun a v H2 => v = .non ∧ ∃ (d : Addr) (fs : List (Str × V)), H2 a = some (exo a C (some d)) ∧ H2 d = some (exd d fs) ∧ H1 d = none ∧ Q (.ref C) (some d) (upd (del H2 a) d (.xd fs))
theorem pmk_oexN (T : OexC X.K C) (iC : PySem.W.findIn X.K (.ref C) "__init__" = some (some (.ref fI))) (tI : PySem.W.typeIn X.K (.ref fI) = some (.type "function"))
    (Fi : FnOk X.prog X.w X.K X.mg X.base CX0 k fI fd ps sp) (room : Room (k + 1) X.A) (bi : Binds X.K fd ps []) (hg : Gl X x) (hm : X.mg x = some (.ref C)) (nodbg : (x == ("__debug__" : Str)) = false := by decide) :
    L2N.PMk X (.Call (.Name x p) [] [] pos) (tMkN C sp) := by
  intro pl s σ H Q J want
  refine wpAny_Call_Name_kw (ld_glob J hg hm (PySem.W.callWith_K0 J.kIn T.kC ?_) nodbg)
  refine make_run (us := []) (vs := []) (Q := madeK C Q) T iC tI Fi room bi J .nil (Nat.zero_le _) (fun x0 n => want x0 n) fun x0 hm v u H2 s2 q1 q2 q3 q4 q5 q6 q7 q8 _ q9 => ?_
  obtain ⟨rfl, qa, qb⟩ := q9
  obtain ⟨h2, g2, d2, t2, o2⟩ := s2
  obtain ⟨h1, g1, d1, t1, o1⟩ := s
  exact ⟨q7, made_bare (raises_own T.exC T.tyC) J q1 q2 q5 q6 q3 q4 qa qb⟩
/-- C(e, ..), C's own __init__ storing fields -/
def tMkA (C : Addr) (sp : Sp) (ta : TA) : L2.St → Hp → XK → Prop := fun σ H Q => ta σ H fun vs H1 => vs.length ≤ 1000 ∧ ∀ a, H1 a = none → sp (.ref a :: vs) (upd H1 a (exo a C none)) (madeF C H1 Q a) (fun _ _ _ => False)
theorem pmk_oexA (T : OexC X.K C) (iC : PySem.W.findIn X.K (.ref C) "__init__" = some (some (.ref fI))) (tI : PySem.W.typeIn X.K (.ref fI) = some (.type "function"))
    (Fi : FnOk X.prog X.w X.K X.mg X.base CX0 k fI fd ps sp) (room : Room (k + 1) X.A) (bi : Binds X.K fd ps []) (hg : Gl X x) (hm : X.mg x = some (.ref C)) (ha : PA X (e :: es) ta) (nodbg : (x == ("__debug__" : Str)) = false := by decide)
    (st : starEach (e :: es) X.env = (false, eval e X.env) :: starEach es X.env := by rfl) (pn : (backTo pos (starEach es X.env)).any (·.1) = false := by rfl) :
    L2N.PMk X (.Call (.Name x p) (e :: es) [] pos) (tMkA C sp ta) := by
  intro pl s0 σ H Q J0 want
  refine wpAny_Call_Name_kw (ld_glob J0 hg hm ?_ nodbg)
  refine PySem.W.callWith_K (h₀ := X.base) J0.ok.mod.kin T.kC (thn (ha.run pos pl s0 σ H _ J0 want) fun us s got => ?_) st pn
  obtain ⟨vs, H1, J, rv, few, want⟩ := got
  refine ⟨J.kIn, ?_⟩
  refine make_run (us := us) (vs := vs) (Q := madeF C H1 Q) T iC tI Fi room bi J rv few want fun x0 hm v u H2 s2 q1 q2 q3 q4 q5 q6 q7 q8 _ q9 => ?_
  obtain ⟨rfl, d, fs, ea, ed, nd, w⟩ := q9
  obtain ⟨h2, g2, d2, t2, o2⟩ := s2
  obtain ⟨h1, g1, d1, t1, o1⟩ := s
  obtain ⟨tp, G, J', kG, Gx, obj, nx⟩ := mk_end0 (d2 := d2) (t2 := t2) J q1 q2 q5 q6 q3 q4 ea ed nd
  refine ⟨q7, x0, _, _, ⟨G, g2, d2, t2, o2⟩, _, .ref C, some d, rfl, J', kG, Gx, obj, ⟨rfl, rfl, fun vs hv => ?_⟩, rfl, rfl, nx, rfl, q4, raises_own T.exC T.tyC, w⟩
  cases hv
  rfl
/-- C() and C(e, ..), C an own exception class without own __init__ -/
theorem pmk_own0 {bm : List Value} {B newId initId : String} (F : ExcBaseFacts B newId initId bm) (q : PySem.W.excIn X.K C bm newId = true) (gC : X.mg x = some (.ref C)) (kC : PySem.W.keepIn X.K (.ref C) = true) (r : Raises X (.ref C)) (hg : Gl X x)
    (nodbg : (x == ("__debug__" : Str)) = false := by decide) : L2N.PMk X (.Call (.Name x p) [] [] pos) (fun _ H Q => Q (.ref C) none H) := by
  intro pl s σ H Q J want
  obtain ⟨mro, N, nm, qn, bs, hdct, sn, sub, ab, col, dd, k0, k1, k2, k3, k5, mN, hC, hN, hni, T⟩ := exc_obj J.kIn q
  have mk : wpAny (model X.prog X.w) X.A (call (.ref C) []) _ X.xe s := wpAny_call_exc_subT F T hC hN hni (fun h' x0 m => L2N.mk_of J m r want (J.hok.gone m.new)) (Nat.zero_le _)
  exact wpAny_Call_Name_kw (ld_glob J hg gC (PySem.W.callWith_K0 J.kIn kC mk) nodbg)
theorem pmk_ownN {bm : List Value} {B newId initId : String} (F : ExcBaseFacts B newId initId bm) (q : PySem.W.excIn X.K C bm newId = true) (gC : X.mg x = some (.ref C)) (kC : PySem.W.keepIn X.K (.ref C) = true) (r : Raises X (.ref C)) (hg : Gl X x) (ha : PA X (e :: es) ta)
    (nodbg : (x == ("__debug__" : Str)) = false := by decide) (st : starEach (e :: es) X.env = (false, eval e X.env) :: starEach es X.env := by rfl) (pn : (backTo pos (starEach es X.env)).any (·.1) = false := by rfl) :
    L2N.PMk X (.Call (.Name x p) (e :: es) [] pos) (fun σ H Q => ta σ H fun vs H1 => vs.length ≤ sizeLine ∧ Q (.ref C) none H1) := by
  intro pl s0 σ H Q J0 want
  refine wpAny_Call_Name_kw (ld_glob J0 hg gC ?_ nodbg)
  refine PySem.W.callWith_K (h₀ := X.base) J0.ok.mod.kin kC (thn (ha.run pos pl s0 σ H _ J0 want) fun us s got => ?_) st pn
  obtain ⟨vs, H1, J, rv, few, want⟩ := got
  obtain ⟨mro, N, nm, qn, bs, hdct, sn, sub, ab, col, dd, k0, k1, k2, k3, k5, mN, hC, hN, hni, T⟩ := exc_obj J.kIn q
  exact ⟨J.kIn, wpAny_call_exc_subT F T hC hN hni (fun h' x0 m => L2N.mk_of J m r want (J.hok.gone m.new)) (by show us.length ≤ _; exact rv.length ▸ few)⟩
end
/-! ### defs that are handed the caught exception -/
structure FnE (P : Program) (w : World) (K : PySem.W.Frag) (mg : Str → Option Value) (base : Heap) (k : Nat) (f : Addr) (fd : FuncData) (ps : List Str) (sp : Addr → Value → Option Addr → Sp) : Prop where
  len : ∀ a cls d vs H Q E, sp a cls d vs H Q E → vs.length = ps.length
  run : ∀ (A : Around) (outer : List Env) (s : Shared) (H : Hp) (args : Args) (us : List Value) (vs : List V) (Q : VK) (E : XK) (a : Addr) (oe : Obj) (cls : Value) (d : Option Addr), L2H.RoomH k A → A.handled = some (.ref a) → L2H.PinOk outer H s (a, oe) → Zc cls d oe → (∃ fv, oe.data = .fields fv) →
    Env0 P w K mg base A outer s H → BindsTo s fd args (ps.zip us) → Vals vs us → sp a cls d vs H Q E → codeAny (model P w) A (.call (.ref f) args) (CR CX0 outer P w H s Q E) s
section
variable {P : Program} {w : World} {K : PySem.W.Frag} {mg : Str → Option Value} {base : Heap}
/-- the context of such a def's body -/
abbrev cxE (P : Program) (w : World) (K : PySem.W.Frag) (mg : Str → Option Value) (base : Heap) (N : List Str) (qual : Str) (scope : Scope) (f : Addr) (cd : Value) (A : Around) (outer : List Env) (s : Shared) (H : Hp) (E : XK) (a : Addr) (oe : Obj) : Cx :=
  (cxOf CX0 P w K mg base N qual scope f cd A outer s H E).suite a [(a, oe)]
theorem fn_ofE {k : Nat} {f : Addr} {x qual : Str} {dst : Stmt} {fd : FuncData} {N ps : List Str} {sp : Addr → Value → Option Addr → Sp} (F : Fun K x qual dst f fd) (S : FnScope N ps (defScope dst))
    (len : ∀ a cls d vs H Q E, sp a cls d vs H Q E → vs.length = ps.length)
    (hbody : ∀ (cdv : Value) (A : Around) (outer : List Env) (s : Shared) (H : Hp) (vs : List V) (Q : VK) (E : XK) (a : Addr) (oe : Obj) (cls : Value) (d : Option Addr), Zc cls d oe → (∃ fv, oe.data = .fields fv) → L2H.RoomH k (A.deeper (envOfC qual (defScope dst) s.heap.objs.size f cdv)) → sp a cls d vs H Q E →
      ∃ t, PSs (cxE P w K mg base N qual (defScope dst) f cdv A outer s H E a oe) (defBody dst) t ∧ t { nx := fun _ H' => Q .non H', rt := Q } (L2.start N vs) H) :
    FnE P w K mg base (k + 1) f fd ps sp := by
  obtain ⟨oc, od, kV, doc, pm, an, cdv, ct, osl, rfl, look, code⟩ := F.ex
  refine ⟨len, fun A outer s H args us vs Q E a oe cls d room hot hpin hz hf ev0 bnd r asked => ?_⟩
  have lenV := len _ _ _ _ _ _ _ asked
  have kin : K.In s.heap := ev0.mod.kin.keeps fun b o e => (ev0.bs b o e).1
  have nolim : s.heap.NoLimit := ev0.mod.nolimit.keeps fun b o e => (ev0.bs b o e).1
  have kinds : ∀ y ∈ ps.zip us, (defScope dst).names.lookup y.1 = some .local ∨ ((defScope dst).names.lookup y.1 = some .cell ∧ ((cellsFrom (s.heap.objs.size + 1) (defScope dst).names []).lookup y.1).isSome = true) := fun ⟨n, v⟩ hy =>
    (S.par n (List.of_mem_zip hy).1).elim .inl fun z => .inr ⟨z, PySem.W.cellsFrom_some _ _ _ (.inl z)⟩
  refine codeAny_call_function room.depth (kin _ _ look) rfl S.co S.gen rfl (PySem.W.codeRec_of kin code) (bnd _ _ _ _ ?_)
  refine wpAny_newFunctionEnv_cells S.kind kinds fun ev1 eqv s1 ic => ?_
  subst eqv
  refine ⟨nolim.keeps ic.toInCall.keep, codeAny_func ?_⟩
  obtain ⟨t, run, want⟩ := hbody cdv A outer s H vs Q E a oe cls d hz hf (room.deeper _) asked
  have J0 := L2H.inv_startH (CX := CX0) (E := E) (cd := cdv) (f := f) (qual := qual) (base := base) S hpin ev0 lenV r ic
  have J : Inv (cxE P w K mg base N qual (defScope dst) f cdv A outer s H E a oe) [] (L2.start N vs) H s1 :=
    ⟨⟨J0.ok.mod, J0.ok.kind, J0.ok.glob, J0.ok.blt, J0.ok.above, J0.ok.inj, J0.ok.has, J0.ok.cab, (fun z => absurd (show false = true from z) Bool.false_ne_true), J0.ok.frames, J0.ok.stk, J0.ok.exf, J0.ok.bs, J0.ok.bsz, J0.ok.noex, J0.ok.exfs, J0.ok.funs, J0.ok.frf⟩,
      J0.os, J0.bare, J0.base, J0.loc, J0.cell, J0.free, J0.freeC, J0.pin, J0.hok, J0.len⟩
  have eA : (A.deeper (envOfC qual (defScope dst) s.heap.objs.size f cdv)).mark (some (.ref a)) = A.deeper (envOfC qual (defScope dst) s.heap.objs.size f cdv) := by
    obtain ⟨hd, _, _, _, _⟩ := A
    cases hot
    rfl
  have R := run.run [] s1 (L2.start N vs) H _ J want
  have eA' : (cxE P w K mg base N qual (defScope dst) f cdv A outer s H E a oe).A = A.deeper (envOfC qual (defScope dst) s.heap.objs.size f cdv) := eA
  rw [eA'] at R
  refine wpAny_mono R (fun fl s9 out => ?_) fun e s9 out => False.elim out
  have back : ∀ {σ' : L2.St} {H' : Hp} {v : V} {u : Value}, Inv (cxE P w K mg base N qual (defScope dst) f cdv A outer s H E a oe) [] σ' H' s9 → RelV v u → Q v H' → CE outer P w H s Q u s9 :=
    fun {σ' H' v u} J rv q => ⟨v, H', J.os, J.bare, J.base, J.hok, rv, q⟩
  cases fl with
  | ret u =>
    obtain ⟨v, σ1, H1, J, rv, q⟩ := out
    exact back J rv q
  | next =>
    obtain ⟨σ', H', J, q⟩ := out
    exact back (u := Value.none) (v := V.non) J rfl q
  | brk => exact out.elim fun _ z => z.elim fun _ z => z.2.elim
  | cont => exact out.elim fun _ z => z.elim fun _ z => z.2.elim
end
section
variable {X : Cx} {k : Nat} {f : Addr} {fd : FuncData} {ps : List Str} {sp : Addr → Value → Option Addr → Sp} {x : Str} {q pos : Pos} {e : Expr} {es : List Expr} {t : TA}
/-- f(.., e, ..) where a is caught -/
theorem pe_callE {a : Addr} {oe : Obj} {cls : Value} {d : Option Addr} {pn : List (Addr × Obj)} (F : FnE X.prog X.w X.K X.mg X.base k f fd ps sp) (room : L2H.RoomH k X.A) (hz : Zc cls d oe) (hf : ∃ fv, oe.data = .fields fv) (gl : Gl X x) (mgf : X.mg x = some (.ref f))
    (kp : PySem.W.keepIn X.K (.ref f) = true) (bi : Binds X.K fd ps []) (ha : PA (X.suite a ((a, oe) :: pn)) (e :: es) t)
    (hdb : (x == ("__debug__" : Str)) = false := by decide) (he : starEach (e :: es) X.env = (false, eval e X.env) :: starEach es X.env := by rfl) (hpl : (backTo pos (starEach es X.env)).any (·.1) = false := by rfl) :
    PE (X.suite a ((a, oe) :: pn)) (.Call (.Name x q) (e :: es) [] pos) (fun σ H Q => t σ H fun vs H1 => sp a cls d vs H1 Q (fun _ _ _ => False)) := by
  refine ⟨fun pl s σ H Q J0 want => ?_⟩
  refine wpAny_Call_Name_kw (ld_glob J0 gl mgf ?_ hdb)
  refine PySem.W.callWith_K (h₀ := X.base) J0.ok.mod.kin kp (thn (ha.run pos pl s σ H _ J0 want) fun us s1 ⟨vs, H1, J, rv, q⟩ => ⟨J.kIn, ?_⟩) he hpl
  have hl : us.length = ps.length := by rw [← rv.length]; exact F.len _ _ _ _ _ _ _ q
  have bd := bi s1 us J.kIn (by rw [List.append_nil]; exact hl)
  rw [List.append_nil] at bd
  have P1 := J.pin (a, oe) (List.mem_append_left _ List.mem_cons_self)
  have hpin : L2H.PinOk X.stack H1 s1 (a, oe) := ⟨P1.1, P1.2.1, fun z => (List.mem_cons.mp (J.stkSub a z)).elim P1.2.2.1 P1.2.2.2.1, P1.2.2.2.2⟩
  refine wpAny_call (codeAny_mono (F.run (X.A.mark (some (.ref a))) X.stack s1 H1 ⟨us, []⟩ us vs Q (fun _ _ _ => False) a oe cls d ⟨room.dp, room.un⟩ rfl hpin hz hf J.env0 bd rv q) fun res s9 out => ?_)
  cases res with
  | error e => exact out.elim
  | ok fl =>
    cases fl with
    | ret u => exact J.after out
    | next => exact out.elim
    | brk => exact out.elim
    | cont => exact out.elim
/-! ### isinstance of the caught exception -/
def ExD (H : Hp) (d : Option Addr) : Prop := ∀ dd, d = some dd → ∃ fs, H dd = some (.xd fs)
theorem ExD.mono {H H' : Hp} {d : Option Addr} (x : ExD H d) (s : Same H H') : ExD H' d := fun dd e => by
  obtain ⟨fs, z⟩ := x dd e
  exact ⟨fs, s _ _ z⟩
def rIsX (K : PySem.W.Frag) (cls : Value) (a : Addr) (d : Option Addr) : List V → Hp → VK → Prop := fun xs H Q => ∃ (D : Addr) (c : V) (cv : Value) (b : Bool), cls = .ref D ∧ ExcC K D ∧ (PySem.W.clsIn K D).isSome = true ∧ xs = [.ref a, c] ∧ (∀ u, RelV c u → u = cv) ∧
  PySem.W.kitOne K (.ref D) cv = some b ∧ ExD H d ∧ Q (.bl b) H
theorem call_isX {a : Addr} {oe : Obj} {cls : Value} {d : Option Addr} {pn : List (Addr × Obj)} (hz : Zc cls d oe) (hf : ∃ vs, oe.data = .fields vs) : CallR (X.suite a ((a, oe) :: pn)) (.builtin "isinstance") (rIsX X.K cls a d) := by
  intro pl s σ H xs us Q J0 r h
  obtain ⟨D, c, cv, b, rfl, C, hcl, rfl, hcv, e, hx, q⟩ := h
  cases r with
  | cons rx rr =>
    cases rr with
    | cons rt rr =>
      cases rr
      cases rx
      obtain rfl := hcv _ rt
      have there := (J0.pin (a, oe) (List.mem_append_left _ List.mem_cons_self)).1
      obtain ⟨vs, hv⟩ := hf
      obtain ⟨od, J⟩ : ∃ od, PySem.W.InstAt s.heap a oe D od := by
        obtain ⟨oc, od0, oda, osl⟩ := oe
        obtain ⟨h1, h2⟩ := hz
        dsimp only at h1 h2 hv
        subst h1 h2 hv
        cases od0 with
        | none => exact ⟨none, there, rfl, rfl, trivial⟩
        | some dd =>
          obtain ⟨fs, ef⟩ := hx dd rfl
          obtain ⟨mA, hns, _⟩ := (show ObjOk X.prog X.w H s.heap dd (.xd fs) from J0.hok dd _ ef)
          obtain ⟨o, ho, _⟩ := lookIn_ns hns
          exact ⟨some o, there, rfl, rfl, ho⟩
      exact PySem.W.kia_one (PySem.W.kitx_exc hcl C.hg C.hk C.hs C.ha C.hn C.ht C.hm) J0.kIn J e (fun z => nomatch z) fun tk => ⟨.bl b, H, J0.kept (t' := tk) fun _ _ z => z, rfl, q⟩
/-! ### a field of the caught exception -/
def rFieldX (K : PySem.W.Frag) (a : Addr) (cls : Value) (d : Option Addr) (n : Str) (te : TE) : TE := fun σ H Q => te σ H fun x H1 => x = .ref a ∧ ∃ (C dd : Addr) (fs : List (Str × V)) (v : V), cls = .ref C ∧ d = some dd ∧ XfC K C ∧ PySem.W.findIn K (.ref C) n = some none ∧ H1 dd = some (.xd fs) ∧ fs.lookup n = some v ∧ Q v H1
theorem pe_fieldX {a : Addr} {oe : Obj} {cls : Value} {d : Option Addr} {pn : List (Addr × Obj)} {ex : Expr} {te : TE} {at1 : Pos} {n : Str} (hz : Zc cls d oe) (hf : ∃ vs, oe.data = .fields vs) (he : PE (X.suite a ((a, oe) :: pn)) ex te)
    (plain : attributeBase ex n X.env (eval ex X.env) = eval ex X.env := by rfl) : PE (X.suite a ((a, oe) :: pn)) (.Attribute ex n at1) (rFieldX X.K a cls d n te) := by
  refine ⟨fun pl s0 σ H Q J0 want => attr_of plain (thn (he.run pl s0 σ H _ J0 want) fun u s got => ?_)⟩
  obtain ⟨x, H1, J, rx, rfl, C, dd, fs, v, rfl, rfl, T, no, at_d, l, q⟩ := got
  obtain rfl : u = Value.ref a := rx
  obtain ⟨vs, hd⟩ := hf
  obtain ⟨mA, ns, rel⟩ := (show ObjOk X.prog X.w H1 s.heap dd (.xd fs) from J.hok dd _ at_d)
  obtain ⟨od, ho, lk⟩ := lookIn_ns ns
  obtain ⟨u, eu, ru⟩ := RelO.some_of (v := v) (o := mA n) (l ▸ rel n)
  have there := (J.pin (a, oe) (List.mem_append_left _ List.mem_cons_self)).1
  have inst : PySem.W.InstAt s.heap a oe C (some od) := ⟨there, hz.1, by unfold PySem.W.notCls; rw [hd] <;> rfl, by rw [hz.2]; exact ho⟩
  exact HandSPX.exc_get J.kIn inst T.ga T.gg T.exC (PySem.W.findObj_own T.hdC no rfl (by rw [lk, eu])) (handed_of ru) ⟨v, H1, J.tok _, ru, q⟩
end
end Lw

set_option Elab.async false
set_option linter.all false
set_option maxRecDepth 100000
set_option maxHeartbeats 4000000
/-! a list comprehension within an except suite -/
namespace Lw
open PySem PySem.Spec PySem.W PySem.Calls PyProof.Rows L2 L2H
abbrev PinAt (X : Cx) (H : Hp) (s : Shared) (p : Addr × Obj) : Prop := s.heap.get? p.1 = some p.2 ∧ H p.1 = none ∧ p.1 ≠ X.env.locals ∧ p.1 ∉ X.fs ∧ ∀ v, p.2.data ≠ .cell v
/-- other pins -/
theorem repin {X : Cx} {pn pl : List (Addr × Obj)} {σ : L2.St} {H : Hp} {s : Shared} (J : Inv X pl σ H s) (np : ∀ p ∈ pn ++ pl, PinAt X H s p) : Inv { X with pn := pn } pl σ H s := by
  obtain ⟨k1, k2, k3, k4, k5, k6, k7, k8, k9, k10, k11, k12, k13, k14, k15, k16, k17, k18⟩ := J.ok
  exact ⟨⟨k1, k2, k3, k4, k5, k6, k7, k8, k9, k10, k11, k12, k13, k14, k15, k16, k17, k18⟩, J.os, J.bare, J.base, J.loc, J.cell, J.free, J.freeC, np, J.hok, J.len⟩
theorem pe_lcH {X : Cx} {elt tg iter : Expr} {scope : Scope} {own : List (Str × Nat)} {pos : Pos} {wi : TI} {g : TG} {te : TE} (hot : HotC X) (nd : X.N.Nodup) (src : PIH X tg iter wi) (ok : BlkOk X.N X.env.scope scope own)
    (rg : ∀ (s : Shared) (H : Hp) (C : Addr) (cl : List (Str × Addr)) (fp : List Addr), PG (X.blk s H scope (compEnvC scope cl C X.env) fp) tg g)
    (re : ∀ (s : Shared) (H : Hp) (C : Addr) (cl : List (Str × Addr)) (fp : List Addr), PE (X.blk s H scope (compEnvC scope cl C X.env) fp) elt te) (plain : ∀ x, foldedSetIterable iter X.env x = pure x := by intro _; rfl) :
    PE X (.ListComp elt [⟨tg, iter, [], 0⟩] scope pos) (tLc wi g tYes te (own.map (·.2))) := by
  refine ⟨fun pl s0 σ H Q J0 want => ?_⟩
  rw [eval_ListComp]
  obtain ⟨pq, ⟨hA, fv, dfv, ctx⟩, inPn⟩ := hot
  have cellsFree : ∀ y ∈ scope.names, y.2 = .free → ∃ c, X.env.cells.lookup y.1 = some c := by
    intro y hy e
    exact (ok.free y hy e).elim (fun k => J0.ok.has _ (.inl k)) (fun k => J0.ok.has _ (.inr k))
  refine wpAny_comprehension_free (use := none) rfl plain (closure_ok cellsFree) ok.kind (fun y hy e => by rw [ok.uniq y hy, e])
    (thn (src.run pl s0 σ H _ J0 want) fun xv s1 got => thn got fun itv s2 got2 => ?_)
  obtain ⟨it, fp, tn, It1, H2, rfl, J2, T, tn2, fo2, rest⟩ := got2
  refine wpAny_newObj_type (newEnv_comp ?_) (by show 0 ≤ sizeLine; decide)
  generalize eL : s2.heap.objs.size = L
  have freeL : H2 L = none := J2.hok.fresh (Nat.le_of_eq eL)
  obtain ⟨W, ⟨m0, w0⟩, turn⟩ := rest L freeL
  generalize e3 : ({ s2 with heap := s2.heap.push { cls := .type "list", data := .seq ([] : List Value).toArray } } : Shared) = s3
  have hp3 : s3.heap = s2.heap.push { cls := .type "list", data := .seq ([] : List Value).toArray } := by rw [← e3]
  have J3 : Inv X pl σ (upd H2 L (.lst [])) s3 := by
    rw [← e3]
    refine J2.laid (t' := s2.toks) (fun b o q => Heap.get?_push_of_some _ q) (Nat.le_of_eq eL) ⟨Nat.zero_le _, [], 0, .nil, ?_⟩
    rw [← eL]
    exact Heap.get?_push_size _ rfl
  have fo3 : ∀ b ∈ fp, FpOk X pl (upd H2 L (.lst [])) b ∧ b < s3.heap.objs.size := by
    intro b hb
    obtain ⟨o, eo, _⟩ := T.obj _ _ tn2 b hb
    have lt := Heap.lt_size eo
    refine ⟨⟨?_, (fo2 b hb).2⟩, by rw [hp3, Heap.size_push]; exact Nat.lt_succ_of_lt lt⟩
    rw [upd_ne (by rw [← eL]; exact Nat.ne_of_lt lt)]
    exact (fo2 b hb).1
  have tn3 : tn 0 s3.heap := T.keep _ _ _ tn2 fun b _ o eo => by rw [hp3]; exact Heap.get?_push_of_some _ eo
  have J4 := block_start J3 ok nd fo3
  have ug := rg s3 (upd H2 L (.lst [])) s3.heap.objs.size (cellsFrom (s3.heap.objs.size + 1) scope.names (cloFrom X.env.cells scope.names [])) fp
  have ue := re s3 (upd H2 L (.lst [])) s3.heap.objs.size (cellsFrom (s3.heap.objs.size + 1) scope.names (cloFrom X.env.cells scope.names [])) fp
  show codeAny _ _ (.compStart (.ListComp elt [⟨tg, iter, [], 0⟩] scope pos) 0 (.ref it) (.ref L) (compEnvC scope (cellsFrom (s3.heap.objs.size + 1) scope.names (cloFrom X.env.cells scope.names [])) s3.heap.objs.size X.env)) (compPost (model X.prog X.w) X.A X.xe none (EP X pl σ Q) (.ref L) s3.heap.objs.size) { s3 with heap := pushCells (s3.heap.push { cls := .type "dict", data := .dict #[] }) scope.names }
  have none3 : ∀ b ∈ fp, (upd H2 L (.lst [])) b = none := fun b hb => (fo3 b hb).1.1
  generalize ece : compEnvC scope (cellsFrom (s3.heap.objs.size + 1) scope.names (cloFrom X.env.cells scope.names [])) s3.heap.objs.size X.env = ce at J4 ug ue ⊢
  have locC : ce.locals = s3.heap.objs.size := by subst ece; rfl
  generalize eH3 : upd H2 L (.lst []) = H3 at J3 J4 ug ue w0 none3 fo3
  generalize e4 : ({ s3 with heap := pushCells (s3.heap.push { cls := .type "dict", data := .dict #[] }) scope.names } : Shared) = s4 at J4 ⊢
  have tn4 : tn 0 s4.heap := T.keep _ _ _ tn3 fun b _ o eo => by rw [← e4]; exact pushCells_keeps _ _ _ _ (Heap.get?_push_of_some _ eo)
  -- the exception that is handled stands within the block, too
  have P3 := J3.pin pq (List.mem_append_left _ inPn)
  have nex : pq.1 ∉ fp := fun hb => (fo3 pq.1 hb).1.2.2.2.2.2 pq (List.mem_append_left _ inPn) rfl
  have nstk : pq.1 ∉ frs X.stack := fun hm => (List.mem_cons.mp (J3.stkSub _ hm)).elim P3.2.2.1 P3.2.2.2.1
  have within : ∀ {σ' : L2.St} {H' : Hp} {s' : Shared}, Inv (X.blk s3 H3 scope ce fp) [] σ' H' s' → Inv { X.blk s3 H3 scope ce fp with pn := [pq] } [] σ' H' s' := by
    intro σ' H' s' J
    refine repin J fun p hp => ?_
    obtain rfl : p = pq := by simpa using hp
    refine ⟨J.base.keep _ _ P3.1 P3.2.1 nstk nex, J.base.free _ _ P3.1 P3.2.1 nex, ?_, nstk, P3.2.2.2.2⟩
    show p.1 ≠ ce.locals
    rw [locC]
    exact Nat.ne_of_lt (Heap.lt_size P3.1)
  have without : ∀ {σ' : L2.St} {H' : Hp} {s' : Shared}, Inv { X.blk s3 H3 scope ce fp with pn := [pq] } [] σ' H' s' → Inv (X.blk s3 H3 scope ce fp) [] σ' H' s' := by
    intro σ' H' s' J
    exact repin (X := { X.blk s3 H3 scope ce fp with pn := [pq] }) (pn := []) J fun p hp => absurd hp (by simp)
  have hotB : HotC { X.blk s3 H3 scope ce fp with pn := [pq] } := ⟨pq, ⟨hA, fv, dfv, ctx⟩, by simp⟩
  have okB : ∀ {σ' : L2.St} {H' : Hp} {s' : Shared}, Inv (X.blk s3 H3 scope ce fp) [] σ' H' s' → (∀ b ∈ fp, H' b = none) → ∀ b ∈ fp, FpOk (X.blk s3 H3 scope ce fp) [] H' b := by
    intro σ' H' s' J fr b hb
    exact ⟨fr b hb, (J.ok.exf b hb).1, J.ok.exfs b hb, .inl hb, fun x c e => (J.ok.exf b hb).2 x c e, fun p hp => absurd (show p ∈ ([] : List (Addr × Obj)) ++ [] from hp) (by simp)⟩
  have okP : ∀ {H' : Hp}, (∀ b ∈ fp, FpOk (X.blk s3 H3 scope ce fp) [] H' b) → ∀ b ∈ fp, FpOk { X.blk s3 H3 scope ce fp with pn := [pq] } [] H' b := by
    intro H' fo b hb
    obtain ⟨q1, q2, q3, q4, q5, _⟩ := fo b hb
    refine ⟨q1, q2, q3, q4, q5, fun p hp => ?_⟩
    obtain rfl : p = pq := by simpa using hp
    exact fun z => nex (z ▸ hb)
  have loop : codeAny (model X.prog X.w) X.A (.compLoop (.ListComp elt [⟨tg, iter, [], 0⟩] scope pos) 0 (.ref it) (.ref L) ce) (compPost (model X.prog X.w) X.A X.xe none (EP X pl σ Q) (.ref L) s3.heap.objs.size) s4 := by
    refine compLoop_any (fun n s' => ∃ i H', Inv (X.blk s3 H3 scope ce fp) [] (wipe σ (own.map (·.2))) H' s' ∧ tn i s'.heap ∧ (∀ b ∈ fp, H' b = none) ∧ W i n H') ?_ m0 ⟨0, H3, J4, tn4, none3, w0⟩
    rintro n s5 ⟨i, H5, J5, tn5, fr5, w5⟩
    rcases turn i n H5 w5 with ⟨stop, qq⟩ | ⟨go, Nx, hNx, step⟩
    · refine thnF (T.done { X.blk s3 H3 scope ce fp with pn := [pq] } rfl rfl rfl hotB i [] s5 _ H5 (fun _ _ => False) (within J5) (okP (okB J5 fr5)) tn5 stop) fun r s6 got6 => ?_
      obtain ⟨rfl, J6'⟩ := got6
      have J6 := without J6'
      have J7 : Inv X pl σ H5 s6 := J3.call' (ch := fp) J6.os J6.base J6.hok J6.bare fun b hb => ⟨(fo3 b hb).1.2.2.2.1, (fo3 b hb).1.2.1, (fo3 b hb).1.2.2.2.2.1, (fo3 b hb).1.2.2.2.2.2⟩
      have frC : H5 s3.heap.objs.size = none := locC ▸ (show H5 ce.locals = none from J6.free)
      obtain ⟨m, nsC, _⟩ := J6.loc
      have nsC : s6.heap.Ns s3.heap.objs.size m := locC ▸ (show s6.heap.Ns ce.locals m from nsC)
      obtain ⟨f0, f1, f2, f3, f4, f5⟩ := J3.fpOk (Nat.le_refl _) frC
      exact ⟨m, nsC, fun h'' sb => ⟨.ref L, H5, J7.turned (t' := s6.toks) (fun b o hb e => (sb.2 b hb).trans e) f0 f1 f3 f4 f5, rfl, qq⟩⟩
    · refine thnF (T.item { X.blk s3 H3 scope ce fp with pn := [pq] } rfl rfl rfl hotB i [] s5 _ H5 (fun _ _ => False) (within J5) (okP (okB J5 fr5)) tn5 go) fun r s6 got6 => ?_
      obtain ⟨u, rfl, got6⟩ := got6
      refine thnF got6 fun _ s7 got7 => ?_
      obtain ⟨x, H7, J7', r7, y7, tn7, fr7⟩ := got7
      have J7 := without J7'
      have J7p := J7.pinned (okB J7 fr7) (T.obj _ _ tn7)
      refine thnF (ug.run _ s7 _ H7 x u _ J7p r7 (step x H7 y7)) fun _ s8 got8 => ?_
      obtain ⟨σ8, H8, J8, ew, want8⟩ := got8
      refine thnF ((pts_nil (X := X.blk s3 H3 scope ce fp)).run _ s8 σ8 H8 _ J8 want8) fun b s9 got9 => ?_
      obtain ⟨H9, J9, want9⟩ := got9
      have fin : ∀ {s' : Shared} {H' : Hp}, Inv (X.blk s3 H3 scope ce fp) ([] ++ pinsAt fp s7.heap) σ8 H' s' → Nx H' →
          ∃ m, m < n ∧ ∃ i H', Inv (X.blk s3 H3 scope ce fp) [] (wipe σ (own.map (·.2))) H' s' ∧ tn i s'.heap ∧ (∀ b ∈ fp, H' b = none) ∧ W i m H' := by
        intro s' H' J11 nx
        obtain ⟨m', lt, w'⟩ := hNx _ nx
        have pinned : ∀ b ∈ fp, ∀ o, s7.heap.get? b = some o → s'.heap.get? b = some o ∧ H' b = none := by
          intro b hb o eo
          obtain ⟨z1, z2, _⟩ := J11.pin (b, o) (List.mem_append_right _ (List.mem_append_right _ (mem_pinsAt hb eo)))
          exact ⟨z1, z2⟩
        have el : (wipe σ (own.map (·.2))).length = σ8.length := by rw [← ew, wipe_length]
        refine ⟨m', lt, i + 1, _, (J11.unpinned (pins := [])).weak el (fun j v ev => ?_), T.keep _ _ _ tn7 fun b hb o eo => (pinned b hb o eo).1, fun b hb => ?_, w'⟩
        · rw [← ew] at ev
          exact (wipe_some ev).1
        · obtain ⟨o, eo, _⟩ := T.obj _ _ tn7 b hb
          exact (pinned b hb o eo).2
      cases b with
      | false => exact fin J9 want9
      | true =>
        simp only [if_true] at want9 ⊢
        refine thnF (ue.run _ s9 σ8 H9 _ J9 want9) fun z s10 got10 => ?_
        obtain ⟨yv, H10, J10, r10, acc, eL10, lt10, nx⟩ := got10
        exact app_ok (X := X.blk s3 H3 scope ce fp) J10 eL10 lt10 r10 fun s11 J11 => fin J11 nx
  exact codeAny_compStart_list loop (T.self X.A 0 _ _ _ tn4 loop)
end Lw

set_option Elab.async false
set_option linter.all false
set_option maxRecDepth 100000
set_option maxHeartbeats 4000000
/-! own errors of one field raised; methods and own __setitem__ that raise, called inside a try -/
namespace Lw
open PySem PySem.Spec PyProof.Rows L2
def spInit (K : PySem.W.Frag) (n : Str) : Sp := fun vs H Q _ => ∃ (a C : Addr) (y : V), vs = [.ref a, y] ∧ OexC K C ∧ PySem.W.findIn K (.ref C) n = some none ∧ H a = some (exo a C none) ∧
  ∀ dx, H dx = none → dx ≠ a → Q .non (upd (upd H dx (exd dx [(n, y)])) a (exo a C (some dx)))
section
variable {P : Program} {w : World} {K : PySem.W.Frag} {mg : Str → Option Value} {base : Heap} {f : Addr} {fd : FuncData}
/-- what the top has written of an error class -/
structure ClsT (K : PySem.W.Frag) (mg : Str → Option Value) (B C : Addr) (x : Str) : Prop where
  gC : mg x = some (.ref C)
  ox : OexC K C
  xf : XfC K C
  ec : ExcC K C
  cl : (PySem.W.clsIn K C).isSome = true
  em : PySem.W.exmOne K (.ref C) (.ref B) = some true
structure OneT (P : Program) (w : World) (K : PySem.W.Frag) (mg : Str → Option Value) (base : Heap) (B C : Addr) (x n : Str) : Prop where
  t : ClsT K mg B C x
  no : PySem.W.findIn K (.ref C) n = some none
  made : ∃ (fI : Addr) (fd : FuncData), PySem.W.findIn K (.ref C) "__init__" = some (some (.ref fI)) ∧ PySem.W.typeIn K (.ref fI) = some (.type "function") ∧ FnOk P w K mg base CX0 1 fI fd ["self", n] (spInit K n) ∧ Binds K fd ["self", n] []
end
section
variable {X : Cx} {B C : Addr} {x n : Str} {e : Expr} {te : TE} {W : WX} {p pos pos2 : Pos}
theorem made_eq {H1 : Hp} {a d : Addr} {e0 e1 o1 o2 : HO} (na : H1 a = none) (n : d ≠ a) : upd (del (upd (upd (upd H1 a e0) d o1) a e1) a) d o2 = upd H1 d o2 := by
  funext b
  by_cases h : b = d
  · rw [h, upd_same, upd_same]
  · rw [upd_ne h, upd_ne h]
    by_cases g : b = a
    · rw [g, del_same, na]
    · rw [del_ne g, upd_ne g, upd_ne h, upd_ne g]
/-- what a made error of one field wants -/
theorem one_read {K : PySem.W.Frag} {y : V} {H1 : Hp} {Q : XK} (T : OexC K C) (no : PySem.W.findIn K (.ref C) n = some none) (h : ∀ d, H1 d = none → Q (.ref C) (some d) (upd H1 d (.xd [(n, y)]))) :
    [y].length ≤ 1000 ∧ ∀ a, H1 a = none → spInit K n (.ref a :: [y]) (upd H1 a (exo a C none)) (madeF C H1 Q a) (fun _ _ _ => False) := by
  refine ⟨by show 1 ≤ 1000; decide, fun a na => ⟨a, C, y, rfl, T, no, upd_same, fun dx nd ne => ⟨rfl, dx, [(n, y)], upd_same, ?_, ?_, ?_⟩⟩⟩
  · rw [upd_ne ne]
    exact upd_same
  · rw [upd_ne ne] at nd
    exact nd
  · rw [made_eq na ne]
    rw [upd_ne ne] at nd
    exact h dx nd
/-- raise C(e) -/
theorem ps_one (T : OneT X.prog X.w X.K X.mg X.base B C x n) (room : Room 2 X.A) (calm : X.calm = true) (tk : L2N.Takes X W) (gl : Gl X x) (he : PE X e te) (nodbg : (x == ("__debug__" : Str)) = false := by decide)
    (st : starEach [e] X.env = (false, eval e X.env) :: starEach [] X.env := by rfl) (pn : (backTo pos (starEach [] X.env)).any (·.1) = false := by rfl) :
    PS X (.Raise (some (.Call (.Name x p) [e] [] pos)) none pos2) (fun _ σ H => tMkA C (spInit X.K n) (tCons te tNil) σ H fun cls d H' => W cls d σ H') := by
  obtain ⟨fI, fd, iC, tI, Fi, bi⟩ := T.made
  exact L2N.ps_raise (pos := pos2) calm tk (pmk_oexA (p := p) (pos := pos) T.t.ox iC tI Fi room bi gl T.t.gC (pa_cons he pa_nil (hs := st)) nodbg st pn)
end
section
variable {P : Program} {w : World} {K : PySem.W.Frag} {mg : Str → Option Value} {base : Heap}
theorem fun_okN {x qual : Str} {dst : Stmt} {f : Addr} {fd : FuncData} {N ps : List Str} {k : Nat} {sp : Sp} (F : Fun K x qual dst f fd) (S : FnScope N ps (defScope dst)) (few : ∀ vs H Q E, sp vs H Q E → vs.length = ps.length)
    (body : ∀ (cdv : Value) (A : Around) (outs : List Env) (st : Shared) (H : Hp) (vs : List V) (Q : VK) (E : XK), Room k (A.deeper (envOfC qual (defScope dst) st.heap.objs.size f cdv)) → sp vs H Q E →
      ∃ t, PSs (cxOf (L2N.CX P w) P w K mg base N qual (defScope dst) f cdv A outs st H E) (defBody dst) t ∧ t { nx := fun _ H' => Q .non H', rt := Q } (L2.start N vs) H) : FnOk P w K mg base (L2N.CX P w) (k + 1) f fd ps sp := by
  obtain ⟨oc, od, kV, doc, pm, an, cdv, ct, osl, rfl, look, code⟩ := F.ex
  exact fn_of look code S few fun A outs st H vs Q E room asked => body cdv A outs st H vs Q E room asked
theorem no_if {b : Bool} {F G : Prop} (e : b = false) (h : G) : if b = true then F else G := by
  rw [e]
  exact h
theorem is_if {b : Bool} {F G : Prop} (e : b = true) (h : F) : if b = true then F else G := by
  rw [e]
  exact h
theorem meth_okN {x qual : Str} {st : Stmt} {f : Addr} {fd : FuncData} {N ps : List Str} {k : Nat} {sp : Sp} (F : C8.Fun K x qual st f fd) (S : FnScope N ps (C8.fnScope st)) (few : ∀ vs H Q E, sp vs H Q E → vs.length = ps.length)
    (body : ∀ (cdv : Value) (A : Around) (outs : List Env) (s : Shared) (H : Hp) (vs : List V) (Q : VK) (E : XK), Room k (A.deeper (envOfC qual (C8.fnScope st) s.heap.objs.size f cdv)) → sp vs H Q E →
      ∃ t, PSs (cxOf (L2N.CX P w) P w K mg base N qual (C8.fnScope st) f cdv A outs s H E) (C8.fnBody st) t ∧ t { nx := fun _ H' => Q .non H', rt := Q } (L2.start N vs) H) : FnOk P w K mg base (L2N.CX P w) (k + 1) f fd ps sp := by
  obtain ⟨oc, od, dV, kV, doc, pm, an, cdv, ct, osl, rfl, lk, hcd⟩ := F.ex
  exact fn_of lk hcd S few fun A outer s H vs Q E hr hsp => body cdv A outer s H vs Q E hr hsp
end
theorem pass_never {P : Program} {w : World} {X : Cx} : Passes (L2N.CX P w) X C8.E0 := fun _ _ _ _ _ _ _ h => by
  obtain ⟨a, B, H', cls, d, _, _, _, _, _, _, _, q⟩ := h
  exact q.elim
theorem takes_none {X : Cx} : L2N.Takes X (fun _ _ _ _ => False) := fun _ _ x => by
  obtain ⟨_, _, _, _, _, _, _, _, _, _, _, _, _, _, _, _, z⟩ := x
  exact z.elim
section
variable {X : Cx} {CX : CXT} {k n : Nat} {f C : Addr} {fd : FuncData} {ps : List Str} {sp : Sp} {E : L2.St → XK} {m : Str} {pos pos' apos : Pos} {e o i value : Expr} {es : List Expr} {ta to ti tv : TE} {t : TA}
/-- o.m(e, ..), what it lets out by the slots -/
def tMethS (C : Addr) (m : Str) (sp : Sp) (E : L2.St → XK) (ta : TE) (t : TA) : TE := fun σ H Q => ta σ H fun self H1 => ∃ p dx flds, self = .ref p ∧ H1 p = some (.ins C dx flds) ∧ flds.lookup m = none ∧
  t σ H1 fun given H2 => sp (self :: given) H2 Q (E σ)
/-- how such a call is evaluated -/
def CallsMeth (X : Cx) (o : Expr) (m : Str) (apos pos : Pos) (es : List Expr) (pl : Sem Bool) : Prop := eval (.Call (.Attribute o m apos) es [] pos) X.env = (eval o X.env >>= fun self => standAt apos.atName >>= fun _ =>
  holding [self] (getMethod self m pl) >>= fun got => callWith pos got.1 got.2 (backTo pos (starEach es X.env)) (backToKw pos (keywordEach [] X.env)))
theorem pe_methX {pl : Sem Bool} (self : PE X o ta) (c : Cls X.K C) (me : Meth X.K C m f) (F : FnOk X.prog X.w X.K X.mg X.base CX k f fd ps sp) (room : Room k X.A) (bs : Binds X.K fd ps []) (out : ∀ σ, PassesAt CX X σ (E σ)) (given : PA X (e :: es) t)
    (first : starEach (e :: es) X.env = (false, eval e X.env) :: starEach es X.env := by rfl) (noStar : (backTo pos (starEach es X.env)).any (·.1) = false := by rfl) (road : CallsMeth X o m apos pos (e :: es) pl := by rfl) :
    PE X (.Call (.Attribute o m apos) (e :: es) [] pos) (tMethS C m sp E ta t) := ⟨fun pl0 s σ H Q J want => by
  refine PySem.W.methodCall_KW (pl := pl) (thn (self.run pl0 s σ H _ J want) fun v s1 got => ?_) road
  obtain ⟨x, H1, J1, rx, p, dx, flds, rfl, at_p, none_, want1⟩ := got
  obtain rfl : v = .ref p := rx
  refine getmeth_ok J1 at_p c me none_ (PySem.W.callWith_K (first := [.ref p]) (h₀ := X.base) J.ok.mod.kin me.kp (thn (given.run pos pl0 s1 σ H1 _ J1 want1) fun us s2 got2 => ?_) first noStar)
  obtain ⟨vs, H2, J2, rv, want2⟩ := got2
  exact ⟨J2.kIn, run_fnS F room bs (out σ) J2 (.cons (show RelV (.ref p) (.ref p) from rfl) rv) want2⟩⟩
/-- o[i] = v by an own __setitem__, what it lets out by the slots -/
def sOwnSet (C : Addr) (sp : Sp) (E : L2.St → XK) (tv to ti : TE) : TS := fun D σ H => tv σ H fun v H1 => to σ H1 fun x H2 => ti σ H2 fun y H3 => ∃ (a dx : Addr) (fs : List (Str × V)), x = .ref a ∧ H3 a = some (.ins C dx fs) ∧ sp [x, y, v] H3 (fun _ H' => D.nx σ H') (E σ)
theorem ps_setX (F : FnOk X.prog X.w X.K X.mg X.base CX k f fd ps sp) (bs : Binds X.K fd ps []) (out : ∀ σ, PassesAt CX X σ (E σ)) (own : OwnAt X.K C f "__setitem__") (nq : PySem.W.noSeq X.K C = true) (room : Room k X.A) (pv : PE X value tv) (po : PE X o to) (pi : PE X i ti)
    (noSwap : swapsWith value (some (.Subscript o i pos')) pos.line X.env = pure false) : PS X (.Assign [.Subscript o i pos'] value pos) (sOwnSet C sp E tv to ti) := ⟨fun pl0 s σ H D J want => by
  refine wpAny_Assign_Subscript (thn (pv.run pl0 s σ H _ J want) fun r s1 ⟨v, H1, J1, rv, w1⟩ => thn (po.run pl0 s1 σ H1 _ J1 w1) fun u s2 ⟨x, H2, J2, rx, w2⟩ => thn (pi.run pl0 s2 σ H2 _ J2 w2) fun iv s3 got => ?_) noSwap
  obtain ⟨y, H3, J3, ry, a, dx, fs, rfl, at_a, want3⟩ := got
  cases (show u = .ref a from rx)
  obtain ⟨mA, G0, _⟩ := ins_get J3.hok at_a
  obtain ⟨od, G1, _⟩ := G0.look
  obtain ⟨m, hF⟩ := J3.fr
  refine PySem.W.ksp_setItem hF J3.ok.mod.kin G1 nq own.at_ own.fn (wpAny_mono (run_fnS F room bs (out σ) J3 (.cons (show RelV (.ref a) (.ref a) from rfl) (.cons ry (.cons rv .nil))) want3) (fun r s' z => ?_) fun _ _ x => x)
  obtain ⟨_, H4, J4, _, next⟩ := z
  exact ⟨σ, H4, J4, next⟩⟩
end
end Lw

set_option Elab.async false
set_option linter.all false
set_option maxRecDepth 100000
set_option maxHeartbeats 4000000
namespace Lw
open PySem PySem.Spec PyProof.Rows L2
/-! ### tables -/
abbrev TEnt := Str × Rw
abbrev TEnts := List (Str × TEnt)
/-- at q a table's name and a row -/
def EntAt (H : Hp) (N : List Addr) (x : V) (e : TEnt) : Prop := ∃ q a : Addr, x = .ref q ∧ H q = some (.tup [.str e.1, .ref a]) ∧ RwAt H a e.2 ∧ q ∉ N ∧ a ∉ N
/-- at t tables of the schema s, their rows at d -/
structure TabAt (C : Addr) (H : Hp) (N : List Addr) (t s d : Addr) (es : TEnts) : Prop where
  ins : ∃ dx, H t = some (.ins C dx [("_schema", .ref s), ("_rows", .ref d)])
  rows : ∃ xs : List (Str × V), H d = some (.dK (tkD xs)) ∧ PrS (EntAt H N) xs es
  nd : (es.map (·.1)).Nodup
  few : es.length ≤ 1000
theorem EntAt.mono {H H' : Hp} {N : List Addr} {x : V} {e : TEnt} (k : ∀ c o, c ∉ N → H c = some o → H' c = some o) (h : EntAt H N x e) : EntAt H' N x e := by
  obtain ⟨q, a, rfl, h1, h2, h3, h4⟩ := h
  exact ⟨q, a, rfl, k _ _ h3 h1, ⟨k _ _ h4 h2.e, h2.nd, h2.few, h2.ok⟩, h3, h4⟩
theorem TabAt.same {C : Addr} {H H' : Hp} {N : List Addr} {t s d : Addr} {es : TEnts} (x : TabAt C H N t s d es) (k : Same H H') : TabAt C H' N t s d es := by
  obtain ⟨dx, e⟩ := x.ins
  obtain ⟨xs, h1, h2⟩ := x.rows
  exact ⟨⟨dx, k _ _ e⟩, ⟨xs, k _ _ h1, h2.mono fun _ _ h => h.mono fun c o _ e => k _ _ e⟩, x.nd, x.few⟩
/-- what is changed is not of the tables -/
theorem TabAt.but {C : Addr} {H H' : Hp} {N : List Addr} {t s d b : Addr} {es : TEnts} (x : TabAt C H N t s d es) (k : But b H H') (bt : b ≠ t) (bd : b ≠ d) (bn : b ∈ N) : TabAt C H' N t s d es := by
  obtain ⟨dx, e⟩ := x.ins
  obtain ⟨xs, h1, h2⟩ := x.rows
  exact ⟨⟨dx, k _ _ e bt.symm⟩, ⟨xs, k _ _ h1 bd.symm, h2.mono fun _ _ h => h.mono fun c o nc e => k _ _ e fun n => nc (n ▸ bn)⟩, x.nd, x.few⟩
structure TCls (K : PySem.W.Frag) (C : Addr) : Prop where
  cls : Cls K C
  n1 : NoAttr K C "_schema"
  n2 : NoAttr K C "_rows"
abbrev sT (i : Nat) : Stmt := (C8.clsBody (topS 43)).getD i (.Pass ⟨0, 0, 0, 0⟩)
def hasE (es : TEnts) (tb id : Str) : Bool := idB id && match findS es id with
  | some e => decide (e.1 = tb)
  | none => false
/-- the row of an identifier -/
theorem TabAt.find {C : Addr} {H : Hp} {N : List Addr} {t s d : Addr} {es : TEnts} (x : TabAt C H N t s d es) (z : Str) : (findS es z = none ∧ DGet H d (.str z) none) ∨ ∃ q a e, findS es z = some e ∧ DGet H d (.str z) (some (.ref q)) ∧ H q = some (.tup [.str e.1, .ref a]) ∧ RwAt H a e.2 := by
  obtain ⟨xs, h1, h2⟩ := x.rows
  rcases h2.find z with ⟨f1, f2⟩ | ⟨v, e, f1, f2, q, a, rfl, g1, g2, _, _⟩
  · exact .inl ⟨f1, .inl ⟨tkD xs, .inr z, .inl h1, rfl, by rw [tk_find, f2]⟩⟩
  · exact .inr ⟨q, a, e, f2, .inl ⟨tkD xs, .inr z, .inl h1, rfl, by rw [tk_find, f1]⟩, g1, g2⟩
section
variable {P : Program} {w : World} {K : PySem.W.Frag} {mg : Str → Option Value} {base : Heap} {C : Addr}
abbrev NTI : List Str := ["self", "schema"]
theorem scTI : FnScope NTI NTI (C8.fnScope (sT 0)) := ⟨rfl, rfl, rfl, by decide +kernel, rfl, by decide +kernel, by decide +kernel⟩
def spTInit (C CS : Addr) : Sp := fun vs H Q _ => ∃ (t dx s dxs : Addr) (fs : List (Str × V)), vs = [.ref t, .ref s] ∧ H t = some (.ins C dx []) ∧ H s = some (.ins CS dxs fs) ∧ s ≠ t ∧
  ∀ (d : Addr) (H' : Hp), H d = none → (∀ c u, H c = some u → c ≠ t → H' c = some u) → H' t = some (.ins C dx [("_schema", .ref s), ("_rows", .ref d)]) → H' d = some (.dK []) → Q .non H'
theorem ok_tinit {CS f : Addr} {fd : FuncData} (F : C8.Fun K "__init__" "Tables.__init__" (sT 0) f fd) (c : TCls K C) (cs : C8.InsC K CS) (mi : mg "isinstance" = none) (mS : mg "Schema" = some (.ref CS)) : FnOk P w K mg base CX0 1 f fd ["self", "schema"] (spTInit C CS) := by
  refine C8.fn0 F scTI (fun vs H Q E h => ?_) (fun cdv A0 outer s0 H vs Q E hr h => ?_)
  · obtain ⟨t, dx, s, dxs, fs, rfl, _⟩ := h
    rfl
  obtain ⟨t, dx, s, dxs, fs, rfl, ht, hs, ne, q⟩ := h
  refine ⟨_, (pss_cons (ps_if (pt_not (pt_val (pe_callB (C8.call_isC cs) (by rfl) mi (by decide +kernel) (pa_cons (pv 1) (pa_cons (pe_glob (v := .ref CS) (by rfl) mS rfl) pa_nil))))) (pss_one ps_never) pss_nil)
    (pss_cons (ps_fld (pv 0) (pv 1) (by rfl))
    (pss_one (ps_fld (pv 0) pe_dnewK (by rfl))))), ?_⟩
  refine ⟨_, rfl, s, dxs, fs, rfl, hs, _, rfl, ff_if rfl ?_⟩
  refine ⟨_, rfl, _, rfl, t, C, dx, [], rfl, ht, c.cls, c.n1, by show 0 < 1000; decide, ?_⟩
  refine fun d nd => ⟨_, rfl, t, C, dx, [("_schema", .ref s)], rfl, ?_, c.cls, c.n2, by show 1 < 1000; decide, ?_⟩
  · rw [upd_ne (ne_of_none upd_same nd)]
    exact upd_same
  have ndt : d ≠ t := (ne_of_none upd_same nd).symm
  rw [upd_ne ndt] at nd
  refine q d _ nd (fun c u h n => ?_) upd_same ?_
  · rw [upd_ne n, upd_ne (ne_of_none h nd), upd_ne n]
    exact h
  · rw [upd_ne ndt]
    exact upd_same
theorem scTLen : FnScope ["self"] ["self"] (C8.fnScope (sT 2)) := ⟨rfl, rfl, rfl, by decide +kernel, rfl, by decide +kernel, by decide +kernel⟩
def spTLen (C : Addr) : Sp := fun vs H Q _ => ∃ (t s d : Addr) (N : List Addr) (es : TEnts), vs = [.ref t] ∧ TabAt C H N t s d es ∧ Q (.int es.length) H
theorem ok_tlen {f : Addr} {fd : FuncData} (F : C8.Fun K "__len__" "Tables.__len__" (sT 2) f fd) (c : TCls K C) (ml : mg "len" = none) : FnOk P w K mg base CX0 1 f fd ["self"] (spTLen C) := by
  refine C8.fn0 F scTLen (fun vs H Q E h => ?_) (fun cdv A0 outer s0 H vs Q E hr h => ?_)
  · obtain ⟨t, s, d, N, es, rfl, _⟩ := h
    rfl
  obtain ⟨t, s, d, N, es, rfl, x, q⟩ := h
  refine ⟨_, pss_one (ps_ret (pe_callB call_lenD (by rfl) ml (by decide +kernel) (pa_cons (pe_fld (pv 0) (by rfl)) pa_nil))), ?_⟩
  obtain ⟨dx, e⟩ := x.ins
  obtain ⟨xs, h1, h2⟩ := x.rows
  refine ⟨_, rfl, t, C, dx, _, .ref d, rfl, e, c.cls, c.n2, rfl, d, _, rfl, h1, ?_⟩
  rw [tk_len, h2.len]
  exact q
theorem scTHas : FnScope ["self", "table", "ident"] ["self", "table", "ident"] (C8.fnScope (sT 7)) := ⟨rfl, rfl, rfl, by decide +kernel, rfl, by decide +kernel, by decide +kernel⟩
def spTHas (C : Addr) : Sp := fun vs H Q _ => ∃ (t s d : Addr) (N : List Addr) (es : TEnts) (tb id : Str), vs = [.ref t, .str tb, .str id] ∧ TabAt C H N t s d es ∧ id.length ≤ 100000 ∧ ∀ H', Same H H' → Q (.bl (hasE es tb id)) H'
theorem ok_thas {f f1 : Addr} {fd fd1 : FuncData} (c : TCls K C) (me : Meth K C "_has" f) (F : C8.Fun K "_has" "Tables._has" (sT 7) f fd) (b : Binds K fd ["self", "table", "ident"] [])
    (G : FnOk P w K mg base CX0 3 f1 fd1 ["thing"] spIsId) (n1 : Nmd K mg "is_id" f1 fd1 ["thing"]) : C8.Met P w K mg base 4 C "_has" (spTHas C) [] := by
  refine C8.met0 c.cls me F b scTHas (fun vs H Q E h => ?_) (fun cdv A0 outer s0 H vs Q E hr h => ?_)
  · obtain ⟨t, s, d, N, es, tb, id, rfl, _⟩ := h
    rfl
  obtain ⟨t, s, d, N, es, tb, id, rfl, x, hz, q⟩ := h
  refine ⟨_, pss_one (ps_ret (pe_and (pe_call G hr (by rfl) n1.m n1.k n1.b .nil pass0 (pa_cons (pv 2) pa_nil)) (pe_and (pe_cmp (pc_din (hu_of hr) (pv 2) (pe_fld (pv 0) (by rfl)))) (pe_one (pe_cmpR op_eq (pe_ix ix_tup (pe_dget (hu_of hr) (pe_fld (pv 0) (by rfl)) (pv 2) (fun _ _ => rfl)) pe_int (fun _ _ => rfl)) (pv 1) (nomark _)))))), ?_⟩
  refine ⟨_, rfl, id, rfl, hz, fun H1 s1 => ⟨_, rfl, ?_⟩⟩
  have x1 := x.same s1
  obtain ⟨dx, e⟩ := x1.ins
  cases hi : idB id with
  | false =>
    refine ff_if rfl ?_
    have e : hasE es tb id = false := by unfold hasE; rw [hi]; rfl
    rw [e] at q
    exact q H1 s1
  | true =>
    refine tt_if rfl ?_
    rcases x1.find id with ⟨f1, g⟩ | ⟨qq, a, en, f1, g, h1, _⟩
    · refine ⟨_, rfl, _, rfl, t, C, dx, _, .ref d, rfl, e, c.cls, c.n2, rfl, d, _, rfl, g, _, rfl, ff_if rfl ?_⟩
      have e : hasE es tb id = false := by unfold hasE; rw [hi, f1]; rfl
      rw [e] at q
      exact q H1 s1
    · refine ⟨_, rfl, _, rfl, t, C, dx, _, .ref d, rfl, e, c.cls, c.n2, rfl, d, _, rfl, g, _, rfl, tt_if rfl ?_⟩
      refine ⟨_, rfl, t, C, dx, _, .ref d, rfl, e, c.cls, c.n2, rfl, .str id, rfl, d, _, rfl, g, qq, _, 0, .str en.1, rfl, rfl, .inl (.inl h1), atI_nat (j := 0) rfl, .str tb, rfl, rfl, ?_⟩
      have e : hasE es tb id = decide (V.str en.1 = V.str tb) := by
        unfold hasE
        rw [hi, f1]
        show (true && decide (en.1 = tb)) = _
        rw [Bool.true_and]
        by_cases g : en.1 = tb
        · rw [decide_eq_true g, decide_eq_true (by rw [g])]
        · rw [decide_eq_false g, decide_eq_false fun n => g (V.str.inj n)]
      rw [← e]
      exact q H1 s1
theorem scTIds : FnScope ["self"] ["self"] (C8.fnScope (sT 11)) := ⟨rfl, rfl, rfl, by decide +kernel, rfl, by decide +kernel, by decide +kernel⟩
def spTIds (C : Addr) : Sp := fun vs H Q _ => ∃ (t s d : Addr) (N : List Addr) (es : TEnts), vs = [.ref t] ∧ TabAt C H N t s d es ∧ ∀ (ws : List Str) (p : Addr) (H' : Hp), ws.Perm (es.map (·.1)) → sortedS ws = true → H p = none → Same H H' → H' p = some (.lst (ws.map V.str)) → Q (.ref p) H'
theorem ok_tids {f : Addr} {fd : FuncData} (c : TCls K C) (me : Meth K C "ids" f) (F : C8.Fun K "ids" "Tables.ids" (sT 11) f fd) (b : Binds K fd ["self"] []) (ms : mg "sorted" = none) : C8.Met P w K mg base 1 C "ids" (spTIds C) [] := by
  refine C8.met0 c.cls me F b scTIds (fun vs H Q E h => ?_) (fun cdv A0 outer s0 H vs Q E hr h => ?_)
  · obtain ⟨t, s, d, N, es, rfl, _⟩ := h
    rfl
  obtain ⟨t, s, d, N, es, rfl, x, q⟩ := h
  refine ⟨_, pss_one (ps_ret (pe_callB (cr_sortDA rfl) (by rfl) ms (by decide +kernel) (pa_cons (pe_fld (pv 0) (by rfl)) pa_nil))), ?_⟩
  obtain ⟨dx, e⟩ := x.ins
  obtain ⟨xs, h1, h2⟩ := x.rows
  refine ⟨_, rfl, t, C, dx, _, .ref d, rfl, e, c.cls, c.n2, rfl, d, _, xs.map (·.1), rfl, .inl h1, tkD_keys xs, by rw [List.length_map, h2.len]; exact x.few, fun ws p pm so np => ?_⟩
  rw [h2.keys] at pm
  exact q ws p _ pm so np (same_new np _) upd_same
theorem scTOf : FnScope ["self", "ident"] ["self", "ident"] (C8.fnScope (sT 12)) := ⟨rfl, rfl, rfl, by decide +kernel, rfl, by decide +kernel, by decide +kernel⟩
def spTOf (C : Addr) : Sp := fun vs H Q _ => ∃ (t s d : Addr) (N : List Addr) (es : TEnts) (id : Str) (e : TEnt), vs = [.ref t, .str id] ∧ TabAt C H N t s d es ∧ id.length ≤ 100000 ∧ idB id = true ∧ findS es id = some e ∧ ∀ H', Same H H' → Q (.str e.1) H'
theorem ok_tof {f f1 : Addr} {fd fd1 : FuncData} (c : TCls K C) (me : Meth K C "table_of" f) (F : C8.Fun K "table_of" "Tables.table_of" (sT 12) f fd) (b : Binds K fd ["self", "ident"] [])
    (G : FnOk P w K mg base CX0 3 f1 fd1 ["thing"] spIsId) (n1 : Nmd K mg "is_id" f1 fd1 ["thing"]) : C8.Met P w K mg base 4 C "table_of" (spTOf C) [] := by
  refine C8.met0 c.cls me F b scTOf (fun vs H Q E h => ?_) (fun cdv A0 outer s0 H vs Q E hr h => ?_)
  · obtain ⟨t, s, d, N, es, id, en, rfl, _⟩ := h
    rfl
  obtain ⟨t, s, d, N, es, id, en, rfl, x, hz, hi, hf, q⟩ := h
  refine ⟨_, (pss_cons (ps_if (PW.pt (pw_or (pt_not (pt_val (pe_call G hr (by rfl) n1.m n1.k n1.b .nil pass0 (pa_cons (pv 1) pa_nil)))) (pw_or1 (pt_cmp (pc_dnotin (hu_of hr) (pv 1) (pe_fld (pv 0) (by rfl))))))) (pss_one (ps_ret pe_non)) pss_nil)
    (pss_one (ps_ret (pe_ix ix_tup (pe_dget (hu_of hr) (pe_fld (pv 0) (by rfl)) (pv 1) (fun _ _ => rfl)) pe_int (fun _ _ => rfl))))), ?_⟩
  refine ⟨_, rfl, id, rfl, hz, fun H1 s1 => ⟨_, rfl, ?_⟩⟩
  rw [hi]
  have x1 := x.same s1
  obtain ⟨dx, e⟩ := x1.ins
  rcases x1.find id with ⟨f1, g⟩ | ⟨qq, a, en2, f1, g, h1, _⟩
  · rw [hf] at f1
    cases f1
  rw [hf] at f1
  cases f1
  refine ff_if rfl ⟨_, rfl, _, rfl, t, C, dx, _, .ref d, rfl, e, c.cls, c.n2, rfl, d, _, rfl, g, _, rfl, ff_if rfl ?_⟩
  exact ⟨_, rfl, t, C, dx, _, .ref d, rfl, e, c.cls, c.n2, rfl, .str id, rfl, d, _, rfl, g, qq, _, 0, .str en.1, rfl, rfl, .inl (.inl h1), atI_nat (j := 0) rfl, q H1 s1⟩
theorem scTDrop : FnScope ["self", "table", "ident"] ["self", "table", "ident"] (C8.fnScope (sT 9)) := ⟨rfl, rfl, rfl, by decide +kernel, rfl, by decide +kernel, by decide +kernel⟩
def spTDrop (C : Addr) : Sp := fun vs H Q _ => ∃ (t s d : Addr) (N : List Addr) (es : TEnts) (tb id : Str), vs = [.ref t, .str tb, .str id] ∧ TabAt C H N t s d es ∧ id.length ≤ 100000 ∧ hasE es tb id = true ∧ d ∈ N ∧ t ≠ d ∧
  ∀ H', But d H H' → TabAt C H' N t s d (dropS es id) → Q .non H'
theorem ok_tdrop {f : Addr} {fd : FuncData} (c : TCls K C) (me : Meth K C "drop" f) (F : C8.Fun K "drop" "Tables.drop" (sT 9) f fd) (b : Binds K fd ["self", "table", "ident"] [])
    (M : C8.Met P w K mg base 4 C "_has" (spTHas C) []) : C8.Met P w K mg base 5 C "drop" (spTDrop C) [] := by
  refine C8.met0 c.cls me F b scTDrop (fun vs H Q E h => ?_) (fun cdv A0 outer s0 H vs Q E hr h => ?_)
  · obtain ⟨t, s, d, N, es, tb, id, rfl, _⟩ := h
    rfl
  obtain ⟨t, s, d, N, es, tb, id, rfl, x, hz, hh, hd, td, q⟩ := h
  refine ⟨_, (pss_cons (ps_if (pt_not (pt_val (C8.pe_mt M hr (by decide) (pv 0) (pa_cons (pv 1) (pa_cons (pv 2) pa_nil))))) (pss_one ps_never) pss_nil)
    (pss_one (ps_ddel (pe_fld (pv 0) (by rfl)) (pv 2)))), ?_⟩
  obtain ⟨dx, e⟩ := x.ins
  refine ⟨_, rfl, t, dx, _, rfl, e, rfl, _, rfl, _, rfl, t, s, d, N, es, tb, id, rfl, x, hz, fun H1 s1 => ⟨_, rfl, ?_⟩⟩
  rw [hh]
  refine ff_if rfl ?_
  have x1 := x.same s1
  obtain ⟨dx1, e1⟩ := x1.ins
  obtain ⟨xs, h1, h2⟩ := x1.rows
  have there : (valV (tkD xs) (.inr id)).isSome = true := by
    rw [tk_find]
    rcases h2.find id with ⟨f1, f2⟩ | ⟨v, en, f1, f2, _⟩
    · unfold hasE at hh
      rw [f1, Bool.and_false] at hh
      cases hh
    · rw [f1]
      rfl
  refine ⟨_, rfl, t, C, dx1, _, .ref d, rfl, e1, c.cls, c.n2, rfl, _, rfl, d, tkD xs, .inr id, rfl, h1, rfl, there, ?_⟩
  rw [tk_dropS]
  refine q _ (fun a o h n => by rw [upd_ne n]; exact s1 _ _ h) ⟨⟨dx1, by rw [upd_ne td]; exact e1⟩, ⟨_, upd_same, (h2.drop id).mono fun _ _ h => h.mono fun c o nc e => by rw [upd_ne fun n => nc (by rw [n]; exact hd)]; exact e⟩, ?_, ?_⟩
  · rw [dropS_keys]
    exact List.Nodup.sublist List.filter_sublist x1.nd
  · exact Nat.le_trans (List.length_filter_le _ _) x1.few
end
end Lw

set_option Elab.async false
set_option linter.all false
set_option maxRecDepth 100000
set_option maxHeartbeats 8000000
namespace Lw
open PySem PySem.Spec PyProof.Rows L2
/-! ### Tables: rows read, rows put -/
structure Errs (P : Program) (w : World) (K : PySem.W.Frag) (mg : Str → Option Value) (base : Heap) (B : Addr) (D : Nat → Addr) : Prop where
  full : OneT P w K mg base B (D 1) "Full" "limit"
  taken : OneT P w K mg base B (D 2) "Taken" "ident"
  badrow : OneT P w K mg base B (D 3) "BadRow" "ident"
  wrong : OneT P w K mg base B (D 4) "Wrong" "place"
/-- what such an error holds -/
def errF (k : Nat) (id : Str) : List (Str × V) := match k with
  | 1 => [("limit", .int 200)]
  | 2 => [("ident", .str id)]
  | 3 => [("ident", .str id)]
  | _ => [("place", .int 0)]
def ordR (r : Rw) : Rw := (sortT (r.map (·.1))).map fun z => (z, (findS r z).getD .non)
def fieldsOf (tabs : Tabs) (tb : Str) : List Str := sortT ((tabOf tabs tb).map (·.1))
/-- how a row is answered: 0, or the error's number -/
def setN (tabs : Tabs) (es : TEnts) (tb id : Str) (r : Rw) : Nat :=
  if tb ∉ tabs.map (·.1) ∨ idB id = false then 4
  else if rowOk (fieldsOf tabs tb) r = false then 3
  else match findS es id with
    | some e => if e.1 = tb then 0 else 2
    | none => if 200 ≤ es.length then 1 else 0
theorem perm_in {ys ks : List Str} (p : ys.Perm ks) {z : Str} : inV (V.str z) (ys.map V.str) = decide (z ∈ ks) := by
  rw [inV_str]
  exact decide_eq_decide.mpr p.mem_iff
theorem findS_tab {tabs : Tabs} (nd : (tabs.map (·.1)).Nodup) {tb : Str} (m : tb ∈ tabs.map (·.1)) : (tb, tabOf tabs tb) ∈ tabs := by
  obtain ⟨p, hp, rfl⟩ := List.mem_map.mp m
  obtain ⟨a, fs⟩ := p
  have e := tabAt_of nd hp
  show (a, tabOf tabs a) ∈ tabs
  rw [tabOf_at e]
  exact hp
section
variable {P : Program} {w : World} {K : PySem.W.Frag} {mg : Str → Option Value} {base : Heap} {C : Addr}
abbrev NTG : List Str := ["self", "at", "table", "ident"]
theorem scTG : FnScope NTG ["self", "at"] (C8.fnScope (sT 5)) := ⟨rfl, rfl, rfl, by decide +kernel, rfl, by decide +kernel, by decide +kernel⟩
def spTGet (K : PySem.W.Frag) (C : Addr) : Sp := fun vs H Q _ => ∃ (t s d at_ : Addr) (N : List Addr) (es : TEnts) (tb id : Str) (e : TEnt), vs = [.ref t, .ref at_] ∧ SqT K H at_ [.str tb, .str id] ∧ TabAt C H N t s d es ∧ id.length ≤ 100000 ∧ hasE es tb id = true ∧ findS es id = some e ∧
  ∀ (p : Addr) (H' : Hp), Same H H' → H p = none → RwAt H' p e.2 → Q (.ref p) H'
theorem ok_tget {f : Addr} {fd : FuncData} (c : TCls K C) (F : C8.Fun K "__getitem__" "Tables.__getitem__" (sT 5) f fd)
    (M : C8.Met P w K mg base 4 C "_has" (spTHas C) []) (md : mg "dict" = none) : FnOk P w K mg base CX0 5 f fd ["self", "at"] (spTGet K C) := by
  refine C8.fn0 F scTG (fun vs H Q E h => ?_) (fun cdv A0 outer s0 H vs Q E hr h => ?_)
  · obtain ⟨t, s, d, a, N, es, tb, id, e, rfl, _⟩ := h
    rfl
  obtain ⟨t, s, d, a, N, es, tb, id, en, rfl, sq, x, hz, hh, hf, q⟩ := h
  refine ⟨_, (pss_cons (ps_asg (pv 1) (pg_tup rfl (pgs_cons (pg_name (i := 2) scTG.nd rfl (.inl rfl)) (pgs_cons (pg_name (i := 3) scTG.nd rfl (.inl rfl)) pgs_nil))))
    (pss_cons (ps_if (pt_not (pt_val (C8.pe_mt M hr (by decide) (pv 0) (pa_cons (pv 2) (pa_cons (pv 3) pa_nil))))) (pss_one ps_never) pss_nil)
    (pss_one (ps_ret (pe_callTy call_dictD (by rfl) md (by decide +kernel) (pa_cons (pe_ix ix_tup (pe_dget (hu_of hr) (pe_fld (pv 0) (by rfl)) (pv 3) (fun _ _ => rfl)) pe_int (fun _ _ => rfl)) pa_nil)))))), ?_⟩
  refine ⟨_, rfl, a, _, rfl, sq, rfl, .str tb, [.str id], rfl, .str id, [], rfl, rfl, ?_⟩
  obtain ⟨dx, e⟩ := x.ins
  refine ⟨_, rfl, t, dx, _, rfl, e, rfl, _, rfl, _, rfl, t, s, d, N, es, tb, id, rfl, x, hz, fun H1 s1 => ⟨_, rfl, ?_⟩⟩
  rw [hh]
  refine ff_if rfl ?_
  have x1 := x.same s1
  obtain ⟨dx1, e1⟩ := x1.ins
  rcases x1.find id with ⟨f1, g⟩ | ⟨qq, r, en2, f1, g, h1, h2⟩
  · rw [hf] at f1
    cases f1
  rw [hf] at f1
  cases f1
  refine ⟨_, rfl, t, C, dx1, _, .ref d, rfl, e1, c.cls, c.n2, rfl, _, rfl, d, _, rfl, g, qq, _, 1, .ref r, rfl, rfl, .inl (.inl h1), atI_nat (j := 1) rfl, r, _, rfl, .inl h2.e, fun p np => ?_⟩
  exact q p _ (s1.trans (same_new np _)) (s1.free np) ⟨upd_same, h2.nd, h2.few, h2.ok⟩
abbrev NTS : List Str := ["self", "at", "worth", "table", "ident", "name"]
theorem scTS : FnScope NTS ["self", "at", "worth"] (C8.fnScope (sT 6)) := ⟨rfl, rfl, rfl, by decide +kernel, rfl, by decide +kernel, by decide +kernel⟩
def spTSet (K : PySem.W.Frag) (C CS : Addr) (D : Nat → Addr) : Sp := fun vs H Q E => ∃ (t s d at_ wr : Addr) (N : List Addr) (es : TEnts) (tabs : Tabs) (rs : List Rul) (A : Addr → Prop) (tb id : Str) (r : Rw), vs = [.ref t, .ref at_, .ref wr] ∧ SqT K H at_ [.str tb, .str id] ∧ TabAt C H N t s d es ∧ SchAt CS H A s tabs rs ∧ TabsOk tabs ∧ (∀ p ∈ tabs, LinkF p.2) ∧
  id.length ≤ 100000 ∧ RwAt H wr r ∧ d ∈ N ∧ t ≠ d ∧ (∀ n ∈ N, H n ≠ none) ∧ es.length ≤ 900 ∧
  (setN tabs es tb id r = 0 → ∀ H', But d H H' → TabAt C H' N t s d (putS es id (tb, ordR r)) → Q .non H') ∧
  (∀ k, setN tabs es tb id r = k → k ≠ 0 → ∀ dd H', Same H H' → H' dd = some (.xd (errF k id)) → E (.ref (D k)) (some dd) H')
theorem ok_tset {CS f f1 : Addr} {fd fd1 : FuncData} {B : Addr} {D : Nat → Addr} {t1 : Tok} (c : TCls K C) (cs : InitCls K CS) (F : C8.Fun K "__setitem__" "Tables.__setitem__" (sT 6) f fd) (T : Errs P w K mg base B D)
    (M2 : C8.Met P w K mg base 1 CS "tables" (spMTables CS) []) (M14 : C8.Met P w K mg base 5 CS "is_row" (spMRow CS) [])
    (G : FnOk P w K mg base CX0 3 f1 fd1 ["thing"] spIsId) (n1 : Nmd K mg "is_id" f1 fd1 ["thing"]) (ml : mg "len" = none) (ms : mg "sorted" = none) (mM : mg "MOST_ROWS" = some (.int 200 t1)) : FnOk P w K mg base (L2N.CX P w) 6 f fd ["self", "at", "worth"] (spTSet K C CS D) := by
  refine meth_okN F scTS (fun vs H Q E h => ?_) (fun cdv A0 outer s0 H vs Q E hr h => ?_)
  · obtain ⟨t, s, d, a, wr, N, es, tabs, rs, A, tb, id, r, rfl, _⟩ := h
    rfl
  obtain ⟨t, s, d, a, wr, N, es, tabs, rs, A, tb, id, r, rfl, sq, x, xs, ok, lk, hz, xr, hd, td, hN, few, q0, qE⟩ := h
  have tk : L2N.Takes (cxOf (L2N.CX P w) P w K mg base NTS "Tables.__setitem__" (C8.fnScope (sT 6)) f cdv A0 outer s0 H E) (fun cls d _ H => E cls d H) := L2N.takes_of rfl rfl rfl rfl
  obtain ⟨dx, e⟩ := x.ins
  have tail : ∃ u, PSs (cxOf (L2N.CX P w) P w K mg base NTS "Tables.__setitem__" (C8.fnScope (sT 6)) f cdv A0 outer s0 H E) ((C8.fnBody (sT 6)).drop 5) u ∧ ∀ H4, Same H H4 → setN tabs es tb id r = 0 → u { nx := fun _ H' => Q .non H', rt := Q } [some (.ref t), some (.ref a), some (.ref wr), some (.str tb), some (.str id), none] H4 := by
    refine ⟨_, (pss_one (ps_dput (hu_of hr) (pe_fld (pv 0) (by rfl)) (pv 4) (pe_tup (pa_cons (pv 3) (pa_cons (pe_dc (own := [("name", 5)]) (g := gName 5) (tt := tYes) rfl scTS.nd (pi_list (pe_callB (call_sortedD rfl) (by rfl) ms (by decide +kernel) (pa_cons (pv 2) pa_nil))) (blkOk_by (N := NTS) (sc := C8.fnScope (sT 6)) (by decide +kernel)) (fun _ _ _ _ _ => pg_name (i := 5) scTS.nd rfl (Or.inl rfl)) (fun _ _ _ _ _ => pts_nil) (fun _ _ _ _ _ => pv 5) (fun _ _ _ _ _ => pe_dget (hu_of hr) (pv 2) (pv 5) (fun _ _ => rfl))) pa_nil))) (by rfl))), fun H4 s4 z0 => ?_⟩
    have x4 := x.same s4
    have e4 := s4 _ _ e
    obtain ⟨ys, h1, h2⟩ := x4.rows
    have r64 : (r.map (·.1)).length < 64 := by
      have := xr.few
      rw [List.length_map]
      omega
    refine ⟨_, rfl, _, rfl, wr, tkD r, r.map (·.1), rfl, .inl (s4 _ _ xr.e), tkD_keys r, r64, fun zs p pm so np => ?_⟩
    rw [sort_eq pm so]
    obtain ⟨ks, eks⟩ : ∃ ks, ks = sortT (r.map (·.1)) := ⟨_, rfl⟩
    rw [← eks]
    have s5 : Same H (upd H4 p (.lst (ks.map V.str))) := s4.trans (same_new np _)
    have hp : (upd H4 p (.lst (ks.map V.str))) p = some (.lst (ks.map V.str)) := upd_same
    generalize (upd H4 p (.lst (ks.map V.str))) = H5 at s5 hp ⊢
    refine ⟨p, rfl, ⟨_, .inl (.inl hp)⟩, fun G nG => ?_⟩
    have ndk : ks.Nodup := by rw [eks]; exact sortT_nodup xr.nd
    refine dc_list (K := K) (a := p) (xs := ks.map V.str) (fun i Hy => Same H5 Hy ∧ Hy G = some (.dK (tkD ((ks.take i).map fun z => (z, (findS r z).getD .non))))) ⟨same_new nG _, upd_same⟩ (fun i Hy _ q => .inl (.inl (q.1 _ _ hp))) ?_ ?_
    · rintro i y Hy hy ⟨s6, hG⟩
      obtain ⟨z, hz2, rfl⟩ := map_get hy
      have zk : z ∈ r.map (·.1) := by
        have h3 := List.mem_of_getElem? hz2
        rw [eks] at h3
        exact sortT_mem.mp h3
      obtain ⟨v, hv⟩ := findS_mem zk
      have dg : DGet Hy wr (.str z) (some v) := .inl ⟨tkD r, .inr z, .inl (s6 _ _ (s5 _ _ xr.e)), rfl, by rw [tk_find, hv]⟩
      refine ⟨rfl, yes_if ⟨_, rfl, _, rfl, .str z, rfl, wr, v, rfl, dg, ?_⟩⟩
      refine ⟨_, .inr z, rfl, hG, small1000 (by
        have h4 := xr.few
        have h5 := congrArg List.length eks
        rw [sortT_len, List.length_map] at h5
        unfold tkD
        rw [List.length_map, List.length_map, List.length_take]
        omega), Same.put s6 nG, ?_⟩
      have zno : z ∉ ((ks.take i).map fun z => (z, (findS r z).getD V.non)).map (·.1) := by
        rw [List.map_map]
        show z ∉ (ks.take i).map fun y => y
        rw [List.map_id']
        exact take_not_mem ndk hz2
      rw [upd_same, tk_putS, putS_out zno, List.take_add_one, hz2, List.map_append]
      show _ = some (HO.dK (tkD (_ ++ [(z, (findS r z).getD V.non)])))
      rw [hv]
      rfl
    rintro Hy ⟨s6, hG⟩
    rw [List.length_map, List.take_length] at hG
    have s46 := s5.trans s6
    have nGH : H G = none := s5.free nG
    refine ⟨small (by show 2 ≤ 1000; decide), fun qq nq => ?_⟩
    have s7 : Same H (upd Hy qq (.tup [.str tb, .ref G])) := s46.trans (same_new nq _)
    have hq : (upd Hy qq (.tup [.str tb, .ref G])) qq = some (.tup [.str tb, .ref G]) := upd_same
    have hG7 := same_new nq (.tup [.str tb, .ref G]) _ _ hG
    have nqH : H qq = none := s46.free nq
    generalize (upd Hy qq (.tup [.str tb, .ref G])) = H7 at s7 hq hG7 ⊢
    have x7 := x.same s7
    obtain ⟨xs7, g1, g2⟩ := x7.rows
    have rG : RwAt H7 G (ordR r) := by
      refine ⟨by rw [hG7, eks]; rfl, ?_, ?_, ?_⟩
      · show (((sortT (r.map (·.1))).map fun z => (z, (findS r z).getD V.non)).map (·.1)).Nodup
        rw [List.map_map]
        show ((sortT (r.map (·.1))).map fun y => y).Nodup
        rw [List.map_id']
        exact sortT_nodup xr.nd
      · show ((sortT (r.map (·.1))).map fun z => (z, (findS r z).getD V.non)).length ≤ 60
        rw [List.length_map, sortT_len, List.length_map]
        exact xr.few
      · intro pr hpr
        obtain ⟨z, hz3, rfl⟩ := List.mem_map.mp hpr
        obtain ⟨v, hv⟩ := findS_mem (sortT_mem.mp hz3)
        show CellV ((findS r z).getD V.non)
        rw [hv]
        exact xr.ok _ (findS_some hv)
    have qN : qq ∉ N := fun m => hN qq m nqH
    have GN : G ∉ N := fun m => hN G m nGH
    refine ⟨_, rfl, t, C, dx, _, .ref d, rfl, s7 _ _ e, c.cls, c.n2, rfl, _, rfl, d, _, rfl, DPut.k (k := .inr id) g1 (small1000 (by rw [tk_len, g2.len]; omega)), ?_⟩
    rw [tk_putS]
    refine q0 z0 _ (fun b o h n => by rw [upd_ne n]; exact s7 _ _ h) ⟨⟨dx, by rw [upd_ne td]; exact s7 _ _ e⟩, ⟨_, upd_same, ?_⟩, ?_, ?_⟩
    · refine (g2.put id (x := V.ref qq) (y := (tb, ordR r)) ⟨qq, G, rfl, hq, rG, qN, GN⟩).mono fun _ _ h => h.mono fun b o nb eb => ?_
      rw [upd_ne fun n => nb (by rw [n]; exact hd)]
      exact eb
    · by_cases m : id ∈ es.map (·.1)
      · rw [putS_in m]
        exact x.nd
      · rw [putS_out m, List.map_append, List.nodup_append]
        refine ⟨x.nd, by simp, ?_⟩
        intro u hu v hv
        simp only [List.map_cons, List.map_nil, List.mem_singleton] at hv
        subst hv
        exact fun h => m (h ▸ hu)
    · by_cases m : id ∈ es.map (·.1)
      · have h9 := congrArg List.length (putS_in (v := (tb, ordR r)) m)
        rw [List.length_map, List.length_map] at h9
        rw [h9]
        exact x.few
      · rw [putS_out m, List.length_append]
        show es.length + 1 ≤ 1000
        omega
  obtain ⟨u, tailP, tailQ⟩ := tail
  refine ⟨_, (pss_cons (ps_asg (pv 1) (pg_tup rfl (pgs_cons (pg_name (i := 3) scTS.nd rfl (.inl rfl)) (pgs_cons (pg_name (i := 4) scTS.nd rfl (.inl rfl)) pgs_nil))))
    (pss_cons (ps_if (PW.pt (pw_or (pt_cmpR (r := rIn K true) op_notIn_seq (pv 3) (C8.pe_mt0 M2 hr (by decide) (pe_fld (pv 0) (by rfl))) (by rfl)) (pw_or1 (pt_not (pt_val (pe_call G (hr.mono (by decide)) (by rfl) n1.m n1.k n1.b .nil pass0 (pa_cons (pv 4) pa_nil))))))) (pss_one (ps_one T.wrong (hr.mono (by decide)) rfl tk (by rfl) pe_int)) pss_nil)
    (pss_cons (ps_if (pt_not (pt_val (C8.pe_mt M14 hr (by decide) (pe_fld (pv 0) (by rfl)) (pa_cons (pv 3) (pa_cons (pv 2) pa_nil))))) (pss_one (ps_one T.badrow (hr.mono (by decide)) rfl tk (by rfl) (pv 4))) pss_nil)
    (pss_cons (ps_if (PW.pt (pw_and (pt_cmp (pc_din (hu_of hr) (pv 4) (pe_fld (pv 0) (by rfl)))) (pw_and1 (pt_cmpR op_ne (pe_ix ix_tup (pe_dget (hu_of hr) (pe_fld (pv 0) (by rfl)) (pv 4) (fun _ _ => rfl)) pe_int (fun _ _ => rfl)) (pv 3) (nomark _))))) (pss_one (ps_one T.taken (hr.mono (by decide)) rfl tk (by rfl) (pv 4))) pss_nil)
    (pss_cons (ps_if (PW.pt (pw_and (pt_cmp (pc_dnotin (hu_of hr) (pv 4) (pe_fld (pv 0) (by rfl)))) (pw_and1 (pt_cmpR op_ge (pe_callB call_lenD (by rfl) ml (by decide +kernel) (pa_cons (pe_fld (pv 0) (by rfl)) pa_nil)) (pe_glob (v := .int 200) (by rfl) mM ⟨t1, rfl⟩) (nomark _))))) (pss_one (ps_one T.full (hr.mono (by decide)) rfl tk (by rfl) (pe_glob (v := .int 200) (by rfl) mM ⟨t1, rfl⟩))) pss_nil)
    tailP))))), ?_⟩
  refine ⟨_, rfl, a, _, rfl, sq, rfl, .str tb, [.str id], rfl, .str id, [], rfl, rfl, ?_⟩
  obtain ⟨sdx, dT, dR, se, d1, d2⟩ := sch_fields xs
  refine ⟨_, rfl, _, rfl, t, C, dx, _, .ref s, rfl, e, c.cls, c.n1, rfl, s, sdx, _, rfl, se, rfl, s, tabs, rs, A, rfl, xs, fun p H1 s1 np hp => ?_⟩
  refine ⟨p, _, rfl, .inl (.inl (.inl hp)), rfl, flat_strs _, _, rfl, ?_⟩
  rw [if_pos rfl, perm_in (sortT_perm (tabs.map (·.1)))]
  by_cases hm : tb ∈ tabs.map (·.1)
  case neg =>
    rw [decide_eq_false hm]
    refine tt_if rfl (tt_if rfl ?_)
    exact one_read T.wrong.t.ox T.wrong.no fun dd nd => qE 4 (if_pos (.inl hm)) (by decide) dd _ (s1.trans (same_new nd _)) upd_same
  rw [decide_eq_true hm]
  refine ff_if rfl ⟨_, rfl, id, rfl, hz, fun H2 s2 => ⟨_, rfl, ?_⟩⟩
  have s12 := s1.trans s2
  cases hi : idB id with
  | false =>
    refine tt_if rfl ?_
    exact one_read T.wrong.t.ox T.wrong.no fun dd nd => qE 4 (if_pos (.inr hi)) (by decide) dd _ (s12.trans (same_new nd _)) upd_same
  | true =>
  have n1 : ¬ (tb ∉ tabs.map (·.1) ∨ idB id = false) := fun h => h.elim (fun h => h hm) fun h => by
    rw [hi] at h
    cases h
  refine ff_if rfl ?_
  have m2 := findS_tab ok.nd hm
  refine ⟨_, rfl, t, C, dx, _, .ref s, rfl, s12 _ _ e, c.cls, c.n1, rfl, s, sdx, _, rfl, s12 _ _ se, rfl, _, rfl, _, rfl, s, wr, tabs, rs, tb, tabOf tabs tb, r, A, rfl, xs.mono fun c o _ e => s12 _ _ e, ok, m2, lk _ m2, xr.same s12, fun H3 s3 => ⟨_, rfl, ?_⟩⟩
  have s13 := s12.trans s3
  cases hro : rowOk (sortT ((tabOf tabs tb).map (·.1))) r with
  | false =>
    refine tt_if rfl ?_
    exact ⟨_, rfl, one_read T.badrow.t.ox T.badrow.no fun dd nd => qE 3 ((if_neg n1).trans (if_pos hro)) (by decide) dd _ (s13.trans (same_new nd _)) upd_same⟩
  | true =>
  have n2 : ¬ rowOk (fieldsOf tabs tb) r = false := fun h => by
    rw [show rowOk (fieldsOf tabs tb) r = true from hro] at h
    cases h
  refine ff_if rfl ?_
  have x3 := x.same s13
  have e3 := s13 _ _ e
  rcases x3.find id with ⟨f1, g⟩ | ⟨qq, a2, en, f1, g, h1, _⟩
  · refine ⟨_, rfl, _, rfl, t, C, dx, _, .ref d, rfl, e3, c.cls, c.n2, rfl, d, _, rfl, g, _, rfl, ff_if rfl (ff_if rfl ?_)⟩
    obtain ⟨xs3, g1, g2⟩ := x3.rows
    refine ⟨_, rfl, _, rfl, t, C, dx, _, .ref d, rfl, e3, c.cls, c.n2, rfl, d, _, rfl, g, _, rfl, tt_if rfl ?_⟩
    refine ⟨_, rfl, t, C, dx, _, .ref d, rfl, e3, c.cls, c.n2, rfl, d, _, rfl, g1, _, _, rfl, rfl, _, rfl, ?_⟩
    rw [tk_len, g2.len]
    by_cases big : 200 ≤ es.length
    · refine tt_if (decide_eq_true (by omega)) ?_
      exact one_read T.full.t.ox T.full.no fun dd nd => qE 1 (by unfold setN; rw [if_neg n1, if_neg n2, f1]; exact if_pos big) (by decide) dd _ (s13.trans (same_new nd _)) upd_same
    · refine ff_if (decide_eq_false (by omega)) ?_
      exact tailQ _ s13 (by unfold setN; rw [if_neg n1, if_neg n2, f1]; exact if_neg big)
  · refine ⟨_, rfl, _, rfl, t, C, dx, _, .ref d, rfl, e3, c.cls, c.n2, rfl, d, _, rfl, g, _, rfl, tt_if rfl ?_⟩
    refine ⟨_, rfl, t, C, dx, _, .ref d, rfl, e3, c.cls, c.n2, rfl, .str id, rfl, d, _, rfl, g, qq, _, 0, .str en.1, rfl, rfl, .inl (.inl h1), atI_nat (j := 0) rfl, .str tb, rfl, rfl, _, rfl, ?_⟩
    by_cases same : en.1 = tb
    · refine ff_if (by rw [same, decide_eq_true rfl]; rfl) ?_
      refine ⟨_, rfl, _, rfl, t, C, dx, _, .ref d, rfl, e3, c.cls, c.n2, rfl, d, _, rfl, g, _, rfl, ff_if rfl (ff_if rfl ?_)⟩
      exact tailQ _ s13 (by unfold setN; rw [if_neg n1, if_neg n2, f1]; exact if_pos same)
    · refine tt_if (by rw [decide_eq_false fun n => same (V.str.inj n)]; rfl) ?_
      exact ⟨_, rfl, one_read T.taken.t.ox T.taken.no fun dd nd => qE 2 (by unfold setN; rw [if_neg n1, if_neg n2, f1]; exact if_neg same) (by decide) dd _ (s13.trans (same_new nd _)) upd_same⟩
end
end Lw

set_option Elab.async false
set_option linter.all false
set_option maxRecDepth 100000
set_option maxHeartbeats 8000000
namespace Lw
open PySem PySem.Spec PyProof.Rows L2
/-! ### Tables.joined -/
theorem TabAt.all {C : Addr} {H : Hp} {N : List Addr} {t s d : Addr} {es : TEnts} (x : TabAt C H N t s d es) : TabAt C H [] t s d es := by
  obtain ⟨xs, h1, h2⟩ := x.rows
  refine ⟨x.ins, ⟨xs, h1, h2.mono fun v e h => ?_⟩, x.nd, x.few⟩
  obtain ⟨q, a, e1, e2, e3, _, _⟩ := h
  exact ⟨q, a, e1, e2, e3, List.not_mem_nil, List.not_mem_nil⟩
theorem tkD_nd {xs : List (Str × V)} (h : (xs.map (·.1)).Nodup) : ((tkD xs).map (·.1)).Nodup := by
  rw [tkD_keys]
  exact inr_nodup h
theorem tkD_inj : ∀ {xs ys : List (Str × V)}, tkD xs = tkD ys → xs = ys
  | [], [], _ => rfl
  | [], _ :: _, h => nomatch h
  | _ :: _, [], h => nomatch h
  | (a, u) :: r, (b, v) :: t, h => by
    have h1 : ((Sum.inr a : Key), u) :: tkD r = ((Sum.inr b : Key), v) :: tkD t := h
    injection h1 with h2 h3
    injection h2 with h4 h5
    rw [Sum.inr.inj h4, h5, tkD_inj h3]
theorem tkD_app (xs ys : List (Str × V)) : tkD xs ++ tkD ys = tkD (xs ++ ys) := (List.map_append ..).symm
section
variable {P : Program} {w : World} {K : PySem.W.Frag} {mg : Str → Option Value} {base : Heap} {C : Addr}
abbrev NTJ : List Str := ["self", "other", "ident", "both"]
theorem scTJ : FnScope NTJ ["self", "other"] (C8.fnScope (sT 16)) := ⟨rfl, rfl, rfl, by decide +kernel, rfl, by decide +kernel, by decide +kernel⟩
def spTJoin (C CS : Addr) (D : Nat → Addr) : Sp := fun vs H Q E => ∃ (t s d o s2 d2 sdx : Addr) (fs : List (Str × V)) (N N2 : List Addr) (es es2 : TEnts), vs = [.ref t, .ref o] ∧ TabAt C H N t s d es ∧ TabAt C H N2 o s2 d2 es2 ∧ H s = some (.ins CS sdx fs) ∧ es.length + es2.length ≤ 900 ∧
  ((∀ id ∈ es.map (·.1), id ∉ es2.map (·.1)) → es.length + es2.length ≤ 200 → ∀ (t3 d3 : Addr) (H' : Hp), Same H H' → TabAt C H' [] t3 s d3 (es ++ es2) → Q (.ref t3) H') ∧
  ((∀ id ∈ es.map (·.1), id ∉ es2.map (·.1)) → 200 < es.length + es2.length → ∀ dd H', Same H H' → H' dd = some (.xd (errF 1 "")) → E (.ref (D 1)) (some dd) H') ∧
  (∀ id, id ∈ es.map (·.1) → id ∈ es2.map (·.1) → ∀ dd H', Same H H' → H' dd = some (.xd (errF 2 id)) → E (.ref (D 2)) (some dd) H')
theorem ok_tjoin {CS f : Addr} {fd : FuncData} {B : Addr} {D : Nat → Addr} {t1 : Tok} (c : TCls K C) (F : C8.Fun K "joined" "Tables.joined" (sT 16) f fd) (T : Errs P w K mg base B D)
    (M11 : C8.Met P w K mg base 1 C "ids" (spTIds C) []) (MT : C8.Mak P w K mg base 1 "Tables" C (spTInit C CS) []) (ml : mg "len" = none) (mM : mg "MOST_ROWS" = some (.int 200 t1)) : FnOk P w K mg base (L2N.CX P w) 4 f fd ["self", "other"] (spTJoin C CS D) := by
  refine meth_okN F scTJ (fun vs H Q E h => ?_) (fun cdv A0 outer s0 H vs Q E hr h => ?_)
  · obtain ⟨t, s, d, o, s2, d2, sdx, fs, N, N2, es, es2, rfl, _⟩ := h
    rfl
  obtain ⟨t, s, d, o, s2, d2, sdx, fs, N, N2, es, es2, rfl, x, y, se, few, q0, q1, q2⟩ := h
  have tk : L2N.Takes (cxOf (L2N.CX P w) P w K mg base NTJ "Tables.joined" (C8.fnScope (sT 16)) f cdv A0 outer s0 H E) (fun cls d _ H => E cls d H) := L2N.takes_of rfl rfl rfl rfl
  refine ⟨_, (pss_cons (ps_for PassesOwn.leaving rfl (pi_list (C8.pe_mt0 M11 hr (by decide) (pv 0))) (pg_name (i := 2) scTJ.nd rfl (.inl rfl)) (pss_one (ps_if (pt_cmp (pc_din (hu_of hr) (pv 2) (pe_fld (pv 1) (by rfl)))) (pss_one (ps_one T.taken (hr.mono (by decide)) rfl tk (by rfl) (pv 2))) pss_nil)))
    (pss_cons (ps_if (pt_cmpR op_gt (pe_op op_add (pe_callB call_lenD (by rfl) ml (by decide +kernel) (pa_cons (pe_fld (pv 0) (by rfl)) pa_nil)) (pe_callB call_lenD (by rfl) ml (by decide +kernel) (pa_cons (pe_fld (pv 1) (by rfl)) pa_nil))) (pe_glob (v := .int 200) (by rfl) mM ⟨t1, rfl⟩) (nomark _)) (pss_one (ps_one T.full (hr.mono (by decide)) rfl tk (by rfl) (pe_glob (v := .int 200) (by rfl) mM ⟨t1, rfl⟩))) pss_nil)
    (pss_cons (ps_set (i := 3) scTJ.nd rfl (.inl rfl) (C8.pe_mk MT hr (by decide) (by rfl) (pa_cons (pe_fld (pv 0) (by rfl)) pa_nil)))
    (pss_cons (ps_fld (pv 3) (pe_merge2 (pe_fld (pv 0) (by rfl)) (pe_fld (pv 1) (by rfl))) (by rfl))
    (pss_one (ps_ret (pv 3))))))), ?_⟩
  obtain ⟨dx, e⟩ := x.ins
  obtain ⟨dy, ey⟩ := y.ins
  refine ⟨_, rfl, t, dx, _, rfl, e, rfl, t, s, d, N, es, rfl, x, fun ws p H1 pm so np s1 hp => ?_⟩
  refine ⟨p, rfl, ⟨_, .inl (.inl hp)⟩, ?_⟩
  refine for_list (K := K) (a := p) (xs := ws.map V.str) (fun i σ Hx => (∃ v2, σ = [some (.ref t), some (.ref o), v2, none]) ∧ Hx = H1 ∧ ∀ z ∈ ws.take i, z ∉ es2.map (·.1)) ⟨⟨none, rfl⟩, rfl, fun z h => nomatch h⟩ (fun i σ Hx _ q => .inl (.inl (by rw [q.2.1]; exact hp))) ?_ ?_
  · rintro i v σ Hx hi ⟨⟨v2, rfl⟩, rfl, no⟩
    obtain ⟨z, hz, rfl⟩ := map_get hi
    have y1 := y.same s1
    have ey1 := s1 _ _ ey
    have zw : z ∈ es.map (·.1) := pm.mem_iff.mp (List.mem_of_getElem? hz)
    rcases y1.find z with ⟨f1, g⟩ | ⟨qq, a, en, f1, g, h1, _⟩
    · refine ⟨_, rfl, _, rfl, o, C, dy, _, .ref d2, rfl, ey1, c.cls, c.n2, rfl, d2, _, rfl, g, _, rfl, ff_if rfl ?_⟩
      refine ⟨⟨_, rfl⟩, rfl, fun y hy => ?_⟩
      rw [List.take_add_one, hz] at hy
      rcases List.mem_append.mp hy with h | h
      · exact no y h
      · rw [List.mem_singleton.mp h]
        exact findS_none.mp f1
    · refine ⟨_, rfl, _, rfl, o, C, dy, _, .ref d2, rfl, ey1, c.cls, c.n2, rfl, d2, _, rfl, g, _, rfl, tt_if rfl ?_⟩
      exact ⟨_, rfl, one_read T.taken.t.ox T.taken.no fun dd nd => q2 z zw (List.mem_map_of_mem (f := (·.1)) (findS_some f1)) dd _ (s1.trans (same_new nd _)) upd_same⟩
  rintro σ Hx ⟨⟨v2, rfl⟩, rfl, no⟩
  rw [List.length_map, List.take_length] at no
  have dj : ∀ id ∈ es.map (·.1), id ∉ es2.map (·.1) := fun id h => no id (pm.mem_iff.mpr h)
  have x1 := x.same s1
  have y1 := y.same s1
  have e1 := s1 _ _ e
  have ey1 := s1 _ _ ey
  obtain ⟨xs, g1, g2⟩ := x1.rows
  obtain ⟨ys, k1, k2⟩ := y1.rows
  refine ⟨_, rfl, t, C, dx, _, .ref d, rfl, e1, c.cls, c.n2, rfl, d, _, rfl, g1, _, rfl, o, C, dy, _, .ref d2, rfl, ey1, c.cls, c.n2, rfl, d2, _, rfl, k1, _, _, rfl, rfl, _, _, rfl, rfl, _, rfl, ?_⟩
  rw [tk_len, tk_len, g2.len, k2.len]
  by_cases big : 200 < es.length + es2.length
  · refine tt_if (decide_eq_true (by omega)) ?_
    exact one_read T.full.t.ox T.full.no fun dd nd => q1 dj big dd _ (s1.trans (same_new nd _)) upd_same
  refine ff_if (decide_eq_false (by omega)) ?_
  refine ⟨_, rfl, t, C, dx, _, .ref s, rfl, e1, c.cls, c.n1, rfl, fun t3 tdx n3 nd3 ne3 => ?_⟩
  have sN : Same Hx (upd (upd Hx tdx (.own t3)) t3 (.ins C tdx [])) := (same_new nd3 _).trans (same_new (by rw [upd_ne ne3.symm]; exact n3) _)
  refine ⟨t3, tdx, s, sdx, fs, rfl, upd_same, sN _ _ (s1 _ _ se), ne_of_none (s1 _ _ se) n3, fun d3 H2 nd4 keep h3 _ => ⟨rfl, ?_⟩⟩
  have s2 : Same H H2 := fun b u h => keep b u (sN _ _ (s1 _ _ h)) (ne_of_none (s1 _ _ h) n3)
  intro p2 np2
  have kp : ∀ {b : Addr} {u o1 : HO}, H2 b = some u → (upd H2 p2 o1) b = some u := fun h => by rw [upd_ne (ne_of_none h np2)]; exact h
  have g1' := keep _ _ (sN _ _ g1) (ne_of_none g1 n3)
  have k1' := keep _ _ (sN _ _ k1) (ne_of_none k1 n3)
  have upp : ∀ {o1 o2 : HO}, upd (upd H2 p2 o1) p2 o2 = upd H2 p2 o2 := fun {o1 o2} => by
    funext b
    by_cases q : b = p2
    · rw [q, upd_same, upd_same]
    · rw [upd_ne q, upd_ne q, upd_ne q]
  have kd : (xs.map (·.1)).Nodup := by rw [g2.keys]; exact x1.nd
  have kd2 : (ys.map (·.1)).Nodup := by rw [k2.keys]; exact y1.nd
  have m1 : mergeK [] (tkD xs) = tkD xs := by
    rw [merge_app _ _ (tkD_nd kd) (by intro _ _ h; cases h)]
    rfl
  have m2 : mergeK (tkD xs) (tkD ys) = tkD (xs ++ ys) := by
    rw [merge_app _ _ (tkD_nd kd2) fun k hk h => ?_, tkD_app]
    rw [tkD_keys] at hk h
    obtain ⟨z, hz, rfl⟩ := List.mem_map.mp hk
    obtain ⟨z2, hz2, e2⟩ := List.mem_map.mp h
    rw [Sum.inr.inj e2] at hz2
    rw [k2.keys] at hz
    rw [g2.keys] at hz2
    exact dj z hz2 hz
  have lx : xs.length = es.length := g2.len
  have ly : ys.length = es2.length := k2.len
  refine ⟨_, rfl, t, C, dx, _, .ref d, rfl, kp (s2 _ _ e), c.cls, c.n2, rfl, d, tkD xs, rfl, ne_of_none g1' np2, upd_same, kp g1', by rw [tk_len]; omega, ?_⟩
  rw [m1, upp]
  refine ⟨_, rfl, o, C, dy, _, .ref d2, rfl, kp (s2 _ _ ey), c.cls, c.n2, rfl, d2, tkD ys, rfl, ne_of_none k1' np2, upd_same, kp k1', by rw [tk_len, tk_len]; omega, ?_⟩
  rw [m2, upp]
  refine ⟨_, rfl, t3, C, tdx, _, rfl, kp h3, c.cls, c.n2, by show 2 < 1000; decide, _, rfl, ?_⟩
  have n3H : H t3 = none := s1.free n3
  have last : ∀ b u, H b = some u → (upd (upd H2 p2 (.dK (tkD (xs ++ ys)))) t3 (.ins C tdx (putF "_rows" (.ref p2) [("_schema", .ref s), ("_rows", .ref d3)]))) b = some u := fun b u h => by
    rw [upd_ne (ne_of_none h n3H)]
    exact kp (s2 _ _ h)
  refine q0 dj (by omega) t3 p2 _ last ⟨⟨tdx, upd_same⟩, ⟨xs ++ ys, by rw [upd_ne (ne_of_none h3 np2).symm]; exact upd_same, ?_⟩, ?_, ?_⟩
  · obtain ⟨xs0, j1, j2⟩ := x.all.rows
    obtain ⟨ys0, j3, j4⟩ := y.all.rows
    have ex0 : tkD xs0 = tkD xs := by
      have h := s1 _ _ j1
      rw [g1] at h
      injection h with h
      injection h with h
      exact h.symm
    have ey0 : tkD ys0 = tkD ys := by
      have h := s1 _ _ j3
      rw [k1] at h
      injection h with h
      injection h with h
      exact h.symm
    have hx := tkD_inj ex0
    have hy := tkD_inj ey0
    subst hx
    subst hy
    exact (j2.app j4).mono fun _ _ h => h.mono fun b u _ h => last b u h
  · rw [List.map_append, List.nodup_append]
    exact ⟨x.nd, y.nd, fun u hu v hv h => dj u hu (h ▸ hv)⟩
  · rw [List.length_append]
    omega
end
end Lw

set_option Elab.async false
set_option linter.all false
set_option maxRecDepth 100000
set_option maxHeartbeats 8000000
namespace Lw
open PySem PySem.Spec PyProof.Rows L2
/-! ### how often a truth stands in a list -/
def eqb (k : Bool) (v : Value) : Bool := match v with
  | .bool z => z == k
  | _ => false
theorem bools_of : ∀ {us : List Value} {bs : List Bool}, Vals (bs.map V.bl) us → us = bs.map Value.bool
  | _, [], .nil => rfl
  | _, b :: bs, .cons h t => by
    rw [show _ = Value.bool b from h, bools_of t]
    rfl
def rCntB (K : PySem.W.Frag) : V → List V → Hp → VK → Prop := fun x xs H Q => ∃ (p : Addr) (bs : List Bool) (k : Bool), x = .ref p ∧ xs = [.bl k] ∧ SqL K H p (bs.map V.bl) ∧ Q (.int (bs.count k : Nat)) H
theorem mt_lcountB {X : Cx} : MtR X "list.count" (rCntB X.K) := by
  intro pins s σ H x xs v us Q I rx rxs h
  obtain ⟨p, bs, k, rfl, rfl, hs, q⟩ := h
  cases rx
  obtain ⟨u, rfl, ru⟩ := rxs.one
  obtain rfl : u = Value.bool k := ru
  obtain ⟨its, rv, ⟨⟨cls, dd, data, sl⟩, n, ho, hc, hdn, hd⟩, hlen⟩ := I.list hs
  simp only at hc hd
  subst hc hd
  have hi := bools_of rv
  refine call_meets PySem.F.slot_list_count ⟨_, ho, rfl⟩ PySem.F.entry_list_count (PySem.F.args_list_count_2 _ _)
    (SeqAt.list_countAt p its.toArray n dd sl (.bool k) (eqb k)) ⟨ho, fun y hy => ?_, ?_⟩
  · have hy2 : y ∈ its := by simpa using hy
    rw [hi] at hy2
    obtain ⟨b, _, rfl⟩ := List.mem_map.mp hy2
    exact SeqAt.EqAt.bool_bool b k
  have ec : its.toArray.toList.countP (eqb k) = bs.count k := by
    show its.countP (eqb k) = _
    rw [hi, List.countP_map]
    rfl
  refine ⟨.int (bs.count k : Nat), H, I.tok _, ⟨s.toks, ?_⟩, q⟩
  show Value.int ((its.toArray.toList.countP (eqb k) : Nat) : Int) s.toks = Value.int ((bs.count k : Nat) : Int) s.toks
  rw [ec]
/-! ### _law_set, _law_joined -/
abbrev sLSet : Stmt := topS 47
abbrev sLJoin : Stmt := topS 48
abbrev NLSet : List Str := ["_law_tables", "_law_table", "_law_ident", "_law_row", "e", "_law_flags"]
abbrev NLJoin : List Str := ["_law_one", "_law_other", "e"]
/-- what the isinstance questions answer -/
structure Kit (K : PySem.W.Frag) (D : Nat → Addr) : Prop where
  own : ∀ i j, i < 5 → j < 5 → i ≠ 0 → j ≠ 0 → PySem.W.kitOne K (.ref (D i)) (.ref (D j)) = some (i == j)
/-- each of the four errors, whatever its field -/
theorem errs_t {P : Program} {w : World} {K : PySem.W.Frag} {mg : Str → Option Value} {base : Heap} {B : Addr} {D : Nat → Addr} (T : Errs P w K mg base B D) : ∀ k, k < 5 → k ≠ 0 → ∃ x, ClsT K mg B (D k) x := fun k hk h0 => by
  match k, hk, h0 with
  | 0, _, h0 => exact absurd rfl h0
  | 1, _, _ => exact ⟨_, T.full.t⟩
  | 2, _, _ => exact ⟨_, T.taken.t⟩
  | 3, _, _ => exact ⟨_, T.badrow.t⟩
  | 4, _, _ => exact ⟨_, T.wrong.t⟩
  | n + 5, h, _ => exact absurd h (by omega)
theorem exd_at {H : Hp} {dd : Addr} {fs : List (Str × V)} (h : H dd = some (.xd fs)) : ExD H (some dd) := fun d e => by
  cases e
  exact ⟨_, h⟩
theorem early {l : List Bool} {r : List V} (h : l.all (fun b => !b) = true) : ∀ (m : Nat) (z : V), m < l.length → (l.map V.bl ++ r)[m]? = some z → eqV z (.bl true) = false := fun m z lt e => by
  rw [List.getElem?_append_left (by rw [List.length_map]; exact lt), List.getElem?_map] at e
  obtain ⟨b, hb, rfl⟩ := Option.map_eq_some_iff.mp e
  have h2 := List.all_eq_true.mp h b (List.mem_of_getElem? hb)
  cases b with
  | true => cases h2
  | false => rfl
theorem setN_lt (tabs : Tabs) (es : TEnts) (tb id : Str) (r : Rw) : setN tabs es tb id r < 5 := by
  unfold setN
  split
  · decide
  split
  · decide
  split
  · split <;> decide
  · split <;> decide
section
variable {P : Program} {w : World} {K : PySem.W.Frag} {mg : Str → Option Value} {base : Heap} {C : Addr}
theorem scLSet : FnScope NLSet ["_law_tables", "_law_table", "_law_ident", "_law_row"] (defScope sLSet) := ⟨rfl, rfl, rfl, by decide +kernel, rfl, by decide +kernel, by decide +kernel⟩
theorem scLJoin : FnScope NLJoin ["_law_one", "_law_other"] (defScope sLJoin) := ⟨rfl, rfl, rfl, by decide +kernel, rfl, by decide +kernel, by decide +kernel⟩
def spLSet (C CS : Addr) : Sp := fun vs H Q _ => ∃ (t s d wr : Addr) (N : List Addr) (es : TEnts) (tabs : Tabs) (rs : List Rul) (A : Addr → Prop) (tb id : Str) (r : Rw), vs = [.ref t, .str tb, .str id, .ref wr] ∧ TabAt C H N t s d es ∧ SchAt CS H A s tabs rs ∧ TabsOk tabs ∧ (∀ p ∈ tabs, LinkF p.2) ∧
  id.length ≤ 100000 ∧ RwAt H wr r ∧ d ∈ N ∧ t ≠ d ∧ (∀ n ∈ N, H n ≠ none) ∧ es.length ≤ 900 ∧
  (setN tabs es tb id r = 0 → ∀ H', But d H H' → TabAt C H' N t s d (putS es id (tb, ordR r)) → Q (.int 0) H') ∧
  (∀ k : Nat, setN tabs es tb id r = k → k ≠ 0 → ∀ H', Same H H' → Q (.int k) H')
theorem ok_lset {CS f fs : Addr} {fd fds : FuncData} {B : Addr} {D : Nat → Addr} (F : Fun K "_law_set" "_law_set" sLSet f fd) (T : Errs P w K mg base B D) (kit : Kit K D) (c : TCls K C) (Fs : FnOk P w K mg base (L2N.CX P w) 6 fs fds ["self", "at", "worth"] (spTSet K C CS D)) (bs : Binds K fds ["self", "at", "worth"] []) (os : OwnAt K C fs "__setitem__") (nq : PySem.W.noSeq K C = true)
    (gB : mg "CheckError" = some (.ref B)) (mis : mg "isinstance" = none) : FnOk P w K mg base CX0 7 f fd ["_law_tables", "_law_table", "_law_ident", "_law_row"] (spLSet C CS) := by
  refine F.ok scLSet (fun vs H Q E h => ?_) (fun cdv A0 outer s0 H vs Q E hr h => ?_)
  · obtain ⟨t, s, d, wr, N, es, tabs, rs, A, tb, id, r, rfl, _⟩ := h
    rfl
  obtain ⟨t, s, d, wr, N, es, tabs, rs, A, tb, id, r, rfl, x, xs, ok, lk, hz, xr, hd, td, hN, few, q0, qE⟩ := h
  refine ⟨_, pss_one (L2N.ps_try_as (i := 4) (Wout := fun _ _ _ _ => False) rfl rfl scLSet.nd rfl rfl ⟨rfl, by decide, .inl gB⟩ takes_none
      (fun W pn xe tk _ => pss_cons (ps_setX Fs bs (fun σ => L2N.passAt tk σ) os nq hr (pv 3) (pv 0) (pe_tup (pa_cons (pv 1) (pa_cons (pv 2) pa_nil))) (by rfl)) (pss_one (ps_ret pe_int)))
      (fun a oe cls d pn hz hf => pss_cons (ps_set (i := 5) scLSet.nd rfl (.inl rfl) (pe_lst (pa_cons (pe_callB (call_isX hz.zc hf) (by rfl) mis (by decide +kernel) (pa_cons (pv 4) (pa_cons (pe_glob (v := .ref (D 1)) (by rfl) T.full.t.gC rfl) pa_nil))) (pa_cons (pe_callB (call_isX hz.zc hf) (by rfl) mis (by decide +kernel) (pa_cons (pv 4) (pa_cons (pe_glob (v := .ref (D 2)) (by rfl) T.taken.t.gC rfl) pa_nil))) (pa_cons (pe_callB (call_isX hz.zc hf) (by rfl) mis (by decide +kernel) (pa_cons (pv 4) (pa_cons (pe_glob (v := .ref (D 3)) (by rfl) T.badrow.t.gC rfl) pa_nil))) (pa_cons (pe_callB (call_isX hz.zc hf) (by rfl) mis (by decide +kernel) (pa_cons (pv 4) (pa_cons (pe_glob (v := .ref (D 4)) (by rfl) T.wrong.t.gC rfl) pa_nil))) pa_nil))))))
        (pss_one (ps_ret (pe_ifExp (PW.pt (pw_and (pt_cmpR op_eq (show PE _ _ (tBM K "list" (rCntB K) (tVar 5) (tCons (tC (V.bl true)) tNil)) from pe_bm PySem.F.plainAttrs_list PySem.F.slot_list_count PySem.F.type_list_count mt_lcountB (pv 5) (pa_cons pe_bl pa_nil)) pe_int (nomark _)) (pw_and1 (PW.pt (pw_or (pt_not (pt_val (pe_ix (r := rIxL K) ix_list (pv 5) pe_int (fun _ _ => rfl)))) (pw_or1 (pt_cmpR op_eq (pe_fieldX hz.zc hf (pv 4)) pe_int (nomark _)))))))) (pe_op op_add pe_int (show PE _ _ (tBM K "list" (rIndex K) (tVar 5) (tCons (tC (V.bl true)) tNil)) from pe_bm PySem.F.plainAttrs_list PySem.F.slot_list_index PySem.F.type_list_index mt_index (pv 5) (pa_cons pe_bl pa_nil))) pe_int))))), ?_⟩
  obtain ⟨dx, e⟩ := x.ins
  refine ⟨_, rfl, _, rfl, _, rfl, _, rfl, small (by show 2 ≤ 1000; decide), fun at_ nat => ?_⟩
  have s1 : Same H (upd H at_ (.tup [.str tb, .str id])) := same_new nat _
  have hat : (upd H at_ (.tup [.str tb, .str id])) at_ = some (.tup [.str tb, .str id]) := upd_same
  generalize (upd H at_ (.tup [.str tb, .str id])) = H1 at s1 hat ⊢
  refine ⟨t, dx, _, rfl, s1 _ _ e, t, s, d, at_, wr, N, es, tabs, rs, A, tb, id, r, rfl, .inl (.inl hat), x.same s1, xs.mono fun c o _ e => s1 _ _ e, ok, lk, hz, xr.same s1, hd, td, fun n m => ?_, few, fun z0 H2 b2 x2 => q0 z0 H2 (fun a o h n => b2 _ _ (s1 _ _ h) n) x2, fun k hk k0 dd H2 s2 hdd => ?_⟩
  · intro h
    exact hN n m (s1.free h)
  have k5 : k < 5 := by rw [← hk]; exact setN_lt tabs es tb id r
  obtain ⟨nm, cc⟩ := errs_t T k k5 k0
  have xd := exd_at hdd
  have s12 := s1.trans s2
  refine ⟨true, cc.em, fun _ a na => ?_, fun z => nomatch z⟩
  refine ⟨.ref a, rfl, D k, _, _, k == 1, rfl, cc.ec, cc.cl, rfl, fun u r => r, kit.own k 1 k5 (by decide) k0 (by decide), xd, .ref a, rfl, D k, _, _, k == 2, rfl, cc.ec, cc.cl, rfl, fun u r => r, kit.own k 2 k5 (by decide) k0 (by decide), xd,
    .ref a, rfl, D k, _, _, k == 3, rfl, cc.ec, cc.cl, rfl, fun u r => r, kit.own k 3 k5 (by decide) k0 (by decide), xd, .ref a, rfl, D k, _, _, k == 4, rfl, cc.ec, cc.cl, rfl, fun u r => r, kit.own k 4 k5 (by decide) k0 (by decide), xd, small (by show 4 ≤ 1000; decide), fun L nL => ?_⟩
  have s3 : Same H2 (upd H2 L (.lst ([k == 1, k == 2, k == 3, k == 4].map V.bl))) := same_new nL _
  have hL : (upd H2 L (.lst ([k == 1, k == 2, k == 3, k == 4].map V.bl))) L = some (.lst ([k == 1, k == 2, k == 3, k == 4].map V.bl)) := upd_same
  show gName 5 _ _ (upd H2 L (.lst ([k == 1, k == 2, k == 3, k == 4].map V.bl))) _
  generalize (upd H2 L (.lst ([k == 1, k == 2, k == 3, k == 4].map V.bl))) = H3 at s3 hL ⊢
  have fin := qE k hk k0 H3 (s12.trans s3)
  refine ⟨.ref L, rfl, .inl ⟨rfl, _, SqL.of hL⟩, L, [k == 1, k == 2, k == 3, k == 4], true, rfl, rfl, SqL.of hL, rfl, _, rfl, ?_⟩
  clear hk
  match k, k5, k0, hL, fin, hdd, cc with
  | 0, _, k0, _, _, _, _ => exact absurd rfl k0
  | 1, _, _, hL, fin, hdd, cc =>
    refine tt_if (by decide) ?_
    refine ⟨_, rfl, L, _, 0, .bl true, rfl, rfl, SqL.of hL, atI_nat (j := 0) rfl, _, rfl, ff_if rfl ?_⟩
    refine ⟨.ref a, rfl, rfl, D 1, dd, _, .int 200, rfl, rfl, cc.xf, T.full.no, s3 _ _ hdd, rfl, rfl, _, rfl, tt_if (by decide) ?_⟩
    exact ⟨.ref L, rfl, .inl ⟨rfl, _, SqL.of hL⟩, L, _, .bl true, 0, .bl true, rfl, rfl, SqL.of hL, rfl, rfl, rfl, rfl, fun m z h => absurd h (by omega), _, _, rfl, rfl, fin⟩
  | 2, _, _, hL, fin, hdd, cc =>
    refine tt_if (by decide) ?_
    refine ⟨_, rfl, L, _, 0, .bl false, rfl, rfl, SqL.of hL, atI_nat (j := 0) rfl, _, rfl, tt_if rfl (tt_if rfl ?_)⟩
    exact ⟨.ref L, rfl, .inl ⟨rfl, _, SqL.of hL⟩, L, _, .bl true, 1, .bl true, rfl, rfl, SqL.of hL, rfl, rfl, rfl, rfl, early (l := [false]) rfl, _, _, rfl, rfl, fin⟩
  | 3, _, _, hL, fin, hdd, cc =>
    refine tt_if (by decide) ?_
    refine ⟨_, rfl, L, _, 0, .bl false, rfl, rfl, SqL.of hL, atI_nat (j := 0) rfl, _, rfl, tt_if rfl (tt_if rfl ?_)⟩
    exact ⟨.ref L, rfl, .inl ⟨rfl, _, SqL.of hL⟩, L, _, .bl true, 2, .bl true, rfl, rfl, SqL.of hL, rfl, rfl, rfl, rfl, early (l := [false, false]) rfl, _, _, rfl, rfl, fin⟩
  | 4, _, _, hL, fin, hdd, cc =>
    refine tt_if (by decide) ?_
    refine ⟨_, rfl, L, _, 0, .bl false, rfl, rfl, SqL.of hL, atI_nat (j := 0) rfl, _, rfl, tt_if rfl (tt_if rfl ?_)⟩
    exact ⟨.ref L, rfl, .inl ⟨rfl, _, SqL.of hL⟩, L, _, .bl true, 3, .bl true, rfl, rfl, SqL.of hL, rfl, rfl, rfl, rfl, early (l := [false, false, false]) rfl, _, _, rfl, rfl, fin⟩
  | n + 5, h, _, _, _, _, _ => exact absurd h (by omega)
def spLJoin (C CS : Addr) : Sp := fun vs H Q _ => ∃ (t s d o s2 d2 sdx : Addr) (fs : List (Str × V)) (N N2 : List Addr) (es es2 : TEnts), vs = [.ref t, .ref o] ∧ TabAt C H N t s d es ∧ TabAt C H N2 o s2 d2 es2 ∧ H s = some (.ins CS sdx fs) ∧ es.length + es2.length ≤ 900 ∧
  ((∀ id ∈ es.map (·.1), id ∉ es2.map (·.1)) → es.length + es2.length ≤ 200 → ∀ H' : Hp, Same H H' → Q (.int (es.length + es2.length : Nat)) H') ∧
  ((∀ id ∈ es.map (·.1), id ∉ es2.map (·.1)) → 200 < es.length + es2.length → ∀ p H', Same H H' → H' p = some (.tup [.str "full", .int 200]) → Q (.ref p) H') ∧
  (∀ id, id ∈ es.map (·.1) → id ∈ es2.map (·.1) → ∀ p H', Same H H' → H' p = some (.tup [.str "taken", .str id]) → Q (.ref p) H')
theorem ok_ljoin {CS f fj fl : Addr} {fd fdj fdl : FuncData} {B : Addr} {D : Nat → Addr} (F : Fun K "_law_joined" "_law_joined" sLJoin f fd) (T : Errs P w K mg base B D) (kit : Kit K D) (c : TCls K C) (Fj : FnOk P w K mg base (L2N.CX P w) 4 fj fdj ["self", "other"] (spTJoin C CS D)) (bj : Binds K fdj ["self", "other"] []) (mj : Meth K C "joined" fj)
    (Fl : FnOk P w K mg base CX0 1 fl fdl ["self"] (spTLen C)) (bl : Binds K fdl ["self"] []) (ol : OwnAt K C fl "__len__")
    (gB : mg "CheckError" = some (.ref B)) (mis : mg "isinstance" = none) (ml : mg "len" = none) : FnOk P w K mg base CX0 5 f fd ["_law_one", "_law_other"] (spLJoin C CS) := by
  refine F.ok scLJoin (fun vs H Q E h => ?_) (fun cdv A0 outer s0 H vs Q E hr h => ?_)
  · obtain ⟨t, s, d, o, s2, d2, sdx, fs, N, N2, es, es2, rfl, _⟩ := h
    rfl
  obtain ⟨t, s, d, o, s2, d2, sdx, fs, N, N2, es, es2, rfl, x, y, se, few, q0, q1, q2⟩ := h
  refine ⟨_, pss_one (L2N.ps_try_as (i := 2) (Wout := fun _ _ _ _ => False) rfl rfl scLJoin.nd rfl rfl ⟨rfl, by decide, .inl gB⟩ takes_none
      (fun W pn xe tk _ => pss_one (ps_ret (pe_callB (call_lenOwn Fl bl pass0 ol (hr.mono (by decide))) (by rfl) ml (by decide +kernel) (pa_cons (pe_methX (pv 0) c.cls mj Fj hr bj (fun σ => L2N.passAt tk σ) (pa_cons (pv 1) pa_nil)) pa_nil))))
      (fun a oe cls d pn hz hf => pss_cons (ps_if (pt_val (pe_callB (call_isX hz.zc hf) (by rfl) mis (by decide +kernel) (pa_cons (pv 2) (pa_cons (pe_glob (v := .ref (D 1)) (by rfl) T.full.t.gC rfl) pa_nil)))) (pss_one (ps_ret (pe_tup (pa_cons pe_str (pa_cons (pe_fieldX hz.zc hf (pv 2)) pa_nil))))) pss_nil)
        (pss_one (ps_ret (pe_ifExp (pt_val (pe_callB (call_isX hz.zc hf) (by rfl) mis (by decide +kernel) (pa_cons (pv 2) (pa_cons (pe_glob (v := .ref (D 2)) (by rfl) T.taken.t.gC rfl) pa_nil)))) (pe_tup (pa_cons pe_str (pa_cons (pe_fieldX hz.zc hf (pv 2)) pa_nil))) (pe_tup (pa_cons pe_str (pa_cons pe_int pa_nil)))))))), ?_⟩
  obtain ⟨dx, e⟩ := x.ins
  refine ⟨_, rfl, t, dx, _, rfl, e, rfl, _, rfl, t, s, d, o, s2, d2, sdx, fs, N, N2, es, es2, rfl, x, y, se, few, fun dj le t3 d3 H2 k2 x3 => ?_, fun dj gt dd H2 k2 hdd => ?_, fun id m1 m2 dd H2 k2 hdd => ?_⟩
  · obtain ⟨dx3, e3⟩ := x3.ins
    refine ⟨t3, dx3, _, rfl, e3, t3, s, d3, [], es ++ es2, rfl, x3, (es ++ es2).length, rfl, by rw [List.length_append]; omega, ?_⟩
    rw [List.length_append]
    exact q0 dj le H2 k2
  · have cc := T.full.t
    refine ⟨true, cc.em, fun _ a na => ?_, fun z => nomatch z⟩
    refine ⟨.ref a, rfl, D 1, _, _, true, rfl, cc.ec, cc.cl, rfl, fun u r => r, kit.own 1 1 (by decide) (by decide) (by decide) (by decide), exd_at hdd, _, rfl, tt_if rfl ?_⟩
    exact ⟨.ref a, rfl, rfl, D 1, dd, _, .int 200, rfl, rfl, cc.xf, T.full.no, hdd, rfl, small (by show 2 ≤ 1000; decide), fun p np => q1 dj gt p _ (k2.trans (same_new np _)) upd_same⟩
  · have cc := T.taken.t
    refine ⟨true, cc.em, fun _ a na => ?_, fun z => nomatch z⟩
    refine ⟨.ref a, rfl, D 2, _, _, false, rfl, cc.ec, cc.cl, rfl, fun u r => r, kit.own 2 1 (by decide) (by decide) (by decide) (by decide), exd_at hdd, _, rfl, ff_if rfl ?_⟩
    refine ⟨.ref a, rfl, D 2, _, _, true, rfl, cc.ec, cc.cl, rfl, fun u r => r, kit.own 2 2 (by decide) (by decide) (by decide) (by decide), exd_at hdd, _, rfl, tt_if rfl ?_⟩
    exact ⟨.ref a, rfl, rfl, D 2, dd, _, .str id, rfl, rfl, cc.xf, T.taken.no, hdd, rfl, small (by show 2 ≤ 1000; decide), fun p np => q2 id m1 m2 p _ (k2.trans (same_new np _)) upd_same⟩
end
end Lw

set_option Elab.async false
set_option linter.all false
set_option maxRecDepth 100000
set_option maxHeartbeats 8000000
namespace Lw
open PySem PySem.Spec PyProof.Rows L2
abbrev sLIds : Stmt := topS 49
abbrev NLIds : List Str := ["_law_many", "_law_sign", "_law_letters", "_law_k"]
def idS (sg : Str) (k : Nat) : Str := (⟨#[97 + k / 26]⟩ ++ ⟨#[97 + k % 26]⟩ : Str) ++ sg
def idsL (n : Nat) (sg : Str) : List Str := (List.range n).map (idS sg)
theorem letter_at {i : Nat} (h : i < 26) : atI LET.cps.toList (i : Int) = some (97 + i) := by
  have all : ∀ i : Fin 26, LET.cps.toList[i.val]? = some (97 + i.val) := by decide +kernel
  exact atI_nat (all ⟨i, h⟩)
section
variable {P : Program} {w : World} {K : PySem.W.Frag} {mg : Str → Option Value} {base : Heap}
theorem scLIds : FnScope NLIds ["_law_many", "_law_sign"] (defScope sLIds) := ⟨rfl, rfl, rfl, by decide +kernel, rfl, by decide +kernel, by decide +kernel⟩
def spLIds : Sp := fun vs H Q _ => ∃ (n : Nat) (sg : Str), vs = [.int (n : Nat), .str sg] ∧ n ≤ 200 ∧ sg.length ≤ 10 ∧ ∀ (p : Addr) (H' : Hp), H p = none → Same H H' → H' p = some (.lst ((idsL n sg).map V.str)) → Q (.ref p) H'
theorem ok_lids {f : Addr} {fd : FuncData} (F : Fun K "_law_ids" "_law_ids" sLIds f fd) (mrange : mg "range" = none) : FnOk P w K mg base CX0 1 f fd ["_law_many", "_law_sign"] spLIds := by
  refine F.ok scLIds (fun vs H Q E h => ?_) (fun cdv A outer s H vs Q E hr h => ?_)
  · obtain ⟨n, sg, rfl, _⟩ := h
    rfl
  obtain ⟨n, sg, rfl, hn, hs, q⟩ := h
  refine ⟨_, (pss_cons (ps_set (i := 2) scLIds.nd rfl (by first | exact .inl rfl | exact .inr rfl) pe_str)
    (pss_one (ps_ret (pe_lc (own := [("_law_k", 3)]) (g := gName 3) (tt := tYes) rfl scLIds.nd (pi_range1 (by rfl) mrange (pa_cons (pv 0) pa_nil)) (blkOk_by (N := NLIds) (sc := defScope sLIds) (by decide +kernel)) (fun _ _ _ _ _ => pg_name (i := 3) scLIds.nd rfl (Or.inl rfl)) (fun _ _ _ _ _ => pts_nil)
      (fun _ _ _ _ _ => pe_op op_add_str (pe_op op_add_str (pe_ix ix_str (pv 2) (pe_op op_fdiv (pv 3) pe_int) (fun _ _ => rfl)) (pe_ix ix_str (pv 2) (pe_op op_mod (pv 3) pe_int) (fun _ _ => rfl))) (pv 1)))))), ?_⟩
  refine ⟨_, rfl, (n : Nat), rfl, by omega, by omega, fun D nD => ?_⟩
  refine lc_range (lo := 0) (n := n) (fun i H1 => Same H H1 ∧ H1 D = some (.lst ((idsL i sg).map V.str))) ⟨same_new nD _, upd_same⟩ ?_ ?_
  · rintro k H1 hk ⟨s1, hD⟩
    have e0 : (0 + (k : Int)) = (k : Int) := by omega
    rw [e0]
    have e1 : ((k : Int) / 26) = ((k / 26 : Nat) : Int) := by omega
    have e2 : ((k : Int) % 26) = ((k % 26 : Nat) : Int) := by omega
    have h1 : k / 26 < 26 := by omega
    have h2 : k % 26 < 26 := by omega
    refine ⟨rfl, yes_if ?_⟩
    refine ⟨_, rfl, _, rfl, (k : Int), 26, rfl, rfl, ⟨by decide, by decide⟩, LET, _, 97 + k / 26, rfl, rfl, by decide +kernel, by rw [e1]; exact letter_at h1, _, rfl, _, rfl, (k : Int), 26, rfl, rfl, (by decide : (0 : Int) < 26), LET, _, 97 + k % 26, rfl, rfl, by decide +kernel, by rw [e2]; exact letter_at h2, _, _, rfl, rfl, (by show 1 + 1 ≤ sizeLine; decide), _, rfl, _, _, rfl, rfl, ?_, _, hD, ?_, Same.put s1 nD, ?_⟩
    · rw [sizeLine_eq]
      show 2 + sg.length ≤ _
      omega
    · rw [List.length_map]
      unfold idsL
      rw [List.length_map, List.length_range, sizeLine_eq]
      omega
    · rw [upd_same]
      unfold idsL
      rw [List.range_succ, List.map_append, List.map_append]
      rfl
  · rintro H1 ⟨s1, hD⟩
    exact q D H1 nD s1 hD
end
end Lw

set_option Elab.async false
set_option linter.all false
set_option maxRecDepth 100000
set_option maxHeartbeats 4000000
namespace Lw
open PySem PySem.Spec PyProof.Rows L2
abbrev sTakeM : Stmt := topS 46
section
variable {P : Program} {w : World} {K : PySem.W.Frag} {mg : Str → Option Value} {base : Heap}
abbrev NTakeM : List Str := ["_law_bag_here", "_law_many", "_law_cell", "_law_mixed", "_law_drawn", "_law_early", "_law_second"]
theorem scTakeM : FnScope NTakeM ["_law_bag_here", "_law_many"] (defScope sTakeM) := ⟨rfl, rfl, rfl, by decide +kernel, rfl, by decide +kernel, by decide +kernel⟩
theorem ok_takeM {f : Addr} {fd : FuncData} (F : Fun K "_law_take" "_law_take" sTakeM f fd) (mint : mg "int" = none) : FnOk P w K mg base CX0 1 f fd ["_law_bag_here", "_law_many"] spTake := by
  refine F.ok scTakeM (fun vs H Q E h => ?_) (fun cdv A outer s H vs Q E hr h => ?_)
  · obtain ⟨a, c, ns, rfl, _⟩ := h
    rfl
  obtain ⟨b, c, m, rfl, ⟨x, y, z, ns, hb, hc, h63⟩, m0, m1, k⟩ := h
  have ncb : c ≠ b := bag_ne hb hc
  refine ⟨_, C8.pss_cut (ps_if (pt_cmpR op_eq (pe_ix ix_list (pv 0) pe_int (fun _ _ => rfl)) pe_int (nomark _))
      (pss_cons (ps_set (i := 2) scTakeM.nd rfl (Or.inl rfl) (pe_ix ix_list (pe_op op_cat (pe_slice sl_list (pe_ix ix_list (pv 0) pe_int (fun _ _ => rfl)) (po_some (pe_ix ix_list (pv 0) pe_int (fun _ _ => rfl))) po_none) (pe_lst (pa_cons pe_int pa_nil))) pe_int (fun _ _ => rfl)))
      (pss_cons (ps_augS (pv 0) pe_int get_list pe_int ip_add set_list)
      (pss_cons (ps_asg (pe_op op_mul (pv 2) (pe_callTy call_int1 (by rfl) mint (by decide +kernel) (pa_cons (pe_cmpR op_ge (pv 2) (pe_op op_pow pe_int pe_int) (nomark _)) pa_nil))) (pg_sub (pv 0) pe_int set_list))
      (pss_cons (ps_set (i := 3) scTakeM.nd rfl (Or.inl rfl) (pe_op op_add (pe_op op_add (pe_op op_mul (pe_ix ix_list (pv 0) pe_int (fun _ _ => rfl)) pe_int) (pe_op op_mod (pe_callTy call_int1 (by rfl) mint (by decide +kernel) (pa_cons (pv 2) pa_nil)) pe_int)) (pe_op op_mul pe_int (pe_ix ix_list (pv 0) pe_int (fun _ _ => rfl)))))
      (pss_one (ps_asg (pe_op op_mod (pe_callTy call_int1 (by rfl) mint (by decide +kernel) (pa_cons (pv 3) pa_nil)) pe_int) (pg_sub (pv 0) pe_int set_list))))))) pss_nil)
    (pss_cons (ps_if (pt_cmpR op_gt (pe_ix ix_list (pv 0) pe_int (fun _ _ => rfl)) pe_int (nomark _))
      (pss_cons (ps_asg (pe_tup (pa_cons (pe_op op_mod (pe_callTy call_int1 (by rfl) mint (by decide +kernel) (pa_cons (pe_ix ix_list (pv 0) pe_int (fun _ _ => rfl)) pa_nil)) (pv 1)) (pa_cons (pe_op op_fdiv (pe_callTy call_int1 (by rfl) mint (by decide +kernel) (pa_cons (pe_ix ix_list (pv 0) pe_int (fun _ _ => rfl)) pa_nil)) (pv 1)) pa_nil)))
          (pg_tup rfl (pgs_cons (pg_name (i := 4) scTakeM.nd rfl (.inl rfl)) (pgs_cons (pg_sub (pv 0) pe_int set_list) pgs_nil))))
      (pss_one (ps_ret (pv 4)))) pss_nil)
    (pss_cons (ps_set (i := 5) scTakeM.nd rfl (Or.inl rfl) (pe_op op_mod (pe_callTy call_int1 (by rfl) mint (by decide +kernel) (pa_cons (pe_op op_mul (pe_op op_add (pe_ix ix_list (pv 0) pe_int (fun _ _ => rfl)) pe_int) pe_int) pa_nil)) pe_int))
    (pss_cons (ps_set (i := 6) scTakeM.nd rfl (Or.inl rfl) (pe_op op_mod (pe_callTy call_int1 (by rfl) mint (by decide +kernel) (pa_cons (pe_op op_mul (pe_op op_mod (pe_callTy call_int1 (by rfl) mint (by decide +kernel) (pa_cons (pe_op op_mul (pv 5) (pv 5)) pa_nil)) pe_int) pe_int) pa_nil)) pe_int))
    (pss_one (ps_ret (pe_op op_mod (pe_callTy call_int1 (by rfl) mint (by decide +kernel) (pa_cons (pe_op op_fdiv (pv 6) pe_int) pa_nil)) (pv 1))))))), ?_⟩
  have atL : ∀ {H' : Hp} {x y z : Int}, H' b = some (.lst [.int x, .int y, .int z, .ref c]) → SqL K H' b [.int x, .int y, .int z, .ref c] := fun e => .inl (.inl e)
  refine ⟨fun σ H' => ∃ (x' y' z' : Int) (u v w2 : Option V), σ = [some (.ref b), some (.int m), u, v, none, none, none] ∧ H' b = some (.lst [.int x', .int y', .int z', .ref c]) ∧ But b H H', ?_, ?_⟩
  · refine ⟨.ref b, rfl, b, _, 0, _, rfl, rfl, atL hb, rfl, rfl, _, rfl, ?_⟩
    refine ite2 (fun _ => ?_) (fun _ => ?_)
    · refine ⟨.ref b, rfl, b, _, 3, _, rfl, rfl, atL hb, rfl, .ref b, rfl, b, _, 2, _, rfl, rfl, atL hb, rfl, z, rfl, c, _, rfl, .inl (.inl hc), fun p hp => ?_⟩
      refine ⟨small (by show 1 ≤ 1000; decide), fun q hq => ?_⟩
      have npq : p ≠ q := ne_of_none upd_same hq
      have ncut : (cutV (ns.map V.int) (some z) none).length ≤ 63 := Nat.le_trans (cutV_length _ _ _) (by rw [List.length_map]; exact h63)
      refine ⟨p, q, _, _, rfl, rfl, by rw [upd_ne npq, upd_same], upd_same, small (by rw [List.length_singleton]; omega), fun r hr' => ?_⟩
      obtain ⟨ce, hce⟩ : ∃ ce : Int, atI (cutV (ns.map V.int) (some z) none ++ [V.int 0]) (0 : Int) = some (.int ce) := by
        obtain ⟨ms, hms⟩ := cut_ints' ns (some z) none
        rw [hms]
        cases ms with
        | nil => exact ⟨0, rfl⟩
        | cons t ts => exact ⟨t, atI_nat (j := 0) rfl⟩
      refine ⟨r, _, 0, .int ce, rfl, rfl, .inl (.inl upd_same), hce, ?_⟩
      have nb1 := ne_of_none hb hp
      have hb1 : (upd H p (HO.lst (cutV (ns.map V.int) (some z) none))) b = some (.lst [.int x, .int y, .int z, .ref c]) := by rw [upd_ne nb1]; exact hb
      have nb2 := ne_of_none hb1 hq
      have hb2 := (upd_ne (o := HO.lst [V.int 0]) nb2).trans hb1
      have nb3 := ne_of_none hb2 hr'
      have hb3 := (upd_ne (o := HO.lst (cutV (ns.map V.int) (some z) none ++ [V.int 0])) nb3).trans hb2
      have B3 : But b H (upd (upd (upd H p (HO.lst (cutV (ns.map V.int) (some z) none))) q (HO.lst [V.int 0])) r (HO.lst (cutV (ns.map V.int) (some z) none ++ [V.int 0]))) := (((But.refl b H).new hp).new hq).new hr'
      -- bag[2] += 1
      refine ⟨.ref b, rfl, b, _, 2, .int z, rfl, rfl, by decide, atL hb3, rfl, z, 1, rfl, rfl, b, _, 2, 2, rfl, rfl, hb3, rfl, ?_⟩
      have hb4 : (upd (upd (upd (upd H p (HO.lst (cutV (ns.map V.int) (some z) none))) q (HO.lst [V.int 0])) r (HO.lst (cutV (ns.map V.int) (some z) none ++ [V.int 0]))) b (HO.lst ([V.int x, V.int y, V.int z, V.ref c].set 2 (V.int (z + 1))))) b = some (.lst [.int x, .int y, .int (z + 1), .ref c]) := upd_same
      have B4 := B3.set (o := HO.lst ([V.int x, V.int y, V.int z, V.ref c].set 2 (V.int (z + 1))))
      generalize (upd (upd (upd (upd H p (HO.lst (cutV (ns.map V.int) (some z) none))) q (HO.lst [V.int 0])) r (HO.lst (cutV (ns.map V.int) (some z) none ++ [V.int 0]))) b (HO.lst ([V.int x, V.int y, V.int z, V.ref c].set 2 (V.int (z + 1))))) = H4 at hb4 B4 ⊢
      -- bag[0] = cell * int(cell >= 10 ** 18)
      have small2 : ∀ k : Bool, -(2 ^ 64 : Int) < (if k = true then 1 else 0) ∧ (if k = true then (1 : Int) else 0) < 2 ^ 64 := by intro k; cases k <;> decide
      refine ⟨.int ce, rfl, .int ce, rfl, 10, 18, rfl, rfl, ⟨by decide, by decide, by decide⟩, ce, _, rfl, rfl, .inr ⟨_, rfl, ce, _, rfl, rfl, .inr (small2 _), .ref b, rfl, b, _, 0, 0, rfl, rfl, hb4, rfl, ?_⟩⟩
      dsimp only
      generalize (ce * if decide ((10 : Int) ^ (18 : Int).toNat ≤ ce) = true then 1 else 0) = x5
      have hb5 : (upd H4 b (HO.lst ([V.int x, V.int y, V.int (z + 1), V.ref c].set 0 (V.int x5)))) b = some (.lst [.int x5, .int y, .int (z + 1), .ref c]) := upd_same
      have B5 := B4.set (o := HO.lst ([V.int x, V.int y, V.int (z + 1), V.ref c].set 0 (V.int x5)))
      generalize (upd H4 b (HO.lst ([V.int x, V.int y, V.int (z + 1), V.ref c].set 0 (V.int x5)))) = H5 at hb5 B5 ⊢
      -- mixed = ..
      refine ⟨.ref b, rfl, b, _, 1, _, rfl, rfl, atL hb5, rfl, y, 48271, rfl, rfl, .inr ⟨by decide, by decide⟩, .int ce, rfl, .inl ⟨ce, rfl, ce, 2147483647, rfl, rfl, (by show (0 : Int) < 2147483647; decide), _, _, rfl, rfl, .ref b, rfl, b, _, 2, _, rfl, rfl, atL hb5, rfl, 7919, z + 1, rfl, rfl, .inl ⟨by decide, by decide⟩, _, _, rfl, rfl, ?_⟩⟩
      dsimp only
      generalize (y * 48271 + ce % 2147483647 + 7919 * (z + 1)) = mx
      -- bag[1] = int(mixed) % 2147483647
      refine ⟨.int mx, rfl, .inl ⟨mx, rfl, mx, 2147483647, rfl, rfl, (by show (0 : Int) < 2147483647; decide), .ref b, rfl, b, _, 1, 1, rfl, rfl, hb5, rfl, ?_⟩⟩
      exact ⟨x5, mx % 2147483647, z + 1, some (.int ce), some (.int mx), none, rfl, upd_same, B5.set⟩
    · exact ⟨x, y, z, none, none, none, rfl, hb, But.refl b H⟩
  · rintro σ H1 ⟨x', y', z', u, v, w2, rfl, hb1, B1⟩
    have hc1 : H1 c = some (.lst (ns.map V.int)) := B1 c _ hc ncb
    refine ⟨.ref b, rfl, b, _, 0, _, rfl, rfl, atL hb1, rfl, x', 0, rfl, rfl, _, rfl, ?_⟩
    refine ite2 (fun _ => ?_) (fun _ => ?_)
    · refine ⟨.ref b, rfl, b, _, 0, _, rfl, rfl, atL hb1, rfl, .inl ⟨x', rfl, .int m, rfl, x', m, rfl, rfl, m0, ?_⟩⟩
      refine ⟨.ref b, rfl, b, _, 0, _, rfl, rfl, atL hb1, rfl, .inl ⟨x', rfl, .int m, rfl, x', m, rfl, rfl, ⟨m0, by omega⟩, small (by show 2 ≤ 1000; decide), fun t nt => ?_⟩⟩
      have nbt : b ≠ t := ne_of_none hb1 nt
      have hb2 := (upd_ne (o := HO.tup [V.int (x' % m), V.int (x' / m)]) nbt).trans hb1
      refine ⟨t, _, rfl, .inl (.inl upd_same), rfl, .int (x' % m), [.int (x' / m)], rfl, .int (x' / m), [], rfl, .ref b, rfl, b, _, 0, 0, rfl, rfl, hb2, rfl, ⟨rfl, ?_⟩⟩
      refine ⟨.int (x' % m), rfl, k _ _ (Int.emod_nonneg _ (by omega)) (Int.emod_lt_of_pos _ m0) ⟨x' / m, y', z', ns, upd_same, ?_, h63⟩ (B1.new nt).set⟩
      rw [upd_ne ncb, upd_ne (ne_of_none hc1 nt)]
      exact hc1
    · refine ⟨.ref b, rfl, b, _, 1, _, rfl, rfl, atL hb1, rfl, y', 1, rfl, rfl, _, 39373, rfl, rfl, .inr ⟨by decide, by decide⟩, .inl ⟨_, rfl, _, 1000000007, rfl, rfl, (by show (0 : Int) < 1000000007; decide), ?_⟩⟩
      have e1 : 0 ≤ (y' + 1) * 39373 % 1000000007 := Int.emod_nonneg _ (by decide)
      have e2 : (y' + 1) * 39373 % 1000000007 < 1000000007 := Int.emod_lt_of_pos _ (by decide)
      dsimp only
      generalize (y' + 1) * 39373 % 1000000007 = ea at e1 e2 ⊢
      refine ⟨.int ea, rfl, .int ea, rfl, ea, ea, rfl, rfl, .inl ⟨by omega, by omega⟩, .inl ⟨_, rfl, _, 998244353, rfl, rfl, (by show (0 : Int) < 998244353; decide), _, 30011, rfl, rfl, .inr ⟨by decide, by decide⟩, .inl ⟨_, rfl, _, 998244353, rfl, rfl, (by show (0 : Int) < 998244353; decide), ?_⟩⟩⟩
      dsimp only
      generalize ea * ea % 998244353 * 30011 % 998244353 = sc
      refine ⟨.int sc, rfl, sc, 7, rfl, rfl, ⟨by decide, by decide⟩, .inl ⟨_, rfl, .int m, rfl, _, m, rfl, rfl, m0, ?_⟩⟩
      exact k _ _ (Int.emod_nonneg _ (by omega)) (Int.emod_lt_of_pos _ m0) ⟨x', y', z', ns, hb1, hc1, h63⟩ B1
end
end Lw

set_option Elab.async false
set_option linter.all false
set_option maxRecDepth 100000
set_option maxHeartbeats 4000000
/-! xs[::k], k = 1 or -1 -/
namespace Lw
open PySem PySem.Spec PyProof.Rows L2
def tStepL (K : PySem.W.Frag) (te ts : TE) : TE := fun σ H Q => te σ H fun x H1 => ts σ H1 fun y H2 => ∃ a xs i, x = .ref a ∧ y = .int i ∧ (i = 1 ∨ i = -1) ∧ SqL K H2 a xs ∧ ∀ p, H2 p = none → Q (.ref p) (upd H2 p (.lst (if i = 1 then xs else xs.reverse)))
theorem pick_one (items : Array Value) : slicePick items none none (some 1) = slicePick items none none none := rfl
theorem pe_stepL {X : Cx} {e st : Expr} {te ts : TE} {p3 pos : Pos} (he : PE X e te) (hs : PE X st ts) : PE X (.Subscript e (.Slice none none (some st) p3) pos) (tStepL X.K te ts) := ⟨fun pl0 s σ H Q J want => by
  refine Subscript_ (thn (he.run pl0 s σ H _ J want) fun v s1 got => ?_)
  obtain ⟨x, H1, J1, rx, want1⟩ := got
  refine wpAny_Slice (thn (po_none.run pl0 s1 σ H1 (fun part G => part = none ∧ G = H1) J1 ⟨rfl, rfl⟩) fun lo s2 got2 => ?_)
  obtain ⟨_, _, J2, plo, rfl, rfl⟩ := got2
  refine thn (po_none.run pl0 s2 σ _ (fun part G => part = none ∧ G = _) J2 ⟨rfl, rfl⟩) fun hi s3 got3 => ?_
  obtain ⟨_, _, J3, phi, rfl, rfl⟩ := got3
  refine thn (hs.run pl0 s3 σ _ _ J3 want1) fun stp s4 got4 => ?_
  obtain ⟨y, H4, J4, ry, a, xs, i, rfl, rfl, two, at_a, fin⟩ := got4
  obtain rfl : v = .ref a := rx
  obtain ⟨tk, rfl⟩ := (show ∃ t, stp = Value.int i t from ry)
  have J5 : Inv X pl0 σ H4 { s4 with heap := s4.heap.push { cls := .type "slice", data := .fields #[lo, hi, .int i tk] } } := J4.kept (t' := s4.toks) fun _ _ old => Heap.get?_push_of_some _ old
  obtain ⟨us, rel, isT, few⟩ := J5.list at_a
  have long := rel.length
  show wpAny (model X.prog X.w) X.A (subscriptTail e (.Slice none none (some st) p3) (.ref a) (.ref s4.heap.objs.size)) (EP X pl0 σ Q) X.xe { s4 with heap := s4.heap.push { cls := .type "slice", data := .fields #[lo, hi, .int i tk] } }
  refine tail_any (ops := [.ref a, .ref s4.heap.objs.size]) isT.isList.typeIs PySem.slot_list_getitem.lookup (wpAny_getItem_list_slice isT.isList (Heap.IsSliceOf.new _ lo hi (.int i tk)) plo phi (.int i tk) (by rcases two with h | h <;> rw [h] <;> decide) ?_ (by rw [List.size_toArray]; omega)) (by with_unfolding_all rfl)
  rcases two with h | h
  · subst h
    have whole : cutV xs none none = xs := by
      unfold cutV
      rw [HT.sIx_none, HT.sIx_none]
      simp
    have cut := (rel.drop (HT.sIx xs.length 0 none)).take (HT.sIx xs.length xs.length none - HT.sIx xs.length 0 none)
    rw [pick_one, slicePick_cut, ← long]
    exact ⟨.ref _, _, J5.laid (t' := s4.toks) (o := .lst (cutV xs none none)) (fun _ _ old => Heap.get?_push_of_some _ old) (Nat.le_refl _) ⟨Nat.le_trans (cutV_length xs none none) few, _, 0, cut, Heap.get?_push_size _ rfl⟩, rfl, by rw [whole]; exact fin _ (J5.hok.fresh (Nat.le_refl _))⟩
  · subst h
    rw [PySem.W.krv_pick]
    exact ⟨.ref _, _, J5.laid (t' := s4.toks) (o := .lst xs.reverse) (fun _ _ old => Heap.get?_push_of_some _ old) (Nat.le_refl _) ⟨by rw [List.length_reverse]; exact few, _, 0, rel.reverse, Heap.get?_push_size _ rfl⟩, rfl, fin _ (J5.hok.fresh (Nat.le_refl _))⟩⟩
end Lw

set_option Elab.async false
set_option linter.all false
set_option maxRecDepth 100000
set_option maxHeartbeats 4000000
/-! != of two trees without dicts -/
namespace Lw
open PySem PySem.Spec PyProof.Rows L2
def rNePl : R2 := fun x y H Q => ∃ (t u : Tr) (A B : Addr → Prop), DT H A x t ∧ DT H B y u ∧ SeqAt.shaped t.data = true ∧ SeqAt.shaped u.data = true ∧ Q (.bl (!PyData.eqv t.data u.data)) H
theorem op_nePl {X : Cx} (hu : X.A.units + 64 < cLine) : OpR X (compareOp .NotEq) rNePl := by
  intro pins s σ H x y v u Q I rx ry h
  obtain ⟨t, t', A, B, dx, dy, sd, se, q⟩ := h
  obtain ⟨as, r1, _⟩ := DT.reads I dx rx
  obtain ⟨bs, r2, _⟩ := DT.reads I dy ry
  exact SeqAt.compareNe_shaped r1 r2 sd se hu ⟨.bl _, H, I, rfl, q⟩
end Lw

set_option Elab.async false
set_option linter.all false
set_option maxRecDepth 100000
set_option maxHeartbeats 4000000
namespace Lw
open PySem PySem.Spec PyProof.Rows L2
/-! ### the identifiers that the law takes -/
theorem idS_tl (sg : Str) (k : Nat) : (idS sg k).cps.toList = (97 + k / 26) :: (97 + k % 26) :: sg.cps.toList := by
  show (((#[97 + k / 26] : Array Nat) ++ #[97 + k % 26]) ++ sg.cps).toList = _
  simp
theorem idS_len (sg : Str) (k : Nat) : (idS sg k).length = 2 + sg.length := by
  show (idS sg k).cps.size = 2 + sg.cps.size
  rw [← Array.length_toList, idS_tl, List.length_cons, List.length_cons, Array.length_toList]
  omega
theorem idS_inj {sg : Str} {j k : Nat} (h : idS sg j = idS sg k) : j = k := by
  have e := congrArg (fun z : Str => z.cps.toList) h
  simp only [idS_tl] at e
  injection e with e1 e2
  injection e2 with e2 e3
  omega
theorem idS_sg {sg sg' : Str} {j k : Nat} (h : idS sg j = idS sg' k) : sg = sg' := by
  have e := congrArg (fun z : Str => z.cps.toList) h
  simp only [idS_tl] at e
  injection e with e1 e2
  injection e2 with e2 e3
  cases sg
  cases sg'
  exact congrArg _ (Array.toList_inj.mp e3)
theorem idsL_nd (n : Nat) (sg : Str) : (idsL n sg).Nodup := by
  unfold idsL
  refine List.pairwise_map.mpr (List.Pairwise.imp ?_ (List.nodup_range (n := n)))
  intro a b h e
  exact h (idS_inj e)
theorem idS_ok {sg : Str} {k : Nat} (h : k < 676) (hs : ∀ c ∈ sg.cps.toList, Low c) (l : sg.length ≤ 6) : NameOk (idS sg k) := by
  refine ⟨?_, ?_, fun c hc => ?_⟩
  · rw [idS_len]
    omega
  · rw [idS_len]
    omega
  · rw [idS_tl] at hc
    rcases List.mem_cons.mp hc with e | hc
    · rw [e]
      exact ⟨by omega, by omega⟩
    rcases List.mem_cons.mp hc with e | hc
    · rw [e]
      exact ⟨by omega, by omega⟩
    · exact hs c hc
theorem idsL_mem {n : Nat} {sg z : Str} (h : z ∈ idsL n sg) : ∃ k, k < n ∧ z = idS sg k := by
  obtain ⟨k, hk, rfl⟩ := List.mem_map.mp h
  exact ⟨k, List.mem_range.mp hk, rfl⟩
theorem low1 {c : Nat} (h : 97 ≤ c ∧ c ≤ 122) : ∀ d ∈ (⟨#[c]⟩ : Str).cps.toList, Low d := fun d hd => by
  have e : d = c := by simpa using hd
  rw [e]
  exact h
end Lw

set_option Elab.async false
set_option linter.all false
set_option maxRecDepth 100000
set_option maxHeartbeats 8000000
namespace Lw
open PySem PySem.Spec PyProof.Rows L2
/-! ### what stands through the law -/
def tabs0 : Tabs := [("a", [("l", .lk "b")]), ("b", [])]
abbrev Sg : Str := "q"
abbrev NL (d1 d2 b : Addr) (M : List Addr) : List Addr := d1 :: d2 :: b :: M
structure IdsOk (ids : List Str) : Prop where
  nd : ids.Nodup
  len : ids.length = 200
  mem : ∀ z ∈ ids, ∃ k, k < 200 ∧ z = idS Sg k
theorem IdsOk.name {ids : List Str} (x : IdsOk ids) {z : Str} (h : z ∈ ids) : NameOk z := by
  obtain ⟨k, hk, rfl⟩ := x.mem z h
  exact idS_ok (by omega) (low1 (c := 113) (by decide)) (by decide)
theorem NameOk.idB {z : Str} (h : NameOk z) : idB z = true := by
  unfold Lw.idB
  rw [nmB_ok h]
  rfl
theorem NameOk.len5 {z : Str} (h : NameOk z) : z.length ≤ 100000 := Nat.le_trans h.most (by decide)
structure LawAt (CT CS : Addr) (H : Hp) (b c S t1 d1 t2 d2 pI : Addr) (M : List Addr) (ids : List Str) (es1 es2 : TEnts) : Prop where
  bag : BagAt H b c
  sch : SchAt CS H (· ∉ NL d1 d2 b M) S tabs0 []
  one : TabAt CT H (NL d1 d2 b M) t1 S d1 es1
  two : TabAt CT H (NL d1 d2 b M) t2 S d2 es2
  list : H pI = some (.lst (ids.map V.str))
  d12 : d1 ≠ d2
  pb : pI ≠ b
  out : ∀ p ∈ M, p ≠ b ∧ p ≠ c ∧ p ≠ pI ∧ ∃ l, H p = some (.lst l)
section
variable {CT CS : Addr} {H H' : Hp} {b c S t1 d1 t2 d2 pI : Addr} {M : List Addr} {ids : List Str} {es1 es2 : TEnts}
theorem LawAt.same (x : LawAt CT CS H b c S t1 d1 t2 d2 pI M ids es1 es2) (k : Same H H') : LawAt CT CS H' b c S t1 d1 t2 d2 pI M ids es1 es2 :=
  ⟨x.bag.mono k, x.sch.mono fun a o _ e => k _ _ e, x.one.same k, x.two.same k, k _ _ x.list, x.d12, x.pb, fun p hp => by
    obtain ⟨n1, n2, n3, l, e⟩ := x.out p hp
    exact ⟨n1, n2, n3, l, k _ _ e⟩⟩
theorem LawAt.dK1 (x : LawAt CT CS H b c S t1 d1 t2 d2 pI M ids es1 es2) : ∃ k, H d1 = some (.dK k) := by
  obtain ⟨xs, h, _⟩ := x.one.rows
  exact ⟨_, h⟩
theorem LawAt.dK2 (x : LawAt CT CS H b c S t1 d1 t2 d2 pI M ids es1 es2) : ∃ k, H d2 = some (.dK k) := by
  obtain ⟨xs, h, _⟩ := x.two.rows
  exact ⟨_, h⟩
theorem LawAt.lst (x : LawAt CT CS H b c S t1 d1 t2 d2 pI M ids es1 es2) : ∃ l, H b = some (.lst l) := by
  obtain ⟨_, _, _, _, h, _, _⟩ := x.bag.ex
  exact ⟨_, h⟩
theorem LawAt.ins1 (x : LawAt CT CS H b c S t1 d1 t2 d2 pI M ids es1 es2) : ∃ dx f, H t1 = some (.ins CT dx f) := by
  obtain ⟨dx, h⟩ := x.one.ins
  exact ⟨_, _, h⟩
theorem LawAt.ins2 (x : LawAt CT CS H b c S t1 d1 t2 d2 pI M ids es1 es2) : ∃ dx f, H t2 = some (.ins CT dx f) := by
  obtain ⟨dx, h⟩ := x.two.ins
  exact ⟨_, _, h⟩
theorem LawAt.there (x : LawAt CT CS H b c S t1 d1 t2 d2 pI M ids es1 es2) : ∀ n ∈ NL d1 d2 b M, H n ≠ none := fun n m => by
  obtain ⟨_, h1⟩ := x.dK1
  obtain ⟨_, h2⟩ := x.dK2
  obtain ⟨_, h3⟩ := x.lst
  rcases List.mem_cons.mp m with e | m
  · rw [e, h1]; exact nofun
  rcases List.mem_cons.mp m with e | m
  · rw [e, h2]; exact nofun
  rcases List.mem_cons.mp m with e | m
  · rw [e, h3]; exact nofun
  · obtain ⟨_, _, _, l, e⟩ := x.out n m
    rw [e]; exact nofun
theorem LawAt.t1d1 (x : LawAt CT CS H b c S t1 d1 t2 d2 pI M ids es1 es2) : t1 ≠ d1 := fun n => by
  obtain ⟨_, h1⟩ := x.dK1
  obtain ⟨_, _, h2⟩ := x.ins1
  rw [n, h1] at h2
  cases h2
theorem LawAt.t2d2 (x : LawAt CT CS H b c S t1 d1 t2 d2 pI M ids es1 es2) : t2 ≠ d2 := fun n => by
  obtain ⟨_, h1⟩ := x.dK2
  obtain ⟨_, _, h2⟩ := x.ins2
  rw [n, h1] at h2
  cases h2
theorem LawAt.bag' (x : LawAt CT CS H b c S t1 d1 t2 d2 pI M ids es1 es2) (k : But b H H') (hb : BagAt H' b c) : LawAt CT CS H' b c S t1 d1 t2 d2 pI M ids es1 es2 := by
  obtain ⟨_, h1⟩ := x.dK1
  obtain ⟨_, h2⟩ := x.dK2
  obtain ⟨_, h3⟩ := x.lst
  obtain ⟨_, _, h4⟩ := x.ins1
  obtain ⟨_, _, h5⟩ := x.ins2
  have bn : b ∈ NL d1 d2 b M := by simp
  have n1 : b ≠ t1 := fun n => by rw [← n, h3] at h4; cases h4
  have n2 : b ≠ t2 := fun n => by rw [← n, h3] at h5; cases h5
  have n3 : b ≠ d1 := fun n => by rw [← n, h3] at h1; cases h1
  have n4 : b ≠ d2 := fun n => by rw [← n, h3] at h2; cases h2
  exact ⟨hb, x.sch.mono fun a o na e => k _ _ e fun n => na (n ▸ bn), x.one.but k n1 n3 bn, x.two.but k n2 n4 bn, k _ _ x.list x.pb, x.d12, x.pb, fun p hp => by
    obtain ⟨m1, m2, m3, l, e⟩ := x.out p hp
    exact ⟨m1, m2, m3, l, k _ _ e m1⟩⟩
theorem LawAt.pId (x : LawAt CT CS H b c S t1 d1 t2 d2 pI M ids es1 es2) : pI ≠ d1 ∧ pI ≠ d2 := by
  obtain ⟨_, h1⟩ := x.dK1
  obtain ⟨_, h2⟩ := x.dK2
  exact ⟨(fun n => by rw [← n, x.list] at h1; cases h1), (fun n => by rw [← n, x.list] at h2; cases h2)⟩
theorem LawAt.bagBut (x : LawAt CT CS H b c S t1 d1 t2 d2 pI M ids es1 es2) {d : Addr} (h : ∃ k, H d = some (.dK k)) (k : But d H H') : BagAt H' b c := by
  obtain ⟨u, v, w, ns, e1, e2, e3⟩ := x.bag.ex
  obtain ⟨kk, h⟩ := h
  exact ⟨u, v, w, ns, k _ _ e1 (fun n => by rw [← n, e1] at h; cases h), k _ _ e2 (fun n => by rw [← n, e2] at h; cases h), e3⟩
theorem LawAt.outBut (x : LawAt CT CS H b c S t1 d1 t2 d2 pI M ids es1 es2) {d : Addr} (h : ∃ k, H d = some (.dK k)) (k : But d H H') : ∀ p ∈ M, p ≠ b ∧ p ≠ c ∧ p ≠ pI ∧ ∃ l, H' p = some (.lst l) := fun p hp => by
  obtain ⟨m1, m2, m3, l, e⟩ := x.out p hp
  obtain ⟨kk, h⟩ := h
  exact ⟨m1, m2, m3, l, k _ _ e fun n => by rw [← n, e] at h; cases h⟩
theorem LawAt.set1 {es1' : TEnts} (x : LawAt CT CS H b c S t1 d1 t2 d2 pI M ids es1 es2) (k : But d1 H H') (y : TabAt CT H' (NL d1 d2 b M) t1 S d1 es1') : LawAt CT CS H' b c S t1 d1 t2 d2 pI M ids es1' es2 := by
  obtain ⟨_, h1⟩ := x.dK1
  obtain ⟨_, _, h5⟩ := x.ins2
  have dn : d1 ∈ NL d1 d2 b M := by simp
  exact ⟨x.bagBut x.dK1 k, x.sch.mono fun a o na e => k _ _ e fun n => na (n ▸ dn), y, x.two.but k (fun n => by rw [← n, h1] at h5; cases h5) x.d12 dn, k _ _ x.list x.pId.1, x.d12, x.pb, x.outBut x.dK1 k⟩
theorem LawAt.set2 {es2' : TEnts} (x : LawAt CT CS H b c S t1 d1 t2 d2 pI M ids es1 es2) (k : But d2 H H') (y : TabAt CT H' (NL d1 d2 b M) t2 S d2 es2') : LawAt CT CS H' b c S t1 d1 t2 d2 pI M ids es1 es2' := by
  obtain ⟨_, h1⟩ := x.dK2
  obtain ⟨_, _, h5⟩ := x.ins1
  have dn : d2 ∈ NL d1 d2 b M := by simp
  exact ⟨x.bagBut x.dK2 k, x.sch.mono fun a o na e => k _ _ e fun n => na (n ▸ dn), x.one.but k (fun n => by rw [← n, h1] at h5; cases h5) x.d12.symm dn, y, k _ _ x.list x.pId.2, x.d12, x.pb, x.outBut x.dK2 k⟩
theorem TabAt.add {C : Addr} {H : Hp} {N : List Addr} {t s d p : Addr} {es : TEnts} (x : TabAt C H N t s d es) (np : H p = none) {N' : List Addr} (hN : ∀ n ∈ N', n = p ∨ n ∈ N) : TabAt C H N' t s d es := by
  obtain ⟨xs, h1, h2⟩ := x.rows
  refine ⟨x.ins, ⟨xs, h1, h2.mono fun v e h => ?_⟩, x.nd, x.few⟩
  obtain ⟨q, a, e1, e2, e3, n1, n2⟩ := h
  refine ⟨q, a, e1, e2, e3, fun m => ?_, fun m => ?_⟩
  · rcases hN _ m with h | h
    · rw [h, np] at e2; cases e2
    · exact n1 h
  · rcases hN _ m with h | h
    · have e4 := e3.e
      rw [h, np] at e4; cases e4
    · exact n2 h
theorem SchAt.exist {C : Addr} {H : Hp} {A : Addr → Prop} {s : Addr} {tabs : Tabs} {rs : List Rul} (x : SchAt C H A s tabs rs) : SchAt C H (fun a => A a ∧ H a ≠ none) s tabs rs := by
  obtain ⟨dx, dT, dR, n, e, d1, d2⟩ := x.ex
  exact ⟨dx, dT, dR, ⟨n, by rw [e]; exact nofun⟩, e, d1.exist, d2.exist⟩
/-- a new list that is changed later -/
theorem LawAt.add (x : LawAt CT CS H b c S t1 d1 t2 d2 pI M ids es1 es2) {p : Addr} (np : H p = none) (l : List V) : LawAt CT CS (upd H p (.lst l)) b c S t1 d1 t2 d2 pI (p :: M) ids es1 es2 := by
  have y := x.same (same_new np (.lst l))
  have hN : ∀ n ∈ NL d1 d2 b (p :: M), n = p ∨ n ∈ NL d1 d2 b M := fun n h => by
    simp only [NL, List.mem_cons] at h ⊢
    rcases h with h | h | h | h | h
    · exact .inr (.inl h)
    · exact .inr (.inr (.inl h))
    · exact .inr (.inr (.inr (.inl h)))
    · exact .inl h
    · exact .inr (.inr (.inr (.inr h)))
  have k := same_new np (.lst l)
  refine ⟨y.bag, (x.sch.exist.mono fun a o _ e => k _ _ e).sub fun a h m => ?_, (x.one.add np hN).same k, (x.two.add np hN).same k, y.list, y.d12, y.pb, fun q hq => ?_⟩
  · rcases hN a m with e | e
    · exact h.2 (e ▸ np)
    · exact h.1 e
  · rcases List.mem_cons.mp hq with e | h
    · subst e
      obtain ⟨u, v, w, ns, e1, e2, _⟩ := x.bag.ex
      exact ⟨(ne_of_none e1 np).symm, (ne_of_none e2 np).symm, (ne_of_none x.list np).symm, l, upd_same⟩
    · exact y.out q h
/-- .. and is changed -/
theorem LawAt.put (x : LawAt CT CS H b c S t1 d1 t2 d2 pI M ids es1 es2) {p : Addr} (hp : p ∈ M) (l : List V) : LawAt CT CS (upd H p (.lst l)) b c S t1 d1 t2 d2 pI M ids es1 es2 := by
  obtain ⟨n1, n2, n3, l0, e⟩ := x.out p hp
  obtain ⟨_, h1⟩ := x.dK1
  obtain ⟨_, h2⟩ := x.dK2
  obtain ⟨_, _, h4⟩ := x.ins1
  obtain ⟨_, _, h5⟩ := x.ins2
  have k : But p H (upd H p (.lst l)) := But.set (But.refl p H)
  have pn : p ∈ NL d1 d2 b M := List.mem_cons_of_mem _ (List.mem_cons_of_mem _ (List.mem_cons_of_mem _ hp))
  have m1 : p ≠ d1 := fun n => by rw [← n, e] at h1; cases h1
  have m2 : p ≠ d2 := fun n => by rw [← n, e] at h2; cases h2
  have m3 : p ≠ t1 := fun n => by rw [← n, e] at h4; cases h4
  have m4 : p ≠ t2 := fun n => by rw [← n, e] at h5; cases h5
  refine ⟨x.bag.set n1 n2, x.sch.mono fun a o na e => k _ _ e fun n => na (n ▸ pn), x.one.but k m3 m1 pn, x.two.but k m4 m2 pn, k _ _ x.list n3.symm, x.d12, x.pb, fun q hq => ?_⟩
  obtain ⟨a1, a2, a3, l1, e1⟩ := x.out q hq
  by_cases h : q = p
  · subst h
    exact ⟨a1, a2, a3, l, upd_same⟩
  · exact ⟨a1, a2, a3, l1, k _ _ e1 h⟩
theorem LawAt.sIns (x : LawAt CT CS H b c S t1 d1 t2 d2 pI M ids es1 es2) : ∃ sdx fs, H S = some (.ins CS sdx fs) := by
  obtain ⟨dx, dT, dR, _, e, _⟩ := x.sch.ex
  exact ⟨_, _, e⟩
end
/-! ### the schema -/
theorem tabs0_ok : TabsOk tabs0 := by
  have nb : NameOk "b" := ⟨by decide, by decide, low1 (c := 98) (by decide)⟩
  have na : NameOk "a" := ⟨by decide, by decide, low1 (c := 97) (by decide)⟩
  have nl : NameOk "l" := ⟨by decide, by decide, low1 (c := 108) (by decide)⟩
  refine ⟨by decide +kernel, by decide, by decide, fun p hp => ?_, fun p hp => ?_⟩
  · rcases List.mem_cons.mp hp with e | hp
    · rw [e]; exact na
    · rw [List.mem_singleton.mp hp]; exact nb
  · rcases List.mem_cons.mp hp with e | hp
    · rw [e]
      refine ⟨by decide, by decide, fun q hq => ?_, fun k hk => ?_, fun q hq => ?_⟩
      · rw [List.mem_singleton.mp hq]; exact nl
      · match k, hk with
        | 0, _ => decide
        | 1, _ => decide
        | 2, _ => decide
      · rw [List.mem_singleton.mp hq]
        exact .lk (by decide)
    · rw [List.mem_singleton.mp hp]
      exact ⟨by decide, by decide, (fun q hq => nomatch hq), (fun k hk => Nat.zero_le _), (fun q hq => nomatch hq)⟩
theorem tabs0_lk : ∀ p ∈ tabs0, LinkF p.2 := fun p hp => by
  rcases List.mem_cons.mp hp with e | hp
  · rw [e]
    intro q hq
    rw [List.mem_singleton.mp hq]
    exact ⟨_, rfl⟩
  · rw [List.mem_singleton.mp hp]
    intro q hq
    cases hq
theorem parts0 : PartsOk tabs0 [] := ⟨tabs0_ok, List.nodup_nil, (fun r hr => nomatch hr), Nat.zero_le _⟩
/-- how these sets are answered -/
theorem setN_b {es : TEnts} {z : Str} (hz : idB z = true) (hf : findS es z = none) : setN tabs0 es "b" z [] = if 200 ≤ es.length then 1 else 0 := by
  unfold setN
  rw [if_neg (by rw [hz]; decide +kernel), if_neg (by decide +kernel), hf]
end Lw

set_option Elab.async false
set_option linter.all false
set_option maxRecDepth 100000
set_option maxHeartbeats 16000000
namespace Lw
open PySem PySem.Spec PyProof.Rows L2
/-- the tuple that stands for no rules -/
structure NoRules (K : PySem.W.Frag) (e : Addr) : Prop where
  ex : ∃ (o : Obj) (n : Nat), K.lookup e = some o ∧ o.cls = .type "tuple" ∧ o.data = .seq #[] n
theorem NoRules.sq {K : PySem.W.Frag} {e : Addr} (x : NoRules K e) (H : Hp) : SqT K H e [] := by
  obtain ⟨o, n, h1, h2, h3⟩ := x.ex
  exact .inr ⟨o, #[], n, h1, h2, h3, Nat.zero_le _, .nil⟩
theorem NoRules.ty {K : PySem.W.Frag} {e : Addr} (x : NoRules K e) (H : Hp) : TyX K H (.ref e) (.type "tuple") := by
  obtain ⟨o, n, h1, h2, h3⟩ := x.ex
  exact .kTuple h1 h2
abbrev sLaw : Stmt := topS 50
abbrev NLaw : List Str := ["_law_script", "_law_bag_here", "_law_schema", "_law_tables", "_law_other", "_law_many", "_law_about", "_law_ids_here", "_law_k", "_law_ident", "_law_told", "_law_few"]
theorem scLaw : FnScope NLaw ["_law_script"] (defScope sLaw) := ⟨rfl, rfl, rfl, by decide +kernel, rfl, by decide +kernel, by decide +kernel⟩
structure LawC (P : Program) (w : World) (K : PySem.W.Frag) (mg : Str → Option Value) (base : Heap) (CT CS e0 : Addr) (D : Nat → Addr) : Prop where
  bag : C8.Cal P w K mg base 1 "_law_bag" (spBag K) []
  take : C8.Cal P w K mg base 1 "_law_take" spTake []
  set : C8.Cal P w K mg base 7 "_law_set" (spLSet CT CS) []
  join : C8.Cal P w K mg base 5 "_law_joined" (spLJoin CT CS) []
  ids : C8.Cal P w K mg base 1 "_law_ids" spLIds []
  mkT : C8.Mak P w K mg base 1 "Tables" CT (spTInit CT CS) []
  sch : C8.Mak P w K mg base 9 "Schema" CS (spInitT K CS) [.ref e0]
  ne0 : NoRules K e0
  drop : C8.Met P w K mg base 5 CT "drop" (spTDrop CT) []
  tof : C8.Met P w K mg base 4 CT "table_of" (spTOf CT) []
  mids : C8.Met P w K mg base 1 CT "ids" (spTIds CT) []
  get : ∃ (f : Addr) (fd : FuncData), FnOk P w K mg base CX0 5 f fd ["self", "at"] (spTGet K CT) ∧ Binds K fd ["self", "at"] [] ∧ OwnAt K CT f "__getitem__" ∧ PySem.W.fnIn K f = true
  put : ∃ (f : Addr) (fd : FuncData), FnOk P w K mg base (L2N.CX P w) 6 f fd ["self", "at", "worth"] (spTSet K CT CS D) ∧ Binds K fd ["self", "at", "worth"] [] ∧ OwnAt K CT f "__setitem__"
  nq : PySem.W.noSeq K CT = true
  len : ∃ (f : Addr) (fd : FuncData), FnOk P w K mg base CX0 1 f fd ["self"] (spTLen CT) ∧ Binds K fd ["self"] [] ∧ OwnAt K CT f "__len__"
  mrange : mg "range" = none
  men : mg "enumerate" = none
  mlen : mg "len" = none
  mso : mg "sorted" = none
/-- entries of the table b -/
def ofB (zs : List Str) : TEnts := zs.map fun z => (z, ("b", ([] : Rw)))
theorem ofB_keys (zs : List Str) : (ofB zs).map (·.1) = zs := by
  unfold ofB
  rw [List.map_map]
  exact List.map_id' _
theorem ordR_nil : ordR [] = [] := by simp [ordR, sortT]
theorem q_r {z : Str} (h : ∃ k, k < 200 ∧ z = idS Sg k) {f : Nat} : z ∉ idsL f "r" := fun m => by
  obtain ⟨k, _, rfl⟩ := h
  obtain ⟨j, _, e⟩ := idsL_mem m
  exact absurd (idS_sg e) (by decide)
section
variable {P : Program} {w : World} {K : PySem.W.Frag} {mg : Str → Option Value} {base : Heap} {CT CS e0 : Addr} {D : Nat → Addr} {f : Addr} {cdv : Value} {A0 : Around} {outer : List Env} {s0 : Shared} {H0 : Hp} {E : XK}
theorem segE (c : LawC P w K mg base CT CS e0 D) (hr : Room 10 (A0.deeper (envOfC "law" (defScope sLaw) s0.heap.objs.size f cdv))) :
    ∃ u, PSs (cxOf CX0 P w K mg base NLaw "law" (defScope sLaw) f cdv A0 outer s0 H0 E).nox ((defBody sLaw).drop 13) u ∧ ∀ (Q : VK) (a b c0 S t1 d1 t2 d2 pI : Addr) (M : List Addr) (v5 v6 v8 v9 v10 v11 : Option V) (ids : List Str) (es1 : TEnts) (H : Hp), (∀ H', Q (.bl true) H') → LawAt CT CS H b c0 S t1 d1 t2 d2 pI M ids es1 [] → IdsOk ids → es1.map (·.1) = ids →
      u { nx := fun _ H' => Q .non H', rt := Q } [some (.ref a), some (.ref b), some (.ref S), some (.ref t1), some (.ref t2), v5, v6, some (.ref pI), v8, v9, v10, v11] H := by
  have hu : (cxOf CX0 P w K mg base NLaw "law" (defScope sLaw) f cdv A0 outer s0 H0 E).nox.A.units + 64 < cLine := hr.units
  obtain ⟨fp, fdp, Fp, bp, op⟩ := c.put
  obtain ⟨fl, fdl, Fl, bl, ol⟩ := c.len
  refine ⟨_, (pss_cons (ps_set (i := 11) scLaw.nd rfl (.inl rfl) (pe_op op_add pe_int (C8.pe_c c.take hr (by decide) (by rfl) (pa_cons (pv 1) (pa_cons pe_int pa_nil)))))
    (pss_cons (ps_for PassesOwn.never rfl (pi_list (C8.pe_c c.ids hr (by decide) (by rfl) (pa_cons (pv 11) (pa_cons pe_str pa_nil)))) (pg_name (i := 9) scLaw.nd rfl (.inl rfl)) (pss_one (ps_setX (E := fun _ => C8.E0) Fp bp (fun σ pins H s e s' I h => pass_never pins σ H s e s' I h) op c.nq (hr.mono (by decide)) pe_dnewK (pv 4) (pe_tup (pa_cons pe_str (pa_cons (pv 9) pa_nil))) (by rfl))))
    (pss_cons (ps_if (PW.pt (pw_or (pt_cmpR (op_nePl hu) (C8.pe_c c.join hr (by decide) (by rfl) (pa_cons (pv 3) (pa_cons (pv 4) pa_nil))) (pe_tup (pa_cons pe_str (pa_cons pe_int pa_nil))) (nomark _)) (pw_or1 (pt_cmpR op_ne (C8.pe_c c.join hr (by decide) (by rfl) (pa_cons (pv 3) (pa_cons (C8.pe_mk c.mkT hr (by decide) (by rfl) (pa_cons (pv 2) pa_nil)) pa_nil))) pe_int (nomark _))))) (pss_one (ps_ret pe_bl)) pss_nil)
    (pss_cons (ps_for PassesOwn.never rfl (pi_list (pe_slice sl_list (pv 7) po_none (po_some (pv 11)))) (pg_name (i := 9) scLaw.nd rfl (.inl rfl)) (pss_one (ps_expr (C8.pe_mt c.drop hr (by decide) (pv 3) (pa_cons (C8.pe_mt c.tof hr (by decide) (pv 3) (pa_cons (pv 9) pa_nil)) (pa_cons (pv 9) pa_nil))))))
    (pss_cons (ps_if (PW.pt (pw_or (pt_cmpR op_ne (C8.pe_c c.join hr (by decide) (by rfl) (pa_cons (pv 3) (pa_cons (pv 4) pa_nil))) pe_int (nomark _)) (pw_or1 (pt_cmpR op_ne (C8.pe_c c.join hr (by decide) (by rfl) (pa_cons (pv 4) (pa_cons (pv 3) pa_nil))) pe_int (nomark _))))) (pss_one (ps_ret pe_bl)) pss_nil)
    (pss_cons (ps_setX (E := fun _ => C8.E0) Fp bp (fun σ pins H s e s' I h => pass_never pins σ H s e s' I h) op c.nq (hr.mono (by decide)) pe_dnewK (pv 4) (pe_tup (pa_cons pe_str (pa_cons (pe_ix ix_list (pv 7) (pe_un un_neg pe_int) (fun _ _ => rfl)) pa_nil))) (by rfl))
    (pss_one (ps_ret (pe_and (pe_cmpR (op_eqPl hu) (C8.pe_c c.join hr (by decide) (by rfl) (pa_cons (pv 3) (pa_cons (pv 4) pa_nil))) (pe_tup (pa_cons pe_str (pa_cons (pe_ix ix_list (pv 7) (pe_un un_neg pe_int) (fun _ _ => rfl)) pa_nil))) (nomark _))
      (pe_one (pe_cmpR op_eq (pe_callB (call_lenOwn Fl bl pass0 ol (hr.mono (by decide))) (by rfl) c.mlen (by decide +kernel) (pa_cons (pv 3) pa_nil)) (pe_op op_sub pe_int (pv 11)) (nomark _)))))))))))), fun Q a b c0 S t1 d1 t2 d2 pI M v5 v6 v8 v9 v10 v11 ids es1 H all x io ke => ?_⟩
  refine ⟨_, rfl, b, c0, 3, rfl, x.bag, by decide, by decide, fun r H1 r0 r1 hb1 B1 => ⟨1, r, rfl, rfl, ?_⟩⟩
  obtain ⟨fN, hf, f1, f3⟩ : ∃ fN : Nat, (1 + r) = (fN : Int) ∧ 1 ≤ fN ∧ fN ≤ 3 := by
    obtain ⟨n, rfl⟩ := Int.eq_ofNat_of_zero_le r0
    exact ⟨n + 1, by omega, by omega, by omega⟩
  show gName 11 (.int (1 + r)) _ _ _
  rw [hf]
  have x1 := x.bag' B1 hb1
  clear B1 hb1 x
  refine ⟨_, rfl, fN, "r", rfl, by omega, by decide, fun p H2 np s2 hp => ⟨p, rfl, ⟨_, .inl (.inl hp)⟩, ?_⟩⟩
  have x2 := x1.same s2
  have npb : p ≠ b := x1.bag.nb np
  clear x1
  have nr := idsL_nd fN "r"
  have lr : (idsL fN "r").length = fN := by unfold idsL; rw [List.length_map, List.length_range]
  have okr : ∀ z ∈ idsL fN "r", NameOk z := fun z hz => by
    obtain ⟨k, hk, rfl⟩ := idsL_mem hz
    exact idS_ok (by omega) (low1 (c := 114) (by decide)) (by decide)
  refine for_list (K := K) (a := p) (xs := (idsL fN "r").map V.str) (fun i σ Hx => (∃ v9, σ = [some (.ref a), some (.ref b), some (.ref S), some (.ref t1), some (.ref t2), v5, v6, some (.ref pI), v8, v9, v10, some (.int fN)]) ∧ LawAt CT CS Hx b c0 S t1 d1 t2 d2 pI M ids es1 (ofB ((idsL fN "r").take i)) ∧ Hx p = some (.lst ((idsL fN "r").map V.str)))
    ⟨⟨v9, rfl⟩, x2, hp⟩ (fun i σ Hx _ q => .inl (.inl q.2.2)) ?_ ?_
  · rintro i v σ Hx hi ⟨⟨v9', rfl⟩, xx, hpx⟩
    obtain ⟨z, hz, rfl⟩ := map_get hi
    have il : i < fN := by
      have h := (List.getElem?_eq_some_iff.mp hz).1
      omega
    have zn := okr z (List.mem_of_getElem? hz)
    have zno : z ∉ (ofB ((idsL fN "r").take i)).map (·.1) := by
      rw [ofB_keys]
      exact take_not_mem nr hz
    intro q nq
    have sq : Same Hx (upd Hx q (.dK [])) := same_new nq _
    have hq : (upd Hx q (.dK [])) q = some (.dK []) := upd_same
    generalize (upd Hx q (.dK [])) = H3 at sq hq ⊢
    refine ⟨_, rfl, _, rfl, small (by show 2 ≤ 1000; decide), fun at_ nat => ?_⟩
    have s3 : Same Hx (upd H3 at_ (.tup [.str "b", .str z])) := sq.trans (same_new nat _)
    have hat : (upd H3 at_ (.tup [.str "b", .str z])) at_ = some (.tup [.str "b", .str z]) := upd_same
    have hq4 := same_new nat (.tup [.str "b", .str z]) _ _ hq
    generalize (upd H3 at_ (.tup [.str "b", .str z])) = H4 at s3 hat hq4 ⊢
    have x4 := xx.same s3
    obtain ⟨dx, e⟩ := x4.two.ins
    have n0 : setN tabs0 (ofB ((idsL fN "r").take i)) "b" z [] = 0 := by
      rw [setN_b zn.idB (findS_none.mpr zno), if_neg]
      unfold ofB
      rw [List.length_map, List.length_take]
      omega
    refine ⟨t2, dx, _, rfl, e, t2, S, d2, at_, q, NL d1 d2 b M, _, tabs0, [], _, "b", z, [], rfl, .inl (.inl hat), x4.two, x4.sch, tabs0_ok, tabs0_lk, zn.len5, ⟨hq4, List.nodup_nil, by decide, fun _ h => nomatch h⟩, by simp, x4.t2d2, x4.there, ?_, fun _ H5 b5 y5 => ?_, fun k hk k0 => absurd (hk.symm.trans n0) k0⟩
    · unfold ofB
      rw [List.length_map, List.length_take]
      omega
    · rw [putS_out zno, ordR_nil] at y5
      refine ⟨⟨_, rfl⟩, ?_, ?_⟩
      · rw [List.take_add_one, hz]
        show LawAt CT CS H5 b c0 S t1 d1 t2 d2 pI M ids es1 (ofB (_ ++ [z]))
        have e9 : ofB ((idsL fN "r").take i ++ [z]) = ofB ((idsL fN "r").take i) ++ ([(z, ("b", ([] : Rw)))] : TEnts) := by
          unfold ofB
          rw [List.map_append]
          rfl
        rw [e9]
        exact x4.set2 b5 y5
      · obtain ⟨_, h2⟩ := x4.dK2
        exact b5 _ _ (s3 _ _ hpx) fun n => by
          have h3 := s3 _ _ hpx
          rw [n, h2] at h3
          cases h3
  rintro σ H3 ⟨⟨v9', rfl⟩, x3, hp3⟩
  rw [List.length_map, List.take_length] at x3
  clear hp3 hp x2
  obtain ⟨rids, er⟩ : ∃ rids, rids = idsL fN "r" := ⟨_, rfl⟩
  rw [← er] at x3 lr okr nr
  have nq : ∀ {z : Str}, z ∈ ids → z ∉ rids := fun {z} h => by
    rw [er]
    exact q_r (io.mem z h)
  have l1 : es1.length = 200 := by
    have h := congrArg List.length ke
    rw [List.length_map, io.len] at h
    exact h
  have l2 : (ofB rids).length = fN := by
    unfold ofB
    rw [List.length_map, lr]
  have dj : ∀ {es : TEnts} {m : Nat}, es.map (·.1) = ids.drop m → ∀ id ∈ es.map (·.1), id ∉ (ofB rids).map (·.1) := fun {es m} h id hi => by
    rw [ofB_keys]
    rw [h] at hi
    exact nq (List.mem_of_mem_drop hi)
  -- too many together
  obtain ⟨sdx, sfs, hS⟩ := x3.sIns
  refine ⟨_, rfl, _, rfl, t1, S, d1, t2, S, d2, sdx, sfs, _, _, es1, ofB rids, rfl, x3.one, x3.two, hS, by omega, fun _ le => absurd le (by omega), fun _ _ p H4 s4 hp4 => ?_, fun id m1 m2 => absurd m2 (dj (m := 0) ke id m1)⟩
  refine ⟨small (by show 2 ≤ 1000; decide), fun q nq2 => ?_⟩
  have s5 : Same H3 (upd H4 q (.tup [.str "full", .int 200])) := s4.trans (same_new nq2 _)
  have hp5 := same_new nq2 (.tup [.str "full", .int 200]) _ _ hp4
  have hq5 : (upd H4 q (.tup [.str "full", .int 200])) q = some (.tup [.str "full", .int 200]) := upd_same
  generalize (upd H4 q (.tup [.str "full", .int 200])) = H5 at s5 hp5 hq5 ⊢
  have dtu : ∀ {v : Addr}, H5 v = some (.tup [.str "full", .int 200]) → DT H5 (fun _ => True) (.ref v) (.tup [.str "full", .int 200]) := fun h => .tup h trivial (.cons (.str _) (.cons (.int _) .nil))
  refine ⟨.tup [.str "full", .int 200], .tup [.str "full", .int 200], _, _, dtu hp5, dtu hq5, by decide +kernel, by decide +kernel, _, rfl, ff_if (by decide +kernel) ?_⟩
  have x5 := x3.same s5
  clear hp4 nq2 hp5 hq5 dtu s4
  refine ⟨_, rfl, _, rfl, fun t3 tdx n3 nd3 ne3 => ?_⟩
  have sN : Same H5 (upd (upd H5 tdx (.own t3)) t3 (.ins CT tdx [])) := (same_new nd3 _).trans (same_new (by rw [upd_ne ne3.symm]; exact n3) _)
  have hS5 := s5 _ _ hS
  refine ⟨t3, tdx, S, sdx, sfs, rfl, upd_same, sN _ _ hS5, ne_of_none hS5 n3, fun d3 H6 nd6 keep h3 hd3 => ⟨rfl, ?_⟩⟩
  have s6 : Same H5 H6 := fun b u h => keep b u (sN _ _ h) (ne_of_none h n3)
  have x6 := x5.same s6
  refine ⟨t1, S, d1, t3, S, d3, sdx, sfs, _, [], es1, [], rfl, x6.one, ⟨⟨tdx, h3⟩, ⟨[], hd3, .nil⟩, List.nodup_nil, Nat.zero_le _⟩, s6 _ _ hS5, by rw [l1]; decide, fun _ _ H7 s7 => ?_, fun _ gt => absurd gt (by rw [l1]; decide), fun id _ m2 => absurd m2 List.not_mem_nil⟩
  rw [l1]
  refine ⟨rfl, _, rfl, ff_if (by decide) ?_⟩
  have x7 := x6.same s7
  clear hd3 h3 keep x6 x5 x3 hS hS5 s5 s6 sN
  -- some are dropped
  refine ⟨_, rfl, .int fN, rfl, (fN : Int), rfl, pI, ids.map V.str, rfl, .inl (.inl x7.list), fun pL npL => ?_⟩
  rw [cut_take, ← List.map_take]
  have s8 : Same H7 (upd H7 pL (.lst ((ids.take fN).map V.str))) := same_new npL _
  have hL : (upd H7 pL (.lst ((ids.take fN).map V.str))) pL = some (.lst ((ids.take fN).map V.str)) := upd_same
  have x8 := x7.same s8
  have npLb : pL ≠ b := x7.bag.nb npL
  generalize (upd H7 pL (.lst ((ids.take fN).map V.str))) = H8 at hL x8 ⊢
  clear s8 s7 x7 npL
  refine ⟨pL, rfl, ⟨_, .inl (.inl hL)⟩, ?_⟩
  refine for_list (K := K) (a := pL) (xs := (ids.take fN).map V.str) (fun i σ Hx => (∃ v9, σ = [some (.ref a), some (.ref b), some (.ref S), some (.ref t1), some (.ref t2), v5, v6, some (.ref pI), v8, v9, v10, some (.int fN)]) ∧ (∃ es : TEnts, es.map (·.1) = ids.drop i ∧ LawAt CT CS Hx b c0 S t1 d1 t2 d2 pI M ids es (ofB rids)) ∧ Hx pL = some (.lst ((ids.take fN).map V.str)))
    ⟨⟨_, rfl⟩, ⟨es1, ke, x8⟩, hL⟩ (fun i σ Hx _ q => .inl (.inl q.2.2)) ?_ ?_
  · rintro i v σ Hx hi ⟨⟨v9', rfl⟩, ⟨es, kes, xx⟩, hpx⟩
    obtain ⟨z, hz0, rfl⟩ := map_get hi
    have hz : ids[i]? = some z := by
      rw [List.getElem?_take] at hz0
      split at hz0
      · exact hz0
      · cases hz0
    have il : i < ids.length := (List.getElem?_eq_some_iff.mp hz).1
    have zi : z ∈ ids := List.mem_of_getElem? hz
    have zn := io.name zi
    have dz : ids.drop i = z :: ids.drop (i + 1) := by
      rw [List.drop_eq_getElem_cons il]
      rw [List.getElem?_eq_getElem il] at hz
      rw [Option.some.inj hz]
    obtain ⟨en, hen⟩ := findS_mem (l := es) (z := z) (by rw [kes, dz]; exact List.mem_cons_self)
    obtain ⟨dx, e⟩ := xx.one.ins
    refine ⟨_, rfl, t1, dx, _, rfl, e, rfl, _, rfl, t1, dx, _, rfl, e, rfl, _, rfl, t1, S, d1, _, es, z, en, rfl, xx.one, zn.len5, zn.idB, hen, fun H9 s9 => ?_⟩
    have x9 := xx.same s9
    refine ⟨_, rfl, t1, S, d1, NL d1 d2 b M, es, en.1, z, rfl, x9.one, zn.len5, ?_, by simp, x9.t1d1, fun H10 b10 y10 => ?_⟩
    · unfold hasE
      rw [zn.idB, hen]
      show (true && decide (en.1 = en.1)) = true
      rw [decide_eq_true rfl]
      rfl
    · refine ⟨⟨_, rfl⟩, ⟨_, ?_, x9.set1 b10 y10⟩, ?_⟩
      · rw [dropS_keys, kes, dz, List.filter_cons_of_neg (by simp)]
        refine List.filter_eq_self.mpr fun y hy => decide_eq_true fun n => ?_
        have nd2 : (ids.drop i).Nodup := List.Nodup.sublist (List.drop_sublist _ _) io.nd
        rw [dz] at nd2
        exact (List.nodup_cons.mp nd2).1 (n ▸ hy)
      · obtain ⟨_, h2⟩ := x9.dK1
        exact b10 _ _ (s9 _ _ hpx) fun n => by
          have h3 := s9 _ _ hpx
          rw [n, h2] at h3
          cases h3
  rintro σ H9 ⟨⟨v9', rfl⟩, ⟨es, kes, x9⟩, hp9⟩
  have lt : ((ids.take fN).map V.str).length = fN := by
    rw [List.length_map, List.length_take, io.len]
    omega
  rw [lt] at kes
  have les : es.length = 200 - fN := by
    have h := congrArg List.length kes
    rw [List.length_map, List.length_drop, io.len] at h
    exact h
  clear x8 hL hp9 npLb lt
  -- now they fit
  obtain ⟨sdx, sfs, hS⟩ := x9.sIns
  have dj2 : ∀ id ∈ (ofB rids).map (·.1), id ∉ es.map (·.1) := fun id h1 h2 => dj kes id h2 h1
  refine ⟨_, rfl, _, rfl, t1, S, d1, t2, S, d2, sdx, sfs, _, _, es, ofB rids, rfl, x9.one, x9.two, hS, by omega, fun _ _ H10 s10 => ?_, fun _ gt => absurd gt (by omega), fun id m1 m2 => absurd m2 (dj kes id m1)⟩
  have sum : es.length + (ofB rids).length = 200 := by omega
  rw [sum]
  refine ⟨rfl, _, rfl, ff_if (by decide) ?_⟩
  have x10 := x9.same s10
  refine ⟨_, rfl, _, rfl, t2, S, d2, t1, S, d1, sdx, sfs, _, _, ofB rids, es, rfl, x10.two, x10.one, s10 _ _ hS, by omega, fun _ _ H11 s11 => ?_, fun _ gt => absurd gt (by omega), fun id m1 m2 => absurd m2 (dj2 id m1)⟩
  have sum2 : (ofB rids).length + es.length = 200 := by omega
  rw [sum2]
  refine ⟨rfl, _, rfl, ff_if (by decide) ?_⟩
  have x11 := x10.same s11
  clear x9 x10 hS s10 s11
  -- one that is in both
  obtain ⟨pre, la, eid⟩ : ∃ pre la, ids = pre ++ [la] := by
    have ne : ids ≠ [] := fun n => by
      have h := io.len
      rw [n] at h
      cases h
    exact ⟨_, _, (List.dropLast_concat_getLast ne).symm⟩
  have lm : la ∈ ids := by rw [eid]; simp
  have ln := io.name lm
  have at_la : atI (ids.map V.str) (-1) = some (.str la) := by
    rw [eid, List.map_append]
    exact atI_last _ _
  have lno : la ∉ (ofB rids).map (·.1) := by
    rw [ofB_keys]
    exact nq lm
  intro q nqq
  have sq : Same H11 (upd H11 q (.dK [])) := same_new nqq _
  have hq : (upd H11 q (.dK [])) q = some (.dK []) := upd_same
  generalize (upd H11 q (.dK [])) = H12 at sq hq ⊢
  refine ⟨_, rfl, _, rfl, 1, rfl, pI, _, -1, .str la, rfl, rfl, .inl (.inl (sq _ _ x11.list)), at_la, small (by show 2 ≤ 1000; decide), fun at_ nat => ?_⟩
  have s3 : Same H11 (upd H12 at_ (.tup [.str "b", .str la])) := sq.trans (same_new nat _)
  have hat : (upd H12 at_ (.tup [.str "b", .str la])) at_ = some (.tup [.str "b", .str la]) := upd_same
  have hq4 := same_new nat (.tup [.str "b", .str la]) _ _ hq
  generalize (upd H12 at_ (.tup [.str "b", .str la])) = H13 at s3 hat hq4 ⊢
  have x13 := x11.same s3
  obtain ⟨dx, e⟩ := x13.two.ins
  have n0 : setN tabs0 (ofB rids) "b" la [] = 0 := by
    rw [setN_b ln.idB (findS_none.mpr lno), if_neg]
    omega
  refine ⟨t2, dx, _, rfl, e, t2, S, d2, at_, q, NL d1 d2 b M, _, tabs0, [], _, "b", la, [], rfl, .inl (.inl hat), x13.two, x13.sch, tabs0_ok, tabs0_lk, ln.len5, ⟨hq4, List.nodup_nil, by decide, fun _ h => nomatch h⟩, by simp, x13.t2d2, x13.there, by omega, fun _ H14 b14 y14 => ?_, fun k hk k0 => absurd (hk.symm.trans n0) k0⟩
  rw [putS_out lno, ordR_nil] at y14
  have x14 := x13.set2 b14 y14
  clear x13 b14 y14 hat hq4 s3 x11 sq hq e
  obtain ⟨sdx, sfs, hS⟩ := x14.sIns
  have lin : la ∈ es.map (·.1) := by
    rw [kes, eid, List.drop_append_of_le_length (by
      have h := io.len
      rw [eid, List.length_append] at h
      have h2 : pre.length + 1 = 200 := h
      omega)]
    simp
  have lin2 : la ∈ ((ofB rids ++ ([(la, ("b", ([] : Rw)))] : TEnts)) : TEnts).map (·.1) := by
    rw [List.map_append]
    simp
  refine ⟨_, rfl, _, rfl, t1, S, d1, t2, S, d2, sdx, sfs, _, _, es, _, rfl, x14.one, x14.two, hS, by rw [List.length_append]; show es.length + ((ofB rids).length + 1) ≤ 900; omega, fun d => absurd lin2 (d la lin), fun d => absurd lin2 (d la lin), fun id m1 m2 p H15 s15 hp15 => ?_⟩
  have eid2 : id = la := by
    rw [List.map_append, List.mem_append] at m2
    rcases m2 with h | h
    · exact absurd h (dj kes id m1)
    · simpa using h
  subst eid2
  have x15 := x14.same s15
  refine ⟨_, rfl, 1, rfl, pI, _, -1, .str id, rfl, rfl, .inl (.inl x15.list), at_la, small (by show 2 ≤ 1000; decide), fun q2 nq2 => ?_⟩
  have x16 := x15.same (same_new nq2 (.tup [.str "taken", .str id]))
  have hp16 := same_new nq2 (.tup [.str "taken", .str id]) _ _ hp15
  have hq16 : (upd H15 q2 (.tup [.str "taken", .str id])) q2 = some (.tup [.str "taken", .str id]) := upd_same
  generalize (upd H15 q2 (.tup [.str "taken", .str id])) = H16 at x16 hp16 hq16 ⊢
  have dtu : ∀ {v : Addr}, H16 v = some (.tup [.str "taken", .str id]) → DT H16 (fun _ => True) (.ref v) (.tup [.str "taken", .str id]) := fun h => .tup h trivial (.cons (.str _) (.cons (.str _) .nil))
  have sh : SeqAt.shaped (Tr.tup [.str "taken", .str id]).data = true := by
    have lay := strs_lay (ws := [id]) fun z hz => by rw [List.mem_singleton.mp hz]; exact ln
    unfold SeqAt.shaped
    rw [Bool.and_eq_true]
    refine ⟨?_, ?_⟩
    · show (PyData.canLay0 (.str "taken") && PyData.canLayAll0 ([id].map PyData.str)) = true
      rw [lay]
      decide +kernel
    · rfl
  refine ⟨.tup [.str "taken", .str id], .tup [.str "taken", .str id], _, _, dtu hp16, dtu hq16, sh, sh, ?_⟩
  rw [SeqAt.eqv_refl _ (SeqAt.canLay_of_shaped sh)]
  refine ⟨_, rfl, tt_if rfl ?_⟩
  obtain ⟨dx1, e1⟩ := x16.one.ins
  refine ⟨_, rfl, t1, dx1, _, rfl, e1, t1, S, d1, _, es, rfl, x16.one, es.length, rfl, by omega, ?_⟩
  refine ⟨_, rfl, 200, fN, rfl, rfl, rfl, ?_⟩
  have fe : decide (V.int (es.length : Nat) = V.int (200 - (fN : Int))) = true := decide_eq_true (by
    congr 1
    omega)
  rw [fe]
  exact all _
end
end Lw

set_option Elab.async false
set_option linter.all false
set_option maxRecDepth 100000
set_option maxHeartbeats 16000000
namespace Lw
open PySem PySem.Spec PyProof.Rows L2
section
variable {CT CS : Addr} {H : Hp} {b c S t1 d1 t2 d2 pI : Addr} {M : List Addr} {ids : List Str} {es1 es2 : TEnts} {Q : VK} {E : XK}
abbrev rowN : Rw := [(("l" : Str), V.non)]
/-- a row is put into the first tables -/
theorem set_call {H1 : Hp} {q : Addr} {tb id : Str} {r : Rw} (x : LawAt CT CS H b c S t1 d1 t2 d2 pI M ids es1 es2) (s : Same H H1) (len : id.length ≤ 100000) (row : RwAt H1 q r) (few : es1.length ≤ 900)
    (ok : setN tabs0 es1 tb id r = 0 → ∀ H', But d1 H H' → LawAt CT CS H' b c S t1 d1 t2 d2 pI M ids (putS es1 id (tb, ordR r)) es2 → Q (.int 0) H') (err : ∀ k : Nat, setN tabs0 es1 tb id r = k → k ≠ 0 → ∀ H', Same H H' → LawAt CT CS H' b c S t1 d1 t2 d2 pI M ids es1 es2 → Q (.int k) H') :
    spLSet CT CS [.ref t1, .str tb, .str id, .ref q] H1 Q E := by
  have x1 := x.same s
  exact ⟨t1, S, d1, q, NL d1 d2 b M, es1, tabs0, [], _, tb, id, r, rfl, x1.one, x1.sch, tabs0_ok, tabs0_lk, len, row, by simp, x1.t1d1, x1.there, few, fun z H' b' y => ok z H' (fun a o h n => b' _ _ (s _ _ h) n) (x1.set1 b' y), fun k hk k0 H' s' => err k hk k0 H' (s.trans s') (x1.same s')⟩
theorem set_nil {q : Addr} {tb id : Str} (nq : H q = none) (x : LawAt CT CS H b c S t1 d1 t2 d2 pI M ids es1 es2) (len : id.length ≤ 100000) (few : es1.length ≤ 900)
    (ok : setN tabs0 es1 tb id [] = 0 → ∀ H', But d1 H H' → LawAt CT CS H' b c S t1 d1 t2 d2 pI M ids (putS es1 id (tb, [])) es2 → Q (.int 0) H') (err : ∀ k : Nat, setN tabs0 es1 tb id [] = k → k ≠ 0 → ∀ H', Same H H' → LawAt CT CS H' b c S t1 d1 t2 d2 pI M ids es1 es2 → Q (.int k) H') :
    spLSet CT CS [.ref t1, .str tb, .str id, .ref q] (upd H q (.dK [])) Q E :=
  set_call (r := []) x (same_new nq _) len ⟨upd_same, List.nodup_nil, by decide, fun _ h => nomatch h⟩ few (fun z H' b' y => ok z H' b' (by rw [ordR_nil] at y; exact y)) err
abbrev row1 (v : V) : Rw := [(("l" : Str), v)]
theorem ordR_one (v : V) : ordR (row1 v) = row1 v := by simp [ordR, sortT, findS]
theorem upd_twice {H : Hp} {q : Addr} {o1 o2 : HO} : upd (upd H q o1) q o2 = upd H q o2 := by
  funext b
  by_cases h : b = q
  · rw [h, upd_same, upd_same]
  · rw [upd_ne h, upd_ne h, upd_ne h]
theorem row_one {H : Hp} {q : Addr} {v : V} (hv : CellV v) : RwAt (upd H q (.dK (tkD (row1 v)))) q (row1 v) := ⟨upd_same, (by simp), by show 1 ≤ 60; decide, fun p hp => by
  rw [List.mem_singleton.mp hp]
  exact hv⟩
theorem set_one {q : Addr} {tb id : Str} {v : V} (hv : CellV v) (nq : H q = none) (x : LawAt CT CS H b c S t1 d1 t2 d2 pI M ids es1 es2) (len : id.length ≤ 100000) (few : es1.length ≤ 900)
    (ok : setN tabs0 es1 tb id (row1 v) = 0 → ∀ H', But d1 H H' → LawAt CT CS H' b c S t1 d1 t2 d2 pI M ids (putS es1 id (tb, (row1 v))) es2 → Q (.int 0) H') (err : ∀ k : Nat, setN tabs0 es1 tb id (row1 v) = k → k ≠ 0 → ∀ H', Same H H' → LawAt CT CS H' b c S t1 d1 t2 d2 pI M ids es1 es2 → Q (.int k) H') :
    spLSet CT CS [.ref t1, .str tb, .str id, .ref q] (upd (upd H q (.dK [])) q (.dK (mergeK [] [((Sum.inr "l" : Key), v)]))) Q E := by
  rw [upd_twice]
  exact set_call x (same_new nq _) len (row_one hv) few (fun z H' b' y => ok z H' b' (by rw [ordR_one] at y; exact y)) err
theorem LawAt.keepL (x : LawAt CT CS H b c S t1 d1 t2 d2 pI M ids es1 es2) {H' : Hp} {p : Addr} {o : HO} (hp : p ∈ M) (k : But d1 H H') (e : H p = some o) : H' p = some o := by
  obtain ⟨_, _, _, l, e1⟩ := x.out p hp
  obtain ⟨_, h1⟩ := x.dK1
  exact k _ _ e fun n => by rw [← n, e1] at h1; cases h1
end
/-! ### how the sets are answered -/
theorem setN_wrong {es : TEnts} {tb id : Str} {r : Rw} (h : tb ∉ tabs0.map (·.1)) : setN tabs0 es tb id r = 4 := if_pos (.inl h)
theorem setN_bad {es : TEnts} {tb id : Str} {r : Rw} (h : tb ∈ tabs0.map (·.1)) (hi : idB id = true) (hr : rowOk (fieldsOf tabs0 tb) r = false) : setN tabs0 es tb id r = 3 := by
  unfold setN
  rw [if_neg (fun n => n.elim (fun n => n h) fun n => by rw [hi] at n; cases n), if_pos hr]
theorem setN_in {es : TEnts} {tb id : Str} {r : Rw} {e : TEnt} (h : tb ∈ tabs0.map (·.1)) (hi : idB id = true) (hr : rowOk (fieldsOf tabs0 tb) r = true) (hf : findS es id = some e) : setN tabs0 es tb id r = if e.1 = tb then 0 else 2 := by
  unfold setN
  rw [if_neg (fun n => n.elim (fun n => n h) fun n => by rw [hi] at n; cases n), if_neg (fun n => by rw [hr] at n; cases n), hf]
theorem setN_out {es : TEnts} {tb id : Str} {r : Rw} (h : tb ∈ tabs0.map (·.1)) (hi : idB id = true) (hr : rowOk (fieldsOf tabs0 tb) r = true) (hf : findS es id = none) : setN tabs0 es tb id r = if 200 ≤ es.length then 1 else 0 := by
  unfold setN
  rw [if_neg (fun n => n.elim (fun n => n h) fun n => by rw [hi] at n; cases n), if_neg (fun n => by rw [hr] at n; cases n), hf]
theorem q_no {z : Str} (h : z.cps.toList[2]? ≠ some 113) : ¬ ∃ k, k < 200 ∧ z = idS Sg k := fun ⟨k, _, e⟩ => h (by rw [e, idS_tl]; rfl)
theorem zzz_ok : NameOk "zzz" := ⟨by decide, by decide, fun c hc => by
  have h : c = 122 := by simpa using (show c ∈ [122, 122, 122] from hc)
  rw [h]
  exact ⟨by decide, by decide⟩⟩
theorem roB0 : rowOk (fieldsOf tabs0 "b") [] = true := by decide +kernel
theorem roB1 : rowOk (fieldsOf tabs0 "b") (row1 .non) = false := by decide +kernel
theorem roA1 : rowOk (fieldsOf tabs0 "a") (row1 .non) = true := by decide +kernel
theorem plus_id : idB "+zz" = true := by decide +kernel
section
variable {P : Program} {w : World} {K : PySem.W.Frag} {mg : Str → Option Value} {base : Heap} {CT CS e0 : Addr} {D : Nat → Addr} {f : Addr} {cdv : Value} {A0 : Around} {outer : List Env} {s0 : Shared} {H0 : Hp} {E : XK}
theorem segD (c : LawC P w K mg base CT CS e0 D) (hr : Room 10 (A0.deeper (envOfC "law" (defScope sLaw) s0.heap.objs.size f cdv))) :
    ∃ u, PSs (cxOf CX0 P w K mg base NLaw "law" (defScope sLaw) f cdv A0 outer s0 H0 E).nox ((defBody sLaw).drop 8) u ∧ ∀ (Q : VK) (a b c0 S t1 d1 t2 d2 pI : Addr) (M : List Addr) (v5 v6 v8 v9 v10 v11 : Option V) (ids : List Str) (i0 i1 : Str) (r0 r1 : Rw) (es1 : TEnts) (H : Hp), (∀ H', Q (.bl true) H') → LawAt CT CS H b c0 S t1 d1 t2 d2 pI M ids es1 [] → IdsOk ids → es1.map (·.1) = ids →
      ids[0]? = some i0 → ids[1]? = some i1 → findS es1 i0 = some (("a" : Str), r0) → findS es1 i1 = some (("b" : Str), r1) →
      u { nx := fun _ H' => Q .non H', rt := Q } [some (.ref a), some (.ref b), some (.ref S), some (.ref t1), some (.ref t2), v5, v6, some (.ref pI), v8, v9, v10, v11] H := by
  have hu : (cxOf CX0 P w K mg base NLaw "law" (defScope sLaw) f cdv A0 outer s0 H0 E).nox.A.units + 64 < cLine := hr.units
  obtain ⟨fl, fdl, Fl, bl, ol⟩ := c.len
  obtain ⟨fg, fdg, Fg, bg, og, fig⟩ := c.get
  obtain ⟨u, tailP, tailQ⟩ := segE (outer := outer) (H0 := H0) (E := E) c hr
  refine ⟨_, (pss_cons (ps_set (i := 10) scLaw.nd rfl (.inl rfl) (pe_lst (pa_cons (C8.pe_c c.set hr (by decide) (by rfl) (pa_cons (pv 3) (pa_cons pe_str (pa_cons pe_str (pa_cons pe_dnewK pa_nil))))) (pa_cons (C8.pe_c c.set hr (by decide) (by rfl) (pa_cons (pv 3) (pa_cons pe_str (pa_cons pe_str (pa_cons (pe_disp (pps_cons pe_str pe_non pps_nil) rfl rfl (by decide) (by decide)) pa_nil))))) pa_nil))))
    (pss_cons (ps_expr (pe_bm PySem.F.plainAttrs_list PySem.F.slot_list_extend PySem.F.type_list_extend mt_extend (pv 10) (pa_cons (pe_lst (pa_cons (C8.pe_c c.set hr (by decide) (by rfl) (pa_cons (pv 3) (pa_cons pe_str (pa_cons pe_str (pa_cons pe_dnewK pa_nil))))) (pa_cons (C8.pe_c c.set hr (by decide) (by rfl) (pa_cons (pv 3) (pa_cons pe_str (pa_cons (pe_ix ix_list (pv 7) pe_int (fun _ _ => rfl)) (pa_cons pe_dnewK pa_nil))))) pa_nil))) pa_nil)))
    (pss_cons (ps_expr (pe_bm PySem.F.plainAttrs_list PySem.F.slot_list_append PySem.F.type_list_append mt_append (pv 10) (pa_cons (C8.pe_c c.set hr (by decide) (by rfl) (pa_cons (pv 3) (pa_cons pe_str (pa_cons (pe_ix ix_list (pv 7) pe_int (fun _ _ => rfl)) (pa_cons (pe_disp (pps_cons pe_str pe_non pps_nil) rfl rfl (by decide) (by decide)) pa_nil))))) pa_nil)))
    (pss_cons (ps_expr (pe_bm PySem.F.plainAttrs_list PySem.F.slot_list_extend PySem.F.type_list_extend mt_extend (pv 10) (pa_cons (pe_lst (pa_cons (C8.pe_c c.set hr (by decide) (by rfl) (pa_cons (pv 3) (pa_cons pe_str (pa_cons pe_str (pa_cons (pe_disp (pps_cons pe_str pe_non pps_nil) rfl rfl (by decide) (by decide)) pa_nil))))) (pa_cons (C8.pe_c c.set hr (by decide) (by rfl) (pa_cons (pv 3) (pa_cons pe_str (pa_cons (pe_ix ix_list (pv 7) pe_int (fun _ _ => rfl)) (pa_cons pe_dnewK pa_nil))))) pa_nil))) pa_nil)))
    (pss_cons (ps_if (PW.pt (pw_or (pt_cmpR (op_nePl hu) (pv 10) (pe_lst (pa_cons pe_int (pa_cons pe_int (pa_cons pe_int (pa_cons pe_int (pa_cons pe_int (pa_cons pe_int (pa_cons pe_int pa_nil)))))))) (nomark _)) (pw_or (pt_cmpR op_ne (pe_callB (call_lenOwn Fl bl pass0 ol (hr.mono (by decide))) (by rfl) c.mlen (by decide +kernel) (pa_cons (pv 3) pa_nil)) pe_int (nomark _))
      (pw_or1 (pt_cmpR (op_ne_dictA (by have := hu; omega)) (pe_ixO Fg bg pass0 og fig (hr.mono (by decide)) (pv 3) (pe_tup (pa_cons pe_str (pa_cons (pe_ix ix_list (pv 7) pe_int (fun _ _ => rfl)) pa_nil)))) (pe_disp (pps_cons pe_str pe_non pps_nil) rfl rfl (by decide) (by decide)) (nomark _)))))) (pss_one (ps_ret pe_bl)) pss_nil)
    tailP))))), fun Q a b c0 S t1 d1 t2 d2 pI M v5 v6 v8 v9 v10 v11 ids i0 i1 r0 r1 es1 H all x io ke h0 h1 hf0 hf1 => ?_⟩
  have len1 : es1.length = 200 := by
    have h := congrArg List.length ke
    rw [List.length_map, io.len] at h
    exact h
  have mi0 : i0 ∈ ids := List.mem_of_getElem? h0
  have mi1 : i1 ∈ ids := List.mem_of_getElem? h1
  have n0 := io.name mi0
  have n1 := io.name mi1
  have ab : ¬ ("a" : Str) = "b" := by decide
  have ta : ("a" : Str) ∈ tabs0.map (·.1) := by decide
  have tb : ("b" : Str) ∈ tabs0.map (·.1) := by decide
  have no : ∀ {es : TEnts}, es.map (·.1) = ids → ∀ {z : Str}, z.cps.toList[2]? ≠ some 113 → findS es z = none := fun {es} h {z} hz => findS_none.mpr fun m => by
    rw [h] at m
    exact q_no hz (io.mem z m)
  have nz := no ke (z := "zzz") (by decide)
  have np := no ke (z := "+zz") (by decide)
  have at0 : atI (ids.map V.str) 0 = some (.str i0) := atI_nat (j := 0) (by rw [List.getElem?_map, h0]; rfl)
  have at1 : atI (ids.map V.str) 1 = some (.str i1) := atI_nat (j := 1) (by rw [List.getElem?_map, h1]; rfl)
  -- 1, 3
  refine ⟨_, rfl, fun q1 nq1 => ?_⟩
  dsimp only [tNil, List.append_nil]
  refine set_nil nq1 x zzz_ok.len5 (by omega) (fun z => absurd (z.symm.trans ((setN_out tb zzz_ok.idB roB0 nz).trans (if_pos (by omega)))) (by decide)) fun k hk k0 H1 s1 x1 => ?_
  obtain rfl : k = 1 := hk.symm.trans ((setN_out tb zzz_ok.idB roB0 nz).trans (if_pos (by omega)))
  refine ⟨_, rfl, fun q2 nq2 => ⟨upd_same, [((Sum.inr "l" : Key), V.non)], rfl, by decide, ?_⟩⟩
  dsimp only [tNil, List.append_nil]
  refine set_one (.inl rfl) nq2 x1 zzz_ok.len5 (by omega) (fun z => absurd (z.symm.trans (setN_bad tb zzz_ok.idB roB1)) (by decide)) fun k hk k0 H2 s2 x2 => ?_
  obtain rfl : k = 3 := hk.symm.trans (setN_bad tb zzz_ok.idB roB1)
  refine ⟨small (by show 2 ≤ 1000; decide), fun pT npT => ?_⟩
  have x3 := x2.add npT [.int 1, .int 3]
  have hT : (upd H2 pT (.lst [.int 1, .int 3])) pT = some (.lst [.int 1, .int 3]) := upd_same
  show gName 10 _ _ (upd H2 pT (.lst [.int 1, .int 3])) _
  generalize (upd H2 pT (.lst [.int 1, .int 3])) = H3 at x3 hT ⊢
  clear x x1 x2 npT nq1 nq2 s1 s2
  have pM : pT ∈ pT :: M := List.mem_cons_self
  -- 4, 2
  refine ⟨_, rfl, .inl ⟨rfl, _, SqL.of hT⟩, _, rfl, fun q3 nq3 => ?_⟩
  dsimp only [tNil, List.append_nil]
  refine set_nil nq3 x3 zzz_ok.len5 (by omega) (fun z => absurd (z.symm.trans (setN_wrong (by decide))) (by decide)) fun k hk k0 H4 s4 x4 => ?_
  obtain rfl : k = 4 := hk.symm.trans (setN_wrong (by decide))
  refine ⟨_, rfl, _, rfl, pI, _, 0, .str i0, rfl, rfl, .inl (.inl x4.list), at0, fun q4 nq4 => ?_⟩
  dsimp only [tNil, List.append_nil]
  refine set_nil nq4 x4 n0.len5 (by omega) (fun z => absurd (z.symm.trans ((setN_in tb n0.idB roB0 hf0).trans (if_neg ab))) (by decide)) fun k hk k0 H5 s5 x5 => ?_
  obtain rfl : k = 2 := hk.symm.trans ((setN_in tb n0.idB roB0 hf0).trans (if_neg ab))
  have hT5 := s5 _ _ (s4 _ _ hT)
  refine ⟨small (by show 2 ≤ 1000; decide), fun m1 nm1 => ?_⟩
  refine ⟨pT, m1, _, _, rfl, rfl, (upd_ne (ne_of_none hT5 nm1)).trans hT5, upd_same, small (by show 4 ≤ 1000; decide), ?_⟩
  have x6 := (x5.same (same_new nm1 (.lst [.int 4, .int 2]))).put pM [.int 1, .int 3, .int 4, .int 2]
  have hT6 : (upd (upd H5 m1 (.lst [.int 4, .int 2])) pT (.lst [.int 1, .int 3, .int 4, .int 2])) pT = some (.lst [.int 1, .int 3, .int 4, .int 2]) := upd_same
  show (tSeq _ _ : TS) _ _ (upd (upd H5 m1 (.lst [.int 4, .int 2])) pT (.lst [.int 1, .int 3, .int 4, .int 2]))
  generalize (upd (upd H5 m1 (.lst [.int 4, .int 2])) pT (.lst [.int 1, .int 3, .int 4, .int 2])) = H6 at x6 hT6 ⊢
  clear x3 x4 x5 hT hT5 s4 s5 nm1 nq3 nq4
  -- 0
  refine ⟨_, rfl, .inl ⟨rfl, _, SqL.of hT6⟩, _, rfl, _, rfl, pI, _, 0, .str i0, rfl, rfl, .inl (.inl x6.list), at0, fun q5 nq5 => ⟨upd_same, [((Sum.inr "l" : Key), V.non)], rfl, by decide, ?_⟩⟩
  dsimp only [tNil, List.append_nil]
  refine set_one (.inl rfl) nq5 x6 n0.len5 (by omega) (fun z H7 b7 x7 => ?_) fun k hk k0 => absurd (hk.symm.trans ((setN_in ta n0.idB roA1 hf0).trans (if_pos rfl))) k0
  have hT7 := x6.keepL pM b7 hT6
  have ke7 : (putS es1 i0 ("a", row1 .non)).map (·.1) = ids := by rw [putS_in (by rw [ke]; exact mi0)]; exact ke
  have len7 : (putS es1 i0 ("a", row1 .non)).length = 200 := by
    have h := congrArg List.length ke7
    rw [List.length_map, io.len] at h
    exact h
  refine ⟨pT, _, .int 0, rfl, rfl, hT7, small1000 (by show 4 ≤ 1000; decide), ?_⟩
  have x8 := x7.put pM ([.int 1, .int 3, .int 4, .int 2] ++ [.int 0])
  have hT8 : (upd H7 pT (.lst ([.int 1, .int 3, .int 4, .int 2] ++ [.int 0]))) pT = some (.lst ([.int 1, .int 3, .int 4, .int 2] ++ [.int 0])) := upd_same
  show (tSeq _ _ : TS) _ _ (upd H7 pT (.lst ([.int 1, .int 3, .int 4, .int 2] ++ [.int 0])))
  generalize (upd H7 pT (.lst ([.int 1, .int 3, .int 4, .int 2] ++ [.int 0]))) = H8 at x8 hT8 ⊢
  clear x6 x7 hT6 hT7 b7
  -- 1, 0
  have np7 := no ke7 (z := "+zz") (by decide)
  have i01 : i1 ≠ i0 := fun n => by
    rw [n, hf0] at hf1
    exact ab (congrArg Prod.fst (Option.some.inj hf1))
  have hf71 : findS (putS es1 i0 ("a", row1 .non)) i1 = some (("b" : Str), r1) := by rw [findS_put, if_neg i01]; exact hf1
  have hf70 : findS (putS es1 i0 ("a", row1 .non)) i0 = some (("a" : Str), row1 .non) := by rw [findS_put, if_pos rfl]
  obtain ⟨es7, e7⟩ : ∃ es7, es7 = putS es1 i0 ("a", row1 .non) := ⟨_, rfl⟩
  rw [← e7] at ke7 len7 x8 np7 hf71 hf70
  refine ⟨_, rfl, .inl ⟨rfl, _, SqL.of hT8⟩, _, rfl, fun q6 nq6 => ⟨upd_same, [((Sum.inr "l" : Key), V.non)], rfl, by decide, ?_⟩⟩
  dsimp only [tNil, List.append_nil]
  refine set_one (.inl rfl) nq6 x8 (by decide) (by omega) (fun z => absurd (z.symm.trans ((setN_out ta plus_id roA1 np7).trans (if_pos (by omega)))) (by decide)) fun k hk k0 H9 s9 x9 => ?_
  obtain rfl : k = 1 := hk.symm.trans ((setN_out ta plus_id roA1 np7).trans (if_pos (by omega)))
  refine ⟨_, rfl, _, rfl, pI, _, 1, .str i1, rfl, rfl, .inl (.inl x9.list), at1, fun q7 nq7 => ?_⟩
  dsimp only [tNil, List.append_nil]
  refine set_nil nq7 x9 n1.len5 (by omega) (fun z H10 b10 x10 => ?_) fun k hk k0 => absurd (hk.symm.trans ((setN_in tb n1.idB roB0 hf71).trans (if_pos rfl))) k0
  have hT10 := x9.keepL pM b10 (s9 _ _ hT8)
  have ke10 : (putS es7 i1 ("b", ([] : Rw))).map (·.1) = ids := by rw [putS_in (by rw [ke7]; exact mi1)]; exact ke7
  have len10 : (putS es7 i1 ("b", ([] : Rw))).length = 200 := by
    have h := congrArg List.length ke10
    rw [List.length_map, io.len] at h
    exact h
  have hf10 : findS (putS es7 i1 ("b", ([] : Rw))) i0 = some (("a" : Str), row1 .non) := by rw [findS_put, if_neg (fun n => i01 n.symm)]; exact hf70
  obtain ⟨es10, e10⟩ : ∃ es10, es10 = putS es7 i1 ("b", ([] : Rw)) := ⟨_, rfl⟩
  rw [← e10] at ke10 len10 x10 hf10
  refine ⟨small (by show 2 ≤ 1000; decide), fun m2 nm2 => ?_⟩
  refine ⟨pT, m2, _, _, rfl, rfl, (upd_ne (ne_of_none hT10 nm2)).trans hT10, upd_same, small (by show 7 ≤ 1000; decide), ?_⟩
  have x11 := (x10.same (same_new nm2 (.lst [.int 1, .int 0]))).put pM ([.int 1, .int 3, .int 4, .int 2] ++ [.int 0] ++ [.int 1, .int 0])
  have hT11 : (upd (upd H10 m2 (.lst [.int 1, .int 0])) pT (.lst ([.int 1, .int 3, .int 4, .int 2] ++ [.int 0] ++ [.int 1, .int 0]))) pT = some (.lst ([.int 1, .int 3, .int 4, .int 2] ++ [.int 0] ++ [.int 1, .int 0])) := upd_same
  show (tSeq _ _ : TS) _ _ (upd (upd H10 m2 (.lst [.int 1, .int 0])) pT (.lst ([.int 1, .int 3, .int 4, .int 2] ++ [.int 0] ++ [.int 1, .int 0])))
  generalize (upd (upd H10 m2 (.lst [.int 1, .int 0])) pT (.lst ([.int 1, .int 3, .int 4, .int 2] ++ [.int 0] ++ [.int 1, .int 0]))) = H11 at x11 hT11 ⊢
  clear x8 x9 x10 hT8 hT10 b10 s9 nm2
  -- they are told
  refine ⟨_, rfl, small (by show 7 ≤ 1000; decide), fun m3 nm3 => ?_⟩
  have x12 := x11.same (same_new nm3 (.lst [.int 1, .int 3, .int 4, .int 2, .int 0, .int 1, .int 0]))
  have hT12 := same_new nm3 (.lst [.int 1, .int 3, .int 4, .int 2, .int 0, .int 1, .int 0]) _ _ hT11
  have hm12 : (upd H11 m3 (.lst [.int 1, .int 3, .int 4, .int 2, .int 0, .int 1, .int 0])) m3 = some (.lst [.int 1, .int 3, .int 4, .int 2, .int 0, .int 1, .int 0]) := upd_same
  generalize (upd H11 m3 (.lst [.int 1, .int 3, .int 4, .int 2, .int 0, .int 1, .int 0])) = H12 at x12 hT12 hm12 ⊢
  have dts : DTs H12 (fun _ => True) [.int 1, .int 3, .int 4, .int 2, .int 0, .int 1, .int 0] [.int 1, .int 3, .int 4, .int 2, .int 0, .int 1, .int 0] := .cons (.int _) (.cons (.int _) (.cons (.int _) (.cons (.int _) (.cons (.int _) (.cons (.int _) (.cons (.int _) .nil))))))
  refine ⟨.lst [.int 1, .int 3, .int 4, .int 2, .int 0, .int 1, .int 0], .lst [.int 1, .int 3, .int 4, .int 2, .int 0, .int 1, .int 0], fun _ => True, fun _ => True, .lst hT12 trivial dts, .lst hm12 trivial dts, by decide +kernel, by decide +kernel, _, rfl, ff_if (by decide +kernel) ?_⟩
  obtain ⟨dx1, e1⟩ := x12.one.ins
  refine ⟨_, rfl, t1, dx1, _, rfl, e1, t1, S, d1, _, es10, rfl, x12.one, es10.length, rfl, by omega, ?_⟩
  rw [len10]
  refine ⟨rfl, _, rfl, ff_if (by decide) ?_⟩
  refine ⟨_, rfl, _, rfl, pI, _, 0, .str i0, rfl, rfl, .inl (.inl x12.list), at0, small (by show 2 ≤ 1000; decide), fun at_ nat => ?_⟩
  have x13 := x12.same (same_new nat (.tup [.str "a", .str i0]))
  have hat : (upd H12 at_ (.tup [.str "a", .str i0])) at_ = some (.tup [.str "a", .str i0]) := upd_same
  generalize (upd H12 at_ (.tup [.str "a", .str i0])) = H13 at x13 hat ⊢
  obtain ⟨dx2, e2⟩ := x13.one.ins
  refine ⟨t1, dx2, _, rfl, e2, t1, S, d1, at_, _, es10, "a", i0, ("a", row1 .non), rfl, .inl (.inl hat), x13.one, n0.len5, ?_, hf10, fun pr H14 s14 npr rw14 => ?_⟩
  · unfold hasE
    rw [n0.idB, hf10]
    rfl
  have x14 := x13.same s14
  intro q8 nq8
  refine ⟨upd_same, [((Sum.inr "l" : Key), V.non)], rfl, by decide, ?_⟩
  rw [upd_twice]
  have x15 := x14.same (same_new nq8 (.dK (mergeK [] [((Sum.inr "l" : Key), V.non)])))
  have hpr := same_new nq8 (.dK (mergeK [] [((Sum.inr "l" : Key), V.non)])) _ _ rw14.e
  have hq8 : (upd H14 q8 (.dK (mergeK [] [((Sum.inr "l" : Key), V.non)]))) q8 = some (.dK (mergeK [] [((Sum.inr "l" : Key), V.non)])) := upd_same
  generalize (upd H14 q8 (.dK (mergeK [] [((Sum.inr "l" : Key), V.non)]))) = H15 at x15 hpr hq8 ⊢
  refine ⟨pr, q8, _, _, rfl, rfl, hpr, hq8, rfl, fun y hy => ?_, _, rfl, ff_if rfl ?_⟩
  · rw [show y = ((Sum.inr "l" : Key), V.non) from List.mem_singleton.mp hy]
    exact ⟨rfl, rfl⟩
  exact tailQ Q a b c0 S t1 d1 t2 d2 pI (pT :: M) v5 v6 v8 v9 _ v11 ids es10 H15 all x15 io ke10
end
end Lw

set_option Elab.async false
set_option linter.all false
set_option maxRecDepth 100000
set_option maxHeartbeats 16000000
namespace Lw
open PySem PySem.Spec PyProof.Rows L2
theorem fieldsA : fieldsOf tabs0 "a" = [("l" : Str)] := by decide +kernel
theorem roA (v : V) : rowOk (fieldsOf tabs0 "a") (row1 v) = okV v := by
  rw [fieldsA]
  show (true && (okV v && true)) = okV v
  rw [Bool.and_true]
  rfl
theorem keepT {CT CS : Addr} {H H' : Hp} {b c S t1 d1 t2 d2 pI p : Addr} {M : List Addr} {ids : List Str} {es1 es2 : TEnts} {l : List V} (x : LawAt CT CS H b c S t1 d1 t2 d2 pI M ids es1 es2) (k : But d1 H H') (e : H p = some (.lst l)) : H' p = some (.lst l) := by
  obtain ⟨_, h1⟩ := x.dK1
  exact k _ _ e fun n => by rw [← n, e] at h1; cases h1
theorem cut_from (xs : List V) (i : Nat) : cutV xs (some (i : Int)) none = xs.drop i := by
  have e : HT.sIx xs.length 0 (some ((i : Nat) : Int)) = min i xs.length := HT.sIx_nat _ _ i
  unfold cutV
  rw [e, HT.sIx_none]
  rcases Nat.le_total i xs.length with h | h
  · rw [Nat.min_eq_left h]
    exact List.take_of_length_le (by rw [List.length_drop]; exact Nat.le_refl _)
  · rw [Nat.min_eq_right h, List.drop_of_length_le h, List.drop_of_length_le (Nat.le_refl _)]
    exact List.take_nil
abbrev abT (j : Nat) : Str := if j % 2 = 0 then "a" else "b"
/-- the identifiers so far: every other one in the table a -/
def Half (ids : List Str) (i : Nat) (es : TEnts) : Prop := es.map (·.1) = ids.take i ∧ ∀ (j : Nat) (z : Str), j < i → j < 2 → ids[j]? = some z → ∃ r, findS es z = some (abT j, r)
theorem Half.snoc {ids : List Str} {i : Nat} {es : TEnts} {z : Str} {e : TEnt} (nd : ids.Nodup) (h : Half ids i es) (hz : ids[i]? = some z) (he : i < 2 → e.1 = abT i) : Half ids (i + 1) (putS es z e) ∧ putS es z e = es ++ [(z, e)] := by
  have no : z ∉ es.map (·.1) := by
    rw [h.1]
    exact take_not_mem nd hz
  refine ⟨⟨?_, fun j y hj h2 hy => ?_⟩, putS_out no⟩
  · rw [putS_out no, List.map_append, h.1, List.take_add_one, hz]
    rfl
  · rw [findS_put]
    by_cases q : y = z
    · rw [if_pos q]
      have e1 : j = i := by
        subst q
        have l1 := (List.getElem?_eq_some_iff.mp hy).1
        have l2 := (List.getElem?_eq_some_iff.mp hz).1
        have e2 := (List.getElem?_eq_some_iff.mp hy).2
        have e3 := (List.getElem?_eq_some_iff.mp hz).2
        exact (List.getElem_inj nd).mp (e2.trans e3.symm)
      subst e1
      exact ⟨e.2, by rw [← he h2]⟩
    · rw [if_neg q]
      refine h.2 j y ?_ h2 hy
      rcases Nat.lt_or_ge j i with g | g
      · exact g
      · have e1 : j = i := by omega
        subst e1
        rw [hy] at hz
        exact absurd (Option.some.inj hz) q
theorem Half.len {ids : List Str} {i : Nat} {es : TEnts} (h : Half ids i es) (l : i ≤ ids.length) : es.length = i := by
  have e := congrArg List.length h.1
  rw [List.length_map, List.length_take] at e
  omega
section
variable {P : Program} {w : World} {K : PySem.W.Frag} {mg : Str → Option Value} {base : Heap} {CT CS e0 : Addr} {D : Nat → Addr} {f : Addr} {cdv : Value} {A0 : Around} {outer : List Env} {s0 : Shared} {H0 : Hp} {E : XK}
theorem segB (c : LawC P w K mg base CT CS e0 D) (hr : Room 10 (A0.deeper (envOfC "law" (defScope sLaw) s0.heap.objs.size f cdv))) :
    ∃ u, PSs (cxOf CX0 P w K mg base NLaw "law" (defScope sLaw) f cdv A0 outer s0 H0 E).nox ((defBody sLaw).drop 5) u ∧ ∀ (Q : VK) (a b c0 S t1 d1 t2 d2 pI : Addr) (M : List Addr) (m : Nat) (v6 v8 v9 v10 v11 : Option V) (ids : List Str) (H : Hp), (∀ H', Q (.bl true) H') → LawAt CT CS H b c0 S t1 d1 t2 d2 pI M ids [] [] → IdsOk ids → 190 ≤ m → m ≤ 200 →
      u { nx := fun _ H' => Q .non H', rt := Q } [some (.ref a), some (.ref b), some (.ref S), some (.ref t1), some (.ref t2), some (.int m), v6, some (.ref pI), v8, v9, v10, v11] H := by
  have hu : (cxOf CX0 P w K mg base NLaw "law" (defScope sLaw) f cdv A0 outer s0 H0 E).nox.A.units + 64 < cLine := hr.units
  obtain ⟨fl, fdl, Fl, bl, ol⟩ := c.len
  obtain ⟨u, tailP, tailQ⟩ := segD (outer := outer) (H0 := H0) (E := E) c hr
  refine ⟨_, (pss_cons (ps_for PassesOwn.never rfl (pi_enum (by rfl) c.men (pa_cons (pe_slice sl_list (pv 7) po_none (po_some (pv 5))) pa_nil)) (pg_tup rfl (pgs_cons (pg_name (i := 8) scLaw.nd rfl (.inl rfl)) (pgs_cons (pg_name (i := 9) scLaw.nd rfl (.inl rfl)) pgs_nil)))
      (pss_one (ps_if (pt_cmpR op_ne (C8.pe_c c.set hr (by decide) (by rfl) (pa_cons (pv 3) (pa_cons (pe_ix ix_list (pe_lst (pa_cons pe_str (pa_cons pe_str pa_nil))) (pe_op op_mod (pv 8) pe_int) (fun _ _ => rfl)) (pa_cons (pv 9) (pa_cons (pe_ix ix_list (pe_lst (pa_cons (pe_disp (pps_cons pe_str (pe_ix ix_list (pv 7) pe_int (fun _ _ => rfl)) pps_nil) rfl rfl (by decide) (by decide)) (pa_cons pe_dnewK pa_nil))) (pe_op op_mod (pv 8) pe_int) (fun _ _ => rfl)) pa_nil))))) pe_int (nomark _)) (pss_one (ps_ret pe_bl)) pss_nil)))
    (pss_cons (ps_if (PW.pt (pw_or (pt_cmpR op_ne (pe_callB (call_lenOwn Fl bl pass0 ol (hr.mono (by decide))) (by rfl) c.mlen (by decide +kernel) (pa_cons (pv 3) pa_nil)) (pv 5) (nomark _)) (pw_or1 (pt_cmpR (op_nePl hu) (C8.pe_mt0 c.mids hr (by decide) (pv 3)) (pe_callB cr_sortSA (by rfl) c.mso (by decide +kernel) (pa_cons (pe_slice sl_list (pv 7) po_none (po_some (pv 5))) pa_nil)) (nomark _))))) (pss_one (ps_ret pe_bl)) pss_nil)
    (pss_cons (ps_for PassesOwn.never rfl (pi_list (pe_slice sl_list (pv 7) (po_some (pv 5)) po_none)) (pg_name (i := 9) scLaw.nd rfl (.inl rfl))
      (pss_one (ps_if (pt_cmpR op_ne (C8.pe_c c.set hr (by decide) (by rfl) (pa_cons (pv 3) (pa_cons pe_str (pa_cons (pv 9) (pa_cons pe_dnewK pa_nil))))) pe_int (nomark _)) (pss_one (ps_ret pe_bl)) pss_nil)))
    tailP))), fun Q a b c0 S t1 d1 t2 d2 pI M m v6 v8 v9 v10 v11 ids H all x io m1 m2 => ?_⟩
  obtain ⟨i0, h0⟩ : ∃ z, ids[0]? = some z := ⟨_, List.getElem?_eq_getElem (by rw [io.len]; decide)⟩
  obtain ⟨i1, h1⟩ : ∃ z, ids[1]? = some z := ⟨_, List.getElem?_eq_getElem (by rw [io.len]; decide)⟩
  have n0 := io.name (List.mem_of_getElem? h0)
  have at0 : atI (ids.map V.str) 0 = some (.str i0) := atI_nat (j := 0) (by rw [List.getElem?_map, h0]; rfl)
  have ta : ("a" : Str) ∈ tabs0.map (·.1) := by decide
  have tb : ("b" : Str) ∈ tabs0.map (·.1) := by decide
  have idl := io.len
  refine ⟨_, rfl, .int m, rfl, (m : Int), rfl, pI, ids.map V.str, rfl, .inl (.inl x.list), fun pL npL => ?_⟩
  rw [cut_take, ← List.map_take]
  have x1 := x.same (same_new npL (.lst ((ids.take m).map V.str)))
  have hL : (upd H pL (.lst ((ids.take m).map V.str))) pL = some (.lst ((ids.take m).map V.str)) := upd_same
  generalize (upd H pL (.lst ((ids.take m).map V.str))) = H1 at x1 hL ⊢
  clear x npL
  refine ⟨pL, _, rfl, .inl (.inl hL), ?_⟩
  refine for_it walk_enum (fun i σ Hx => (∃ o8 o9, σ = [some (.ref a), some (.ref b), some (.ref S), some (.ref t1), some (.ref t2), some (.int m), v6, some (.ref pI), o8, o9, v10, v11]) ∧ Hx pL = some (.lst ((ids.take m).map V.str)) ∧ ∃ es, Half ids i es ∧ LawAt CT CS Hx b c0 S t1 d1 t2 d2 pI M ids es [])
    ⟨⟨_, _, rfl⟩, hL, [], ⟨rfl, fun j z h => absurd h (by omega)⟩, x1⟩ (fun i σ Hx _ p => .inl (.inl p.2.1)) ?_ ?_
  · rintro i y σ Hx H' hi ⟨⟨o8, o9, rfl⟩, hLx, es, hf, xx⟩ ⟨pr, y1, y2, rfl, npr, rfl, e1, e2⟩
    have e1' : V.int (i : Nat) = y1 := Option.some.inj e1
    subst e1'
    obtain ⟨z, hz0, rfl⟩ := map_get e2
    rw [List.length_map, List.length_take] at hi
    have im : i < m := by omega
    have hz : ids[i]? = some z := by
      rw [List.getElem?_take, if_pos im] at hz0
      exact hz0
    have zn := io.name (List.mem_of_getElem? hz)
    have les : es.length = i := hf.len (by omega)
    have zno : findS es z = none := findS_none.mpr (by
      rw [hf.1]
      exact take_not_mem io.nd hz)
    have s2 : Same Hx (upd Hx pr (.tup [.int (i : Nat), .str z])) := same_new npr _
    have x2 := xx.same s2
    refine ⟨pr, [.int (i : Nat), .str z], rfl, .inl (.inl upd_same), rfl, .int (i : Nat), [.str z], rfl, .str z, [], rfl, rfl, ?_⟩
    have hL2 := s2 _ _ hLx
    generalize (upd Hx pr (.tup [.int (i : Nat), .str z])) = H2 at x2 hL2 ⊢
    have md : ((i : Int) % 2) = ((i % 2 : Nat) : Int) := by omega
    have m01 : i % 2 = 0 ∨ i % 2 = 1 := by omega
    refine ⟨_, rfl, small (by show 2 ≤ 1000; decide), fun l1 nl1 => ?_⟩
    have x3 := x2.same (same_new nl1 (.lst [.str "a", .str "b"]))
    have hl1 : (upd H2 l1 (.lst [.str "a", .str "b"])) l1 = some (.lst [.str "a", .str "b"]) := upd_same
    have hL3 := same_new nl1 (.lst [.str "a", .str "b"]) _ _ hL2
    generalize (upd H2 l1 (.lst [.str "a", .str "b"])) = H3 at x3 hl1 hL3 ⊢
    refine ⟨_, rfl, (i : Int), 2, rfl, rfl, (by decide : (0 : Int) < 2), l1, _, _, .str (abT i), rfl, rfl, .inl (.inl hl1), ?_, ?_⟩
    · rw [md]
      rcases m01 with h | h
      · rw [h, show abT i = "a" from if_pos h]
        exact atI_nat (j := 0) rfl
      · rw [h, show abT i = "b" from if_neg (by omega)]
        exact atI_nat (j := 1) rfl
    refine ⟨_, rfl, fun q nq => ?_⟩
    have xq := x3.same (same_new nq (.dK []))
    refine ⟨_, rfl, pI, _, 0, .str i0, rfl, rfl, .inl (.inl xq.list), at0, upd_same, [((Sum.inr "l" : Key), V.str i0)], rfl, (by show 1 ≤ 15; decide), ?_⟩
    rw [upd_twice]
    have x4 := x3.same (same_new nq (.dK (mergeK [] [((Sum.inr "l" : Key), V.str i0)])))
    have hq : (upd H3 q (.dK (mergeK [] [((Sum.inr "l" : Key), V.str i0)]))) q = some (.dK (tkD (row1 (.str i0)))) := upd_same
    have hL4 := same_new nq (.dK (mergeK [] [((Sum.inr "l" : Key), V.str i0)])) _ _ hL3
    generalize (upd H3 q (.dK (mergeK [] [((Sum.inr "l" : Key), V.str i0)]))) = H4 at x4 hq hL4 ⊢
    intro q2 nq2
    have x5 := x4.same (same_new nq2 (.dK []))
    have hq5 := same_new nq2 (.dK []) _ _ hq
    have hr5 : (upd H4 q2 (.dK [])) q2 = some (.dK []) := upd_same
    have hL5 := same_new nq2 (.dK []) _ _ hL4
    generalize (upd H4 q2 (.dK [])) = H5 at x5 hq5 hr5 hL5 ⊢
    refine ⟨small (by show 2 ≤ 1000; decide), fun l2 nl2 => ?_⟩
    have x6 := x5.same (same_new nl2 (.lst [.ref q, .ref q2]))
    have hq6 := same_new nl2 (.lst [.ref q, .ref q2]) _ _ hq5
    have hr6 := same_new nl2 (.lst [.ref q, .ref q2]) _ _ hr5
    have hL6 := same_new nl2 (.lst [.ref q, .ref q2]) _ _ hL5
    have hl2 : (upd H5 l2 (.lst [.ref q, .ref q2])) l2 = some (.lst [.ref q, .ref q2]) := upd_same
    generalize (upd H5 l2 (.lst [.ref q, .ref q2])) = H6 at x6 hq6 hr6 hl2 hL6 ⊢
    clear x2 x3 x4 x5 xq hq hq5 hr5 nq nq2 nl1 nl2 hL2 hL3 hL4 hL5
    have step : ∀ {wr : Addr} {r : Rw} {QQ : VK}, RwAt H6 wr r → setN tabs0 es (abT i) z r = 0 → (∀ H7, (H7 pL = some (.lst ((ids.take m).map V.str)) ∧ ∃ es, Half ids (i + 1) es ∧ LawAt CT CS H7 b c0 S t1 d1 t2 d2 pI M ids es []) → QQ (.int 0) H7) → spLSet CT CS [.ref t1, .str (abT i), .str z, .ref wr] H6 QQ C8.E0 := fun {wr r QQ} row n fin => by
      refine set_call x6 (fun _ _ h => h) zn.len5 row (by omega) (fun _ H7 b7 x7 => ?_) (fun k hk k0 => absurd (hk.symm.trans n) k0)
      exact fin H7 ⟨keepT x6 b7 hL6, _, (hf.snoc io.nd hz (fun _ => rfl)).1, x7⟩
    rcases m01 with h | h
    · have ab : abT i = "a" := if_pos h
      refine ⟨_, rfl, (i : Int), 2, rfl, rfl, (by decide : (0 : Int) < 2), l2, _, _, .ref q, rfl, rfl, .inl (.inl hl2), by rw [md, h]; exact atI_nat (j := 0) rfl, ?_⟩
      dsimp only [tNil, List.append_nil]
      refine step (r := row1 (.str i0)) ⟨hq6, by simp, by show 1 ≤ 60; decide, fun p hp => by rw [List.mem_singleton.mp hp]; exact .inr ⟨_, rfl, n0.len5⟩⟩ ?_ fun H7 inv => ?_
      · rw [ab, setN_out ta zn.idB (by rw [roA]; exact n0.idB) zno, if_neg (by omega)]
      · exact ⟨rfl, _, rfl, ff_if (by decide) ⟨⟨_, _, rfl⟩, inv⟩⟩
    · have ab : abT i = "b" := if_neg (by omega)
      refine ⟨_, rfl, (i : Int), 2, rfl, rfl, (by decide : (0 : Int) < 2), l2, _, _, .ref q2, rfl, rfl, .inl (.inl hl2), by rw [md, h]; exact atI_nat (j := 1) rfl, ?_⟩
      dsimp only [tNil, List.append_nil]
      refine step (r := []) ⟨hr6, List.nodup_nil, by decide, fun _ h => nomatch h⟩ ?_ fun H7 inv => ?_
      · rw [ab, setN_out tb zn.idB roB0 zno, if_neg (by omega)]
      · exact ⟨rfl, _, rfl, ff_if (by decide) ⟨⟨_, _, rfl⟩, inv⟩⟩
  rintro σ H2 ⟨⟨o8, o9, rfl⟩, hL2, es, hf, x2⟩
  have lt : ((ids.take m).map V.str).length = m := by
    rw [List.length_map, List.length_take]
    omega
  rw [lt] at hf
  have les : es.length = m := hf.len (by omega)
  clear hL hL2 x1 lt
  obtain ⟨dx, e⟩ := x2.one.ins
  refine ⟨_, rfl, t1, dx, _, rfl, e, t1, S, d1, _, es, rfl, x2.one, es.length, rfl, by omega, ?_⟩
  rw [les]
  refine ⟨_, rfl, rfl, _, rfl, ff_if (by rw [decide_eq_true rfl]; rfl) ?_⟩
  refine ⟨_, rfl, t1, dx, _, rfl, e, rfl, t1, S, d1, _, es, rfl, x2.one, fun ws p H3 pm so np s3 hp => ?_⟩
  have x3 := x2.same s3
  refine ⟨_, rfl, .int m, rfl, (m : Int), rfl, pI, ids.map V.str, rfl, .inl (.inl x3.list), fun p2 np2 => ?_⟩
  rw [cut_take, ← List.map_take]
  have x4 := x3.same (same_new np2 (.lst ((ids.take m).map V.str)))
  have hp4 := same_new np2 (.lst ((ids.take m).map V.str)) _ _ hp
  have h24 : (upd H3 p2 (.lst ((ids.take m).map V.str))) p2 = some (.lst ((ids.take m).map V.str)) := upd_same
  generalize (upd H3 p2 (.lst ((ids.take m).map V.str))) = H4 at x4 hp4 h24 ⊢
  refine ⟨p2, ids.take m, rfl, .inl (.inl h24), by rw [List.length_take]; omega, fun ws2 p3 pm2 so2 np3 => ?_⟩
  have same2 : ws2 = ws := by
    rw [hf.1] at pm
    rw [sort_eq pm so, sort_eq pm2 so2]
  subst same2
  have x5 := x4.same (same_new np3 (.lst (ws2.map V.str)))
  have hp5 := same_new np3 (.lst (ws2.map V.str)) _ _ hp4
  have h35 : (upd H4 p3 (.lst (ws2.map V.str))) p3 = some (.lst (ws2.map V.str)) := upd_same
  generalize (upd H4 p3 (.lst (ws2.map V.str))) = H5 at x5 hp5 h35 ⊢
  have sh : SeqAt.shaped (Tr.lst (ws2.map Tr.str)).data = true := by
    have e2 : (Tr.lst (ws2.map Tr.str)).data = .list (ws2.map PyData.str) := by
      show PyData.list (Tr.datas (ws2.map Tr.str)) = _
      rw [datas_map, List.map_map]
      rfl
    rw [e2]
    exact strs_shaped fun z hz => io.name (List.mem_of_mem_take (pm2.mem_iff.mp hz))
  refine ⟨.lst (ws2.map Tr.str), .lst (ws2.map Tr.str), fun _ => True, fun _ => True, .lst hp5 trivial (DTs.ofStrs ws2), .lst h35 trivial (DTs.ofStrs ws2), sh, sh, ?_⟩
  rw [SeqAt.eqv_refl _ (SeqAt.canLay_of_shaped sh)]
  refine ⟨_, rfl, ff_if rfl ?_⟩
  clear x2 x3 x4 hp hp4 hp5 h24 h35 np np2 np3 s3 e
  -- the others
  refine ⟨_, rfl, .int m, rfl, (m : Int), rfl, pI, ids.map V.str, rfl, .inl (.inl x5.list), fun pL2 npL2 => ?_⟩
  rw [cut_from, ← List.map_drop]
  have x6 := x5.same (same_new npL2 (.lst ((ids.drop m).map V.str)))
  have hL6 : (upd H5 pL2 (.lst ((ids.drop m).map V.str))) pL2 = some (.lst ((ids.drop m).map V.str)) := upd_same
  generalize (upd H5 pL2 (.lst ((ids.drop m).map V.str))) = H6 at x6 hL6 ⊢
  refine ⟨pL2, rfl, ⟨_, .inl (.inl hL6)⟩, ?_⟩
  refine for_list (K := K) (a := pL2) (xs := (ids.drop m).map V.str) (fun i σ Hx => (∃ v8 v9, σ = [some (.ref a), some (.ref b), some (.ref S), some (.ref t1), some (.ref t2), some (.int m), v6, some (.ref pI), v8, v9, v10, v11]) ∧ Hx pL2 = some (.lst ((ids.drop m).map V.str)) ∧ ∃ es, Half ids (m + i) es ∧ LawAt CT CS Hx b c0 S t1 d1 t2 d2 pI M ids es [])
    ⟨⟨_, _, rfl⟩, hL6, es, hf, x6⟩ (fun i σ Hx _ q => .inl (.inl q.2.1)) ?_ ?_
  · rintro i v σ Hx hi ⟨⟨v8', v9', rfl⟩, hLx, es2, hf2, xx⟩
    obtain ⟨z, hz0, rfl⟩ := map_get hi
    have hz : ids[m + i]? = some z := by rw [← List.getElem?_drop]; exact hz0
    have il := (List.getElem?_eq_some_iff.mp hz).1
    have zn := io.name (List.mem_of_getElem? hz)
    have les2 : es2.length = m + i := hf2.len (by omega)
    have zno : findS es2 z = none := findS_none.mpr (by
      rw [hf2.1]
      exact take_not_mem io.nd hz)
    refine ⟨_, rfl, _, rfl, fun q nq => ?_⟩
    dsimp only [tNil, List.append_nil]
    refine set_nil nq xx zn.len5 (by omega) (fun _ H7 b7 x7 => ?_) (fun k hk k0 => absurd (hk.symm.trans ((setN_out tb zn.idB roB0 zno).trans (if_neg (by omega)))) k0)
    refine ⟨rfl, _, rfl, ff_if (by decide) ⟨⟨_, _, rfl⟩, keepT xx b7 hLx, _, ?_, x7⟩⟩
    exact (hf2.snoc io.nd hz (fun h => absurd h (by omega))).1
  rintro σ H7 ⟨⟨v8', v9', rfl⟩, hL7, es2, hf2, x7⟩
  have lt2 : m + ((ids.drop m).map V.str).length = 200 := by
    rw [List.length_map, List.length_drop]
    omega
  rw [lt2] at hf2
  obtain ⟨r0, hr0⟩ := hf2.2 0 i0 (by decide) (by decide) h0
  obtain ⟨r1, hr1⟩ := hf2.2 1 i1 (by decide) (by decide) h1
  exact tailQ Q a b c0 S t1 d1 t2 d2 pI M _ v6 _ _ v10 v11 ids i0 i1 r0 r1 es2 H7 all x7 io (by rw [hf2.1, ← idl, List.take_length]) h0 h1 hr0 hr1
end
end Lw

set_option Elab.async false
set_option linter.all false
set_option maxRecDepth 100000
set_option maxHeartbeats 16000000
namespace Lw
open PySem PySem.Spec PyProof.Rows L2
/-- a schema is made -/
theorem MadeAt.at {C : Addr} {H1 H' : Hp} {s dx : Addr} {tabs : Tabs} {rs : List Rul} (ns : H1 s = none) (nd : H1 dx = none) (m : MadeAt C (upd (upd H1 dx (.own s)) s (.ins C dx [])) s dx tabs rs H') : SchAt C H' (fun a => H1 a = none) s tabs rs ∧ Same H1 H' := by
  obtain ⟨k, dT, dR, e, d1, d2⟩ := m
  have fr : ∀ c, (upd (upd H1 dx (.own s)) s (.ins C dx [])) c = none → H1 c = none := fun c h => by
    by_cases q : c = s
    · rw [q]; exact ns
    · rw [upd_ne q] at h
      by_cases q2 : c = dx
      · rw [q2]; exact nd
      · rw [upd_ne q2] at h; exact h
  exact ⟨⟨dx, dT, dR, ns, e, d1.sub fr, d2.sub fr⟩, fun a o ea => k a o (by rw [upd_ne (ne_of_none ea ns), upd_ne (ne_of_none ea nd)]; exact ea) (ne_of_none ea ns)⟩
def spLaw (K : PySem.W.Frag) : Sp := fun vs H Q _ => ∃ (a : Addr) (ns : List Int), vs = [.ref a] ∧ SqL K H a (ns.map V.int) ∧ ns.length ≤ 63 ∧ ∀ H', Q (.bl true) H'
theorem ids_ok : IdsOk (idsL 200 "q") := ⟨idsL_nd 200 "q", by unfold idsL; rw [List.length_map, List.length_range], fun z hz => idsL_mem hz⟩
theorem ids_rev : IdsOk (idsL 200 "q").reverse := ⟨(List.reverse_perm _).nodup_iff.mpr ids_ok.nd, by rw [List.length_reverse]; exact ids_ok.len, fun z hz => ids_ok.mem z (List.mem_reverse.mp hz)⟩
section
variable {P : Program} {w : World} {K : PySem.W.Frag} {mg : Str → Option Value} {base : Heap} {CT CS e0 : Addr} {D : Nat → Addr}
theorem ok_law {f : Addr} {fd : FuncData} (F : Fun K "law" "law" sLaw f fd) (c : LawC P w K mg base CT CS e0 D) : FnOk P w K mg base CX0 11 f fd ["_law_script"] (spLaw K) := by
  refine F.ok scLaw (fun vs H Q E h => ?_) (fun cdv A0 outer s0 H vs Q E hr h => ?_)
  · obtain ⟨a, ns, rfl, _⟩ := h
    rfl
  obtain ⟨a, ns, rfl, hS, h63, all⟩ := h
  obtain ⟨u, tailP, tailQ⟩ := segB (outer := outer) (H0 := H) (E := E) c hr
  refine ⟨_, (pss_cons (ps_set (i := 1) scLaw.nd rfl (.inl rfl) (C8.pe_c c.bag hr (by decide) (by rfl) (pa_cons (pv 0) pa_nil)))
    (pss_cons (ps_set (i := 2) scLaw.nd rfl (.inl rfl) (C8.pe_mk c.sch hr (by decide) (by rfl) (pa_cons (pe_disp (pps_cons pe_str (pe_disp (pps_cons pe_str (pe_tup (pa_cons pe_str (pa_cons pe_str pa_nil))) pps_nil) rfl rfl (by decide) (by decide)) (pps_cons pe_str pe_dnewK pps_nil)) rfl rfl (by decide) (by decide)) pa_nil)))
    (pss_cons (ps_par (i := 3) (j := 4) rfl scLaw.nd rfl rfl (by decide) rfl rfl (pa_cons (C8.pe_mk c.mkT hr (by decide) (by rfl) (pa_cons (pv 2) pa_nil)) (pa_cons (C8.pe_mk c.mkT hr (by decide) (by rfl) (pa_cons (pv 2) pa_nil)) pa_nil)) (by rfl))
    (pss_cons (ps_par (i := 5) (j := 6) rfl scLaw.nd rfl rfl (by decide) rfl rfl (pa_cons (pe_op op_add pe_int (C8.pe_c c.take hr (by decide) (by rfl) (pa_cons (pv 1) (pa_cons pe_int pa_nil)))) (pa_cons (C8.pe_c c.take hr (by decide) (by rfl) (pa_cons (pv 1) (pa_cons pe_int pa_nil))) pa_nil)) (by rfl))
    (pss_cons (ps_set (i := 7) scLaw.nd rfl (.inl rfl) (pe_stepL (C8.pe_c c.ids hr (by decide) (by rfl) (pa_cons pe_int (pa_cons pe_str pa_nil))) (pe_op op_sub pe_int (pe_op op_mul pe_int (pv 6)))))
    tailP))))), ?_⟩
  refine ⟨_, rfl, a, ns, rfl, hS, h63, fun b c0 H1 nb nc hb s1 => ?_⟩
  -- the schema
  intro p np
  have s2 : Same H1 (upd H1 p (.dK [])) := same_new np _
  have hp2 : (upd H1 p (.dK [])) p = some (.dK []) := upd_same
  have fr2 : ∀ {x : Addr}, (upd H1 p (.dK [])) x = none → H1 x = none := fun h => s2.free h
  generalize (upd H1 p (.dK [])) = H2 at s2 hp2 fr2 ⊢
  intro q nq
  have npq : q ≠ p := (ne_of_none hp2 nq).symm
  have s3 : Same H2 (upd H2 q (.dK [])) := same_new nq _
  have hp3 := s3 _ _ hp2
  have hq3 : (upd H2 q (.dK [])) q = some (.dK []) := upd_same
  generalize (upd H2 q (.dK [])) = H3 at s3 hp3 hq3 ⊢
  refine ⟨small (by show 2 ≤ 1000; decide), fun tu ntu => ?_⟩
  have s4 : Same H3 (upd H3 tu (.tup [.str "link", .str "b"])) := same_new ntu _
  have ht4 : (upd H3 tu (.tup [.str "link", .str "b"])) tu = some (.tup [.str "link", .str "b"]) := upd_same
  have hp4 := s4 _ _ hp3
  have hq4 := s4 _ _ hq3
  generalize (upd H3 tu (.tup [.str "link", .str "b"])) = H4 at s4 ht4 hp4 hq4 ⊢
  refine ⟨hq4, [((Sum.inr "l" : Key), V.ref tu)], rfl, by show 1 ≤ 15; decide, ?_⟩
  have nH1q : H1 q = none := fr2 nq
  have k5 : ∀ x o, H1 x = some o → (upd H4 q (.dK (mergeK [] [((Sum.inr "l" : Key), V.ref tu)]))) x = some o := fun x o h => by
    rw [upd_ne (ne_of_none h nH1q)]
    exact s4 _ _ (s3 _ _ (s2 _ _ h))
  have hp5 : (upd H4 q (.dK (mergeK [] [((Sum.inr "l" : Key), V.ref tu)]))) p = some (.dK []) := by rw [upd_ne npq.symm]; exact hp4
  have hq5 : (upd H4 q (.dK (mergeK [] [((Sum.inr "l" : Key), V.ref tu)]))) q = some (.dK [((Sum.inr "l" : Key), V.ref tu)]) := upd_same
  have ht5 : (upd H4 q (.dK (mergeK [] [((Sum.inr "l" : Key), V.ref tu)]))) tu = some (.tup [.str "link", .str "b"]) := by
    rw [upd_ne (fun n => by rw [n, hq4] at ht4; cases ht4)]
    exact ht4
  generalize (upd H4 q (.dK (mergeK [] [((Sum.inr "l" : Key), V.ref tu)]))) = H5 at k5 hp5 hq5 ht5 ⊢
  intro q2 nq2
  have s6 : Same H5 (upd H5 q2 (.dK [])) := same_new nq2 _
  have h26 : (upd H5 q2 (.dK [])) q2 = some (.dK []) := upd_same
  have hp6 := s6 _ _ hp5
  have hq6 := s6 _ _ hq5
  have ht6 := s6 _ _ ht5
  have nq2p : q2 ≠ p := (ne_of_none hp5 nq2).symm
  generalize (upd H5 q2 (.dK [])) = H6 at s6 h26 hp6 hq6 ht6 ⊢
  refine ⟨hp6, [((Sum.inr "a" : Key), V.ref q), ((Sum.inr "b" : Key), V.ref q2)], rfl, by show 2 ≤ 15; decide, ?_⟩
  have k7 : Same H1 (upd H6 p (.dK (mergeK [] [((Sum.inr "a" : Key), V.ref q), ((Sum.inr "b" : Key), V.ref q2)]))) := fun x o h => by
    rw [upd_ne (ne_of_none h np)]
    exact s6 _ _ (k5 _ _ h)
  have hp7 : (upd H6 p (.dK (mergeK [] [((Sum.inr "a" : Key), V.ref q), ((Sum.inr "b" : Key), V.ref q2)]))) p = some (.dK [((Sum.inr "a" : Key), V.ref q), ((Sum.inr "b" : Key), V.ref q2)]) := upd_same
  have hq7 : (upd H6 p (.dK (mergeK [] [((Sum.inr "a" : Key), V.ref q), ((Sum.inr "b" : Key), V.ref q2)]))) q = some (.dK [((Sum.inr "l" : Key), V.ref tu)]) := by rw [upd_ne npq]; exact hq6
  have h27 : (upd H6 p (.dK (mergeK [] [((Sum.inr "a" : Key), V.ref q), ((Sum.inr "b" : Key), V.ref q2)]))) q2 = some (.dK []) := by rw [upd_ne nq2p]; exact h26
  have ht7 : (upd H6 p (.dK (mergeK [] [((Sum.inr "a" : Key), V.ref q), ((Sum.inr "b" : Key), V.ref q2)]))) tu = some (.tup [.str "link", .str "b"]) := by
    rw [upd_ne (fun n => by rw [n, hp6] at ht6; cases ht6)]
    exact ht6
  generalize (upd H6 p (.dK (mergeK [] [((Sum.inr "a" : Key), V.ref q), ((Sum.inr "b" : Key), V.ref q2)]))) = H7 at k7 hp7 hq7 h27 ht7 ⊢
  clear s2 hp2 fr2 s3 hp3 hq3 s4 ht4 hp4 hq4 k5 hp5 hq5 ht5 s6 h26 hp6 hq6 ht6 np nq ntu nq2 npq nq2p nH1q
  have dT : DT H7 (fun _ => True) (.ref p) (tablesT tabs0) := by
    refine .dct hp7 trivial rfl (by decide) (by decide) (.cons ?_ (.cons ?_ .nil))
    · exact .dct hq7 trivial rfl (by decide) (by decide) (.cons (.tup ht7 trivial (.cons (.str _) (.cons (.str _) .nil))) .nil)
    · exact .dct h27 trivial rfl (by decide) (by decide) .nil
  intro S dx nS ndx nsd
  have sN : Same H7 (upd (upd H7 dx (.own S)) S (.ins CS dx [])) := (same_new ndx _).trans (same_new (by rw [upd_ne nsd.symm]; exact nS) _)
  refine ⟨S, dx, p, e0, [], tabs0, [], _, fun _ => True, rfl, upd_same, dT.same sN, c.ne0.sq _, fun H' _ => c.ne0.ty _, .nil, parts0, fun H8 md => ⟨rfl, ?_⟩⟩
  obtain ⟨x8, s78⟩ := md.at nS ndx
  have hb8 := (hb.mono k7).mono s78
  have x8' : SchAt CS H8 (fun a => a ≠ b ∧ H8 a ≠ none) S tabs0 [] := x8.exist.sub fun a h => ⟨fun n => (hb.mono k7).nb h.1 n, h.2⟩
  clear dT sN md x8 s78 k7 hp7 hq7 h27 ht7
  obtain ⟨sdx, sfs, hS8⟩ : ∃ sdx sfs, H8 S = some (.ins CS sdx sfs) := by
    obtain ⟨dx, dT, dR, _, e, _⟩ := x8'.ex
    exact ⟨_, _, e⟩
  -- the tables
  refine ⟨_, rfl, fun t1 tdx1 nt1 ntd1 ne1 => ?_⟩
  have sN1 : Same H8 (upd (upd H8 tdx1 (.own t1)) t1 (.ins CT tdx1 [])) := (same_new ntd1 _).trans (same_new (by rw [upd_ne ne1.symm]; exact nt1) _)
  refine ⟨t1, tdx1, S, sdx, sfs, rfl, upd_same, sN1 _ _ hS8, ne_of_none hS8 nt1, fun d1 H9 nd1 keep1 ht1 hd1 => ⟨rfl, ?_⟩⟩
  have s9 : Same H8 H9 := fun x u h => keep1 x u (sN1 _ _ h) (ne_of_none h nt1)
  have nd18 : H8 d1 = none := sN1.free nd1
  refine ⟨_, rfl, fun t2 tdx2 nt2 ntd2 ne2 => ?_⟩
  have sN2 : Same H9 (upd (upd H9 tdx2 (.own t2)) t2 (.ins CT tdx2 [])) := (same_new ntd2 _).trans (same_new (by rw [upd_ne ne2.symm]; exact nt2) _)
  have hS9 := s9 _ _ hS8
  refine ⟨t2, tdx2, S, sdx, sfs, rfl, upd_same, sN2 _ _ hS9, ne_of_none hS9 nt2, fun d2 H10 nd2 keep2 ht2 hd2 => ⟨rfl, ?_⟩⟩
  have s10 : Same H9 H10 := fun x u h => keep2 x u (sN2 _ _ h) (ne_of_none h nt2)
  have nd29 : H9 d2 = none := sN2.free nd2
  have d12 : d1 ≠ d2 := ne_of_none hd1 nd29
  have x10 : SchAt CS H10 (· ∉ NL d1 d2 b []) S tabs0 [] := (x8'.mono fun a o _ e => s10 _ _ (s9 _ _ e)).sub fun a h m => by
    simp only [NL, List.mem_cons, List.not_mem_nil, or_false] at m
    rcases m with e | e | e
    · exact h.2 (e ▸ nd18)
    · exact h.2 (e ▸ s9.free nd29)
    · exact h.1 e
  have one : TabAt CT H10 (NL d1 d2 b []) t1 S d1 [] := ⟨⟨tdx1, s10 _ _ ht1⟩, ⟨[], s10 _ _ hd1, .nil⟩, List.nodup_nil, Nat.zero_le _⟩
  have two : TabAt CT H10 (NL d1 d2 b []) t2 S d2 [] := ⟨⟨tdx2, ht2⟩, ⟨[], hd2, .nil⟩, List.nodup_nil, Nat.zero_le _⟩
  have hb10 := (hb8.mono s9).mono s10
  have ht1' := s10 _ _ ht1
  have hd1' := s10 _ _ hd1
  clear s9 s10 sN1 sN2 keep1 keep2 x8' hb8 hS8 hS9
  refine ⟨_, _, rfl, ?_⟩
  -- the draws
  refine ⟨_, rfl, b, c0, 11, rfl, hb10, by decide, by decide, fun r H11 r0 r1 hb11 B11 => ⟨190, r, rfl, rfl, ?_⟩⟩
  refine ⟨_, rfl, b, c0, 2, rfl, hb11, by decide, by decide, fun r2 H12 r20 r21 hb12 B12 => ⟨_, _, rfl, ?_⟩⟩
  have B := B11.trans B12
  have bn : b ∈ NL d1 d2 b [] := by simp
  have bt1 : b ≠ t1 := fun n => by
    obtain ⟨_, _, _, _, e, _, _⟩ := hb10.ex
    rw [n, ht1'] at e
    cases e
  have bt2 : b ≠ t2 := fun n => by
    obtain ⟨_, _, _, _, e, _, _⟩ := hb10.ex
    rw [n, ht2] at e
    cases e
  have bd1 : b ≠ d1 := fun n => by
    obtain ⟨_, _, _, _, e, _, _⟩ := hb10.ex
    rw [n, hd1'] at e
    cases e
  have bd2 : b ≠ d2 := fun n => by
    obtain ⟨_, _, _, _, e, _, _⟩ := hb10.ex
    rw [n, hd2] at e
    cases e
  have one12 := one.but B bt1 bd1 bn
  have two12 := two.but B bt2 bd2 bn
  have x12 : SchAt CS H12 (· ∉ NL d1 d2 b []) S tabs0 [] := x10.mono fun a o na e => B _ _ e fun n => na (n ▸ bn)
  obtain ⟨m, hm, m1, m2⟩ : ∃ m : Nat, (190 + r) = (m : Int) ∧ 190 ≤ m ∧ m ≤ 200 := by
    obtain ⟨n, rfl⟩ := Int.eq_ofNat_of_zero_le r0
    exact ⟨190 + n, by omega, by omega, by omega⟩
  -- the identifiers
  refine ⟨200, "q", rfl, by decide, by decide, fun pq H13 npq s13 hpq => ?_⟩
  refine ⟨_, rfl, 2, r2, rfl, rfl, .inl ⟨by decide, by decide⟩, 1, 2 * r2, rfl, rfl, pq, _, 1 - 2 * r2, rfl, rfl, by omega, .inl (.inl hpq), fun pI npI => ?_⟩
  obtain ⟨ids, eids, io⟩ : ∃ ids : List Str, (if 1 - 2 * r2 = 1 then (idsL 200 "q").map V.str else ((idsL 200 "q").map V.str).reverse) = ids.map V.str ∧ IdsOk ids := by
    by_cases g : 1 - 2 * r2 = 1
    · exact ⟨_, by rw [if_pos g], ids_ok⟩
    · exact ⟨_, by rw [if_neg g, List.map_reverse], ids_rev⟩
  rw [eids]
  have s14 : Same H12 (upd H13 pI (.lst (ids.map V.str))) := s13.trans (same_new npI _)
  have npIb : pI ≠ b := (hb12.mono s13).nb npI
  have fin := tailQ Q a b c0 S t1 d1 t2 d2 pI [] m (some (.int r2)) none none none none ids _ all ⟨hb12.mono s14, x12.mono fun a o _ e => s14 _ _ e, one12.same s14, two12.same s14, upd_same, d12, npIb, fun _ h => nomatch h⟩ io m1 m2
  rw [← hm] at fin
  exact fin
end
end Lw

set_option Elab.async false
set_option linter.all false
set_option maxRecDepth 100000
set_option maxHeartbeats 4000000
namespace Lw
open PySem PySem.Spec PyProof.Rows L2
/-- a def: where it stands, and its text -/
structure DefT (K : PySem.W.Frag) (x : Str) (dst : Stmt) (f : Addr) (fd : FuncData) : Prop where
  a : PySem.W.nsIn K mainGlobals x = some (some (.ref f))
  F : Fun K x x dst f fd
/-- a method -/
structure MetT (K : PySem.W.Frag) (C : Addr) (m q : Str) (dst : Stmt) (f : Addr) (fd : FuncData) : Prop where
  i : PySem.W.findIn K (.ref C) m = some (some (.ref f))
  t : PySem.W.typeIn K (.ref f) = some (.type "function")
  F : Fun K m q dst f fd
theorem c8_fn {K : PySem.W.Frag} {x q : Str} {st : Stmt} {f : Addr} {fd : FuncData} (F : Fun K x q st f fd) : C8.Fun K x q st f fd := by
  obtain ⟨oc, od, kV, doc, pm, an, cdv, ct, osl, e, lk, hcd⟩ := F.ex
  have e1 : defArgs st = C8.fnArgs st := by cases st <;> rfl
  have e2 : defBody st = C8.fnBody st := by cases st <;> rfl
  have e3 : defScope st = C8.fnScope st := by cases st <;> rfl
  rw [e1, e2, e3] at e
  exact ⟨oc, od, .none, kV, doc, pm, an, cdv, ct, osl, e, lk, hcd⟩
theorem MetT.me {K : PySem.W.Frag} {C : Addr} {m q : Str} {dst : Stmt} {f : Addr} {fd : FuncData} (x : MetT K C m q dst f fd) : Meth K C m f := ⟨x.i, by unfold PySem.W.isFn; rw [x.t]; rfl, x.F.kp⟩
/-- __init__, with the tuple that stands for no rules -/
structure IniT (K : PySem.W.Frag) (C f e : Addr) (fd : FuncData) : Prop where
  i : PySem.W.findIn K (.ref C) "__init__" = some (some (.ref f))
  t : PySem.W.typeIn K (.ref f) = some (.type "function")
  F : FunD K "__init__" "Schema.__init__" (C8.fnArgs sInit) (C8.fnBody sInit) (C8.fnScope sInit) [.ref e] [] f fd
  e : NoRules K e
theorem ini_mk {K : PySem.W.Frag} {f e T : Addr} {oc : Value} {od an : Option Addr} {osl : Array (Option Value)} {kV doc pm cdv ct : Value} {oT : Obj} {n : Nat} (l : K.lookup f = some ⟨oc, od, .func (PySem.W.fnOf "__init__" "Schema.__init__" (C8.fnArgs sInit) (C8.fnBody sInit) (C8.fnScope sInit) (.ref T) kV doc pm an cdv ct), osl⟩) (c : PySem.W.codeIn K cdv "Schema.__init__" = true) (k : PySem.W.keepIn K (.ref f) = true) (lT : K.lookup T = some oT) (dT : oT.data = .seq #[.ref e] n) :
    FunD K "__init__" "Schema.__init__" (C8.fnArgs sInit) (C8.fnBody sInit) (C8.fnScope sInit) [.ref e] [] f (PySem.W.fnOf "__init__" "Schema.__init__" (C8.fnArgs sInit) (C8.fnBody sInit) (C8.fnScope sInit) (.ref T) kV doc pm an cdv ct) :=
  ⟨⟨oc, od, .ref T, kV, doc, pm, an, cdv, ct, osl, rfl, l, c, .inr ⟨by simp, T, oT, [.ref e], n, rfl, lT, dT, .cons rfl .nil⟩, .inl rfl⟩, k⟩
theorem IniT.c8 {K : PySem.W.Frag} {C f e : Addr} {fd : FuncData} (x : IniT K C f e fd) : C8.Fun K "__init__" "Schema.__init__" sInit f fd := by
  obtain ⟨oc, od, dV, kV, doc, pm, an, cdv, ct, osl, h, lk, hcd, _, _⟩ := x.F.ex
  exact ⟨oc, od, dV, kV, doc, pm, an, cdv, ct, osl, h, lk, hcd⟩
theorem IniT.b2 {K : PySem.W.Frag} {C f e : Addr} {fd : FuncData} (x : IniT K C f e fd) : ∃ ds, Vals [V.ref e] ds ∧ Binds K fd ["self", "tables", "rules"] ds :=
  x.F.binds1 2 0 (by simp) rfl fun T kV doc pm an cdv ct us its hu hi => match us, its, hu, hi with | [_, _], [_], _, _ => ⟨_, rfl, rfl⟩
theorem IniT.b3 {K : PySem.W.Frag} {C f e : Addr} {fd : FuncData} (x : IniT K C f e fd) : Binds K fd ["self", "tables", "rules"] [] := by
  obtain ⟨ds, v, b⟩ := x.F.binds1 (ps := ["self", "tables", "rules"]) 3 1 (by simp) rfl fun T kV doc pm an cdv ct us its hu hi => match us, its, hu, hi with | [_, _, _], [_], _, _ => ⟨_, rfl, rfl⟩
  cases v
  exact b
/-- an error class with its __init__ -/
structure ErrT (K : PySem.W.Frag) (x q : Str) (dst : Stmt) (C fI : Addr) (fd : FuncData) : Prop where
  a : PySem.W.nsIn K mainGlobals x = some (some (.ref C))
  cls : ∃ nm q N bs bm sn sub ab col dd k0 k1 k2 k3 k5, K.lookup C = some (excClassObj nm q C N bs bm true sn sub ab col dd k0 k1 k2 k3 k5 "ValueError.__new__") ∧ PySem.HandSPX.refsVE bm = true
  i : PySem.W.findIn K (.ref C) "__init__" = some (some (.ref fI))
  t : PySem.W.typeIn K (.ref fI) = some (.type "function")
  F : Fun K "__init__" q dst fI fd
/-- what else is asked of a class, by looking -/
def okC (K : PySem.W.Frag) (B C : Addr) : Bool :=
  decide (PySem.W.findIn K (.ref C) "__setattr__" = some (some (.builtin "object.__setattr__"))) && (decide (PySem.W.subIn K (.ref C) (.type "BaseException") = some true) && (decide (PySem.W.typeIn K (.ref C) = some (.type "type")) &&
  (PySem.W.keepIn K (.ref C) && (decide (PySem.W.findIn K (.ref C) "__getattribute__" = some (some (.builtin "BaseException.__getattribute__"))) && (decide (PySem.W.findIn K (.ref C) "__getattr__" = some none) && (PySem.W.hasDictIn K C &&
  (decide (PySem.W.findIn K (.ref C) "__class__" = some (some (.builtin "object.__class__"))) && (decide (PySem.W.mroIn K C (.type "object") = some true) && ((PySem.W.clsIn K C).isSome && decide (PySem.W.exmOne K (.ref C) (.ref B) = some true))))))))))
structure CKnown (K : PySem.W.Frag) (B C : Addr) : Prop where
  sa : PySem.W.findIn K (.ref C) "__setattr__" = some (some (.builtin "object.__setattr__"))
  ex : PySem.W.subIn K (.ref C) (.type "BaseException") = some true
  ty : PySem.W.typeIn K (.ref C) = some (.type "type")
  kp : PySem.W.keepIn K (.ref C) = true
  ga : PySem.W.findIn K (.ref C) "__getattribute__" = some (some (.builtin "BaseException.__getattribute__"))
  gg : PySem.W.findIn K (.ref C) "__getattr__" = some none
  hd : PySem.W.hasDictIn K C = true
  cc : PySem.W.findIn K (.ref C) "__class__" = some (some (.builtin "object.__class__"))
  mr : PySem.W.mroIn K C (.type "object") = some true
  cl : (PySem.W.clsIn K C).isSome = true
  em : PySem.W.exmOne K (.ref C) (.ref B) = some true
theorem okC_ok {K : PySem.W.Frag} {B C : Addr} (h : okC K B C = true) : CKnown K B C := by
  unfold okC at h
  simp only [Bool.and_eq_true, decide_eq_true_eq] at h
  obtain ⟨h1, h2, h3, h4, h5, h6, h7, h8, h9, h10, h11⟩ := h
  exact ⟨h1, h2, h3, h4, h5, h6, h7, h8, h9, h10, h11⟩
theorem CKnown.ec {K : PySem.W.Frag} {B C : Addr} (x : CKnown K B C) (hn : PySem.W.specialIn K (.builtin "object.__class__") "__get__" = some (some (.builtin "getset_descriptor.__get__"))) (ht : PySem.W.takesIn K (.builtin "object.__class__") = some true) : ExcC K C :=
  ⟨x.ga, x.gg, x.ex, x.hd, x.cc, hn, ht, x.mr⟩
theorem CKnown.clsT {K : PySem.W.Frag} {B C fI : Addr} {mg : Str → Option Value} {h : Heap} {x q : Str} {dst : Stmt} {fd : FuncData} (z : CKnown K B C) (hn : PySem.W.specialIn K (.builtin "object.__class__") "__get__" = some (some (.builtin "getset_descriptor.__get__"))) (ht : PySem.W.takesIn K (.builtin "object.__class__") = some true)
    (kin : K.In h) (G : h.Ns mainGlobals mg) (E : ErrT K x q dst C fI fd) : ClsT K mg B C x :=
  ⟨PySem.W.mg_of kin G E.a, ⟨E.cls, z.sa, z.ex, z.ty, z.kp⟩, ⟨z.ga, z.gg, z.ex, z.hd⟩, z.ec hn ht, z.cl, z.em⟩
/-- the only def of a class -/
def inS (i : Nat) : Stmt := match topS i with
  | .ClassDef (body := b) .. => b.getD 0 (.Pass ⟨0, 0, 0, 0⟩)
  | z => z
section
variable {P : Program} {w : World} {K : PySem.W.Frag} {mg : Str → Option Value} {base : Heap} {f : Addr} {fd : FuncData}
theorem ok_initFull (F : Fun K "__init__" "Full.__init__" (inS 4) f fd) : FnOk P w K mg base CX0 1 f fd ["self", "limit"] (spInit K "limit") := by
  have sc : FnScope ["self", "limit"] ["self", "limit"] (defScope (inS 4)) := ⟨rfl, rfl, rfl, by decide +kernel, rfl, by decide +kernel, by decide +kernel⟩
  refine F.ok sc (fun vs H Q E h => ?_) (fun cdv A outer s H vs Q E hr h => ?_)
  · obtain ⟨a, C, y, rfl, _⟩ := h
    rfl
  obtain ⟨a, C, y, rfl, T, no, ea, k⟩ := h
  exact ⟨_, pss_one (ps_ost (pv 0) (pv 1)), y, rfl, .ref a, rfl, a, C, rfl, T, no, .inl ⟨ea, k⟩⟩
theorem ok_initTaken (F : Fun K "__init__" "Taken.__init__" (inS 8) f fd) : FnOk P w K mg base CX0 1 f fd ["self", "ident"] (spInit K "ident") := by
  have sc : FnScope ["self", "ident"] ["self", "ident"] (defScope (inS 8)) := ⟨rfl, rfl, rfl, by decide +kernel, rfl, by decide +kernel, by decide +kernel⟩
  refine F.ok sc (fun vs H Q E h => ?_) (fun cdv A outer s H vs Q E hr h => ?_)
  · obtain ⟨a, C, y, rfl, _⟩ := h
    rfl
  obtain ⟨a, C, y, rfl, T, no, ea, k⟩ := h
  exact ⟨_, pss_one (ps_ost (pv 0) (pv 1)), y, rfl, .ref a, rfl, a, C, rfl, T, no, .inl ⟨ea, k⟩⟩
theorem ok_initBadRow (F : Fun K "__init__" "BadRow.__init__" (inS 6) f fd) : FnOk P w K mg base CX0 1 f fd ["self", "ident"] (spInit K "ident") := by
  have sc : FnScope ["self", "ident"] ["self", "ident"] (defScope (inS 6)) := ⟨rfl, rfl, rfl, by decide +kernel, rfl, by decide +kernel, by decide +kernel⟩
  refine F.ok sc (fun vs H Q E h => ?_) (fun cdv A outer s H vs Q E hr h => ?_)
  · obtain ⟨a, C, y, rfl, _⟩ := h
    rfl
  obtain ⟨a, C, y, rfl, T, no, ea, k⟩ := h
  exact ⟨_, pss_one (ps_ost (pv 0) (pv 1)), y, rfl, .ref a, rfl, a, C, rfl, T, no, .inl ⟨ea, k⟩⟩
theorem ok_initWrong (F : Fun K "__init__" "Wrong.__init__" (inS 3) f fd) : FnOk P w K mg base CX0 1 f fd ["self", "place"] (spInit K "place") := by
  have sc : FnScope ["self", "place"] ["self", "place"] (defScope (inS 3)) := ⟨rfl, rfl, rfl, by decide +kernel, rfl, by decide +kernel, by decide +kernel⟩
  refine F.ok sc (fun vs H Q E h => ?_) (fun cdv A outer s H vs Q E hr h => ?_)
  · obtain ⟨a, C, y, rfl, _⟩ := h
    rfl
  obtain ⟨a, C, y, rfl, T, no, ea, k⟩ := h
  exact ⟨_, pss_one (ps_ost (pv 0) (pv 1)), y, rfl, .ref a, rfl, a, C, rfl, T, no, .inl ⟨ea, k⟩⟩
end
/-- what else is asked of the classes, by looking -/
def okSch (K : PySem.W.Frag) (C : Addr) : Bool :=
  PySem.W.plainGet K C Str.empty && (PySem.W.hasDictIn K C && (PySem.W.plainOver K C && (decide (PySem.W.findIn K (.ref C) "__setattr__" = some (some (.builtin "object.__setattr__"))) &&
  (decide (PySem.W.findIn K (.ref C) "_tables" = some none) && (decide (PySem.W.findIn K (.ref C) "_rules" = some none) && (decide (PySem.W.findIn K (.ref C) "__class__" = some (some (.builtin "object.__class__"))) && (decide (PySem.W.mroIn K C (.type "object") = some true) &&
  (decide (PySem.W.kitOne K (.ref C) (.ref C) = some true) && (PySem.W.makesIn K C && PySem.W.keepIn K (.ref C))))))))))
theorem okSch_ok {K : PySem.W.Frag} {C : Addr} (h : okSch K C = true) (hn : PySem.W.specialIn K (.builtin "object.__class__") "__get__" = some (some (.builtin "getset_descriptor.__get__"))) (ht : PySem.W.takesIn K (.builtin "object.__class__") = some true) : InitCls K C ∧ C8.InsC K C ∧ PySem.W.makesIn K C = true ∧ PySem.W.keepIn K (.ref C) = true := by
  unfold okSch at h
  simp only [Bool.and_eq_true, decide_eq_true_eq] at h
  obtain ⟨h1, h2, h3, h4, h5, h6, h7, h8, h9, h10, h11⟩ := h
  exact ⟨⟨⟨h1, h2, h3, h4⟩, h5, h6⟩, ⟨⟨h1, h2, h3, h4⟩, h7, hn, ht, h8, h9⟩, h10, h11⟩
def okTab (K : PySem.W.Frag) (C : Addr) : Bool :=
  PySem.W.plainGet K C Str.empty && (PySem.W.hasDictIn K C && (PySem.W.plainOver K C && (decide (PySem.W.findIn K (.ref C) "__setattr__" = some (some (.builtin "object.__setattr__"))) &&
  (decide (PySem.W.findIn K (.ref C) "_schema" = some none) && (decide (PySem.W.findIn K (.ref C) "_rows" = some none) && (PySem.W.noSeq K C && (PySem.W.makesIn K C && PySem.W.keepIn K (.ref C))))))))
theorem okTab_ok {K : PySem.W.Frag} {C : Addr} (h : okTab K C = true) : TCls K C ∧ PySem.W.noSeq K C = true ∧ PySem.W.makesIn K C = true ∧ PySem.W.keepIn K (.ref C) = true := by
  unfold okTab at h
  simp only [Bool.and_eq_true, decide_eq_true_eq] at h
  obtain ⟨h1, h2, h3, h4, h5, h6, h7, h8, h9⟩ := h
  exact ⟨⟨⟨h1, h2, h3, h4⟩, h5, h6⟩, h7, h8, h9⟩
def kitB (K : PySem.W.Frag) (Cs : List Addr) : Bool := (List.range 5).all fun i => (List.range 5).all fun j => (i == 0) || ((j == 0) || decide (PySem.W.kitOne K (.ref (Cs.getD i 0)) (.ref (Cs.getD j 0)) = some (i == j)))
theorem kitB_ok {K : PySem.W.Frag} {Cs : List Addr} (h : kitB K Cs = true) : Kit K (fun k => Cs.getD k 0) := ⟨fun i j hi hj i0 j0 => by
  have h1 := List.all_eq_true.mp (List.all_eq_true.mp h i (List.mem_range.mpr hi)) j (List.mem_range.mpr hj)
  simp only [Bool.or_eq_true, beq_iff_eq, decide_eq_true_eq] at h1
  rcases h1 with e | e | e
  · exact absurd e i0
  · exact absurd e j0
  · exact e⟩
theorem fun_fnIn {K : PySem.W.Frag} {x q : Str} {dst : Stmt} {f : Addr} {fd : FuncData} (F : Fun K x q dst f fd) : PySem.W.fnIn K f = true := by
  obtain ⟨oc, od, kV, doc, pm, an, cdv, ct, osl, rfl, look, code⟩ := F.ex
  unfold PySem.W.fnIn
  rw [look]
theorem MetT.own {K : PySem.W.Frag} {C : Addr} {m q : Str} {dst : Stmt} {f : Addr} {fd : FuncData} (x : MetT K C m q dst f fd) : OwnAt K C f m := ⟨x.i, by unfold PySem.W.isFn; rw [x.t]; rfl⟩

theorem all26 {l : PySem.W.OpenLaw} {w : World} {K : PySem.W.Frag} {h : Heap} {mg : Str → Option Value} {fa B CS CT fI e0 pS : Addr} {gI : FuncData} {tk0 tk1 tk2 tk3 tk4 tk5 tk6 tk7 : Tok} (kin : K.In h) (G : h.Ns mainGlobals mg) (hfa : mg "law" = some (.ref fa))
    {X1 i1 : Addr} {g1 : FuncData}
    {X2 i2 : Addr} {g2 : FuncData}
    {X3 i3 : Addr} {g3 : FuncData}
    {X4 i4 : Addr} {g4 : FuncData}
    {f12 : Addr} {fd12 : FuncData}
    {f13 : Addr} {fd13 : FuncData}
    {f14 : Addr} {fd14 : FuncData}
    {f15 : Addr} {fd15 : FuncData}
    {f22 : Addr} {fd22 : FuncData}
    {f23 : Addr} {fd23 : FuncData}
    {f24 : Addr} {fd24 : FuncData}
    {f25 : Addr} {fd25 : FuncData}
    {f26 : Addr} {fd26 : FuncData}
    {f27 : Addr} {fd27 : FuncData}
    {f28 : Addr} {fd28 : FuncData}
    {f29 : Addr} {fd29 : FuncData}
    {f31 : Addr} {fd31 : FuncData}
    {f35 : Addr} {fd35 : FuncData}
    {f36 : Addr} {fd36 : FuncData}
    {f37 : Addr} {fd37 : FuncData}
    {f38 : Addr} {fd38 : FuncData}
    {f39 : Addr} {fd39 : FuncData}
    {f45 : Addr} {fd45 : FuncData}
    {f46 : Addr} {fd46 : FuncData}
    {f47 : Addr} {fd47 : FuncData}
    {f48 : Addr} {fd48 : FuncData}
    {f49 : Addr} {fd49 : FuncData}
    {f50 : Addr} {fd50 : FuncData}
    {e1 : Addr} {ed1 : FuncData}
    {e2 : Addr} {ed2 : FuncData}
    {e3 : Addr} {ed3 : FuncData}
    {e4 : Addr} {ed4 : FuncData}
    {e5 : Addr} {ed5 : FuncData}
    {e6 : Addr} {ed6 : FuncData}
    {e7 : Addr} {ed7 : FuncData}
    {e8 : Addr} {ed8 : FuncData}
    {e9 : Addr} {ed9 : FuncData}
    {e10 : Addr} {ed10 : FuncData}
    {e11 : Addr} {ed11 : FuncData}
    (d12 : DefT K "is_name" sIsName f12 fd12)
    (d13 : DefT K "are_names" sAreNames f13 fd13)
    (d14 : DefT K "is_id" sIsId f14 fd14)
    (d15 : DefT K "is_new_id" sIsNew f15 fd15)
    (d22 : DefT K "fields_of" sFieldsOf f22 fd22)
    (d23 : DefT K "_is_field" sIsField f23 fd23)
    (d24 : DefT K "sort_of" sSortOf f24 fd24)
    (d25 : DefT K "has_fields" sHasF f25 fd25)
    (d26 : DefT K "inside_nots" sInside f26 fd26)
    (d27 : DefT K "_is_not" sIsNot f27 fd27)
    (d28 : DefT K "is_tests" sTs f28 fd28)
    (d29 : DefT K "_is_inner_test" sInner f29 fd29)
    (d31 : DefT K "copy_of" sCopy f31 fd31)
    (d35 : DefT K "_are_tables" sTabs f35 fd35)
    (d36 : DefT K "_ordered" sOrd f36 fd36)
    (d37 : DefT K "_is_rule" sRule1 f37 fd37)
    (d38 : DefT K "_is_link_rule" sLinkRule f38 fd38)
    (d39 : DefT K "_is_value" sIsValue f39 fd39)
    (d45 : DefT K "_law_bag" sBag f45 fd45)
    (d46 : DefT K "_law_take" sTakeM f46 fd46)
    (d47 : DefT K "_law_set" sLSet f47 fd47)
    (d48 : DefT K "_law_joined" sLJoin f48 fd48)
    (d49 : DefT K "_law_ids" sLIds f49 fd49)
    (d50 : DefT K "law" sLaw f50 fd50)
    (m1 : MetT K CS "tables" "Schema.tables" sMTables e1 ed1)
    (m2 : MetT K CS "is_row" "Schema.is_row" sMRow e2 ed2)
    (m3 : MetT K CT "__init__" "Tables.__init__" (sT 0) e3 ed3)
    (m4 : MetT K CT "__len__" "Tables.__len__" (sT 2) e4 ed4)
    (m5 : MetT K CT "__getitem__" "Tables.__getitem__" (sT 5) e5 ed5)
    (m6 : MetT K CT "__setitem__" "Tables.__setitem__" (sT 6) e6 ed6)
    (m7 : MetT K CT "_has" "Tables._has" (sT 7) e7 ed7)
    (m8 : MetT K CT "drop" "Tables.drop" (sT 9) e8 ed8)
    (m9 : MetT K CT "ids" "Tables.ids" (sT 11) e9 ed9)
    (m10 : MetT K CT "table_of" "Tables.table_of" (sT 12) e10 ed10)
    (m11 : MetT K CT "joined" "Tables.joined" (sT 16) e11 ed11)
    (r1 : ErrT K "Full" "Full.__init__" (inS 4) X1 i1 g1)
    (r2 : ErrT K "Taken" "Taken.__init__" (inS 8) X2 i2 g2)
    (r3 : ErrT K "BadRow" "BadRow.__init__" (inS 6) X3 i3 g3)
    (r4 : ErrT K "Wrong" "Wrong.__init__" (inS 3) X4 i4 g4)
    (ini : IniT K CS fI e0 gI) (aC : PySem.W.nsIn K mainGlobals "Schema" = some (some (.ref CS))) (aT : PySem.W.nsIn K mainGlobals "Tables" = some (some (.ref CT))) (aB : PySem.W.nsIn K mainGlobals "CheckError" = some (some (.ref B)))
    (hn : PySem.W.specialIn K (.builtin "object.__class__") "__get__" = some (some (.builtin "getset_descriptor.__get__"))) (ht : PySem.W.takesIn K (.builtin "object.__class__") = some true)
    (cS : okSch K CS = true) (cT : okTab K CT = true) (cE : [X1, X2, X3, X4].all (okC K B) = true) (tB : kitB K [B, X1, X2, X3, X4] = true)
    (nF : (decide (PySem.W.findIn K (.ref X1) "limit" = some none) && (decide (PySem.W.findIn K (.ref X2) "ident" = some none) && (decide (PySem.W.findIn K (.ref X3) "ident" = some none) && (decide (PySem.W.findIn K (.ref X4) "place" = some none))))) = true)
    (aS : PySem.W.nsIn K mainGlobals "SORTS" = some (some (.ref pS))) (lS : ∃ (ta tb tc : Tok) (n : Nat) (sl : Array (Option Value)), K.lookup pS = some ⟨.type "tuple", none, .seq #[.str "mark" ta, .str "link" tb, .str "tag" tc] n, sl⟩)
    (c0 : PySem.W.nsIn K mainGlobals "LETTERS" = some (some (.str LET tk0)))
    (c1 : PySem.W.nsIn K mainGlobals "LONGEST" = some (some (.int 8 tk1)))
    (c2 : PySem.W.nsIn K mainGlobals "MOST_WORDS" = some (some (.int 4 tk2)))
    (c3 : PySem.W.nsIn K mainGlobals "MOST_OF_A_SORT" = some (some (.int 2 tk3)))
    (c4 : PySem.W.nsIn K mainGlobals "MOST_NOTS" = some (some (.int 4 tk4)))
    (c5 : PySem.W.nsIn K mainGlobals "MOST_TABLES" = some (some (.int 3 tk5)))
    (c6 : PySem.W.nsIn K mainGlobals "MOST_RULES" = some (some (.int 6 tk6)))
    (c7 : PySem.W.nsIn K mainGlobals "MOST_ROWS" = some (some (.int 200 tk7)))
    (z1 : PySem.W.nsIn K mainGlobals "abs" = some none) (z2 : PySem.W.nsIn K mainGlobals "int" = some none) (z3 : PySem.W.nsIn K mainGlobals "range" = some none) (z4 : PySem.W.nsIn K mainGlobals "len" = some none) (z5 : PySem.W.nsIn K mainGlobals "sorted" = some none) (z6 : PySem.W.nsIn K mainGlobals "set" = some none) (z7 : PySem.W.nsIn K mainGlobals "dict" = some none) (z8 : PySem.W.nsIn K mainGlobals "list" = some none) (z9 : PySem.W.nsIn K mainGlobals "isinstance" = some none) (z10 : PySem.W.nsIn K mainGlobals "tuple" = some none) (z11 : PySem.W.nsIn K mainGlobals "all" = some none) (z12 : PySem.W.nsIn K mainGlobals "str" = some none) (z13 : PySem.W.nsIn K mainGlobals "enumerate" = some none) :
    ∃ fd : FuncData, (∀ (s : Shared) (v : Value), BindsTo s fd ⟨[v], []⟩ [("_law_script", v)]) ∧ ∀ base : Heap, K.In base → base.Ns mainGlobals mg → FnOk l.prog w K mg base CX0 11 fa fd ["_law_script"] (spLaw K) := by
  have e := hfa.symm.trans (PySem.W.mg_of kin G d50.a)
  cases e
  have at_ : ∀ {x : Str} {v : Value}, PySem.W.nsIn K mainGlobals x = some (some v) → mg x = some v := fun z => PySem.W.mg_of kin G z
  have no_ : ∀ {x : Str}, PySem.W.nsIn K mainGlobals x = some none → mg x = none := fun z => PySem.W.mg_none_of kin G z
  obtain ⟨sch, insC, mk1, mk2⟩ := okSch_ok cS hn ht
  obtain ⟨tcl, nsq, mk3, mk4⟩ := okTab_ok cT
  have kit := kitB_ok tB
  have each : ∀ C, C ∈ [X1, X2, X3, X4] → CKnown K B C := fun C hC => okC_ok (List.all_eq_true.mp cE C hC)
  have nof := nF
  simp only [Bool.and_eq_true, decide_eq_true_eq] at nof
  obtain ⟨o1, o2, o3, o4⟩ := nof
  have n12 : Nmd K mg "is_name" f12 fd12 ["thing"] := ⟨at_ d12.a, d12.F.kp, d12.F.binds fun _ _ _ _ _ _ us hl => match us, hl with | [_], _ => rfl⟩
  have n13 : Nmd K mg "are_names" f13 fd13 ["thing"] := ⟨at_ d13.a, d13.F.kp, d13.F.binds fun _ _ _ _ _ _ us hl => match us, hl with | [_], _ => rfl⟩
  have n14 : Nmd K mg "is_id" f14 fd14 ["thing"] := ⟨at_ d14.a, d14.F.kp, d14.F.binds fun _ _ _ _ _ _ us hl => match us, hl with | [_], _ => rfl⟩
  have n15 : Nmd K mg "is_new_id" f15 fd15 ["thing"] := ⟨at_ d15.a, d15.F.kp, d15.F.binds fun _ _ _ _ _ _ us hl => match us, hl with | [_], _ => rfl⟩
  have n22 : Nmd K mg "fields_of" f22 fd22 ["thing"] := ⟨at_ d22.a, d22.F.kp, d22.F.binds fun _ _ _ _ _ _ us hl => match us, hl with | [_], _ => rfl⟩
  have n23 : Nmd K mg "_is_field" f23 fd23 ["thing"] := ⟨at_ d23.a, d23.F.kp, d23.F.binds fun _ _ _ _ _ _ us hl => match us, hl with | [_], _ => rfl⟩
  have n24 : Nmd K mg "sort_of" f24 fd24 ["fields", "name"] := ⟨at_ d24.a, d24.F.kp, d24.F.binds fun _ _ _ _ _ _ us hl => match us, hl with | [_, _], _ => rfl⟩
  have n25 : Nmd K mg "has_fields" f25 fd25 ["fields", "thing"] := ⟨at_ d25.a, d25.F.kp, d25.F.binds fun _ _ _ _ _ _ us hl => match us, hl with | [_, _], _ => rfl⟩
  have n26 : Nmd K mg "inside_nots" f26 fd26 ["test"] := ⟨at_ d26.a, d26.F.kp, d26.F.binds fun _ _ _ _ _ _ us hl => match us, hl with | [_], _ => rfl⟩
  have n27 : Nmd K mg "_is_not" f27 fd27 ["thing"] := ⟨at_ d27.a, d27.F.kp, d27.F.binds fun _ _ _ _ _ _ us hl => match us, hl with | [_], _ => rfl⟩
  have n28 : Nmd K mg "is_tests" f28 fd28 ["fields", "thing"] := ⟨at_ d28.a, d28.F.kp, d28.F.binds fun _ _ _ _ _ _ us hl => match us, hl with | [_, _], _ => rfl⟩
  have n29 : Nmd K mg "_is_inner_test" f29 fd29 ["fields", "thing"] := ⟨at_ d29.a, d29.F.kp, d29.F.binds fun _ _ _ _ _ _ us hl => match us, hl with | [_, _], _ => rfl⟩
  have n31 : Nmd K mg "copy_of" f31 fd31 ["thing"] := ⟨at_ d31.a, d31.F.kp, d31.F.binds fun _ _ _ _ _ _ us hl => match us, hl with | [_], _ => rfl⟩
  have n35 : Nmd K mg "_are_tables" f35 fd35 ["thing"] := ⟨at_ d35.a, d35.F.kp, d35.F.binds fun _ _ _ _ _ _ us hl => match us, hl with | [_], _ => rfl⟩
  have n36 : Nmd K mg "_ordered" f36 fd36 ["fields"] := ⟨at_ d36.a, d36.F.kp, d36.F.binds fun _ _ _ _ _ _ us hl => match us, hl with | [_], _ => rfl⟩
  have n37 : Nmd K mg "_is_rule" f37 fd37 ["tables", "thing"] := ⟨at_ d37.a, d37.F.kp, d37.F.binds fun _ _ _ _ _ _ us hl => match us, hl with | [_, _], _ => rfl⟩
  have n38 : Nmd K mg "_is_link_rule" f38 fd38 ["tables", "fields", "thing"] := ⟨at_ d38.a, d38.F.kp, d38.F.binds fun _ _ _ _ _ _ us hl => match us, hl with | [_, _, _], _ => rfl⟩
  have n39 : Nmd K mg "_is_value" f39 fd39 ["field", "thing"] := ⟨at_ d39.a, d39.F.kp, d39.F.binds fun _ _ _ _ _ _ us hl => match us, hl with | [_, _], _ => rfl⟩
  have n45 : Nmd K mg "_law_bag" f45 fd45 ["_law_script"] := ⟨at_ d45.a, d45.F.kp, d45.F.binds fun _ _ _ _ _ _ us hl => match us, hl with | [_], _ => rfl⟩
  have n46 : Nmd K mg "_law_take" f46 fd46 ["_law_bag_here", "_law_many"] := ⟨at_ d46.a, d46.F.kp, d46.F.binds fun _ _ _ _ _ _ us hl => match us, hl with | [_, _], _ => rfl⟩
  have n47 : Nmd K mg "_law_set" f47 fd47 ["_law_tables", "_law_table", "_law_ident", "_law_row"] := ⟨at_ d47.a, d47.F.kp, d47.F.binds fun _ _ _ _ _ _ us hl => match us, hl with | [_, _, _, _], _ => rfl⟩
  have n48 : Nmd K mg "_law_joined" f48 fd48 ["_law_one", "_law_other"] := ⟨at_ d48.a, d48.F.kp, d48.F.binds fun _ _ _ _ _ _ us hl => match us, hl with | [_, _], _ => rfl⟩
  have n49 : Nmd K mg "_law_ids" f49 fd49 ["_law_many", "_law_sign"] := ⟨at_ d49.a, d49.F.kp, d49.F.binds fun _ _ _ _ _ _ us hl => match us, hl with | [_, _], _ => rfl⟩
  have b1 : Binds K ed1 ["self"] [] := m1.F.binds fun _ _ _ _ _ _ us hl => match us, hl with | [_], _ => rfl
  have b2 : Binds K ed2 ["self", "table", "thing"] [] := m2.F.binds fun _ _ _ _ _ _ us hl => match us, hl with | [_, _, _], _ => rfl
  have b3 : Binds K ed3 ["self", "schema"] [] := m3.F.binds fun _ _ _ _ _ _ us hl => match us, hl with | [_, _], _ => rfl
  have b4 : Binds K ed4 ["self"] [] := m4.F.binds fun _ _ _ _ _ _ us hl => match us, hl with | [_], _ => rfl
  have b5 : Binds K ed5 ["self", "at"] [] := m5.F.binds fun _ _ _ _ _ _ us hl => match us, hl with | [_, _], _ => rfl
  have b6 : Binds K ed6 ["self", "at", "worth"] [] := m6.F.binds fun _ _ _ _ _ _ us hl => match us, hl with | [_, _, _], _ => rfl
  have b7 : Binds K ed7 ["self", "table", "ident"] [] := m7.F.binds fun _ _ _ _ _ _ us hl => match us, hl with | [_, _, _], _ => rfl
  have b8 : Binds K ed8 ["self", "table", "ident"] [] := m8.F.binds fun _ _ _ _ _ _ us hl => match us, hl with | [_, _, _], _ => rfl
  have b9 : Binds K ed9 ["self"] [] := m9.F.binds fun _ _ _ _ _ _ us hl => match us, hl with | [_], _ => rfl
  have b10 : Binds K ed10 ["self", "ident"] [] := m10.F.binds fun _ _ _ _ _ _ us hl => match us, hl with | [_, _], _ => rfl
  have b11 : Binds K ed11 ["self", "other"] [] := m11.F.binds fun _ _ _ _ _ _ us hl => match us, hl with | [_, _], _ => rfl
  have br1 : Binds K g1 ["self", "limit"] [] := r1.F.binds fun _ _ _ _ _ _ us hl => match us, hl with | [_, _], _ => rfl
  have cl1 : ClsT K mg B X1 "Full" := (each X1 (by simp)).clsT hn ht kin G r1
  have br2 : Binds K g2 ["self", "ident"] [] := r2.F.binds fun _ _ _ _ _ _ us hl => match us, hl with | [_, _], _ => rfl
  have cl2 : ClsT K mg B X2 "Taken" := (each X2 (by simp)).clsT hn ht kin G r2
  have br3 : Binds K g3 ["self", "ident"] [] := r3.F.binds fun _ _ _ _ _ _ us hl => match us, hl with | [_, _], _ => rfl
  have cl3 : ClsT K mg B X3 "BadRow" := (each X3 (by simp)).clsT hn ht kin G r3
  have br4 : Binds K g4 ["self", "place"] [] := r4.F.binds fun _ _ _ _ _ _ us hl => match us, hl with | [_, _], _ => rfl
  have cl4 : ClsT K mg B X4 "Wrong" := (each X4 (by simp)).clsT hn ht kin G r4
  obtain ⟨oc, od, kV, doc, pm, an, cdv, ct, osl, efd, _, _⟩ := id d50.F.ex
  refine ⟨fd50, fun s v => ?_, fun base kb gb => ?_⟩
  · have q := efd ▸ (show BindsTo s (PySem.W.fnOf "law" "law" (defArgs sLaw) (defBody sLaw) (defScope sLaw) .none kV doc pm an cdv ct) ⟨[v], []⟩ [("_law_script", v)] from .of_eq rfl)
    exact q
  have T : Errs l.prog w K mg base B (fun k => [B, X1, X2, X3, X4].getD k 0) := ⟨⟨cl1, o1, i1, g1, r1.i, r1.t, ok_initFull r1.F, br1⟩, ⟨cl2, o2, i2, g2, r2.i, r2.t, ok_initTaken r2.F, br2⟩, ⟨cl3, o3, i3, g3, r3.i, r3.t, ok_initBadRow r3.F, br3⟩, ⟨cl4, o4, i4, g4, r4.i, r4.t, ok_initWrong r4.F, br4⟩⟩
  have G45 := ok_bag (P := l.prog) (w := w) (base := base) d45.F (no_ z1)
  have G46 := ok_takeM (P := l.prog) (w := w) (base := base) d46.F (no_ z2)
  have G31 := ok_copy (P := l.prog) (w := w) (base := base) d31.F n31.m n31.b (no_ z9) (no_ z8) (no_ z10) (no_ z7) (no_ z5)
  have G12 := ok_isname (P := l.prog) (w := w) (base := base) d12.F (no_ z9) (no_ z12) (no_ z4) (no_ z11) (at_ c0) (at_ c1)
  have Y12 := ok_isnameZ (P := l.prog) (w := w) (base := base) d12.F (no_ z9) (no_ z12) (no_ z4) (no_ z11) (at_ c0) (at_ c1)
  have Y15 := ok_isnewZ (P := l.prog) (w := w) (base := base) d15.F Y12 n12 (no_ z9) (no_ z12)
  have Y14 := ok_isidZ (P := l.prog) (w := w) (base := base) d14.F Y12 n12 Y15 n15
  have G13 := ok_are (P := l.prog) (w := w) (base := base) d13.F G12 n12.m n12.k n12.b (no_ z9) (no_ z8) (no_ z4) (no_ z11) (no_ z6)
  have G23 := ok_isfield (P := l.prog) (w := w) (base := base) d23.F G12 n12.m n12.k n12.b G13 n13.m n13.k n13.b (no_ z9) (no_ z10) (no_ z4) (at_ c2)
  have MS : SortsAt K mg pS := ⟨at_ aS, lS⟩
  have G22 := ok_fieldsof (P := l.prog) (w := w) (base := base) d22.F G12 n12.m n12.k n12.b G23 n23.m n23.k n23.b (no_ z9) (no_ z7) (no_ z11) (at_ c3) MS
  have G27 := ok_isnot (P := l.prog) (w := w) (base := base) d27.F (no_ z9) (no_ z10) (no_ z4)
  have G26 := ok_inside (P := l.prog) (w := w) (base := base) d26.F G27 n27.m n27.k n27.b (at_ c4) (no_ z3)
  have G24 := ok_sortof (P := l.prog) (w := w) (base := base) d24.F G12 n12.m n12.k n12.b
  have G29 := ok_inner (P := l.prog) (w := w) (base := base) d29.F G24 n24.m n24.k n24.b (no_ z9) (no_ z10) (no_ z8) (no_ z4) (no_ z11)
  have G28 := ok_ts (P := l.prog) (w := w) (base := base) d28.F G29 n29.m n29.k n29.b G26 n26.m n26.k n26.b (no_ z9) (no_ z8) (no_ z11)
  have G38 := ok_linkrule (P := l.prog) (w := w) (base := base) d38.F G24 n24.m n24.k n24.b G28 n28.m n28.k n28.b
  have G37 := ok_rule1 (P := l.prog) (w := w) (base := base) d37.F G12 n12.m n12.k n12.b G24 n24.m n24.k n24.b G28 n28.m n28.k n28.b G38 n38.m n38.k n38.b (no_ z9) (no_ z10) (no_ z4)
  have G35 := ok_tabs (P := l.prog) (w := w) (base := base) d35.F G12 n12.m n12.k n12.b G22 n22.m n22.k n22.b (no_ z9) (no_ z7) (no_ z4) (no_ z11) (at_ c5)
  have G36 := ok_ord (P := l.prog) (w := w) (base := base) d36.F (G31 4) n31.m n31.k n31.b (no_ z5)
  have iT := ok_initT (P := l.prog) (w := w) (base := base) ini.c8 sch G35 n35.m n35.k n35.b G37 n37.m n37.k n37.b G36 n36.m n36.k n36.b (G31 8) n31.m n31.k n31.b (no_ z9) (no_ z8) (no_ z10) (no_ z4) (no_ z13) (no_ z5) (at_ c6)
  have mK : Mk K CS fI := ⟨mk1, ini.i, by unfold PySem.W.isFn; rw [ini.t]; rfl, mk2⟩
  obtain ⟨ds, vds, bds⟩ := ini.b2
  have MD : C8.Mak l.prog w K mg base 9 "Schema" CS (spInitT K CS) [.ref e0] := ⟨fI, gI, _, ds, mK, iT, at_ aC, bds, vds⟩
  have G25 := ok_has (P := l.prog) (w := w) (base := base) d25.F (no_ z9) (no_ z7) (no_ z4) (no_ z11)
  have G39 := ok_valL (P := l.prog) (w := w) (base := base) d39.F Y14 n14
  have q1 := ok_mtables (mg := mg) (P := l.prog) (w := w) (base := base) sch m1.me (c8_fn m1.F) b1 (no_ z8)
  have q2 := ok_mrow (mg := mg) (P := l.prog) (w := w) (base := base) sch m2.me (c8_fn m2.F) b2 G25 n25 G39 n39 (no_ z11)
  have tI := ok_tinit (P := l.prog) (w := w) (base := base) (c8_fn m3.F) tcl insC (no_ z9) (at_ aC)
  have mT : Mk K CT e3 := ⟨mk3, m3.i, by unfold PySem.W.isFn; rw [m3.t]; rfl, mk4⟩
  have MT : C8.Mak l.prog w K mg base 1 "Tables" CT (spTInit CT CS) [] := ⟨e3, ed3, _, [], mT, tI, at_ aT, b3, .nil⟩
  have tL := ok_tlen (mg := mg) (P := l.prog) (w := w) (base := base) (c8_fn m4.F) tcl (no_ z4)
  have tH := ok_thas (mg := mg) (P := l.prog) (w := w) (base := base) tcl m7.me (c8_fn m7.F) b7 Y14 n14
  have tIds := ok_tids (mg := mg) (P := l.prog) (w := w) (base := base) tcl m9.me (c8_fn m9.F) b9 (no_ z5)
  have tO := ok_tof (mg := mg) (P := l.prog) (w := w) (base := base) tcl m10.me (c8_fn m10.F) b10 Y14 n14
  have tD := ok_tdrop (mg := mg) (P := l.prog) (w := w) (base := base) tcl m8.me (c8_fn m8.F) b8 tH
  have tG := ok_tget (mg := mg) (P := l.prog) (w := w) (base := base) tcl (c8_fn m5.F) tH (no_ z7)
  have tS := ok_tset (P := l.prog) (w := w) (base := base) tcl sch (c8_fn m6.F) T q1 q2 Y14 n14 (no_ z4) (no_ z5) (at_ c7)
  have tJ := ok_tjoin (P := l.prog) (w := w) (base := base) (CS := CS) tcl (c8_fn m11.F) T tIds MT (no_ z4) (at_ c7)
  have G47 := ok_lset (P := l.prog) (w := w) (base := base) d47.F T kit tcl tS b6 m6.own nsq (at_ aB) (no_ z9)
  have G48 := ok_ljoin (P := l.prog) (w := w) (base := base) d48.F T kit tcl tJ b11 m11.me tL b4 m4.own (at_ aB) (no_ z9) (no_ z4)
  have G49 := ok_lids (P := l.prog) (w := w) (base := base) d49.F (no_ z3)
  have LC : LawC l.prog w K mg base CT CS e0 (fun k => [B, X1, X2, X3, X4].getD k 0) := {
    bag := ⟨f45, fd45, _, [], G45, n45.m, n45.k, n45.b, .nil⟩, take := ⟨f46, fd46, _, [], G46, n46.m, n46.k, n46.b, .nil⟩, set := ⟨f47, fd47, _, [], G47, n47.m, n47.k, n47.b, .nil⟩, join := ⟨f48, fd48, _, [], G48, n48.m, n48.k, n48.b, .nil⟩, ids := ⟨f49, fd49, _, [], G49, n49.m, n49.k, n49.b, .nil⟩, mkT := MT, sch := MD, ne0 := ini.e, drop := tD, tof := tO, mids := tIds,
    get := ⟨e5, ed5, tG, b5, m5.own, fun_fnIn m5.F⟩, put := ⟨e6, ed6, tS, b6, m6.own⟩, nq := nsq, len := ⟨e4, ed4, tL, b4, m4.own⟩,
    mrange := (no_ z3), men := (no_ z13), mlen := (no_ z4), mso := (no_ z5) }
  exact ok_law d50.F LC
theorem walk26 {l : PySem.W.OpenLaw} {q : Program} {loose : List Str} {XP : (Str → Option Value) → Heap → Prop} {YP : World → Heap → Prop} {d : DefRec} {K : Params → PySem.W.Frag} (hn : l.most = some 63) (hdf : d.params.defaults = []) (inK : ∀ (w : World) (h : Heap), YP w h → (K w.params).In h)
    (made : ∀ (w : World) (mg : Str → Option Value) (fa : Addr) (h : Heap), (K w.params).In h → h.Ns mainGlobals mg → mg d.name = some (.ref fa) →
      ∃ fd : FuncData, (∀ (s : Shared) (u : Value), BindsTo s fd ⟨[u], []⟩ [("_law_script", u)]) ∧ ∀ base : Heap, (K w.params).In base → base.Ns mainGlobals mg → FnOk l.prog w (K w.params) mg base CX0 11 fa fd ["_law_script"] (spLaw (K w.params))) :
    PySem.W.WalkO q loose XP YP l.row.toRowW d [] (fun f vs => PySem.call f vs) :=
  L2.walk_of (n := 63) (k := 11) (x := "_law_script") (CX := fun _ => CX0) (sp := fun w => spLaw (K w.params)) hn (by decide) hdf ⟨rfl, by decide, by decide⟩ inK made (fun _ _ a ns hl _ hS => ⟨a, ns, rfl, hS, hl, fun _ => rfl⟩) fun _ _ _ _ _ z => z
end Lw

open PySem PySem.W PyProof.Rows
set_option Elab.async false
set_option maxRecDepth 100000 in
set_option maxHeartbeats 0 in
theorem PySem.Challenge.cw_endchecks_k26_two_hundred_rows_holds : PySem.Challenge.rw_endchecks_k26_two_hundred_rows.Holds := by
  w_on; o_law; k_head; (case hw => w_witness2)
  k_fill
  refine Lw.walk26 (l := PySem.Challenge.rw_endchecks_k26_two_hundred_rows) rfl rfl (fun w h Y => PySem.W.kIn_of Y) ?F
  case F =>
    intro w mg fa h KX G hmg
    refine' Lw.all26 KX G hmg ?d12 ?d13 ?d14 ?d15 ?d22 ?d23 ?d24 ?d25 ?d26 ?d27 ?d28 ?d29 ?d31 ?d35 ?d36 ?d37 ?d38 ?d39 ?d45 ?d46 ?d47 ?d48 ?d49 ?d50 ?m1 ?m2 ?m3 ?m4 ?m5 ?m6 ?m7 ?m8 ?m9 ?m10 ?m11 ?r1 ?r2 ?r3 ?r4 ?ini ?aC ?aT ?aB ?hn ?ht ?cS ?cT ?cE ?tB ?nF ?aS ?lS ?c0 ?c1 ?c2 ?c3 ?c4 ?c5 ?c6 ?c7 ?z1 ?z2 ?z3 ?z4 ?z5 ?z6 ?z7 ?z8 ?z9 ?z10 ?z11 ?z12 ?z13
    (case aC => k_is); (case aT => k_is); (case aB => k_is); (case hn => k_is); (case ht => k_is)
    (case d12 => refine' ⟨?a, L2.fun_mk ?l ?c ?k⟩; (case a => k_is); (case l => k_is); (case c => k_is); (case k => k_is))
    (case d13 => refine' ⟨?a, L2.fun_mk ?l ?c ?k⟩; (case a => k_is); (case l => k_is); (case c => k_is); (case k => k_is))
    (case d14 => refine' ⟨?a, L2.fun_mk ?l ?c ?k⟩; (case a => k_is); (case l => k_is); (case c => k_is); (case k => k_is))
    (case d15 => refine' ⟨?a, L2.fun_mk ?l ?c ?k⟩; (case a => k_is); (case l => k_is); (case c => k_is); (case k => k_is))
    (case d22 => refine' ⟨?a, L2.fun_mk ?l ?c ?k⟩; (case a => k_is); (case l => k_is); (case c => k_is); (case k => k_is))
    (case d23 => refine' ⟨?a, L2.fun_mk ?l ?c ?k⟩; (case a => k_is); (case l => k_is); (case c => k_is); (case k => k_is))
    (case d24 => refine' ⟨?a, L2.fun_mk ?l ?c ?k⟩; (case a => k_is); (case l => k_is); (case c => k_is); (case k => k_is))
    (case d25 => refine' ⟨?a, L2.fun_mk ?l ?c ?k⟩; (case a => k_is); (case l => k_is); (case c => k_is); (case k => k_is))
    (case d26 => refine' ⟨?a, L2.fun_mk ?l ?c ?k⟩; (case a => k_is); (case l => k_is); (case c => k_is); (case k => k_is))
    (case d27 => refine' ⟨?a, L2.fun_mk ?l ?c ?k⟩; (case a => k_is); (case l => k_is); (case c => k_is); (case k => k_is))
    (case d28 => refine' ⟨?a, L2.fun_mk ?l ?c ?k⟩; (case a => k_is); (case l => k_is); (case c => k_is); (case k => k_is))
    (case d29 => refine' ⟨?a, L2.fun_mk ?l ?c ?k⟩; (case a => k_is); (case l => k_is); (case c => k_is); (case k => k_is))
    (case d31 => refine' ⟨?a, L2.fun_mk ?l ?c ?k⟩; (case a => k_is); (case l => k_is); (case c => k_is); (case k => k_is))
    (case d35 => refine' ⟨?a, L2.fun_mk ?l ?c ?k⟩; (case a => k_is); (case l => k_is); (case c => k_is); (case k => k_is))
    (case d36 => refine' ⟨?a, L2.fun_mk ?l ?c ?k⟩; (case a => k_is); (case l => k_is); (case c => k_is); (case k => k_is))
    (case d37 => refine' ⟨?a, L2.fun_mk ?l ?c ?k⟩; (case a => k_is); (case l => k_is); (case c => k_is); (case k => k_is))
    (case d38 => refine' ⟨?a, L2.fun_mk ?l ?c ?k⟩; (case a => k_is); (case l => k_is); (case c => k_is); (case k => k_is))
    (case d39 => refine' ⟨?a, L2.fun_mk ?l ?c ?k⟩; (case a => k_is); (case l => k_is); (case c => k_is); (case k => k_is))
    (case d45 => refine' ⟨?a, L2.fun_mk ?l ?c ?k⟩; (case a => k_is); (case l => k_is); (case c => k_is); (case k => k_is))
    (case d46 => refine' ⟨?a, L2.fun_mk ?l ?c ?k⟩; (case a => k_is); (case l => k_is); (case c => k_is); (case k => k_is))
    (case d47 => refine' ⟨?a, L2.fun_mk ?l ?c ?k⟩; (case a => k_is); (case l => k_is); (case c => k_is); (case k => k_is))
    (case d48 => refine' ⟨?a, L2.fun_mk ?l ?c ?k⟩; (case a => k_is); (case l => k_is); (case c => k_is); (case k => k_is))
    (case d49 => refine' ⟨?a, L2.fun_mk ?l ?c ?k⟩; (case a => k_is); (case l => k_is); (case c => k_is); (case k => k_is))
    (case d50 => refine' ⟨?a, L2.fun_mk ?l ?c ?k⟩; (case a => k_is); (case l => k_is); (case c => k_is); (case k => k_is))
    (case m1 => refine' ⟨?i, ?t, L2.fun_mk ?l ?c ?k⟩; (case i => k_is); (case t => k_is); (case l => k_is); (case c => k_is); (case k => k_is))
    (case m2 => refine' ⟨?i, ?t, L2.fun_mk ?l ?c ?k⟩; (case i => k_is); (case t => k_is); (case l => k_is); (case c => k_is); (case k => k_is))
    (case m3 => refine' ⟨?i, ?t, L2.fun_mk ?l ?c ?k⟩; (case i => k_is); (case t => k_is); (case l => k_is); (case c => k_is); (case k => k_is))
    (case m4 => refine' ⟨?i, ?t, L2.fun_mk ?l ?c ?k⟩; (case i => k_is); (case t => k_is); (case l => k_is); (case c => k_is); (case k => k_is))
    (case m5 => refine' ⟨?i, ?t, L2.fun_mk ?l ?c ?k⟩; (case i => k_is); (case t => k_is); (case l => k_is); (case c => k_is); (case k => k_is))
    (case m6 => refine' ⟨?i, ?t, L2.fun_mk ?l ?c ?k⟩; (case i => k_is); (case t => k_is); (case l => k_is); (case c => k_is); (case k => k_is))
    (case m7 => refine' ⟨?i, ?t, L2.fun_mk ?l ?c ?k⟩; (case i => k_is); (case t => k_is); (case l => k_is); (case c => k_is); (case k => k_is))
    (case m8 => refine' ⟨?i, ?t, L2.fun_mk ?l ?c ?k⟩; (case i => k_is); (case t => k_is); (case l => k_is); (case c => k_is); (case k => k_is))
    (case m9 => refine' ⟨?i, ?t, L2.fun_mk ?l ?c ?k⟩; (case i => k_is); (case t => k_is); (case l => k_is); (case c => k_is); (case k => k_is))
    (case m10 => refine' ⟨?i, ?t, L2.fun_mk ?l ?c ?k⟩; (case i => k_is); (case t => k_is); (case l => k_is); (case c => k_is); (case k => k_is))
    (case m11 => refine' ⟨?i, ?t, L2.fun_mk ?l ?c ?k⟩; (case i => k_is); (case t => k_is); (case l => k_is); (case c => k_is); (case k => k_is))
    (case r1 => refine' ⟨?a, ⟨_, _, _, _, _, _, _, _, _, _, _, _, _, _, _, ?x, ?m⟩, ?i, ?t, L2.fun_mk ?l ?c ?k⟩; (case a => k_is); (case x => exact rfl); (case m => decide +kernel); (case i => k_is); (case t => k_is); (case l => k_is); (case c => k_is); (case k => k_is))
    (case r2 => refine' ⟨?a, ⟨_, _, _, _, _, _, _, _, _, _, _, _, _, _, _, ?x, ?m⟩, ?i, ?t, L2.fun_mk ?l ?c ?k⟩; (case a => k_is); (case x => exact rfl); (case m => decide +kernel); (case i => k_is); (case t => k_is); (case l => k_is); (case c => k_is); (case k => k_is))
    (case r3 => refine' ⟨?a, ⟨_, _, _, _, _, _, _, _, _, _, _, _, _, _, _, ?x, ?m⟩, ?i, ?t, L2.fun_mk ?l ?c ?k⟩; (case a => k_is); (case x => exact rfl); (case m => decide +kernel); (case i => k_is); (case t => k_is); (case l => k_is); (case c => k_is); (case k => k_is))
    (case r4 => refine' ⟨?a, ⟨_, _, _, _, _, _, _, _, _, _, _, _, _, _, _, ?x, ?m⟩, ?i, ?t, L2.fun_mk ?l ?c ?k⟩; (case a => k_is); (case x => exact rfl); (case m => decide +kernel); (case i => k_is); (case t => k_is); (case l => k_is); (case c => k_is); (case k => k_is))
    (case ini => refine' ⟨?i, ?t, Lw.ini_mk ?l ?c ?k ?lT ?dT, ⟨_, _, ?o, ?oc, ?od⟩⟩; (case i => k_is); (case t => k_is); (case l => exact rfl); (case c => k_is); (case k => k_is); (case lT => exact rfl); (case dT => exact rfl); (case o => exact rfl); (case oc => exact rfl); (case od => exact rfl))
    (case cS => kernel_rfl); (case cT => kernel_rfl); (case cE => kernel_rfl); (case tB => kernel_rfl); (case nF => kernel_rfl)
    (case aS => k_is); (case lS => exact ⟨_, _, _, _, _, rfl⟩)
    (case c0 => k_is); (case c1 => k_is); (case c2 => k_is); (case c3 => k_is); (case c4 => k_is); (case c5 => k_is); (case c6 => k_is); (case c7 => k_is)
    (case z1 => k_is); (case z2 => k_is); (case z3 => k_is); (case z4 => k_is); (case z5 => k_is); (case z6 => k_is); (case z7 => k_is); (case z8 => k_is); (case z9 => k_is); (case z10 => k_is); (case z11 => k_is); (case z12 => k_is); (case z13 => k_is)
