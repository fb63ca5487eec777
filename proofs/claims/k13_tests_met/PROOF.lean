import PyProof.Rows.All
import Wide.All
import OpenK.AllK
import Wide.FinOn
import HandS.ForMost
import HandS.Codes
import HandS.DeepEq
import HandS.SetTxt0
import HandS.SetBool
import HandS.SetFor
import HandS.Strs
import PyProof.Rows.SortShellAny
import HandS.Comp
import PyProof.ReprRoads
import PyProof.StrLawsRepr
import PySem.Challenge.RW_endchecks_k13_tests_met
import HandS.Replace
import HandS.IsInst
import HandS.WordsDict
import HandS.DictComp
import HandS.Flow
import HandS.Walk
import HandS.Style
import PyProof.Rows.StrMeet
import HandS.TupLe
set_option Elab.async false
set_option linter.all false
set_option maxRecDepth 100000
namespace Lw
open PySem PySem.Spec PyProof.Rows L2
/-! ### small words -/
theorem small {n : Nat} (h : n ≤ 1000) : n ≤ sizeLine := Nat.le_of_lt (small1000 h)
theorem same_new {H : Hp} {p : Addr} (h : H p = none) (o : HO) : Same H (upd H p o) := fun b u q => by rw [upd_ne (ne_of_none q h)]; exact q
/-- all that was tracked is as it was, but what stands at b -/
def But (b : Addr) (H H' : Hp) : Prop := ∀ a o, H a = some o → a ≠ b → H' a = some o
theorem But.refl (b : Addr) (H : Hp) : But b H H := fun _ _ h _ => h
theorem But.trans {b : Addr} {H H1 H2 : Hp} (x : But b H H1) (y : But b H1 H2) : But b H H2 := fun a o h n => y a o (x a o h n) n
theorem But.of {b : Addr} {H H' : Hp} (x : Same H H') : But b H H' := fun a o h _ => x a o h
theorem But.new {b p : Addr} {H H' : Hp} {o : HO} (x : But b H H') (h : H' p = none) : But b H (upd H' p o) := fun a u q n => by
  have q' := x a u q n
  rw [upd_ne (ne_of_none q' h)]
  exact q'
theorem But.set {b : Addr} {H H' : Hp} {o : HO} (x : But b H H') : But b H (upd H' b o) := fun a u q n => by
  rw [upd_ne n]
  exact x a u q n
/-- xs[i] read for xs[i] op= e -/
def rGetL (K : PySem.W.Frag) : V → V → Hp → VK → Prop := fun x y H Q => ∃ p xs i v, x = .ref p ∧ y = .int i ∧ 0 ≤ i ∧ SqL K H p xs ∧ xs[i.toNat]? = some v ∧ Q v H
theorem get_list {X : Cx} : PGet X (rGetL X.K) := by
  intro pins s σ H x y v u Q I rx ry h
  obtain ⟨p, xs, i, z, rfl, rfl, h0, hq, he, q⟩ := h
  cases rx
  obtain ⟨t, rfl⟩ := ry
  obtain ⟨its, r, pl, hz⟩ := I.list hq
  obtain ⟨w, ew, rw'⟩ := r.get he
  have hl := r.length
  have hn := line63
  have hlt : i.toNat < xs.length := (List.getElem?_eq_some_iff.mp he).1
  exact wpAny_getItem_list pl.isList h0 (by omega) (by simpa using ew) ⟨z, H, I, rw', q⟩
theorem map_get {α : Type} {f : α → V} {l : List α} {i : Nat} {x : V} (h : (l.map f)[i]? = some x) : ∃ z, l[i]? = some z ∧ x = f z := by
  rw [List.getElem?_map] at h
  cases e : l[i]? with
  | none => rw [e] at h; cases h
  | some z => rw [e] at h; exact ⟨z, rfl, (Option.some.inj h).symm⟩
theorem cut_ints (ns : List Int) (h : ns.length ≤ 63) : ∃ ms : List Int, cutV (ns.map V.int) none (some 63) = ms.map V.int ∧ ms.length ≤ 63 := by
  unfold cutV
  refine ⟨((ns.drop (HT.sIx (ns.map V.int).length 0 none)).take (HT.sIx (ns.map V.int).length (ns.map V.int).length (some 63) - HT.sIx (ns.map V.int).length 0 none)), ?_, ?_⟩
  · rw [List.map_take, List.map_drop]
  · rw [List.length_take, List.length_drop]
    omega
theorem cut_ints' (ns : List Int) (lo hi : Option Int) : ∃ ms : List Int, cutV (ns.map V.int) lo hi = ms.map V.int := by
  unfold cutV
  exact ⟨_, by rw [← List.map_drop, ← List.map_take]⟩
theorem yes_if {σ : L2.St} {H : Hp} {F G : Hp → Prop} (h : F H) : tYes σ H (fun b H3 => if b = true then F H3 else G H3) := by
  show if true = true then F H else G H
  exact iteT h
theorem BagNe {H : Hp} {b p : Addr} {o : HO} (h : H b = some o) (n : H p = none) : p ≠ b := (ne_of_none h n).symm
/-- a comprehension over a text's signs -/
theorem lc_strI {z : Str} {g : TG} {tt : TT} {te : TE} {vs : List Nat} {σ : L2.St} {H1 : Hp} {D : Addr} {Qd : Hp → Prop} (Pv : Nat → Hp → Prop) (h0 : Pv 0 (upd H1 D (.lst [])))
    (hs : ∀ i c H, z.cps.toList[i]? = some c → Pv i H → g (.str ⟨#[c]⟩) (wipe σ vs) H fun σ2 H2 => wipe σ2 vs = wipe σ vs ∧ tt σ2 H2 fun b H3 =>
      if b = true then te σ2 H3 fun y H4 => ∃ acc, H4 D = some (.lst acc) ∧ acc.length < sizeLine ∧ Pv (i + 1) (upd H4 D (.lst (acc ++ [y]))) else Pv (i + 1) H3) (hd : ∀ H, Pv z.cps.toList.length H → Qd H) :
    ∃ W : Nat → Nat → Hp → Prop, (∃ m, W 0 m (upd H1 D (.lst []))) ∧ ∀ i m H, W i m H →
      ((Its z).stop i H ∧ Qd H) ∨ ((Its z).go i H ∧ ∃ Nx : Hp → Prop, (∀ H', Nx H' → ∃ m', m' < m ∧ W (i + 1) m' H') ∧ ∀ x H', (Its z).yld i H x H' → g x (wipe σ vs) H' fun σ2 H2 => wipe σ2 vs = wipe σ vs ∧ tt σ2 H2 fun b H3 =>
        if b = true then te σ2 H3 fun y H4 => ∃ acc, H4 D = some (.lst acc) ∧ acc.length < sizeLine ∧ Nx (upd H4 D (.lst (acc ++ [y]))) else Nx H3) := by
  have en : z.cps.toList.length = z.cps.size := Array.length_toList
  refine ⟨fun i m H => m = z.cps.size - i ∧ i ≤ z.cps.size ∧ Pv i H, ⟨z.cps.size, by simp, Nat.zero_le _, h0⟩, fun i m H hw => ?_⟩
  obtain ⟨rfl, hi, p⟩ := hw
  by_cases hlt : i < z.cps.size
  · refine .inr ⟨hlt, Pv (i + 1), fun H' p' => ⟨z.cps.size - (i + 1), by omega, rfl, hlt, p'⟩, fun x H' y => ?_⟩
    obtain ⟨e, c, hc, e2⟩ := y
    subst e
    subst e2
    exact hs i c _ (by rw [Array.getElem?_toList]; exact hc) p
  · have e : i = z.cps.size := by omega
    subst e
    exact .inl ⟨Nat.le_refl _, hd H (by rw [en]; exact p)⟩
/-! ### the bag of draws -/
/-- at b the bag, at c the numbers of the script -/
structure BagAt (H : Hp) (b c : Addr) : Prop where
  ex : ∃ (x y z : Int) (ns : List Int), H b = some (.lst [.int x, .int y, .int z, .ref c]) ∧ H c = some (.lst (ns.map V.int)) ∧ ns.length ≤ 63
theorem BagAt.mono {H H' : Hp} {b c : Addr} (x : BagAt H b c) (e : Same H H') : BagAt H' b c := by
  obtain ⟨x, y, z, ns, h1, h2, h3⟩ := x
  exact ⟨x, y, z, ns, e _ _ h1, e _ _ h2, h3⟩
theorem BagAt.nb {H : Hp} {b c p : Addr} (x : BagAt H b c) (n : H p = none) : p ≠ b := by
  obtain ⟨x, y, z, ns, h1, h2, h3⟩ := x
  exact (ne_of_none h1 n).symm
theorem BagAt.nc {H : Hp} {b c p : Addr} (x : BagAt H b c) (n : H p = none) : p ≠ c := by
  obtain ⟨x, y, z, ns, h1, h2, h3⟩ := x
  exact (ne_of_none h2 n).symm
theorem BagAt.new {H : Hp} {b c p : Addr} {o : HO} (x : BagAt H b c) (n : H p = none) : BagAt (upd H p o) b c := x.mono (same_new n o)
theorem BagAt.set {H : Hp} {b c p : Addr} {o : HO} (x : BagAt H b c) (n1 : p ≠ b) (n2 : p ≠ c) : BagAt (upd H p o) b c := by
  obtain ⟨x, y, z, ns, h1, h2, h3⟩ := x
  exact ⟨x, y, z, ns, by rw [upd_ne n1.symm]; exact h1, by rw [upd_ne n2.symm]; exact h2, h3⟩
theorem bag_ne {H : Hp} {b c : Addr} {x y z : Int} {ns : List Int} (h1 : H b = some (.lst [.int x, .int y, .int z, .ref c])) (h2 : H c = some (.lst (ns.map V.int))) : c ≠ b := by
  intro e
  rw [e, h1] at h2
  injection h2 with h2
  injection h2 with h2
  match ns with
  | [] => simp at h2
  | [_] => simp at h2
  | [_, _] => simp at h2
  | [_, _, _] => simp at h2
  | [_, _, _, _] => simp at h2
  | _ :: _ :: _ :: _ :: _ :: _ => simp at h2
/-- what is new behind a But is new ahead of it -/
theorem But.free {b p : Addr} {H H' : Hp} (x : But b H H') (n : H' p = none) (ne : p ≠ b) : H p = none := by
  cases q : H p with
  | none => rfl
  | some u => rw [x p u q ne] at n; cases n
/-- a change of a thing that is new -/
theorem But.put {b p : Addr} {H H' : Hp} {o : HO} (x : But b H H') (n : H p = none) : But b H (upd H' p o) := fun a u q ne => by
  rw [upd_ne (ne_of_none q n)]
  exact x a u q ne
/-- _law_bag(script) -/
def spBag (K : PySem.W.Frag) : Sp := fun vs H Q _ => ∃ (a : Addr) (ns : List Int), vs = [.ref a] ∧ SqL K H a (ns.map V.int) ∧ ns.length ≤ 63 ∧ ∀ (b c : Addr) (H' : Hp), H b = none → H c = none → BagAt H' b c → Same H H' → Q (.ref b) H'
/-- _law_take(bag, many) -/
def spTake : Sp := fun vs H Q _ => ∃ (b c : Addr) (m : Int), vs = [.ref b, .int m] ∧ BagAt H b c ∧ 0 < m ∧ m < 1000000 ∧
  ∀ (r : Int) (H' : Hp), 0 ≤ r → r < m → BagAt H' b c → But b H H' → Q (.int r) H'
end Lw

set_option Elab.async false
set_option linter.all false
set_option maxRecDepth 100000
namespace Lw
open PySem PySem.Spec PyProof.Rows L2
/-! ### names -/
abbrev LET : Str := "abcdefghijklmnopqrstuvwxyz"
abbrev WORDS : Str := "own not none some late now each done mark link tag row new self gone other"
def wordsL : List Str := ["own", "not", "none", "some", "late", "now", "each", "done", "mark", "link", "tag", "row", "new", "self", "gone", "other"]
theorem split_words : Txt.split WORDS " " = wordsL := by decide +kernel
def Low (c : Nat) : Prop := 97 ≤ c ∧ c ≤ 122
instance (c : Nat) : Decidable (Low c) := inferInstanceAs (Decidable (_ ∧ _))
structure NameOk (z : Str) : Prop where
  pos : 1 ≤ z.length
  most : z.length ≤ 8
  low : ∀ c ∈ z.cps.toList, Low c
abbrev one (c : Nat) : Str := ⟨#[c]⟩
def lowB (c : Nat) : Bool := decide (97 ≤ c) && decide (c ≤ 122)
theorem lowB_iff {c : Nat} : lowB c = true ↔ Low c := by unfold lowB Low; simp
def nameB (z : Str) : Bool := decide (1 ≤ z.length) && decide (z.length ≤ 8) && z.cps.toList.all lowB
theorem nameB_ok {z : Str} (h : nameB z = true) : NameOk z := by
  unfold nameB at h
  simp only [Bool.and_eq_true, decide_eq_true_eq, List.all_eq_true] at h
  exact ⟨h.1.1, h.1.2, fun c hc => lowB_iff.mp (h.2 c hc)⟩
theorem words_ok : ∀ z ∈ wordsL, NameOk z := fun z hz => nameB_ok (List.all_eq_true.mp (by decide +kernel : wordsL.all nameB = true) z hz)
theorem let_list : LET.cps.toList = List.range' 97 26 := by decide +kernel
theorem let_at {r : Int} (h0 : 0 ≤ r) (h1 : r < 26) : ∃ c : Nat, atI LET.cps.toList r = some c ∧ Low c ∧ (c : Int) = 97 + r := by
  obtain ⟨j, rfl⟩ : ∃ j : Nat, r = (j : Int) := ⟨r.toNat, by omega⟩
  have hj : j < 26 := by omega
  refine ⟨97 + j, atI_nat ?_, ⟨by omega, by omega⟩, by omega⟩
  rw [let_list, List.getElem?_range' hj]
  simp
theorem let_index {c : Nat} (h : Low c) : ∃ rest, Builtin.Str.occurrences LET (one c) 0 LET.length 1 = (c - 97) :: rest := by
  have key : ∀ j ∈ List.range 26, ∃ rest, Builtin.Str.occurrences LET (one (97 + j)) 0 LET.length 1 = j :: rest := by
    intro j hj
    have e : (List.range 26).all (fun j => (Builtin.Str.occurrences LET (one (97 + j)) 0 LET.length 1).head? == some j) = true := by decide +kernel
    have e2 := List.all_eq_true.mp e j hj
    cases q : Builtin.Str.occurrences LET (one (97 + j)) 0 LET.length 1 with
    | nil => rw [q] at e2; cases e2
    | cons a r =>
      rw [q] at e2
      have e3 : a = j := by simpa using e2
      exact ⟨r, by rw [e3]⟩
  obtain ⟨h1, h2⟩ := h
  obtain ⟨rest, e⟩ := key (c - 97) (List.mem_range.mpr (by omega))
  rw [show 97 + (c - 97) = c by omega] at e
  exact ⟨rest, e⟩
/-- the letters from one on, all round -/
def rot (at_ : Nat) : Str := cutS LET (some (at_ : Int)) none ++ cutS LET none (some (at_ : Int))
theorem rot_ok {j : Nat} (h : j < 26) : (rot j).cps.toList.length = 26 ∧ (rot j).cps.toList.Nodup ∧ ∀ c ∈ (rot j).cps.toList, Low c := by
  have e : (List.range 26).all (fun j => decide ((rot j).cps.toList.length = 26) && decide ((rot j).cps.toList.Nodup) && (rot j).cps.toList.all lowB) = true := by decide +kernel
  have e2 := List.all_eq_true.mp e j (List.mem_range.mpr h)
  simp only [Bool.and_eq_true, decide_eq_true_eq, List.all_eq_true] at e2
  exact ⟨e2.1.1, e2.1.2, fun c hc => lowB_iff.mp (e2.2 c hc)⟩
theorem str_ext {a b : Str} (h : a.cps.toList = b.cps.toList) : a = b := by
  obtain ⟨⟨l⟩⟩ := a
  obtain ⟨⟨m⟩⟩ := b
  have e : l = m := h
  rw [e]
theorem app_list (a b : Str) : (a ++ b).cps.toList = a.cps.toList ++ b.cps.toList := by
  show (a.cps ++ b.cps).toList = _
  exact Array.toList_append ..
theorem len_list (a : Str) : a.length = a.cps.toList.length := by
  show a.cps.size = _
  simp
theorem one_inj {a b : Nat} {r : Str} (h : one a ++ r = one b ++ r) : a = b := by
  have e := congrArg (fun z : Str => z.cps.toList) h
  rw [app_list, app_list] at e
  exact (List.cons.inj e).1
theorem cand_ok {c : Nat} {r : Str} (hc : Low c) (hl : r.length ≤ 7) (hr : ∀ c ∈ r.cps.toList, Low c) : NameOk (one c ++ r) := by
  have e : (one c ++ r).length = 1 + r.length := by rw [len_list, app_list, List.length_append, ← len_list r]; rfl
  refine ⟨by omega, by omega, fun d hd => ?_⟩
  rw [app_list] at hd
  rcases List.mem_append.mp hd with h | h
  · have : d = c := by simpa using h
    rw [this]; exact hc
  · exact hr d h
theorem nodup_le {α : Type} [DecidableEq α] : ∀ {l m : List α}, l.Nodup → (∀ x ∈ l, x ∈ m) → l.length ≤ m.length
  | [], _, _, _ => Nat.zero_le _
  | a :: l, m, hn, hs => by
    obtain ⟨h1, h2⟩ := List.nodup_cons.mp hn
    have ha : a ∈ m := hs a List.mem_cons_self
    have ih := nodup_le (l := l) (m := m.erase a) h2 fun x hx => (List.mem_erase_of_ne fun e => h1 (by rw [← e]; exact hx)).mpr (hs x (List.mem_cons_of_mem _ hx))
    have e := List.length_erase_of_mem ha
    have p : 0 < m.length := List.length_pos_of_mem ha
    show l.length + 1 ≤ m.length
    omega
theorem cand_free {j : Nat} (hj : j < 26) (r : Str) {zs : List Str} (hz : zs.length ≤ 25) : ∃ x ∈ (rot j).cps.toList.map (fun c => one c ++ r), x ∉ zs := by
  obtain ⟨e1, e2, e3⟩ := rot_ok hj
  by_cases h : ∃ x ∈ (rot j).cps.toList.map (fun c => one c ++ r), x ∉ zs
  · exact h
  · have nd : ((rot j).cps.toList.map (fun c => one c ++ r)).Nodup := by
      refine List.Pairwise.map _ (fun a b ne => fun e => ne (one_inj e)) e2
    have le := nodup_le nd fun x hx => Decidable.byContradiction fun q => h ⟨x, hx, q⟩
    rw [List.length_map, e1] at le
    omega
theorem inV_str (z : Str) (zs : List Str) : inV (.str z) (zs.map V.str) = decide (z ∈ zs) := by
  unfold inV
  induction zs with
  | nil => rfl
  | cons a r ih =>
    rw [List.map_cons, List.any_cons, ih]
    show ((a == z) || decide (z ∈ r)) = decide (z ∈ a :: r)
    by_cases e : a = z
    · subst e
      simp
    · have e' : (a == z) = false := beq_eq_false_iff_ne.mpr e
      rw [e', Bool.false_or]
      simp [List.mem_cons, Ne.symm e]
theorem flat_strs (zs : List Str) : (zs.map V.str).all flatV = true := by
  induction zs with
  | nil => rfl
  | cons a r ih => rw [List.map_cons, List.all_cons, ih]; rfl
/-- what is joined of single signs -/
theorem join_ones : ∀ cs : List Nat, Txt.join (Str.ofString "") (cs.map one) = ⟨cs.toArray⟩ := by
  intro cs
  rw [TL.join_eq]
  refine str_ext ?_
  show _ = cs
  induction cs with
  | nil => rfl
  | cons c r ih =>
    cases r with
    | nil => rfl
    | cons d r =>
      show (one c ++ Str.ofString "" ++ Str.join (Str.ofString "") ((d :: r).map one)).cps.toList = _
      rw [app_list, app_list, ih]
      rfl
theorem cut_drop1 (xs : List V) : cutV xs (some 1) none = xs.drop 1 := by
  have e : HT.sIx xs.length 0 (some ((1 : Nat) : Int)) = min 1 xs.length := HT.sIx_nat xs.length 0 1
  unfold cutV
  rw [show HT.sIx xs.length 0 (some (1 : Int)) = min 1 xs.length from e, HT.sIx_none]
  cases xs with
  | nil => rfl
  | cons a r =>
    have m : min 1 (a :: r).length = 1 := by rw [List.length_cons]; omega
    rw [m]
    exact List.take_of_length_le (by rw [List.length_drop]; exact Nat.le_refl _)
theorem cut_strs (zs : List Str) (lo hi : Option Int) : ∃ ys : List Str, cutV (zs.map V.str) lo hi = ys.map V.str ∧ ∀ y ∈ ys, y ∈ zs := by
  unfold cutV
  refine ⟨(zs.drop (HT.sIx (zs.map V.str).length 0 lo)).take (HT.sIx (zs.map V.str).length (zs.map V.str).length hi - HT.sIx (zs.map V.str).length 0 lo), ?_, fun y hy => List.mem_of_mem_drop (List.mem_of_mem_take hy)⟩
  rw [List.map_take, List.map_drop]
theorem ones_len (cs : List Nat) : ((cs.map one).map (·.length)).sum = cs.length := by
  induction cs with
  | nil => rfl
  | cons c r ih =>
    rw [List.map_cons, List.map_cons, List.sum_cons, ih, List.length_cons]
    show 1 + r.length = r.length + 1
    omega
theorem rep_strs (ws : List Str) (k : Bool) : ∃ ys : List Str, (List.replicate (if k = true then (1 : Int) else 0).toNat (ws.map V.str)).flatten = ys.map V.str ∧ ∀ y ∈ ys, y ∈ ws := by
  cases k with
  | false => exact ⟨[], rfl, fun y h => absurd h List.not_mem_nil⟩
  | true => exact ⟨ws, List.append_nil _, fun y h => h⟩
theorem take_more {α : Type} {l : List α} {i : Nat} {x : α} (h : l[i]? = some x) : l.take (i + 1) = l.take i ++ [x] := by
  rw [List.take_add_one, h]
  rfl
theorem rot_len (j : Nat) : (cutS LET (some (j : Int)) none).length + (cutS LET none (some (j : Int))).length ≤ sizeLine := by
  have h1 := cutS_length LET (some (j : Int)) none
  have h2 := cutS_length LET none (some (j : Int))
  have h3 : LET.length = 26 := by decide +kernel
  exact small (by omega)
theorem pick4 {r : Int} (h0 : 0 ≤ r) (h1 : r < 4) : ∃ ln : Int, atI [V.int 1, V.int 2, V.int 8, V.int 4] r = some (.int ln) ∧ 1 ≤ ln ∧ ln ≤ 8 := by
  obtain h | h | h | h : r = 0 ∨ r = 1 ∨ r = 2 ∨ r = 3 := by omega
  · exact ⟨1, by rw [h]; rfl, by decide, by decide⟩
  · exact ⟨2, by rw [h]; rfl, by decide, by decide⟩
  · exact ⟨8, by rw [h]; rfl, by decide, by decide⟩
  · exact ⟨4, by rw [h]; rfl, by decide, by decide⟩
end Lw

set_option Elab.async false
set_option linter.all false
set_option maxRecDepth 100000
set_option maxHeartbeats 4000000
/-! plain tests, rows -/
namespace Lw
open PySem PySem.Spec PyProof.Rows L2
inductive Tst where
  | is (f : Str) (ws : List Str) | non (f : Str) | nt (t : Tst)
def Tst.depth : Tst → Nat
  | .nt t => t.depth + 1
  | _ => 0
def Tst.field : Tst → Str
  | .is f _ => f | .non f => f | .nt t => t.field
/-- what stands within all nots -/
def Tst.core : Tst → Tst
  | .nt t => t.core
  | t => t
/-- a row: what a field has, None or a text -/
abbrev Row := Str → Option (Option Str)
def Tst.pass (ρ : Row) : Tst → Bool
  | .is f ws => match ρ f with | some (some z) => decide (z ∈ ws) | _ => false
  | .non f => decide (ρ f = some none)
  | .nt t => !t.pass ρ
def cellV : Option Str → V
  | none => .non
  | some z => .str z
structure RowAt (H : Hp) (a : Addr) (ρ : Row) : Prop where
  ex : ∃ kvs, H a = some (.dK kvs) ∧ ∀ f, valV kvs (.inr f) = (ρ f).map cellV
inductive TV (H : Hp) : V → Tst → Prop
  | is {t l : Addr} {f : Str} {ws : List Str} (a : H t = some (.tup [.str "is", .str f, .ref l])) (b : H l = some (.lst (ws.map V.str))) : TV H (.ref t) (.is f ws)
  | non {t : Addr} {f : Str} (a : H t = some (.tup [.str "none", .str f])) : TV H (.ref t) (.non f)
  | nt {t : Addr} {v : V} {s : Tst} (a : H t = some (.tup [.str "not", v])) (b : TV H v s) : TV H (.ref t) (.nt s)
theorem RowAt.mono {H H' : Hp} {a : Addr} {ρ : Row} (x : RowAt H a ρ) (s : Same H H') : RowAt H' a ρ := by
  obtain ⟨kvs, e, g⟩ := x.ex
  exact ⟨kvs, s _ _ e, g⟩
theorem TV.mono {H H' : Hp} {v : V} {t : Tst} (x : TV H v t) (s : Same H H') : TV H' v t := by
  induction x with
  | is a b => exact .is (s _ _ a) (s _ _ b)
  | non a => exact .non (s _ _ a)
  | nt a _ ih => exact .nt (s _ _ a) ih
/-- the bag is none of it -/
theorem TV.but {H H' : Hp} {b c : Addr} {v : V} {t : Tst} (x : TV H v t) (g : BagAt H b c) (s : But b H H') : TV H' v t := by
  obtain ⟨x1, y1, z1, ns, h1, _, _⟩ := g
  have nt : ∀ {a : Addr} {xs : List V}, H a = some (.tup xs) → a ≠ b := fun e n => by rw [n, h1] at e; cases e
  have nl : ∀ {a : Addr} {ws : List Str}, H a = some (.lst (ws.map V.str)) → a ≠ b := fun {a ws} e n => by
    rw [n, h1] at e
    injection e with e
    injection e with e
    match ws with
    | [] => simp at e
    | w :: r => simp at e
  induction x with
  | is a b => exact .is (s _ _ a (nt a)) (s _ _ b (nl b))
  | non a => exact .non (s _ _ a (nt a))
  | nt a _ ih => exact .nt (s _ _ a (nt a)) ih
theorem RowAt.but {H H' : Hp} {a b c : Addr} {ρ : Row} (x : RowAt H a ρ) (g : BagAt H b c) (s : But b H H') : RowAt H' a ρ := by
  obtain ⟨kvs, e, f⟩ := x.ex
  obtain ⟨x1, y1, z1, ns, h1, _, _⟩ := g
  exact ⟨kvs, s _ _ e (fun n => by rw [n, h1] at e; cases e), f⟩
theorem RowAt.get {H : Hp} {a : Addr} {ρ : Row} {f : Str} {o : Option Str} (x : RowAt H a ρ) (e : ρ f = some o) : DGet H a (.str f) (some (cellV o)) := by
  obtain ⟨kvs, q, g⟩ := x.ex
  have := DGet.k (k := .inr f) q
  rw [g f, e] at this
  exact this
/-- by levels: the test's nots are fewer than n -/
def spPass (n : Nat) : Sp := fun vs H Q _ => ∃ (r : Addr) (v : V) (t : Tst) (ρ : Row) (o : Option Str), vs = [.ref r, v] ∧ RowAt H r ρ ∧ TV H v t ∧ t.depth < n ∧ ρ t.field = some o ∧ Q (.bl (t.pass ρ)) H
theorem in_cell {o : Option Str} {ws : List Str} : inV (cellV o) (ws.map V.str) = (match (some o : Option (Option Str)) with | some (some z) => decide (z ∈ ws) | _ => false) := by
  cases o with
  | none =>
    show inV V.non (ws.map V.str) = false
    unfold inV
    rw [List.any_eq_false]
    intro y hy
    obtain ⟨z, _, rfl⟩ := List.mem_map.mp hy
    exact Bool.false_ne_true
  | some z => exact inV_str z ws
theorem non_cell (o : Option Str) : decide (cellV o = V.non) = decide (some o = (some none : Option (Option Str))) := by cases o <;> simp [cellV]
theorem tt_if {b : Bool} {F G : Prop} (e : b = true) (h : F) : if b = true then F else G := by
  rw [e]
  exact h
theorem ff_if {b : Bool} {F G : Prop} (e : b = false) (h : G) : if b = true then F else G := by
  rw [e]
  exact h
theorem flat_strs' (ws : List Str) : (ws.map V.str).all flatV = true := by
  rw [List.all_eq_true]
  intro y hy
  obtain ⟨z, _, rfl⟩ := List.mem_map.mp hy
  rfl
theorem pass_is {ρ : Row} {f : Str} {ws : List Str} {o : Option Str} (h : ρ f = some o) : Tst.pass ρ (.is f ws) = inV (cellV o) (ws.map V.str) := by
  rw [in_cell]
  unfold Tst.pass
  rw [h]
theorem pass_non {ρ : Row} {f : Str} {o : Option Str} (h : ρ f = some o) : Tst.pass ρ (.non f) = decide (cellV o = V.non) := by
  rw [non_cell]
  unfold Tst.pass
  rw [h]
theorem flat_cell (o : Option Str) : flatV (cellV o) = true := by cases o <;> rfl
end Lw

set_option Elab.async false
set_option linter.all false
set_option maxRecDepth 100000
set_option maxHeartbeats 4000000
/-! sets of texts: made, put into, sorted -/
namespace Lw
open PySem PySem.Spec PyProof.Rows L2
open PySem.Froz (SD TxOk sObj addTx tailTx)
/-- at a the set of the texts l (each once, in no order that one may rely on) -/
structure SetS (P : Program) (w : World) (h : Heap) (a : Addr) (l : List Str) : Prop where
  ex : ∃ D : SD, h.get? a = some (sObj "set" D) ∧ TxOk P w D l ∧ Ris D.2.2.place.toList ∧ (w.params.followText "set-order" = true ∨ D.2.2.led = true)
  nd : l.Nodup
  few : l.length < scanBound
/-- the payload behind an add rises, too -/
theorem add_ris {D : SD} {hs : Int} {v : Value} {F : Prop} (r : Ris D.2.2.place.toList) (b : F ∨ D.2.2.led = true) : Ris (addTx hs v D).2.2.place.toList ∧ (F ∨ (addTx hs v D).2.2.led = true) := by
  obtain ⟨es, ep, t⟩ := D
  have r1 := layNew_ris t es hs v r
  have l1 := layNew_led t es hs v
  have b1 : F ∨ (layNew t es hs v).2.1.led = true := b.imp id fun z => l1.trans z
  have key : ∀ (t2 : SetTable) (es1 : Array (Int × Value)) (wd : Bool), Ris t2.place.toList → (F ∨ t2.led = true) → Ris (tailTx ep es1 t2 wd).2.2.place.toList ∧ (F ∨ (tailTx ep es1 t2 wd).2.2.led = true) := by
    intro t2 es1 wd r2 b2
    unfold tailTx
    by_cases c : (!wd && t2.tooFull) = true
    · rw [if_pos c]
      exact ⟨relayAll_ris t2 es1 _, b2.imp id fun z => (relayAll_led t2 es1 _).trans z⟩
    · rw [if_neg c]
      exact ⟨r2, b2⟩
  show Ris (tailTx ep _ _ _).2.2.place.toList ∧ (F ∨ (tailTx ep _ _ _).2.2.led = true)
  refine key _ _ _ ?_ ?_
  · split
    · exact r1
    · exact r1
  · split
    · exact b1
    · exact b1
section
variable {P : Program} {w : World} {A : Around} {E : Value → Shared → Prop} {s : Shared}
theorem setS_fresh {h : Heap} : SetS P w (h.push { cls := .type "set", dict := none, data := .set #[] 0 (.fresh 0 0 (!w.params.followText "set-order")) }) h.objs.size [] :=
  ⟨⟨(#[], 0, .fresh 0 0 (!w.params.followText "set-order")), Heap.get?_push_size _ rfl, .nil rfl, List.Pairwise.nil, by
    show _ ∨ (!w.params.followText "set-order") = true
    cases w.params.followText "set-order"
    · exact .inr rfl
    · exact .inl rfl⟩, List.nodup_nil, by decide⟩
theorem SetS.at {h h' : Heap} {a : Addr} {l : List Str} (x : SetS P w h a l) (k : ∀ o, h.get? a = some o → h'.get? a = some o) : SetS P w h' a l := by
  obtain ⟨⟨D, e, r⟩, n, f⟩ := x
  exact ⟨⟨D, k _ e, r⟩, n, f⟩
/-- a text that is there is put in once more -/
theorem add_there {a : Addr} {D : SD} {l : List Str} {k : Str} {u : Tok} {Q : Bool → Shared → Prop} (ho : s.heap.get? a = some (sObj "set" D)) (F : TxOk P w D l) (hk : k ∈ l) (hb : l.length < scanBound) (h : Q false s) : wpAny (model P w) A (setAddHashed a (.str k u) (hashStr w k)) Q E s := by
  obtain ⟨es, ep, t⟩ := D
  have szl : es.size = l.length := F.sz
  have few : es.size < scanBound := by omega
  have itself : (strKind P w).is k (.str k u) = true := PySem.Froz.is_str k u
  unfold setAddHashed setAddHashedIn
  refine wpAny_holding (wpAny_bind (wpAny_setState_of ho (show (sObj "set" (es, ep, t)).data = .set es ep t from rfl) F.fit ?_))
  dsimp only
  rw [byScan_of rfl few F.el]
  simp only [↓reduceIte]
  unfold setAddByScan
  refine wpAny_bind (wpAny_bind (wpAny_rule (wpAny_bind (wpAny_setScan_of (knd := strKind P w) (k := k) itself ho rfl F.fit F.el ?_))))
  cases hf : List.findIdx? (fun e => (strKind P w).is k e.2) es.toList with
  | some j => exact wpAny_pure (wpAny_pure h)
  | none =>
    obtain ⟨e, he, q⟩ := (F.mem k).mp hk
    have c := List.findIdx?_eq_none_iff.mp hf e he
    rw [q] at c
    cases c
/-- found.add(k) -/
theorem setS_add {a : Addr} {l : List Str} {k : Str} {tk : Tok} {Q : Value → Shared → Prop} (R : SetS P w s.heap a l) (room : l.length + 1 < scanBound)
    (hQ : ∀ h', Heap.SameBut a s.heap h' → SetS P w h' a (if k ∈ l then l else k :: l) → Q .none { s with heap := h', toks := s.toks + 1 }) : wpAny (model P w) A (call (.builtin "set.add") [.ref a, .str k tk]) Q E s := by
  obtain ⟨⟨D, at_a, G, ris, led⟩, nd, few⟩ := R
  refine wpAny_call_entry F.slot_set_add ⟨_, at_a, rfl⟩ F.entry_set_add ?_ (F.args_set_add_2 _ _)
  unfold Builtin.«set.add» Builtin.Frozenset.oneOther
  simp only [List.isEmpty_nil, bind_assoc]
  unfold Builtin.Frozenset.addrOf setAdd
  refine wpAny_bind (wpAny_pure ?_)
  try dsimp only
  refine wpAny_bind (wpAny_pure ?_)
  try dsimp only
  refine wpAny_bind (wpAny_holding (wpAny_bind ((strKind P w).pyHash (k := k) (PySem.Froz.is_str _ _) ?_)))
  by_cases hk : k ∈ l
  · refine add_there (s := { s with toks := s.toks + 1 }) at_a G hk few ?_
    have q := hQ s.heap (Heap.SameBut.refl a s.heap) (by rw [if_pos hk]; exact ⟨⟨D, at_a, G, ris, led⟩, nd, few⟩)
    exact wpAny_pure ⟨_, rfl, q⟩
  · refine PySem.Froz.add_x (s := { s with toks := s.toks + 1 }) at_a G hk room ?_
    obtain ⟨r2, b2⟩ := add_ris (hs := hashStr w k) (v := .str k tk) ris led
    have q := hQ (s.heap.update a fun _ => sObj "set" (addTx (hashStr w k) (.str k tk) D)) (Heap.SameBut.update s.heap a _)
      (by rw [if_neg hk]; exact ⟨⟨_, PySem.Froz.get_upd _ at_a rfl, PySem.Froz.add_ok tk G, r2, b2⟩, List.nodup_cons.mpr ⟨hk, nd⟩, room⟩)
    exact wpAny_pure ⟨_, rfl, q⟩
/-! ### the members, in order -/
theorem perm_of {l ks : List Str} (nd : l.Nodup) (sub : ∀ x ∈ l, x ∈ ks) (len : ks.length = l.length) : l.Perm ks := by
  induction l generalizing ks with
  | nil => rw [List.length_nil] at len; rw [List.length_eq_zero_iff.mp len]
  | cons x r ih =>
    obtain ⟨s, t, rfl⟩ := List.append_of_mem (sub x List.mem_cons_self)
    obtain ⟨nx, nr⟩ := List.nodup_cons.mp nd
    have sub' : ∀ y ∈ r, y ∈ s ++ t := fun y hy => by
      rcases List.mem_append.mp (sub y (List.mem_cons_of_mem _ hy)) with z | z
      · exact List.mem_append_left _ z
      · rcases List.mem_cons.mp z with z | z
        · exact absurd (z ▸ hy) nx
        · exact List.mem_append_right _ z
    have len' : (s ++ t).length = r.length := by
      simp only [List.length_append, List.length_cons] at len ⊢
      omega
    exact ((ih nr sub' len').cons x).trans List.perm_middle.symm
def txtOf : Value → Str
  | .str k _ => k
  | _ => Str.empty
theorem txts_of : ∀ (l : List Value), (∀ v ∈ l, ∃ k tk, v = Value.str k tk) → StrsAre l (l.map txtOf)
  | [], _ => .nil
  | v :: l, h => by
    obtain ⟨k, tk, rfl⟩ := h v List.mem_cons_self
    exact .cons k tk (txts_of l fun u hu => h u (List.mem_cons_of_mem _ hu))
theorem is_txt {k : Str} {v : Value} (h : (strKind P w).is k v = true) : ∃ tk, v = .str k tk := by
  have h : Value.isStrOf k v = true := h
  cases v with
  | str x u =>
    have e : x = k := by simpa [Value.isStrOf] using h
    exact ⟨u, by rw [e]⟩
  | _ => cases h
theorem txts_perm {D : SD} {l : List Str} (G : TxOk P w D l) (nd : l.Nodup) : (∀ v ∈ D.1.toList.map (·.2), ∃ k tk, v = Value.str k tk) ∧ (D.1.toList.map fun e => txtOf e.2).Perm l := by
  refine ⟨fun v hv => ?_, (perm_of nd (fun x hx => ?_) ?_).symm⟩
  · obtain ⟨e, he, rfl⟩ := List.mem_map.mp hv
    obtain ⟨⟨k, q, _⟩, _⟩ := G.el e he
    obtain ⟨tk, z⟩ := is_txt q
    exact ⟨k, tk, z⟩
  · obtain ⟨e, he, q⟩ := (G.mem x).mp hx
    obtain ⟨tk, z⟩ := is_txt q
    exact List.mem_map.mpr ⟨e, he, by rw [z]; rfl⟩
  · rw [List.length_map, Array.length_toList]
    exact G.sz
theorem sorted_setS {a : Addr} {l : List Str} {Q : Value → Shared → Prop} (R : SetS P w s.heap a l) (hh : A.handled = none) (h64 : l.length < 64)
    (hQ : ∀ s' p (out : Array Value) (c : Nat) (ys : List Str), (∀ b o, s.heap.get? b = some o → s'.heap.get? b = some o) → s'.gens = s.gens → s'.os = s.os → s.heap.objs.size ≤ p →
      s'.heap.get? p = some (seqObj "list" out c) → StrsAre out.toList ys → ys.Perm l → sortedS ys = true → Q (.ref p) s') : wpAny (model P w) A (call (.builtin "sorted") [.ref a]) Q E s := by
  obtain ⟨⟨⟨es, ep, t⟩, at_a, G, ris, led⟩, nd, few⟩ := R
  obtain ⟨allT, pl⟩ := txts_perm G nd
  have szl : es.size = l.length := G.sz
  refine Calls.call_function_entry kind_sorted plain_sorted entry_sorted (args_sorted1 _) ?_
  unfold Builtin.«sorted»
  refine wpAny_bind (m := checkCount "sorted" 1 1 _) (wpAny_pure ?_)
  refine wpAny_bind (collect_set (A := A.in1) hh ⟨_, at_a, rfl, rfl⟩ G.fit (by show es.size < scanBound; omega) ris led fun s1 vs k1 z1 g1 o1 pm => ?_)
  have lv : vs.length = l.length := by rw [pm.length_eq, List.length_map, Array.length_toList]; exact szl
  have ts : StrsAre vs (vs.map txtOf) := txts_of vs fun v hv => allT v (pm.mem_iff.mp hv)
  have pv : (vs.map txtOf).Perm l := by
    have q := pm.map txtOf
    rw [List.map_map] at q
    exact q.trans pl
  refine wpAny_bind (wpAny_newList ?_ (by rw [lv, sizeLine_eq]; omega))
  have at_L : (s1.heap.push (seqObj "list" vs.toArray 0)).get? s1.heap.objs.size = some (seqObj "list" vs.toArray 0) := Heap.get?_push_size _ rfl
  refine wpAny_bind (wpAny_holding (wpAny_call_entry slot_list_sort ⟨_, at_L, rfl⟩ entry_list_sort (list_sort_treeK strKind_oneLt at_L ts.keysOf (fun v₁ v₂ rest e => keyKind_strs (by rw [← e]; exact ts)) (by rw [lv]; exact h64) fun st' hp hs => ⟨_, rfl, ?_⟩) (args_list_sort _)))
  obtain ⟨ys, y1, y2, y3⟩ := sorted_out_str ts hp hs
  obtain ⟨c, hc⟩ := sortedHeap_at (vs := vs) (out := (arrOf st').map (·.2)) at_L
  refine wpAny_pure ⟨_, rfl, hQ _ s1.heap.objs.size _ c ys (fun b u e => ?_) g1 o1 z1 hc y1 (y2.trans pv) y3⟩
  have q := k1 b u e
  have lt := Heap.lt_size q
  show (sortedHeap (s1.heap.push (seqObj "list" vs.toArray 0)) s1.heap.objs.size vs _).get? b = some u
  rw [sortedHeap_old (Nat.ne_of_lt lt) (by rw [size_push']; exact Nat.lt_succ_of_lt lt)]
  exact Heap.get?_push_of_some _ q
end
end Lw

set_option Elab.async false
set_option linter.all false
set_option maxRecDepth 100000
set_option maxHeartbeats 4000000
/-! sets of texts within the heap of a proof: the comprehension, sorted -/
namespace Lw
open PySem PySem.Spec PySem.W PySem.Calls PyProof.Rows L2
def SetSO (P : Program) (w : World) (a : Addr) (l : List Str) : HO := .ext fun h => SetS P w h a l
section
variable {X : Cx} {pl : List (Addr × Obj)} {σ : L2.St} {H : Hp} {s : Shared}
theorem setS_ok {P : Program} {w : World} {h : Heap} {a : Addr} {l : List Str} (R : SetS P w h a l) : ObjOk P w H h a (SetSO P w a l) := by
  obtain ⟨D, e, _⟩ := R.ex
  exact ⟨R, ⟨_, e⟩, fun h1 h2 p k => SetS.at p k⟩
theorem setS_get {a : Addr} {l : List Str} (J : Inv X pl σ H s) (ha : H a = some (SetSO X.prog X.w a l)) : SetS X.prog X.w s.heap a l := (J.hok a _ ha).1
/-- sorted(a set of texts) -/
def rSortedSS (P : Program) (w : World) : List V → Hp → VK → Prop := fun vs H Q => ∃ (a : Addr) (l : List Str), vs = [.ref a] ∧ H a = some (SetSO P w a l) ∧ l.length < 64 ∧ ∀ (ys : List Str) (p : Addr), ys.Perm l → sortedS ys = true → H p = none → Q (.ref p) (upd H p (.lst (ys.map V.str)))
theorem cr_sortedSS (hc : X.calm = true) : CallR X (.builtin "sorted") (rSortedSS X.prog X.w) := by
  intro pl s σ H vs us Q J r h
  obtain ⟨a, l, rfl, ha, h64, q⟩ := h
  rw [Vals.ref1 r]
  refine sorted_setS (setS_get J ha) (J.ok.hd hc) h64 fun s' p out c ys k g o new at_p ts py so => ?_
  have len : (ys.map V.str).length ≤ sizeLine := by rw [List.length_map, py.length_eq, sizeLine_eq]; omega
  have free : H p = none := J.hok.fresh new
  obtain ⟨h', g', d', t', o'⟩ := s'
  have J' : Inv X pl σ (upd H p (.lst (ys.map V.str))) ⟨h', g', d', t', o'⟩ :=
    J.call' (ch := []) o (Un.laid k new free) (J.hok.laid k new ⟨len, out.toList, c, vals_of_strs ts, by rw [Array.toArray_toList]; exact at_p⟩) (by show AllBare g'; rw [show g' = s.gens from g]; exact J.bare) (fun _ z => nomatch z)
  exact ⟨.ref p, _, J', rfl, q ys p py so free⟩
/-- D.add(x) within the comprehension -/
theorem addS_ok {E : Value → Shared → Prop} {D : Addr} {l : List Str} {k : Str} {tk : Tok} {Q : Value → Shared → Prop} (J : Inv X pl σ H s) (hD : H D = some (SetSO X.prog X.w D l)) (room : l.length + 1 < scanBound)
    (h : ∀ s', Inv X pl σ (upd H D (SetSO X.prog X.w D (if k ∈ l then l else k :: l))) s' → Q .none s') : wpAny (model X.prog X.w) X.A (call (.builtin "set.add") [.ref D, .str k tk]) Q E s := by
  refine setS_add (setS_get J hD) room fun h' sb new => ?_
  obtain ⟨D2, e, _⟩ := id new.ex
  exact h _ (J.write (e := D) (t' := s.toks + 1) (by rw [hD]; trivial) (.inl rfl) (fun b u hb hu => (sb.2 b hb).trans hu) ⟨_, e⟩ (setS_ok new))
/-- {elt for target in iter}, elt a text -/
def tScS (P : Program) (w : World) (wi : TI) (g : TG) (te : TE) (vs : List Nat) : TE := fun σ H Q => wi σ H fun J H1 => ∀ D, H1 D = none → ∃ W : Nat → Nat → Hp → Prop, (∃ m, W 0 m (upd H1 D (SetSO P w D []))) ∧ ∀ i m H, W i m H →
  (J.stop i H ∧ Q (.ref D) H) ∨ (J.go i H ∧ ∃ Nx : Hp → Prop, (∀ H', Nx H' → ∃ m', m' < m ∧ W (i + 1) m' H') ∧ ∀ x H', J.yld i H x H' → g x (wipe σ vs) H' fun σ2 H2 => wipe σ2 vs = wipe σ vs ∧
    te σ2 H2 fun y H4 => ∃ (k : Str) (l : List Str), y = .str k ∧ H4 D = some (SetSO P w D l) ∧ l.length + 1 < scanBound ∧ Nx (upd H4 D (SetSO P w D (if k ∈ l then l else k :: l))))
theorem pe_scS {elt tg iter : Expr} {scope : Scope} {own : List (Str × Nat)} {pos : Pos} {wi : TI} {g : TG} {te : TE} (calm : X.calm = true) (nd : X.N.Nodup) (src : PI X tg iter wi) (ok : BlkOk X.N X.env.scope scope own)
    (rg : ∀ (s : Shared) (H : Hp) (C : Addr) (cl : List (Str × Addr)) (fp : List Addr), PG (X.blk s H scope (compEnvC scope cl C X.env) fp) tg g)
    (re : ∀ (s : Shared) (H : Hp) (C : Addr) (cl : List (Str × Addr)) (fp : List Addr), PE (X.blk s H scope (compEnvC scope cl C X.env) fp) elt te) (plain : ∀ x, foldedSetIterable iter X.env x = pure x := by intro _; rfl) :
    PE X (.SetComp elt [⟨tg, iter, [], 0⟩] scope pos) (tScS X.prog X.w wi g te (own.map (·.2))) := by
  refine ⟨fun pl s0 σ H Q J0 want => ?_⟩
  rw [PpSet.eval_SetComp]
  have cellsFree : ∀ y ∈ scope.names, y.2 = .free → ∃ c, X.env.cells.lookup y.1 = some c := by
    intro y hy e
    exact (ok.free y hy e).elim (fun k => J0.ok.has _ (.inl k)) (fun k => J0.ok.has _ (.inr k))
  refine wpAny_comprehension_free (use := none) rfl plain (closure_ok cellsFree) ok.kind (fun y hy e => by rw [ok.uniq y hy, e])
    (thn (src.run pl s0 σ H _ J0 want) fun xv s1 got => thn got fun itv s2 got2 => ?_)
  obtain ⟨it, fp, tn, It1, H2, rfl, J2, T, tn2, fo2, rest⟩ := got2
  refine PpSet.newSet_ok (newEnv_comp ?_)
  generalize eL : s2.heap.objs.size = L
  have freeL : H2 L = none := J2.hok.fresh (Nat.le_of_eq eL)
  obtain ⟨W, ⟨m0, w0⟩, turn⟩ := rest L freeL
  generalize e3 : ({ s2 with heap := s2.heap.push { cls := .type "set", dict := none, data := .set #[] 0 (.fresh 0 0 (!X.w.params.followText "set-order")) } } : Shared) = s3
  have hp3 : s3.heap = s2.heap.push { cls := .type "set", dict := none, data := .set #[] 0 (.fresh 0 0 (!X.w.params.followText "set-order")) } := by rw [← e3]
  have J3 : Inv X pl σ (upd H2 L (SetSO X.prog X.w L [])) s3 := by
    rw [← e3]
    refine J2.laid (t' := s2.toks) (fun b o q => Heap.get?_push_of_some _ q) (Nat.le_of_eq eL) ?_
    rw [← eL]
    exact setS_ok setS_fresh
  have fo3 : ∀ b ∈ fp, FpOk X pl (upd H2 L (SetSO X.prog X.w L [])) b ∧ b < s3.heap.objs.size := by
    intro b hb
    obtain ⟨o, eo, _⟩ := T.obj _ _ tn2 b hb
    have lt := Heap.lt_size eo
    refine ⟨⟨?_, (fo2 b hb).2⟩, by rw [hp3, Heap.size_push]; exact Nat.lt_succ_of_lt lt⟩
    rw [upd_ne (by rw [← eL]; exact Nat.ne_of_lt lt)]
    exact (fo2 b hb).1
  have tn3 : tn 0 s3.heap := T.keep _ _ _ tn2 fun b _ o eo => by rw [hp3]; exact Heap.get?_push_of_some _ eo
  have J4 := block_start J3 ok nd fo3
  have ug := rg s3 (upd H2 L (SetSO X.prog X.w L [])) s3.heap.objs.size (cellsFrom (s3.heap.objs.size + 1) scope.names (cloFrom X.env.cells scope.names [])) fp
  have ue := re s3 (upd H2 L (SetSO X.prog X.w L [])) s3.heap.objs.size (cellsFrom (s3.heap.objs.size + 1) scope.names (cloFrom X.env.cells scope.names [])) fp
  show codeAny _ _ (.compStart (.SetComp elt [⟨tg, iter, [], 0⟩] scope pos) 0 (.ref it) (.ref L) (compEnvC scope (cellsFrom (s3.heap.objs.size + 1) scope.names (cloFrom X.env.cells scope.names [])) s3.heap.objs.size X.env)) (compPost (model X.prog X.w) X.A X.xe none (EP X pl σ Q) (.ref L) s3.heap.objs.size) { s3 with heap := pushCells (s3.heap.push { cls := .type "dict", data := .dict #[] }) scope.names }
  have none3 : ∀ b ∈ fp, (upd H2 L (SetSO X.prog X.w L [])) b = none := fun b hb => (fo3 b hb).1.1
  generalize ece : compEnvC scope (cellsFrom (s3.heap.objs.size + 1) scope.names (cloFrom X.env.cells scope.names [])) s3.heap.objs.size X.env = ce at J4 ug ue ⊢
  have locC : ce.locals = s3.heap.objs.size := by subst ece; rfl
  generalize eH3 : upd H2 L (SetSO X.prog X.w L []) = H3 at J3 J4 ug ue w0 none3 fo3
  generalize e4 : ({ s3 with heap := pushCells (s3.heap.push { cls := .type "dict", data := .dict #[] }) scope.names } : Shared) = s4 at J4 ⊢
  have tn4 : tn 0 s4.heap := T.keep _ _ _ tn3 fun b _ o eo => by rw [← e4]; exact pushCells_keeps _ _ _ _ (Heap.get?_push_of_some _ eo)
  have okB : ∀ {σ' : L2.St} {H' : Hp} {s' : Shared}, Inv (X.blk s3 H3 scope ce fp) [] σ' H' s' → (∀ b ∈ fp, H' b = none) → ∀ b ∈ fp, FpOk (X.blk s3 H3 scope ce fp) [] H' b := by
    intro σ' H' s' J fr b hb
    exact ⟨fr b hb, (J.ok.exf b hb).1, J.ok.exfs b hb, .inl hb, fun x c e => (J.ok.exf b hb).2 x c e, fun p hp => absurd (show p ∈ ([] : List (Addr × Obj)) ++ [] from hp) (by simp)⟩
  have loop : codeAny (model X.prog X.w) X.A (.compLoop (.SetComp elt [⟨tg, iter, [], 0⟩] scope pos) 0 (.ref it) (.ref L) ce) (compPost (model X.prog X.w) X.A X.xe none (EP X pl σ Q) (.ref L) s3.heap.objs.size) s4 := by
    refine PpSet.compLoopS_any (fun n s' => ∃ i H', Inv (X.blk s3 H3 scope ce fp) [] (wipe σ (own.map (·.2))) H' s' ∧ tn i s'.heap ∧ (∀ b ∈ fp, H' b = none) ∧ W i n H') ?_ m0 ⟨0, H3, J4, tn4, none3, w0⟩
    rintro n s5 ⟨i, H5, J5, tn5, fr5, w5⟩
    rcases turn i n H5 w5 with ⟨stop, qq⟩ | ⟨go, Nx, hNx, step⟩
    · refine thnF (T.done (X.blk s3 H3 scope ce fp) rfl rfl rfl calm i [] s5 _ H5 (fun _ _ => False) J5 (okB J5 fr5) tn5 stop) fun r s6 got6 => ?_
      obtain ⟨rfl, J6⟩ := got6
      have J7 : Inv X pl σ H5 s6 := J3.call' (ch := fp) J6.os J6.base J6.hok J6.bare fun b hb => ⟨(fo3 b hb).1.2.2.2.1, (fo3 b hb).1.2.1, (fo3 b hb).1.2.2.2.2.1, (fo3 b hb).1.2.2.2.2.2⟩
      have frC : H5 s3.heap.objs.size = none := locC ▸ (show H5 ce.locals = none from J6.free)
      obtain ⟨m, nsC, _⟩ := J6.loc
      have nsC : s6.heap.Ns s3.heap.objs.size m := locC ▸ (show s6.heap.Ns ce.locals m from nsC)
      obtain ⟨f0, f1, f2, f3, f4, f5⟩ := J3.fpOk (Nat.le_refl _) frC
      exact ⟨m, nsC, fun h'' sb => ⟨.ref L, H5, J7.turned (t' := s6.toks) (fun b o hb e => (sb.2 b hb).trans e) f0 f1 f3 f4 f5, rfl, qq⟩⟩
    · refine thnF (T.item (X.blk s3 H3 scope ce fp) rfl rfl rfl calm i [] s5 _ H5 (fun _ _ => False) J5 (okB J5 fr5) tn5 go) fun r s6 got6 => ?_
      obtain ⟨u, rfl, got6⟩ := got6
      refine thnF got6 fun _ s7 got7 => ?_
      obtain ⟨x, H7, J7, r7, y7, tn7, fr7⟩ := got7
      have J7p := J7.pinned (okB J7 fr7) (T.obj _ _ tn7)
      refine thnF (ug.run _ s7 _ H7 x u _ J7p r7 (step x H7 y7)) fun _ s8 got8 => ?_
      obtain ⟨σ8, H8, J8, ew, want8⟩ := got8
      have fin : ∀ {s' : Shared} {H' : Hp}, Inv (X.blk s3 H3 scope ce fp) ([] ++ pinsAt fp s7.heap) σ8 H' s' → Nx H' →
          ∃ m, m < n ∧ ∃ i H', Inv (X.blk s3 H3 scope ce fp) [] (wipe σ (own.map (·.2))) H' s' ∧ tn i s'.heap ∧ (∀ b ∈ fp, H' b = none) ∧ W i m H' := by
        intro s' H' J11 nx
        obtain ⟨m', lt, w'⟩ := hNx _ nx
        have pinned : ∀ b ∈ fp, ∀ o, s7.heap.get? b = some o → s'.heap.get? b = some o ∧ H' b = none := by
          intro b hb o eo
          obtain ⟨z1, z2, _⟩ := J11.pin (b, o) (List.mem_append_right _ (List.mem_append_right _ (mem_pinsAt hb eo)))
          exact ⟨z1, z2⟩
        have el : (wipe σ (own.map (·.2))).length = σ8.length := by rw [← ew, wipe_length]
        refine ⟨m', lt, i + 1, _, (J11.unpinned (pins := [])).weak el (fun j v ev => ?_), T.keep _ _ _ tn7 fun b hb o eo => (pinned b hb o eo).1, fun b hb => ?_, w'⟩
        · rw [← ew] at ev
          exact (wipe_some ev).1
        · obtain ⟨o, eo, _⟩ := T.obj _ _ tn7 b hb
          exact (pinned b hb o eo).2
      refine thnF ((pts_nil (X := X.blk s3 H3 scope ce fp)).run _ s8 σ8 H8 (fun b H9 => if b = true then te σ8 H9 _ else False) J8 want8) fun b s9 got9 => ?_
      obtain ⟨H9, J9, want9⟩ := got9
      cases b with
      | false => exact absurd want9 (by simp)
      | true =>
        simp only [if_true] at want9 ⊢
        refine thnF (ue.run _ s9 σ8 H9 _ J9 want9) fun z s10 got10 => ?_
        obtain ⟨yv, H10, J10, r10, k, l, rfl, eL10, lt10, nx⟩ := got10
        obtain ⟨tk, rfl⟩ := r10
        exact addS_ok (X := X.blk s3 H3 scope ce fp) J10 eL10 lt10 fun s11 J11 => fin J11 nx
  exact PpSet.codeAny_compStart_set loop (T.self X.A 0 _ _ _ tn4 loop)
end
end Lw

set_option Elab.async false
set_option linter.all false
set_option maxRecDepth 100000
set_option maxHeartbeats 4000000
/-! set(a list of texts) -/
namespace Lw
open PySem PySem.Spec PyProof.Rows L2
abbrev bareSet (w : World) : Obj := { cls := .type "set", dict := none, data := .set #[] 0 (.fresh 0 0 (!w.params.followText "set-order")) }
/-- put in, unless it is there -/
def ins (l : List Str) (k : Str) : List Str := if k ∈ l then l else k :: l
/-- the texts of a list, each once -/
def once (ks : List Str) : List Str := ks.foldl ins []
theorem once_snoc (ks : List Str) (k : Str) : once (ks ++ [k]) = ins (once ks) k := by
  unfold once
  rw [List.foldl_append]
  rfl
theorem ins_len (l : List Str) (k : Str) : (ins l k).length ≤ l.length + 1 := by
  unfold ins
  split
  · exact Nat.le_succ _
  · exact Nat.le_refl _
theorem once_go (ks : List Str) : ∀ l : List Str, (ks.foldl ins l).length ≤ l.length + ks.length := by
  induction ks with
  | nil => intro l; exact Nat.le_refl _
  | cons k r ih =>
    intro l
    have h1 := ih (ins l k)
    have h2 := ins_len l k
    show (r.foldl ins (ins l k)).length ≤ l.length + (r.length + 1)
    omega
theorem once_len (ks : List Str) : (once ks).length ≤ ks.length := by
  have h := once_go ks []
  rw [List.length_nil, Nat.zero_add] at h
  exact h
theorem mem_ins {l : List Str} {k x : Str} : x ∈ ins l k ↔ x = k ∨ x ∈ l := by
  unfold ins
  split
  · rename_i h
    exact ⟨.inr, fun z => z.elim (fun e => e ▸ h) id⟩
  · exact List.mem_cons
theorem mem_go (ks : List Str) : ∀ (l : List Str) (x : Str), x ∈ ks.foldl ins l ↔ x ∈ l ∨ x ∈ ks := by
  induction ks with
  | nil => intro l x; simp
  | cons k r ih =>
    intro l x
    show x ∈ r.foldl ins (ins l k) ↔ _
    rw [ih, mem_ins, List.mem_cons]
    constructor
    · rintro ((h | h) | h)
      · exact .inr (.inl h)
      · exact .inl h
      · exact .inr (.inr h)
    · rintro (h | h | h)
      · exact .inl (.inr h)
      · exact .inl (.inl h)
      · exact .inr h
theorem mem_once {ks : List Str} {x : Str} : x ∈ once ks ↔ x ∈ ks := by
  have h := mem_go ks [] x
  rw [show (x ∈ ([] : List Str)) = False from by simp] at h
  rw [show (False ∨ x ∈ ks) = (x ∈ ks) from false_or _] at h
  exact h
section
variable {P : Program} {w : World} {A : Around} {E : Value → Shared → Prop} {s : Shared}
theorem bare_at {h : Heap} {a : Addr} (e : h.get? a = some (bareSet w)) : SetS P w h a [] :=
  ⟨⟨(#[], 0, .fresh 0 0 (!w.params.followText "set-order")), e, .nil rfl, List.Pairwise.nil, by
    show _ ∨ (!w.params.followText "set-order") = true
    cases w.params.followText "set-order"
    · exact .inr rfl
    · exact .inl rfl⟩, List.nodup_nil, by decide⟩
/-- one more, its hash told -/
theorem setS_put {a : Addr} {l : List Str} {k : Str} {tk : Tok} {Q : Bool → Shared → Prop} (R : SetS P w s.heap a l) (room : l.length + 1 < scanBound)
    (hQ : ∀ b h', Heap.SameBut a s.heap h' → SetS P w h' a (ins l k) → Q b { s with heap := h' }) : wpAny (model P w) A (setAddHashed a (.str k tk) (hashStr w k)) Q E s := by
  obtain ⟨⟨D, at_a, G, ris, led⟩, nd, few⟩ := R
  by_cases hk : k ∈ l
  · exact add_there at_a G hk few (hQ _ s.heap (Heap.SameBut.refl a s.heap) (by unfold ins; rw [if_pos hk]; exact ⟨⟨D, at_a, G, ris, led⟩, nd, few⟩))
  · obtain ⟨r2, b2⟩ := add_ris (hs := hashStr w k) (v := .str k tk) ris led
    exact PySem.Froz.add_x at_a G hk room (hQ _ _ (Heap.SameBut.update s.heap a _)
      (by unfold ins; rw [if_neg hk]; exact ⟨⟨_, PySem.Froz.get_upd _ at_a rfl, PySem.Froz.add_ok tk G, r2, b2⟩, List.nodup_cons.mpr ⟨hk, nd⟩, room⟩))
theorem put_all {I S : Addr} {fp wr : List Addr} {G : Array GenState → Array GenState → Prop} {n : Nat} {Pv : Nat → Value → Prop} {St : Nat → Shared → Prop} {R : Result → Shared → Prop} (Wk : WalksS P w A.in1 I fp wr G n Pv St) (out : S ∉ fp) (ks : List Str)
    (hn : n = ks.length) (room : ks.length + 1 < scanBound) (what : ∀ i v, Pv i v → ∃ k t, ks[i]? = some k ∧ v = .str k t) : ∀ (left i : Nat) (s : Shared), n - i = left → i ≤ n → St i s → SetS P w s.heap S (once (ks.take i)) →
      (∀ s', Moved (S :: wr) G s s' → SetS P w s'.heap S (once ks) → R (.ok (.ret .none)) s') → codeAny (model P w) A (.builtin "set.update.loop" ⟨[.ref S, .ref I], []⟩) R s := by
  have nwr : S ∉ wr := fun h => out (Wk.sub _ h)
  have up : ∀ b ∈ wr, b ∈ S :: wr := fun b hb => List.mem_cons_of_mem _ hb
  intro left
  induction left with
  | zero =>
    intro i s hl hi st has fin
    obtain rfl : i = n := by omega
    refine codeAny_builtin F.entry_set_update_loop ?_
    rw [Around.under_plainId F.plain_set_update_loop _]
    show wpAny _ A.in1 (pyNext (.ref I) >>= _) _ _ s
    refine wpAny_bind (Wk.done s _ _ st fun s' mv => ?_)
    rw [List.take_of_length_le (by omega)] at has
    exact wpAny_pure (fin s' (mv.mono up) (has.at fun o e => mv.heap S o nwr e))
  | succ left ih =>
    intro i s hl hi st has fin
    have lt : i < n := by omega
    refine codeAny_builtin F.entry_set_update_loop ?_
    rw [Around.under_plainId F.plain_set_update_loop _]
    show wpAny _ A.in1 (pyNext (.ref I) >>= _) _ _ s
    refine wpAny_bind (Wk.item i s _ _ lt st fun v s' pv st' mv => ?_)
    obtain ⟨z, t, hz, rfl⟩ := what i v pv
    have has' : SetS P w s'.heap S (once (ks.take i)) := has.at fun o e => mv.heap S o nwr e
    have lenT : (once (ks.take i)).length ≤ i := Nat.le_trans (once_len _) (by rw [List.length_take]; omega)
    show wpAny _ A.in1 (holding [Value.str z t] (setAdd S (.str z t)) >>= _) _ _ s'
    refine wpAny_bind (wpAny_holding ?_)
    unfold setAdd
    refine wpAny_holding (wpAny_bind ((strKind P w).pyHash (k := z) (PySem.Froz.is_str _ _) ?_))
    refine setS_put (s := { s' with toks := s'.toks + 1 }) has' (by omega) fun b h' sb has2 => ?_
    rw [← once_snoc, show ks.take i ++ [z] = ks.take (i + 1) from by rw [List.take_add_one, hz]; rfl] at has2
    refine wpAny_pure ⟨plainId_quiet F.plain_set_update_loop _, ih (i + 1) _ (by omega) lt (Wk.frame _ s' _ _ st' (Nat.le_succ _) fun b hb o e => ?_) has2 fun s'' mv2 has3 => ?_⟩
    · exact (sb.2 b fun h : b = S => out (h ▸ hb)).trans e
    · exact fin s'' (Moved.trans Wk.gtrans ((mv.mono up).then_heap (Nat.le_succ _) fun b o hb e => (sb.2 b fun h : b = S => hb (h ▸ List.mem_cons_self)).trans e) mv2) has3
set_option maxHeartbeats 6400000 in
/-- set(xs), xs a list of texts -/
theorem call_set_txts {L : Addr} {items : Array Value} (ks : List Str) {Q : Value → Shared → Prop} (calm : A.handled = none) (isL : s.heap.IsList L items) (ts : StrsAre items.toList ks) (room : ks.length + 1 < scanBound)
    (h : ∀ (h' : Heap) (tk : Nat), SetS P w h' s.heap.objs.size (once ks) → (∀ b o, s.heap.get? b = some o → h'.get? b = some o) → Q (.ref s.heap.objs.size) { s with heap := h', toks := tk }) :
    wpAny (model P w) A (call (.type "set") [.ref L]) Q E s := by
  have size : items.size = ks.length := by rw [← StrsAre.len_eq ts, Array.length_toList]
  obtain ⟨cc, tl, hmro⟩ := F.called_set.mro
  have made := F.called_set.made
  have subs := F.called_set.sub
  refine wpAny_call (codeAny_of_tree ?_)
  show wpAny _ _ (callAny (.type "set") _) _ _ _
  refine wpAny_pure ⟨Code.quiet_builtin _ (by decide +kernel), codeAny_builtin F.entry_type_call ?_⟩
  rw [Around.under_plain (weight_type_call_type "set" [.ref L] []) rfl]
  have nt := F.called_set.notType
  have cr := F.called_set.canCreate
  have tc := F.typeCall_set_1 (.ref L)
  repeat (any_goals (first | assumption | wp_step))
  refine codeAny_mono (code_set_led1 (.ref L) (E := E) (Q₁ := fun ob s1 => ob = .ref s.heap.objs.size ∧ s1 = { s with heap := s.heap.push (bareSet w) }) ⟨rfl, rfl⟩) fun r s1 got => ?_
  cases r with
  | error e => exact got
  | ok fl =>
    cases fl with
    | ret ob =>
      obtain ⟨rfl, rfl⟩ := got
      have at_S : (s.heap.push (bareSet w)).get? s.heap.objs.size = some (bareSet w) := Heap.get?_push_size _ rfl
      have ty_S : Shared.TypeIs { s with heap := s.heap.push (bareSet w) } (.ref s.heap.objs.size) "set" := ⟨_, at_S, rfl⟩
      have il := F.called_set.init.lookup
      have ib := F.called_set.init.bind (.ref s.heap.objs.size)
      repeat (any_goals (first | assumption | wp_step))
      refine codeAny_mono (codeAny_call_builtin (R := wants (fun r s2 => r = .none ∧ ∃ h' tk, s2 = { s with heap := h', toks := tk } ∧ SetS P w h' s.heap.objs.size (once ks) ∧ (∀ b o, s.heap.get? b = some o → h'.get? b = some o)) E) F.called_set.init.plain F.entry_set_init (check_set_init_1 ty_S ?_)) fun r2 s2 got2 => ?_
      · obtain ⟨oL, at_L, cL, nL, dL⟩ := isL
        obtain ⟨q1, q2, q3, q4⟩ := oL
        simp only at cL dL
        subst cL
        subst dL
        have at_L' : (s.heap.push (bareSet w)).get? L = some { cls := .type "list", dict := q2, data := .seq items nL, slots := q4 } := Heap.get?_push_of_some _ at_L
        have z1 := F.sub_list_set
        have z2 := F.sub_list_frozenset
        have z3 : (Value.type "list" == Value.type "dict") = false := by decide
        have isL' : (s.heap.push (bareSet w)).IsList L items := ⟨_, at_L', rfl, nL, rfl⟩
        unfold Builtin.«set.__init__» noKeywords Builtin.Frozenset.updateFrom
        generalize epi : pyIter = PI
        wp_walk
        subst epi
        refine wpAny_pyIter_list isL' (wpAny_bind (wpAny_runValue ?_))
        have lt := Heap.lt_size at_L
        have calm3 : A.in1.in1.in1.handled = none := by simp [calm]
        have sz1 : (s.heap.push (bareSet w)).objs.size = s.heap.objs.size + 1 := Heap.size_push ..
        have neI : L ≠ (s.heap.push (bareSet w)).objs.size := by
          rw [sz1]
          exact Nat.ne_of_lt (Nat.lt_succ_of_lt lt)
        have neS : s.heap.objs.size ∉ [(s.heap.push (bareSet w)).objs.size, L] := by
          rw [sz1]
          simp only [List.mem_cons, List.not_mem_nil, or_false, not_or]
          exact ⟨Nat.ne_of_lt (Nat.lt_succ_self _), Nat.ne_of_gt lt⟩
        have what : ∀ (i : Nat) (v : Value), items[i]? = some v → ∃ k t, ks[i]? = some k ∧ v = .str k t := fun i v hv => by
          have hi : i < ks.length := by rw [← size]; exact (Array.getElem?_eq_some_iff.mp hv).1
          obtain ⟨t, e⟩ := SS.strs_at ts i v (by rw [Array.getElem?_toList]; exact hv)
          refine ⟨ks[i], t, List.getElem?_eq_getElem hi, ?_⟩
          rw [e, List.getD_eq_getElem?_getD, List.getElem?_eq_getElem hi] <;> rfl
        refine put_all ((Walks.list calm3 _ L neI items).toS) neS ks size room what (items.size - 0) 0 _ (by omega) (Nat.zero_le _) ⟨⟨_, Heap.get?_push_size _ rfl, rfl, rfl⟩, (isL'.push _)⟩ ?first ?last
        case first => exact bare_at (Heap.get?_push_of_some _ at_S)
        case last =>
          intro s' mv has
          obtain ⟨h', g', d', t', o'⟩ := s'
          have eg : g' = s.gens := mv.gens
          have ed : d' = s.drawn := mv.drawn
          have eo : o' = s.os := mv.os
          subst eg
          subst ed
          subst eo
          show wpAny _ _ _ _ _ _
          refine wpAny_pure ?_
          show wpAny _ _ (ret Value.none) _ _ _
          refine wpAny_pure ⟨rfl, h', t', rfl, has, fun b o e => ?_⟩
          have lb := Heap.lt_size e
          refine mv.heap b o ?_ (Heap.get?_push_of_some _ (Heap.get?_push_of_some _ e))
          rw [sz1]
          simp only [List.mem_cons, List.not_mem_nil, or_false, not_or]
          exact ⟨Nat.ne_of_lt lb, Nat.ne_of_lt (Nat.lt_succ_of_lt lb)⟩
      · cases r2 with
        | error e => exact got2
        | ok fl2 =>
          cases fl2 with
          | ret r =>
            obtain ⟨rfl, h', tk, rfl, has, old⟩ := got2
            repeat (any_goals (first | assumption | wp_step))
            exact h _ _ has old
          | _ => exact got2.elim
    | _ => exact got.elim
end
section
variable {X : Cx}
/-- set(a list of texts) -/
def rSetOfS (K : PySem.W.Frag) (P : Program) (w : World) : List V → Hp → VK → Prop := fun vs H Q => ∃ (a : Addr) (ks : List Str), vs = [.ref a] ∧ SqL K H a (ks.map V.str) ∧ ks.length ≤ 1000 ∧ ∀ p, H p = none → Q (.ref p) (upd H p (SetSO P w p (once ks)))
theorem cr_setS (hc : X.calm = true) : CallR X (.type "set") (rSetOfS X.K X.prog X.w) := by
  intro pl s σ H vs us Q J r h
  obtain ⟨a, ks, rfl, hs, few, q⟩ := h
  obtain ⟨its, rv, isl, _⟩ := J.list hs
  rw [Vals.ref1 r]
  refine call_set_txts (P := X.prog) (w := X.w) ks (J.ok.hd hc) isl.isList (by simpa using strsAre_of rv) (by have : 1001 < scanBound := (by decide); omega) fun h' tk has old => ?_
  have free : H s.heap.objs.size = none := J.hok.fresh (Nat.le_refl _)
  exact ⟨.ref s.heap.objs.size, _, J.laid (t' := tk) old (Nat.le_refl _) (setS_ok has), rfl, q _ free⟩
end
end Lw

set_option Elab.async false
set_option linter.all false
set_option maxRecDepth 100000
/-! a def's promise where nothing is being shown (no guard of repr stands around): for laws that call repr -/
namespace Lw
open PySem PySem.Spec PyProof.Rows L2
structure FnG (P : Program) (w : World) (K : PySem.W.Frag) (mg : Str → Option Value) (base : Heap) (k : Nat) (f : Addr) (fd : FuncData) (ps : List Str) (sp : Sp) : Prop where
  few : ∀ vs H Q E, sp vs H Q E → vs.length = ps.length
  go : ∀ (A : Around) (outs : List Env) (st : Shared) (H : Hp) (ar : Args) (us : List Value) (vs : List V) (Q : VK) (E : XK), Room k A → A.guards = some [] → Env0 P w K mg base A outs st H → BindsTo st fd ar (ps.zip us) → Vals vs us →
    sp vs H Q E → codeAny (model P w) A (.call (.ref f) ar) (CR CX0 outs P w H st Q E) st
theorem FnG.of {P : Program} {w : World} {K : PySem.W.Frag} {mg : Str → Option Value} {base : Heap} {k : Nat} {f : Addr} {fd : FuncData} {ps : List Str} {sp : Sp} (F : FnOk P w K mg base CX0 k f fd ps sp) : FnG P w K mg base k f fd ps sp :=
  ⟨F.len, fun A outs st H ar us vs Q E hr _ he hb hv hs => F.run A outs st H ar us vs Q E hr he hb hv hs⟩
section
variable {P : Program} {w : World} {K : PySem.W.Frag} {mg : Str → Option Value} {base : Heap}
theorem fun_okG {x qual : Str} {dst : Stmt} {f : Addr} {fd : FuncData} {N ps : List Str} {k : Nat} {sp : Sp} (F : Fun K x qual dst f fd) (S : FnScope N ps (defScope dst)) (few : ∀ vs H Q E, sp vs H Q E → vs.length = ps.length)
    (body : ∀ (cdv : Value) (A : Around) (outs : List Env) (st : Shared) (H : Hp) (vs : List V) (Q : VK) (E : XK), Room k (A.deeper (envOfC qual (defScope dst) st.heap.objs.size f cdv)) → A.guards = some [] → sp vs H Q E →
      ∃ t, PSs (cxOf CX0 P w K mg base N qual (defScope dst) f cdv A outs st H E).nox (defBody dst) t ∧ t { nx := fun _ H' => Q .non H', rt := Q } (L2.start N vs) H) : FnG P w K mg base (k + 1) f fd ps sp := by
  obtain ⟨oc, od, kV, doc, pm, an, cdv, ct, osl, rfl, lk, hcd⟩ := F.ex
  refine ⟨few, fun A outs st H ar us vs Q E room hg ev hb hv hsp => ?_⟩
  have lenV := few _ _ _ _ hsp
  have kin : K.In st.heap := ev.mod.kin.keeps fun c o e => (ev.bs c o e).1
  have nl : st.heap.NoLimit := ev.mod.nolimit.keeps fun c o e => (ev.bs c o e).1
  have kinds : ∀ y ∈ ps.zip us, (defScope dst).names.lookup y.1 = some .local ∨ ((defScope dst).names.lookup y.1 = some .cell ∧ ((cellsFrom (st.heap.objs.size + 1) (defScope dst).names []).lookup y.1).isSome = true) := by
    rintro ⟨n, v⟩ hy
    rcases S.par n (List.of_mem_zip hy).1 with z | z
    · exact .inl z
    · exact .inr ⟨z, PySem.W.cellsFrom_some _ _ _ (.inl z)⟩
  refine codeAny_call_function room.depth (kin _ _ lk) rfl S.co S.gen rfl (PySem.W.codeRec_of kin hcd) (hb _ _ _ _ ?_)
  refine wpAny_newFunctionEnv_cells S.kind kinds fun ev1 he st1 ic => ?_
  subst he
  refine ⟨nl.keeps ic.toInCall.keep, codeAny_func ?_⟩
  obtain ⟨t, ht, hq⟩ := body cdv A outs st H vs Q E (room.deeper _) hg hsp
  have I : Inv (cxOf CX0 P w K mg base N qual (defScope dst) f cdv A outs st H E) [] (L2.start N vs) H st1 := inv_start S room.hd ev lenV hv ic
  refine wpAny_mono (ht.nox.run [] st1 (L2.start N vs) H _ I hq) (fun fl st' hs => ?_) fun e st' hs => hs
  have back : ∀ {σ' : L2.St} {H' : Hp} {v : V} {u : Value}, Inv (cxOf CX0 P w K mg base N qual (defScope dst) f cdv A outs st H E) [] σ' H' st' → RelV v u → Q v H' → CE outs P w H st Q u st' := by
    intro σ' H' v u J rv q
    exact ⟨v, H', J.os, J.bare, J.base, J.hok, rv, q⟩
  cases fl with
  | ret u =>
    obtain ⟨v, σ', H', J, rv, q⟩ := hs
    exact back J rv q
  | next =>
    obtain ⟨σ', H', J, q⟩ := hs
    exact back (v := V.non) (u := Value.none) J rfl q
  | brk => exact hs.elim fun _ h => h.elim fun _ h => False.elim h.2
  | cont => exact hs.elim fun _ h => h.elim fun _ h => False.elim h.2
end
section
variable {X : Cx} {k : Nat} {f : Addr} {fd : FuncData} {ps : List Str} {sp : Sp} {E : XK} {x : Str} {p pos : Pos} {e : Expr} {es : List Expr} {t : TA}
theorem pe_callG (F : FnG X.prog X.w X.K X.mg X.base k f fd ps sp) (hr : Room k X.A) (hgd : X.A.guards = some []) (hg : Gl X x) (hm : X.mg x = some (.ref f)) (hk : PySem.W.keepIn X.K (.ref f) = true) (hb : Binds X.K fd ps []) (hx : Passes CX0 X E) (ha : PA X (e :: es) t)
    (hdb : (x == ("__debug__" : Str)) = false := by decide) (he : starEach (e :: es) X.env = (false, eval e X.env) :: starEach es X.env := by rfl) (hpl : (backTo pos (starEach es X.env)).any (·.1) = false := by rfl) :
    PE X (.Call (.Name x p) (e :: es) [] pos) (tCall sp [] E t) := by
  refine ⟨fun pins st σ H Q I h => wpAny_Call_Name_kw (ld_glob I hg hm ?_ hdb)⟩
  refine PySem.W.callWith_K (h₀ := X.base) I.ok.mod.kin hk (thn (ha.run pos pins st σ H _ I h) fun us st1 got => ?_) he hpl
  obtain ⟨vs, H1, I1, r, q⟩ := got
  refine ⟨I1.kIn, ?_⟩
  have q' : sp vs H1 Q E := by rw [List.append_nil] at q; exact q
  have le : us.length = ps.length := by rw [← r.length]; exact F.few _ _ _ _ q'
  have bi := hb st1 us I1.kIn (by rw [List.append_nil]; exact le)
  rw [List.append_nil] at bi
  refine wpAny_call (codeAny_mono (F.go X.A X.stack st1 H1 ⟨us, []⟩ us vs Q E hr hgd I1.env0 bi r q') fun res st2 hq => ?_)
  cases res with
  | error er => exact hx pins σ H1 st1 er st2 I1 hq
  | ok fl =>
    cases fl with
    | ret u => exact I1.after hq
    | next => exact hq.elim
    | brk => exact hq.elim
    | cont => exact hq.elim
end

/-! ### the law's own call -/
section
variable {P : Program} {w : World} {K : PySem.W.Frag} {mg mb : Str → Option Value} {k : Nat} {fa a : Addr} {fd : FuncData} {x : Str} {sp : Sp} {st : Shared} {vs : List Value} {ns : List Int}
/-- the script's own object -/
abbrev scriptObj (vs : List Value) : Obj := { cls := .type "list", data := .seq vs.toArray }
abbrev LawEnd (st : Shared) (r : Result) (st' : Shared) : Prop := r = .ok (.ret (.bool true)) ∧ OldK st.heap st'.heap ∧ st'.os = st.os ∧ AllBare st'.gens
theorem law_from (kin : K.In st.heap) (gns : st.heap.Ns mainGlobals mg) (bns : st.heap.Ns builtinsNs mb) (bbs : ∀ y : Str, y ≠ "__name__" → mb y = bootBuiltins y) (nl : st.heap.NoLimit) (gn : st.gens = #[])
    (so : st.heap.get? a = some (scriptObj vs)) (room : Room k callerA) (sm : ∃ mm, st.heap.Ns sysModules mm) (F : ∀ base : Heap, K.In base → base.Ns mainGlobals mg → (∃ o, base.get? sysModules = some o) → FnG P w K mg base k fa fd [x] sp) (bd : ∀ (z : Shared) (u : Value), BindsTo z fd ⟨[u], []⟩ [(x, u)])
    (G : Hp) (only : Only G) (hok : HOk P w G st.heap) (atA : ∀ c, G c ≠ none → c = a) (nk : G a ≠ none → K.lookup a = none) (hsp : sp [.ref a] G (fun v _ => v = .bl true) fun _ _ _ => False) :
    codeAny (model P w) callerA (.call (.ref fa) ⟨[.ref a], []⟩) (LawEnd st) st := by
  have hid : ∀ {c : Addr} {o : Obj}, st.heap.get? c = some o → G c = none → (hidT st.heap G).get? c = some o := fun e n => hidT_get e n
  have free : ∀ {c : Addr} {o : Obj}, st.heap.get? c = some o → (c = a → False) → G c = none := by
    intro c o _ ne
    cases q : G c with
    | none => rfl
    | some u => exact (ne (atA c (by rw [q]; exact fun z => nomatch z))).elim
  have nsk : ∀ {c : Addr} {m : Str → Option Value}, st.heap.Ns c m → (hidT st.heap G).Ns c m := by
    rintro c m ⟨o, es, ep, e, d, r⟩
    refine ⟨o, es, ep, hid e (free e fun z => ?_), d, r⟩
    rw [z, so] at e
    cases e
    have d' : Data.seq vs.toArray _ = Data.dict es ep := d
    cases d'
  have kb : K.In (hidT st.heap G) := by
    intro c o e
    refine hid (kin c o e) ?_
    cases q : G c with
    | none => rfl
    | some u =>
      have ca := atA c (by rw [q]; exact fun z => nomatch z)
      rw [ca] at q e
      rw [nk (by rw [q]; exact fun z => nomatch z)] at e
      cases e
  have md : Mod K mg (hidT st.heap G) := by
    obtain ⟨mc, h1, h2⟩ := nl
    exact ⟨kb, nsk gns, ⟨mb, nsk bns, bbs⟩, ⟨mc, nsk h1, h2⟩⟩
  have ev : Env0 P w K mg (hidT st.heap G) callerA [] st G := ⟨rfl, md, fun c o e => of_hidT e, Nat.le_of_eq (hidT_size _ _), trivial, fun c hc => (List.not_mem_nil hc).elim, hok, .of_eq gn⟩
  refine codeAny_mono ((F _ kb (nsk gns) (sm.elim fun mm h => (nsk h).elim fun o h => h.elim fun es h => h.elim fun ep h => ⟨o, h.1⟩)).go callerA [] st G ⟨[.ref a], []⟩ [.ref a] [.ref a] _ _ room rfl ev (bd st (.ref a)) (.cons rfl .nil) hsp) fun r st' h => ?_
  cases r with
  | error er => exact False.elim h
  | ok fl =>
    cases fl with
    | ret u =>
      obtain ⟨v, G', os, bare, un, hok', rv, q⟩ := h
      have q' : v = .bl true := q
      subst q'
      obtain rfl : u = Value.bool true := rv
      refine ⟨rfl, OldK.of_keep fun c o e => ?_, os, bare⟩
      cases q : G c with
      | none => exact un.keep c o e q List.not_mem_nil List.not_mem_nil
      | some u =>
        rcases only c with z | ⟨ob, xs, z⟩
        · rw [q] at z
          cases z
        · obtain ⟨e1, _⟩ := hok c _ z
          obtain ⟨e2, _⟩ := hok' c _ (un.frzs c ob _ z)
          rw [e] at e1
          cases e1
          exact e2
    | next => exact False.elim h
    | brk => exact False.elim h
    | cont => exact False.elim h
theorem law_callG (kin : K.In st.heap) (gns : st.heap.Ns mainGlobals mg) (bns : st.heap.Ns builtinsNs mb) (bbs : ∀ y : Str, y ≠ "__name__" → mb y = bootBuiltins y) (nl : st.heap.NoLimit) (gn : st.gens = #[])
    (so : st.heap.get? a = some (scriptObj vs)) (hi : IntsAre vs ns) (hl : ns.length ≤ sizeLine) (room : Room k callerA) (sm : ∃ mm, st.heap.Ns sysModules mm) (F : ∀ base : Heap, K.In base → base.Ns mainGlobals mg → (∃ o, base.get? sysModules = some o) → FnG P w K mg base k fa fd [x] sp)
    (bd : ∀ (z : Shared) (u : Value), BindsTo z fd ⟨[u], []⟩ [(x, u)]) (hsp : ∀ G : Hp, Only G → SqL K G a (ns.map V.int) → sp [.ref a] G (fun v _ => v = .bl true) fun _ _ _ => False) :
    codeAny (model P w) callerA (.call (.ref fa) ⟨[.ref a], []⟩) (LawEnd st) st := by
  have rv := vals_ints hi
  have lenV := hi.length
  cases hk : K.lookup a with
  | none =>
    have at1 : (fun c => if c = a then some (HO.frz (scriptObj vs) (.lst (ns.map V.int))) else none : Hp) a = some (.frz (scriptObj vs) (.lst (ns.map V.int))) := if_pos rfl
    have at2 : ∀ {c : Addr}, c ≠ a → (fun c => if c = a then some (HO.frz (scriptObj vs) (.lst (ns.map V.int))) else none : Hp) c = none := fun n => if_neg n
    generalize (fun c => if c = a then some (HO.frz (scriptObj vs) (.lst (ns.map V.int))) else none : Hp) = G at at1 at2
    have on : Only G := fun c => if h : c = a then .inr ⟨scriptObj vs, ns.map V.int, by rw [h]; exact at1⟩ else .inl (at2 h)
    refine law_from kin gns bns bbs nl gn so room sm F bd G on (fun c u z => ?_) (fun c z => ?_) (fun _ => hk) (hsp G on (.inl (.inr ⟨_, at1⟩)))
    · by_cases hc : c = a
      · rw [hc, at1] at z
        cases z
        rw [hc]
        exact ⟨so, by rw [List.length_map]; exact hl, vs, _, rv, so⟩
      · rw [at2 hc] at z
        cases z
    · by_cases hc : c = a
      · exact hc
      · exact absurd (at2 hc) z
  | some o =>
    have e := kin a o hk
    rw [so] at e
    cases e
    have on : Only (fun _ => none) := fun _ => .inl rfl
    exact law_from kin gns bns bbs nl gn so room sm F bd (fun _ => none) on (fun c u z => nomatch z) (fun c z => (z rfl).elim) (fun z => (z rfl).elim)
      (hsp _ on (.inr ⟨_, vs.toArray, _, hk, rfl, rfl, rfl, by rw [List.size_toArray, lenV]; exact hl, by simpa using rv⟩))
end
/-- the end of a law row, from the law's promise where nothing is being shown -/
theorem walkG {l : PySem.W.OpenLaw} {n k : Nat} {q : Program} {loose : List Str} {XP : (Str → Option Value) → Heap → Prop} {YP : World → Heap → Prop} {d : DefRec} {K : Params → PySem.W.Frag} {sp : PySem.W.Frag → Sp} {x : Str}
    (hn : l.most = some n) (hn2 : n ≤ sizeLine) (hdf : d.params.defaults = []) (hin : PyProof.Rows.importsNone q = true) (room : Room k callerA) (hY : ∀ (w : World) (h : Heap), YP w h → (K w.params).In h)
    (F : ∀ (w : World) (mg : Str → Option Value) (fa : Addr) (h : Heap), (K w.params).In h → h.Ns mainGlobals mg → mg d.name = some (.ref fa) →
      ∃ fd : FuncData, (∀ (z : Shared) (u : Value), BindsTo z fd ⟨[u], []⟩ [(x, u)]) ∧ ∀ base : Heap, (K w.params).In base → base.Ns mainGlobals mg → (∃ o, base.get? sysModules = some o) → FnG l.prog w (K w.params) mg base k fa fd [x] (sp (K w.params)))
    (hsp : ∀ (K : PySem.W.Frag) (G : Hp) (a : Addr) (ns : List Int), ns.length ≤ n → Only G → SqL K G a (ns.map V.int) → sp K [.ref a] G (fun v _ => v = .bl true) fun _ _ _ => False) :
    PySem.W.WalkO q loose XP YP l.row.toRowW d [] (fun f vs => PySem.call f vs) := by
  refine Att.attach_call hn hdf fun w s0 s1 mg mb fa o pm cd doc a vs ns G Y ho hd hcd hmg hobj hints hlen hg => ?_
  obtain ⟨fd, bd, hF⟩ := F w mg fa _ (hY w _ Y) G.T.g hmg
  exact law_callG (hY w _ Y) G.T.g G.T.b G.T.builtins G.T.nolimit hg hobj hints (Nat.le_trans hlen hn2) room (let ⟨mm, h, _⟩ := (G.T.seer hin).mods; ⟨mm, h⟩) hF bd fun H hO hS => hsp (K w.params) H a ns hlen hO hS
end Lw

set_option Elab.async false
set_option linter.all false
set_option maxRecDepth 100000
set_option maxHeartbeats 4000000
/-! repr of lists, tuples and dicts of texts -/
namespace Lw
open PySem PySem.Spec PyProof.Rows L2
mutual
/-- what a value shows: in a heap of a proof -/
inductive DX (H : Hp) : V → PyData → Prop
  | non : DX H .non .none
  | bl (b : Bool) : DX H (.bl b) (.bool b)
  | str (x : Str) : DX H (.str x) (.str x)
  | lst {a : Addr} {xs : List V} {ds : List PyData} (e : H a = some (.lst xs)) (d : DXs H xs ds) : DX H (.ref a) (.list ds)
  | tup {a : Addr} {xs : List V} {ds : List PyData} (e : H a = some (.tup xs)) (d : DXs H xs ds) : DX H (.ref a) (.tuple ds)
  | dct {a : Addr} {kvs : List (Key × V)} {kds : List (Str × PyData)} (e : H a = some (.dK kvs)) (k : kvs.map (·.1) = kds.map fun p => Sum.inr p.1) (d : DXs H (kvs.map (·.2)) (kds.map (·.2))) : DX H (.ref a) (.dict (kds.map fun p => (.str p.1, p.2)))
inductive DXs (H : Hp) : List V → List PyData → Prop
  | nil : DXs H [] []
  | cons {v : V} {vs : List V} {d : PyData} {ds : List PyData} (a : DX H v d) (b : DXs H vs ds) : DXs H (v :: vs) (d :: ds)
end
section
variable {X : Cx} {pl : List (Addr × Obj)} {σ : L2.St} {H : Hp} {s : Shared}
def Tracked (H : Hp) (as : List Addr) : Prop := ∀ b ∈ as, ∃ o, H b = some o
theorem keys_read {knd : Key → Value → Bool} {h : Heap} : ∀ {es : List DictEntry} {vs : List (Key × Value)} {kds : List (Str × PyData)}, PySem.Pairs (mixKind X.prog X.w) es vs → vs.map (·.1) = kds.map (fun p => Sum.inr p.1) →
    ReadsAll h (es.map (·.key)) ((kds.map fun p => (PyData.str p.1, p.2)).map (·.1)) [] ∧ es.map (·.val) = vs.map (·.2) := by
  intro es vs kds p
  induction p generalizing kds with
  | nil =>
    intro e
    cases kds with
    | nil => exact ⟨.nil, rfl⟩
    | cons _ _ => cases e
  | @cons en kv es vs a b _ ih =>
    intro e
    cases kds with
    | nil => cases e
    | cons kd kds =>
      obtain ⟨e1, e2⟩ := List.cons.inj e
      obtain ⟨r1, r2⟩ := ih e2
      have a : keyIs kv.1 en.key = true := a
      have e1 : kv.1 = Sum.inr kd.1 := e1
      rw [e1] at a
      have z : ∃ t, en.key = .str kd.1 t := by
        cases hk : en.key with
        | str x t =>
          rw [hk] at a
          have a : Value.isStrOf kd.1 (Value.str x t) = true := a
          have : x = kd.1 := by simpa [Value.isStrOf] using a
          exact ⟨t, by rw [this]⟩
        | _ => rw [hk] at a; cases a
      obtain ⟨t, z⟩ := z
      refine ⟨?_, by rw [List.map_cons, List.map_cons, b, r2]⟩
      have q := ReadsAll.cons (Reads.str (h := h) kd.1 t) r1
      rw [List.nil_append] at q
      rw [List.map_cons, z]
      exact q
theorem kv_keys {kvs : List (Key × V)} {vs : List (Key × Value)} (kv : KV kvs vs) : vs.map (·.1) = kvs.map (·.1) := by
  unfold KV at kv
  induction kv with
  | nil => rfl
  | cons x _ ih => rw [List.map_cons, List.map_cons, ih, x.1]
theorem kv_vals {kvs : List (Key × V)} {vs : List (Key × Value)} (kv : KV kvs vs) : Vals (kvs.map (·.2)) (vs.map (·.2)) := by
  unfold KV at kv
  induction kv with
  | nil => exact .nil
  | cons x _ ih => exact .cons x.2 ih
mutual
theorem DX.reads (J : Inv X pl σ H s) : ∀ {v : V} {d : PyData}, DX H v d → ∀ {u : Value}, RelV v u → ∃ as, Reads s.heap u d as ∧ Tracked H as
  | _, _, .non, u, r => ⟨[], by cases (show u = Value.none from r); exact .none, fun b hb => absurd hb (by simp)⟩
  | _, _, .bl b, u, r => ⟨[], by cases (show u = Value.bool b from r); exact .bool b, fun b hb => absurd hb (by simp)⟩
  | _, _, .str x, u, r => ⟨[], by obtain ⟨t, rfl⟩ := (show ∃ t, u = Value.str x t from r); exact .str x t, fun b hb => absurd hb (by simp)⟩
  | _, _, @DX.lst _ a xs ds e d, u, r => by
    cases (show u = Value.ref a from r)
    obtain ⟨_, its, n, rv, ob⟩ := J.hok a _ e
    obtain ⟨as, q, t⟩ := DXs.reads J d rv
    exact ⟨a :: as, .list ob rfl rfl (by simpa using q), fun b hb => (List.mem_cons.mp hb).elim (fun z => ⟨_, z ▸ e⟩) (t b)⟩
  | _, _, @DX.tup _ a xs ds e d, u, r => by
    cases (show u = Value.ref a from r)
    obtain ⟨_, its, rv, o, h1, h2, n, h3⟩ := (show ObjOk X.prog X.w H s.heap a (.tup xs) from J.hok a _ e)
    obtain ⟨as, q, t⟩ := DXs.reads J d rv
    exact ⟨as, .tuple h1 h2 h3 (by simpa using q), t⟩
  | _, _, @DX.dct _ a kvs kds e k d, u, r => by
    cases (show u = Value.ref a from r)
    obtain ⟨_, _, vs, kv, o, es, ep, h1, h2, h3, _, h4, _⟩ := (show ObjOk X.prog X.w H s.heap a (.dK kvs) from J.hok a _ e)
    have kk := kv_keys kv
    have vv := kv_vals kv
    obtain ⟨r1, r2⟩ := keys_read (X := X) (knd := keyIs) (h := s.heap) h4 (kk.trans k)
    obtain ⟨as, q, t⟩ := DXs.reads J d vv
    have q' : ReadsAll s.heap (es.toList.map (·.val)) ((kds.map fun p => (PyData.str p.1, p.2)).map (·.2)) as := by
      rw [r2, List.map_map]
      exact q
    exact ⟨a :: [] ++ as, .dict h1 h2.1 h3 r1 q', fun b hb => (List.mem_cons.mp hb).elim (fun z => ⟨_, z ▸ e⟩) (t b)⟩
theorem DXs.reads (J : Inv X pl σ H s) : ∀ {vs : List V} {ds : List PyData}, DXs H vs ds → ∀ {us : List Value}, Vals vs us → ∃ as, ReadsAll s.heap us ds as ∧ Tracked H as
  | _, _, .nil, _, .nil => ⟨[], .nil, fun b hb => absurd hb (by simp)⟩
  | _, _, .cons a b, _, .cons x y => by
    obtain ⟨as, q1, t1⟩ := DX.reads J a x
    obtain ⟨bs, q2, t2⟩ := DXs.reads J b y
    exact ⟨as ++ bs, .cons q1 q2, fun c hc => (List.mem_append.mp hc).elim (t1 c) (t2 c)⟩
end
/-- repr(x) -/
def rRepr : List V → Hp → VK → Prop := fun vs H Q => ∃ (a : Addr) (d : PyData), vs = [.ref a] ∧ DX H (.ref a) d ∧ d.showable = true ∧ d.depth ≤ 40 ∧ d.shown.length ≤ sizeLine ∧ Q (.str d.shown) H
theorem call_repr (hg : X.A.guards = some []) (hu : X.A.units + 64 < cLine) (hs : ∃ o, X.base.get? sysModules = some o) : CallR X (.builtin "repr") rRepr := by
  intro pl s σ H vs us Q J r h
  obtain ⟨a, d, rfl, dx, sh, dp, sz, q⟩ := h
  rw [Vals.ref1 r]
  obtain ⟨as, rd, tr⟩ := DX.reads J dx (u := .ref a) rfl
  obtain ⟨o, eo⟩ := hs
  obtain ⟨e0, n0⟩ := J.ok.bs _ _ eo
  have none0 : H sysModules = none := J.base.free _ _ e0 n0 (J.ok.noex _ _ eo)
  refine repr_of_reads' rd sh (fun _ hm => ?_) hg (by omega) (fun _ _ z => z) (fun h' u tk k => ⟨.str d.shown, H, J.kept (t' := tk) k, ⟨u, rfl⟩, q⟩) sz
  obtain ⟨o2, e2⟩ := tr _ hm
  rw [none0] at e2
  cases e2
end
end Lw

set_option Elab.async false
set_option linter.all false
set_option maxRecDepth 100000
set_option maxHeartbeats 4000000
namespace Lw
open PySem PySem.Spec PyProof.Rows L2
def topS (i : Nat) : Stmt := PySem.Challenge.pw_endchecks_k13_tests_met.main.body.getD i (.Pass ⟨0, 0, 0, 0⟩)
abbrev sBag : Stmt := topS 8
abbrev sTake : Stmt := topS 9
section
variable {P : Program} {w : World} {K : PySem.W.Frag} {mg : Str → Option Value} {base : Heap}
theorem scBag : FnScope ["_law_script", "_law_cell"] ["_law_script"] (defScope sBag) := ⟨rfl, rfl, rfl, by decide +kernel, rfl, by decide +kernel, by decide +kernel⟩
theorem ok_bag {f : Addr} {fd : FuncData} (F : Fun K "_law_bag" "_law_bag" sBag f fd) (mabs : mg "abs" = none) : FnOk P w K mg base CX0 1 f fd ["_law_script"] (spBag K) := by
  refine F.ok scBag (fun vs H Q E h => ?_) (fun cdv A outer s H vs Q E hr h => ?_)
  · obtain ⟨a, ns, rfl, _⟩ := h
    rfl
  obtain ⟨a, ns, rfl, hS, h63, k⟩ := h
  refine ⟨_, pss_one (ps_ret (pe_lst (pa_cons pe_int (pa_cons pe_int (pa_cons pe_int (pa_cons
    (pe_lc (own := [("_law_cell", 1)]) (g := gName 1) (tt := tYes) rfl scBag.nd (pi_list (pe_slice sl_list (pv 0) po_none (po_some pe_int))) (blkOk_by (N := ["_law_script", "_law_cell"]) (sc := defScope sBag) (by decide +kernel))
      (fun _ _ _ _ _ => pg_name (i := 1) scBag.nd rfl (Or.inl rfl)) (fun _ _ _ _ _ => pts_nil) (fun _ _ _ _ _ => pe_callB call_abs (by rfl) mabs (by decide +kernel) (pa_cons (pv 1) pa_nil))) pa_nil)))))), ?_⟩
  refine ⟨.ref a, rfl, 63, rfl, a, ns.map V.int, rfl, hS, fun p hp => ?_⟩
  have s1 : Same H (upd H p (.lst (cutV (ns.map V.int) none (some 63)))) := same_new hp _
  obtain ⟨ms, hms, hml⟩ : ∃ ms : List Int, cutV (ns.map V.int) none (some 63) = ms.map V.int ∧ ms.length ≤ 63 := cut_ints ns h63
  rw [hms] at s1 ⊢
  refine ⟨p, rfl, ⟨_, .inl (.inl upd_same)⟩, fun D nD => ?_⟩
  have nDp : p ≠ D := ne_of_none (upd_same (H := H)) nD
  refine lc_list (K := K) (a := p) (xs := ms.map V.int) (fun i H1 => Same H H1 ∧ H1 p = some (.lst (ms.map V.int)) ∧ ∃ cs : List Int, H1 D = some (.lst (cs.map V.int)) ∧ cs.length ≤ i)
    ⟨fun c o q => by rw [upd_ne (ne_of_none (s1 c o q) nD)]; exact s1 c o q, by rw [upd_ne nDp]; exact upd_same, [], upd_same, Nat.le_refl _⟩ (fun i H1 _ q => .inl (.inl q.2.1)) ?_ ?_
  · rintro i x H1 hx ⟨s2, h2, cs, h3, h4⟩
    obtain ⟨z, hz, rfl⟩ := map_get hx
    have hil : i < ms.length := (List.getElem?_eq_some_iff.mp hz).1
    refine ⟨rfl, yes_if ?_⟩
    refine ⟨.int z, rfl, z, rfl, cs.map V.int, h3, by rw [List.length_map]; exact small1000 (by omega), fun c o q => ?_, ?_, cs ++ [if z < 0 then -z else z], ?_, ?_⟩
    · have n1 : c ≠ D := ne_of_none q (s1.free nD)
      rw [upd_ne n1]
      exact s2 c o q
    · rw [upd_ne nDp]
      exact h2
    · rw [upd_same, List.map_append]
      rfl
    · rw [List.length_append]
      exact Nat.add_le_add_right h4 1
  · rintro H1 ⟨s2, h2, cs, h3, h4⟩
    rw [List.length_map] at h4
    refine ⟨small (by show 4 ≤ 1000; decide), fun b nb => ?_⟩
    refine k b D _ (s2.free nb) (s1.free nD) ⟨0, 1234567891, 0, cs, upd_same, ?_, by omega⟩ ?_
    · rw [upd_ne (ne_of_none h3 nb)]
      exact h3
    · exact s2.trans (same_new nb _)
abbrev NTake : List Str := ["_law_bag_here", "_law_many", "_law_cell", "_law_mixed", "_law_drawn", "_law_early", "_law_second"]
theorem scTake : FnScope NTake ["_law_bag_here", "_law_many"] (defScope sTake) := ⟨rfl, rfl, rfl, by decide +kernel, rfl, by decide +kernel, by decide +kernel⟩
theorem ok_take {f : Addr} {fd : FuncData} (F : Fun K "_law_take" "_law_take" sTake f fd) (mint : mg "int" = none) : FnOk P w K mg base CX0 1 f fd ["_law_bag_here", "_law_many"] spTake := by
  refine F.ok scTake (fun vs H Q E h => ?_) (fun cdv A outer s H vs Q E hr h => ?_)
  · obtain ⟨a, c, ns, rfl, _⟩ := h
    rfl
  obtain ⟨b, c, m, rfl, ⟨x, y, z, ns, hb, hc, h63⟩, m0, m1, k⟩ := h
  have ncb : c ≠ b := bag_ne hb hc
  refine ⟨_, C8.pss_cut (ps_if (pt_cmpR op_eq (pe_ix ix_list (pv 0) pe_int (fun _ _ => rfl)) pe_int (nomark _))
      (pss_cons (ps_set (i := 2) scTake.nd rfl (Or.inl rfl) (pe_ix ix_list (pe_op op_cat (pe_slice sl_list (pe_ix ix_list (pv 0) pe_int (fun _ _ => rfl)) (po_some (pe_ix ix_list (pv 0) pe_int (fun _ _ => rfl))) po_none) (pe_lst (pa_cons pe_int pa_nil))) pe_int (fun _ _ => rfl)))
      (pss_cons (ps_augS (pv 0) pe_int get_list pe_int ip_add set_list)
      (pss_cons (ps_asg (pe_op op_mul (pv 2) (pe_callTy call_int1 (by rfl) mint (by decide +kernel) (pa_cons (pe_cmpR op_ge (pv 2) (pe_op op_pow pe_int pe_int) (nomark _)) pa_nil))) (pg_sub (pv 0) pe_int set_list))
      (pss_cons (ps_set (i := 3) scTake.nd rfl (Or.inl rfl) (pe_op op_add (pe_op op_add (pe_op op_mul (pe_ix ix_list (pv 0) pe_int (fun _ _ => rfl)) pe_int) (pe_op op_mod (pe_callTy call_int1 (by rfl) mint (by decide +kernel) (pa_cons (pv 2) pa_nil)) pe_int)) (pe_op op_mul pe_int (pe_ix ix_list (pv 0) pe_int (fun _ _ => rfl)))))
      (pss_one (ps_asg (pe_op op_mod (pe_callTy call_int1 (by rfl) mint (by decide +kernel) (pa_cons (pv 3) pa_nil)) pe_int) (pg_sub (pv 0) pe_int set_list))))))) pss_nil)
    (pss_cons (ps_if (pt_cmpR op_gt (pe_ix ix_list (pv 0) pe_int (fun _ _ => rfl)) pe_int (nomark _))
      (pss_cons (ps_asg (pe_tup (pa_cons (pe_op op_mod (pe_callTy call_int1 (by rfl) mint (by decide +kernel) (pa_cons (pe_ix ix_list (pv 0) pe_int (fun _ _ => rfl)) pa_nil)) (pv 1)) (pa_cons (pe_op op_fdiv (pe_callTy call_int1 (by rfl) mint (by decide +kernel) (pa_cons (pe_ix ix_list (pv 0) pe_int (fun _ _ => rfl)) pa_nil)) (pv 1)) pa_nil)))
          (pg_tup rfl (pgs_cons (pg_name (i := 4) scTake.nd rfl (.inl rfl)) (pgs_cons (pg_sub (pv 0) pe_int set_list) pgs_nil))))
      (pss_one (ps_ret (pv 4)))) pss_nil)
    (pss_cons (ps_set (i := 5) scTake.nd rfl (Or.inl rfl) (pe_op op_mod (pe_callTy call_int1 (by rfl) mint (by decide +kernel) (pa_cons (pe_op op_mul (pe_op op_add (pe_ix ix_list (pv 0) pe_int (fun _ _ => rfl)) pe_int) pe_int) pa_nil)) pe_int))
    (pss_cons (ps_set (i := 6) scTake.nd rfl (Or.inl rfl) (pe_op op_mod (pe_callTy call_int1 (by rfl) mint (by decide +kernel) (pa_cons (pe_op op_mul (pe_op op_mod (pe_callTy call_int1 (by rfl) mint (by decide +kernel) (pa_cons (pe_op op_mul (pv 5) (pv 5)) pa_nil)) pe_int) pe_int) pa_nil)) pe_int))
    (pss_one (ps_ret (pe_op op_mod (pe_callTy call_int1 (by rfl) mint (by decide +kernel) (pa_cons (pe_op op_fdiv (pv 6) pe_int) pa_nil)) (pv 1))))))), ?_⟩
  have atL : ∀ {H' : Hp} {x y z : Int}, H' b = some (.lst [.int x, .int y, .int z, .ref c]) → SqL K H' b [.int x, .int y, .int z, .ref c] := fun e => .inl (.inl e)
  refine ⟨fun σ H' => ∃ (x' y' z' : Int) (u v w2 : Option V), σ = [some (.ref b), some (.int m), u, v, none, none, none] ∧ H' b = some (.lst [.int x', .int y', .int z', .ref c]) ∧ But b H H', ?_, ?_⟩
  · refine ⟨.ref b, rfl, b, _, 0, _, rfl, rfl, atL hb, rfl, rfl, _, rfl, ?_⟩
    refine ite2 (fun _ => ?_) (fun _ => ?_)
    · refine ⟨.ref b, rfl, b, _, 3, _, rfl, rfl, atL hb, rfl, .ref b, rfl, b, _, 2, _, rfl, rfl, atL hb, rfl, z, rfl, c, _, rfl, .inl (.inl hc), fun p hp => ?_⟩
      refine ⟨small (by show 1 ≤ 1000; decide), fun q hq => ?_⟩
      have npq : p ≠ q := ne_of_none upd_same hq
      have ncut : (cutV (ns.map V.int) (some z) none).length ≤ 63 := Nat.le_trans (cutV_length _ _ _) (by rw [List.length_map]; exact h63)
      refine ⟨p, q, _, _, rfl, rfl, by rw [upd_ne npq, upd_same], upd_same, small (by rw [List.length_singleton]; omega), fun r hr' => ?_⟩
      obtain ⟨ce, hce⟩ : ∃ ce : Int, atI (cutV (ns.map V.int) (some z) none ++ [V.int 0]) (0 : Int) = some (.int ce) := by
        obtain ⟨ms, hms⟩ := cut_ints' ns (some z) none
        rw [hms]
        cases ms with
        | nil => exact ⟨0, rfl⟩
        | cons t ts => exact ⟨t, atI_nat (j := 0) rfl⟩
      refine ⟨r, _, 0, .int ce, rfl, rfl, .inl (.inl upd_same), hce, ?_⟩
      have nb1 := ne_of_none hb hp
      have hb1 : (upd H p (HO.lst (cutV (ns.map V.int) (some z) none))) b = some (.lst [.int x, .int y, .int z, .ref c]) := by rw [upd_ne nb1]; exact hb
      have nb2 := ne_of_none hb1 hq
      have hb2 := (upd_ne (o := HO.lst [V.int 0]) nb2).trans hb1
      have nb3 := ne_of_none hb2 hr'
      have hb3 := (upd_ne (o := HO.lst (cutV (ns.map V.int) (some z) none ++ [V.int 0])) nb3).trans hb2
      have B3 : But b H (upd (upd (upd H p (HO.lst (cutV (ns.map V.int) (some z) none))) q (HO.lst [V.int 0])) r (HO.lst (cutV (ns.map V.int) (some z) none ++ [V.int 0]))) := (((But.refl b H).new hp).new hq).new hr'
      -- bag[2] += 1
      refine ⟨.ref b, rfl, b, _, 2, .int z, rfl, rfl, by decide, atL hb3, rfl, z, 1, rfl, rfl, b, _, 2, 2, rfl, rfl, hb3, rfl, ?_⟩
      have hb4 : (upd (upd (upd (upd H p (HO.lst (cutV (ns.map V.int) (some z) none))) q (HO.lst [V.int 0])) r (HO.lst (cutV (ns.map V.int) (some z) none ++ [V.int 0]))) b (HO.lst ([V.int x, V.int y, V.int z, V.ref c].set 2 (V.int (z + 1))))) b = some (.lst [.int x, .int y, .int (z + 1), .ref c]) := upd_same
      have B4 := B3.set (o := HO.lst ([V.int x, V.int y, V.int z, V.ref c].set 2 (V.int (z + 1))))
      generalize (upd (upd (upd (upd H p (HO.lst (cutV (ns.map V.int) (some z) none))) q (HO.lst [V.int 0])) r (HO.lst (cutV (ns.map V.int) (some z) none ++ [V.int 0]))) b (HO.lst ([V.int x, V.int y, V.int z, V.ref c].set 2 (V.int (z + 1))))) = H4 at hb4 B4 ⊢
      -- bag[0] = cell * int(cell >= 10 ** 18)
      have small2 : ∀ k : Bool, -(2 ^ 64 : Int) < (if k = true then 1 else 0) ∧ (if k = true then (1 : Int) else 0) < 2 ^ 64 := by intro k; cases k <;> decide
      refine ⟨.int ce, rfl, .int ce, rfl, 10, 18, rfl, rfl, ⟨by decide, by decide, by decide⟩, ce, _, rfl, rfl, .inr ⟨_, rfl, ce, _, rfl, rfl, .inr (small2 _), .ref b, rfl, b, _, 0, 0, rfl, rfl, hb4, rfl, ?_⟩⟩
      dsimp only
      generalize (ce * if decide ((10 : Int) ^ (18 : Int).toNat ≤ ce) = true then 1 else 0) = x5
      have hb5 : (upd H4 b (HO.lst ([V.int x, V.int y, V.int (z + 1), V.ref c].set 0 (V.int x5)))) b = some (.lst [.int x5, .int y, .int (z + 1), .ref c]) := upd_same
      have B5 := B4.set (o := HO.lst ([V.int x, V.int y, V.int (z + 1), V.ref c].set 0 (V.int x5)))
      generalize (upd H4 b (HO.lst ([V.int x, V.int y, V.int (z + 1), V.ref c].set 0 (V.int x5)))) = H5 at hb5 B5 ⊢
      -- mixed = ..
      refine ⟨.ref b, rfl, b, _, 1, _, rfl, rfl, atL hb5, rfl, y, 48271, rfl, rfl, .inr ⟨by decide, by decide⟩, .int ce, rfl, .inl ⟨ce, rfl, ce, 2147483647, rfl, rfl, (by show (0 : Int) < 2147483647; decide), _, _, rfl, rfl, .ref b, rfl, b, _, 2, _, rfl, rfl, atL hb5, rfl, 7919, z + 1, rfl, rfl, .inl ⟨by decide, by decide⟩, _, _, rfl, rfl, ?_⟩⟩
      dsimp only
      generalize (y * 48271 + ce % 2147483647 + 7919 * (z + 1)) = mx
      -- bag[1] = int(mixed) % 2147483647
      refine ⟨.int mx, rfl, .inl ⟨mx, rfl, mx, 2147483647, rfl, rfl, (by show (0 : Int) < 2147483647; decide), .ref b, rfl, b, _, 1, 1, rfl, rfl, hb5, rfl, ?_⟩⟩
      exact ⟨x5, mx % 2147483647, z + 1, some (.int ce), some (.int mx), none, rfl, upd_same, B5.set⟩
    · exact ⟨x, y, z, none, none, none, rfl, hb, But.refl b H⟩
  · rintro σ H1 ⟨x', y', z', u, v, w2, rfl, hb1, B1⟩
    have hc1 : H1 c = some (.lst (ns.map V.int)) := B1 c _ hc ncb
    refine ⟨.ref b, rfl, b, _, 0, _, rfl, rfl, atL hb1, rfl, x', 0, rfl, rfl, _, rfl, ?_⟩
    refine ite2 (fun _ => ?_) (fun _ => ?_)
    · refine ⟨.ref b, rfl, b, _, 0, _, rfl, rfl, atL hb1, rfl, .inl ⟨x', rfl, .int m, rfl, x', m, rfl, rfl, m0, ?_⟩⟩
      refine ⟨.ref b, rfl, b, _, 0, _, rfl, rfl, atL hb1, rfl, .inl ⟨x', rfl, .int m, rfl, x', m, rfl, rfl, ⟨m0, by omega⟩, small (by show 2 ≤ 1000; decide), fun t nt => ?_⟩⟩
      have nbt : b ≠ t := ne_of_none hb1 nt
      have hb2 := (upd_ne (o := HO.tup [V.int (x' % m), V.int (x' / m)]) nbt).trans hb1
      refine ⟨t, _, rfl, .inl (.inl upd_same), rfl, .int (x' % m), [.int (x' / m)], rfl, .int (x' / m), [], rfl, .ref b, rfl, b, _, 0, 0, rfl, rfl, hb2, rfl, ⟨rfl, ?_⟩⟩
      refine ⟨.int (x' % m), rfl, k _ _ (Int.emod_nonneg _ (by omega)) (Int.emod_lt_of_pos _ m0) ⟨x' / m, y', z', ns, upd_same, ?_, h63⟩ (B1.new nt).set⟩
      rw [upd_ne ncb, upd_ne (ne_of_none hc1 nt)]
      exact hc1
    · refine ⟨.ref b, rfl, b, _, 1, _, rfl, rfl, atL hb1, rfl, y', 1, rfl, rfl, _, 39373, rfl, rfl, .inr ⟨by decide, by decide⟩, .inl ⟨_, rfl, _, 1000000007, rfl, rfl, (by show (0 : Int) < 1000000007; decide), ?_⟩⟩
      have e1 : 0 ≤ (y' + 1) * 39373 % 1000000007 := Int.emod_nonneg _ (by decide)
      have e2 : (y' + 1) * 39373 % 1000000007 < 1000000007 := Int.emod_lt_of_pos _ (by decide)
      dsimp only
      generalize (y' + 1) * 39373 % 1000000007 = ea at e1 e2 ⊢
      refine ⟨.int ea, rfl, .int ea, rfl, ea, ea, rfl, rfl, .inl ⟨by omega, by omega⟩, .inl ⟨_, rfl, _, 998244353, rfl, rfl, (by show (0 : Int) < 998244353; decide), _, 30011, rfl, rfl, .inr ⟨by decide, by decide⟩, .inl ⟨_, rfl, _, 998244353, rfl, rfl, (by show (0 : Int) < 998244353; decide), ?_⟩⟩⟩
      dsimp only
      generalize ea * ea % 998244353 * 30011 % 998244353 = sc
      refine ⟨.int sc, rfl, sc, 7, rfl, rfl, ⟨by decide, by decide⟩, .inl ⟨_, rfl, .int m, rfl, _, m, rfl, rfl, m0, ?_⟩⟩
      exact k _ _ (Int.emod_nonneg _ (by omega)) (Int.emod_lt_of_pos _ m0) ⟨x', y', z', ns, hb1, hc1, h63⟩ B1
end
end Lw

set_option Elab.async false
set_option linter.all false
set_option maxRecDepth 100000
set_option maxHeartbeats 4000000
namespace Lw
open PySem PySem.Spec PyProof.Rows L2
abbrev sNames : Stmt := topS 11
abbrev NNames : List Str := ["_law_bag_here", "_law_many", "_law_letters", "_law_found", "_law_words", "_law_k", "_law_signs", "_law_at", "_law_rest", "_law_some", "_law_turn", "_law_one"]
section
variable {P : Program} {w : World} {K : PySem.W.Frag} {mg : Str → Option Value} {base : Heap}
theorem scNames : FnScope NNames ["_law_bag_here", "_law_many"] (defScope sNames) := ⟨rfl, rfl, rfl, by decide +kernel, rfl, by decide +kernel, by decide +kernel⟩
def spNames : Sp := fun vs H Q _ => ∃ (b c : Addr) (n : Int), vs = [.ref b, .int n] ∧ BagAt H b c ∧ 0 ≤ n ∧ n ≤ 20 ∧
  ∀ (p : Addr) (zs : List Str) (H' : Hp), (zs.length : Int) = n → zs.Nodup → (∀ z ∈ zs, NameOk z) → H' p = some (.lst (zs.map V.str)) → H p = none → BagAt H' b c → But b H H' → Q (.ref p) H'
theorem ok_names {f fT : Addr} {fd fdT : FuncData} (F : Fun K "_law_names" "_law_names" sNames f fd) (G : FnOk P w K mg base CX0 1 fT fdT ["_law_bag_here", "_law_many"] spTake) (mT : mg "_law_take" = some (.ref fT)) (kT : PySem.W.keepIn K (.ref fT) = true)
    (bT : Binds K fdT ["_law_bag_here", "_law_many"] []) (mrange : mg "range" = none) (mint : mg "int" = none) : FnOk P w K mg base CX0 2 f fd ["_law_bag_here", "_law_many"] spNames := by
  refine F.ok scNames (fun vs H Q E h => ?_) (fun cdv A outer s H vs Q E hr h => ?_)
  · obtain ⟨a, c, ns, rfl, _⟩ := h
    rfl
  obtain ⟨b, c, n, rfl, hb, n0, n1, k⟩ := h
  refine ⟨_, pss_cons (ps_asg (pe_tup (pa_cons pe_str (pa_cons (pe_lst pa_nil) pa_nil))) (pg_tup rfl (pgs_cons (pg_name (i := 2) scNames.nd rfl (.inr rfl)) (pgs_cons (pg_name (i := 3) scNames.nd rfl (.inr rfl)) pgs_nil))))
    (pss_cons (ps_set (i := 4) scNames.nd rfl (.inl rfl) (pe_split pe_str pe_str))
    (pss_cons (ps_for PassesOwn.never rfl (pi_range1 (by rfl) mrange (pa_cons (pv 1) pa_nil)) (pg_name (i := 5) scNames.nd rfl (.inl rfl))
      (pss_cons (ps_setLc (i := 6) (own := [("_law_turn", 10)]) (g := gName 10) (tt := tYes) rfl scNames.nd rfl rfl (sw_true rfl rfl rfl (by decide +kernel))
          (pi_range1 (by rfl) mrange (pa_cons (pe_ix ix_list (pe_lst (pa_cons pe_int (pa_cons pe_int (pa_cons pe_int (pa_cons pe_int pa_nil))))) (pe_call G hr (by rfl) mT kT bT .nil pass0 (pa_cons (pv 0) (pa_cons pe_int pa_nil))) (fun _ _ => rfl)) pa_nil))
          (blkOk_by (N := NNames) (sc := defScope sNames) (by decide +kernel)) (fun _ _ _ _ _ => pg_name (i := 10) scNames.nd rfl (Or.inl rfl)) (fun _ _ _ _ _ => pts_nil)
          (fun _ _ _ _ _ => pe_ix ix_str (pv 2) (pe_call G hr (by rfl) mT kT bT .nil pass0 (pa_cons (pv 0) (pa_cons pe_int pa_nil))) (fun _ _ => rfl)))
      (pss_cons (ps_asg (pe_tup (pa_cons (pe_m1 PySem.F.slot_str_index PySem.F.type_str_index mt_sindex (pv 2) (pe_ix ix_list (pv 6) pe_int (fun _ _ => rfl))) (pa_cons (pe_join pe_str (pe_slice sl_list (pv 6) (po_some pe_int) po_none)) pa_nil)))
          (pg_tup rfl (pgs_cons (pg_name (i := 7) scNames.nd rfl (.inl rfl)) (pgs_cons (pg_name (i := 8) scNames.nd rfl (.inr rfl)) pgs_nil))))
      (pss_cons (ps_set (i := 9) scNames.nd rfl (.inl rfl) (pe_op op_cat (pe_op op_rep (pe_slice sl_list (pv 4) (po_some (pv 7)) po_none) (pe_callTy call_int1 (by rfl) mint (by decide +kernel) (pa_cons (pe_cmpR op_eq (pe_call G hr (by rfl) mT kT bT .nil pass0 (pa_cons (pv 0) (pa_cons pe_int pa_nil))) pe_int (nomark _)) pa_nil)))
          (pe_lc (own := [("_law_one", 11)]) (g := gName 11) (tt := tYes) rfl scNames.nd (pi_str (pe_op op_add_str (pe_slice sl_str (pv 2) (po_some (pv 7)) po_none) (pe_slice sl_str (pv 2) po_none (po_some (pv 7))))) (blkOk_by (N := NNames) (sc := defScope sNames) (by decide +kernel))
            (fun _ _ _ _ _ => pg_name (i := 11) scNames.nd rfl (Or.inl rfl)) (fun _ _ _ _ _ => pts_nil) (fun _ _ _ _ _ => pe_op op_add_str (pv 11) (pv 8)))))
      (pss_one (ps_expr (pe_bm PySem.F.plainAttrs_list PySem.F.slot_list_append PySem.F.type_list_append mt_append (pv 3) (pa_cons
          (pe_ix ix_list (pe_lc (own := [("_law_one", 11)]) (g := gName 11) rfl scNames.nd (pi_list (pv 9)) (blkOk_by (N := NNames) (sc := defScope sNames) (by decide +kernel))
            (fun _ _ _ _ _ => pg_name (i := 11) scNames.nd rfl (Or.inl rfl)) (fun _ _ _ _ _ => pts_one (pt_cmpR (r := rIn K true) op_notIn_seq (pv 11) (pv 3) (by rfl))) (fun _ _ _ _ _ => pv 11)) pe_int (fun _ _ => rfl)) pa_nil))))))))
    (pss_one (ps_ret (pv 3))))), ?_⟩
  refine ⟨Nat.zero_le _, fun o no => ⟨small (by show 2 ≤ 1000; decide), fun t nt => ?_⟩⟩
  have no' : o ≠ t := ne_of_none upd_same nt
  refine ⟨t, _, rfl, .inl (.inl upd_same), rfl, .str LET, [.ref o], rfl, .ref o, [], rfl, ⟨rfl, ?_⟩⟩
  have ho1 : (upd (upd H o (.lst [])) t (.tup [.str LET, .ref o])) o = some (.lst []) := by rw [upd_ne no']; exact upd_same
  have s1 : Same H (upd (upd H o (.lst [])) t (.tup [.str LET, .ref o])) := (same_new no _).trans (same_new nt _)
  generalize (upd (upd H o (.lst [])) t (.tup [.str LET, .ref o])) = H1 at ho1 s1 ⊢
  refine ⟨⟨_, rfl⟩, WORDS, " ", rfl, rfl, by decide +kernel, by decide +kernel, fun wp nw => ?_⟩
  rw [split_words]
  have hw2 : (upd H1 wp (.lst (wordsL.map V.str))) wp = some (.lst (wordsL.map V.str)) := upd_same
  have now : o ≠ wp := ne_of_none ho1 nw
  have ho2 : (upd H1 wp (.lst (wordsL.map V.str))) o = some (.lst []) := by rw [upd_ne now]; exact ho1
  have s2 : Same H (upd H1 wp (.lst (wordsL.map V.str))) := s1.trans (same_new nw _)
  generalize (upd H1 wp (.lst (wordsL.map V.str))) = H2 at hw2 ho2 s2 ⊢
  have nob : o ≠ b := hb.nb no
  have noc : o ≠ c := hb.nc no
  have nwb : wp ≠ b := (hb.mono s1).nb nw
  refine ⟨.int n, rfl, n, rfl, by omega, by omega, for_range (lo := 0) (n := n.toNat) (fun i σ H3 => ∃ (zs : List Str) (v5 v6 v7 v8 v9 : Option V), σ = [some (.ref b), some (.int n), some (.str LET), some (.ref o), some (.ref wp), v5, v6, v7, v8, v9, none, none] ∧
      zs.length = i ∧ zs.Nodup ∧ (∀ z ∈ zs, NameOk z) ∧ H3 o = some (.lst (zs.map V.str)) ∧ H3 wp = some (.lst (wordsL.map V.str)) ∧ BagAt H3 b c ∧ But b H H3)
    ⟨[], none, none, none, none, none, rfl, rfl, List.nodup_nil, fun z hz => absurd hz List.not_mem_nil, ho2, hw2, hb.mono s2, But.of s2⟩ ?_ ?_⟩
  · rintro i σ H3 hi ⟨zs, v5, v6, v7, v8, v9, rfl, el, nd, ok, ho3, hw3, hb3, B3⟩
    refine ⟨small (by show 4 ≤ 1000; decide), fun l nl => ?_⟩
    have nlb : l ≠ b := hb3.nb nl
    have B4 : But b H3 (upd H3 l (.lst [.int 1, .int 2, .int 8, .int 4])) := (But.refl b H3).new nl
    refine ⟨.ref b, rfl, b, c, 4, rfl, hb3.new nl, by decide, by decide, fun r H4 r0 r1 hb4 B5 => ?_⟩
    obtain ⟨ln, hln, l1, l8⟩ := pick4 r0 r1
    refine ⟨l, _, r, .int ln, rfl, rfl, .inl (.inl (B5 l _ upd_same nlb)), hln, ln, rfl, by omega, by omega, fun D nD => ?_⟩
    have B6 : But b H3 H4 := B4.trans B5
    have nDb : D ≠ b := hb4.nb nD
    have nDc : D ≠ c := hb4.nc nD
    have nD3 : H3 D = none := B6.free nD nDb
    refine lc_range (lo := 0) (n := ln.toNat) (fun i H' => ∃ cs : List Nat, cs.length = i ∧ (∀ c ∈ cs, Low c) ∧ H' D = some (.lst (cs.map fun c => V.str (one c))) ∧ BagAt H' b c ∧ But b H3 H')
      ⟨[], rfl, fun c hc => absurd hc List.not_mem_nil, upd_same, hb4.new nD, B6.new nD⟩ ?_ ?_
    · rintro j H5 hj ⟨cs, ec, lo, hD, hb5, B7⟩
      refine ⟨rfl, yes_if ?_⟩
      refine ⟨.str LET, rfl, .ref b, rfl, b, c, 26, rfl, hb5, by decide, by decide, fun r2 H6 r3 r4 hb6 B8 => ?_⟩
      obtain ⟨d, hd, ld, _⟩ := let_at r3 r4
      have hD6 := B8 D _ hD nDb
      refine ⟨LET, r2, d, rfl, rfl, by decide +kernel, hd, _, hD6, by rw [List.length_map]; exact small1000 (by omega), cs ++ [d], by rw [List.length_append, ec]; rfl, fun d' hd' => ?_, by rw [upd_same, List.map_append]; rfl, hb6.set nDb nDc, (B7.trans B8).put nD3⟩
      rcases List.mem_append.mp hd' with h | h
      · exact lo d' h
      · rw [List.mem_singleton.mp h]; exact ld
    · rintro H5 ⟨cs, ec, lo, hD, hb5, B7⟩
      obtain ⟨c0, cr, rfl⟩ : ∃ c0 cr, cs = c0 :: cr := by
        cases cs with
        | nil => rw [List.length_nil] at ec; omega
        | cons c0 cr => exact ⟨c0, cr, rfl⟩
      have lc0 : Low c0 := lo c0 List.mem_cons_self
      have lcr : ∀ d ∈ cr, Low d := fun d hd => lo d (List.mem_cons_of_mem _ hd)
      rw [List.length_cons] at ec
      obtain ⟨orest, hocc⟩ := let_index lc0
      have hj26 : c0 - 97 < 26 := by have := lc0.1; have := lc0.2; omega
      generalize c0 - 97 = j at hocc hj26
      -- at, rest
      refine ⟨.str LET, rfl, ⟨_, rfl⟩, .ref D, rfl, D, _, 0, .str (one c0), rfl, rfl, .inl (.inl hD), atI_nat (j := 0) rfl, LET, one c0, j, orest, rfl, rfl, hocc, ⟨_, rfl⟩, .ref D, rfl, 1, rfl, D, _, rfl, .inl (.inl hD), fun p np => ?_⟩
      rw [cut_drop1]
      have np3 : H3 p = none := B7.free np (hb5.nb np)
      refine ⟨_, p, cr.map one, rfl, rfl, .inl (.inl (.inl (by rw [upd_same, List.map_cons, List.map_map]; rfl))), ?_, small (by show 2 ≤ 1000; decide), fun t2 nt2 => ?_⟩
      · rw [ones_len, List.length_map]
        show cr.length + cr.length * 0 ≤ _
        omega
      rw [join_ones]
      generalize hrest : (⟨cr.toArray⟩ : Str) = rest
      have rl : rest.length ≤ 7 := by rw [← hrest]; show cr.toArray.size ≤ 7; rw [List.size_toArray]; omega
      have rlow : ∀ d ∈ rest.cps.toList, Low d := by rw [← hrest]; exact lcr
      refine ⟨t2, _, rfl, .inl (.inl upd_same), rfl, .int j, [.str rest], rfl, .str rest, [], rfl, ⟨rfl, ?_⟩⟩
      have hb6 := (hb5.new (o := HO.lst (((c0 :: cr).map fun c => V.str (one c)).drop 1)) np).new (o := HO.tup [V.int j, V.str rest]) nt2
      have B8 := (B7.new (o := HO.lst (((c0 :: cr).map fun c => V.str (one c)).drop 1)) np).new (o := HO.tup [V.int j, V.str rest]) nt2
      generalize (upd (upd H5 p (HO.lst (((c0 :: cr).map fun c => V.str (one c)).drop 1))) t2 (HO.tup [V.int j, V.str rest])) = H6 at hb6 B8 ⊢
      have hw6 := B8 wp _ hw3 nwb
      -- some
      refine ⟨.ref wp, rfl, .int j, rfl, j, rfl, wp, _, rfl, .inl (.inl hw6), fun p3 np3 => ?_⟩
      obtain ⟨ws, ews, hws⟩ := cut_strs wordsL (some (j : Int)) none
      rw [ews]
      refine ⟨.ref b, rfl, b, c, 8, rfl, hb6.new np3, by decide, by decide, fun r5 H7 _ _ hb7 B9 => ?_⟩
      have wl16 : ws.length ≤ 16 := by
        have e := congrArg List.length ews
        rw [List.length_map] at e
        have l1 := cutV_length (wordsL.map V.str) (some (j : Int)) none
        rw [List.length_map] at l1
        have l2 : wordsL.length = 16 := rfl
        omega
      have hp3 : H7 p3 = some (.lst (ws.map V.str)) := B9 p3 _ upd_same (hb6.nb np3)
      have B10 : But b H3 H7 := (B8.new np3).trans B9
      refine ⟨rfl, .inr ⟨_, rfl, p3, _, _, rfl, rfl, hp3, ?_, ?_, ?_, fun p4 np4 => ?_⟩⟩
      · cases decide (V.int r5 = V.int 0) <;> decide
      · cases decide (V.int r5 = V.int 0) <;> decide
      · rw [List.length_map]
        cases decide (V.int r5 = V.int 0)
        · exact small (by show ws.length * 0 ≤ 1000; omega)
        · exact small (by show ws.length * 1 ≤ 1000; omega)
      obtain ⟨w2, ew2, hw2'⟩ := rep_strs ws (decide (V.int r5 = V.int 0))
      rw [ew2]
      have wl2 : w2.length ≤ 16 := by
        have e := congrArg List.length ew2
        rw [List.length_map] at e
        have l2 : ((List.replicate (if decide (V.int r5 = V.int 0) = true then (1 : Int) else 0).toNat (ws.map V.str)).flatten).length ≤ 16 := by
          cases decide (V.int r5 = V.int 0)
          · show 0 ≤ 16; omega
          · show ((ws.map V.str) ++ []).length ≤ 16
            rw [List.append_nil, List.length_map]; exact wl16
        omega
      have hb8 := hb7.new (o := HO.lst (w2.map V.str)) np4
      have B11 := B10.new (o := HO.lst (w2.map V.str)) np4
      have hp4 : (upd H7 p4 (HO.lst (w2.map V.str))) p4 = some (.lst (w2.map V.str)) := upd_same
      have n4b : p4 ≠ b := hb7.nb np4
      generalize (upd H7 p4 (HO.lst (w2.map V.str))) = H8 at hb8 B11 hp4 ⊢
      refine ⟨.str LET, rfl, .int j, rfl, j, rfl, LET, rfl, by decide +kernel, .str LET, rfl, .int j, rfl, j, rfl, LET, rfl, by decide +kernel, _, _, rfl, rfl, rot_len j, rot j, rfl, fun D2 nD2 => ?_⟩
      obtain ⟨rot26, rotN, rotL⟩ := rot_ok hj26
      have nD2b : D2 ≠ b := hb8.nb nD2
      have nD2c : D2 ≠ c := hb8.nc nD2
      have nD23 : H3 D2 = none := B11.free nD2 nD2b
      have nD24 : p4 ≠ D2 := ne_of_none hp4 nD2
      refine lc_strI (fun i H' => H' D2 = some (.lst ((((rot j).cps.toList.take i).map fun d => one d ++ rest).map V.str)) ∧ H' p4 = some (.lst (w2.map V.str)) ∧ BagAt H' b c ∧ But b H3 H')
        ⟨upd_same, by rw [upd_ne nD24]; exact hp4, hb8.new nD2, B11.new nD2⟩ ?_ ?_
      · rintro i d H9 hd ⟨hD2, hp49, hb9, B12⟩
        have hlt : i < 26 := by rw [← rot26]; exact (List.getElem?_eq_some_iff.mp hd).1
        refine ⟨rfl, yes_if ⟨.str (one d), rfl, .str rest, rfl, _, _, rfl, rfl, small (by show 1 + rest.length ≤ 1000; omega), _, hD2, ?_, ?_, by rw [upd_ne nD24]; exact hp49, hb9.set nD2b nD2c, B12.put nD23⟩⟩
        · rw [List.length_map, List.length_map, List.length_take]; exact small1000 (by omega)
        · rw [upd_same, take_more hd, List.map_append, List.map_append]; rfl
      · rintro H9 ⟨hD2, hp49, hb9, B12⟩
        rw [List.take_length] at hD2
        refine ⟨p4, D2, _, _, rfl, rfl, hp49, hD2, small (by rw [List.length_map, List.length_map, List.length_map]; omega), fun S nS => ?_⟩
        rw [← List.map_append]
        generalize hsome : w2 ++ (rot j).cps.toList.map (fun d => one d ++ rest) = somes
        have hsomes : ∀ z ∈ somes, NameOk z := by
          intro z hz
          rw [← hsome] at hz
          rcases List.mem_append.mp hz with h | h
          · exact words_ok z (hws z (hw2' z h))
          · obtain ⟨d, hd, rfl⟩ := List.mem_map.mp h
            exact cand_ok (rotL d hd) rl rlow
        have slen : somes.length ≤ 42 := by rw [← hsome, List.length_append, List.length_map]; omega
        obtain ⟨fx, hfx, nfx⟩ : ∃ x ∈ somes, x ∉ zs := by
          obtain ⟨x, hx, nx⟩ := cand_free hj26 rest (zs := zs) (by omega)
          exact ⟨x, by rw [← hsome]; exact List.mem_append_right _ hx, nx⟩
        have hb10 := hb9.new (o := HO.lst (somes.map V.str)) nS
        have B13 := B12.new (o := HO.lst (somes.map V.str)) nS
        have hS : (upd H9 S (HO.lst (somes.map V.str))) S = some (.lst (somes.map V.str)) := upd_same
        have nSb : S ≠ b := hb9.nb nS
        have nS3 : H3 S = none := B12.free nS nSb
        generalize (upd H9 S (HO.lst (somes.map V.str))) = H10 at hb10 B13 hS ⊢
        have ho10 := B13 o _ ho3 nob
        -- found.append([..][0])
        refine ⟨.ref o, rfl, .inl ⟨rfl, _, .inl (.inl ho10)⟩, .ref S, rfl, S, rfl, ⟨_, .inl (.inl hS)⟩, fun D3 nD3' => ?_⟩
        have nD3b : D3 ≠ b := hb10.nb nD3'
        have nD3c : D3 ≠ c := hb10.nc nD3'
        have nD33 : H3 D3 = none := B13.free nD3' nD3b
        have nSD : S ≠ D3 := ne_of_none hS nD3'
        have noD : o ≠ D3 := ne_of_none ho10 nD3'
        refine lc_list (K := K) (a := S) (xs := somes.map V.str) (fun i H' => H' D3 = some (.lst (((somes.take i).filter fun z => !decide (z ∈ zs)).map V.str)) ∧ H' S = some (.lst (somes.map V.str)) ∧ H' o = some (.lst (zs.map V.str)) ∧ BagAt H' b c ∧ But b H3 H')
          ⟨upd_same, by rw [upd_ne nSD]; exact hS, by rw [upd_ne noD]; exact ho10, hb10.new nD3', B13.new nD3'⟩ (fun i H' _ q => .inl (.inl q.2.1)) ?_ ?_
        · rintro i x H11 hx ⟨hD3, hS11, ho11, hb11, B14⟩
          obtain ⟨z, hz, rfl⟩ := map_get hx
          have hlt : i < somes.length := (List.getElem?_eq_some_iff.mp hz).1
          refine ⟨rfl, .str z, rfl, .ref o, rfl, o, _, rfl, .inl (.inl (.inl ho11)), rfl, flat_strs zs, _, rfl, ?_⟩
          show if (!inV (.str z) (zs.map V.str)) = true then _ else _
          rw [inV_str]
          have ef : ((somes.take (i + 1)).filter fun z => !decide (z ∈ zs)) = ((somes.take i).filter fun z => !decide (z ∈ zs)) ++ (if z ∈ zs then [] else [z]) := by
            rw [take_more hz, List.filter_append]
            by_cases q : z ∈ zs
            · simp [q]
            · simp [q]
          by_cases q : z ∈ zs
          · rw [decide_eq_true q]
            rw [if_pos q, List.append_nil] at ef
            refine iteF ⟨by rw [ef]; exact hD3, hS11, ho11, hb11, B14⟩
          · rw [decide_eq_false q]
            rw [if_neg q] at ef
            refine iteT ⟨.str z, rfl, _, hD3, ?_, ?_, by rw [upd_ne nSD]; exact hS11, by rw [upd_ne noD]; exact ho11, hb11.set nD3b nD3c, B14.put nD33⟩
            · rw [List.length_map]
              have l1 := List.length_filter_le (fun z => !decide (z ∈ zs)) (somes.take i)
              rw [List.length_take] at l1
              exact small1000 (by omega)
            · rw [upd_same, ef, List.map_append]; rfl
        · rintro H11 ⟨hD3, hS11, ho11, hb11, B14⟩
          rw [List.length_map, List.take_length] at hD3
          obtain ⟨g, gr, hg⟩ : ∃ g gr, (somes.filter fun z => !decide (z ∈ zs)) = g :: gr := by
            have m : fx ∈ (somes.filter fun z => !decide (z ∈ zs)) := List.mem_filter.mpr ⟨hfx, by simp [nfx]⟩
            cases e : (somes.filter fun z => !decide (z ∈ zs)) with
            | nil => rw [e] at m; cases m
            | cons g gr => exact ⟨g, gr, rfl⟩
          have hgm : g ∈ somes ∧ g ∉ zs := by
            have m : g ∈ (somes.filter fun z => !decide (z ∈ zs)) := by rw [hg]; exact List.mem_cons_self
            have m2 := List.mem_filter.mp m
            exact ⟨m2.1, by simpa using m2.2⟩
          rw [hg] at hD3
          refine ⟨D3, _, 0, .str g, rfl, rfl, .inl (.inl hD3), atI_nat (j := 0) rfl, o, _, .str g, rfl, rfl, ho11, by rw [List.length_map]; exact small1000 (by omega), ?_⟩
          refine ⟨zs ++ [g], _, _, _, _, _, rfl, by rw [List.length_append, el]; rfl, nd_snoc nd hgm.2, fun z hz => ?_, by rw [upd_same, List.map_append]; rfl, ?_, hb11.set nob noc, (B3.trans B14).put no⟩
          · rcases List.mem_append.mp hz with h | h
            · exact ok z h
            · rw [List.mem_singleton.mp h]; exact hsomes g hgm.1
          · rw [upd_ne now.symm]
            exact B14 wp _ hw3 nwb
  · rintro σ H3 ⟨zs, v5, v6, v7, v8, v9, rfl, el, nd, ok, ho3, hw3, hb3, B3⟩
    exact ⟨.ref o, rfl, k o zs H3 (by omega) nd ok ho3 no hb3 B3⟩
end
end Lw

set_option Elab.async false
set_option linter.all false
set_option maxRecDepth 100000
set_option maxHeartbeats 4000000
namespace Lw
open PySem PySem.Spec PyProof.Rows L2
abbrev sPasses : Stmt := topS 14
abbrev sOne : Stmt := topS 5
section
variable {P : Program} {w : World} {K : PySem.W.Frag} {mg : Str → Option Value} {base : Heap}
theorem scPasses : FnScope ["_law_row", "_law_test"] ["_law_row", "_law_test"] (defScope sPasses) := ⟨rfl, rfl, rfl, by decide +kernel, rfl, by decide +kernel, by decide +kernel⟩
theorem ok_passes {f : Addr} {fd : FuncData} (F : Fun K "_law_passes" "_law_passes" sPasses f fd) (m : mg "_law_passes" = some (.ref f)) (b : Binds K fd ["_law_row", "_law_test"] []) : ∀ n, FnOk P w K mg base CX0 n f fd ["_law_row", "_law_test"] (spPass n)
  | 0 => ⟨fun vs H Q E h => by obtain ⟨_, _, _, _, _, _, _, _, z, _⟩ := h; exact absurd z (Nat.not_lt_zero _), fun A outer s H args us vs Q E hr e0 bi rv h => by obtain ⟨_, _, _, _, _, _, _, _, z, _⟩ := h; exact absurd z (Nat.not_lt_zero _)⟩
  | n + 1 => by
    have IH := ok_passes F m b n
    refine F.ok scPasses (fun vs H Q E h => ?_) (fun cdv A outer s H vs Q E hr h => ?_)
    · obtain ⟨r, v, t, ρ, o, rfl, _⟩ := h
      rfl
    obtain ⟨r, v, t, ρ, o, rfl, hr2, tv, dp, ho, q⟩ := h
    refine ⟨_, pss_cons (ps_if (pt_cmpR op_eq (pe_ix ix_tup (pv 1) pe_int (fun _ _ => rfl)) pe_str (nomark _))
        (pss_one (ps_ret (pe_cmpR (r := rIn K false) op_in_seq (pe_dget (hu_of hr) (pv 0) (pe_ix ix_tup (pv 1) pe_int (fun _ _ => rfl)) (fun _ _ => rfl)) (pe_ix ix_tup (pv 1) pe_int (fun _ _ => rfl)) (by rfl)))) pss_nil)
      (pss_cons (ps_if (pt_cmpR op_eq (pe_ix ix_tup (pv 1) pe_int (fun _ _ => rfl)) pe_str (nomark _))
        (pss_one (ps_ret (pe_cmpR op_isN (pe_dget (hu_of hr) (pv 0) (pe_ix ix_tup (pv 1) pe_int (fun _ _ => rfl)) (fun _ _ => rfl)) pe_non (nomark _)))) pss_nil)
      (pss_one (ps_ret (pe_not (pe_call IH hr (by rfl) m F.kp b .nil pass0 (pa_cons (pv 0) (pa_cons (pe_ix ix_tup (pv 1) pe_int (fun _ _ => rfl)) pa_nil))))))), ?_⟩
    cases tv with
    | @is t l f ws a b =>
      refine ⟨.ref t, rfl, t, _, 0, _, rfl, rfl, .inl (.inl a), atI_nat (j := 0) rfl, rfl, _, rfl, tt_if rfl ?_⟩
      refine ⟨.ref r, rfl, .ref t, rfl, t, _, 1, _, rfl, rfl, .inl (.inl a), atI_nat (j := 1) rfl, r, _, rfl, hr2.get ho, .ref t, rfl, t, _, 2, _, rfl, rfl, .inl (.inl a), atI_nat (j := 2) rfl, l, _, rfl, .inl (SqL.of b), flat_cell o, flat_strs' ws, ?_⟩
      show Q (.bl (inV (cellV o) (ws.map V.str))) H
      rw [← pass_is ho]
      exact q
    | @non t f a =>
      refine ⟨.ref t, rfl, t, _, 0, _, rfl, rfl, .inl (.inl a), atI_nat (j := 0) rfl, rfl, _, rfl, ff_if rfl ?_⟩
      refine ⟨.ref t, rfl, t, _, 0, _, rfl, rfl, .inl (.inl a), atI_nat (j := 0) rfl, rfl, _, rfl, tt_if rfl ?_⟩
      refine ⟨.ref r, rfl, .ref t, rfl, t, _, 1, _, rfl, rfl, .inl (.inl a), atI_nat (j := 1) rfl, r, _, rfl, hr2.get ho, rfl, ?_⟩
      rw [← pass_non ho]
      exact q
    | @nt t v' s' a bb =>
      refine ⟨.ref t, rfl, t, _, 0, _, rfl, rfl, .inl (.inl a), atI_nat (j := 0) rfl, rfl, _, rfl, ff_if rfl ?_⟩
      refine ⟨.ref t, rfl, t, _, 0, _, rfl, rfl, .inl (.inl a), atI_nat (j := 0) rfl, rfl, _, rfl, ff_if rfl ?_⟩
      exact ⟨.ref r, rfl, .ref t, rfl, t, _, 1, _, rfl, rfl, .inl (.inl a), atI_nat (j := 1) rfl, r, v', s', ρ, o, rfl, hr2, bb, Nat.lt_of_succ_lt_succ dp, ho, _, rfl, q⟩
end
end Lw

set_option Elab.async false
set_option linter.all false
set_option maxRecDepth 100000
set_option maxHeartbeats 4000000
namespace Lw
open PySem PySem.Spec PyProof.Rows L2
abbrev sNamed : Stmt := topS 17
abbrev sMeets : Stmt := topS 4
abbrev sLMeets : Stmt := topS 15
section
variable {P : Program} {w : World} {K : PySem.W.Frag} {mg : Str → Option Value} {base : Heap}
theorem scOne : FnScope ["row", "test"] ["row", "test"] (defScope sOne) := ⟨rfl, rfl, rfl, by decide +kernel, rfl, by decide +kernel, by decide +kernel⟩
theorem ok_one {f : Addr} {fd : FuncData} (F : Fun K "_meets_one" "_meets_one" sOne f fd) (m : mg "_meets_one" = some (.ref f)) (b : Binds K fd ["row", "test"] []) : ∀ n, FnOk P w K mg base CX0 n f fd ["row", "test"] (spPass n)
  | 0 => ⟨fun vs H Q E h => by obtain ⟨_, _, _, _, _, _, _, _, z, _⟩ := h; exact absurd z (Nat.not_lt_zero _), fun A outer s H args us vs Q E hr e0 bi rv h => by obtain ⟨_, _, _, _, _, _, _, _, z, _⟩ := h; exact absurd z (Nat.not_lt_zero _)⟩
  | n + 1 => by
    have IH := ok_one F m b n
    refine F.ok scOne (fun vs H Q E h => ?_) (fun cdv A outer s H vs Q E hr h => ?_)
    · obtain ⟨r, v, t, ρ, o, rfl, _⟩ := h
      rfl
    obtain ⟨r, v, t, ρ, o, rfl, hr2, tv, dp, ho, q⟩ := h
    refine ⟨_, pss_cons (ps_if (pt_cmpR op_eq (pe_ix ix_tup (pv 1) pe_int (fun _ _ => rfl)) pe_str (nomark _))
        (pss_one (ps_ret (pe_not (pe_call IH hr (by rfl) m F.kp b .nil pass0 (pa_cons (pv 0) (pa_cons (pe_ix ix_tup (pv 1) pe_int (fun _ _ => rfl)) pa_nil)))))) pss_nil)
      (pss_cons (ps_if (pt_cmpR op_eq (pe_ix ix_tup (pv 1) pe_int (fun _ _ => rfl)) pe_str (nomark _))
        (pss_one (ps_ret (pe_cmpR op_isN (pe_dget (hu_of hr) (pv 0) (pe_ix ix_tup (pv 1) pe_int (fun _ _ => rfl)) (fun _ _ => rfl)) pe_non (nomark _)))) pss_nil)
      (pss_one (ps_ret (pe_cmpR (r := rIn K false) op_in_seq (pe_dget (hu_of hr) (pv 0) (pe_ix ix_tup (pv 1) pe_int (fun _ _ => rfl)) (fun _ _ => rfl)) (pe_ix ix_tup (pv 1) pe_int (fun _ _ => rfl)) (by rfl))))), ?_⟩
    cases tv with
    | @is t l f ws a b =>
      refine ⟨.ref t, rfl, t, _, 0, _, rfl, rfl, .inl (.inl a), atI_nat (j := 0) rfl, rfl, _, rfl, ff_if rfl ?_⟩
      refine ⟨.ref t, rfl, t, _, 0, _, rfl, rfl, .inl (.inl a), atI_nat (j := 0) rfl, rfl, _, rfl, ff_if rfl ?_⟩
      refine ⟨.ref r, rfl, .ref t, rfl, t, _, 1, _, rfl, rfl, .inl (.inl a), atI_nat (j := 1) rfl, r, _, rfl, hr2.get ho, .ref t, rfl, t, _, 2, _, rfl, rfl, .inl (.inl a), atI_nat (j := 2) rfl, l, _, rfl, .inl (SqL.of b), flat_cell o, flat_strs' ws, ?_⟩
      show Q (.bl (inV (cellV o) (ws.map V.str))) H
      rw [← pass_is ho]
      exact q
    | @non t f a =>
      refine ⟨.ref t, rfl, t, _, 0, _, rfl, rfl, .inl (.inl a), atI_nat (j := 0) rfl, rfl, _, rfl, ff_if rfl ?_⟩
      refine ⟨.ref t, rfl, t, _, 0, _, rfl, rfl, .inl (.inl a), atI_nat (j := 0) rfl, rfl, _, rfl, tt_if rfl ?_⟩
      refine ⟨.ref r, rfl, .ref t, rfl, t, _, 1, _, rfl, rfl, .inl (.inl a), atI_nat (j := 1) rfl, r, _, rfl, hr2.get ho, rfl, ?_⟩
      rw [← pass_non ho]
      exact q
    | @nt t v' s' a bb =>
      refine ⟨.ref t, rfl, t, _, 0, _, rfl, rfl, .inl (.inl a), atI_nat (j := 0) rfl, rfl, _, rfl, tt_if rfl ?_⟩
      exact ⟨.ref r, rfl, .ref t, rfl, t, _, 1, _, rfl, rfl, .inl (.inl a), atI_nat (j := 1) rfl, r, v', s', ρ, o, rfl, hr2, bb, Nat.lt_of_succ_lt_succ dp, ho, _, rfl, q⟩
theorem scNamed : FnScope ["_law_test"] ["_law_test"] (defScope sNamed) := ⟨rfl, rfl, rfl, by decide +kernel, rfl, by decide +kernel, by decide +kernel⟩
def spNamed (n : Nat) : Sp := fun vs H Q _ => ∃ (v : V) (t : Tst), vs = [v] ∧ TV H v t ∧ t.depth < n ∧ Q (.str t.field) H
theorem ok_named {f : Addr} {fd : FuncData} (F : Fun K "_law_named" "_law_named" sNamed f fd) (m : mg "_law_named" = some (.ref f)) (b : Binds K fd ["_law_test"] []) : ∀ n, FnOk P w K mg base CX0 n f fd ["_law_test"] (spNamed n)
  | 0 => ⟨fun vs H Q E h => by obtain ⟨_, _, _, _, z, _⟩ := h; exact absurd z (Nat.not_lt_zero _), fun A outer s H args us vs Q E hr e0 bi rv h => by obtain ⟨_, _, _, _, z, _⟩ := h; exact absurd z (Nat.not_lt_zero _)⟩
  | n + 1 => by
    have IH := ok_named F m b n
    refine F.ok scNamed (fun vs H Q E h => ?_) (fun cdv A outer s H vs Q E hr h => ?_)
    · obtain ⟨v, t, rfl, _⟩ := h
      rfl
    obtain ⟨v, t, rfl, tv, dp, q⟩ := h
    refine ⟨_, pss_one (ps_ret (pe_ifExp (pt_cmpR op_eq (pe_ix ix_tup (pv 0) pe_int (fun _ _ => rfl)) pe_str (nomark _)) (pe_call IH hr (by rfl) m F.kp b .nil pass0 (pa_cons (pe_ix ix_tup (pv 0) pe_int (fun _ _ => rfl)) pa_nil)) (pe_ix ix_tup (pv 0) pe_int (fun _ _ => rfl)))), ?_⟩
    cases tv with
    | @is t l f ws a b =>
      exact ⟨.ref t, rfl, t, _, 0, _, rfl, rfl, .inl (.inl a), atI_nat (j := 0) rfl, rfl, _, rfl, ff_if rfl ⟨.ref t, rfl, t, _, 1, _, rfl, rfl, .inl (.inl a), atI_nat (j := 1) rfl, q⟩⟩
    | @non t f a =>
      exact ⟨.ref t, rfl, t, _, 0, _, rfl, rfl, .inl (.inl a), atI_nat (j := 0) rfl, rfl, _, rfl, ff_if rfl ⟨.ref t, rfl, t, _, 1, _, rfl, rfl, .inl (.inl a), atI_nat (j := 1) rfl, q⟩⟩
    | @nt t v' s' a bb =>
      exact ⟨.ref t, rfl, t, _, 0, _, rfl, rfl, .inl (.inl a), atI_nat (j := 0) rfl, rfl, _, rfl, tt_if rfl ⟨.ref t, rfl, t, _, 1, _, rfl, rfl, .inl (.inl a), atI_nat (j := 1) rfl, v', s', rfl, bb, Nat.lt_of_succ_lt_succ dp, q⟩⟩
end
end Lw

set_option Elab.async false
set_option linter.all false
set_option maxRecDepth 100000
set_option maxHeartbeats 4000000
namespace Lw
open PySem PySem.Spec PyProof.Rows L2
/-- a list held against the empty one -/
def rEmpty (K : PySem.W.Frag) : R2 := fun x y H Q => ∃ (a b : Addr) (xs : List V), x = .ref a ∧ y = .ref b ∧ SqL K H a xs ∧ SqL K H b [] ∧ Q (.bl xs.isEmpty) H
theorem op_empty {X : Cx} (hu : X.A.units + 64 < cLine) : OpR X (compareOp .Eq) (rEmpty X.K) := by
  intro pl s σ H x y v u Q J rx ry h
  obtain ⟨a, b, xs, rfl, rfl, ha, hb, q⟩ := h
  cases xs with
  | nil => exact op_eqV hu pl s σ H _ _ v u Q J rx ry ⟨1, by decide, .inl ⟨a, b, [], [], rfl, rfl, ha, hb, .nil⟩, q⟩
  | cons z zs =>
    obtain rfl : v = Value.ref a := rx
    obtain rfl : u = Value.ref b := ry
    obtain ⟨us, ra, pa, _⟩ := J.list ha
    obtain ⟨ws, rb, pb, _⟩ := J.list hb
    cases rb
    cases ra
    exact SeqAt.eq_list_lengthsAt pa.isList pb.isList (by simp) (by omega) ⟨.bl false, H, J, rfl, q⟩
/-- a comprehension of a set over a list that stays -/
theorem sc_list {P : Program} {w : World} {K : PySem.W.Frag} {a : Addr} {xs : List V} {g : TG} {te : TE} {vs : List Nat} {σ : L2.St} {H1 : Hp} {D : Addr} {Qd : Hp → Prop} (Pv : Nat → Hp → Prop) (first : Pv 0 (upd H1 D (SetSO P w D []))) (stays : ∀ i H, i ≤ xs.length → Pv i H → SqL K H a xs)
    (turn : ∀ i x H, xs[i]? = some x → Pv i H → g x (wipe σ vs) H fun σ2 H2 => wipe σ2 vs = wipe σ vs ∧ te σ2 H2 fun y H4 => ∃ (k : Str) (l : List Str), y = .str k ∧ H4 D = some (SetSO P w D l) ∧ l.length + 1 < scanBound ∧ Pv (i + 1) (upd H4 D (SetSO P w D (if k ∈ l then l else k :: l))))
    (last : ∀ H, Pv xs.length H → Qd H) :
    ∃ W : Nat → Nat → Hp → Prop, (∃ m, W 0 m (upd H1 D (SetSO P w D []))) ∧ ∀ i m H, W i m H →
      ((Itl K a).stop i H ∧ Qd H) ∨ ((Itl K a).go i H ∧ ∃ Nx : Hp → Prop, (∀ H', Nx H' → ∃ m', m' < m ∧ W (i + 1) m' H') ∧ ∀ x H', (Itl K a).yld i H x H' → g x (wipe σ vs) H' fun σ2 H2 => wipe σ2 vs = wipe σ vs ∧
        te σ2 H2 fun y H4 => ∃ (k : Str) (l : List Str), y = .str k ∧ H4 D = some (SetSO P w D l) ∧ l.length + 1 < scanBound ∧ Nx (upd H4 D (SetSO P w D (if k ∈ l then l else k :: l)))) := by
  refine ⟨fun i m H => m = xs.length - i ∧ i ≤ xs.length ∧ Pv i H, ⟨_, rfl, Nat.zero_le _, first⟩, fun i m H hw => ?_⟩
  obtain ⟨rfl, hi, p⟩ := hw
  have sq := stays i H hi p
  rcases Nat.lt_or_ge i xs.length with lt | ge
  · refine .inr ⟨⟨xs, xs[i], sq, List.getElem?_eq_getElem lt⟩, Pv (i + 1), fun H' p' => ⟨_, by omega, rfl, lt, p'⟩, fun x H' y => ?_⟩
    obtain ⟨rfl, y⟩ := y
    exact turn i x _ (y xs sq) p
  · obtain rfl : i = xs.length := Nat.le_antisymm hi ge
    exact .inl ⟨⟨xs, sq, Nat.le_refl _⟩, last H p⟩
structure TL (H : Hp) (l : Addr) (ts : List Tst) : Prop where
  ex : ∃ xs, H l = some (.lst xs) ∧ Paired (TV H) xs ts
theorem paired_mono {H H' : Hp} {xs : List V} {ts : List Tst} (x : Paired (TV H) xs ts) (s : Same H H') : Paired (TV H') xs ts := by
  induction x with
  | nil => exact .nil
  | cons a _ ih => exact .cons (a.mono s) ih
theorem TL.mono {H H' : Hp} {l : Addr} {ts : List Tst} (x : TL H l ts) (s : Same H H') : TL H' l ts := by
  obtain ⟨xs, e, p⟩ := x.ex
  exact ⟨xs, s _ _ e, paired_mono p s⟩
theorem paired_get {H : Hp} {xs : List V} {ts : List Tst} (x : Paired (TV H) xs ts) : ∀ {i : Nat} {v : V}, xs[i]? = some v → ∃ t, ts[i]? = some t ∧ TV H v t := by
  induction x with
  | nil => intro i v e; simp at e
  | cons a _ ih =>
    intro i v e
    cases i with
    | zero => cases e; exact ⟨_, rfl, a⟩
    | succ i => exact ih e
abbrev sIsNot : Stmt := topS 3
abbrev sInside : Stmt := topS 2
abbrev sFieldsIn : Stmt := topS 6
def Tst.isNt : Tst → Bool
  | .nt _ => true
  | _ => false
section
variable {P : Program} {w : World} {K : PySem.W.Frag} {mg : Str → Option Value} {base : Heap}
theorem scIsNot : FnScope ["thing"] ["thing"] (defScope sIsNot) := ⟨rfl, rfl, rfl, by decide +kernel, rfl, by decide +kernel, by decide +kernel⟩
def spIsNot : Sp := fun vs H Q _ => ∃ (v : V) (t : Tst), vs = [v] ∧ TV H v t ∧ Q (.bl t.isNt) H
theorem ok_isnot {f : Addr} {fd : FuncData} (F : Fun K "_is_not" "_is_not" sIsNot f fd) (mis : mg "isinstance" = none) (mtup : mg "tuple" = none) (mlen : mg "len" = none) : FnOk P w K mg base CX0 1 f fd ["thing"] spIsNot := by
  refine F.ok scIsNot (fun vs H Q E h => ?_) (fun cdv A outer s H vs Q E hr h => ?_)
  · obtain ⟨v, t, rfl, _⟩ := h
    rfl
  obtain ⟨v, t, rfl, tv, q⟩ := h
  refine ⟨_, pss_one (ps_ret (pe_and (pe_callB call_isi (by rfl) mis (by decide +kernel) (pa_cons (pv 0) (pa_cons (pe_bltn (v := .ty "tuple") (by rfl) mtup (by decide +kernel) rfl) pa_nil)))
    (pe_and (pe_cmpR op_eq (pe_callB call_len_seq (by rfl) mlen (by decide +kernel) (pa_cons (pv 0) pa_nil)) pe_int (nomark _)) (pe_one (pe_cmpR op_eq (pe_ix ix_tup (pv 0) pe_int (fun _ _ => rfl)) pe_str (nomark _)))))), ?_⟩
  have kt : PySem.W.kitOne K (.type "tuple") (.type "tuple") = some true := kit_ty (by rfl)
  cases tv with
  | @is t l f ws a b => exact ⟨.ref t, rfl, .ref t, .ty "tuple", .type "tuple", .type "tuple", true, rfl, .ty _, .base (.tup a), kt, true, rfl, tt_if rfl ⟨.ref t, rfl, t, _, rfl, .inr (.inl (.inl a)), rfl, _, rfl, ff_if rfl q⟩⟩
  | @non t f a => exact ⟨.ref t, rfl, .ref t, .ty "tuple", .type "tuple", .type "tuple", true, rfl, .ty _, .base (.tup a), kt, true, rfl, tt_if rfl ⟨.ref t, rfl, t, _, rfl, .inr (.inl (.inl a)), rfl, _, rfl, tt_if rfl ⟨.ref t, rfl, t, _, 0, _, rfl, rfl, .inl (.inl a), atI_nat (j := 0) rfl, rfl, q⟩⟩⟩
  | @nt t v' s' a bb => exact ⟨.ref t, rfl, .ref t, .ty "tuple", .type "tuple", .type "tuple", true, rfl, .ty _, .base (.tup a), kt, true, rfl, tt_if rfl ⟨.ref t, rfl, t, _, rfl, .inr (.inl (.inl a)), rfl, _, rfl, tt_if rfl ⟨.ref t, rfl, t, _, 0, _, rfl, rfl, .inl (.inl a), atI_nat (j := 0) rfl, rfl, q⟩⟩⟩
theorem scInside : FnScope ["test", "inner", "_"] ["test"] (defScope sInside) := ⟨rfl, rfl, rfl, by decide +kernel, rfl, by decide +kernel, by decide +kernel⟩
def spInside : Sp := fun vs H Q _ => ∃ (v : V) (t : Tst), vs = [v] ∧ TV H v t ∧ t.depth ≤ 4 ∧ ∀ v', TV H v' t.core → t.core.isNt = false → Q v' H
theorem core_no : ∀ t : Tst, t.core.isNt = false
  | .is _ _ => rfl
  | .non _ => rfl
  | .nt t => core_no t
theorem core_it : ∀ t : Tst, t.isNt = false → t.core = t
  | .is _ _, _ => rfl
  | .non _, _ => rfl
  | .nt _, h => nomatch h
theorem ok_inside {f f1 : Addr} {fd fd1 : FuncData} {tk : Tok} (F : Fun K "inside_nots" "inside_nots" sInside f fd) (G : FnOk P w K mg base CX0 1 f1 fd1 ["thing"] spIsNot) (m1 : mg "_is_not" = some (.ref f1)) (k1 : PySem.W.keepIn K (.ref f1) = true) (b1 : Binds K fd1 ["thing"] [])
    (mMost : mg "MOST_NOTS" = some (.int 4 tk)) (mrange : mg "range" = none) : FnOk P w K mg base CX0 2 f fd ["test"] spInside := by
  refine F.ok scInside (fun vs H Q E h => ?_) (fun cdv A outer s H vs Q E hr h => ?_)
  · obtain ⟨v, t, rfl, _⟩ := h
    rfl
  obtain ⟨v, t, rfl, tv, dp, q⟩ := h
  refine ⟨_, pss_cons (ps_set (i := 1) scInside.nd rfl (.inl rfl) (pv 0))
    (pss_cons (ps_for PassesOwn.never rfl (pi_range1 (by rfl) mrange (pa_cons (pe_glob (v := .int 4) (by rfl) mMost ⟨tk, rfl⟩) pa_nil)) (pg_name (i := 2) scInside.nd rfl (.inl rfl))
      (pss_one (ps_if (pt_val (pe_call G hr (by rfl) m1 k1 b1 .nil pass0 (pa_cons (pv 1) pa_nil))) (pss_one (ps_set (i := 1) scInside.nd rfl (.inl rfl) (pe_ix ix_tup (pv 1) pe_int (fun _ _ => rfl)))) pss_nil)))
    (pss_cons (ps_if (pt_val (pe_call G hr (by rfl) m1 k1 b1 .nil pass0 (pa_cons (pv 1) pa_nil))) (pss_one (ps_ret pe_non)) pss_nil) (pss_one (ps_ret (pv 1))))), ?_⟩
  refine ⟨v, rfl, 4, rfl, by decide, by decide, for_range (lo := 0) (n := 4) (fun i σ H3 => ∃ (u : V) (t' : Tst) (v2 : Option V), H3 = H ∧ σ = [some v, some u, v2] ∧ TV H u t' ∧ t'.core = t.core ∧ t'.depth ≤ 4 - i) ⟨v, t, none, rfl, rfl, tv, rfl, dp⟩ ?_ ?_⟩
  · rintro i σ H3 hi ⟨u, t', v2, rfl, rfl, tu, ec, ed⟩
    refine ⟨u, rfl, u, t', rfl, tu, _, rfl, ?_⟩
    cases tu with
    | @is t1 l f ws a b => exact ff_if rfl ⟨_, _, _, rfl, rfl, .is a b, ec, Nat.zero_le _⟩
    | @non t1 f a => exact ff_if rfl ⟨_, _, _, rfl, rfl, .non a, ec, Nat.zero_le _⟩
    | @nt t1 v' s' a bb => exact tt_if rfl ⟨.ref t1, rfl, t1, _, 1, _, rfl, rfl, .inl (.inl a), atI_nat (j := 1) rfl, v', s', _, rfl, rfl, bb, ec, by have : s'.depth + 1 ≤ 4 - i := ed; omega⟩
  · rintro σ H3 ⟨u, t', v2, rfl, rfl, tu, ec, ed⟩
    have no : t'.isNt = false := by
      cases t' with
      | nt s' => exact absurd (show s'.depth + 1 ≤ 0 from ed) (by omega)
      | _ => rfl
    refine ⟨u, rfl, u, t', rfl, tu, _, rfl, ff_if no ⟨u, rfl, q u ?_ (core_no t)⟩⟩
    rw [← ec, core_it t' no]
    exact tu
end
end Lw

set_option Elab.async false
set_option linter.all false
set_option maxRecDepth 100000
set_option maxHeartbeats 4000000
namespace Lw
open PySem PySem.Spec PyProof.Rows L2
theorem Same.put {G H : Hp} {b : Addr} {o : HO} (x : Same G H) (n : G b = none) : Same G (upd H b o) := fun a u q => by
  rw [upd_ne (ne_of_none q n)]
  exact x a u q
theorem all_snoc {α : Type} {f : α → Bool} {ts : List α} {i : Nat} {t : α} (h : ts[i]? = some t) : (ts.take (i + 1)).all f = ((ts.take i).all f && f t) := by
  rw [List.take_add_one, h, List.all_append]
  simp
def spMeets : Sp := fun vs H Q _ => ∃ (r l : Addr) (ρ : Row) (ts : List Tst), vs = [.ref r, .ref l] ∧ RowAt H r ρ ∧ TL H l ts ∧ ts.length ≤ 60 ∧ (∀ t ∈ ts, t.depth < 5 ∧ ∃ o, ρ t.field = some o) ∧ ∀ H', Same H H' → Q (.bl (ts.all fun t => t.pass ρ)) H'
section
variable {P : Program} {w : World} {K : PySem.W.Frag} {mg : Str → Option Value} {base : Heap}
theorem scMeets : FnScope ["row", "tests", "test"] ["row", "tests"] (defScope sMeets) := ⟨rfl, rfl, rfl, by decide +kernel, rfl, by decide +kernel, by decide +kernel⟩
theorem ok_meets {f f1 : Addr} {fd fd1 : FuncData} (F : Fun K "meets" "meets" sMeets f fd) (G : FnOk P w K mg base CX0 5 f1 fd1 ["row", "test"] (spPass 5)) (m1 : mg "_meets_one" = some (.ref f1)) (k1 : PySem.W.keepIn K (.ref f1) = true) (b1 : Binds K fd1 ["row", "test"] [])
    (mall : mg "all" = none) : FnOk P w K mg base CX0 6 f fd ["row", "tests"] spMeets := by
  refine F.ok scMeets (fun vs H Q E h => ?_) (fun cdv A outer s H vs Q E hr h => ?_)
  · obtain ⟨r, l, ρ, ts, rfl, _⟩ := h
    rfl
  obtain ⟨r, l, ρ, ts, rfl, hr2, tl, few, each, q⟩ := h
  obtain ⟨xs, e, pr⟩ := tl.ex
  have lx : xs.length = ts.length := pr.length
  refine ⟨_, pss_one (ps_ret (pe_callB (cr_all rfl) (by rfl) mall (by decide +kernel) (pa_cons (pe_lc (own := [("test", 2)]) (g := gName 2) (tt := tYes) rfl scMeets.nd (pi_list (pv 1)) (blkOk_by (N := ["row", "tests", "test"]) (sc := defScope sMeets) (by decide +kernel))
    (fun _ _ _ _ _ => pg_name (i := 2) scMeets.nd rfl (Or.inl rfl)) (fun _ _ _ _ _ => pts_nil) (fun _ _ _ _ _ => pe_call G hr (by rfl) m1 k1 b1 .nil pass0 (pa_cons (pv 0) (pa_cons (pv 2) pa_nil)))) pa_nil))), ?_⟩
  refine ⟨.ref l, rfl, l, rfl, ⟨xs, SqL.of e⟩, fun D nD => ?_⟩
  refine lc_list (K := K) (a := l) (xs := xs) (fun i H1 => Same H H1 ∧ H1 D = some (.lst (((ts.take i).map fun t => t.pass ρ).map V.bl))) ⟨same_new nD _, upd_same⟩ (fun i H1 _ p => SqL.of (p.1 _ _ e)) ?_ ?_
  · rintro i x H1 hx ⟨s1, h1⟩
    obtain ⟨t, ht, tv⟩ := paired_get pr hx
    obtain ⟨dp, o, ho⟩ := each t (List.mem_of_getElem? ht)
    refine ⟨rfl, yes_if ⟨.ref r, rfl, x, rfl, r, x, t, ρ, o, rfl, hr2.mono s1, tv.mono s1, dp, ho, _, h1, small1000 (by simp; omega), Same.put s1 nD, ?_⟩⟩
    rw [upd_same, List.take_add_one, ht]
    simp
  · rintro H1 ⟨s1, h1⟩
    rw [lx, List.take_length] at h1
    refine ⟨D, _, rfl, SqL.of h1, ?_⟩
    have z := q _ s1
    rw [List.all_map]
    exact z
theorem scLMeets : FnScope ["_law_row", "_law_tests_here", "_law_test"] ["_law_row", "_law_tests_here"] (defScope sLMeets) := ⟨rfl, rfl, rfl, by decide +kernel, rfl, by decide +kernel, by decide +kernel⟩
theorem ok_lmeets {f f1 : Addr} {fd fd1 : FuncData} (F : Fun K "_law_meets" "_law_meets" sLMeets f fd) (G : FnOk P w K mg base CX0 5 f1 fd1 ["_law_row", "_law_test"] (spPass 5)) (m1 : mg "_law_passes" = some (.ref f1)) (k1 : PySem.W.keepIn K (.ref f1) = true) (b1 : Binds K fd1 ["_law_row", "_law_test"] []) :
    FnOk P w K mg base CX0 6 f fd ["_law_row", "_law_tests_here"] spMeets := by
  refine F.ok scLMeets (fun vs H Q E h => ?_) (fun cdv A outer s H vs Q E hr h => ?_)
  · obtain ⟨r, l, ρ, ts, rfl, _⟩ := h
    rfl
  obtain ⟨r, l, ρ, ts, rfl, hr2, tl, few, each, q⟩ := h
  obtain ⟨xs, e, pr⟩ := tl.ex
  have lx : xs.length = ts.length := pr.length
  refine ⟨_, pss_one (ps_ret (pe_cmpR (op_empty hr.units) (pe_lc (own := [("_law_test", 2)]) (g := gName 2) rfl scLMeets.nd (pi_list (pv 1)) (blkOk_by (N := ["_law_row", "_law_tests_here", "_law_test"]) (sc := defScope sLMeets) (by decide +kernel))
    (fun _ _ _ _ _ => pg_name (i := 2) scLMeets.nd rfl (Or.inl rfl)) (fun _ _ _ _ _ => pts_one (pt_not (pt_val (pe_call G hr (by rfl) m1 k1 b1 .nil pass0 (pa_cons (pv 0) (pa_cons (pv 2) pa_nil)))))) (fun _ _ _ _ _ => pv 2)) (pe_lst pa_nil) (nomark _))), ?_⟩
  refine ⟨.ref l, rfl, l, rfl, ⟨xs, SqL.of e⟩, fun D nD => ?_⟩
  refine lc_list (K := K) (a := l) (xs := xs) (fun i H1 => Same H H1 ∧ ∃ acc, H1 D = some (.lst acc) ∧ acc.length ≤ i ∧ acc.isEmpty = (ts.take i).all fun t => t.pass ρ) ⟨same_new nD _, [], upd_same, Nat.le_refl _, rfl⟩ (fun i H1 _ p => SqL.of (p.1 _ _ e)) ?_ ?_
  · rintro i x H1 hx ⟨s1, acc, h1, la, em⟩
    obtain ⟨t, ht, tv⟩ := paired_get pr hx
    obtain ⟨dp, o, ho⟩ := each t (List.mem_of_getElem? ht)
    have il : i < xs.length := (List.getElem?_eq_some_iff.mp hx).1
    refine ⟨rfl, .ref r, rfl, x, rfl, r, x, t, ρ, o, rfl, hr2.mono s1, tv.mono s1, dp, ho, _, rfl, ?_⟩
    cases ps : t.pass ρ with
    | true => exact ff_if rfl ⟨s1, acc, h1, Nat.le_succ_of_le la, by rw [all_snoc ht, ps, ← em]; simp⟩
    | false => exact tt_if rfl ⟨x, rfl, acc, h1, small1000 (by omega), Same.put s1 nD, _, upd_same, by rw [List.length_append]; exact Nat.succ_le_succ la, by rw [all_snoc ht, ps]; simp⟩
  · rintro H1 ⟨s1, acc, h1, la, em⟩
    rw [lx, List.take_length] at em
    refine ⟨small (Nat.zero_le _), fun L nL => ⟨D, L, acc, rfl, rfl, SqL.of ((same_new nL _) _ _ h1), SqL.of upd_same, ?_⟩⟩
    rw [em]
    exact q _ (s1.trans (same_new nL _))
theorem scFieldsIn : FnScope ["tests", "test"] ["tests"] (defScope sFieldsIn) := ⟨rfl, rfl, rfl, by decide +kernel, rfl, by decide +kernel, by decide +kernel⟩
def spFieldsIn : Sp := fun vs H Q _ => ∃ (l : Addr) (ts : List Tst), vs = [.ref l] ∧ TL H l ts ∧ ts.length ≤ 60 ∧ (∀ t ∈ ts, t.depth ≤ 4) ∧ ∀ (ys : List Str) (p : Addr) (H' : Hp), ys.Perm (once (ts.map Tst.field)) → sortedS ys = true → H p = none → Same H H' → H' p = some (.lst (ys.map V.str)) → Q (.ref p) H'
theorem core_field : ∀ t : Tst, t.core.field = t.field
  | .is _ _ => rfl
  | .non _ => rfl
  | .nt t => core_field t
theorem ok_fieldsin {f f1 : Addr} {fd fd1 : FuncData} (F : Fun K "fields_in" "fields_in" sFieldsIn f fd) (G : FnOk P w K mg base CX0 2 f1 fd1 ["test"] spInside) (m1 : mg "inside_nots" = some (.ref f1)) (k1 : PySem.W.keepIn K (.ref f1) = true) (b1 : Binds K fd1 ["test"] [])
    (msorted : mg "sorted" = none) : FnOk P w K mg base CX0 3 f fd ["tests"] spFieldsIn := by
  refine F.ok scFieldsIn (fun vs H Q E h => ?_) (fun cdv A outer s H vs Q E hr h => ?_)
  · obtain ⟨l, ts, rfl, _⟩ := h
    rfl
  obtain ⟨l, ts, rfl, tl, few, dps, q⟩ := h
  obtain ⟨xs, e, pr⟩ := tl.ex
  have lx : xs.length = ts.length := pr.length
  refine ⟨_, pss_one (ps_ret (pe_callB (cr_sortedSS rfl) (by rfl) msorted (by decide +kernel) (pa_cons (pe_scS (own := [("test", 1)]) (g := gName 1) rfl scFieldsIn.nd (pi_list (pv 0)) (blkOk_by (N := ["tests", "test"]) (sc := defScope sFieldsIn) (by decide +kernel))
    (fun _ _ _ _ _ => pg_name (i := 1) scFieldsIn.nd rfl (Or.inl rfl)) (fun _ _ _ _ _ => pe_ix (r := rIxT K) ix_tup (pe_call G hr (by rfl) m1 k1 b1 .nil pass0 (pa_cons (pv 1) pa_nil)) pe_int (fun _ _ => rfl))) pa_nil))), ?_⟩
  refine ⟨.ref l, rfl, l, rfl, ⟨xs, SqL.of e⟩, fun D nD => ?_⟩
  refine sc_list (K := K) (a := l) (xs := xs) (fun i H1 => Same H H1 ∧ H1 D = some (SetSO P w D (once ((ts.take i).map Tst.field)))) ⟨same_new nD _, upd_same⟩ (fun i H1 _ p => SqL.of (p.1 _ _ e)) ?_ ?_
  · rintro i x H1 hx ⟨s1, h1⟩
    obtain ⟨t, ht, tv⟩ := paired_get pr hx
    have il : i < xs.length := (List.getElem?_eq_some_iff.mp hx).1
    have len : (once ((ts.take i).map Tst.field)).length ≤ 60 := Nat.le_trans (once_len _) (by rw [List.length_map, List.length_take]; omega)
    refine ⟨rfl, x, rfl, x, t, rfl, tv.mono s1, dps t (List.mem_of_getElem? ht), fun v' tv' no => ?_⟩
    have big : 61 < scanBound := by decide
    have fin : ∃ (k : Str) (l : List Str), V.str t.field = .str k ∧ H1 D = some (SetSO P w D l) ∧ l.length + 1 < scanBound ∧ (Same H (upd H1 D (SetSO P w D (if k ∈ l then l else k :: l))) ∧ (upd H1 D (SetSO P w D (if k ∈ l then l else k :: l))) D = some (SetSO P w D (once ((ts.take (i + 1)).map Tst.field)))) := by
      refine ⟨_, _, rfl, h1, by omega, Same.put s1 nD, ?_⟩
      rw [upd_same, List.take_add_one, ht]
      show some (SetSO P w D (ins (once ((ts.take i).map Tst.field)) t.field)) = _
      rw [← once_snoc]
      simp
    generalize ec : t.core = c at tv' no
    have cf : c.field = t.field := by rw [← ec]; exact core_field t
    rw [← cf] at fin
    cases tv' with
    | @is t1 l1 f ws a b => exact ⟨t1, _, 1, _, rfl, rfl, .inl (.inl a), atI_nat (j := 1) rfl, fin⟩
    | @non t1 f a => exact ⟨t1, _, 1, _, rfl, rfl, .inl (.inl a), atI_nat (j := 1) rfl, fin⟩
    | nt a bb => cases no
  · rintro H1 ⟨s1, h1⟩
    rw [lx, List.take_length] at h1
    have len : (once (ts.map Tst.field)).length < 64 := Nat.lt_of_le_of_lt (once_len _) (by rw [List.length_map]; omega)
    exact ⟨D, _, rfl, h1, len, fun ys p py so np => q ys p _ py so (s1.free np) (s1.trans (same_new np _)) upd_same⟩
end
end Lw

set_option Elab.async false
set_option linter.all false
set_option maxRecDepth 100000
set_option maxHeartbeats 4000000
namespace Lw
open PySem PySem.Spec PyProof.Rows L2
inductive Fld where
  | mk (ws : List Str) | lk (t : Str) | tg
inductive FV (H : Hp) : V → Fld → Prop
  | mk {t l : Addr} {ws : List Str} (a : H t = some (.tup [.str "mark", .ref l])) (b : H l = some (.lst (ws.map V.str))) (c : ws ≠ []) (d : ∀ z ∈ ws, NameOk z) (few : ws.length ≤ 3) : FV H (.ref t) (.mk ws)
  | lk {t : Addr} {n : Str} (a : H t = some (.tup [.str "link", .str n])) : FV H (.ref t) (.lk n)
  | tg {t : Addr} (a : H t = some (.tup [.str "tag"])) : FV H (.ref t) .tg
/-- a dict of texts -/
abbrev txD (es : List (Str × V)) : List (Key × V) := es.map fun p => (Sum.inr p.1, p.2)
/-- the fields of a table, in the order in which they came -/
structure FsAt (H : Hp) (a : Addr) (fs : List (Str × Fld)) : Prop where
  ex : ∃ es : List (Str × V), H a = some (.dK (txD es)) ∧ Paired (fun e f => e.1 = f.1 ∧ FV H e.2 f.2) es fs
  nd : (fs.map (·.1)).Nodup
  few : fs.length ≤ 6
  ok : ∀ p ∈ fs, NameOk p.1
theorem FV.mono {H H' : Hp} {v : V} {f : Fld} (x : FV H v f) (s : Same H H') : FV H' v f := by
  cases x with
  | mk a b c d e => exact .mk (s _ _ a) (s _ _ b) c d e
  | lk a => exact .lk (s _ _ a)
  | tg a => exact .tg (s _ _ a)
theorem FV.but {H H' : Hp} {b c : Addr} {v : V} {f : Fld} (x : FV H v f) (g : BagAt H b c) (s : But b H H') : FV H' v f := by
  obtain ⟨x1, y1, z1, ns, h1, _, _⟩ := g
  have nt : ∀ {a : Addr} {xs : List V}, H a = some (.tup xs) → a ≠ b := fun e n => by rw [n, h1] at e; cases e
  have nl : ∀ {a : Addr} {ws : List Str}, H a = some (.lst (ws.map V.str)) → a ≠ b := fun {a ws} e n => by
    rw [n, h1] at e
    injection e with e
    injection e with e
    match ws with
    | [] => simp at e
    | w :: r => simp at e
  cases x with
  | mk a b c d e => exact .mk (s _ _ a (nt a)) (s _ _ b (nl b)) c d e
  | lk a => exact .lk (s _ _ a (nt a))
  | tg a => exact .tg (s _ _ a (nt a))
theorem pairedF {H H' : Hp} {es : List (Str × V)} {fs : List (Str × Fld)} (x : Paired (fun e f => e.1 = f.1 ∧ FV H e.2 f.2) es fs) (up : ∀ v f, FV H v f → FV H' v f) : Paired (fun e f => e.1 = f.1 ∧ FV H' e.2 f.2) es fs := by
  induction x with
  | nil => exact .nil
  | cons a _ ih => exact .cons ⟨a.1, up _ _ a.2⟩ ih
theorem FsAt.mono {H H' : Hp} {a : Addr} {fs : List (Str × Fld)} (x : FsAt H a fs) (s : Same H H') : FsAt H' a fs := by
  obtain ⟨vs, e, p⟩ := x.ex
  exact ⟨⟨vs, s _ _ e, pairedF p fun _ _ z => z.mono s⟩, x.nd, x.few, x.ok⟩
theorem FsAt.but {H H' : Hp} {a b c : Addr} {fs : List (Str × Fld)} (x : FsAt H a fs) (g : BagAt H b c) (s : But b H H') : FsAt H' a fs := by
  obtain ⟨vs, e, p⟩ := x.ex
  refine ⟨⟨vs, s _ _ e fun n => ?_, pairedF p fun _ _ z => z.but g s⟩, x.nd, x.few, x.ok⟩
  obtain ⟨x1, y1, z1, ns, h1, _, _⟩ := g
  rw [n, h1] at e
  cases e
/-- a dict of texts: one more -/
theorem putK_new {es : List (Str × V)} {k : Str} {v : V} (new : k ∉ es.map (·.1)) : putK (txD es) (.inr k) v = txD (es ++ [(k, v)]) := by
  have no : (txD es).any (fun kv => decide (kv.1 = Sum.inr k)) = false := by
    rw [List.any_eq_false]
    intro p hp
    obtain ⟨q, hq, rfl⟩ := List.mem_map.mp hp
    simp only [decide_eq_true_eq]
    intro z
    exact new (Sum.inr.inj z ▸ List.mem_map.mpr ⟨q, hq, rfl⟩)
  unfold putK
  rw [if_neg (by rw [no]; exact Bool.false_ne_true)]
  show txD es ++ [(Sum.inr k, v)] = (es ++ [(k, v)]).map fun p => (Sum.inr p.1, p.2)
  rw [List.map_append]
  rfl
theorem paired_keys {H : Hp} {es : List (Str × V)} {fs : List (Str × Fld)} (x : Paired (fun e f => e.1 = f.1 ∧ FV H e.2 f.2) es fs) : es.map (·.1) = fs.map (·.1) := by
  induction x with
  | nil => rfl
  | cons a _ ih => rw [List.map_cons, List.map_cons, ih, a.1]
theorem paired_snoc {α β : Type} {R : α → β → Prop} {xs : List α} {ys : List β} {x : α} {y : β} (h : Paired R xs ys) (r : R x y) : Paired R (xs ++ [x]) (ys ++ [y]) := by
  induction h with
  | nil => exact .cons r .nil
  | cons a _ ih => exact .cons a ih
theorem nd_snoc {α : Type} {l : List α} {x : α} (h : l.Nodup) (n : x ∉ l) : (l ++ [x]).Nodup := by
  rw [List.nodup_append]
  exact ⟨h, by simp, fun a ha b hb e => n (by rw [List.mem_singleton] at hb; rw [← hb, ← e]; exact ha)⟩
abbrev sFields : Stmt := topS 12
abbrev NFields : List Str := ["_law_bag_here", "_law_tables", "_law_rare", "_law_labels", "_law_found", "_law_k", "_law_sort"]
section
variable {P : Program} {w : World} {K : PySem.W.Frag} {mg : Str → Option Value} {base : Heap}
theorem scFields : FnScope NFields ["_law_bag_here", "_law_tables", "_law_rare"] (defScope sFields) := ⟨rfl, rfl, rfl, by decide +kernel, rfl, by decide +kernel, by decide +kernel⟩
def spFields : Sp := fun vs H Q _ => ∃ (b c tb : Addr) (nm : Str), vs = [.ref b, .ref tb, .int 2] ∧ BagAt H b c ∧ H tb = some (.lst [.str nm]) ∧ ∀ (p : Addr) (fs : List (Str × Fld)) (H' : Hp), FsAt H' p fs → H p = none → BagAt H' b c → But b H H' → Q (.ref p) H'
theorem cond_read {k : Nat} {b c : Addr} {σ : L2.St} {H3 : Hp} {T F : Hp → Prop} (h0 : σ[0]? = some (some (.ref b))) (h2 : σ[2]? = some (some (.int 2))) (h5 : σ[5]? = some (some (.int (k : Nat)))) (hb : BagAt H3 b c)
    (t : ∀ H4, BagAt H4 b c → But b H3 H4 → T H4) (f : ∀ H4, BagAt H4 b c → But b H3 H4 → F H4) :
    tOr (tAnd (tTest (tOp (rI0 fun i j => V.bl (decide (i < j))) (tVar 5) (tC (V.int 3)))) (tTest (tOp (rI0 fun i j => V.bl (decide (j < i))) (tCall spTake [] E0 (tCons (tVar 0) (tCons (tC (V.int 4)) tNil))) (tC (V.int 0)))))
      (tAnd (tTest (tOp (rI0 fun i j => V.bl (decide (j < i))) (tVar 5) (tC (V.int 2)))) (tTest (tOp rEq (tCall spTake [] E0 (tCons (tVar 0) (tCons (tVar 2) tNil))) (tC (V.int 0))))) σ H3 (fun b H1 => if b = true then T H1 else F H1) := by
  by_cases h : k < 3
  · refine ⟨_, h5, _, _, rfl, rfl, _, rfl, tt_if (decide_eq_true (by omega)) ?_⟩
    refine ⟨_, h0, b, c, 4, rfl, hb, by decide, by decide, fun r H4 r0 r1 hb4 B4 => ⟨r, 0, rfl, rfl, _, rfl, ?_⟩⟩
    by_cases g : 0 < r
    · exact tt_if (decide_eq_true g) (tt_if rfl (t _ hb4 B4))
    · exact ff_if (decide_eq_false g) ⟨_, h5, _, _, rfl, rfl, _, rfl, ff_if (decide_eq_false (by omega)) (ff_if rfl (f _ hb4 B4))⟩
  · refine ⟨_, h5, _, _, rfl, rfl, _, rfl, ff_if (decide_eq_false (by omega)) (ff_if rfl ⟨_, h5, _, _, rfl, rfl, _, rfl, tt_if (decide_eq_true (by omega)) ?_⟩)⟩
    refine ⟨_, h0, _, h2, b, c, 2, rfl, hb, by decide, by decide, fun r H4 r0 r1 hb4 B4 => ⟨rfl, _, rfl, ?_⟩⟩
    by_cases g : V.int r = V.int 0
    · exact tt_if (decide_eq_true g) (t _ hb4 B4)
    · exact ff_if (decide_eq_false g) (f _ hb4 B4)
theorem ok_fields {f f1 f2 : Addr} {fd fd1 fd2 : FuncData} (F : Fun K "_law_fields" "_law_fields" sFields f fd) (G1 : FnOk P w K mg base CX0 1 f1 fd1 ["_law_bag_here", "_law_many"] spTake) (m1 : mg "_law_take" = some (.ref f1)) (k1 : PySem.W.keepIn K (.ref f1) = true) (b1 : Binds K fd1 ["_law_bag_here", "_law_many"] [])
    (G2 : FnOk P w K mg base CX0 2 f2 fd2 ["_law_bag_here", "_law_many"] spNames) (m2 : mg "_law_names" = some (.ref f2)) (k2 : PySem.W.keepIn K (.ref f2) = true) (b2 : Binds K fd2 ["_law_bag_here", "_law_many"] [])
    (mrange : mg "range" = none) (mlen : mg "len" = none) : FnOk P w K mg base CX0 3 f fd ["_law_bag_here", "_law_tables", "_law_rare"] spFields := by
  refine F.ok scFields (fun vs H Q E h => ?_) (fun cdv A outer s H vs Q E hr h => ?_)
  · obtain ⟨b, c, tb, nm, rfl, _⟩ := h
    rfl
  obtain ⟨b, c, tb, nm, rfl, hb, ht, q⟩ := h
  refine ⟨_, pss_cons (ps_par (i := 3) (j := 4) rfl scFields.nd rfl rfl (by decide) rfl rfl (pa_cons (pe_call G2 hr (by rfl) m2 k2 b2 .nil pass0 (pa_cons (pv 0) (pa_cons pe_int pa_nil))) (pa_cons pe_dnewK pa_nil)) (by rfl))
    (pss_cons (ps_for PassesOwn.never rfl (pi_range1 (by rfl) mrange (pa_cons pe_int pa_nil)) (pg_name (i := 5) scFields.nd rfl (.inl rfl))
      (pss_one (ps_if (PW.pt (pw_or (PW.pt (pw_and (pt_cmpR op_lt (pv 5) pe_int (nomark _)) (pw_and1 (pt_cmpR op_gt (pe_call G1 (hr.mono (by decide)) (by rfl) m1 k1 b1 .nil pass0 (pa_cons (pv 0) (pa_cons pe_int pa_nil))) pe_int (nomark _))))) (pw_or1 (PW.pt (pw_and (pt_cmpR op_gt (pv 5) pe_int (nomark _)) (pw_and1 (pt_cmpR op_eq (pe_call G1 (hr.mono (by decide)) (by rfl) m1 k1 b1 .nil pass0 (pa_cons (pv 0) (pa_cons (pv 2) pa_nil))) pe_int (nomark _)))))))) (pss_cons (ps_set (i := 6) scFields.nd rfl (.inl rfl) (pe_ix ix_list (pe_lst (pa_cons pe_str (pa_cons pe_str (pa_cons pe_str pa_nil)))) (pe_op op_mod (pv 5) pe_int) (fun _ _ => rfl))) (pss_one (ps_if (pt_cmpR op_eq (pv 6) pe_str (nomark _)) (pss_one (ps_dput (hu_of hr) (pv 4) (pe_ix ix_list (pv 3) (pv 5) (fun _ _ => rfl)) (pe_tup (pa_cons pe_str (pa_cons (pe_call G2 hr (by rfl) m2 k2 b2 .nil pass0 (pa_cons (pv 0) (pa_cons (pe_op op_add pe_int (pe_call G1 (hr.mono (by decide)) (by rfl) m1 k1 b1 .nil pass0 (pa_cons (pv 0) (pa_cons pe_int pa_nil)))) pa_nil))) pa_nil))) (by rfl))) (pss_one (ps_if (pt_cmpR op_eq (pv 6) pe_str (nomark _)) (pss_one (ps_dput (hu_of hr) (pv 4) (pe_ix ix_list (pv 3) (pv 5) (fun _ _ => rfl)) (pe_tup (pa_cons pe_str (pa_cons (pe_ix ix_list (pv 1) (pe_call G1 (hr.mono (by decide)) (by rfl) m1 k1 b1 .nil pass0 (pa_cons (pv 0) (pa_cons (pe_callB call_len_seq (by rfl) mlen (by decide +kernel) (pa_cons (pv 1) pa_nil)) pa_nil))) (fun _ _ => rfl)) pa_nil))) (by rfl))) (pss_one (ps_dput (hu_of hr) (pv 4) (pe_ix ix_list (pv 3) (pv 5) (fun _ _ => rfl)) (pe_tup (pa_cons pe_str pa_nil)) (by rfl)))))))) pss_nil)))
    (pss_one (ps_ret (pv 4)))), ?_⟩
  refine ⟨.ref b, rfl, b, c, 6, rfl, hb, by decide, by decide, fun Lb zs H1 lz ndz okz eL nL hb1 B1 d nd' => ⟨.ref Lb, .ref d, rfl, ?_⟩⟩
  have l6 : zs.length = 6 := by omega
  have nLb : Lb ≠ b := hb.nb nL
  have dH : H d = none := B1.free nd' (hb1.nb nd')
  have eL2 : (upd H1 d (.dK [])) Lb = some (.lst (zs.map V.str)) := by rw [upd_ne (ne_of_none eL nd')]; exact eL
  have eT2 : (upd H1 d (.dK [])) tb = some (.lst [.str nm]) := by
    have nb : tb ≠ b := fun z => by
      obtain ⟨x1, y1, z1, ns, h1, _, _⟩ := hb
      rw [z, h1] at ht
      cases ht
    have e := B1 _ _ ht nb
    rw [upd_ne (ne_of_none e nd')]
    exact e
  have fsat : FsAt (upd H1 d (.dK [])) d [] := ⟨⟨[], upd_same, .nil⟩, List.nodup_nil, Nat.zero_le _, fun p hp => absurd hp (by simp)⟩
  refine ⟨6, rfl, by decide, by decide, for_range (lo := 0) (n := 6) (fun i σ H3 => ∃ (fs : List (Str × Fld)) (v5 v6 : Option V), σ = [some (.ref b), some (.ref tb), some (.int 2), some (.ref Lb), some (.ref d), v5, v6] ∧ FsAt H3 d fs ∧ fs.length ≤ i ∧ (∀ p ∈ fs, p.1 ∈ zs.take i) ∧
      H3 Lb = some (.lst (zs.map V.str)) ∧ H3 tb = some (.lst [.str nm]) ∧ BagAt H3 b c ∧ But b H H3) ⟨[], none, none, rfl, fsat, Nat.le_refl _, fun p hp => absurd hp (by simp), eL2, eT2, hb1.new nd', B1.put dH |>.trans (But.refl _ _)⟩ ?_ ?_⟩
  · rintro i σ H3 hi ⟨fs, v5, v6, rfl, fa, lf, sub, e3, t3, hb3, B3⟩
    rw [Int.zero_add]
    have iz : i < zs.length := by omega
    have ez : zs[i]? = some zs[i] := List.getElem?_eq_getElem iz
    generalize zs[i] = z at ez
    have newz : z ∉ fs.map (·.1) := fun hz => by
      obtain ⟨p, hp, e⟩ := List.mem_map.mp hz
      have m := sub p hp
      rw [e] at m
      have nd2 : (zs.take (i + 1)).Nodup := ndz.sublist (List.take_sublist _ _)
      rw [List.take_add_one, ez] at nd2
      exact (List.nodup_append.mp nd2).2.2 z m z (by simp) rfl
    have okz' : NameOk z := okz z (List.mem_of_getElem? ez)
    have sub2 : ∀ p ∈ fs, p.1 ∈ zs.take (i + 1) := fun p hp => List.mem_of_mem_take (l := zs.take (i+1)) (i := i) (by rw [List.take_take, Nat.min_eq_left (Nat.le_succ _)]; exact sub p hp)
    have inz : z ∈ zs.take (i + 1) := by rw [List.take_add_one, ez]; simp
    have nLb' : ∀ {H4}, But b H3 H4 → H4 Lb = some (.lst (zs.map V.str)) := fun x => x _ _ e3 nLb
    -- a field more
    have more : ∀ (v : V) (fl : Fld) (H5 : Hp) (es : List (Str × V)), FsAt H5 d fs → H5 d = some (.dK (txD es)) → Paired (fun e f => e.1 = f.1 ∧ FV H5 e.2 f.2) es fs → FV H5 v fl → (∀ u f, FV H5 u f → FV (upd H5 d (.dK (txD (es ++ [(z, v)])))) u f) → FsAt (upd H5 d (.dK (txD (es ++ [(z, v)])))) d (fs ++ [(z, fl)]) := by
      intro v fl H5 es fa5 e5 p5 fv up
      refine ⟨⟨es ++ [(z, v)], upd_same, paired_snoc (pairedF p5 up) ⟨rfl, up _ _ fv⟩⟩, ?_, ?_, fun p hp => ?_⟩
      · rw [List.map_append]
        exact nd_snoc fa5.nd newz
      · rw [List.length_append]
        exact Nat.le_trans (Nat.succ_le_succ lf) (by omega)
      · rcases List.mem_append.mp hp with h | h
        · exact fa5.ok p h
        · rw [List.mem_singleton.mp h]
          exact okz'
    have upv : ∀ {H5 : Hp} {es : List (Str × V)} {o : HO}, H5 d = some (.dK (txD es)) → ∀ u f, FV H5 u f → FV (upd H5 d o) u f := by
      intro H5 es o e5 u f x
      cases x with
      | mk a b c d' e => exact .mk (by rw [upd_ne (fun n => by rw [n, e5] at a; cases a)]; exact a) (by rw [upd_ne (fun n => by rw [n, e5] at b; cases b)]; exact b) c d' e
      | lk a => exact .lk (by rw [upd_ne (fun n => by rw [n, e5] at a; cases a)]; exact a)
      | tg a => exact .tg (by rw [upd_ne (fun n => by rw [n, e5] at a; cases a)]; exact a)
    refine cond_read (k := i) rfl rfl rfl hb3 (fun H4 hb4 B4 => ?_) (fun H4 hb4 B4 => ?_)
    · have ntb : tb ≠ b := fun z => by obtain ⟨x1, y1, z1, ns, h1, _, _⟩ := hb3; rw [z, h1] at t3; cases t3
      have ndb : d ≠ b := hb.nb dH
      have fin : ∀ (v : V) (fl : Fld) (H5 : Hp), But b H4 H5 → BagAt H5 b c → FV H5 v fl → ∃ a H6, V.ref d = V.ref a ∧ DPut H5 a (.str z) v H6 ∧ ∃ (fs : List (Str × Fld)), FsAt H6 d fs ∧ fs.length ≤ i + 1 ∧ (∀ p ∈ fs, p.1 ∈ zs.take (i + 1)) ∧
          H6 Lb = some (.lst (zs.map V.str)) ∧ H6 tb = some (.lst [.str nm]) ∧ BagAt H6 b c ∧ But b H H6 := by
        intro v fl H5 B5 hb5 fv
        have B35 := B4.trans B5
        have fa5 := fa.but hb3 B35
        obtain ⟨es, e5, p5⟩ := fa5.ex
        have pk := paired_keys p5
        have les : es.length ≤ i := by
          have := congrArg List.length pk
          rw [List.length_map, List.length_map] at this
          omega
        have pn : putK (txD es) (.inr z) v = txD (es ++ [(z, v)]) := putK_new (by rw [pk]; exact newz)
        have L5 := B35 _ _ e3 nLb
        have T5 := B35 _ _ t3 ntb
        refine ⟨d, _, rfl, DPut.k (k := .inr z) e5 (Nat.lt_of_le_of_lt (by rw [List.length_map]; exact les) (Nat.lt_of_lt_of_le (Nat.lt_trans hi (by decide : 6 < 1000)) (small (Nat.le_refl _)))), fs ++ [(z, fl)], ?_⟩
        rw [pn]
        refine ⟨more v fl H5 es fa5 e5 p5 fv (upv e5), by rw [List.length_append]; exact Nat.succ_le_succ lf, fun p hp => ?_, ?_, ?_, hb5.set ndb (hb.nc dH), (B3.trans B35).put dH⟩
        · rcases List.mem_append.mp hp with h | h
          · exact sub2 p h
          · rw [List.mem_singleton.mp h]
            exact inz
        · rw [upd_ne (fun n => by rw [n, e5] at L5; cases L5)]
          exact L5
        · rw [upd_ne (fun n => by rw [n, e5] at T5; cases T5)]
          exact T5
      have atz : ∀ {H5}, But b H4 H5 → SqL K H5 Lb (zs.map V.str) := fun x => .inl (.inl ((B4.trans x) _ _ e3 nLb))
      have azz : atI (zs.map V.str) (i : Int) = some (V.str z) := atI_nat (by rw [List.getElem?_map, ez]; rfl)
      refine ⟨small (by show 3 ≤ 1000; decide), fun ls nls => ⟨_, rfl, _, _, rfl, rfl, (by decide : (0:Int)<3), ?_⟩⟩
      have B5 : But b H4 (upd H4 ls (.lst [.str "mark", .str "link", .str "tag"])) := (But.refl b H4).new nls
      have hb5 := hb4.new nls (o := .lst [.str "mark", .str "link", .str "tag"])
      have hls : (upd H4 ls (.lst [.str "mark", .str "link", .str "tag"])) ls = some (.lst [.str "mark", .str "link", .str "tag"]) := upd_same
      generalize (upd H4 ls (.lst [.str "mark", .str "link", .str "tag"])) = H5 at hls B5 hb5 ⊢
      have i3 : (i : Int) % 3 = 0 ∨ (i : Int) % 3 = 1 ∨ (i : Int) % 3 = 2 := by omega
      rcases i3 with e | e | e
      · refine ⟨ls, _, _, .str "mark", rfl, rfl, .inl (.inl hls), by rw [e]; rfl, ?_⟩
        refine ⟨_, rfl, rfl, _, rfl, tt_if (by decide +kernel) ?_⟩
        refine ⟨_, rfl, _, rfl, b, c, 3, rfl, hb5, by decide, by decide, fun r H6 r0 r1 hb6 B6 => ⟨1, r, rfl, rfl, b, c, 1 + r, rfl, hb6, by omega, by omega, fun Lm ws H7 lw ndw okw eLm nLm hb7 B7 => ⟨small (by show 2 ≤ 1000; decide), fun t nt => ?_⟩⟩⟩
        have B8 : But b H4 (upd H7 t (.tup [.str "mark", .ref Lm])) := ((B5.trans B6).trans B7).new nt
        have fv : FV (upd H7 t (.tup [.str "mark", .ref Lm])) (.ref t) (.mk ws) := .mk upd_same (by rw [upd_ne (ne_of_none eLm nt)]; exact eLm) (fun n => by rw [n] at lw; simp at lw; omega) okw (by omega)
        obtain ⟨a, H9, ea, pa, fs9, w1, w2, w3, w4, w5, w6, w7⟩ := fin _ _ _ B8 (hb7.new nt) fv
        exact ⟨_, rfl, _, rfl, _, rfl, Lb, _, i, _, rfl, rfl, atz B8, azz, a, H9, ea, pa, fs9, _, _, rfl, w1, w2, w3, w4, w5, w6, w7⟩
      · refine ⟨ls, _, _, .str "link", rfl, rfl, .inl (.inl hls), by rw [e]; rfl, ?_⟩
        refine ⟨_, rfl, rfl, _, rfl, ff_if (by decide +kernel) ⟨_, rfl, rfl, _, rfl, tt_if (by decide +kernel) ?_⟩⟩
        have T5 := (B4.trans B5) _ _ t3 ntb
        refine ⟨_, rfl, _, rfl, _, rfl, tb, _, rfl, .inl (.inl (.inl T5)), b, c, 1, rfl, hb5, by decide, by decide, fun r H6 r0 r1 hb6 B6 => ⟨tb, _, r, .str nm, rfl, rfl, .inl (.inl (B6 _ _ T5 ntb)), ?_, small (by show 2 ≤ 1000; decide), fun t nt => ?_⟩⟩
        · have : r = 0 := by omega
          rw [this]
          rfl
        have B8 : But b H4 (upd H6 t (.tup [.str "link", .str nm])) := (B5.trans B6).new nt
        obtain ⟨a, H9, ea, pa, fs9, w1, w2, w3, w4, w5, w6, w7⟩ := fin _ (.lk nm) _ B8 (hb6.new nt) (.lk upd_same)
        exact ⟨_, rfl, _, rfl, _, rfl, Lb, _, i, _, rfl, rfl, atz B8, azz, a, H9, ea, pa, fs9, _, _, rfl, w1, w2, w3, w4, w5, w6, w7⟩
      · refine ⟨ls, _, _, .str "tag", rfl, rfl, .inl (.inl hls), by rw [e]; rfl, ?_⟩
        refine ⟨_, rfl, rfl, _, rfl, ff_if (by decide +kernel) ⟨_, rfl, rfl, _, rfl, ff_if (by decide +kernel) ?_⟩⟩
        refine ⟨small (by show 1 ≤ 1000; decide), fun t nt => ?_⟩
        have B8 : But b H4 (upd H5 t (.tup [.str "tag"])) := B5.new nt
        obtain ⟨a, H9, ea, pa, fs9, w1, w2, w3, w4, w5, w6, w7⟩ := fin _ .tg _ B8 (hb5.new nt) (.tg upd_same)
        exact ⟨_, rfl, _, rfl, _, rfl, Lb, _, i, _, rfl, rfl, atz B8, azz, a, H9, ea, pa, fs9, _, _, rfl, w1, w2, w3, w4, w5, w6, w7⟩
    · exact ⟨fs, _, _, rfl, fa.but hb3 B4, Nat.le_succ_of_le lf, sub2, nLb' B4, B4 _ _ t3 (fun z => by obtain ⟨x1, y1, z1, ns, h1, _, _⟩ := hb3; rw [z, h1] at t3; cases t3), hb4, B3.trans B4⟩
  · rintro σ H3 ⟨fs, v5, v6, rfl, fa, lf, sub, e3, t3, hb3, B3⟩
    exact ⟨.ref d, rfl, q d fs H3 fa dH hb3 B3⟩
end
end Lw

set_option Elab.async false
set_option linter.all false
set_option maxRecDepth 100000
set_option maxHeartbeats 4000000
namespace Lw
open PySem PySem.Spec PyProof.Rows L2
/-- a dict held against the empty one -/
def rNeDE : R2 := fun x y H Q => ∃ (a b : Addr) (ks : List (Key × V)), x = .ref a ∧ y = .ref b ∧ H a = some (.dK ks) ∧ H b = some (.dK []) ∧ Q (.bl (!ks.isEmpty)) H
theorem op_ne_dictE {X : Cx} (hu : X.A.units < cLine) : OpR X (compareOp .NotEq) rNeDE := by
  intro pins s σ H x y v u Q I rx ry h
  obtain ⟨a, b, ks, rfl, rfl, ea, eb, q⟩ := h
  obtain rfl : v = Value.ref a := rx
  obtain rfl : u = Value.ref b := ry
  obtain ⟨_, ya, va, ra, da⟩ := (show ObjOk X.prog X.w H s.heap a (.dK ks) from I.hok a _ ea)
  obtain ⟨_, yb, vb, rb, db⟩ := (show ObjOk X.prog X.w H s.heap b (.dK []) from I.hok b _ eb)
  cases rb
  refine PySem.W.keq_ne (knd := mixKind X.prog X.w) (r := true) ya yb da db hu (fun e => ?_) ?_
  · have : va = [] := List.eq_nil_of_length_eq_zero e
    subst this
    exact .nil
  · have e : (!(va.length == ([] : List (Key × Value)).length && true)) = !ks.isEmpty := by
      cases ra with
      | nil => rfl
      | cons a b => rfl
    rw [e]
    exact ⟨.bl _, _, I, rfl, q⟩
theorem cut_take1 (x : V) (xs : List V) : cutV (x :: xs) none (some 1) = [x] := by
  have e : HT.sIx (x :: xs).length (x :: xs).length (some ((1 : Nat) : Int)) = min 1 (x :: xs).length := HT.sIx_nat _ _ 1
  unfold cutV
  rw [show HT.sIx (x :: xs).length (x :: xs).length (some (1 : Int)) = min 1 (x :: xs).length from e, HT.sIx_none]
  have m : min 1 (x :: xs).length = 1 := by rw [List.length_cons]; omega
  rw [m]
  rfl
theorem pick4' {r : Int} (h0 : 0 ≤ r) (h1 : r < 4) : ∃ ln : Int, atI [V.int 0, V.int 0, V.int 1, V.int 2] r = some (.int ln) ∧ 0 ≤ ln ∧ ln ≤ 2 := by
  obtain h | h | h | h : r = 0 ∨ r = 1 ∨ r = 2 ∨ r = 3 := by omega
  · exact ⟨0, by rw [h]; rfl, by decide, by decide⟩
  · exact ⟨0, by rw [h]; rfl, by decide, by decide⟩
  · exact ⟨1, by rw [h]; rfl, by decide, by decide⟩
  · exact ⟨2, by rw [h]; rfl, by decide, by decide⟩
/-- what a table of fields has at a name -/
theorem fv_at {H : Hp} {es : List (Str × V)} {fs : List (Str × Fld)} {z : Str} (x : Paired (fun e f => e.1 = f.1 ∧ FV H e.2 f.2) es fs) (m : z ∈ fs.map (·.1)) : ∃ v fl, valV (txD es) (.inr z) = some v ∧ FV H v fl := by
  induction x with
  | nil => cases m
  | @cons e f es fs a _ ih =>
    by_cases q : e.1 = z
    · refine ⟨e.2, f.2, ?_, a.2⟩
      show ((List.find? _ ((Sum.inr e.1, e.2) :: txD es)).map _) = _
      rw [List.find?_cons_of_pos (by rw [q]; exact decide_eq_true rfl)]
      rfl
    · obtain ⟨v, fl, e1, fv⟩ := ih (by
        rcases List.mem_cons.mp m with h | h
        · exact absurd (a.1.trans h.symm) q
        · exact h)
      refine ⟨v, fl, ?_, fv⟩
      show ((List.find? _ ((Sum.inr e.1, e.2) :: txD es)).map _) = _
      rw [List.find?_cons_of_neg (by rw [decide_eq_true_eq]; exact fun n => q (Sum.inr.inj n))]
      exact e1
theorem TV.isRef {H : Hp} {v : V} {t : Tst} (x : TV H v t) : ∃ a, v = .ref a := by
  cases x with
  | is a b => exact ⟨_, rfl⟩
  | non a => exact ⟨_, rfl⟩
  | nt a b => exact ⟨_, rfl⟩
/-- a list of tests grows: the tests stand -/
theorem TV.app {H : Hp} {D : Addr} {vs : List V} {ts : List Tst} {o : HO} (eD : H D = some (.lst vs)) (pp : Paired (TV H) vs ts) {v : V} {t : Tst} (x : TV H v t) (ne : ∀ f ws, t.core = .is f ws → ws ≠ []) : TV (upd H D o) v t := by
  have nt : ∀ {a : Addr} {xs : List V}, H a = some (.tup xs) → a ≠ D := fun e n => by rw [n, eD] at e; cases e
  induction x with
  | @is t l f ws a b =>
    refine .is (by rw [upd_ne (nt a)]; exact a) (by
      rw [upd_ne (fun n => ?_)]
      · exact b
      · rw [n, eD] at b
        injection b with b
        injection b with b
        have w0 := ne f ws rfl
        match ws, w0 with
        | w :: r, _ =>
          rw [List.map_cons] at b
          subst b
          cases pp with
          | cons q _ =>
            obtain ⟨a, e⟩ := q.isRef
            cases e)
  | non a => exact .non (by rw [upd_ne (nt a)]; exact a)
  | nt a _ ih => exact .nt (by rw [upd_ne (nt a)]; exact a) (ih ne)
theorem tv_list {H H' : Hp} {vs : List V} {ts : List Tst} (x : Paired (TV H) vs ts) (up : ∀ v t, t ∈ ts → TV H v t → TV H' v t) : Paired (TV H') vs ts := by
  induction x with
  | nil => exact .nil
  | cons a _ ih => exact .cons (up _ _ List.mem_cons_self a) (ih fun v t m => up v t (List.mem_cons_of_mem _ m))
/-- nots drawn, and the test put at the end -/
theorem turn_read {K : PySem.W.Frag} {b c D : Addr} {v1 v2 v4 v5 v7 v8 v9 v10 : Option V} {v : V} {t : Tst} {vs : List V} {H7 : Hp} {Dn : Ends} (hb : BagAt H7 b c) (nDb : D ≠ b) (hD : H7 D = some (.lst vs)) (few : vs.length < 100) (tv : TV H7 v t) (dt : t.depth = 0)
    (fin : ∀ (v' : V) (t' : Tst) (H8 : Hp) (v9' : Option V), TV H8 v' t' → t'.depth ≤ 2 → t'.field = t.field → t'.core = t.core → BagAt H8 b c → But b H7 H8 → Dn.nx [some (.ref b), v1, v2, some (.ref D), v4, v5, some v', v7, v8, v9', v10] (upd H8 D (.lst (vs ++ [v'])))) :
    tSeq (tFor (iRng1 (tCons (tOp (rIxL K) (tLst (tCons (tC (V.int 0)) (tCons (tC (V.int 0)) (tCons (tC (V.int 1)) (tCons (tC (V.int 2)) tNil))))) (tCall spTake [] E0 (tCons (tVar 0) (tCons (tC (V.int 4)) tNil)))) tNil)) (gName 9) (tAsg (tTup (tCons (tC (V.str "not")) (tCons (tVar 6) tNil))) (gName 6)))
      (tDrop (tBM K "list" rAppend (tVar 3) (tCons (tVar 6) tNil))) Dn [some (.ref b), v1, v2, some (.ref D), v4, v5, some v, v7, v8, v9, v10] H7 := by
  refine ⟨small (by show 4 ≤ 1000; decide), fun l nl => ⟨_, rfl, b, c, 4, rfl, hb.new nl, by decide, by decide, fun r H8 r0 r1 hb8 B8 => ?_⟩⟩
  have nlb : l ≠ b := hb.nb nl
  obtain ⟨ln, hln, l0, l2⟩ := pick4' r0 r1
  have B7 : But b H7 H8 := ((But.refl b H7).new nl).trans B8
  refine ⟨l, _, r, .int ln, rfl, rfl, .inl (.inl (B8 l _ upd_same nlb)), hln, ln, rfl, by omega, by omega, for_range (lo := 0) (n := ln.toNat) (fun i σ H' => ∃ (v' : V) (t' : Tst) (v9' : Option V), σ = [some (.ref b), v1, v2, some (.ref D), v4, v5, some v', v7, v8, v9', v10] ∧
    TV H' v' t' ∧ t'.depth = i ∧ t'.field = t.field ∧ t'.core = t.core ∧ BagAt H' b c ∧ But b H7 H') ⟨v, t, v9, rfl, tv.but hb B7, dt, rfl, rfl, hb8, B7⟩ ?_ ?_⟩
  · rintro i σ H' hi ⟨v', t', v9', rfl, tv', de, fe, ce, hb', B'⟩
    exact ⟨_, rfl, small (by show 2 ≤ 1000; decide), fun p np => ⟨.ref p, .nt t', _, rfl, .nt upd_same (tv'.mono (same_new np _)), by show t'.depth + 1 = i + 1; rw [de], fe, ce, hb'.new np, B'.new np⟩⟩
  · rintro σ H' ⟨v', t', v9', rfl, tv', de, fe, ce, hb', B'⟩
    have hD' := B' D _ hD nDb
    exact ⟨.ref D, rfl, .inl ⟨rfl, _, .inl (.inl hD')⟩, _, rfl, D, _, v', rfl, rfl, hD', small1000 (by omega), fin v' t' H' v9' tv' (by omega) fe ce hb' B'⟩
abbrev sTests : Stmt := topS 13
abbrev NTests : List Str := ["_law_bag_here", "_law_fields_here", "_law_top", "_law_found", "_law_k", "_law_name", "_law_test", "_law_words", "_law_some", "_law_turn", "_law_word"]
section
variable {P : Program} {w : World} {K : PySem.W.Frag} {mg : Str → Option Value} {base : Heap}
theorem scTests : FnScope NTests ["_law_bag_here", "_law_fields_here", "_law_top"] (defScope sTests) := ⟨rfl, rfl, rfl, by decide +kernel, rfl, by decide +kernel, by decide +kernel⟩
/-- a test drawn: so many nots, a field of these, so many words -/
structure TstOk (ns : List Str) (n m : Nat) (t : Tst) : Prop where
  dep : t.depth ≤ n
  fld : t.field ∈ ns
  words : ∀ f ws, t.core = .is f ws → ws ≠ [] ∧ ws.length ≤ m ∧ ∀ z ∈ ws, NameOk z
def spTests : Sp := fun vs H Q _ => ∃ (b c f : Addr) (fs : List (Str × Fld)) (top : Int), vs = [.ref b, .ref f, .int top] ∧ BagAt H b c ∧ FsAt H f fs ∧ 0 ≤ top ∧ top ≤ 9 ∧
  ∀ (p : Addr) (vs : List V) (ts : List Tst) (H' : Hp), H' p = some (.lst vs) → Paired (TV H') vs ts → (∀ t ∈ ts, TstOk (fs.map (·.1)) 2 3 t) → ts.length ≤ 9 → H p = none → BagAt H' b c → But b H H' → Q (.ref p) H'
theorem ok_tests {f f1 : Addr} {fd fd1 : FuncData} (F : Fun K "_law_tests" "_law_tests" sTests f fd) (G1 : FnOk P w K mg base CX0 1 f1 fd1 ["_law_bag_here", "_law_many"] spTake) (m1 : mg "_law_take" = some (.ref f1)) (k1 : PySem.W.keepIn K (.ref f1) = true) (b1 : Binds K fd1 ["_law_bag_here", "_law_many"] [])
    (mrange : mg "range" = none) (mlen : mg "len" = none) (mint : mg "int" = none) (msorted : mg "sorted" = none) : FnOk P w K mg base CX0 3 f fd ["_law_bag_here", "_law_fields_here", "_law_top"] spTests := by
  refine F.ok scTests (fun vs H Q E h => ?_) (fun cdv A outer s H vs Q E hr h => ?_)
  · obtain ⟨b, c, f, fs, top, rfl, _⟩ := h
    rfl
  obtain ⟨b, c, fa, fs, top, rfl, hb, hf, t0, t1, q⟩ := h
  refine ⟨_, pss_cons (ps_set (i := 3) scTests.nd rfl (.inl rfl) (pe_lst pa_nil))
    (pss_cons (ps_for PassesOwn.never rfl (pi_range1 (by rfl) mrange (pa_cons (pe_op op_mul (pe_call G1 (hr.mono (by decide)) (by rfl) m1 k1 b1 .nil pass0 (pa_cons (pv 0) (pa_cons (pe_op op_add (pv 2) pe_int) pa_nil)))
        (pe_callTy call_int1 (by rfl) mint (by decide +kernel) (pa_cons (pe_cmpR (op_ne_dictE (Nat.lt_of_le_of_lt (Nat.le_add_right _ 64) hr.units)) (pv 1) pe_dnewK (nomark _)) pa_nil))) pa_nil)) (pg_name (i := 4) scTests.nd rfl (.inl rfl))
      (pss_cons (ps_set (i := 5) scTests.nd rfl (.inl rfl) (pe_ix ix_list (pe_callB (call_sortedD rfl) (by rfl) msorted (by decide +kernel) (pa_cons (pv 1) pa_nil)) (pe_call G1 (hr.mono (by decide)) (by rfl) m1 k1 b1 .nil pass0 (pa_cons (pv 0) (pa_cons (pe_callB call_lenD (by rfl) mlen (by decide +kernel) (pa_cons (pv 1) pa_nil)) pa_nil))) (fun _ _ => rfl)))
      (pss_cons (ps_set (i := 6) scTests.nd rfl (.inl rfl) (pe_tup (pa_cons pe_str (pa_cons (pv 5) pa_nil))))
      (pss_cons (ps_if (pt_cmpR op_eq (pe_ix ix_tup (pe_dget (hu_of hr) (pv 1) (pv 5) (fun _ _ => rfl)) pe_int (fun _ _ => rfl)) pe_str (nomark _))
        (pss_cons (ps_set (i := 7) scTests.nd rfl (.inl rfl) (pe_ix ix_tup (pe_dget (hu_of hr) (pv 1) (pv 5) (fun _ _ => rfl)) pe_int (fun _ _ => rfl)))
        (pss_cons (ps_setLc (i := 8) (own := [("_law_word", 10)]) (g := gName 10) rfl scTests.nd rfl rfl (sw_true rfl rfl rfl (by decide +kernel)) (pi_list (pv 7)) (blkOk_by (N := NTests) (sc := defScope sTests) (by decide +kernel))
            (fun _ _ _ _ _ => pg_name (i := 10) scTests.nd rfl (Or.inl rfl)) (fun _ _ _ _ _ => pts_one (pt_cmpR (r := rEq) op_eq (pe_call G1 (hr.mono (by decide)) (by rfl) m1 k1 b1 .nil pass0 (pa_cons (pv 0) (pa_cons pe_int pa_nil))) pe_int (nomark _))) (fun _ _ _ _ _ => pv 10))
        (pss_one (ps_set (i := 6) scTests.nd rfl (.inl rfl) (pe_tup (pa_cons pe_str (pa_cons (pv 5) (pa_cons (pe_orT (pv 8) (pe_one (pe_slice sl_list (pv 7) po_none (po_some pe_int)))) pa_nil)))))))) pss_nil)
      (pss_cons (ps_for PassesOwn.never rfl (pi_range1 (by rfl) mrange (pa_cons (pe_ix ix_list (pe_lst (pa_cons pe_int (pa_cons pe_int (pa_cons pe_int (pa_cons pe_int pa_nil))))) (pe_call G1 (hr.mono (by decide)) (by rfl) m1 k1 b1 .nil pass0 (pa_cons (pv 0) (pa_cons pe_int pa_nil))) (fun _ _ => rfl)) pa_nil)) (pg_name (i := 9) scTests.nd rfl (.inl rfl))
        (pss_one (ps_set (i := 6) scTests.nd rfl (.inl rfl) (pe_tup (pa_cons pe_str (pa_cons (pv 6) pa_nil))))))
      (pss_one (ps_expr (pe_bm PySem.F.plainAttrs_list PySem.F.slot_list_append PySem.F.type_list_append mt_append (pv 3) (pa_cons (pv 6) pa_nil)))))))))
    (pss_one (ps_ret (pv 3)))), ?_⟩
  obtain ⟨es, eE, pE⟩ := hf.ex
  have pk := paired_keys pE
  have les : es.length ≤ 6 := by
    have := congrArg List.length pk
    rw [List.length_map, List.length_map] at this
    have := hf.few
    omega
  have nfb : fa ≠ b := fun z => by obtain ⟨x1, y1, z1, ns, h1, _, _⟩ := hb; rw [z, h1] at eE; cases eE
  refine ⟨Nat.zero_le _, fun D nD => ?_⟩
  have nDb : D ≠ b := hb.nb nD
  have nDc : D ≠ c := hb.nc nD
  have hD0 : (upd H D (.lst [])) D = some (.lst []) := upd_same
  have hb1 := hb.new nD (o := .lst [])
  have B1 : But b H (upd H D (.lst [])) := (But.refl b H).new nD
  generalize (upd H D (.lst [])) = H1 at hD0 hb1 B1 ⊢
  refine ⟨_, rfl, _, rfl, top, 1, rfl, rfl, b, c, top + 1, rfl, hb1, by omega, by omega, fun r H2 r0 r1 hb2 B2 => ⟨_, rfl, fun d nd => ⟨fa, d, txD es, rfl, rfl, ?_, upd_same, .inr ⟨_, rfl, ?_⟩⟩⟩⟩
  · have e := (B1.trans B2) _ _ eE nfb
    rw [upd_ne (ne_of_none e nd)]
    exact e
  obtain ⟨u, hu, u01⟩ : ∃ u : Int, (if (!(txD es).isEmpty) = true then (1 : Int) else 0) = u ∧ ((u = 0) ∨ (u = 1 ∧ es ≠ [])) := by
    cases es with
    | nil => exact ⟨0, rfl, .inl rfl⟩
    | cons e r => exact ⟨1, rfl, .inr ⟨rfl, by simp⟩⟩
  rw [hu]
  have ru : 0 ≤ r * u ∧ r * u ≤ 9 ∧ (0 < r * u → es ≠ []) := by
    rcases u01 with h | ⟨h, h2⟩
    · rw [h, Int.mul_zero]; exact ⟨by decide, by decide, fun n => absurd n (by decide)⟩
    · rw [h, Int.mul_one]; exact ⟨r0, by omega, fun _ => h2⟩
  refine ⟨r, u, rfl, rfl, .inl ⟨by omega, by omega⟩, ?_⟩
  generalize hm : r * u = n at ru
  obtain ⟨n0, n9, nE⟩ := ru
  have hD2 := B2 D _ hD0 nDb
  have nDd : D ≠ d := ne_of_none hD2 nd
  refine ⟨n, by show [V.int (r * u)] = [V.int n]; rw [hm], by omega, by omega, for_range (lo := 0) (n := n.toNat) (fun i σ H3 => ∃ (vs : List V) (ts : List Tst) (v4 v5 v6 v7 v8 v9 : Option V), σ = [some (.ref b), some (.ref fa), some (.int top), some (.ref D), v4, v5, v6, v7, v8, v9, none] ∧
      H3 D = some (.lst vs) ∧ Paired (TV H3) vs ts ∧ (∀ t ∈ ts, TstOk (fs.map (·.1)) 2 3 t) ∧ ts.length = i ∧ BagAt H3 b c ∧ But b H H3)
    ⟨[], [], none, none, none, none, none, none, rfl, by rw [upd_ne nDd]; exact hD2, .nil, fun t ht => absurd ht (by simp), rfl, hb2.new nd, (B1.trans B2).new nd⟩ ?_ ?_⟩
  · rintro i σ H3 hi ⟨vs, ts, v4, v5, v6, v7, v8, v9, rfl, hD3, pp, okT, lT, hb3, B3⟩
    rw [Int.zero_add]
    have ne : es ≠ [] := nE (by omega)
    have lvs : vs.length = i := by rw [← lT]; exact Paired.length pp
    have e3 := B3 _ _ eE nfb
    refine ⟨_, rfl, fa, txD es, es.map (·.1), rfl, .inl e3, by rw [List.map_map, List.map_map]; rfl, by rw [List.length_map]; omega, fun ys p pm _ np => ⟨_, rfl, _, rfl, fa, txD es, rfl, ?_, ?_⟩⟩
    · rw [upd_ne (ne_of_none e3 np)]
      exact e3
    have lys : ys.length = es.length := by rw [pm.length_eq, List.length_map]
    have l0 : 0 < es.length := List.length_pos_iff.mpr ne
    have npb : p ≠ b := hb3.nb np
    refine ⟨b, c, ((txD es).length : Nat), rfl, hb3.new np, by rw [List.length_map]; omega, by rw [List.length_map]; omega, fun r2 H4 r20 r21 hb4 B4 => ?_⟩
    rw [List.length_map] at r21
    have hp4 := B4 p _ (upd_same (o := HO.lst (ys.map V.str))) npb
    have B34 : But b H3 H4 := ((But.refl b H3).new np).trans B4
    obtain ⟨j, rfl⟩ : ∃ j : Nat, r2 = j := ⟨r2.toNat, by omega⟩
    have hj : j < ys.length := by omega
    have ej : ys[j]? = some ys[j] := List.getElem?_eq_getElem hj
    have mz : ys[j] ∈ fs.map (·.1) := by rw [← pk]; exact pm.mem_iff.mp (List.getElem_mem hj)
    generalize ys[j] = z at ej mz
    refine ⟨p, _, j, .str z, rfl, rfl, .inl (.inl hp4), atI_nat (by rw [List.getElem?_map, ej]; rfl), ?_⟩
    -- the test: none
    refine ⟨_, rfl, small (by show 2 ≤ 1000; decide), fun t1 nt1 => ?_⟩
    have tv1 : TV (upd H4 t1 (.tup [.str "none", .str z])) (.ref t1) (.non z) := .non upd_same
    have B5 : But b H3 (upd H4 t1 (.tup [.str "none", .str z])) := B34.new nt1
    have hb5 := hb4.new nt1 (o := .tup [.str "none", .str z])
    generalize (upd H4 t1 (.tup [.str "none", .str z])) = H5 at tv1 B5 hb5 ⊢
    obtain ⟨v, fl, ev, fv⟩ := fv_at (pairedF pE fun _ _ q => q.but hb (B3.trans B5)) mz
    have dget : ∀ {H6}, But b H5 H6 → DGet H6 fa (.str z) (some v) := fun {H6} x => by
      have := DGet.k (k := .inr z) (((B3.trans B5).trans x) _ _ eE nfb)
      rw [ev] at this
      exact this
    -- what is left of the turn
    have rest : ∀ (v' : V) (t : Tst) (H7 : Hp), But b H3 H7 → BagAt H7 b c → TV H7 v' t → t.depth = 0 → t.field = z → (∀ f ws, t.core = .is f ws → ws ≠ [] ∧ ws.length ≤ 3 ∧ ∀ z ∈ ws, NameOk z) →
        ∀ (v'' : V) (t' : Tst) (H8 : Hp), TV H8 v'' t' → t'.depth ≤ 2 → t'.field = t.field → t'.core = t.core → BagAt H8 b c → But b H7 H8 →
          (upd H8 D (.lst (vs ++ [v'']))) D = some (.lst (vs ++ [v''])) ∧ Paired (TV (upd H8 D (.lst (vs ++ [v''])))) (vs ++ [v'']) (ts ++ [t']) ∧ (∀ t ∈ ts ++ [t'], TstOk (fs.map (·.1)) 2 3 t) ∧ (ts ++ [t']).length = i + 1 ∧ BagAt (upd H8 D (.lst (vs ++ [v'']))) b c ∧ But b H (upd H8 D (.lst (vs ++ [v'']))) := by
      intro v' t H7 B7 hb7 tv7 d7 f7 w7 v'' t' H8 tv8 d8 f8 c8 hb8 B8
      have B38 := B7.trans B8
      have hD8 := B38 D _ hD3 nDb
      have pp8 : Paired (TV H8) vs ts := tv_list pp fun v t _ q => q.but hb3 B38
      have w8 : ∀ f ws, t'.core = .is f ws → ws ≠ [] ∧ ws.length ≤ 3 ∧ ∀ z ∈ ws, NameOk z := fun f ws h => w7 f ws (c8 ▸ h)
      refine ⟨upd_same, paired_snoc (tv_list pp8 fun v t m q => q.app hD8 pp8 fun f ws h => ((okT t m).words f ws h).1) (tv8.app hD8 pp8 fun f ws h => (w8 f ws h).1), fun t0 h0 => ?_, by rw [List.length_append, lT]; rfl, hb8.set nDb nDc, (B3.trans B38).put nD⟩
      rcases List.mem_append.mp h0 with h | h
      · exact okT t0 h
      · rw [List.mem_singleton.mp h]
        exact ⟨d8, by rw [f8, f7]; exact mz, w8⟩
    have few : vs.length < 100 := by omega
    -- which sort
    have other : ∀ (a : Addr) (s : Str) (xs : List V), v = .ref a → H5 a = some (.tup (.str s :: xs)) → s ≠ "mark" → ∀ (T F : Hp → Prop), F H5 → tTest (tOp rEq (tOp (rIxT K) (tDGet (tVar 1) (tVar 5)) (tC (V.int 0))) (tC (V.str "mark"))) [some (.ref b), some (.ref fa), some (.int top), some (.ref D), some (.int i), some (.str z), some (.ref t1), v7, v8, v9, none] H5 (fun b H => if b = true then T H else F H) := by
      intro a s xs ea ha ns T F h
      exact ⟨_, rfl, _, rfl, fa, _, rfl, dget (But.refl _ _), a, _, 0, .str s, by rw [ea], rfl, .inl (.inl ha), atI_nat (j := 0) rfl, rfl, _, rfl, ff_if (decide_eq_false fun n => ns (by injection n)) h⟩
    cases fv with
    | @mk tt l ws a bL wn okw fw =>
      have nlb : l ≠ b := fun n => by
        obtain ⟨x1, y1, z1, ns, h1, _, _⟩ := hb5
        rw [n, h1] at bL
        injection bL with e
        injection e with e
        match ws, wn with
        | w :: r, _ => simp at e
      have ntb : tt ≠ b := fun n => by obtain ⟨x1, y1, z1, ns, h1, _, _⟩ := hb5; rw [n, h1] at a; cases a
      refine ⟨_, rfl, _, rfl, fa, _, rfl, dget (But.refl _ _), tt, _, 0, .str "mark", rfl, rfl, .inl (.inl a), atI_nat (j := 0) rfl, rfl, _, rfl, tt_if (by decide +kernel) ?_⟩
      refine ⟨_, rfl, _, rfl, fa, _, rfl, dget (But.refl _ _), tt, _, 1, .ref l, rfl, rfl, .inl (.inl a), atI_nat (j := 1) rfl, ?_⟩
      refine ⟨.ref l, rfl, l, rfl, ⟨_, .inl (.inl bL)⟩, fun D3 nD3 => ?_⟩
      have nD3b : D3 ≠ b := hb5.nb nD3
      have nD3c : D3 ≠ c := hb5.nc nD3
      refine lc_list (K := K) (a := l) (xs := ws.map V.str) (fun k H' => ∃ acc : List Str, H' D3 = some (.lst (acc.map V.str)) ∧ acc.length ≤ k ∧ (∀ z ∈ acc, z ∈ ws) ∧ BagAt H' b c ∧ But b H5 H')
        ⟨[], upd_same, Nat.le_refl _, fun z hz => absurd hz (by simp), hb5.new nD3, (But.refl b H5).new nD3⟩ (fun k H' _ q => by obtain ⟨acc, _, _, _, _, B6⟩ := q; exact .inl (.inl (B6 _ _ bL nlb))) ?_ ?_
      · rintro k x H6 hx ⟨acc, hD6, la, ma, hb6, B6⟩
        obtain ⟨z0, hz, rfl⟩ := map_get hx
        have kw : k < ws.length := (List.getElem?_eq_some_iff.mp hz).1
        refine ⟨rfl, _, rfl, b, c, 2, rfl, hb6, by decide, by decide, fun r3 H7 _ _ hb7 B7 => ⟨rfl, _, rfl, ?_⟩⟩
        have hD7 := B7 D3 _ hD6 nD3b
        by_cases g : V.int r3 = V.int 0
        · refine tt_if (decide_eq_true g) ⟨_, rfl, _, hD7, by rw [List.length_map]; exact small1000 (by omega), acc ++ [z0], by rw [upd_same, List.map_append]; rfl, by rw [List.length_append]; exact Nat.succ_le_succ la, fun y hy => ?_, hb7.set nD3b nD3c, (B6.trans B7).put nD3⟩
          rcases List.mem_append.mp hy with h | h
          · exact ma y h
          · rw [List.mem_singleton.mp h]
            exact List.mem_of_getElem? hz
        · exact ff_if (decide_eq_false g) ⟨acc, hD7, Nat.le_succ_of_le la, ma, hb7, B6.trans B7⟩
      · rintro H6 ⟨acc, hD6, la, ma, hb6, B6⟩
        rw [List.length_map] at la
        have bL6 := B6 _ _ bL nlb
        have B36 := B5.trans B6
        -- the words of the test
        have last : ∀ (q : Addr) (us : List Str) (H7 : Hp), H7 q = some (.lst (us.map V.str)) → us ≠ [] → us.length ≤ 3 → (∀ y ∈ us, y ∈ ws) → BagAt H7 b c → But b H3 H7 → ∀ t, H7 t = none →
            TV (upd H7 t (.tup [.str "is", .str z, .ref q])) (.ref t) (.is z us) ∧ (∀ f w, (Tst.is z us).core = .is f w → w ≠ [] ∧ w.length ≤ 3 ∧ ∀ z ∈ w, NameOk z) ∧ But b H3 (upd H7 t (.tup [.str "is", .str z, .ref q])) ∧ BagAt (upd H7 t (.tup [.str "is", .str z, .ref q])) b c := by
          intro q us H7 hq nu lu mu hb7 B7 t nt
          refine ⟨.is upd_same (by rw [upd_ne (ne_of_none hq nt)]; exact hq), fun f w h => ?_, B7.new nt, hb7.new nt⟩
          injection (show Tst.is z us = Tst.is f w from h) with _ h
          rw [← h]
          exact ⟨nu, lu, fun y hy => okw y (mu y hy)⟩
        refine ⟨_, rfl, _, rfl, _, .inl ⟨_, .inl (.inl hD6), rfl⟩, ?_⟩
        cases acc with
        | nil =>
          refine ff_if rfl ⟨_, rfl, 1, rfl, l, _, rfl, .inl (.inl bL6), fun p4 np4 => ?_⟩
          match ws, wn with
          | w0 :: wr, _ =>
            rw [List.map_cons, cut_take1]
            refine ⟨small (by show 3 ≤ 1000; decide), fun t nt => ?_⟩
            obtain ⟨x1, x2, x3, x4⟩ := last p4 [w0] _ upd_same (by simp) (by simp) (fun y hy => by rw [List.mem_singleton.mp hy]; exact List.mem_cons_self) (hb6.new np4) (B36.new np4) t nt
            exact turn_read (K := K) x4 nDb (x3 D _ hD3 nDb) few x1 rfl fun v' t' H8 v9' tv8 d8 f8 c8 hb8 B8 => ⟨vs ++ [v'], ts ++ [t'], _, _, _, _, _, _, rfl, rest _ _ _ x3 x4 x1 rfl rfl x2 v' t' H8 tv8 d8 f8 c8 hb8 B8⟩
        | cons a0 ar =>
          refine tt_if rfl ⟨small (by show 3 ≤ 1000; decide), fun t nt => ?_⟩
          obtain ⟨x1, x2, x3, x4⟩ := last D3 (a0 :: ar) _ hD6 (by simp) (Nat.le_trans la fw) ma hb6 B36 t nt
          exact turn_read (K := K) x4 nDb (x3 D _ hD3 nDb) few x1 rfl fun v' t' H8 v9' tv8 d8 f8 c8 hb8 B8 => ⟨vs ++ [v'], ts ++ [t'], _, _, _, _, _, _, rfl, rest _ _ _ x3 x4 x1 rfl rfl x2 v' t' H8 tv8 d8 f8 c8 hb8 B8⟩
    | lk a =>
      exact other _ "link" _ rfl a (by decide +kernel) _ _ (turn_read (K := K) hb5 nDb (B5 D _ hD3 nDb) few tv1 rfl fun v' t' H8 v9' tv8 d8 f8 c8 hb8 B8 => ⟨vs ++ [v'], ts ++ [t'], _, _, _, _, _, _, rfl, rest _ _ _ B5 hb5 tv1 rfl rfl (fun f ws h => nomatch (show Tst.non z = Tst.is f ws from h)) v' t' H8 tv8 d8 f8 c8 hb8 B8⟩)
    | tg a =>
      exact other _ "tag" _ rfl a (by decide +kernel) _ _ (turn_read (K := K) hb5 nDb (B5 D _ hD3 nDb) few tv1 rfl fun v' t' H8 v9' tv8 d8 f8 c8 hb8 B8 => ⟨vs ++ [v'], ts ++ [t'], _, _, _, _, _, _, rfl, rest _ _ _ B5 hb5 tv1 rfl rfl (fun f ws h => nomatch (show Tst.non z = Tst.is f ws from h)) v' t' H8 tv8 d8 f8 c8 hb8 B8⟩)
  · rintro σ H3 ⟨vs, ts, v4, v5, v6, v7, v8, v9, rfl, hD3, pp, okT, lT, hb3, B3⟩
    exact ⟨.ref D, rfl, q D vs ts H3 hD3 pp okT (by omega) nD hb3 B3⟩
end
end Lw

set_option Elab.async false
set_option linter.all false
set_option maxRecDepth 100000
set_option maxHeartbeats 4000000
namespace Lw
open PySem PySem.Spec PyProof.Rows L2
/-- how many stand in a list or a tuple, with the base told -/
def lenAt (K : PySem.W.Frag) (vs : List V) (H : Hp) (Q : VK) : Prop := ∃ (l : Addr) (zs : List V), vs = [V.ref l] ∧ (SqL K H l zs ∨ SqT K H l zs) ∧ Q (V.int zs.length) H
theorem call_lenS {X : Cx} : CallR X (.builtin "len") (lenAt X.K) := call_len_seq
theorem lst_nb {H : Hp} {b c p : Addr} {ws : List Str} (g : BagAt H b c) (e : H p = some (.lst (ws.map V.str))) : p ≠ b := fun n => by
  obtain ⟨x1, y1, z1, ns, h1, _, _⟩ := g
  rw [n, h1] at e
  injection e with e
  injection e with e
  match ws with
  | [] => simp at e
  | w :: r => simp at e
theorem tup_nb {H : Hp} {b c p : Addr} {xs : List V} (g : BagAt H b c) (e : H p = some (.tup xs)) : p ≠ b := fun n => by
  obtain ⟨x1, y1, z1, ns, h1, _, _⟩ := g
  rw [n, h1] at e
  cases e
theorem dk_nb {H : Hp} {b c p : Addr} {xs : List (Key × V)} (g : BagAt H b c) (e : H p = some (.dK xs)) : p ≠ b := fun n => by
  obtain ⟨x1, y1, z1, ns, h1, _, _⟩ := g
  rw [n, h1] at e
  cases e
theorem frz_nb {H : Hp} {b c p : Addr} {od : Obj} {u : HO} (g : BagAt H b c) (e : H p = some (.frz od u)) : p ≠ b := fun n => by
  obtain ⟨x1, y1, z1, ns, h1, _, _⟩ := g
  rw [n, h1] at e
  cases e
abbrev Cells := List (Str × Option Str)
abbrev cellD (cs : Cells) : List (Key × V) := txD (cs.map fun p => (p.1, cellV p.2))
/-- the cells of a row drawn: every field has one -/
structure CellsOk (cs : Cells) (names : List Str) : Prop where
  ok : ∀ p ∈ cs, NameOk p.1 ∧ ∀ z, p.2 = some z → NameOk z
  keys : (cs.map (·.1)).Perm names
/-- rows on their way: those below j are drawn, those from k on are empty -/
structure RS (b c NH FP R : Addr) (od : Obj) (nm : Str) (rs : List (Str × Addr × Addr)) (nh fr names : List Str) (j k : Nat) (H0 H : Hp) : Prop where
  bag : BagAt H b c
  but : But b H0 H
  nh : H NH = some (.lst (nh.map V.str))
  fp : H FP = some (.lst (fr.map V.str))
  r : H R = some (.frz od (.dK (txD (rs.map fun e => (e.1, V.ref e.2.1)))))
  tup : ∀ e ∈ rs, H e.2.1 = some (.tup [.str nm, .ref e.2.2])
  done : ∀ i e, i < j → rs[i]? = some e → ∃ cs, H e.2.2 = some (.dK (cellD cs)) ∧ CellsOk cs names
  todo : ∀ i e, k ≤ i → rs[i]? = some e → H e.2.2 = some (.dK [])
section
variable {b c NH FP R : Addr} {od : Obj} {nm : Str} {rs : List (Str × Addr × Addr)} {nh fr names : List Str} {j k : Nat} {H0 H H' : Hp}
theorem RS.next (x : RS b c NH FP R od nm rs nh fr names j k H0 H) (B : But b H H') (hb : BagAt H' b c) : RS b c NH FP R od nm rs nh fr names j k H0 H' :=
  ⟨hb, x.but.trans B, B _ _ x.nh (lst_nb x.bag x.nh), B _ _ x.fp (lst_nb x.bag x.fp), B _ _ x.r (frz_nb x.bag x.r), fun e he => B _ _ (x.tup e he) (tup_nb x.bag (x.tup e he)),
    fun i e hi he => by
      obtain ⟨cs, h, o⟩ := x.done i e hi he
      exact ⟨cs, B _ _ h (dk_nb x.bag h), o⟩, fun i e hi he => B _ _ (x.todo i e hi he) (dk_nb x.bag (x.todo i e hi he))⟩
theorem RS.row {e : Str × Addr × Addr} {kvs kvs' : List (Key × V)} (x : RS b c NH FP R od nm rs nh fr names j (j + 1) H0 H) (he : rs[j]? = some e) (hr : H e.2.2 = some (.dK kvs)) (hb0 : BagAt H0 b c) (n0 : H0 e.2.2 = none) (nd : (rs.map (·.2.2)).Nodup) :
    RS b c NH FP R od nm rs nh fr names j (j + 1) H0 (upd H e.2.2 (.dK kvs')) := by
  have other : ∀ i e', i ≠ j → rs[i]? = some e' → e'.2.2 ≠ e.2.2 := fun i e' hi he' n => by
    have h1 : (rs.map (·.2.2))[i]? = some e'.2.2 := by rw [List.getElem?_map, he']; rfl
    have h2 : (rs.map (·.2.2))[j]? = some e.2.2 := by rw [List.getElem?_map, he]; rfl
    exact hi ((List.getElem?_inj (List.getElem?_eq_some_iff.mp h1).1 nd).mp (by rw [h1, h2, n]))
  refine ⟨x.bag.set (hb0.nb n0) (hb0.nc n0), x.but.put n0, ?_, ?_, ?_, fun e' he' => ?_, fun i e' hi he' => ?_, fun i e' hi he' => ?_⟩
  · have h := x.nh
    rw [upd_ne (fun n => by rw [n, hr] at h; cases h)]
    exact h
  · have h := x.fp
    rw [upd_ne (fun n => by rw [n, hr] at h; cases h)]
    exact h
  · have h := x.r
    rw [upd_ne (fun n => by rw [n, hr] at h; cases h)]
    exact h
  · have h := x.tup e' he'
    rw [upd_ne (fun n => by rw [n, hr] at h; cases h)]
    exact h
  · rw [upd_ne (other i e' (by omega) he')]
    exact x.done i e' hi he'
  · rw [upd_ne (other i e' (by omega) he')]
    exact x.todo i e' hi he'
end
theorem mergeK_new {es : List (Str × V)} : ∀ {rs : List (Str × V)}, ((es ++ rs).map (·.1)).Nodup → mergeK (txD es) (txD rs) = txD (es ++ rs) := by
  intro rs
  induction rs generalizing es with
  | nil => intro _; rw [List.append_nil]; rfl
  | cons p r ih =>
    intro nd
    show mergeK (putK (txD es) (.inr p.1) p.2) (txD r) = _
    have new : p.1 ∉ es.map (·.1) := fun m => by
      rw [List.map_append, List.nodup_append] at nd
      exact nd.2.2 _ m _ (by rw [List.map_cons]; exact List.mem_cons_self) rfl
    rw [putK_new new, ih (by rw [List.append_assoc]; exact nd), List.append_assoc]
    rfl
end Lw

set_option Elab.async false
set_option linter.all false
set_option maxRecDepth 100000
set_option maxHeartbeats 4000000
namespace Lw
open PySem PySem.Spec PyProof.Rows L2
theorem paired_monoR {α β : Type} {R S : α → β → Prop} {xs : List α} {ys : List β} (h : Paired R xs ys) (up : ∀ x y, R x y → S x y) : Paired S xs ys := by
  induction h with
  | nil => exact .nil
  | cons a _ ih => exact .cons (up _ _ a) ih
theorem paired_mapR {α β γ : Type} {R : α → β → Prop} {S : α → γ → Prop} {f : β → γ} {xs : List α} {ys : List β} (h : Paired R xs ys) (up : ∀ x y, R x y → S x (f y)) : Paired S xs (ys.map f) := by
  induction h with
  | nil => exact .nil
  | cons a _ ih => exact .cons (up _ _ a) ih
theorem cutV_len (xs : List V) (lo hi : Option Int) : (cutV xs lo hi).length ≤ xs.length := by
  unfold cutV
  rw [List.length_take, List.length_drop]
  omega
theorem val_nd {es : List (Str × V)} (nd : (es.map (·.1)).Nodup) {p : Str × V} (m : p ∈ es) : valV (txD es) (.inr p.1) = some p.2 := by
  induction es with
  | nil => cases m
  | cons e r ih =>
    rw [List.map_cons, List.nodup_cons] at nd
    show ((List.find? _ ((Sum.inr e.1, e.2) :: txD r)).map _) = _
    rcases List.mem_cons.mp m with h | h
    · rw [List.find?_cons_of_pos (by rw [h]; exact decide_eq_true rfl), h]
      rfl
    · rw [List.find?_cons_of_neg (by rw [decide_eq_true_eq]; exact fun n => nd.1 (Sum.inr.inj n ▸ List.mem_map.mpr ⟨p, h, rfl⟩))]
      exact ih nd.2 h
abbrev sRows : Stmt := topS 16
abbrev NRows : List Str := ["_law_bag_here", "_law_tables", "_law_top", "_law_strangers", "_law_ids", "_law_names_here", "_law_homes", "_law_far", "_law_found", "_law_ident", "_law_table", "_law_row", "_law_field", "_law_sort", "_law_some", "_law_one"]
section
variable {P : Program} {w : World} {K : PySem.W.Frag} {mg : Str → Option Value} {base : Heap}
theorem scRows : FnScope NRows ["_law_bag_here", "_law_tables", "_law_top", "_law_strangers"] (defScope sRows) := ⟨rfl, rfl, rfl, by decide +kernel, rfl, by decide +kernel, by decide +kernel⟩
def spRows : Sp := fun vs H Q _ => ∃ (b c T fa : Addr) (nm : Str) (fs : List (Str × Fld)), vs = [.ref b, .ref T, .int 3, .int 1] ∧ BagAt H b c ∧ H T = some (.dK (txD [(nm, .ref fa)])) ∧ FsAt H fa fs ∧
  ∀ (p : Addr) (rs : List (Str × Addr × Addr)) (H' : Hp), H' p = some (.dK (txD (rs.map fun e => (e.1, V.ref e.2.1)))) → (∀ e ∈ rs, H' e.2.1 = some (.tup [.str nm, .ref e.2.2]) ∧ ∃ cs, H' e.2.2 = some (.dK (cellD cs)) ∧ CellsOk cs (fs.map (·.1))) → rs.length ≤ 4 → H p = none → BagAt H' b c → But b H H' → Q (.ref p) H'
theorem ok_rows {f f1 f2 : Addr} {fd fd1 fd2 : FuncData} (F : Fun K "_law_rows" "_law_rows" sRows f fd) (G1 : FnOk P w K mg base CX0 1 f1 fd1 ["_law_bag_here", "_law_many"] spTake) (m1 : mg "_law_take" = some (.ref f1)) (k1 : PySem.W.keepIn K (.ref f1) = true) (b1 : Binds K fd1 ["_law_bag_here", "_law_many"] [])
    (G2 : FnOk P w K mg base CX0 2 f2 fd2 ["_law_bag_here", "_law_many"] spNames) (m2 : mg "_law_names" = some (.ref f2)) (k2 : PySem.W.keepIn K (.ref f2) = true) (b2 : Binds K fd2 ["_law_bag_here", "_law_many"] [])
    (mlen : mg "len" = none) (mdict : mg "dict" = none) (mlist : mg "list" = none) (msorted : mg "sorted" = none) : FnOk P w K mg base CX0 3 f fd ["_law_bag_here", "_law_tables", "_law_top", "_law_strangers"] spRows := by
  refine F.ok scRows (fun vs H Q E h => ?_) (fun cdv A outer s H vs Q E hr h => ?_)
  · obtain ⟨b, c, T, fa, nm, fs, rfl, _⟩ := h
    rfl
  obtain ⟨b, c, T, fa, nm, fs, rfl, hb, hT, hf, q⟩ := h
  refine ⟨_, pss_cons (ps_set (i := 4) scRows.nd rfl (by first | exact .inl rfl | exact .inr rfl) (pe_call G2 hr (by rfl) m2 k2 b2 .nil pass0 (pa_cons (pv 0) (pa_cons (pe_op op_add (pe_call G1 (hr.mono (by decide)) (by rfl) m1 k1 b1 .nil pass0 (pa_cons (pv 0) (pa_cons (pe_op op_add (pv 2) pe_int) pa_nil))) (pv 3)) pa_nil))))
    (pss_cons (ps_asg (pe_tup (pa_cons (pe_op op_cat (pe_call G2 hr (by rfl) m2 k2 b2 .nil pass0 (pa_cons (pv 0) (pa_cons pe_int pa_nil))) (pe_lst (pa_cons pe_str pa_nil))) (pa_cons (pe_callB (call_sortedD rfl) (by rfl) msorted (by decide +kernel) (pa_cons (pv 1) pa_nil)) pa_nil))) (pg_tup rfl (pgs_cons (pg_name (i := 5) scRows.nd rfl (by first | exact .inl rfl | exact .inr rfl)) (pgs_cons (pg_name (i := 6) scRows.nd rfl (by first | exact .inl rfl | exact .inr rfl)) pgs_nil))))
    (pss_cons (ps_set (i := 7) scRows.nd rfl (by first | exact .inl rfl | exact .inr rfl) (pe_slice sl_list (pv 4) (po_some (pe_op op_sub (pe_callB call_len_seq (by rfl) mlen (by decide +kernel) (pa_cons (pv 4) pa_nil)) (pv 3))) po_none))
    (pss_cons (ps_set (i := 8) scRows.nd rfl (by first | exact .inl rfl | exact .inr rfl) (pe_callTy (call_dictP rfl) (by rfl) mdict (by decide +kernel) (pa_cons (pe_lc (own := [("_law_ident", 9)]) (g := gName 9) rfl scRows.nd (pi_list (pv 4)) (blkOk_by (N := NRows) (sc := defScope sRows) (by decide +kernel))
        (fun _ _ _ _ _ => pg_name (i := 9) scRows.nd rfl (Or.inl rfl)) (fun _ _ _ _ _ => pts_one (pt_cmpR (r := rIn K true) op_notIn_seq (pv 9) (pv 7) (by rfl)))
        (fun _ _ _ _ _ => pe_tup (pa_cons (pv 9) (pa_cons (pe_tup (pa_cons (pe_ix (r := rIxL K) ix_list (pv 6) (pe_call G1 (hr.mono (by decide)) (by rfl) m1 k1 b1 .nil pass0 (pa_cons (pv 0) (pa_cons (pe_callB (r := lenAt K) call_lenS (by rfl) mlen (by decide +kernel) (pa_cons (pv 6) pa_nil)) pa_nil))) (fun _ _ => rfl)) (pa_cons pe_dnewK pa_nil))) pa_nil)))) pa_nil)))
    (pss_cons (ps_lock (ps_for PassesOwn.never rfl (pi_keys (pv 8)) (pg_name (i := 9) scRows.nd rfl (by first | exact .inl rfl | exact .inr rfl))
      (pss_cons (ps_asg (pe_dget (hu_of hr) (pv 8) (pv 9) (fun _ _ => rfl)) (pg_tup rfl (pgs_cons (pg_name (i := 10) scRows.nd rfl (by first | exact .inl rfl | exact .inr rfl)) (pgs_cons (pg_name (i := 11) scRows.nd rfl (by first | exact .inl rfl | exact .inr rfl)) pgs_nil))))
      (pss_one (ps_for PassesOwn.never rfl (pi_list (pe_callB (call_sortedD rfl) (by rfl) msorted (by decide +kernel) (pa_cons (pe_dget (hu_of hr) (pv 1) (pv 10) (fun _ _ => rfl)) pa_nil))) (pg_name (i := 12) scRows.nd rfl (by first | exact .inl rfl | exact .inr rfl))
        (pss_cons (ps_set (i := 13) scRows.nd rfl (by first | exact .inl rfl | exact .inr rfl) (pe_dget (hu_of hr) (pe_dget (hu_of hr) (pv 1) (pv 10) (fun _ _ => rfl)) (pv 12) (fun _ _ => rfl)))
        (pss_one (ps_if (pt_cmpR op_eq (pe_ix ix_tup (pv 13) pe_int (fun _ _ => rfl)) pe_str (nomark _))
          (pss_one (ps_dput (hu_of hr) (pv 11) (pv 12) (pe_ix ix_list (pe_ix ix_tup (pv 13) pe_int (fun _ _ => rfl)) (pe_call G1 (hr.mono (by decide)) (by rfl) m1 k1 b1 .nil pass0 (pa_cons (pv 0) (pa_cons (pe_callB call_len_seq (by rfl) mlen (by decide +kernel) (pa_cons (pe_ix ix_tup (pv 13) pe_int (fun _ _ => rfl)) pa_nil)) pa_nil))) (fun _ _ => rfl)) (by rfl)))
          (pss_one (ps_if (pt_cmpR op_eq (pe_ix ix_tup (pv 13) pe_int (fun _ _ => rfl)) pe_str (nomark _))
            (pss_one (ps_dput (hu_of hr) (pv 11) (pv 12) (pe_ix ix_list (pe_op op_cat (pe_lst (pa_cons pe_non pa_nil)) (pv 5)) (pe_call G1 (hr.mono (by decide)) (by rfl) m1 k1 b1 .nil pass0 (pa_cons (pv 0) (pa_cons pe_int pa_nil))) (fun _ _ => rfl)) (by rfl)))
            (pss_cons (ps_set (i := 14) scRows.nd rfl (by first | exact .inl rfl | exact .inr rfl) (pe_op op_cat (pe_op op_cat (pe_op op_cat (pe_lst (pa_cons pe_non pa_nil)) (pe_lc (own := [("_law_one", 15)]) (g := gName 15) rfl scRows.nd (pi_keys (pv 8)) (blkOk_by (N := NRows) (sc := defScope sRows) (by decide +kernel))
                (fun _ _ _ _ _ => pg_name (i := 15) scRows.nd rfl (Or.inl rfl)) (fun _ _ _ _ _ => pts_one (pt_cmpR (r := rEq) op_eq (pe_ix (r := rIxT K) ix_tup (pe_dget (hu_of hr) (pv 8) (pv 15) (fun _ _ => rfl)) pe_int (fun _ _ => rfl)) (pe_ix (r := rIxT K) ix_tup (pv 13) pe_int (fun _ _ => rfl)) (nomark _))) (fun _ _ _ _ _ => pv 15))) (pv 7))
                (pe_slice sl_list (pe_callTy (call_listD rfl) (by rfl) mlist (by decide +kernel) (pa_cons (pv 8) pa_nil)) po_none (po_some pe_int))))
            (pss_one (ps_dput (hu_of hr) (pv 11) (pv 12) (pe_ix ix_list (pv 14) (pe_call G1 (hr.mono (by decide)) (by rfl) m1 k1 b1 .nil pass0 (pa_cons (pv 0) (pa_cons (pe_callB call_len_seq (by rfl) mlen (by decide +kernel) (pa_cons (pv 14) pa_nil)) pa_nil))) (fun _ _ => rfl)) (by rfl))))))))))))))
    (pss_one (ps_ret (pv 8))))))), ?_⟩
  have nTb : T ≠ b := dk_nb hb hT
  refine ⟨_, rfl, _, rfl, _, rfl, 3, 1, rfl, rfl, b, c, 4, rfl, hb, by decide, by decide, fun r H1 r0 r1 hb1 B1 => ⟨_, rfl, r, 1, rfl, rfl, b, c, r + 1, rfl, hb1, by omega, by omega, fun L zs H2 lz ndz okz eL nL hb2 B2 => ?_⟩⟩
  have B02 := B1.trans B2
  have n0L : H L = none := B1.free nL (hb1.nb nL)
  refine ⟨_, rfl, b, c, 2, rfl, hb2, by decide, by decide, fun Ln z2 H3 lz2 _ okz2 eLn nLn hb3 B3 => ⟨small (by show 1 ≤ 1000; decide), fun la nla => ?_⟩⟩
  have B03 := B02.trans B3
  refine ⟨Ln, la, z2.map V.str, [.str "ab"], rfl, rfl, by rw [upd_ne (ne_of_none eLn nla)]; exact eLn, upd_same, small (by rw [List.length_map]; show z2.length + 1 ≤ 1000; omega), fun NH nNH => ?_⟩
  obtain ⟨nh, enh, lnh, oknh⟩ : ∃ nh : List Str, z2.map V.str ++ [V.str "ab"] = nh.map V.str ∧ nh.length = 3 ∧ ∀ z ∈ nh, NameOk z := by
    refine ⟨z2 ++ [("ab" : Str)], by rw [List.map_append]; rfl, by rw [List.length_append]; show z2.length + 1 = 3; omega, fun z hz => ?_⟩
    rcases List.mem_append.mp hz with h | h
    · exact okz2 z h
    · rw [List.mem_singleton.mp h]
      exact nameB_ok (by decide +kernel)
  rw [enh]
  have hb4 := (hb3.new nla (o := .lst [.str "ab"])).new nNH (o := .lst (nh.map V.str))
  have B04 : But b H (upd (upd H3 la (.lst [.str "ab"])) NH (.lst (nh.map V.str))) := (B03.new nla).new nNH
  have eN : (upd (upd H3 la (.lst [.str "ab"])) NH (.lst (nh.map V.str))) NH = some (.lst (nh.map V.str)) := upd_same
  have eL4 : (upd (upd H3 la (.lst [.str "ab"])) NH (.lst (nh.map V.str))) L = some (.lst (zs.map V.str)) := ((B3.new nla).new nNH) _ _ eL (lst_nb hb2 eL)
  generalize (upd (upd H3 la (.lst [.str "ab"])) NH (.lst (nh.map V.str))) = H4 at hb4 B04 eN eL4 ⊢
  refine ⟨_, rfl, T, _, [nm], rfl, .inl (B04 _ _ hT nTb), rfl, by show 1 < 64; decide, fun ys hp pm _ nhp => ⟨small (by show 2 ≤ 1000; decide), fun t nt => ?_⟩⟩
  obtain rfl := List.perm_singleton.mp pm
  refine ⟨t, _, rfl, .inl (.inl upd_same), rfl, .ref NH, [.ref hp], rfl, .ref hp, [], rfl, ⟨rfl, ?_⟩⟩
  have hb5 := (hb4.new nhp (o := .lst ([nm].map V.str))).new nt (o := .tup [.ref NH, .ref hp])
  have B45 : But b H4 (upd (upd H4 hp (.lst ([nm].map V.str))) t (.tup [.ref NH, .ref hp])) := ((But.refl b H4).new nhp).new nt
  have ehp : (upd (upd H4 hp (.lst ([nm].map V.str))) t (.tup [.ref NH, .ref hp])) hp = some (.lst ([nm].map V.str)) := by rw [upd_ne (ne_of_none upd_same nt)]; exact upd_same
  generalize (upd (upd H4 hp (.lst ([nm].map V.str))) t (.tup [.ref NH, .ref hp])) = H5 at hb5 B45 ehp ⊢
  have eL5 := B45 _ _ eL4 (lst_nb hb4 eL4)
  have eN5 := B45 _ _ eN (lst_nb hb4 eN)
  have B05 := B04.trans B45
  -- far
  refine ⟨_, rfl, _, rfl, L, _, rfl, .inl (.inl (.inl eL5)), _, rfl, _, 1, rfl, rfl, _, rfl, L, _, rfl, .inl (.inl eL5), fun FP nFP => ?_⟩
  obtain ⟨fr, efr, mfr⟩ := cut_strs zs (some (((zs.map V.str).length : Int) - 1)) none
  rw [efr]
  have hb6 := hb5.new nFP (o := .lst (fr.map V.str))
  have B56 : But b H5 (upd H5 FP (.lst (fr.map V.str))) := (But.refl b H5).new nFP
  have eF : (upd H5 FP (.lst (fr.map V.str))) FP = some (.lst (fr.map V.str)) := upd_same
  generalize (upd H5 FP (.lst (fr.map V.str))) = H6 at hb6 B56 eF ⊢
  have eL6 := B56 _ _ eL5 (lst_nb hb5 eL5)
  have eN6 := B56 _ _ eN5 (lst_nb hb5 eN5)
  have ehp6 := B56 _ _ ehp (lst_nb hb5 ehp)
  have B06 := B05.trans B56
  have nFb := lst_nb hb6 eF
  have nLb := lst_nb hb6 eL6
  have nhb := lst_nb hb6 ehp6
  -- the rows, empty
  refine ⟨_, rfl, L, rfl, ⟨_, .inl (.inl eL6)⟩, fun D nD => ?_⟩
  have nDb : D ≠ b := hb6.nb nD
  have nDc : D ≠ c := hb6.nc nD
  refine lc_list (K := K) (a := L) (xs := zs.map V.str) (fun k H' => ∃ (ps : List Addr) (rs : List (Str × Addr × Addr)), H' D = some (.lst (ps.map V.ref)) ∧ Paired (fun p e => H' p = some (.tup [.str e.1, .ref e.2.1])) ps rs ∧
      (∀ e ∈ rs, H' e.2.1 = some (.tup [.str nm, .ref e.2.2]) ∧ H' e.2.2 = some (.dK []) ∧ H6 e.2.2 = none) ∧ (rs.map (·.2.2)).Nodup ∧ (rs.map (·.1)).Sublist (zs.take k) ∧ BagAt H' b c ∧ But b H6 H')
    ⟨[], [], upd_same, .nil, fun e he => absurd he (by simp), List.nodup_nil, List.Sublist.refl _, hb6.new nD, (But.refl b H6).new nD⟩ (fun k H' _ q => by obtain ⟨_, _, _, _, _, _, _, _, B7⟩ := q; exact .inl (.inl (B7 _ _ eL6 nLb))) ?_ ?_
  · rintro k x H7 hx ⟨ps, rs, hD7, pp, tt, ndr, sb, hb7, B7⟩
    obtain ⟨z, hz, rfl⟩ := map_get hx
    have eF7 := B7 _ _ eF nFb
    have eh7 := B7 _ _ ehp6 nhb
    have tk : zs.take (k + 1) = zs.take k ++ [z] := take_more hz
    refine ⟨rfl, _, rfl, _, rfl, FP, _, rfl, .inl (.inl (.inl eF7)), rfl, flat_strs fr, _, rfl, ?_⟩
    show if (!inV (.str z) (fr.map V.str)) = true then _ else _
    rw [inV_str]
    by_cases g : z ∈ fr
    · rw [decide_eq_true g]
      exact iteF ⟨ps, rs, hD7, pp, tt, ndr, by rw [tk]; exact sb.trans (List.sublist_append_left _ _), hb7, B7⟩
    · rw [decide_eq_false g]
      refine iteT ⟨_, rfl, _, rfl, _, rfl, _, rfl, hp, _, rfl, .inl (.inl (.inl eh7)), b, c, 1, rfl, hb7, by decide, by decide, fun r H8 r0 r1 hb8 B8 => ⟨hp, _, r, .str nm, rfl, rfl, .inl (.inl (B8 _ _ eh7 nhb)), ?_, fun row nrow => ⟨small (by show 2 ≤ 1000; decide), fun t1 nt1 => ⟨small (by show 2 ≤ 1000; decide), fun t2 nt2 => ?_⟩⟩⟩⟩
      · have : r = 0 := by omega
        rw [this]
        rfl
      have B79 : But b H7 (upd (upd (upd H8 row (.dK [])) t1 (.tup [.str nm, .ref row])) t2 (.tup [.str z, .ref t1])) := ((B8.new nrow).new nt1).new nt2
      have hb9 := ((hb8.new nrow (o := .dK [])).new nt1 (o := .tup [.str nm, .ref row])).new nt2 (o := .tup [.str z, .ref t1])
      have er : (upd (upd (upd H8 row (.dK [])) t1 (.tup [.str nm, .ref row])) t2 (.tup [.str z, .ref t1])) row = some (.dK []) := by
        have e1 : (upd (upd H8 row (.dK [])) t1 (.tup [.str nm, .ref row])) row = some (.dK []) := by rw [upd_ne (ne_of_none upd_same nt1)]; exact upd_same
        rw [upd_ne (ne_of_none e1 nt2)]; exact e1
      have et : (upd (upd (upd H8 row (.dK [])) t1 (.tup [.str nm, .ref row])) t2 (.tup [.str z, .ref t1])) t1 = some (.tup [.str nm, .ref row]) := by rw [upd_ne (ne_of_none upd_same nt2)]; exact upd_same
      have e2 : (upd (upd (upd H8 row (.dK [])) t1 (.tup [.str nm, .ref row])) t2 (.tup [.str z, .ref t1])) t2 = some (.tup [.str z, .ref t1]) := upd_same
      have nr7 : H7 row = none := B8.free nrow (hb8.nb nrow)
      generalize (upd (upd (upd H8 row (.dK [])) t1 (.tup [.str nm, .ref row])) t2 (.tup [.str z, .ref t1])) = H9 at B79 hb9 er et e2 ⊢
      have hD9 := B79 _ _ hD7 nDb
      have nrD : row ≠ D := fun n => by rw [n, hD7] at nr7; cases nr7
      have lps : ps.length ≤ k := by
        have l1 := Paired.length pp
        have l2 := sb.length_le
        rw [List.length_map, List.length_take] at l2
        omega
      have kz : k < zs.length := (List.getElem?_eq_some_iff.mp hz).1
      refine ⟨_, hD9, by rw [List.length_map]; exact small1000 (by omega), ps ++ [t2], rs ++ [(z, t1, row)], by rw [upd_same, List.map_append]; rfl, ?_, fun e he => ?_, ?_, ?_, hb9.set nDb nDc, (B7.trans B79).put nD⟩
      · refine paired_snoc ?_ ?_
        · refine paired_monoR pp fun p e h => ?_
          have h9 := B79 _ _ h (tup_nb hb7 h)
          rw [upd_ne (fun n => by rw [n, hD9] at h9; cases h9)]
          exact h9
        · rw [upd_ne (fun n => by rw [n, hD9] at e2; cases e2)]
          exact e2
      · rcases List.mem_append.mp he with h | h
        · obtain ⟨h1, h2, h3⟩ := tt e h
          have h1' := B79 _ _ h1 (tup_nb hb7 h1)
          have h2' := B79 _ _ h2 (dk_nb hb7 h2)
          exact ⟨by rw [upd_ne (fun n => by rw [n, hD9] at h1'; cases h1')]; exact h1', by rw [upd_ne (fun n => by rw [n, hD9] at h2'; cases h2')]; exact h2', h3⟩
        · rw [List.mem_singleton.mp h]
          exact ⟨by show (upd H9 D _) t1 = _; rw [upd_ne (show t1 ≠ D from fun n => by rw [n, hD9] at et; cases et)]; exact et, by show (upd H9 D _) row = _; rw [upd_ne nrD]; exact er, B7.free nr7 (hb7.nb nr7)⟩
      · rw [List.map_append]
        refine nd_snoc ndr fun m => ?_
        obtain ⟨e, he, hee⟩ := List.mem_map.mp m
        have h2 := (tt e he).2.1
        rw [show e.2.2 = row from hee, nr7] at h2
        cases h2
      · rw [List.map_append, tk]
        exact sb.append (List.Sublist.refl _)
  · rintro H7 ⟨ps, rs, hD7, pp, tt, ndr, sb, hb7, B7⟩
    rw [List.length_map, List.take_length] at sb
    have ndk : (rs.map (·.1)).Nodup := ndz.sublist sb
    have l4 : rs.length ≤ 4 := by
      have := sb.length_le
      rw [List.length_map] at this
      omega
    refine ⟨D, ps, txD (rs.map fun e => (e.1, V.ref e.2.1)), rfl, .inl (.inl hD7), ?_, fun R nR => ?_⟩
    · rw [show txD (rs.map fun e => (e.1, V.ref e.2.1)) = rs.map (fun e => ((Sum.inr e.1 : Key), V.ref e.2.1)) from List.map_map ..]
      exact paired_mapR pp fun p e h => .inl (.inl h)
    rw [show mergeK [] (txD (rs.map fun e => (e.1, V.ref e.2.1))) = txD (rs.map fun e => (e.1, V.ref e.2.1)) from mergeK_new (es := []) (by rw [List.nil_append, List.map_map]; exact ndk)]
    have nRb : R ≠ b := hb7.nb nR
    refine ⟨R, _, upd_same, trivial, fun od => ?_⟩
    obtain ⟨es, eE, pE⟩ := hf.ex
    have pk := paired_keys pE
    have les : es.length ≤ 6 := by
      have := congrArg List.length pk
      rw [List.length_map, List.length_map] at this
      have := hf.few
      omega
    have nfb := dk_nb hb eE
    have nde : (es.map (·.1)).Nodup := by rw [pk]; exact hf.nd
    have n0 : ∀ e ∈ rs, H e.2.2 = none := fun e he => B06.free (tt e he).2.2 (hb6.nb (tt e he).2.2)
    have S0 : RS b c NH FP R od nm rs nh fr (fs.map (·.1)) 0 0 H (upd (upd H7 R (.dK (txD (rs.map fun e => (e.1, V.ref e.2.1))))) R (.frz od (.dK (txD (rs.map fun e => (e.1, V.ref e.2.1)))))) := by
      have up : ∀ {p : Addr} {o : HO}, H7 p = some o → (upd (upd H7 R (.dK (txD (rs.map fun e => (e.1, V.ref e.2.1))))) R (.frz od (.dK (txD (rs.map fun e => (e.1, V.ref e.2.1)))))) p = some o := fun {p o} h => by
        have ne : p ≠ R := ne_of_none h nR
        rw [upd_ne ne, upd_ne ne]
        exact h
      have nRc : R ≠ c := hb7.nc nR
      have n0R : H R = none := (B06.trans B7).free nR nRb
      exact ⟨(hb7.new nR).set nRb nRc, (((B06.trans B7).new nR).put n0R), up (B7 _ _ eN6 (lst_nb hb6 eN6)), up (B7 _ _ eF nFb), upd_same, fun e he => up (tt e he).1, fun i e hi => absurd hi (Nat.not_lt_zero _), fun i e _ he => up (tt e (List.mem_of_getElem? he)).2.1⟩
    generalize (upd (upd H7 R (.dK (txD (rs.map fun e => (e.1, V.ref e.2.1))))) R (.frz od (.dK (txD (rs.map fun e => (e.1, V.ref e.2.1)))))) = H8 at S0 ⊢
    have ndR : ((rs.map fun e => (e.1, V.ref e.2.1)).map (·.1)).Nodup := by rw [List.map_map]; exact ndk
    have gR : ∀ {H'}, H' R = some (.frz od (.dK (txD (rs.map fun e => (e.1, V.ref e.2.1))))) → ∀ e ∈ rs, DGet H' R (.str e.1) (some (.ref e.2.1)) := fun {H'} h e he =>
      .inl ⟨_, .inr e.1, .inr ⟨od, h⟩, rfl, (val_nd ndR (p := (e.1, V.ref e.2.1)) (List.mem_map.mpr ⟨e, he, rfl⟩)).symm⟩
    have gT : ∀ {H'}, But b H H' → DGet H' T (.str nm) (some (.ref fa)) := fun {H'} x => by
      have := DGet.k (k := .inr nm) (x _ _ hT nTb)
      rw [val_nd (es := [(nm, V.ref fa)]) (by simp) (p := (nm, V.ref fa)) (by simp)] at this
      exact this
    have okr : ∀ e ∈ rs, NameOk e.1 := fun e he => okz _ (sb.subset (List.mem_map.mpr ⟨e, he, rfl⟩))
    have lR : (txD (rs.map fun e => (e.1, V.ref e.2.1))).length = rs.length := by rw [List.length_map, List.length_map]
    refine ⟨_, rfl, R, od, rfl, .inl ⟨_, S0.r, for_it walk_keys (fun j σ H' => ∃ v9 v10 v11 v12 v13 v14 : Option V, σ = [some (.ref b), some (.ref T), some (.int 3), some (.int 1), some (.ref L), some (.ref NH), some (.ref hp), some (.ref FP), some (.ref R), v9, v10, v11, v12, v13, v14, none] ∧
      RS b c NH FP R od nm rs nh fr (fs.map (·.1)) j j H H') ⟨none, none, none, none, none, none, rfl, S0⟩ (fun j σ H' _ q => by obtain ⟨_, _, _, _, _, _, _, S⟩ := q; exact S.r) ?_ ?_⟩⟩
    · rintro j x σ _ H9 hj ⟨v9, v10, v11, v12, v13, v14, rfl, S⟩ ⟨rfl, k, v, ek, rfl⟩
      rw [lR] at hj
      have he : rs[j]? = some rs[j] := List.getElem?_eq_getElem hj
      have me : rs[j] ∈ rs := List.getElem_mem hj
      generalize rs[j] = e at he me
      obtain ⟨rfl, rfl⟩ : k = .inr e.1 ∧ v = .ref e.2.1 := by
        rw [List.getElem?_map, List.getElem?_map, he] at ek
        injection ek with ek
        injection ek with h1 h2
        exact ⟨h1.symm, h2.symm⟩
      refine ⟨_, rfl, _, rfl, R, .ref e.2.1, rfl, gR S.r e me, e.2.1, _, rfl, .inl (.inl (S.tup e me)), rfl, .str nm, [.ref e.2.2], rfl, .ref e.2.2, [], rfl, ⟨rfl, ?_⟩⟩
      refine ⟨_, rfl, _, rfl, T, .ref fa, rfl, gT S.but, fa, txD es, es.map (·.1), rfl, .inl (S.but _ _ eE nfb), by rw [List.map_map, List.map_map]; rfl, by rw [List.length_map]; omega, fun ys p pm _ np => ⟨p, rfl, ⟨_, .inl (.inl upd_same)⟩, ?_⟩⟩
      have npb : p ≠ b := S.bag.nb np
      have S1 : RS b c NH FP R od nm rs nh fr (fs.map (·.1)) j (j + 1) H (upd H9 p (.lst (ys.map V.str))) := by
        have S2 := S.next ((But.refl b H9).new np) (S.bag.new np (o := .lst (ys.map V.str)))
        exact ⟨S2.bag, S2.but, S2.nh, S2.fp, S2.r, S2.tup, S2.done, fun i e hi h => S2.todo i e (by omega) h⟩
      have hrow : (upd H9 p (.lst (ys.map V.str))) e.2.2 = some (.dK (cellD [])) := by
        have h := S.todo j e (Nat.le_refl _) he
        rw [upd_ne (ne_of_none h np)]
        exact h
      have hp9 : (upd H9 p (.lst (ys.map V.str))) p = some (.lst (ys.map V.str)) := upd_same
      generalize (upd H9 p (.lst (ys.map V.str))) = H10 at S1 hrow hp9 ⊢
      have ndy : ys.Nodup := pm.nodup_iff.mpr nde
      refine for_list (K := K) (a := p) (xs := ys.map V.str) (fun i σ H' => ∃ (v12 v13 v14 : Option V) (cs : Cells), σ = [some (.ref b), some (.ref T), some (.int 3), some (.int 1), some (.ref L), some (.ref NH), some (.ref hp), some (.ref FP), some (.ref R), some (.str e.1), some (.str nm), some (.ref e.2.2), v12, v13, v14, none] ∧
          RS b c NH FP R od nm rs nh fr (fs.map (·.1)) j (j + 1) H H' ∧ H' e.2.2 = some (.dK (cellD cs)) ∧ cs.map (·.1) = ys.take i ∧ (∀ p ∈ cs, NameOk p.1 ∧ ∀ z, p.2 = some z → NameOk z) ∧ H' p = some (.lst (ys.map V.str)))
        ⟨_, _, _, [], rfl, S1, hrow, rfl, fun p hp => absurd hp (by simp), hp9⟩ (fun i σ H' _ q => by obtain ⟨_, _, _, _, _, _, _, _, _, q⟩ := q; exact .inl (.inl q)) ?_ ?_
      · rintro i x σ H11 hx ⟨v12, v13, v14, cs, rfl, S2, hr2, ck, okc, hp11⟩
        obtain ⟨z, hz, rfl⟩ := map_get hx
        have mz : z ∈ fs.map (·.1) := by rw [← pk]; exact pm.mem_iff.mp (List.mem_of_getElem? hz)
        obtain ⟨v, fl, ev, fv⟩ := fv_at (pairedF pE fun _ _ q => q.but hb S2.but) mz
        have lcs : cs.length ≤ i := by
          have := congrArg List.length ck
          rw [List.length_map, List.length_take] at this
          omega
        have iy : i < ys.length := (List.getElem?_eq_some_iff.mp hz).1
        have ly : ys.length ≤ 6 := by rw [pm.length_eq, List.length_map]; exact les
        have fin : ∀ (o : Option Str) (H12 : Hp), (∀ y, o = some y → NameOk y) → But b H11 H12 → BagAt H12 b c → ∃ a H13, V.ref e.2.2 = V.ref a ∧ DPut H12 a (.str z) (cellV o) H13 ∧ ∃ cs' : Cells,
            RS b c NH FP R od nm rs nh fr (fs.map (·.1)) j (j + 1) H H13 ∧ H13 e.2.2 = some (.dK (cellD cs')) ∧ cs'.map (·.1) = ys.take (i + 1) ∧ (∀ p ∈ cs', NameOk p.1 ∧ ∀ z, p.2 = some z → NameOk z) ∧ H13 p = some (.lst (ys.map V.str)) := by
          intro o H12 oko B12 hb12
          have S3 := S2.next B12 hb12
          have hr3 := B12 _ _ hr2 (dk_nb S2.bag hr2)
          have hp12 := B12 _ _ hp11 npb
          have new : z ∉ (cs.map fun p => (p.1, cellV p.2)).map (·.1) := by
            rw [List.map_map]
            show z ∉ cs.map (·.1)
            rw [ck]
            intro m
            have nd2 : (ys.take (i + 1)).Nodup := ndy.sublist (List.take_sublist _ _)
            rw [take_more hz] at nd2
            exact (List.nodup_append.mp nd2).2.2 z m z (by simp) rfl
          refine ⟨e.2.2, _, rfl, DPut.k (k := .inr z) hr3 (by rw [List.length_map, List.length_map]; exact small1000 (by omega)), cs ++ [(z, o)], S3.row he hr3 hb (n0 e me) ndr, ?_, ?_, fun p hp => ?_, ?_⟩
          · rw [upd_same, putK_new new]
            show some (HO.dK (txD (cs.map (fun p => (p.1, cellV p.2)) ++ [(z, cellV o)]))) = some (HO.dK (txD ((cs ++ [(z, o)]).map fun p => (p.1, cellV p.2))))
            rw [List.map_append]
            rfl
          · rw [List.map_append, ck, take_more hz]
            rfl
          · rcases List.mem_append.mp hp with h | h
            · exact okc p h
            · rw [List.mem_singleton.mp h]
              refine ⟨?_, oko⟩
              obtain ⟨q, hq, hqe⟩ := List.mem_map.mp mz
              rw [← hqe]
              exact hf.ok q hq
          · rw [upd_ne (fun n => by rw [n, hr3] at hp12; cases hp12)]
            exact hp12
        have dget : DGet H11 fa (.str z) (some v) := by
          have := DGet.k (k := .inr z) (S2.but _ _ eE nfb)
          rw [ev] at this
          exact this
        refine ⟨_, rfl, _, rfl, T, .ref fa, rfl, gT S2.but, _, rfl, fa, v, rfl, dget, ?_⟩
        cases fv with
        | @mk tt l ws a bL wn okw fw =>
          refine ⟨_, rfl, tt, _, 0, .str "mark", rfl, rfl, .inl (.inl a), atI_nat (j := 0) rfl, rfl, _, rfl, tt_if (by decide +kernel) ?_⟩
          have lw : 0 < ws.length := List.length_pos_iff.mpr wn
          refine ⟨_, rfl, tt, _, 1, .ref l, rfl, rfl, .inl (.inl a), atI_nat (j := 1) rfl, _, rfl, _, rfl, tt, _, 1, .ref l, rfl, rfl, .inl (.inl a), atI_nat (j := 1) rfl, l, _, rfl, .inl (.inl (.inl bL)), b, c, ((ws.map V.str).length : Nat), rfl, S2.bag, by rw [List.length_map]; omega, by rw [List.length_map]; omega, fun r H12 r0 r1 hb12 B12 => ?_⟩
          rw [List.length_map] at r1
          obtain ⟨jj, rfl⟩ : ∃ jj : Nat, r = jj := ⟨r.toNat, by omega⟩
          have hjj : jj < ws.length := by omega
          have ew : ws[jj]? = some ws[jj] := List.getElem?_eq_getElem hjj
          have mw : ws[jj] ∈ ws := List.getElem_mem hjj
          generalize ws[jj] = w0 at ew mw
          obtain ⟨a', H13, ea, pa, cs', x1, x2, x3, x4, x5⟩ := fin (some w0) H12 (fun y hy => by injection hy with hy; rw [← hy]; exact okw _ mw) B12 hb12
          exact ⟨l, _, jj, .str w0, rfl, rfl, .inl (.inl (B12 _ _ bL (lst_nb S2.bag bL))), atI_nat (by rw [List.getElem?_map, ew]; rfl), _, rfl, _, rfl, a', H13, ea, pa, _, _, _, cs', rfl, x1, x2, x3, x4, x5⟩
        | @lk tt n a =>
          refine ⟨_, rfl, tt, _, 0, .str "link", rfl, rfl, .inl (.inl a), atI_nat (j := 0) rfl, rfl, _, rfl, ff_if (by decide +kernel) ⟨_, rfl, tt, _, 0, .str "link", rfl, rfl, .inl (.inl a), atI_nat (j := 0) rfl, rfl, _, rfl, ff_if (by decide +kernel) ?_⟩⟩
          refine ⟨small (by show 1 ≤ 1000; decide), fun ln nln => ?_⟩
          have hb12 := S2.bag.new nln (o := .lst [.non])
          have B12 : But b H11 (upd H11 ln (.lst [.non])) := (But.refl b H11).new nln
          have eln : (upd H11 ln (.lst [.non])) ln = some (.lst [.non]) := upd_same
          have nlnb : ln ≠ b := S2.bag.nb nln
          generalize (upd H11 ln (.lst [.non])) = H12 at hb12 B12 eln ⊢
          have S3 := S2.next B12 hb12
          refine ⟨_, rfl, R, od, rfl, .inl ⟨_, S3.r, fun D2 nD2 => lc_it walk_keys (fun k H' => ∃ acc : List Str, H' D2 = some (.lst (acc.map V.str)) ∧ acc.length ≤ k ∧ (∀ y ∈ acc, NameOk y) ∧ BagAt H' b c ∧ But b H12 H')
            ⟨[], upd_same, Nat.le_refl _, fun y hy => absurd hy (by simp), hb12.new nD2, (But.refl b H12).new nD2⟩ (fun k H' _ q => by obtain ⟨_, _, _, _, hb', B'⟩ := q; exact (S3.next B' hb').r) ?_ ?_⟩⟩
          · rintro k x _ H13 hk ⟨acc, hD2, la, oka, hb13, B13⟩ ⟨rfl, k', v', ek, rfl⟩
            have S4 := S3.next B13 hb13
            rw [lR] at hk
            have he2 : rs[k]? = some rs[k] := List.getElem?_eq_getElem hk
            have me2 : rs[k] ∈ rs := List.getElem_mem hk
            generalize rs[k] = e2 at he2 me2
            obtain ⟨rfl, rfl⟩ : k' = .inr e2.1 ∧ v' = .ref e2.2.1 := by
              rw [List.getElem?_map, List.getElem?_map, he2] at ek
              injection ek with ek
              injection ek with h1 h2
              exact ⟨h1.symm, h2.symm⟩
            have a13 := (B12.trans B13) _ _ a (tup_nb S2.bag a)
            refine ⟨rfl, _, rfl, _, rfl, R, .ref e2.2.1, rfl, gR S4.r e2 me2, e2.2.1, _, 0, .str nm, rfl, rfl, .inl (.inl (S4.tup e2 me2)), atI_nat (j := 0) rfl, _, rfl, tt, _, 1, .str n, rfl, rfl, .inl (.inl a13), atI_nat (j := 1) rfl, rfl, _, rfl, ?_⟩
            by_cases g : V.str nm = V.str n
            · refine tt_if (decide_eq_true g) ⟨_, rfl, _, hD2, by rw [List.length_map]; exact small1000 (by omega), acc ++ [e2.1], by rw [upd_same, List.map_append]; rfl, by rw [List.length_append]; exact Nat.succ_le_succ la, fun y hy => ?_, hb13.set (hb12.nb nD2) (hb12.nc nD2), B13.put nD2⟩
              rcases List.mem_append.mp hy with h | h
              · exact oka y h
              · rw [List.mem_singleton.mp h]
                exact okr e2 me2
            · exact ff_if (decide_eq_false g) ⟨acc, hD2, Nat.le_succ_of_le la, oka, hb13, B13⟩
          · rintro H13 ⟨acc, hD2, la, oka, hb13, B13⟩
            rw [lR] at la
            have S4 := S3.next B13 hb13
            have lz4 : zs.length ≤ 4 := by omega
            have lfr : fr.length ≤ 4 := by
              have := cutV_len (zs.map V.str) (some (((zs.map V.str).length : Int) - 1)) none
              rw [efr, List.length_map, List.length_map] at this
              omega
            refine ⟨ln, D2, [.non], acc.map V.str, rfl, rfl, B13 _ _ eln nlnb, hD2, small (by rw [List.length_map]; show 1 + acc.length ≤ 1000; omega), fun q1 nq1 => ⟨_, rfl, q1, FP, _, fr.map V.str, rfl, rfl, upd_same, ?_, small (by rw [List.length_append, List.length_map, List.length_map]; show 1 + acc.length + fr.length ≤ 1000; omega), fun q2 nq2 => ?_⟩⟩
            · have h := S4.fp
              rw [upd_ne (ne_of_none h nq1)]
              exact h
            have hb14 := (hb13.new nq1 (o := .lst ([.non] ++ acc.map V.str))).new nq2 (o := .lst (([.non] ++ acc.map V.str) ++ fr.map V.str))
            have B14 : But b H13 (upd (upd H13 q1 (.lst ([.non] ++ acc.map V.str))) q2 (.lst (([.non] ++ acc.map V.str) ++ fr.map V.str))) := ((But.refl b H13).new nq1).new nq2
            have eq2 : (upd (upd H13 q1 (.lst ([.non] ++ acc.map V.str))) q2 (.lst (([.non] ++ acc.map V.str) ++ fr.map V.str))) q2 = some (.lst (([.non] ++ acc.map V.str) ++ fr.map V.str)) := upd_same
            generalize (upd (upd H13 q1 (.lst ([.non] ++ acc.map V.str))) q2 (.lst (([.non] ++ acc.map V.str) ++ fr.map V.str))) = H14 at hb14 B14 eq2 ⊢
            have S5 := S4.next B14 hb14
            have ekeys : ((txD (rs.map fun e => (e.1, V.ref e.2.1))).map fun kv => kV kv.1) = (rs.map (·.1)).map V.str := by
              rw [List.map_map, List.map_map, List.map_map]
              rfl
            refine ⟨_, rfl, R, _, rfl, .inr ⟨od, S5.r⟩, fun q3 nq3 => ⟨2, rfl, q3, _, rfl, .inl (.inl upd_same), fun q4 nq4 => ?_⟩⟩
            rw [ekeys]
            rw [ekeys] at nq4
            obtain ⟨tl, etl, mtl⟩ := cut_strs (rs.map (·.1)) none (some 2)
            have ltl : tl.length ≤ 4 := by
              have := cutV_len ((rs.map (·.1)).map V.str) none (some 2)
              rw [etl, List.length_map, List.length_map, List.length_map] at this
              omega
            rw [etl]
            have eq2' : (upd (upd H14 q3 (.lst ((rs.map (·.1)).map V.str))) q4 (.lst (tl.map V.str))) q2 = some (.lst (([.non] ++ acc.map V.str) ++ fr.map V.str)) := by
              have h : (upd H14 q3 (.lst ((rs.map (·.1)).map V.str))) q2 = some (.lst (([.non] ++ acc.map V.str) ++ fr.map V.str)) := by rw [upd_ne (ne_of_none eq2 nq3)]; exact eq2
              rw [upd_ne (ne_of_none h nq4)]
              exact h
            refine ⟨q2, q4, _, _, rfl, rfl, eq2', upd_same, small (by rw [List.length_append, List.length_append, List.length_map, List.length_map, List.length_map]; show 1 + acc.length + fr.length + tl.length ≤ 1000; omega), fun q5 nq5 => ?_⟩
            have ec : (([V.non] ++ acc.map V.str) ++ fr.map V.str) ++ tl.map V.str = (none :: ((acc ++ fr) ++ tl).map some).map cellV := by
              rw [List.map_cons, List.map_map, List.map_append, List.map_append]
              rfl
            rw [ec]
            have lE : (none :: ((acc ++ fr) ++ tl).map some).length ≤ 20 := by rw [List.length_cons, List.length_map, List.length_append, List.length_append]; omega
            have okE : ∀ o ∈ (none :: ((acc ++ fr) ++ tl).map some), ∀ y, o = some y → NameOk y := by
              intro o ho y hy
              rw [hy] at ho
              rcases List.mem_cons.mp ho with h | h
              · cases h
              · obtain ⟨q, hq, hqe⟩ := List.mem_map.mp h
                injection hqe with hqe
                rw [← hqe]
                rcases List.mem_append.mp hq with h | h
                · rcases List.mem_append.mp h with h | h
                  · exact oka q h
                  · exact okz q (mfr q h)
                · obtain ⟨e3, he3, hee⟩ := List.mem_map.mp (mtl q h)
                  rw [← hee]
                  exact okr e3 he3
            have l0E : 0 < (none :: ((acc ++ fr) ++ tl).map some).length := Nat.succ_pos _
            generalize (none :: ((acc ++ fr) ++ tl).map some) = os at lE okE l0E ⊢
            have hb15 := ((hb14.new nq3 (o := .lst ((rs.map (·.1)).map V.str))).new nq4 (o := .lst (tl.map V.str))).new nq5 (o := .lst (os.map cellV))
            have nq5b : q5 ≠ b := ((hb14.new nq3 (o := .lst ((rs.map (·.1)).map V.str))).new nq4 (o := .lst (tl.map V.str))).nb nq5
            have B15 : But b H14 (upd (upd (upd H14 q3 (.lst ((rs.map (·.1)).map V.str))) q4 (.lst (tl.map V.str))) q5 (.lst (os.map cellV))) := (((But.refl b H14).new nq3).new nq4).new nq5
            have eq5 : (upd (upd (upd H14 q3 (.lst ((rs.map (·.1)).map V.str))) q4 (.lst (tl.map V.str))) q5 (.lst (os.map cellV))) q5 = some (.lst (os.map cellV)) := upd_same
            generalize (upd (upd (upd H14 q3 (.lst ((rs.map (·.1)).map V.str))) q4 (.lst (tl.map V.str))) q5 (.lst (os.map cellV))) = H15 at hb15 B15 eq5 ⊢
            refine ⟨_, rfl, _, rfl, _, rfl, q5, _, rfl, .inl (.inl (.inl eq5)), b, c, ((os.map cellV).length : Nat), rfl, hb15, by rw [List.length_map]; omega, by rw [List.length_map]; omega, fun r H16 r0 r1 hb16 B16 => ?_⟩
            rw [List.length_map] at r1
            obtain ⟨jj, rfl⟩ : ∃ jj : Nat, r = jj := ⟨r.toNat, by omega⟩
            have hjj : jj < os.length := by omega
            have ew := List.getElem?_eq_getElem hjj
            have mw := List.getElem_mem hjj
            generalize os[jj] = o at ew mw
            obtain ⟨a', H17, ea, pa, cs', x1, x2, x3, x4, x5⟩ := fin o H16 (okE o mw) ((((B12.trans B13).trans B14).trans B15).trans B16) hb16
            exact ⟨q5, _, jj, cellV o, rfl, rfl, .inl (.inl (B16 _ _ eq5 nq5b)), atI_nat (by rw [List.getElem?_map, ew]; rfl), _, rfl, _, rfl, a', H17, ea, pa, _, _, _, cs', rfl, x1, x2, x3, x4, x5⟩
        | @tg tt a =>
          refine ⟨_, rfl, tt, _, 0, .str "tag", rfl, rfl, .inl (.inl a), atI_nat (j := 0) rfl, rfl, _, rfl, ff_if (by decide +kernel) ⟨_, rfl, tt, _, 0, .str "tag", rfl, rfl, .inl (.inl a), atI_nat (j := 0) rfl, rfl, _, rfl, tt_if (by decide +kernel) ?_⟩⟩
          have ec : [V.non] ++ nh.map V.str = (none :: nh.map some).map cellV := by
            rw [List.map_cons, List.map_map]
            rfl
          refine ⟨small (by show 1 ≤ 1000; decide), fun ln nln => ⟨_, rfl, ln, NH, [.non], nh.map V.str, rfl, rfl, upd_same, ?_, small (by rw [List.length_map]; show 1 + nh.length ≤ 1000; omega), fun lc nlc => ?_⟩⟩
          · have h := S2.nh
            rw [upd_ne (ne_of_none h nln)]
            exact h
          rw [ec]
          have hb12 := (S2.bag.new nln (o := .lst [.non])).new nlc (o := .lst ((none :: nh.map some).map cellV))
          have nlb : lc ≠ b := (S2.bag.new nln).nb nlc
          have B12 : But b H11 (upd (upd H11 ln (.lst [.non])) lc (.lst ((none :: nh.map some).map cellV))) := ((But.refl b H11).new nln).new nlc
          have elc : (upd (upd H11 ln (.lst [.non])) lc (.lst ((none :: nh.map some).map cellV))) lc = some (.lst ((none :: nh.map some).map cellV)) := upd_same
          generalize (upd (upd H11 ln (.lst [.non])) lc (.lst ((none :: nh.map some).map cellV))) = H12 at hb12 B12 elc ⊢
          refine ⟨_, rfl, b, c, 4, rfl, hb12, by decide, by decide, fun r H13 r0 r1 hb13 B13 => ?_⟩
          obtain ⟨jj, rfl⟩ : ∃ jj : Nat, r = jj := ⟨r.toNat, by omega⟩
          have hjj : jj < (none :: nh.map some).length := by rw [List.length_cons, List.length_map]; omega
          have ew := List.getElem?_eq_getElem hjj
          have mw := List.getElem_mem hjj
          generalize (none :: nh.map some)[jj] = o at ew mw
          obtain ⟨a', H14, ea, pa, cs', x1, x2, x3, x4, x5⟩ := fin o H13 (fun y hy => by
            rw [hy] at mw
            rcases List.mem_cons.mp mw with h | h
            · cases h
            · obtain ⟨q, hq, hqe⟩ := List.mem_map.mp h
              injection hqe with hqe
              rw [← hqe]
              exact oknh q hq) (B12.trans B13) hb13
          exact ⟨lc, _, jj, cellV o, rfl, rfl, .inl (.inl (B13 _ _ elc nlb)), atI_nat (by rw [List.getElem?_map, ew]; rfl), _, rfl, _, rfl, a', H14, ea, pa, _, _, _, cs', rfl, x1, x2, x3, x4, x5⟩
      · rintro σ H11 ⟨v12, v13, v14, cs, rfl, S2, hr2, ck, okc, hp11⟩
        rw [List.length_map, List.take_length] at ck
        refine ⟨_, _, _, _, _, _, rfl, S2.bag, S2.but, S2.nh, S2.fp, S2.r, S2.tup, fun i' e' hi' he' => ?_, S2.todo⟩
        by_cases h : i' = j
        · subst h
          obtain rfl : e = e' := by rw [he] at he'; exact Option.some.inj he'
          exact ⟨cs, hr2, okc, by rw [ck, ← pk]; exact pm⟩
        · exact S2.done i' e' (by omega) he'
    · rintro σ H9 ⟨v9, v10, v11, v12, v13, v14, rfl, S⟩
      rw [lR] at S
      have n0R : H R = none := (B06.trans B7).free nR nRb
      refine ⟨S.r, .ref R, rfl, q R rs _ upd_same (fun e he => ?_) l4 n0R (S.bag.set nRb (hb7.nc nR)) (S.but.put n0R)⟩
      obtain ⟨i, hi⟩ := List.getElem?_of_mem he
      have hl : i < rs.length := (List.getElem?_eq_some_iff.mp hi).1
      obtain ⟨cs, h1, h2⟩ := S.done i e hl hi
      have h3 := S.tup e he
      have hR := S.r
      exact ⟨by rw [upd_ne (fun n => by rw [n, hR] at h3; cases h3)]; exact h3, cs, by rw [upd_ne (fun n => by rw [n, hR] at h1; cases h1)]; exact h1, h2⟩
end
end Lw

set_option Elab.async false
set_option linter.all false
set_option maxRecDepth 100000
set_option maxHeartbeats 4000000
namespace Lw
open PySem PySem.Spec PyProof.Rows L2
/-- data that can be shown: at most n levels, of weight at most m -/
structure Shw (d : PyData) (n m : Nat) : Prop where
  sh : d.showable = true
  lf : d.leavesShort 13 = true
  dep : d.depth ≤ n
  wt : d.weight ≤ m
structure ShwAll (ds : List PyData) (n m : Nat) : Prop where
  sh : PyData.showableAll ds = true
  lf : PyData.leavesShortAll 13 ds = true
  dep : PyData.depthAll ds ≤ n
  wt : PyData.weightAll ds ≤ m
structure ShwKv (ds : List (PyData × PyData)) (n m : Nat) : Prop where
  sh : PyData.showableKv ds = true
  lf : PyData.leavesShortKv 13 ds = true
  dep : PyData.depthKv ds ≤ n
  wt : PyData.weightKv ds ≤ m
theorem Shw.le {d : PyData} {n m n' m' : Nat} (x : Shw d n m) (a : n ≤ n') (b : m ≤ m') : Shw d n' m' := ⟨x.sh, x.lf, Nat.le_trans x.dep a, Nat.le_trans x.wt b⟩
theorem Shw.non : Shw .none 0 0 := ⟨rfl, rfl, Nat.le_refl _, Nat.le_refl _⟩
theorem Shw.bl (b : Bool) : Shw (.bool b) 0 0 := ⟨rfl, rfl, Nat.le_refl _, Nat.le_refl _⟩
theorem Shw.str {z : Str} (h : NameOk z) : Shw (.str z) 0 8 := by
  refine ⟨rfl, ?_, Nat.le_refl _, h.most⟩
  show (z.cps.toList.all fun c => decide (c < 16 ^ 8)) = true
  rw [List.all_eq_true]
  intro c hc
  have := (h.low c hc).2
  exact decide_eq_true (Nat.lt_of_le_of_lt this (by decide))
theorem ShwAll.nil {n : Nat} : ShwAll [] n 0 := ⟨rfl, rfl, Nat.zero_le _, Nat.le_refl _⟩
theorem ShwAll.cons {d : PyData} {ds : List PyData} {n m k : Nat} (x : Shw d n m) (y : ShwAll ds n k) : ShwAll (d :: ds) n (m + 1 + k) := by
  refine ⟨?_, ?_, ?_, ?_⟩
  · show (PyData.showable d && PyData.showableAll ds) = true
    rw [x.sh, y.sh]; rfl
  · show (PyData.leavesShort 13 d && PyData.leavesShortAll 13 ds) = true
    rw [x.lf, y.lf]; rfl
  · have h1 := x.dep
    have h2 := y.dep
    rw [PyData.depthAll]
    exact Nat.max_le.mpr ⟨h1, h2⟩
  · have h1 := x.wt
    have h2 := y.wt
    rw [PyData.weightAll]
    omega
theorem ShwAll.lst {ds : List PyData} {n m : Nat} (x : ShwAll ds n m) : Shw (.list ds) (n + 1) m := ⟨x.sh, x.lf, by rw [PyData.depth]; exact Nat.succ_le_succ x.dep, x.wt⟩
theorem ShwAll.tup {ds : List PyData} {n m : Nat} (x : ShwAll ds n m) : Shw (.tuple ds) (n + 1) m := ⟨x.sh, x.lf, by rw [PyData.depth]; exact Nat.succ_le_succ x.dep, x.wt⟩
theorem ShwAll.of {ds : List PyData} {n m : Nat} (h : ∀ d ∈ ds, Shw d n m) : ShwAll ds n (ds.length * (m + 1)) := by
  induction ds with
  | nil => exact ⟨rfl, rfl, Nat.zero_le _, Nat.zero_le _⟩
  | cons d r ih =>
    have := ShwAll.cons (h d List.mem_cons_self) (ih fun e he => h e (List.mem_cons_of_mem _ he))
    exact ⟨this.sh, this.lf, this.dep, by have := this.wt; rw [List.length_cons, Nat.succ_mul]; omega⟩
theorem ShwKv.of {ds : List (PyData × PyData)} {n m : Nat} (h : ∀ d ∈ ds, Shw d.1 n m ∧ Shw d.2 n m) : ShwKv ds n (ds.length * (2 * m + 2)) := by
  induction ds with
  | nil => exact ⟨rfl, rfl, Nat.zero_le _, Nat.zero_le _⟩
  | cons d r ih =>
    obtain ⟨k, v⟩ := d
    obtain ⟨x, y⟩ := h _ List.mem_cons_self
    have z := ih fun e he => h e (List.mem_cons_of_mem _ he)
    refine ⟨?_, ?_, ?_, ?_⟩
    · show (PyData.showable k && PyData.showable v && PyData.showableKv r) = true
      rw [x.sh, y.sh, z.sh]; rfl
    · show (PyData.leavesShort 13 k && PyData.leavesShort 13 v && PyData.leavesShortKv 13 r) = true
      rw [x.lf, y.lf, z.lf]; rfl
    · have h1 := x.dep
      have h2 := y.dep
      have h3 := z.dep
      simp only [PyData.depthKv]
      simp only at h1 h2
      omega
    · have h1 := x.wt
      have h2 := y.wt
      have h3 := z.wt
      simp only at h1 h2
      rw [PyData.weightKv, List.length_cons, Nat.succ_mul]
      omega
theorem ShwKv.dct {ds : List (PyData × PyData)} {n m : Nat} (x : ShwKv ds n m) : Shw (.dict ds) (n + 1) m := ⟨x.sh, x.lf, by rw [PyData.depth]; exact Nat.succ_le_succ x.dep, x.wt⟩
theorem Shw.fits {d : PyData} {n m : Nat} (x : Shw d n m) (hn : n ≤ 40) (hm : m ≤ 1000000) : d.showable = true ∧ d.depth ≤ 40 ∧ d.shown.length ≤ sizeLine :=
  ⟨x.sh, Nat.le_trans x.dep hn, PyData.shown_fits (B := 13) (by decide) (by decide) x.lf (Nat.le_trans x.wt (Nat.le_trans hm (by decide)))⟩
end Lw

set_option Elab.async false
set_option linter.all false
set_option maxRecDepth 100000
set_option maxHeartbeats 4000000
namespace Lw
open PySem PySem.Spec PyProof.Rows L2
abbrev sAlike : Stmt := topS 10
section
variable {P : Program} {w : World} {K : PySem.W.Frag} {mg : Str → Option Value} {base : Heap}
theorem scAlike : FnScope ["_law_found", "_law_due"] ["_law_found", "_law_due"] (defScope sAlike) := ⟨rfl, rfl, rfl, by decide +kernel, rfl, by decide +kernel, by decide +kernel⟩
/-- what is told: whether, and names -/
structure Told (H : Hp) (a : Addr) (m : Bool) (ws : List Str) : Prop where
  ex : ∃ l, H a = some (.lst [.bl m, .ref l]) ∧ H l = some (.lst (ws.map V.str))
abbrev toldD (m : Bool) (ws : List Str) : PyData := .list [.bool m, .list (ws.map PyData.str)]
theorem dxs_strs {H : Hp} : ∀ ws : List Str, DXs H (ws.map V.str) (ws.map PyData.str)
  | [] => .nil
  | w :: r => .cons (.str w) (dxs_strs r)
theorem dps_strs {K : PySem.W.Frag} {H : Hp} : ∀ ws : List Str, DpAll K H (ws.map V.str) (ws.map PyData.str)
  | [] => .nil
  | w :: r => .cons (.str w) (dps_strs r)
theorem Told.dx {H : Hp} {a : Addr} {m : Bool} {ws : List Str} (x : Told H a m ws) : DX H (.ref a) (toldD m ws) := by
  obtain ⟨l, h1, h2⟩ := x.ex
  exact .lst h1 (.cons (.bl m) (.cons (.lst h2 (dxs_strs ws)) .nil))
theorem Told.dp {K : PySem.W.Frag} {H : Hp} {a : Addr} {m : Bool} {ws : List Str} (x : Told H a m ws) : Dp K H (.ref a) (toldD m ws) := by
  obtain ⟨l, h1, h2⟩ := x.ex
  exact .lst (.inl (.inl h1)) (.cons (.bl m) (.cons (.lst (.inl (.inl h2)) (dps_strs ws)) .nil))
theorem lay_strs : ∀ {ws : List Str}, (∀ z ∈ ws, NameOk z) → PyData.canLayAll0 (ws.map PyData.str) = true
  | [], _ => rfl
  | z :: r, h => by
    show (PyData.canLay0 (.str z) && PyData.canLayAll0 (r.map PyData.str)) = true
    rw [lay_strs fun y hy => h y (List.mem_cons_of_mem _ hy), Bool.and_true]
    have o := h z List.mem_cons_self
    show PyData.strOk z = true
    unfold PyData.strOk
    rw [← Array.all_toList, List.all_eq_true]
    intro c hc
    exact decide_eq_true (Nat.lt_of_le_of_lt (o.low c hc).2 (by decide))
theorem mix_strs : ∀ ws : List Str, SeqAt.noMixAll (ws.map PyData.str) (ws.map PyData.str) = true
  | [] => rfl
  | z :: r => by
    show (true && SeqAt.noMixAll (r.map PyData.str) (r.map PyData.str)) = true
    rw [mix_strs r]; rfl
theorem told_eqv (m : Bool) (ws : List Str) : PyData.eqv (toldD m ws) (toldD m ws) = true := by
  rw [← SeqAt.same_eq_eqv _ _ (by
    show (true && ((SeqAt.noMixAll (ws.map PyData.str) (ws.map PyData.str)) && true)) = true
    rw [mix_strs]; rfl)]
  exact same_self _
theorem told_shw {m : Bool} {ws : List Str} (h : ∀ z ∈ ws, NameOk z) : Shw (toldD m ws) 2 (1 + ((ws.map PyData.str).length * 9 + 1)) := by
  have h1 : ShwAll (ws.map PyData.str) 0 ((ws.map PyData.str).length * 9) := ShwAll.of fun d hd => by
    obtain ⟨z, hz, rfl⟩ := List.mem_map.mp hd
    exact Shw.str (h z hz)
  have h2 := ShwAll.cons ((Shw.bl m).le (Nat.zero_le 1) (Nat.le_refl 0)) (ShwAll.cons (n := 1) h1.lst ShwAll.nil)
  exact h2.lst.le (Nat.le_refl _) (by omega)
theorem told_shaped {m : Bool} {ws : List Str} (h : ∀ z ∈ ws, NameOk z) : SeqAt.shaped (toldD m ws) = true := by
  have h1 : PyData.canLay0 (toldD m ws) = true := by
    show (true && (PyData.canLayAll0 (ws.map PyData.str) && true)) = true
    rw [lay_strs h]; rfl
  have h2 := (told_shw (m := m) h).dep
  unfold SeqAt.shaped
  rw [h1, Bool.true_and]
  exact decide_eq_true (Nat.le_trans h2 (by decide))
def spAlike : Sp := fun vs H Q _ => ∃ (x y : Addr) (m : Bool) (ws : List Str), vs = [.ref x, .ref y] ∧ Told H x m ws ∧ Told H y m ws ∧ (∀ z ∈ ws, NameOk z) ∧ ws.length ≤ 100 ∧ Q (.bl true) H
theorem ok_alike {f : Addr} {fd : FuncData} (F : Fun K "_law_alike" "_law_alike" sAlike f fd) (mrepr : mg "repr" = none) (hs : ∃ o, base.get? sysModules = some o) : FnG P w K mg base 1 f fd ["_law_found", "_law_due"] spAlike := by
  refine fun_okG F scAlike (fun vs H Q E h => ?_) (fun cdv A outer s H vs Q E hr hg h => ?_)
  · obtain ⟨x, y, m, ws, rfl, _⟩ := h
    rfl
  obtain ⟨x, y, m, ws, rfl, hx, hy, ok, few, q⟩ := h
  have hu : (cxOf CX0 P w K mg base ["_law_found", "_law_due"] "_law_alike" (defScope sAlike) f cdv A outer s H E).nox.A.units + 64 < cLine := hr.units
  refine ⟨_, pss_one (ps_ret (pe_and (pe_cmpR (op_eqD hu) (pv 0) (pv 1) (nomark _)) (pe_one (pe_cmpR (r := rEq) op_eq (pe_callB (call_repr hg hu hs) (by rfl) mrepr (by decide +kernel) (pa_cons (pv 0) pa_nil)) (pe_callB (call_repr hg hu hs) (by rfl) mrepr (by decide +kernel) (pa_cons (pv 1) pa_nil)) (nomark _))))), ?_⟩
  obtain ⟨s1, s2, s3⟩ := (told_shw (m := m) ok).fits (by decide) (by rw [List.length_map]; omega)
  refine ⟨_, rfl, _, rfl, toldD m ws, toldD m ws, hx.dp, hy.dp, told_shaped ok, told_shaped ok, true, by rw [told_eqv], ?_⟩
  refine tt_if rfl ⟨_, rfl, x, toldD m ws, rfl, hx.dx, s1, s2, s3, _, rfl, y, toldD m ws, rfl, hy.dx, s1, s2, s3, rfl, ?_⟩
  rw [decide_eq_true rfl]
  exact q
end
end Lw

set_option Elab.async false
set_option linter.all false
set_option maxRecDepth 100000
set_option maxHeartbeats 4000000
namespace Lw
open PySem PySem.Spec PyProof.Rows L2
/-! the law's own data: what a row and its tests show -/
def rowOf (cs : Cells) : Row := fun f => (cs.find? fun p => decide (p.1 = f)).map (·.2)
theorem row_at {H : Hp} {a : Addr} {cs : Cells} (e : H a = some (.dK (cellD cs))) : RowAt H a (rowOf cs) := by
  refine ⟨_, e, fun f => ?_⟩
  clear e
  induction cs with
  | nil => rfl
  | cons p r ih =>
    show ((List.find? _ ((Sum.inr p.1, cellV p.2) :: cellD r)).map _) = ((List.find? _ (p :: r)).map _).map _
    by_cases q : p.1 = f
    · rw [List.find?_cons_of_pos (by rw [q]; exact decide_eq_true rfl), List.find?_cons_of_pos (by rw [q]; exact decide_eq_true rfl)]
      rfl
    · rw [List.find?_cons_of_neg (by rw [decide_eq_true_eq]; exact fun n => q (Sum.inr.inj n)), List.find?_cons_of_neg (by rw [decide_eq_true_eq]; exact q)]
      exact ih
theorem row_has {cs : Cells} {names : List Str} (x : CellsOk cs names) {f : Str} (m : f ∈ names) : ∃ o, rowOf cs f = some o := by
  obtain ⟨p, hp, hf⟩ := List.mem_map.mp (x.keys.mem_iff.mpr m)
  unfold rowOf
  cases e : cs.find? fun p => decide (p.1 = f) with
  | none =>
    rw [List.find?_eq_none] at e
    exact absurd (decide_eq_true hf) (e p hp)
  | some q => exact ⟨q.2, rfl⟩
def cellDt : Option Str → PyData
  | none => .none
  | some z => .str z
abbrev rowDt (cs : Cells) : PyData := .dict ((cs.map fun p => (p.1, cellDt p.2)).map fun p => (.str p.1, p.2))
theorem row_dx {H : Hp} {a : Addr} {cs : Cells} (e : H a = some (.dK (cellD cs))) : DX H (.ref a) (rowDt cs) := by
  refine .dct e ?_ ?_
  · rw [List.map_map, List.map_map, List.map_map]
    rfl
  · rw [List.map_map, List.map_map, List.map_map]
    clear e
    induction cs with
    | nil => exact .nil
    | cons p r ih =>
      refine .cons ?_ ih
      show DX H (cellV p.2) (cellDt p.2)
      cases p.2 with
      | none => exact .non
      | some z => exact .str z
theorem row_shw {cs : Cells} {names : List Str} (x : CellsOk cs names) : Shw (rowDt cs) 1 (cs.length * 18) := by
  have h : ShwKv ((cs.map fun p => (p.1, cellDt p.2)).map fun p => (PyData.str p.1, p.2)) 0 (((cs.map fun p => (p.1, cellDt p.2)).map fun p => (PyData.str p.1, p.2)).length * (2 * 8 + 2)) := ShwKv.of fun d hd => by
    obtain ⟨q, hq, rfl⟩ := List.mem_map.mp hd
    obtain ⟨p, hp, rfl⟩ := List.mem_map.mp hq
    obtain ⟨o1, o2⟩ := x.ok p hp
    refine ⟨Shw.str o1, ?_⟩
    show Shw (cellDt p.2) 0 8
    cases e : p.2 with
    | none => exact Shw.non.le (Nat.le_refl _) (by decide)
    | some z => exact Shw.str (o2 z e)
  exact h.dct.le (Nat.le_refl _) (by rw [List.length_map, List.length_map]; omega)
def tstDt : Tst → PyData
  | .is f ws => .tuple [.str "is", .str f, .list (ws.map PyData.str)]
  | .non f => .tuple [.str "none", .str f]
  | .nt t => .tuple [.str "not", tstDt t]
theorem tst_dx {H : Hp} {v : V} {t : Tst} (x : TV H v t) : DX H v (tstDt t) := by
  induction x with
  | is a b => exact .tup a (.cons (.str _) (.cons (.str _) (.cons (.lst b (dxs_strs _)) .nil)))
  | non a => exact .tup a (.cons (.str _) (.cons (.str _) .nil))
  | nt a _ ih => exact .tup a (.cons (.str _) (.cons ih .nil))
theorem name_is : NameOk "is" := nameB_ok (by decide +kernel)
theorem name_none : NameOk "none" := nameB_ok (by decide +kernel)
theorem name_not : NameOk "not" := nameB_ok (by decide +kernel)
theorem tst_shw {m : Nat} : ∀ {t : Tst}, NameOk t.field → (∀ f ws, t.core = .is f ws → ws.length ≤ m ∧ ∀ z ∈ ws, NameOk z) → Shw (tstDt t) (t.depth + 2) (t.depth * 10 + (30 + 10 * m))
  | .is f ws, hf, h => by
    obtain ⟨l, o⟩ := h f ws rfl
    have h1 : ShwAll (ws.map PyData.str) 0 ((ws.map PyData.str).length * 9) := ShwAll.of fun d hd => by
      obtain ⟨z, hz, rfl⟩ := List.mem_map.mp hd
      exact Shw.str (o z hz)
    have h2 := ShwAll.cons ((Shw.str name_is).le (Nat.zero_le 1) (Nat.le_refl 8)) (ShwAll.cons ((Shw.str hf).le (Nat.zero_le 1) (Nat.le_refl 8)) (ShwAll.cons (n := 1) h1.lst ShwAll.nil))
    exact h2.tup.le (by show 2 ≤ 0 + 2; decide) (by rw [List.length_map]; show _ ≤ 0 * 10 + (30 + 10 * m); omega)
  | .non f, hf, h => by
    have h2 := ShwAll.cons ((Shw.str name_none).le (Nat.zero_le 1) (Nat.le_refl 8)) (ShwAll.cons ((Shw.str hf).le (Nat.zero_le 1) (Nat.le_refl 8)) ShwAll.nil)
    exact h2.tup.le (by show 2 ≤ 0 + 2; decide) (by show _ ≤ 0 * 10 + (30 + 10 * m); omega)
  | .nt t, hf, h => by
    have ih := tst_shw (m := m) (t := t) hf h
    have h2 := ShwAll.cons ((Shw.str name_not).le (Nat.zero_le (t.depth + 2)) (Nat.le_refl 8)) (ShwAll.cons ih ShwAll.nil)
    exact h2.tup.le (by show _ ≤ t.depth + 1 + 2; omega) (by show _ ≤ (t.depth + 1) * 10 + (30 + 10 * m); omega)
theorem tsts_dx {H : Hp} {vs : List V} {ts : List Tst} (x : Paired (TV H) vs ts) : DXs H vs (ts.map tstDt) := by
  induction x with
  | nil => exact .nil
  | cons a _ ih => exact .cons (tst_dx a) ih
abbrev caseDt (cs : Cells) (ts : List Tst) : PyData := .list [rowDt cs, .list (ts.map tstDt)]
/-- [row, tests] -/
theorem case_dx {H : Hp} {a r l : Addr} {cs : Cells} {vs : List V} {ts : List Tst} (e : H a = some (.lst [.ref r, .ref l])) (er : H r = some (.dK (cellD cs))) (el : H l = some (.lst vs)) (x : Paired (TV H) vs ts) : DX H (.ref a) (caseDt cs ts) :=
  .lst e (.cons (row_dx er) (.cons (.lst el (tsts_dx x)) .nil))
theorem case_fits {cs : Cells} {names : List Str} {ts : List Tst} {m : Nat} (hc : CellsOk cs names) (lc : cs.length ≤ 100) (ht : ∀ t ∈ ts, t.depth ≤ 9 ∧ NameOk t.field ∧ ∀ f ws, t.core = .is f ws → ws.length ≤ 100 ∧ ∀ z ∈ ws, NameOk z) (lt : ts.length ≤ 100) :
    (caseDt cs ts).showable = true ∧ (caseDt cs ts).depth ≤ 40 ∧ (caseDt cs ts).shown.length ≤ sizeLine := by
  have h1 : ShwAll (ts.map tstDt) 11 ((ts.map tstDt).length * (1120 + 1)) := ShwAll.of fun d hd => by
    obtain ⟨t, htm, rfl⟩ := List.mem_map.mp hd
    obtain ⟨a, b, c⟩ := ht t htm
    exact (tst_shw (m := 100) b c).le (by omega) (by omega)
  have h2 := ShwAll.cons ((row_shw hc).le (show 1 ≤ 12 by decide) (Nat.le_refl _)) (ShwAll.cons h1.lst ShwAll.nil)
  exact h2.lst.fits (by decide) (by rw [List.length_map]; omega)
end Lw

set_option Elab.async false
set_option linter.all false
set_option maxRecDepth 100000
set_option maxHeartbeats 4000000
namespace Lw
open PySem PySem.Spec PyProof.Rows L2
theorem tst_dp {K : PySem.W.Frag} {H : Hp} {v : V} {t : Tst} (x : TV H v t) : Dp K H v (tstDt t) := by
  induction x with
  | is a b => exact .tup (.inl (.inl a)) (.cons (.str _) (.cons (.str _) (.cons (.lst (.inl (.inl b)) (dps_strs _)) .nil)))
  | non a => exact .tup (.inl (.inl a)) (.cons (.str _) (.cons (.str _) .nil))
  | nt a _ ih => exact .tup (.inl (.inl a)) (.cons (.str _) (.cons ih .nil))
theorem tsts_dp {K : PySem.W.Frag} {H : Hp} {vs : List V} {ts : List Tst} (x : Paired (TV H) vs ts) : DpAll K H vs (ts.map tstDt) := by
  induction x with
  | nil => exact .nil
  | cons a _ ih => exact .cons (tst_dp a) ih
theorem lay_str {z : Str} (o : NameOk z) : PyData.canLay0 (.str z) = true := by
  have h := lay_strs (ws := [z]) fun y hy => by rw [List.mem_singleton.mp hy]; exact o
  have e : (PyData.canLay0 (.str z) && true) = true := h
  rw [Bool.and_true] at e
  exact e
theorem tst_lay : ∀ {t : Tst}, NameOk t.field → (∀ f ws, t.core = .is f ws → ∀ z ∈ ws, NameOk z) → PyData.canLay0 (tstDt t) = true
  | .is f ws, hf, h => by
    show (PyData.canLay0 (.str "is") && (PyData.canLay0 (.str f) && (PyData.canLayAll0 (ws.map PyData.str) && true))) = true
    rw [lay_str name_is, lay_str (z := f) hf, lay_strs (h f ws rfl)]; rfl
  | .non f, hf, h => by
    show (PyData.canLay0 (.str "none") && (PyData.canLay0 (.str f) && true)) = true
    rw [lay_str name_none, lay_str (z := f) hf]; rfl
  | .nt t, hf, h => by
    show (PyData.canLay0 (.str "not") && (PyData.canLay0 (tstDt t) && true)) = true
    rw [lay_str name_not, tst_lay (t := t) hf h]; rfl
theorem tsts_lay : ∀ {ts : List Tst}, (∀ t ∈ ts, NameOk t.field ∧ ∀ f ws, t.core = .is f ws → ∀ z ∈ ws, NameOk z) → PyData.canLayAll0 (ts.map tstDt) = true
  | [], _ => rfl
  | t :: r, h => by
    show (PyData.canLay0 (tstDt t) && PyData.canLayAll0 (r.map tstDt)) = true
    obtain ⟨a, b⟩ := h t List.mem_cons_self
    rw [tst_lay a b, tsts_lay fun y hy => h y (List.mem_cons_of_mem _ hy)]; rfl
/-- tests drawn and changed -/
structure TS (H : Hp) (l : Addr) (names : List Str) (n : Nat) (vs : List V) (ts : List Tst) : Prop where
  at_ : H l = some (.lst vs)
  pr : Paired (TV H) vs ts
  ok : ∀ t ∈ ts, TstOk names n 6 t
  few : ts.length ≤ 9
theorem TS.mono {H H' : Hp} {l : Addr} {names : List Str} {n : Nat} {vs : List V} {ts : List Tst} (x : TS H l names n vs ts) (s : Same H H') : TS H' l names n vs ts := ⟨s _ _ x.at_, tv_list x.pr fun _ _ _ q => q.mono s, x.ok, x.few⟩
theorem shaped_tests {ts : List Tst} {names : List Str} {n : Nat} (on : ∀ f ∈ names, NameOk f) (ok : ∀ t ∈ ts, TstOk names n 6 t) (hn : n ≤ 9) : SeqAt.shaped (.list (ts.map tstDt)) = true := by
  have h1 : PyData.canLay0 (.list (ts.map tstDt)) = true := tsts_lay fun t ht => ⟨on _ (ok t ht).fld, fun f ws e => ((ok t ht).words f ws e).2.2⟩
  have h2 : ShwAll (ts.map tstDt) 11 ((ts.map tstDt).length * (1120 + 1)) := ShwAll.of fun d hd => by
    obtain ⟨t, htm, rfl⟩ := List.mem_map.mp hd
    have o := ok t htm
    have d9 : t.depth ≤ 9 := Nat.le_trans o.dep hn
    exact (tst_shw (m := 100) (on _ o.fld) fun f ws e => ⟨Nat.le_trans (o.words f ws e).2.1 (by decide), (o.words f ws e).2.2⟩).le (by omega) (by omega)
  have h3 := h2.lst.dep
  unfold SeqAt.shaped
  rw [h1, Bool.true_and]
  exact decide_eq_true (Nat.le_trans h3 (by decide))
theorem eqv_nil (ts : List Tst) : (!PyData.eqv (.list (ts.map tstDt)) (.list [])) = !ts.isEmpty := by
  cases ts with
  | nil => simp [PyData.eqv, PyData.eqvAll]
  | cons t r => simp [PyData.eqv, PyData.eqvAll]
/-- tests != [] -/
theorem ne_read {K : PySem.W.Frag} {i : Nat} {σ : L2.St} {H : Hp} {Q : VK} {l : Addr} {names : List Str} {n : Nat} {vs : List V} {ts : List Tst} (h : σ[i]? = some (some (.ref l))) (x : TS H l names n vs ts) (on : ∀ f ∈ names, NameOk f) (hn : n ≤ 9)
    (q : ∀ p, H p = none → Q (.bl (!ts.isEmpty)) (upd H p (.lst []))) : tOp (rNeD K) (tVar i) (tLst tNil) σ H Q := by
  refine ⟨_, h, Nat.zero_le _, fun p np => ?_⟩
  have x2 := x.mono (same_new np (.lst []))
  refine ⟨.list (ts.map tstDt), .list [], .lst (.inl (.inl x2.at_)) (tsts_dp x2.pr), .lst (.inl (.inl upd_same)) .nil, shaped_tests on x.ok hn, by decide, ?_⟩
  rw [eqv_nil]
  exact q p np
/-- what stands while the rows are gone through -/
structure LS (b c fa R : Addr) (od : Obj) (nm : Str) (fs : List (Str × Fld)) (rs : List (Str × Addr × Addr)) (H : Hp) : Prop where
  bag : BagAt H b c
  fsa : FsAt H fa fs
  r : H R = some (.frz od (.dK (txD (rs.map fun e => (e.1, V.ref e.2.1)))))
  each : ∀ e ∈ rs, H e.2.1 = some (.tup [.str nm, .ref e.2.2]) ∧ ∃ cs, H e.2.2 = some (.dK (cellD cs)) ∧ CellsOk cs (fs.map (·.1))
theorem LS.next {b c fa R : Addr} {od : Obj} {nm : Str} {fs : List (Str × Fld)} {rs : List (Str × Addr × Addr)} {H H' : Hp} (x : LS b c fa R od nm fs rs H) (B : But b H H') (hb : BagAt H' b c) : LS b c fa R od nm fs rs H' :=
  ⟨hb, x.fsa.but x.bag B, B _ _ x.r (frz_nb x.bag x.r), fun e he => by
    obtain ⟨h1, cs, h2, h3⟩ := x.each e he
    exact ⟨B _ _ h1 (tup_nb x.bag h1), cs, B _ _ h2 (dk_nb x.bag h2), h3⟩⟩
theorem val_ex {rs : List (Str × Addr × Addr)} {z : Str} (m : z ∈ rs.map (·.1)) : ∃ e ∈ rs, valV (txD (rs.map fun e => (e.1, V.ref e.2.1))) (.inr z) = some (.ref e.2.1) := by
  induction rs with
  | nil => cases m
  | cons e r ih =>
    by_cases q : e.1 = z
    · refine ⟨e, List.mem_cons_self, ?_⟩
      show ((List.find? _ ((Sum.inr e.1, V.ref e.2.1) :: txD (r.map fun e => (e.1, V.ref e.2.1)))).map _) = _
      rw [List.find?_cons_of_pos (by rw [q]; exact decide_eq_true rfl)]
      rfl
    · obtain ⟨e', he', h⟩ := ih (by
        rcases List.mem_cons.mp m with h | h
        · exact absurd h.symm q
        · exact h)
      refine ⟨e', List.mem_cons_of_mem _ he', ?_⟩
      show ((List.find? _ ((Sum.inr e.1, V.ref e.2.1) :: txD (r.map fun e => (e.1, V.ref e.2.1)))).map _) = _
      rw [List.find?_cons_of_neg (by rw [decide_eq_true_eq]; exact fun n => q (Sum.inr.inj n))]
      exact h
end Lw

set_option Elab.async false
set_option linter.all false
set_option maxRecDepth 100000
set_option maxHeartbeats 4000000
namespace Lw
open PySem PySem.Spec PyProof.Rows L2
theorem paired_set {α β : Type} {R : α → β → Prop} {xs : List α} {ys : List β} (h : Paired R xs ys) {x : α} {y : β} (r : R x y) (j : Nat) : Paired R (xs.set j x) (ys.set j y) := by
  induction h generalizing j with
  | nil => exact .nil
  | cons a t ih =>
    cases j with
    | zero => exact .cons r t
    | succ j => exact .cons a (ih j)
theorem mem_set {α : Type} {l : List α} {j : Nat} {x y : α} (h : y ∈ l.set j x) : y ∈ l ∨ y = x := by
  rcases List.mem_or_eq_of_mem_set h with h | h
  · exact .inl h
  · exact .inr h
theorem ixN_0 {α : Type} {x : α} {xs : List α} : ixN (x :: xs).length 0 = some 0 := by
  unfold ixN
  rw [if_pos (Int.le_refl 0), if_pos (by rw [List.length_cons]; omega)]
  rfl
theorem ixN_last {n : Nat} (h : 0 < n) : ixN n (-1) = some (n - 1) := by
  unfold ixN
  rw [if_neg (by decide), if_pos (by omega)]
  congr 1
  omega
/-- a test put in its place -/
theorem TS.put {H : Hp} {l : Addr} {names : List Str} {n m : Nat} {vs : List V} {ts : List Tst} (x : TS H l names n vs ts) {v : V} {t : Tst} (tv : TV H v t) (ok : TstOk names m 6 t) (hm : n ≤ m) (j : Nat) : TS (upd H l (.lst (vs.set j v))) l names m (vs.set j v) (ts.set j t) := by
  refine ⟨upd_same, paired_set (tv_list x.pr fun v t mt q => q.app x.at_ x.pr fun f ws h => ((x.ok t mt).words f ws h).1) (tv.app x.at_ x.pr fun f ws h => (ok.words f ws h).1) j, fun t' ht => ?_, by rw [List.length_set]; exact x.few⟩
  rcases mem_set ht with h | h
  · exact ⟨Nat.le_trans (x.ok t' h).dep hm, (x.ok t' h).fld, (x.ok t' h).words⟩
  · rw [h]; exact ok
theorem change_read {K : PySem.W.Frag} {b c l : Addr} {names : List Str} {vs : List V} {ts : List Tst} {B : L2.TS} {D : Ends} {σ : L2.St} {H7 H8 : Hp} (h9 : σ[9]? = some (some (.ref l))) (X8 : TS H8 l names 2 vs ts) (ok3 : ∀ t ∈ ts, TstOk names 2 3 t) (on : ∀ f ∈ names, NameOk f)
    (hb : BagAt H8 b c) (B78 : But b H7 H8) (n7 : H7 l = none) (nlb : l ≠ b) (nlc : l ≠ c)
    (rest : ∀ vs' ts' H9, TS H9 l names 2 vs' ts' → BagAt H9 b c → But b H7 H9 → B D σ H9) :
    tSeq (tIfS (tAnd (tTest (tOp (rNeD K) (tVar 9) (tLst tNil))) (tTest (tOp rEq (tOp (rIxT K) (tOp (rIxL K) (tVar 9) (tC (V.int 0))) (tC (V.int 0))) (tC (V.str "is")))))
      (tAsg (tOp (rCatT K) (tSl (rSlT K) (tOp (rIxL K) (tVar 9) (tC (V.int 0))) tNoPart (tPart (tC (V.int 2)))) (tTup (tCons (tRevL K (tOp rRep (tOp (rIxT K) (tOp (rIxL K) (tVar 9) (tC (V.int 0))) (tC (V.int 2))) (tC (V.int 2)))) tNil))) (gSub (tVar 9) (tC (V.int 0)) rSetL))
      tNext) B D σ H8 := by
  refine ne_read h9 X8 on (by decide) fun p np => ⟨_, rfl, ?_⟩
  have X9 := X8.mono (same_new np (.lst []))
  have hb9 := hb.new np (o := .lst [])
  have B79 : But b H7 (upd H8 p (.lst [])) := B78.new np
  generalize (upd H8 p (.lst [])) = H9 at X9 hb9 B79 ⊢
  cases hp : X9.pr with
  | nil => exact ff_if rfl (ff_if rfl (rest _ _ _ X9 hb9 B79))
  | @cons v0 vr t0 tr a0 q0 =>
    refine tt_if rfl ?_
    have at9 := X9.at_
    cases a0 with
    | @non t f a =>
      refine ⟨_, h9, l, _, 0, _, rfl, rfl, .inl (.inl at9), atI_nat (j := 0) rfl, t, _, 0, .str "none", rfl, rfl, .inl (.inl a), atI_nat (j := 0) rfl, rfl, _, rfl, ff_if (by decide +kernel) (rest _ _ _ X9 hb9 B79)⟩
    | @nt t v s a a' =>
      refine ⟨_, h9, l, _, 0, _, rfl, rfl, .inl (.inl at9), atI_nat (j := 0) rfl, t, _, 0, .str "not", rfl, rfl, .inl (.inl a), atI_nat (j := 0) rfl, rfl, _, rfl, ff_if (by decide +kernel) (rest _ _ _ X9 hb9 B79)⟩
    | @is t w f ws a bw =>
      refine ⟨_, h9, l, _, 0, _, rfl, rfl, .inl (.inl at9), atI_nat (j := 0) rfl, t, _, 0, .str "is", rfl, rfl, .inl (.inl a), atI_nat (j := 0) rfl, rfl, _, rfl, tt_if (by decide +kernel) ?_⟩
      refine ⟨_, h9, l, _, 0, _, rfl, rfl, .inl (.inl at9), atI_nat (j := 0) rfl, 2, rfl, t, _, rfl, .inl (.inl a), by show ¬ (HT.sIx 3 0 none = 0 ∧ HT.sIx 3 3 (some 2) = 3); decide, fun p2 np2 => ?_⟩
      have S2 := same_new np2 (.tup (cutV [.str "is", .str f, .ref w] none (some 2)))
      have e2 : (upd H9 p2 (.tup (cutV [.str "is", .str f, .ref w] none (some 2)))) p2 = some (.tup [.str "is", .str f]) := upd_same
      have hb10 := hb9.new np2 (o := .tup (cutV [.str "is", .str f, .ref w] none (some 2)))
      generalize (upd H9 p2 (.tup (cutV [.str "is", .str f, .ref w] none (some 2)))) = H10 at S2 e2 hb10 ⊢
      refine ⟨_, h9, l, _, 0, _, rfl, rfl, .inl (.inl (S2 _ _ at9)), atI_nat (j := 0) rfl, t, _, 2, .ref w, rfl, rfl, .inl (.inl (S2 _ _ a)), atI_nat (j := 2) rfl, w, 2, _, rfl, rfl, S2 _ _ bw, by decide, by decide, ?_, fun p3 np3 => ⟨p3, _, rfl, .inl (.inl upd_same), fun p4 np4 => ⟨small (by show 1 ≤ 1000; decide), fun p5 np5 => ?_⟩⟩⟩
      · have := (ok3 _ List.mem_cons_self).words f ws rfl
        rw [List.length_map]
        exact small (by have := this.2.1; show ws.length * 2 ≤ 1000; omega)
      obtain ⟨wn, wl, wo⟩ := (ok3 _ List.mem_cons_self).words f ws rfl
      have ew : ((List.replicate (2 : Int).toNat (ws.map V.str)).flatten).reverse = ((ws ++ ws).reverse).map V.str := by
        show ((ws.map V.str) ++ ((ws.map V.str) ++ [])).reverse = _
        rw [List.append_nil, List.map_reverse, List.map_append]
      have S3 := (same_new np3 (.lst (List.replicate (2 : Int).toNat (ws.map V.str)).flatten)).trans ((same_new np4 (.lst ((List.replicate (2 : Int).toNat (ws.map V.str)).flatten).reverse)).trans (same_new np5 (.tup [.ref p4])))
      have e4 : (upd (upd (upd H10 p3 (.lst (List.replicate (2 : Int).toNat (ws.map V.str)).flatten)) p4 (.lst ((List.replicate (2 : Int).toNat (ws.map V.str)).flatten).reverse)) p5 (.tup [.ref p4])) p4 = some (.lst (((ws ++ ws).reverse).map V.str)) := by
        rw [upd_ne (ne_of_none upd_same np5), upd_same, ew]
      have e5 : (upd (upd (upd H10 p3 (.lst (List.replicate (2 : Int).toNat (ws.map V.str)).flatten)) p4 (.lst ((List.replicate (2 : Int).toNat (ws.map V.str)).flatten).reverse)) p5 (.tup [.ref p4])) p5 = some (.tup [.ref p4]) := upd_same
      generalize (upd (upd (upd H10 p3 (.lst (List.replicate (2 : Int).toNat (ws.map V.str)).flatten)) p4 (.lst ((List.replicate (2 : Int).toNat (ws.map V.str)).flatten).reverse)) p5 (.tup [.ref p4])) = H11 at S3 e4 e5 ⊢
      refine ⟨p2, p5, [.str "is", .str f], [.ref p4], rfl, rfl, .inl (.inl (S3 _ _ e2)), .inl (.inl e5), by simp, small (by show 3 ≤ 1000; decide), fun n => absurd n (by simp), fun _ p6 np6 => ?_⟩
      have S := S2.trans (S3.trans (same_new np6 (.tup ([.str "is", .str f] ++ [.ref p4]))))
      have X12 := X9.mono S
      have tv : TV (upd H11 p6 (.tup ([.str "is", .str f] ++ [.ref p4]))) (.ref p6) (.is f (ws ++ ws).reverse) := .is upd_same (by rw [upd_ne (ne_of_none e4 np6)]; exact e4)
      have o0 := X9.ok _ List.mem_cons_self
      refine ⟨_, h9, l, _, 0, 0, rfl, rfl, X12.at_, ixN_0, rest _ _ _ (X12.put tv ⟨Nat.zero_le _, o0.fld, fun f' w' h => ?_⟩ (Nat.le_refl _) 0) ((hb9.mono S).set nlb nlc) ((B79.trans (But.of S)).put n7)⟩
      injection (show Tst.is f (ws ++ ws).reverse = Tst.is f' w' from h) with _ h
      rw [← h]
      refine ⟨by simp [wn], by rw [List.length_reverse, List.length_append]; omega, fun z hz => ?_⟩
      rw [List.mem_reverse, List.mem_append] at hz
      exact wo z (hz.elim id id)
theorem nots_read {K : PySem.W.Frag} {b c l : Addr} {names : List Str} {B : L2.TS} {D : Ends} {v0 v2 v3 v4 v5 v6 v7 v8 v11 v12 v13 v14 v15 v10 : Option V} {H7 H8 : Hp} {vs : List V} {ts : List Tst} (X8 : TS H8 l names 2 vs ts) (on : ∀ f ∈ names, NameOk f)
    (hb : BagAt H8 b c) (B78 : But b H7 H8) (n7 : H7 l = none) (nlb : l ≠ b) (nlc : l ≠ c)
    (rest : ∀ vs' ts' H9 v10', TS H9 l names 4 vs' ts' → BagAt H9 b c → But b H7 H9 → B D [v0, some (.ref b), v2, v3, v4, v5, v6, v7, v8, some (.ref l), v10', v11, v12, v13, v14, v15] H9) :
    tSeq (tFor (iRng1 (tCons (tOp (rI CMul fun i j => V.int (i * j)) (tCall spTake [] E0 (tCons (tVar 1) (tCons (tC (V.int 3)) tNil))) (tCB (fun xs H Q => (∃ i, xs = [V.int i] ∧ Q (V.int i) H) ∨ ∃ k, xs = [V.bl k] ∧ Q (V.int (if k = true then 1 else 0)) H) (tCons (tOp (rNeD K) (tVar 9) (tLst tNil)) tNil))) tNil))
      (gName 10) (tAsg (tTup (tCons (tC (V.str "not")) (tCons (tOp (rIxL K) (tVar 9) (tUn (rU fun i => V.int (-i)) (tC (V.int 1)))) tNil))) (gSub (tVar 9) (tUn (rU fun i => V.int (-i)) (tC (V.int 1))) rSetL))) B D
      [v0, some (.ref b), v2, v3, v4, v5, v6, v7, v8, some (.ref l), v10, v11, v12, v13, v14, v15] H8 := by
  refine ⟨_, rfl, b, c, 3, rfl, hb, by decide, by decide, fun r H9 r0 r1 hb9 B89 => ?_⟩
  have X9 : TS H9 l names 2 vs ts := ⟨B89 _ _ X8.at_ nlb, tv_list X8.pr fun _ _ _ q => q.but hb B89, X8.ok, X8.few⟩
  refine ne_read rfl X9 on (by decide) fun p np => .inr ⟨_, rfl, ?_⟩
  have X10 := X9.mono (same_new np (.lst []))
  have hb10 := hb9.new np (o := .lst [])
  have B710 : But b H7 (upd H9 p (.lst [])) := (B78.trans B89).new np
  generalize (upd H9 p (.lst [])) = H10 at X10 hb10 B710 ⊢
  obtain ⟨u, hu, u01⟩ : ∃ u : Int, (if (!ts.isEmpty) = true then (1 : Int) else 0) = u ∧ ((u = 0) ∨ (u = 1 ∧ ts ≠ [])) := by
    cases ts with
    | nil => exact ⟨0, rfl, .inl rfl⟩
    | cons e r => exact ⟨1, rfl, .inr ⟨rfl, by simp⟩⟩
  rw [hu]
  have ru : 0 ≤ r * u ∧ r * u ≤ 2 ∧ (0 < r * u → ts ≠ []) := by
    rcases u01 with h | ⟨h, h2⟩
    · rw [h, Int.mul_zero]; exact ⟨by decide, by decide, fun n => absurd n (by decide)⟩
    · rw [h, Int.mul_one]; exact ⟨r0, by omega, fun _ => h2⟩
  refine ⟨r, u, rfl, rfl, .inl ⟨by omega, by omega⟩, ?_⟩
  generalize hm : r * u = n at ru
  obtain ⟨n0, n2, nE⟩ := ru
  refine ⟨n, by show [V.int (r * u)] = [V.int n]; rw [hm], by omega, by omega, for_range (lo := 0) (n := n.toNat) (fun i σ H' => ∃ (vs' : List V) (ts' : List Tst) (v10' : Option V), σ = [v0, some (.ref b), v2, v3, v4, v5, v6, v7, v8, some (.ref l), v10', v11, v12, v13, v14, v15] ∧
    TS H' l names (2 + i) vs' ts' ∧ (ts ≠ [] → ts' ≠ []) ∧ BagAt H' b c ∧ But b H7 H') ⟨vs, ts, v10, rfl, X10, fun h => h, hb10, B710⟩ ?_ ?_⟩
  · rintro i σ H' hi ⟨vs', ts', v10', rfl, X, ne, hb', B'⟩
    have ne' : ts' ≠ [] := ne (nE (by omega))
    have lv : vs'.length = ts'.length := X.pr.length
    have l0 : 0 < ts'.length := List.length_pos_iff.mpr ne'
    have lt : vs'.length - 1 < vs'.length := by omega
    have ev : vs'[vs'.length - 1]? = some vs'[vs'.length - 1] := List.getElem?_eq_getElem lt
    generalize vs'[vs'.length - 1] = v at ev
    obtain ⟨t, et, tv⟩ := paired_get X.pr ev
    have mt : t ∈ ts' := List.mem_of_getElem? et
    have av : atI vs' (-1) = some v := by
      unfold atI
      rw [ixN_last (by omega)]
      exact ev
    refine ⟨_, rfl, 1, rfl, l, _, -1, v, rfl, rfl, .inl (.inl X.at_), av, small (by show 2 ≤ 1000; decide), fun q nq => ⟨_, rfl, 1, rfl, l, vs', -1, vs'.length - 1, rfl, rfl, ?_, ixN_last (by omega), ?_⟩⟩
    · exact (X.mono (same_new nq _)).at_
    have Xq := X.mono (same_new nq (.tup [.str "not", v]))
    have o := X.ok t mt
    have tq : TV (upd H' q (.tup [.str "not", v])) (.ref q) (.nt t) := .nt upd_same (tv.mono (same_new nq _))
    exact ⟨_, _, _, rfl, Xq.put tq ⟨by have := o.dep; show t.depth + 1 ≤ 2 + (i + 1); omega, o.fld, o.words⟩ (by omega) _, fun _ n => ne' (by
      have h := congrArg List.length n
      rw [List.length_set] at h
      exact List.eq_nil_of_length_eq_zero h), (hb'.new nq).set nlb nlc, (B'.new nq).put n7⟩
  · rintro σ H' ⟨vs', ts', v10', rfl, X, _, hb', B'⟩
    exact rest _ _ _ _ ⟨X.at_, X.pr, fun t ht => ⟨Nat.le_trans (X.ok t ht).dep (by omega), (X.ok t ht).fld, (X.ok t ht).words⟩, X.few⟩ hb' B'
end Lw

set_option Elab.async false
set_option linter.all false
set_option maxRecDepth 100000
namespace Lw
open PySem PySem.Spec PyProof.Rows L2
theorem rising_pw : ∀ (p : Str) (r : List Str), risingS p r = true → (p :: r).Pairwise (fun a b => a.cps.toList ≤ b.cps.toList)
  | p, [], _ => by simp
  | p, x :: r, h => by
    simp only [risingS, Bool.and_eq_true, Bool.not_eq_true'] at h
    obtain ⟨h1, h2⟩ := h
    have ih := rising_pw x r h2
    have le : p.cps.toList ≤ x.cps.toList := by
      rw [ltCps_eq] at h1
      exact List.not_lt.mp (of_decide_eq_false h1)
    refine List.pairwise_cons.mpr ⟨fun y hy => ?_, ih⟩
    rcases List.mem_cons.mp hy with e | e
    · rw [e]; exact le
    · exact List.le_trans le ((List.pairwise_cons.mp ih).1 y e)
theorem sorted_pw : ∀ {l : List Str}, sortedS l = true → l.Pairwise (fun a b => a.cps.toList ≤ b.cps.toList)
  | [], _ => List.Pairwise.nil
  | x :: r, h => rising_pw x r h
theorem sorted_one {xs ys : List Str} (p : xs.Perm ys) (hx : sortedS xs = true) (hy : sortedS ys = true) : xs = ys :=
  List.Perm.eq_of_pairwise (le := fun a b : Str => a.cps.toList ≤ b.cps.toList) (fun a b _ _ h h' => by
    have e := List.le_antisymm h h'
    cases a
    cases b
    congr 1
    exact Array.toList_inj.mp e) (sorted_pw hx) (sorted_pw hy) p
end Lw

set_option Elab.async false
set_option linter.all false
set_option maxRecDepth 100000
set_option maxHeartbeats 4000000
namespace Lw
open PySem PySem.Spec PyProof.Rows L2
structure Nmd (K : PySem.W.Frag) (mg : Str → Option Value) (x : Str) (f : Addr) (fd : FuncData) (ps : List Str) : Prop where
  m : mg x = some (.ref f)
  k : PySem.W.keepIn K (.ref f) = true
  b : Binds K fd ps []
abbrev sLaw : Stmt := topS 18
abbrev NLaw : List Str := ["_law_script", "_law_bag_here", "_law_turn", "_law_tables", "_law_fields_here", "_law_rows_here", "_law_ident", "_law_row", "_law_k", "_law_tests_here", "_law_turned", "_law_shown", "_law_due", "_law_again", "_law_told", "_law_test"]
def spLaw (K : PySem.W.Frag) : Sp := fun vs H Q _ => ∃ (a : Addr) (ns : List Int), vs = [.ref a] ∧ SqL K H a (ns.map V.int) ∧ ns.length ≤ 63 ∧ ∀ H', Q (.bl true) H'
section
variable {P : Program} {w : World} {K : PySem.W.Frag} {mg : Str → Option Value} {base : Heap}
theorem scLaw : FnScope NLaw ["_law_script"] (defScope sLaw) := ⟨rfl, rfl, rfl, by decide +kernel, rfl, by decide +kernel, by decide +kernel⟩
theorem ok_law {f : Addr} {fd : FuncData} (F : Fun K "law" "law" sLaw f fd)
    {f1 : Addr} {fd1 : FuncData} (F1 : FnOk P w K mg base CX0 1 f1 fd1 ["_law_script"] (spBag K)) (m1 : Nmd K mg "_law_bag" f1 fd1 ["_law_script"])
    {f2 : Addr} {fd2 : FuncData} (F2 : FnOk P w K mg base CX0 1 f2 fd2 ["_law_bag_here", "_law_many"] spTake) (m2 : Nmd K mg "_law_take" f2 fd2 ["_law_bag_here", "_law_many"])
    {f3 : Addr} {fd3 : FuncData} (F3 : FnOk P w K mg base CX0 2 f3 fd3 ["_law_bag_here", "_law_many"] spNames) (m3 : Nmd K mg "_law_names" f3 fd3 ["_law_bag_here", "_law_many"])
    {f4 : Addr} {fd4 : FuncData} (F4 : FnOk P w K mg base CX0 3 f4 fd4 ["_law_bag_here", "_law_tables", "_law_rare"] spFields) (m4 : Nmd K mg "_law_fields" f4 fd4 ["_law_bag_here", "_law_tables", "_law_rare"])
    {f5 : Addr} {fd5 : FuncData} (F5 : FnOk P w K mg base CX0 3 f5 fd5 ["_law_bag_here", "_law_tables", "_law_top", "_law_strangers"] spRows) (m5 : Nmd K mg "_law_rows" f5 fd5 ["_law_bag_here", "_law_tables", "_law_top", "_law_strangers"])
    {f6 : Addr} {fd6 : FuncData} (F6 : FnOk P w K mg base CX0 3 f6 fd6 ["_law_bag_here", "_law_fields_here", "_law_top"] spTests) (m6 : Nmd K mg "_law_tests" f6 fd6 ["_law_bag_here", "_law_fields_here", "_law_top"])
    {f7 : Addr} {fd7 : FuncData} (F7 : FnOk P w K mg base CX0 6 f7 fd7 ["_law_row", "_law_tests_here"] spMeets) (m7 : Nmd K mg "_law_meets" f7 fd7 ["_law_row", "_law_tests_here"])
    {f8 : Addr} {fd8 : FuncData} (F8 : FnOk P w K mg base CX0 5 f8 fd8 ["_law_test"] (spNamed 5)) (m8 : Nmd K mg "_law_named" f8 fd8 ["_law_test"])
    {f9 : Addr} {fd9 : FuncData} (F9 : FnOk P w K mg base CX0 6 f9 fd9 ["row", "tests"] spMeets) (m9 : Nmd K mg "meets" f9 fd9 ["row", "tests"])
    {f10 : Addr} {fd10 : FuncData} (F10 : FnOk P w K mg base CX0 3 f10 fd10 ["tests"] spFieldsIn) (m10 : Nmd K mg "fields_in" f10 fd10 ["tests"])
    {fA : Addr} {fdA : FuncData} (FA : FnG P w K mg base 1 fA fdA ["_law_found", "_law_due"] spAlike) (mA : Nmd K mg "_law_alike" fA fdA ["_law_found", "_law_due"])
    (mrange : mg "range" = none) (mint : mg "int" = none) (mrepr : mg "repr" = none) (msorted : mg "sorted" = none) (mset : mg "set" = none) (hs : ∃ o, base.get? sysModules = some o) : FnG P w K mg base 7 f fd ["_law_script"] (spLaw K) := by
  refine fun_okG F scLaw (fun vs H Q E h => ?_) (fun cdv A outer s H vs Q E hr hg h => ?_)
  · obtain ⟨a, ns, rfl, _⟩ := h
    rfl
  obtain ⟨a, ns, rfl, hS, h63, q⟩ := h
  have hu : (cxOf CX0 P w K mg base NLaw "law" (defScope sLaw) f cdv A outer s H E).nox.A.units + 64 < cLine := hr.units
  refine ⟨_, (pss_cons (ps_set (i := 1) scLaw.nd rfl (by first | exact .inl rfl | exact .inr rfl) (pe_call F1 (hr.mono (by decide)) (by rfl) m1.m m1.k m1.b .nil pass0 (pa_cons (pv 0) pa_nil))) (pss_cons (ps_for PassesOwn.never rfl (pi_range1 (by rfl) mrange (pa_cons pe_int pa_nil)) (pg_name (i := 2) scLaw.nd rfl (by first | exact .inl rfl | exact .inr rfl)) (pss_cons (ps_set (i := 3) scLaw.nd rfl (by first | exact .inl rfl | exact .inr rfl) (pe_call F3 (hr.mono (by decide)) (by rfl) m3.m m3.k m3.b .nil pass0 (pa_cons (pv 1) (pa_cons pe_int pa_nil)))) (pss_cons (ps_set (i := 4) scLaw.nd rfl (by first | exact .inl rfl | exact .inr rfl) (pe_call F4 (hr.mono (by decide)) (by rfl) m4.m m4.k m4.b .nil pass0 (pa_cons (pv 1) (pa_cons (pv 3) (pa_cons pe_int pa_nil))))) (pss_cons (ps_set (i := 5) scLaw.nd rfl (by first | exact .inl rfl | exact .inr rfl) (pe_call F5 (hr.mono (by decide)) (by rfl) m5.m m5.k m5.b .nil pass0 (pa_cons (pv 1) (pa_cons (pe_disp (pps_cons (pe_ix ix_list (pv 3) pe_int (fun _ _ => rfl)) (pv 4) pps_nil) rfl rfl (by decide) (by decide)) (pa_cons pe_int (pa_cons pe_int pa_nil)))))) (pss_cons (ps_lock (ps_for PassesOwn.never rfl (pi_keys (pv 5)) (pg_name (i := 6) scLaw.nd rfl (by first | exact .inl rfl | exact .inr rfl)) (pss_cons (ps_set (i := 7) scLaw.nd rfl (by first | exact .inl rfl | exact .inr rfl) (pe_ix ix_tup (pe_dget (hu_of hr) (pv 5) (pv 6) (fun _ _ => rfl)) pe_int (fun _ _ => rfl))) (pss_one (ps_for PassesOwn.never rfl (pi_range1 (by rfl) mrange (pa_cons pe_int pa_nil)) (pg_name (i := 8) scLaw.nd rfl (by first | exact .inl rfl | exact .inr rfl)) (pss_cons (ps_set (i := 9) scLaw.nd rfl (by first | exact .inl rfl | exact .inr rfl) (pe_call F6 (hr.mono (by decide)) (by rfl) m6.m m6.k m6.b .nil pass0 (pa_cons (pv 1) (pa_cons (pv 4) (pa_cons pe_int pa_nil))))) (pss_cons (ps_if (PW.pt (pw_and (pt_cmpR (op_neD hu) (pv 9) (pe_lst pa_nil) (nomark _)) (pw_and1 (pt_cmpR op_eq (pe_ix ix_tup (pe_ix ix_list (pv 9) pe_int (fun _ _ => rfl)) pe_int (fun _ _ => rfl)) pe_str (nomark _))))) (pss_one (ps_asg (pe_op op_catT (pe_slice sl_tup (pe_ix ix_list (pv 9) pe_int (fun _ _ => rfl)) po_none (po_some pe_int)) (pe_tup (pa_cons (pe_revL (pe_op op_rep (pe_ix ix_tup (pe_ix ix_list (pv 9) pe_int (fun _ _ => rfl)) pe_int (fun _ _ => rfl)) pe_int)) pa_nil))) (pg_sub (pv 9) pe_int set_list))) pss_nil) (pss_cons (ps_for PassesOwn.never rfl (pi_range1 (by rfl) mrange (pa_cons (pe_op op_mul (pe_call F2 (hr.mono (by decide)) (by rfl) m2.m m2.k m2.b .nil pass0 (pa_cons (pv 1) (pa_cons pe_int pa_nil))) (pe_callTy call_int1 (by rfl) mint (by decide +kernel) (pa_cons (pe_cmpR (op_neD hu) (pv 9) (pe_lst pa_nil) (nomark _)) pa_nil))) pa_nil)) (pg_name (i := 10) scLaw.nd rfl (by first | exact .inl rfl | exact .inr rfl)) (pss_one (ps_asg (pe_tup (pa_cons pe_str (pa_cons (pe_ix ix_list (pv 9) (pe_un un_neg pe_int) (fun _ _ => rfl)) pa_nil))) (pg_sub (pv 9) (pe_un un_neg pe_int) set_list)))) (pss_cons (ps_set (i := 11) scLaw.nd rfl (by first | exact .inl rfl | exact .inr rfl) (pe_callB (call_repr hg hu hs) (by rfl) mrepr (by decide +kernel) (pa_cons (pe_lst (pa_cons (pv 7) (pa_cons (pv 9) pa_nil))) pa_nil))) (pss_cons (ps_set (i := 12) scLaw.nd rfl (by first | exact .inl rfl | exact .inr rfl) (pe_lst (pa_cons (pe_call F7 (hr.mono (by decide)) (by rfl) m7.m m7.k m7.b .nil pass0 (pa_cons (pv 7) (pa_cons (pv 9) pa_nil))) (pa_cons (pe_callB (cr_sortedSS rfl) (by rfl) msorted (by decide +kernel) (pa_cons (pe_callTy (cr_setS rfl) (by rfl) mset (by decide +kernel) (pa_cons (pe_lc (own := [("_law_test", 15)]) (g := gName 15) (tt := tYes) rfl scLaw.nd (pi_list (pv 9)) (blkOk_by (N := NLaw) (sc := defScope sLaw) (by decide +kernel)) (fun _ _ _ _ _ => (pg_name (i := 15) scLaw.nd rfl (by first | exact .inl rfl | exact .inr rfl))) (fun _ _ _ _ _ => pts_nil) (fun _ _ _ _ _ => (pe_call F8 (hr.mono (by decide)) (by rfl) m8.m m8.k m8.b .nil pass0 (pa_cons (pv 15) pa_nil)))) pa_nil)) pa_nil)) pa_nil)))) (pss_one (ps_for PassesOwn.never rfl (pi_range1 (by rfl) mrange (pa_cons pe_int pa_nil)) (pg_name (i := 13) scLaw.nd rfl (by first | exact .inl rfl | exact .inr rfl)) (pss_cons (ps_set (i := 14) scLaw.nd rfl (by first | exact .inl rfl | exact .inr rfl) (pe_lst (pa_cons (pe_call F9 (hr.mono (by decide)) (by rfl) m9.m m9.k m9.b .nil pass0 (pa_cons (pv 7) (pa_cons (pv 9) pa_nil))) (pa_cons (pe_call F10 (hr.mono (by decide)) (by rfl) m10.m m10.k m10.b .nil pass0 (pa_cons (pv 9) pa_nil)) pa_nil)))) (pss_cons (ps_if (PW.pt (pw_or (pt_not (pt_val (pe_callG FA (hr.mono (by decide)) hg (by rfl) mA.m mA.k mA.b pass0 (pa_cons (pv 14) (pa_cons (pv 12) pa_nil))))) (pw_or1 (pt_cmpR op_ne (pe_callB (call_repr hg hu hs) (by rfl) mrepr (by decide +kernel) (pa_cons (pe_lst (pa_cons (pv 7) (pa_cons (pv 9) pa_nil))) pa_nil)) (pv 11) (nomark _))))) (pss_one (ps_ret pe_bl)) pss_nil) (pss_one (ps_expr (pe_bm PySem.F.plainAttrs_list PySem.F.slot_list_append PySem.F.type_list_append mt_append (pe_ix ix_list (pv 14) pe_int (fun _ _ => rfl)) (pa_cons pe_non pa_nil)))))))))))))))))) (pss_one (ps_if (PW.pt (pw_or (pt_cmpR op_isnot_bl (pe_call F9 (hr.mono (by decide)) (by rfl) m9.m m9.k m9.b .nil pass0 (pa_cons pe_dnewK (pa_cons (pe_lst pa_nil) pa_nil))) pe_bl (nomark _)) (pw_or1 (pt_cmpR (op_neD hu) (pe_call F10 (hr.mono (by decide)) (by rfl) m10.m m10.k m10.b .nil pass0 (pa_cons (pe_lst pa_nil) pa_nil)) (pe_lst pa_nil) (nomark _))))) (pss_one (ps_ret pe_bl)) pss_nil))))))) (pss_one (ps_ret pe_bl)))), ?_⟩
  refine ⟨.ref a, rfl, a, ns, rfl, hS, h63, fun b c H1 nb nc hb s1 => ?_⟩
  refine ⟨6, rfl, by decide, by decide, for_range (lo := 0) (n := 6) (fun i σ H' => ∃ v2 v3 v4 v5 v6 v7 v8 v9 v10 v11 v12 v13 v14 : Option V, σ = [some (.ref a), some (.ref b), v2, v3, v4, v5, v6, v7, v8, v9, v10, v11, v12, v13, v14, none] ∧ BagAt H' b c)
    ⟨none, none, none, none, none, none, none, none, none, none, none, none, none, rfl, hb⟩ ?_ ?_⟩
  · rintro i σ H2 hi ⟨v2, v3, v4, v5, v6, v7, v8, v9, v10, v11, v12, v13, v14, rfl, hb2⟩
    refine ⟨_, rfl, b, c, 1, rfl, hb2, by decide, by decide, fun tb zs H3 lz ndz okz etb ntb hb3 B3 => ?_⟩
    obtain ⟨nm, rfl⟩ : ∃ nm, zs = [nm] := by
      match zs, lz with
      | [z], _ => exact ⟨z, rfl⟩
      | [], h => exact absurd h (by decide)
      | _ :: _ :: _, h => simp only [List.length_cons] at h; omega
    refine ⟨_, rfl, _, rfl, b, c, tb, nm, rfl, hb3, etb, fun fa fs H4 hf nfa hb4 B4 => ?_⟩
    have etb4 := B4 _ _ etb (lst_nb (ws := [nm]) hb3 etb)
    refine ⟨_, rfl, fun T nT => ⟨_, rfl, tb, _, 0, .str nm, rfl, rfl, .inl (.inl (by rw [upd_ne (ne_of_none etb4 nT)]; exact etb4)), rfl, _, rfl, upd_same, [(.inr nm, .ref fa)], rfl, by show 1 ≤ 15; decide, ?_⟩⟩
    have sT : Same H4 (upd (upd H4 T (.dK [])) T (.dK (txD [(nm, V.ref fa)]))) := fun p o h => by
      have ne := ne_of_none h nT
      rw [upd_ne ne, upd_ne ne]
      exact h
    have eT : (upd (upd H4 T (.dK [])) T (.dK (txD [(nm, V.ref fa)]))) T = some (.dK (txD [(nm, V.ref fa)])) := upd_same
    rw [show mergeK [] [((Sum.inr nm : Key), V.ref fa)] = txD [(nm, V.ref fa)] from rfl]
    refine ⟨b, c, T, fa, nm, fs, rfl, hb4.mono sT, eT, hf.mono sT, fun R rs H6 eR eRs l4 nR hb6 B6 => ?_⟩
    have hf6 := (hf.mono sT).but (hb4.mono sT) B6
    refine ⟨R, _, eR, trivial, fun od => ⟨_, rfl, R, od, rfl, .inl ⟨_, upd_same, for_it walk_keys (fun j σ H' => ∃ v6 v7 v8 v9 v10 v11 v12 v13 v14 : Option V, σ = [some (.ref a), some (.ref b), some (.int (0 + (i : Nat))), some (.ref tb), some (.ref fa), some (.ref R), v6, v7, v8, v9, v10, v11, v12, v13, v14, none] ∧
      LS b c fa R od nm fs rs H') ⟨_, _, _, _, _, _, _, _, _, rfl, ?_⟩ (fun j σ H' _ q => by obtain ⟨_, _, _, _, _, _, _, _, _, _, S⟩ := q; exact S.r) ?_ ?_⟩⟩⟩
    · have nRb := dk_nb hb6 eR
      have nRc := (hb4.mono sT).nc nR
      refine ⟨hb6.set nRb nRc, (hf.mono sT).but (hb4.mono sT) (B6.put nR), upd_same, fun e he => ?_⟩
      obtain ⟨h1, cs, h2, h3⟩ := eRs e he
      refine ⟨by rw [upd_ne (fun n => by rw [n, eR] at h1; cases h1)]; exact h1, cs, ?_, h3⟩
      rw [upd_ne (fun n => ?_)]
      · exact h2
      · rw [n, eR] at h2
        injection h2 with h2
        injection h2 with h2
        match rs, he with
        | e0 :: r0, _ =>
          match cs with
          | [] => simp at h2
          | c0 :: cr =>
            injection (show ((Sum.inr e0.1 : Key), V.ref e0.2.1) :: txD (r0.map fun e => (e.1, V.ref e.2.1)) = ((Sum.inr c0.1 : Key), cellV c0.2) :: cellD cr from h2) with h2 _
            injection h2 with _ h2
            match c0 with
            | (_, none) => cases h2
            | (_, some _) => cases h2
    · rintro j x σ _ H9 hj ⟨v6, v7, v8, v9, v10, v11, v12, v13, v14, rfl, S⟩ ⟨rfl, k, v, ek, rfl⟩
      obtain ⟨e, he, rfl, rfl⟩ : ∃ e ∈ rs, k = .inr e.1 ∧ v = .ref e.2.1 := by
        have m := List.mem_of_getElem? ek
        obtain ⟨q1, hq1, hq2⟩ := List.mem_map.mp m
        obtain ⟨e, he, hq3⟩ := List.mem_map.mp hq1
        rw [← hq3] at hq2
        injection hq2 with h1 h2
        exact ⟨e, he, h1.symm, h2.symm⟩
      obtain ⟨e', he', ev⟩ := val_ex (List.mem_map.mpr ⟨e, he, rfl⟩)
      refine ⟨_, rfl, _, rfl, R, .ref e'.2.1, rfl, .inl ⟨_, .inr e.1, .inr ⟨od, S.r⟩, rfl, ev.symm⟩, e'.2.1, _, 1, .ref e'.2.2, rfl, rfl, .inl (.inl (S.each e' he').1), atI_nat (j := 1) rfl, ?_⟩
      have on : ∀ f ∈ fs.map (·.1), NameOk f := fun f hf' => by
        obtain ⟨q1, hq1, hq2⟩ := List.mem_map.mp hf'
        rw [← hq2]
        exact hf.ok q1 hq1
      refine ⟨4, rfl, by decide, by decide, for_range (lo := 0) (n := 4) (fun k σ H' => ∃ v8 v9 v10 v11 v12 v13 v14 : Option V, σ = [some (.ref a), some (.ref b), some (.int (0 + (i : Nat))), some (.ref tb), some (.ref fa), some (.ref R), some (.str e.1), some (.ref e'.2.2), v8, v9, v10, v11, v12, v13, v14, none] ∧
        LS b c fa R od nm fs rs H') ⟨_, _, _, _, _, _, _, rfl, S⟩ ?_ ?_⟩
      · rintro k σ H7 hk ⟨v8, v9, v10, v11, v12, v13, v14, rfl, S7⟩
        refine ⟨_, rfl, _, rfl, b, c, fa, fs, 3, rfl, S7.bag, S7.fsa, by decide, by decide, fun l vs0 ts0 H8 el pt ok3 lt nl hb8 B8 => ?_⟩
        have nlb := S7.bag.nb nl
        have nlc := S7.bag.nc nl
        have X8 : TS H8 l (fs.map (·.1)) 2 vs0 ts0 := ⟨el, pt, fun t ht => ⟨(ok3 t ht).dep, (ok3 t ht).fld, fun f ws h => ⟨((ok3 t ht).words f ws h).1, Nat.le_trans ((ok3 t ht).words f ws h).2.1 (by decide), ((ok3 t ht).words f ws h).2.2⟩⟩, lt⟩
        refine change_read (K := K) rfl X8 ok3 on hb8 B8 nl nlb nlc fun vs1 ts1 Hc Xc hbc Bc => ?_
        refine nots_read (K := K) Xc on hbc Bc nl nlb nlc fun vs ts H9 v10' X hb9 B79 => ?_
        have S9 := S7.next B79 hb9
        obtain ⟨_, cs, hrow, okc⟩ := S9.each e' he'
        have lcs : cs.length ≤ 6 := by
          have h1 := okc.keys.length_eq
          rw [List.length_map, List.length_map] at h1
          have := hf.few
          omega
        obtain ⟨s1', s2', s3'⟩ := case_fits (m := 6) okc (Nat.le_trans lcs (by decide)) (ts := ts) (fun t ht => ⟨Nat.le_trans (X.ok t ht).dep (by decide), on _ (X.ok t ht).fld, fun f ws h => ⟨Nat.le_trans ((X.ok t ht).words f ws h).2.1 (by decide), ((X.ok t ht).words f ws h).2.2⟩⟩) (Nat.le_trans X.few (by decide))
        -- shown
        refine ⟨_, rfl, _, rfl, small (by show 2 ≤ 1000; decide), fun q1 nq1 => ⟨q1, caseDt cs ts, rfl, ?_, s1', s2', s3', ?_⟩⟩
        · have sq := same_new nq1 (.lst [.ref e'.2.2, .ref l])
          exact case_dx upd_same (sq _ _ hrow) (sq _ _ X.at_) (X.mono sq).pr
        have sq := same_new nq1 (.lst [.ref e'.2.2, .ref l])
        generalize (upd H9 q1 (.lst [.ref e'.2.2, .ref l])) = H10 at sq ⊢
        have each : ∀ t ∈ ts, t.depth < 5 ∧ ∃ o, rowOf cs t.field = some o := fun t ht => ⟨Nat.lt_succ_of_le (X.ok t ht).dep, row_has okc (X.ok t ht).fld⟩
        -- due
        refine ⟨_, rfl, _, rfl, e'.2.2, l, rowOf cs, ts, rfl, row_at (sq _ _ hrow), ⟨vs, sq _ _ X.at_, (X.mono sq).pr⟩, Nat.le_trans X.few (by decide), each, fun H11 s11 => ?_⟩
        have S911 := sq.trans s11
        refine ⟨_, rfl, l, rfl, ⟨_, .inl (.inl (S911 _ _ X.at_))⟩, fun D nD => lc_list (K := K) (a := l) (xs := vs) (fun k H' => Same H11 H' ∧ H' D = some (.lst (((ts.take k).map Tst.field).map V.str))) ⟨same_new nD _, upd_same⟩ (fun k H' _ p => .inl (.inl (p.1 _ _ (S911 _ _ X.at_)))) ?_ ?_⟩
        · rintro k' x H' hx ⟨sm, hD⟩
          obtain ⟨t, ht, tv⟩ := paired_get X.pr hx
          have mt := List.mem_of_getElem? ht
          have kl : k' < ts.length := (List.getElem?_eq_some_iff.mp ht).1
          have := X.few
          refine ⟨rfl, yes_if ⟨_, rfl, x, t, rfl, tv.mono (S911.trans sm), (each t mt).1, _, hD, by rw [List.length_map, List.length_map, List.length_take]; exact small1000 (by omega), Same.put sm nD, ?_⟩⟩
          rw [upd_same, List.take_add_one, ht]
          simp
        · rintro H' ⟨sm, hD⟩
          rw [X.pr.length, List.take_length] at hD
          have l9 := X.few
          refine ⟨D, ts.map Tst.field, rfl, .inl (.inl hD), by rw [List.length_map]; omega, fun p np => ⟨p, once (ts.map Tst.field), rfl, upd_same, Nat.lt_of_le_of_lt (once_len _) (by rw [List.length_map]; omega), fun ys q2 pm so nq2 => ⟨small (by show 2 ≤ 1000; decide), fun dl ndl => ?_⟩⟩⟩
          generalize SetSO (cxOf CX0 P w K mg base NLaw "law" (defScope sLaw) f cdv A outer s H E).nox.prog (cxOf CX0 P w K mg base NLaw "law" (defScope sLaw) f cdv A outer s H E).nox.w p (once (ts.map Tst.field)) = sob at nq2 ndl ⊢
          have oky : ∀ z ∈ ys, NameOk z := fun z hz => by
            obtain ⟨t, ht, hte⟩ := List.mem_map.mp (mem_once.mp (pm.mem_iff.mp hz))
            rw [← hte]
            exact on _ (X.ok t ht).fld
          have lys : ys.length ≤ 100 := by
            have h1 := once_len (ts.map Tst.field)
            rw [pm.length_eq]
            rw [List.length_map] at h1
            omega
          have S12 := ((((S911.trans sm).trans (same_new np _)).trans (same_new nq2 (.lst (ys.map V.str)))).trans (same_new ndl (.lst [.bl (ts.all fun t => t.pass (rowOf cs)), .ref q2])))
          have told : Told (upd (upd (upd H' p sob) q2 (.lst (ys.map V.str))) dl (.lst [.bl (ts.all fun t => t.pass (rowOf cs)), .ref q2])) dl (ts.all fun t => t.pass (rowOf cs)) ys := ⟨q2, upd_same, by rw [upd_ne (ne_of_none upd_same ndl)]; exact upd_same⟩
          generalize (upd (upd (upd H' p sob) q2 (.lst (ys.map V.str))) dl (.lst [.bl (ts.all fun t => t.pass (rowOf cs)), .ref q2])) = H12 at S12 told ⊢
          refine ⟨2, rfl, by decide, by decide, for_range (lo := 0) (n := 2) (fun i' σ H' => ∃ v13 v14 : Option V, σ = [some (.ref a), some (.ref b), some (.int (0 + (i : Nat))), some (.ref tb), some (.ref fa), some (.ref R), some (.str e.1), some (.ref e'.2.2), some (.int (0 + (k : Nat))), some (.ref l), v10', some (.str (caseDt cs ts).shown), some (.ref dl), v13, v14, none] ∧
            Same H12 H') ⟨_, _, rfl, fun _ _ h => h⟩ ?_ ?_⟩
          · rintro i' σ H13 hi' ⟨v13', v14', rfl, S13⟩
            have SX := S12.trans S13
            refine ⟨_, rfl, _, rfl, e'.2.2, l, rowOf cs, ts, rfl, row_at (SX _ _ hrow), ⟨vs, SX _ _ X.at_, (X.mono SX).pr⟩, by omega, each, fun Ha sa => ⟨_, rfl, l, ts, rfl, ⟨vs, (SX.trans sa) _ _ X.at_, (X.mono (SX.trans sa)).pr⟩, by omega, fun t ht => (X.ok t ht).dep, fun ys2 p2 Hb pm2 so2 n2 sb e2 => ⟨small (by show 2 ≤ 1000; decide), fun tl ntl => ?_⟩⟩⟩
            obtain rfl : ys2 = ys := sorted_one (pm2.trans pm.symm) so2 so
            have sall := (S13.trans sa).trans (sb.trans (same_new ntl (.lst [.bl (ts.all fun t => t.pass (rowOf cs)), .ref p2])))
            have e2' : (upd Hb tl (.lst [.bl (ts.all fun t => t.pass (rowOf cs)), .ref p2])) p2 = some (.lst (ys2.map V.str)) := by rw [upd_ne (ne_of_none e2 ntl)]; exact e2
            have etl : (upd Hb tl (.lst [.bl (ts.all fun t => t.pass (rowOf cs)), .ref p2])) tl = some (.lst [.bl (ts.all fun t => t.pass (rowOf cs)), .ref p2]) := upd_same
            generalize (upd Hb tl (.lst [.bl (ts.all fun t => t.pass (rowOf cs)), .ref p2])) = Hc at sall e2' etl ⊢
            have told2 : Told Hc dl (ts.all fun t => t.pass (rowOf cs)) ys2 := by
              obtain ⟨l', t1, t2⟩ := told.ex
              exact ⟨l', sall _ _ t1, sall _ _ t2⟩
            have SY := S12.trans sall
            refine ⟨_, rfl, _, rfl, tl, dl, _, ys2, rfl, ⟨p2, etl, e2'⟩, told2, oky, lys, _, rfl, ff_if rfl ?_⟩
            refine ⟨_, rfl, _, rfl, small (by show 2 ≤ 1000; decide), fun q3 nq3 => ⟨q3, caseDt cs ts, rfl, ?_, s1', s2', s3', _, rfl, rfl, _, rfl, ff_if (by rw [decide_eq_true rfl]; rfl) ?_⟩⟩
            · have sz := SY.trans (same_new nq3 (.lst [.ref e'.2.2, .ref l]))
              exact case_dx upd_same (sz _ _ hrow) (sz _ _ X.at_) (X.mono sz).pr
            have sq3 := same_new nq3 (.lst [.ref e'.2.2, .ref l])
            have n12 : H12 p2 = none := (S13.trans sa).free n2
            exact ⟨_, rfl, tl, _, 1, .ref p2, rfl, rfl, .inl (.inl (sq3 _ _ etl)), atI_nat (j := 1) rfl, .inl ⟨rfl, _, .inl (.inl (sq3 _ _ e2'))⟩, p2, _, .non, rfl, rfl, sq3 _ _ e2', by rw [List.length_map]; exact small1000 (by omega), _, _, rfl, Same.put (sall.trans sq3) n12⟩
          · rintro σ H13 ⟨v13', v14', rfl, S13⟩
            exact ⟨_, _, _, _, _, _, _, rfl, S9.next (But.of (S12.trans S13)) (hb9.mono (S12.trans S13))⟩
      · rintro σ H7 ⟨v8, v9, v10, v11, v12, v13, v14, rfl, S7⟩
        exact ⟨_, _, _, _, _, _, _, _, _, rfl, S7⟩
    · rintro σ H9 ⟨v6, v7, v8, v9, v10, v11, v12, v13, v14, rfl, S⟩
      refine ⟨S.r, ?_⟩
      have nRb := dk_nb hb6 eR
      have nRc := (hb4.mono sT).nc nR
      have hb10 : BagAt (upd H9 R (.dK (txD (rs.map fun e => (e.1, V.ref e.2.1))))) b c := S.bag.set nRb nRc
      generalize (upd H9 R (.dK (txD (rs.map fun e => (e.1, V.ref e.2.1))))) = H10 at hb10 ⊢
      refine fun d nd => ⟨Nat.zero_le _, fun p np => ⟨d, p, rowOf [], [], rfl, row_at (cs := []) (by rw [upd_ne (ne_of_none upd_same np)]; exact upd_same), ⟨[], upd_same, .nil⟩, Nat.zero_le _, fun t ht => absurd ht (by simp), fun H11 s11 => ⟨_, _, rfl, rfl, _, rfl, ff_if (by rfl) ?_⟩⟩⟩
      have hb11 : BagAt H11 b c := ((hb10.new nd).new np).mono s11
      refine ⟨Nat.zero_le _, fun p2 np2 => ⟨p2, [], rfl, ⟨[], upd_same, .nil⟩, Nat.zero_le _, fun t ht => absurd ht (by simp), fun ys q2 H12 pm so nq2 s12 eq2 => ⟨Nat.zero_le _, fun p3 np3 => ?_⟩⟩⟩
      obtain rfl : ys = [] := List.Perm.eq_nil pm
      refine ⟨.list [], .list [], .lst (.inl (.inl (by rw [upd_ne (ne_of_none eq2 np3)]; exact eq2))) .nil, .lst (.inl (.inl upd_same)) .nil, by decide, by decide, _, rfl, ff_if (by decide) ?_⟩
      exact ⟨_, _, _, _, _, _, _, _, _, _, _, _, _, rfl, ((hb11.new np2).mono s12).new np3⟩
  · rintro σ H2 ⟨v2, v3, v4, v5, v6, v7, v8, v9, v10, v11, v12, v13, v14, rfl, hb2⟩
    exact q H2
end
end Lw

set_option Elab.async false
set_option linter.all false
set_option maxRecDepth 100000
set_option maxHeartbeats 4000000
namespace Lw
open PySem PySem.Spec PyProof.Rows L2
/-- a def: where it stands, and its text -/
structure DefT (K : PySem.W.Frag) (x : Str) (dst : Stmt) (f : Addr) (fd : FuncData) : Prop where
  a : PySem.W.nsIn K mainGlobals x = some (some (.ref f))
  F : Fun K x x dst f fd
theorem all_mk {l : PySem.W.OpenLaw} {w : World} {K : PySem.W.Frag} {h : Heap} {mg : Str → Option Value} {fa : Addr} {tk : Tok} (kin : K.In h) (G : h.Ns mainGlobals mg) (hfa : mg "law" = some (.ref fa))
    {f0 : Addr} {fd0 : FuncData}
    {f1 : Addr} {fd1 : FuncData}
    {f2 : Addr} {fd2 : FuncData}
    {f3 : Addr} {fd3 : FuncData}
    {f4 : Addr} {fd4 : FuncData}
    {f5 : Addr} {fd5 : FuncData}
    {f6 : Addr} {fd6 : FuncData}
    {f7 : Addr} {fd7 : FuncData}
    {f8 : Addr} {fd8 : FuncData}
    {f9 : Addr} {fd9 : FuncData}
    {f10 : Addr} {fd10 : FuncData}
    {f11 : Addr} {fd11 : FuncData}
    {f12 : Addr} {fd12 : FuncData}
    {f13 : Addr} {fd13 : FuncData}
    {f14 : Addr} {fd14 : FuncData}
    {f15 : Addr} {fd15 : FuncData}
    (d0 : DefT K "_law_bag" sBag f0 fd0)
    (d1 : DefT K "_law_take" sTake f1 fd1)
    (d2 : DefT K "_law_alike" sAlike f2 fd2)
    (d3 : DefT K "_law_names" sNames f3 fd3)
    (d4 : DefT K "_law_fields" sFields f4 fd4)
    (d5 : DefT K "_law_tests" sTests f5 fd5)
    (d6 : DefT K "_law_passes" sPasses f6 fd6)
    (d7 : DefT K "_law_meets" sLMeets f7 fd7)
    (d8 : DefT K "_law_rows" sRows f8 fd8)
    (d9 : DefT K "_law_named" sNamed f9 fd9)
    (d10 : DefT K "law" sLaw f10 fd10)
    (d11 : DefT K "inside_nots" sInside f11 fd11)
    (d12 : DefT K "_is_not" sIsNot f12 fd12)
    (d13 : DefT K "meets" sMeets f13 fd13)
    (d14 : DefT K "_meets_one" sOne f14 fd14)
    (d15 : DefT K "fields_in" sFieldsIn f15 fd15)
    (mn : PySem.W.nsIn K mainGlobals "MOST_NOTS" = some (some (.int 4 tk)))
    (z1 : PySem.W.nsIn K mainGlobals "abs" = some none) (z2 : PySem.W.nsIn K mainGlobals "int" = some none) (z3 : PySem.W.nsIn K mainGlobals "range" = some none) (z4 : PySem.W.nsIn K mainGlobals "len" = some none) (z5 : PySem.W.nsIn K mainGlobals "sorted" = some none) (z6 : PySem.W.nsIn K mainGlobals "set" = some none) (z7 : PySem.W.nsIn K mainGlobals "dict" = some none) (z8 : PySem.W.nsIn K mainGlobals "list" = some none) (z9 : PySem.W.nsIn K mainGlobals "repr" = some none) (z10 : PySem.W.nsIn K mainGlobals "isinstance" = some none) (z11 : PySem.W.nsIn K mainGlobals "tuple" = some none) (z12 : PySem.W.nsIn K mainGlobals "all" = some none) :
    ∃ fd : FuncData, (∀ (s : Shared) (v : Value), BindsTo s fd ⟨[v], []⟩ [("_law_script", v)]) ∧ ∀ base : Heap, K.In base → base.Ns mainGlobals mg → (∃ o, base.get? sysModules = some o) → FnG l.prog w K mg base 7 fa fd ["_law_script"] (spLaw K) := by
  have e := hfa.symm.trans (PySem.W.mg_of kin G d10.a)
  cases e
  have at_ : ∀ {x : Str} {v : Value}, PySem.W.nsIn K mainGlobals x = some (some v) → mg x = some v := fun z => PySem.W.mg_of kin G z
  have no_ : ∀ {x : Str}, PySem.W.nsIn K mainGlobals x = some none → mg x = none := fun z => PySem.W.mg_none_of kin G z
  have n0 : Nmd K mg "_law_bag" f0 fd0 ["_law_script"] := ⟨at_ d0.a, d0.F.kp, d0.F.binds fun _ _ _ _ _ _ us hl => match us, hl with | [_], _ => rfl⟩
  have n1 : Nmd K mg "_law_take" f1 fd1 ["_law_bag_here", "_law_many"] := ⟨at_ d1.a, d1.F.kp, d1.F.binds fun _ _ _ _ _ _ us hl => match us, hl with | [_, _], _ => rfl⟩
  have n2 : Nmd K mg "_law_alike" f2 fd2 ["_law_found", "_law_due"] := ⟨at_ d2.a, d2.F.kp, d2.F.binds fun _ _ _ _ _ _ us hl => match us, hl with | [_, _], _ => rfl⟩
  have n3 : Nmd K mg "_law_names" f3 fd3 ["_law_bag_here", "_law_many"] := ⟨at_ d3.a, d3.F.kp, d3.F.binds fun _ _ _ _ _ _ us hl => match us, hl with | [_, _], _ => rfl⟩
  have n4 : Nmd K mg "_law_fields" f4 fd4 ["_law_bag_here", "_law_tables", "_law_rare"] := ⟨at_ d4.a, d4.F.kp, d4.F.binds fun _ _ _ _ _ _ us hl => match us, hl with | [_, _, _], _ => rfl⟩
  have n5 : Nmd K mg "_law_tests" f5 fd5 ["_law_bag_here", "_law_fields_here", "_law_top"] := ⟨at_ d5.a, d5.F.kp, d5.F.binds fun _ _ _ _ _ _ us hl => match us, hl with | [_, _, _], _ => rfl⟩
  have n6 : Nmd K mg "_law_passes" f6 fd6 ["_law_row", "_law_test"] := ⟨at_ d6.a, d6.F.kp, d6.F.binds fun _ _ _ _ _ _ us hl => match us, hl with | [_, _], _ => rfl⟩
  have n7 : Nmd K mg "_law_meets" f7 fd7 ["_law_row", "_law_tests_here"] := ⟨at_ d7.a, d7.F.kp, d7.F.binds fun _ _ _ _ _ _ us hl => match us, hl with | [_, _], _ => rfl⟩
  have n8 : Nmd K mg "_law_rows" f8 fd8 ["_law_bag_here", "_law_tables", "_law_top", "_law_strangers"] := ⟨at_ d8.a, d8.F.kp, d8.F.binds fun _ _ _ _ _ _ us hl => match us, hl with | [_, _, _, _], _ => rfl⟩
  have n9 : Nmd K mg "_law_named" f9 fd9 ["_law_test"] := ⟨at_ d9.a, d9.F.kp, d9.F.binds fun _ _ _ _ _ _ us hl => match us, hl with | [_], _ => rfl⟩
  have n11 : Nmd K mg "inside_nots" f11 fd11 ["test"] := ⟨at_ d11.a, d11.F.kp, d11.F.binds fun _ _ _ _ _ _ us hl => match us, hl with | [_], _ => rfl⟩
  have n12 : Nmd K mg "_is_not" f12 fd12 ["thing"] := ⟨at_ d12.a, d12.F.kp, d12.F.binds fun _ _ _ _ _ _ us hl => match us, hl with | [_], _ => rfl⟩
  have n13 : Nmd K mg "meets" f13 fd13 ["row", "tests"] := ⟨at_ d13.a, d13.F.kp, d13.F.binds fun _ _ _ _ _ _ us hl => match us, hl with | [_, _], _ => rfl⟩
  have n14 : Nmd K mg "_meets_one" f14 fd14 ["row", "test"] := ⟨at_ d14.a, d14.F.kp, d14.F.binds fun _ _ _ _ _ _ us hl => match us, hl with | [_, _], _ => rfl⟩
  have n15 : Nmd K mg "fields_in" f15 fd15 ["tests"] := ⟨at_ d15.a, d15.F.kp, d15.F.binds fun _ _ _ _ _ _ us hl => match us, hl with | [_], _ => rfl⟩
  obtain ⟨oc, od, kV, doc, pm, an, cdv, ct, osl, efd, _, _⟩ := id d10.F.ex
  refine ⟨fd10, fun s v => ?_, fun base kb gb sy => ?_⟩
  · have q := efd ▸ (show BindsTo s (PySem.W.fnOf "law" "law" (defArgs sLaw) (defBody sLaw) (defScope sLaw) .none kV doc pm an cdv ct) ⟨[v], []⟩ [("_law_script", v)] from .of_eq rfl)
    exact q
  have G0 := ok_bag (P := l.prog) (w := w) (base := base) d0.F (no_ z1)
  have G1 := ok_take (P := l.prog) (w := w) (base := base) d1.F (no_ z2)
  have G2 := ok_alike (P := l.prog) (w := w) (base := base) d2.F (no_ z9) sy
  have G3 := ok_names (P := l.prog) (w := w) (base := base) d3.F G1 n1.m n1.k n1.b (no_ z3) (no_ z2)
  have G4 := ok_fields (P := l.prog) (w := w) (base := base) d4.F G1 n1.m n1.k n1.b G3 n3.m n3.k n3.b (no_ z3) (no_ z4)
  have G5 := ok_tests (P := l.prog) (w := w) (base := base) d5.F G1 n1.m n1.k n1.b (no_ z3) (no_ z4) (no_ z2) (no_ z5)
  have G6 := ok_passes (P := l.prog) (w := w) (base := base) d6.F n6.m n6.b 5
  have G7 := ok_lmeets (P := l.prog) (w := w) (base := base) d7.F G6 n6.m n6.k n6.b
  have G8 := ok_rows (P := l.prog) (w := w) (base := base) d8.F G1 n1.m n1.k n1.b G3 n3.m n3.k n3.b (no_ z4) (no_ z7) (no_ z8) (no_ z5)
  have G9 := ok_named (P := l.prog) (w := w) (base := base) d9.F n9.m n9.b 5
  have G12 := ok_isnot (P := l.prog) (w := w) (base := base) d12.F (no_ z10) (no_ z11) (no_ z4)
  have G11 := ok_inside (P := l.prog) (w := w) (base := base) d11.F G12 n12.m n12.k n12.b (at_ mn) (no_ z3)
  have G14 := ok_one (P := l.prog) (w := w) (base := base) d14.F n14.m n14.b 5
  have G13 := ok_meets (P := l.prog) (w := w) (base := base) d13.F G14 n14.m n14.k n14.b (no_ z12)
  have G15 := ok_fieldsin (P := l.prog) (w := w) (base := base) d15.F G11 n11.m n11.k n11.b (no_ z5)
  exact ok_law (P := l.prog) (w := w) (base := base) d10.F G0 n0 G1 n1 G3 n3 G4 n4 G8 n8 G5 n5 G7 n7 G9 n9 G13 n13 G15 n15 G2 n2 (no_ z3) (no_ z2) (no_ z9) (no_ z5) (no_ z6) sy
theorem walk13 {l : PySem.W.OpenLaw} {q : Program} {loose : List Str} {XP : (Str → Option Value) → Heap → Prop} {YP : World → Heap → Prop} {d : DefRec} {K : Params → PySem.W.Frag} (hn : l.most = some 63) (hdf : d.params.defaults = []) (hin : PyProof.Rows.importsNone q = true) (inK : ∀ (w : World) (h : Heap), YP w h → (K w.params).In h)
    (made : ∀ (w : World) (mg : Str → Option Value) (fa : Addr) (h : Heap), (K w.params).In h → h.Ns mainGlobals mg → mg d.name = some (.ref fa) →
      ∃ fd : FuncData, (∀ (s : Shared) (u : Value), BindsTo s fd ⟨[u], []⟩ [("_law_script", u)]) ∧ ∀ base : Heap, (K w.params).In base → base.Ns mainGlobals mg → (∃ o, base.get? sysModules = some o) → FnG l.prog w (K w.params) mg base 7 fa fd ["_law_script"] (spLaw (K w.params))) :
    PySem.W.WalkO q loose XP YP l.row.toRowW d [] (fun f vs => PySem.call f vs) :=
  walkG (n := 63) (k := 7) (x := "_law_script") (sp := spLaw) hn (by decide) hdf hin ⟨rfl, by decide, by decide⟩ inK made fun _ _ a ns hl _ hS => ⟨a, ns, rfl, hS, hl, fun _ => rfl⟩
end Lw

open PySem PySem.W PyProof.Rows
set_option Elab.async false
set_option maxRecDepth 100000 in
set_option maxHeartbeats 0 in
theorem PySem.Challenge.cw_endchecks_k13_tests_met_holds : PySem.Challenge.rw_endchecks_k13_tests_met.Holds := by
  w_on; o_law; k_head; (case hw => w_witness2)
  k_fill
  refine Lw.walk13 (l := PySem.Challenge.rw_endchecks_k13_tests_met) rfl rfl ?hin (fun w h Y => PySem.W.kIn_of Y) ?F
  case hin => kernel_rfl
  case F =>
    intro w mg fa h KX G hmg
    refine' Lw.all_mk KX G hmg ?d0 ?d1 ?d2 ?d3 ?d4 ?d5 ?d6 ?d7 ?d8 ?d9 ?d10 ?d11 ?d12 ?d13 ?d14 ?d15 ?mn ?z1 ?z2 ?z3 ?z4 ?z5 ?z6 ?z7 ?z8 ?z9 ?z10 ?z11 ?z12
    (case d0 => refine' ⟨?a, L2.fun_mk ?l ?c ?k⟩; (case a => k_is); (case l => k_is); (case c => k_is); (case k => k_is))
    (case d1 => refine' ⟨?a, L2.fun_mk ?l ?c ?k⟩; (case a => k_is); (case l => k_is); (case c => k_is); (case k => k_is))
    (case d2 => refine' ⟨?a, L2.fun_mk ?l ?c ?k⟩; (case a => k_is); (case l => k_is); (case c => k_is); (case k => k_is))
    (case d3 => refine' ⟨?a, L2.fun_mk ?l ?c ?k⟩; (case a => k_is); (case l => k_is); (case c => k_is); (case k => k_is))
    (case d4 => refine' ⟨?a, L2.fun_mk ?l ?c ?k⟩; (case a => k_is); (case l => k_is); (case c => k_is); (case k => k_is))
    (case d5 => refine' ⟨?a, L2.fun_mk ?l ?c ?k⟩; (case a => k_is); (case l => k_is); (case c => k_is); (case k => k_is))
    (case d6 => refine' ⟨?a, L2.fun_mk ?l ?c ?k⟩; (case a => k_is); (case l => k_is); (case c => k_is); (case k => k_is))
    (case d7 => refine' ⟨?a, L2.fun_mk ?l ?c ?k⟩; (case a => k_is); (case l => k_is); (case c => k_is); (case k => k_is))
    (case d8 => refine' ⟨?a, L2.fun_mk ?l ?c ?k⟩; (case a => k_is); (case l => k_is); (case c => k_is); (case k => k_is))
    (case d9 => refine' ⟨?a, L2.fun_mk ?l ?c ?k⟩; (case a => k_is); (case l => k_is); (case c => k_is); (case k => k_is))
    (case d10 => refine' ⟨?a, L2.fun_mk ?l ?c ?k⟩; (case a => k_is); (case l => k_is); (case c => k_is); (case k => k_is))
    (case d11 => refine' ⟨?a, L2.fun_mk ?l ?c ?k⟩; (case a => k_is); (case l => k_is); (case c => k_is); (case k => k_is))
    (case d12 => refine' ⟨?a, L2.fun_mk ?l ?c ?k⟩; (case a => k_is); (case l => k_is); (case c => k_is); (case k => k_is))
    (case d13 => refine' ⟨?a, L2.fun_mk ?l ?c ?k⟩; (case a => k_is); (case l => k_is); (case c => k_is); (case k => k_is))
    (case d14 => refine' ⟨?a, L2.fun_mk ?l ?c ?k⟩; (case a => k_is); (case l => k_is); (case c => k_is); (case k => k_is))
    (case d15 => refine' ⟨?a, L2.fun_mk ?l ?c ?k⟩; (case a => k_is); (case l => k_is); (case c => k_is); (case k => k_is))
    (case mn => k_is)
    (case z1 => k_is); (case z2 => k_is); (case z3 => k_is); (case z4 => k_is); (case z5 => k_is); (case z6 => k_is); (case z7 => k_is); (case z8 => k_is); (case z9 => k_is); (case z10 => k_is); (case z11 => k_is); (case z12 => k_is)
#print axioms PySem.Challenge.cw_endchecks_k13_tests_met_holds
