import PyProof.Rows.All
import Wide.All
import OpenK.AllK
import Wide.FinOn
import HandS.ForMost
import HandS.Codes
import HandS.Replace
import HandS.DeepEq
import KE.KeyNested
import KE.KDictCopyH
import PyProof.DictMoreH
import PyProof.DictUpdate
import KE.KDictOf
import HandS.IsInst
import HandS.Conv
import PyProof.ReprRoads
import PyProof.StrLawsRepr
import PyProof.EqKinds
import KE.KIsAll
import PyProof.Rows.StrMeet
import HandS.DictComp
import HandS.Flow
import HandS.Walk
import HandS.Finally
import HandS.WordsDict
import HandS.SetTxt0
import HandS.SetBool
import HandS.SetFor
import HandS.Strs
import PyProof.Rows.SortShellAny
import HandS.Comp
import PyProof.NsCount
import HandS.OwnEq
import PyProof.NeKinds
import PyProof.InstEq
import HandS.Iter
import KE.GoesEnum
import HandS.Style
import PyProof.StrLawsIn
import HandS.ListItems
import KE.DataCmp
import HandS.TupLe
import HandS.Defaults
import PySem.Challenge.RW_endchecks_k14_schemas_told
set_option Elab.async false
set_option linter.all false
set_option maxRecDepth 100000
namespace Lw
open PySem PySem.Spec PyProof.Rows L2
/-! ### small words -/
theorem small {n : Nat} (h : n ≤ 1000) : n ≤ sizeLine := Nat.le_of_lt (small1000 h)
theorem same_new {H : Hp} {p : Addr} (h : H p = none) (o : HO) : Same H (upd H p o) := fun b u q => by rw [upd_ne (ne_of_none q h)]; exact q
/-- all that was tracked is as it was, but what stands at b -/
def But (b : Addr) (H H' : Hp) : Prop := ∀ a o, H a = some o → a ≠ b → H' a = some o
theorem But.refl (b : Addr) (H : Hp) : But b H H := fun _ _ h _ => h
theorem But.trans {b : Addr} {H H1 H2 : Hp} (x : But b H H1) (y : But b H1 H2) : But b H H2 := fun a o h n => y a o (x a o h n) n
theorem But.of {b : Addr} {H H' : Hp} (x : Same H H') : But b H H' := fun a o h _ => x a o h
theorem But.new {b p : Addr} {H H' : Hp} {o : HO} (x : But b H H') (h : H' p = none) : But b H (upd H' p o) := fun a u q n => by
  have q' := x a u q n
  rw [upd_ne (ne_of_none q' h)]
  exact q'
theorem But.set {b : Addr} {H H' : Hp} {o : HO} (x : But b H H') : But b H (upd H' b o) := fun a u q n => by
  rw [upd_ne n]
  exact x a u q n
/-- xs[i] read for xs[i] op= e -/
def rGetL (K : PySem.W.Frag) : V → V → Hp → VK → Prop := fun x y H Q => ∃ p xs i v, x = .ref p ∧ y = .int i ∧ 0 ≤ i ∧ SqL K H p xs ∧ xs[i.toNat]? = some v ∧ Q v H
theorem get_list {X : Cx} : PGet X (rGetL X.K) := by
  intro pins s σ H x y v u Q I rx ry h
  obtain ⟨p, xs, i, z, rfl, rfl, h0, hq, he, q⟩ := h
  cases rx
  obtain ⟨t, rfl⟩ := ry
  obtain ⟨its, r, pl, hz⟩ := I.list hq
  obtain ⟨w, ew, rw'⟩ := r.get he
  have hl := r.length
  have hn := line63
  have hlt : i.toNat < xs.length := (List.getElem?_eq_some_iff.mp he).1
  exact wpAny_getItem_list pl.isList h0 (by omega) (by simpa using ew) ⟨z, H, I, rw', q⟩
theorem map_get {α : Type} {f : α → V} {l : List α} {i : Nat} {x : V} (h : (l.map f)[i]? = some x) : ∃ z, l[i]? = some z ∧ x = f z := by
  rw [List.getElem?_map] at h
  cases e : l[i]? with
  | none => rw [e] at h; cases h
  | some z => rw [e] at h; exact ⟨z, rfl, (Option.some.inj h).symm⟩
theorem cut_ints (ns : List Int) (h : ns.length ≤ 63) : ∃ ms : List Int, cutV (ns.map V.int) none (some 63) = ms.map V.int ∧ ms.length ≤ 63 := by
  unfold cutV
  refine ⟨((ns.drop (HT.sIx (ns.map V.int).length 0 none)).take (HT.sIx (ns.map V.int).length (ns.map V.int).length (some 63) - HT.sIx (ns.map V.int).length 0 none)), ?_, ?_⟩
  · rw [List.map_take, List.map_drop]
  · rw [List.length_take, List.length_drop]
    omega
theorem cut_ints' (ns : List Int) (lo hi : Option Int) : ∃ ms : List Int, cutV (ns.map V.int) lo hi = ms.map V.int := by
  unfold cutV
  exact ⟨_, by rw [← List.map_drop, ← List.map_take]⟩
theorem yes_if {σ : L2.St} {H : Hp} {F G : Hp → Prop} (h : F H) : tYes σ H (fun b H3 => if b = true then F H3 else G H3) := by
  show if true = true then F H else G H
  exact iteT h
theorem BagNe {H : Hp} {b p : Addr} {o : HO} (h : H b = some o) (n : H p = none) : p ≠ b := (ne_of_none h n).symm
/-- a comprehension over a text's signs -/
theorem lc_strI {z : Str} {g : TG} {tt : TT} {te : TE} {vs : List Nat} {σ : L2.St} {H1 : Hp} {D : Addr} {Qd : Hp → Prop} (Pv : Nat → Hp → Prop) (h0 : Pv 0 (upd H1 D (.lst [])))
    (hs : ∀ i c H, z.cps.toList[i]? = some c → Pv i H → g (.str ⟨#[c]⟩) (wipe σ vs) H fun σ2 H2 => wipe σ2 vs = wipe σ vs ∧ tt σ2 H2 fun b H3 =>
      if b = true then te σ2 H3 fun y H4 => ∃ acc, H4 D = some (.lst acc) ∧ acc.length < sizeLine ∧ Pv (i + 1) (upd H4 D (.lst (acc ++ [y]))) else Pv (i + 1) H3) (hd : ∀ H, Pv z.cps.toList.length H → Qd H) :
    ∃ W : Nat → Nat → Hp → Prop, (∃ m, W 0 m (upd H1 D (.lst []))) ∧ ∀ i m H, W i m H →
      ((Its z).stop i H ∧ Qd H) ∨ ((Its z).go i H ∧ ∃ Nx : Hp → Prop, (∀ H', Nx H' → ∃ m', m' < m ∧ W (i + 1) m' H') ∧ ∀ x H', (Its z).yld i H x H' → g x (wipe σ vs) H' fun σ2 H2 => wipe σ2 vs = wipe σ vs ∧ tt σ2 H2 fun b H3 =>
        if b = true then te σ2 H3 fun y H4 => ∃ acc, H4 D = some (.lst acc) ∧ acc.length < sizeLine ∧ Nx (upd H4 D (.lst (acc ++ [y]))) else Nx H3) := by
  have en : z.cps.toList.length = z.cps.size := Array.length_toList
  refine ⟨fun i m H => m = z.cps.size - i ∧ i ≤ z.cps.size ∧ Pv i H, ⟨z.cps.size, by simp, Nat.zero_le _, h0⟩, fun i m H hw => ?_⟩
  obtain ⟨rfl, hi, p⟩ := hw
  by_cases hlt : i < z.cps.size
  · refine .inr ⟨hlt, Pv (i + 1), fun H' p' => ⟨z.cps.size - (i + 1), by omega, rfl, hlt, p'⟩, fun x H' y => ?_⟩
    obtain ⟨e, c, hc, e2⟩ := y
    subst e
    subst e2
    exact hs i c _ (by rw [Array.getElem?_toList]; exact hc) p
  · have e : i = z.cps.size := by omega
    subst e
    exact .inl ⟨Nat.le_refl _, hd H (by rw [en]; exact p)⟩
/-! ### the bag of draws -/
/-- at b the bag, at c the numbers of the script -/
structure BagAt (H : Hp) (b c : Addr) : Prop where
  ex : ∃ (x y z : Int) (ns : List Int), H b = some (.lst [.int x, .int y, .int z, .ref c]) ∧ H c = some (.lst (ns.map V.int)) ∧ ns.length ≤ 63
theorem BagAt.mono {H H' : Hp} {b c : Addr} (x : BagAt H b c) (e : Same H H') : BagAt H' b c := by
  obtain ⟨x, y, z, ns, h1, h2, h3⟩ := x
  exact ⟨x, y, z, ns, e _ _ h1, e _ _ h2, h3⟩
theorem BagAt.nb {H : Hp} {b c p : Addr} (x : BagAt H b c) (n : H p = none) : p ≠ b := by
  obtain ⟨x, y, z, ns, h1, h2, h3⟩ := x
  exact (ne_of_none h1 n).symm
theorem BagAt.nc {H : Hp} {b c p : Addr} (x : BagAt H b c) (n : H p = none) : p ≠ c := by
  obtain ⟨x, y, z, ns, h1, h2, h3⟩ := x
  exact (ne_of_none h2 n).symm
theorem BagAt.new {H : Hp} {b c p : Addr} {o : HO} (x : BagAt H b c) (n : H p = none) : BagAt (upd H p o) b c := x.mono (same_new n o)
theorem BagAt.set {H : Hp} {b c p : Addr} {o : HO} (x : BagAt H b c) (n1 : p ≠ b) (n2 : p ≠ c) : BagAt (upd H p o) b c := by
  obtain ⟨x, y, z, ns, h1, h2, h3⟩ := x
  exact ⟨x, y, z, ns, by rw [upd_ne n1.symm]; exact h1, by rw [upd_ne n2.symm]; exact h2, h3⟩
theorem bag_ne {H : Hp} {b c : Addr} {x y z : Int} {ns : List Int} (h1 : H b = some (.lst [.int x, .int y, .int z, .ref c])) (h2 : H c = some (.lst (ns.map V.int))) : c ≠ b := by
  intro e
  rw [e, h1] at h2
  injection h2 with h2
  injection h2 with h2
  match ns with
  | [] => simp at h2
  | [_] => simp at h2
  | [_, _] => simp at h2
  | [_, _, _] => simp at h2
  | [_, _, _, _] => simp at h2
  | _ :: _ :: _ :: _ :: _ :: _ => simp at h2
/-- what is new behind a But is new ahead of it -/
theorem But.free {b p : Addr} {H H' : Hp} (x : But b H H') (n : H' p = none) (ne : p ≠ b) : H p = none := by
  cases q : H p with
  | none => rfl
  | some u => rw [x p u q ne] at n; cases n
/-- a change of a thing that is new -/
theorem But.put {b p : Addr} {H H' : Hp} {o : HO} (x : But b H H') (n : H p = none) : But b H (upd H' p o) := fun a u q ne => by
  rw [upd_ne (ne_of_none q n)]
  exact x a u q ne
/-- _law_bag(script) -/
def spBag (K : PySem.W.Frag) : Sp := fun vs H Q _ => ∃ (a : Addr) (ns : List Int), vs = [.ref a] ∧ SqL K H a (ns.map V.int) ∧ ns.length ≤ 63 ∧ ∀ (b c : Addr) (H' : Hp), H b = none → H c = none → BagAt H' b c → Same H H' → Q (.ref b) H'
/-- _law_take(bag, many) -/
def spTake : Sp := fun vs H Q _ => ∃ (b c : Addr) (m : Int), vs = [.ref b, .int m] ∧ BagAt H b c ∧ 0 < m ∧ m < 1000000 ∧
  ∀ (r : Int) (H' : Hp), 0 ≤ r → r < m → BagAt H' b c → But b H H' → Q (.int r) H'
end Lw

set_option Elab.async false
set_option linter.all false
set_option maxRecDepth 100000
set_option maxHeartbeats 4000000
namespace Lw
open PySem PySem.Spec PyProof.Rows L2
def topS (i : Nat) : Stmt := PySem.Challenge.pw_endchecks_k14_schemas_told.main.body.getD i (.Pass ⟨0, 0, 0, 0⟩)
abbrev sBag : Stmt := topS 33
abbrev sTake : Stmt := topS 34
section
variable {P : Program} {w : World} {K : PySem.W.Frag} {mg : Str → Option Value} {base : Heap}
theorem scBag : FnScope ["_law_script", "_law_cell"] ["_law_script"] (defScope sBag) := ⟨rfl, rfl, rfl, by decide +kernel, rfl, by decide +kernel, by decide +kernel⟩
theorem ok_bag {f : Addr} {fd : FuncData} (F : Fun K "_law_bag" "_law_bag" sBag f fd) (mabs : mg "abs" = none) : FnOk P w K mg base CX0 1 f fd ["_law_script"] (spBag K) := by
  refine F.ok scBag (fun vs H Q E h => ?_) (fun cdv A outer s H vs Q E hr h => ?_)
  · obtain ⟨a, ns, rfl, _⟩ := h
    rfl
  obtain ⟨a, ns, rfl, hS, h63, k⟩ := h
  refine ⟨_, pss_one (ps_ret (pe_lst (pa_cons pe_int (pa_cons pe_int (pa_cons pe_int (pa_cons
    (pe_lc (own := [("_law_cell", 1)]) (g := gName 1) (tt := tYes) rfl scBag.nd (pi_list (pe_slice sl_list (pv 0) po_none (po_some pe_int))) (blkOk_by (N := ["_law_script", "_law_cell"]) (sc := defScope sBag) (by decide +kernel))
      (fun _ _ _ _ _ => pg_name (i := 1) scBag.nd rfl (Or.inl rfl)) (fun _ _ _ _ _ => pts_nil) (fun _ _ _ _ _ => pe_callB call_abs (by rfl) mabs (by decide +kernel) (pa_cons (pv 1) pa_nil))) pa_nil)))))), ?_⟩
  refine ⟨.ref a, rfl, 63, rfl, a, ns.map V.int, rfl, hS, fun p hp => ?_⟩
  have s1 : Same H (upd H p (.lst (cutV (ns.map V.int) none (some 63)))) := same_new hp _
  obtain ⟨ms, hms, hml⟩ : ∃ ms : List Int, cutV (ns.map V.int) none (some 63) = ms.map V.int ∧ ms.length ≤ 63 := cut_ints ns h63
  rw [hms] at s1 ⊢
  refine ⟨p, rfl, ⟨_, .inl (.inl upd_same)⟩, fun D nD => ?_⟩
  have nDp : p ≠ D := ne_of_none (upd_same (H := H)) nD
  refine lc_list (K := K) (a := p) (xs := ms.map V.int) (fun i H1 => Same H H1 ∧ H1 p = some (.lst (ms.map V.int)) ∧ ∃ cs : List Int, H1 D = some (.lst (cs.map V.int)) ∧ cs.length ≤ i)
    ⟨fun c o q => by rw [upd_ne (ne_of_none (s1 c o q) nD)]; exact s1 c o q, by rw [upd_ne nDp]; exact upd_same, [], upd_same, Nat.le_refl _⟩ (fun i H1 _ q => .inl (.inl q.2.1)) ?_ ?_
  · rintro i x H1 hx ⟨s2, h2, cs, h3, h4⟩
    obtain ⟨z, hz, rfl⟩ := map_get hx
    have hil : i < ms.length := (List.getElem?_eq_some_iff.mp hz).1
    refine ⟨rfl, yes_if ?_⟩
    refine ⟨.int z, rfl, z, rfl, cs.map V.int, h3, by rw [List.length_map]; exact small1000 (by omega), fun c o q => ?_, ?_, cs ++ [if z < 0 then -z else z], ?_, ?_⟩
    · have n1 : c ≠ D := ne_of_none q (s1.free nD)
      rw [upd_ne n1]
      exact s2 c o q
    · rw [upd_ne nDp]
      exact h2
    · rw [upd_same, List.map_append]
      rfl
    · rw [List.length_append]
      exact Nat.add_le_add_right h4 1
  · rintro H1 ⟨s2, h2, cs, h3, h4⟩
    rw [List.length_map] at h4
    refine ⟨small (by show 4 ≤ 1000; decide), fun b nb => ?_⟩
    refine k b D _ (s2.free nb) (s1.free nD) ⟨0, 1234567891, 0, cs, upd_same, ?_, by omega⟩ ?_
    · rw [upd_ne (ne_of_none h3 nb)]
      exact h3
    · exact s2.trans (same_new nb _)
abbrev NTake : List Str := ["_law_bag_here", "_law_many_here", "_law_cell", "_law_mixed", "_law_drawn", "_law_early", "_law_second"]
theorem scTake : FnScope NTake ["_law_bag_here", "_law_many_here"] (defScope sTake) := ⟨rfl, rfl, rfl, by decide +kernel, rfl, by decide +kernel, by decide +kernel⟩
theorem ok_take {f : Addr} {fd : FuncData} (F : Fun K "_law_take" "_law_take" sTake f fd) (mint : mg "int" = none) : FnOk P w K mg base CX0 1 f fd ["_law_bag_here", "_law_many_here"] spTake := by
  refine F.ok scTake (fun vs H Q E h => ?_) (fun cdv A outer s H vs Q E hr h => ?_)
  · obtain ⟨a, c, ns, rfl, _⟩ := h
    rfl
  obtain ⟨b, c, m, rfl, ⟨x, y, z, ns, hb, hc, h63⟩, m0, m1, k⟩ := h
  have ncb : c ≠ b := bag_ne hb hc
  refine ⟨_, C8.pss_cut (ps_if (pt_cmpR op_eq (pe_ix ix_list (pv 0) pe_int (fun _ _ => rfl)) pe_int (nomark _))
      (pss_cons (ps_set (i := 2) scTake.nd rfl (Or.inl rfl) (pe_ix ix_list (pe_op op_cat (pe_slice sl_list (pe_ix ix_list (pv 0) pe_int (fun _ _ => rfl)) (po_some (pe_ix ix_list (pv 0) pe_int (fun _ _ => rfl))) po_none) (pe_lst (pa_cons pe_int pa_nil))) pe_int (fun _ _ => rfl)))
      (pss_cons (ps_augS (pv 0) pe_int get_list pe_int ip_add set_list)
      (pss_cons (ps_asg (pe_op op_mul (pv 2) (pe_callTy call_int1 (by rfl) mint (by decide +kernel) (pa_cons (pe_cmpR op_ge (pv 2) (pe_op op_pow pe_int pe_int) (nomark _)) pa_nil))) (pg_sub (pv 0) pe_int set_list))
      (pss_cons (ps_set (i := 3) scTake.nd rfl (Or.inl rfl) (pe_op op_add (pe_op op_add (pe_op op_mul (pe_ix ix_list (pv 0) pe_int (fun _ _ => rfl)) pe_int) (pe_op op_mod (pe_callTy call_int1 (by rfl) mint (by decide +kernel) (pa_cons (pv 2) pa_nil)) pe_int)) (pe_op op_mul pe_int (pe_ix ix_list (pv 0) pe_int (fun _ _ => rfl)))))
      (pss_one (ps_asg (pe_op op_mod (pe_callTy call_int1 (by rfl) mint (by decide +kernel) (pa_cons (pv 3) pa_nil)) pe_int) (pg_sub (pv 0) pe_int set_list))))))) pss_nil)
    (pss_cons (ps_if (pt_cmpR op_gt (pe_ix ix_list (pv 0) pe_int (fun _ _ => rfl)) pe_int (nomark _))
      (pss_cons (ps_asg (pe_tup (pa_cons (pe_op op_mod (pe_callTy call_int1 (by rfl) mint (by decide +kernel) (pa_cons (pe_ix ix_list (pv 0) pe_int (fun _ _ => rfl)) pa_nil)) (pv 1)) (pa_cons (pe_op op_fdiv (pe_callTy call_int1 (by rfl) mint (by decide +kernel) (pa_cons (pe_ix ix_list (pv 0) pe_int (fun _ _ => rfl)) pa_nil)) (pv 1)) pa_nil)))
          (pg_tup rfl (pgs_cons (pg_name (i := 4) scTake.nd rfl (.inl rfl)) (pgs_cons (pg_sub (pv 0) pe_int set_list) pgs_nil))))
      (pss_one (ps_ret (pv 4)))) pss_nil)
    (pss_cons (ps_set (i := 5) scTake.nd rfl (Or.inl rfl) (pe_op op_mod (pe_callTy call_int1 (by rfl) mint (by decide +kernel) (pa_cons (pe_op op_mul (pe_op op_add (pe_ix ix_list (pv 0) pe_int (fun _ _ => rfl)) pe_int) pe_int) pa_nil)) pe_int))
    (pss_cons (ps_set (i := 6) scTake.nd rfl (Or.inl rfl) (pe_op op_mod (pe_callTy call_int1 (by rfl) mint (by decide +kernel) (pa_cons (pe_op op_mul (pe_op op_mod (pe_callTy call_int1 (by rfl) mint (by decide +kernel) (pa_cons (pe_op op_mul (pv 5) (pv 5)) pa_nil)) pe_int) pe_int) pa_nil)) pe_int))
    (pss_one (ps_ret (pe_op op_mod (pe_callTy call_int1 (by rfl) mint (by decide +kernel) (pa_cons (pe_op op_fdiv (pv 6) pe_int) pa_nil)) (pv 1))))))), ?_⟩
  have atL : ∀ {H' : Hp} {x y z : Int}, H' b = some (.lst [.int x, .int y, .int z, .ref c]) → SqL K H' b [.int x, .int y, .int z, .ref c] := fun e => .inl (.inl e)
  refine ⟨fun σ H' => ∃ (x' y' z' : Int) (u v w2 : Option V), σ = [some (.ref b), some (.int m), u, v, none, none, none] ∧ H' b = some (.lst [.int x', .int y', .int z', .ref c]) ∧ But b H H', ?_, ?_⟩
  · refine ⟨.ref b, rfl, b, _, 0, _, rfl, rfl, atL hb, rfl, rfl, _, rfl, ?_⟩
    refine ite2 (fun _ => ?_) (fun _ => ?_)
    · refine ⟨.ref b, rfl, b, _, 3, _, rfl, rfl, atL hb, rfl, .ref b, rfl, b, _, 2, _, rfl, rfl, atL hb, rfl, z, rfl, c, _, rfl, .inl (.inl hc), fun p hp => ?_⟩
      refine ⟨small (by show 1 ≤ 1000; decide), fun q hq => ?_⟩
      have npq : p ≠ q := ne_of_none upd_same hq
      have ncut : (cutV (ns.map V.int) (some z) none).length ≤ 63 := Nat.le_trans (cutV_length _ _ _) (by rw [List.length_map]; exact h63)
      refine ⟨p, q, _, _, rfl, rfl, by rw [upd_ne npq, upd_same], upd_same, small (by rw [List.length_singleton]; omega), fun r hr' => ?_⟩
      obtain ⟨ce, hce⟩ : ∃ ce : Int, atI (cutV (ns.map V.int) (some z) none ++ [V.int 0]) (0 : Int) = some (.int ce) := by
        obtain ⟨ms, hms⟩ := cut_ints' ns (some z) none
        rw [hms]
        cases ms with
        | nil => exact ⟨0, rfl⟩
        | cons t ts => exact ⟨t, atI_nat (j := 0) rfl⟩
      refine ⟨r, _, 0, .int ce, rfl, rfl, .inl (.inl upd_same), hce, ?_⟩
      have nb1 := ne_of_none hb hp
      have hb1 : (upd H p (HO.lst (cutV (ns.map V.int) (some z) none))) b = some (.lst [.int x, .int y, .int z, .ref c]) := by rw [upd_ne nb1]; exact hb
      have nb2 := ne_of_none hb1 hq
      have hb2 := (upd_ne (o := HO.lst [V.int 0]) nb2).trans hb1
      have nb3 := ne_of_none hb2 hr'
      have hb3 := (upd_ne (o := HO.lst (cutV (ns.map V.int) (some z) none ++ [V.int 0])) nb3).trans hb2
      have B3 : But b H (upd (upd (upd H p (HO.lst (cutV (ns.map V.int) (some z) none))) q (HO.lst [V.int 0])) r (HO.lst (cutV (ns.map V.int) (some z) none ++ [V.int 0]))) := (((But.refl b H).new hp).new hq).new hr'
      -- bag[2] += 1
      refine ⟨.ref b, rfl, b, _, 2, .int z, rfl, rfl, by decide, atL hb3, rfl, z, 1, rfl, rfl, b, _, 2, 2, rfl, rfl, hb3, rfl, ?_⟩
      have hb4 : (upd (upd (upd (upd H p (HO.lst (cutV (ns.map V.int) (some z) none))) q (HO.lst [V.int 0])) r (HO.lst (cutV (ns.map V.int) (some z) none ++ [V.int 0]))) b (HO.lst ([V.int x, V.int y, V.int z, V.ref c].set 2 (V.int (z + 1))))) b = some (.lst [.int x, .int y, .int (z + 1), .ref c]) := upd_same
      have B4 := B3.set (o := HO.lst ([V.int x, V.int y, V.int z, V.ref c].set 2 (V.int (z + 1))))
      generalize (upd (upd (upd (upd H p (HO.lst (cutV (ns.map V.int) (some z) none))) q (HO.lst [V.int 0])) r (HO.lst (cutV (ns.map V.int) (some z) none ++ [V.int 0]))) b (HO.lst ([V.int x, V.int y, V.int z, V.ref c].set 2 (V.int (z + 1))))) = H4 at hb4 B4 ⊢
      -- bag[0] = cell * int(cell >= 10 ** 18)
      have small2 : ∀ k : Bool, -(2 ^ 64 : Int) < (if k = true then 1 else 0) ∧ (if k = true then (1 : Int) else 0) < 2 ^ 64 := by intro k; cases k <;> decide
      refine ⟨.int ce, rfl, .int ce, rfl, 10, 18, rfl, rfl, ⟨by decide, by decide, by decide⟩, ce, _, rfl, rfl, .inr ⟨_, rfl, ce, _, rfl, rfl, .inr (small2 _), .ref b, rfl, b, _, 0, 0, rfl, rfl, hb4, rfl, ?_⟩⟩
      dsimp only
      generalize (ce * if decide ((10 : Int) ^ (18 : Int).toNat ≤ ce) = true then 1 else 0) = x5
      have hb5 : (upd H4 b (HO.lst ([V.int x, V.int y, V.int (z + 1), V.ref c].set 0 (V.int x5)))) b = some (.lst [.int x5, .int y, .int (z + 1), .ref c]) := upd_same
      have B5 := B4.set (o := HO.lst ([V.int x, V.int y, V.int (z + 1), V.ref c].set 0 (V.int x5)))
      generalize (upd H4 b (HO.lst ([V.int x, V.int y, V.int (z + 1), V.ref c].set 0 (V.int x5)))) = H5 at hb5 B5 ⊢
      -- mixed = ..
      refine ⟨.ref b, rfl, b, _, 1, _, rfl, rfl, atL hb5, rfl, y, 48271, rfl, rfl, .inr ⟨by decide, by decide⟩, .int ce, rfl, .inl ⟨ce, rfl, ce, 2147483647, rfl, rfl, (by show (0 : Int) < 2147483647; decide), _, _, rfl, rfl, .ref b, rfl, b, _, 2, _, rfl, rfl, atL hb5, rfl, 7919, z + 1, rfl, rfl, .inl ⟨by decide, by decide⟩, _, _, rfl, rfl, ?_⟩⟩
      dsimp only
      generalize (y * 48271 + ce % 2147483647 + 7919 * (z + 1)) = mx
      -- bag[1] = int(mixed) % 2147483647
      refine ⟨.int mx, rfl, .inl ⟨mx, rfl, mx, 2147483647, rfl, rfl, (by show (0 : Int) < 2147483647; decide), .ref b, rfl, b, _, 1, 1, rfl, rfl, hb5, rfl, ?_⟩⟩
      exact ⟨x5, mx % 2147483647, z + 1, some (.int ce), some (.int mx), none, rfl, upd_same, B5.set⟩
    · exact ⟨x, y, z, none, none, none, rfl, hb, But.refl b H⟩
  · rintro σ H1 ⟨x', y', z', u, v, w2, rfl, hb1, B1⟩
    have hc1 : H1 c = some (.lst (ns.map V.int)) := B1 c _ hc ncb
    refine ⟨.ref b, rfl, b, _, 0, _, rfl, rfl, atL hb1, rfl, x', 0, rfl, rfl, _, rfl, ?_⟩
    refine ite2 (fun _ => ?_) (fun _ => ?_)
    · refine ⟨.ref b, rfl, b, _, 0, _, rfl, rfl, atL hb1, rfl, .inl ⟨x', rfl, .int m, rfl, x', m, rfl, rfl, m0, ?_⟩⟩
      refine ⟨.ref b, rfl, b, _, 0, _, rfl, rfl, atL hb1, rfl, .inl ⟨x', rfl, .int m, rfl, x', m, rfl, rfl, ⟨m0, by omega⟩, small (by show 2 ≤ 1000; decide), fun t nt => ?_⟩⟩
      have nbt : b ≠ t := ne_of_none hb1 nt
      have hb2 := (upd_ne (o := HO.tup [V.int (x' % m), V.int (x' / m)]) nbt).trans hb1
      refine ⟨t, _, rfl, .inl (.inl upd_same), rfl, .int (x' % m), [.int (x' / m)], rfl, .int (x' / m), [], rfl, .ref b, rfl, b, _, 0, 0, rfl, rfl, hb2, rfl, ⟨rfl, ?_⟩⟩
      refine ⟨.int (x' % m), rfl, k _ _ (Int.emod_nonneg _ (by omega)) (Int.emod_lt_of_pos _ m0) ⟨x' / m, y', z', ns, upd_same, ?_, h63⟩ (B1.new nt).set⟩
      rw [upd_ne ncb, upd_ne (ne_of_none hc1 nt)]
      exact hc1
    · refine ⟨.ref b, rfl, b, _, 1, _, rfl, rfl, atL hb1, rfl, y', 1, rfl, rfl, _, 39373, rfl, rfl, .inr ⟨by decide, by decide⟩, .inl ⟨_, rfl, _, 1000000007, rfl, rfl, (by show (0 : Int) < 1000000007; decide), ?_⟩⟩
      have e1 : 0 ≤ (y' + 1) * 39373 % 1000000007 := Int.emod_nonneg _ (by decide)
      have e2 : (y' + 1) * 39373 % 1000000007 < 1000000007 := Int.emod_lt_of_pos _ (by decide)
      dsimp only
      generalize (y' + 1) * 39373 % 1000000007 = ea at e1 e2 ⊢
      refine ⟨.int ea, rfl, .int ea, rfl, ea, ea, rfl, rfl, .inl ⟨by omega, by omega⟩, .inl ⟨_, rfl, _, 998244353, rfl, rfl, (by show (0 : Int) < 998244353; decide), _, 30011, rfl, rfl, .inr ⟨by decide, by decide⟩, .inl ⟨_, rfl, _, 998244353, rfl, rfl, (by show (0 : Int) < 998244353; decide), ?_⟩⟩⟩
      dsimp only
      generalize ea * ea % 998244353 * 30011 % 998244353 = sc
      refine ⟨.int sc, rfl, sc, 7, rfl, rfl, ⟨by decide, by decide⟩, .inl ⟨_, rfl, .int m, rfl, _, m, rfl, rfl, m0, ?_⟩⟩
      exact k _ _ (Int.emod_nonneg _ (by omega)) (Int.emod_lt_of_pos _ m0) ⟨x', y', z', ns, hb1, hc1, h63⟩ B1
end
end Lw

set_option Elab.async false
set_option linter.all false
set_option maxRecDepth 100000
namespace Lw
open PySem PySem.Spec PyProof.Rows L2
/-! ### names -/
abbrev LET : Str := "abcdefghijklmnopqrstuvwxyz"
abbrev WORDS : Str := "own not none some late now each done mark link tag row new self gone other"
def wordsL : List Str := ["own", "not", "none", "some", "late", "now", "each", "done", "mark", "link", "tag", "row", "new", "self", "gone", "other"]
theorem split_words : Txt.split WORDS " " = wordsL := by decide +kernel
def Low (c : Nat) : Prop := 97 ≤ c ∧ c ≤ 122
instance (c : Nat) : Decidable (Low c) := inferInstanceAs (Decidable (_ ∧ _))
structure NameOk (z : Str) : Prop where
  pos : 1 ≤ z.length
  most : z.length ≤ 8
  low : ∀ c ∈ z.cps.toList, Low c
abbrev one (c : Nat) : Str := ⟨#[c]⟩
def lowB (c : Nat) : Bool := decide (97 ≤ c) && decide (c ≤ 122)
theorem lowB_iff {c : Nat} : lowB c = true ↔ Low c := by unfold lowB Low; simp
def nameB (z : Str) : Bool := decide (1 ≤ z.length) && decide (z.length ≤ 8) && z.cps.toList.all lowB
theorem nameB_ok {z : Str} (h : nameB z = true) : NameOk z := by
  unfold nameB at h
  simp only [Bool.and_eq_true, decide_eq_true_eq, List.all_eq_true] at h
  exact ⟨h.1.1, h.1.2, fun c hc => lowB_iff.mp (h.2 c hc)⟩
theorem words_ok : ∀ z ∈ wordsL, NameOk z := fun z hz => nameB_ok (List.all_eq_true.mp (by decide +kernel : wordsL.all nameB = true) z hz)
theorem let_list : LET.cps.toList = List.range' 97 26 := by decide +kernel
theorem let_at {r : Int} (h0 : 0 ≤ r) (h1 : r < 26) : ∃ c : Nat, atI LET.cps.toList r = some c ∧ Low c ∧ (c : Int) = 97 + r := by
  obtain ⟨j, rfl⟩ : ∃ j : Nat, r = (j : Int) := ⟨r.toNat, by omega⟩
  have hj : j < 26 := by omega
  refine ⟨97 + j, atI_nat ?_, ⟨by omega, by omega⟩, by omega⟩
  rw [let_list, List.getElem?_range' hj]
  simp
theorem let_index {c : Nat} (h : Low c) : ∃ rest, Builtin.Str.occurrences LET (one c) 0 LET.length 1 = (c - 97) :: rest := by
  have key : ∀ j ∈ List.range 26, ∃ rest, Builtin.Str.occurrences LET (one (97 + j)) 0 LET.length 1 = j :: rest := by
    intro j hj
    have e : (List.range 26).all (fun j => (Builtin.Str.occurrences LET (one (97 + j)) 0 LET.length 1).head? == some j) = true := by decide +kernel
    have e2 := List.all_eq_true.mp e j hj
    cases q : Builtin.Str.occurrences LET (one (97 + j)) 0 LET.length 1 with
    | nil => rw [q] at e2; cases e2
    | cons a r =>
      rw [q] at e2
      have e3 : a = j := by simpa using e2
      exact ⟨r, by rw [e3]⟩
  obtain ⟨h1, h2⟩ := h
  obtain ⟨rest, e⟩ := key (c - 97) (List.mem_range.mpr (by omega))
  rw [show 97 + (c - 97) = c by omega] at e
  exact ⟨rest, e⟩
/-- the letters from one on, all round -/
def rot (at_ : Nat) : Str := cutS LET (some (at_ : Int)) none ++ cutS LET none (some (at_ : Int))
theorem rot_ok {j : Nat} (h : j < 26) : (rot j).cps.toList.length = 26 ∧ (rot j).cps.toList.Nodup ∧ ∀ c ∈ (rot j).cps.toList, Low c := by
  have e : (List.range 26).all (fun j => decide ((rot j).cps.toList.length = 26) && decide ((rot j).cps.toList.Nodup) && (rot j).cps.toList.all lowB) = true := by decide +kernel
  have e2 := List.all_eq_true.mp e j (List.mem_range.mpr h)
  simp only [Bool.and_eq_true, decide_eq_true_eq, List.all_eq_true] at e2
  exact ⟨e2.1.1, e2.1.2, fun c hc => lowB_iff.mp (e2.2 c hc)⟩
theorem str_ext {a b : Str} (h : a.cps.toList = b.cps.toList) : a = b := by
  obtain ⟨⟨l⟩⟩ := a
  obtain ⟨⟨m⟩⟩ := b
  have e : l = m := h
  rw [e]
theorem app_list (a b : Str) : (a ++ b).cps.toList = a.cps.toList ++ b.cps.toList := by
  show (a.cps ++ b.cps).toList = _
  exact Array.toList_append ..
theorem len_list (a : Str) : a.length = a.cps.toList.length := by
  show a.cps.size = _
  simp
theorem one_inj {a b : Nat} {r : Str} (h : one a ++ r = one b ++ r) : a = b := by
  have e := congrArg (fun z : Str => z.cps.toList) h
  rw [app_list, app_list] at e
  exact (List.cons.inj e).1
theorem cand_ok {c : Nat} {r : Str} (hc : Low c) (hl : r.length ≤ 7) (hr : ∀ c ∈ r.cps.toList, Low c) : NameOk (one c ++ r) := by
  have e : (one c ++ r).length = 1 + r.length := by rw [len_list, app_list, List.length_append, ← len_list r]; rfl
  refine ⟨by omega, by omega, fun d hd => ?_⟩
  rw [app_list] at hd
  rcases List.mem_append.mp hd with h | h
  · have : d = c := by simpa using h
    rw [this]; exact hc
  · exact hr d h
theorem nodup_le {α : Type} [DecidableEq α] : ∀ {l m : List α}, l.Nodup → (∀ x ∈ l, x ∈ m) → l.length ≤ m.length
  | [], _, _, _ => Nat.zero_le _
  | a :: l, m, hn, hs => by
    obtain ⟨h1, h2⟩ := List.nodup_cons.mp hn
    have ha : a ∈ m := hs a List.mem_cons_self
    have ih := nodup_le (l := l) (m := m.erase a) h2 fun x hx => (List.mem_erase_of_ne fun e => h1 (by rw [← e]; exact hx)).mpr (hs x (List.mem_cons_of_mem _ hx))
    have e := List.length_erase_of_mem ha
    have p : 0 < m.length := List.length_pos_of_mem ha
    show l.length + 1 ≤ m.length
    omega
theorem cand_free {j : Nat} (hj : j < 26) (r : Str) {zs : List Str} (hz : zs.length ≤ 25) : ∃ x ∈ (rot j).cps.toList.map (fun c => one c ++ r), x ∉ zs := by
  obtain ⟨e1, e2, e3⟩ := rot_ok hj
  by_cases h : ∃ x ∈ (rot j).cps.toList.map (fun c => one c ++ r), x ∉ zs
  · exact h
  · have nd : ((rot j).cps.toList.map (fun c => one c ++ r)).Nodup := by
      refine List.Pairwise.map _ (fun a b ne => fun e => ne (one_inj e)) e2
    have le := nodup_le nd fun x hx => Decidable.byContradiction fun q => h ⟨x, hx, q⟩
    rw [List.length_map, e1] at le
    omega
theorem inV_str (z : Str) (zs : List Str) : inV (.str z) (zs.map V.str) = decide (z ∈ zs) := by
  unfold inV
  induction zs with
  | nil => rfl
  | cons a r ih =>
    rw [List.map_cons, List.any_cons, ih]
    show ((a == z) || decide (z ∈ r)) = decide (z ∈ a :: r)
    by_cases e : a = z
    · subst e
      simp
    · have e' : (a == z) = false := beq_eq_false_iff_ne.mpr e
      rw [e', Bool.false_or]
      simp [List.mem_cons, Ne.symm e]
theorem flat_strs (zs : List Str) : (zs.map V.str).all flatV = true := by
  induction zs with
  | nil => rfl
  | cons a r ih => rw [List.map_cons, List.all_cons, ih]; rfl
/-- what is joined of single signs -/
theorem join_ones : ∀ cs : List Nat, Txt.join (Str.ofString "") (cs.map one) = ⟨cs.toArray⟩ := by
  intro cs
  rw [TL.join_eq]
  refine str_ext ?_
  show _ = cs
  induction cs with
  | nil => rfl
  | cons c r ih =>
    cases r with
    | nil => rfl
    | cons d r =>
      show (one c ++ Str.ofString "" ++ Str.join (Str.ofString "") ((d :: r).map one)).cps.toList = _
      rw [app_list, app_list, ih]
      rfl
theorem cut_drop1 (xs : List V) : cutV xs (some 1) none = xs.drop 1 := by
  have e : HT.sIx xs.length 0 (some ((1 : Nat) : Int)) = min 1 xs.length := HT.sIx_nat xs.length 0 1
  unfold cutV
  rw [show HT.sIx xs.length 0 (some (1 : Int)) = min 1 xs.length from e, HT.sIx_none]
  cases xs with
  | nil => rfl
  | cons a r =>
    have m : min 1 (a :: r).length = 1 := by rw [List.length_cons]; omega
    rw [m]
    exact List.take_of_length_le (by rw [List.length_drop]; exact Nat.le_refl _)
theorem cut_strs (zs : List Str) (lo hi : Option Int) : ∃ ys : List Str, cutV (zs.map V.str) lo hi = ys.map V.str ∧ ∀ y ∈ ys, y ∈ zs := by
  unfold cutV
  refine ⟨(zs.drop (HT.sIx (zs.map V.str).length 0 lo)).take (HT.sIx (zs.map V.str).length (zs.map V.str).length hi - HT.sIx (zs.map V.str).length 0 lo), ?_, fun y hy => List.mem_of_mem_drop (List.mem_of_mem_take hy)⟩
  rw [List.map_take, List.map_drop]
theorem ones_len (cs : List Nat) : ((cs.map one).map (·.length)).sum = cs.length := by
  induction cs with
  | nil => rfl
  | cons c r ih =>
    rw [List.map_cons, List.map_cons, List.sum_cons, ih, List.length_cons]
    show 1 + r.length = r.length + 1
    omega
theorem rep_strs (ws : List Str) (k : Bool) : ∃ ys : List Str, (List.replicate (if k = true then (1 : Int) else 0).toNat (ws.map V.str)).flatten = ys.map V.str ∧ ∀ y ∈ ys, y ∈ ws := by
  cases k with
  | false => exact ⟨[], rfl, fun y h => absurd h List.not_mem_nil⟩
  | true => exact ⟨ws, List.append_nil _, fun y h => h⟩
theorem take_more {α : Type} {l : List α} {i : Nat} {x : α} (h : l[i]? = some x) : l.take (i + 1) = l.take i ++ [x] := by
  rw [List.take_add_one, h]
  rfl
theorem rot_len (j : Nat) : (cutS LET (some (j : Int)) none).length + (cutS LET none (some (j : Int))).length ≤ sizeLine := by
  have h1 := cutS_length LET (some (j : Int)) none
  have h2 := cutS_length LET none (some (j : Int))
  have h3 : LET.length = 26 := by decide +kernel
  exact small (by omega)
theorem pick4 {r : Int} (h0 : 0 ≤ r) (h1 : r < 4) : ∃ ln : Int, atI [V.int 1, V.int 2, V.int 8, V.int 4] r = some (.int ln) ∧ 1 ≤ ln ∧ ln ≤ 8 := by
  obtain h | h | h | h : r = 0 ∨ r = 1 ∨ r = 2 ∨ r = 3 := by omega
  · exact ⟨1, by rw [h]; rfl, by decide, by decide⟩
  · exact ⟨2, by rw [h]; rfl, by decide, by decide⟩
  · exact ⟨8, by rw [h]; rfl, by decide, by decide⟩
  · exact ⟨4, by rw [h]; rfl, by decide, by decide⟩
end Lw

set_option Elab.async false
set_option linter.all false
set_option maxRecDepth 100000
set_option maxHeartbeats 4000000
namespace Lw
open PySem PySem.Spec PyProof.Rows L2
abbrev sNames : Stmt := topS 36
abbrev NNames : List Str := ["_law_bag_here", "_law_many_here", "_law_letters", "_law_found", "_law_words", "_law_k", "_law_signs", "_law_at", "_law_rest", "_law_some", "_law_turn", "_law_one"]
section
variable {P : Program} {w : World} {K : PySem.W.Frag} {mg : Str → Option Value} {base : Heap}
theorem scNames : FnScope NNames ["_law_bag_here", "_law_many_here"] (defScope sNames) := ⟨rfl, rfl, rfl, by decide +kernel, rfl, by decide +kernel, by decide +kernel⟩
def spNames : Sp := fun vs H Q _ => ∃ (b c : Addr) (n : Int), vs = [.ref b, .int n] ∧ BagAt H b c ∧ 0 ≤ n ∧ n ≤ 20 ∧
  ∀ (p : Addr) (zs : List Str) (H' : Hp), (zs.length : Int) = n → zs.Nodup → (∀ z ∈ zs, NameOk z) → H' p = some (.lst (zs.map V.str)) → H p = none → BagAt H' b c → But b H H' → Q (.ref p) H'
theorem ok_names {f fT : Addr} {fd fdT : FuncData} (F : Fun K "_law_names" "_law_names" sNames f fd) (G : FnOk P w K mg base CX0 1 fT fdT ["_law_bag_here", "_law_many_here"] spTake) (mT : mg "_law_take" = some (.ref fT)) (kT : PySem.W.keepIn K (.ref fT) = true)
    (bT : Binds K fdT ["_law_bag_here", "_law_many_here"] []) (mrange : mg "range" = none) (mint : mg "int" = none) : FnOk P w K mg base CX0 2 f fd ["_law_bag_here", "_law_many_here"] spNames := by
  refine F.ok scNames (fun vs H Q E h => ?_) (fun cdv A outer s H vs Q E hr h => ?_)
  · obtain ⟨a, c, ns, rfl, _⟩ := h
    rfl
  obtain ⟨b, c, n, rfl, hb, n0, n1, k⟩ := h
  refine ⟨_, pss_cons (ps_asg (pe_tup (pa_cons pe_str (pa_cons (pe_lst pa_nil) pa_nil))) (pg_tup rfl (pgs_cons (pg_name (i := 2) scNames.nd rfl (.inr rfl)) (pgs_cons (pg_name (i := 3) scNames.nd rfl (.inr rfl)) pgs_nil))))
    (pss_cons (ps_set (i := 4) scNames.nd rfl (.inl rfl) (pe_split pe_str pe_str))
    (pss_cons (ps_for PassesOwn.never rfl (pi_range1 (by rfl) mrange (pa_cons (pv 1) pa_nil)) (pg_name (i := 5) scNames.nd rfl (.inl rfl))
      (pss_cons (ps_setLc (i := 6) (own := [("_law_turn", 10)]) (g := gName 10) (tt := tYes) rfl scNames.nd rfl rfl (sw_true rfl rfl rfl (by decide +kernel))
          (pi_range1 (by rfl) mrange (pa_cons (pe_ix ix_list (pe_lst (pa_cons pe_int (pa_cons pe_int (pa_cons pe_int (pa_cons pe_int pa_nil))))) (pe_call G hr (by rfl) mT kT bT .nil pass0 (pa_cons (pv 0) (pa_cons pe_int pa_nil))) (fun _ _ => rfl)) pa_nil))
          (blkOk_by (N := NNames) (sc := defScope sNames) (by decide +kernel)) (fun _ _ _ _ _ => pg_name (i := 10) scNames.nd rfl (Or.inl rfl)) (fun _ _ _ _ _ => pts_nil)
          (fun _ _ _ _ _ => pe_ix ix_str (pv 2) (pe_call G hr (by rfl) mT kT bT .nil pass0 (pa_cons (pv 0) (pa_cons pe_int pa_nil))) (fun _ _ => rfl)))
      (pss_cons (ps_asg (pe_tup (pa_cons (pe_m1 PySem.F.slot_str_index PySem.F.type_str_index mt_sindex (pv 2) (pe_ix ix_list (pv 6) pe_int (fun _ _ => rfl))) (pa_cons (pe_join pe_str (pe_slice sl_list (pv 6) (po_some pe_int) po_none)) pa_nil)))
          (pg_tup rfl (pgs_cons (pg_name (i := 7) scNames.nd rfl (.inl rfl)) (pgs_cons (pg_name (i := 8) scNames.nd rfl (.inr rfl)) pgs_nil))))
      (pss_cons (ps_set (i := 9) scNames.nd rfl (.inl rfl) (pe_op op_cat (pe_op op_rep (pe_slice sl_list (pv 4) (po_some (pv 7)) po_none) (pe_callTy call_int1 (by rfl) mint (by decide +kernel) (pa_cons (pe_cmpR op_eq (pe_call G hr (by rfl) mT kT bT .nil pass0 (pa_cons (pv 0) (pa_cons pe_int pa_nil))) pe_int (nomark _)) pa_nil)))
          (pe_lc (own := [("_law_one", 11)]) (g := gName 11) (tt := tYes) rfl scNames.nd (pi_str (pe_op op_add_str (pe_slice sl_str (pv 2) (po_some (pv 7)) po_none) (pe_slice sl_str (pv 2) po_none (po_some (pv 7))))) (blkOk_by (N := NNames) (sc := defScope sNames) (by decide +kernel))
            (fun _ _ _ _ _ => pg_name (i := 11) scNames.nd rfl (Or.inl rfl)) (fun _ _ _ _ _ => pts_nil) (fun _ _ _ _ _ => pe_op op_add_str (pv 11) (pv 8)))))
      (pss_one (ps_expr (pe_bm PySem.F.plainAttrs_list PySem.F.slot_list_append PySem.F.type_list_append mt_append (pv 3) (pa_cons
          (pe_ix ix_list (pe_lc (own := [("_law_one", 11)]) (g := gName 11) rfl scNames.nd (pi_list (pv 9)) (blkOk_by (N := NNames) (sc := defScope sNames) (by decide +kernel))
            (fun _ _ _ _ _ => pg_name (i := 11) scNames.nd rfl (Or.inl rfl)) (fun _ _ _ _ _ => pts_one (pt_cmpR (r := rIn K true) op_notIn_seq (pv 11) (pv 3) (by rfl))) (fun _ _ _ _ _ => pv 11)) pe_int (fun _ _ => rfl)) pa_nil))))))))
    (pss_one (ps_ret (pv 3))))), ?_⟩
  refine ⟨Nat.zero_le _, fun o no => ⟨small (by show 2 ≤ 1000; decide), fun t nt => ?_⟩⟩
  have no' : o ≠ t := ne_of_none upd_same nt
  refine ⟨t, _, rfl, .inl (.inl upd_same), rfl, .str LET, [.ref o], rfl, .ref o, [], rfl, ⟨rfl, ?_⟩⟩
  have ho1 : (upd (upd H o (.lst [])) t (.tup [.str LET, .ref o])) o = some (.lst []) := by rw [upd_ne no']; exact upd_same
  have s1 : Same H (upd (upd H o (.lst [])) t (.tup [.str LET, .ref o])) := (same_new no _).trans (same_new nt _)
  generalize (upd (upd H o (.lst [])) t (.tup [.str LET, .ref o])) = H1 at ho1 s1 ⊢
  refine ⟨⟨_, rfl⟩, WORDS, " ", rfl, rfl, by decide +kernel, by decide +kernel, fun wp nw => ?_⟩
  rw [split_words]
  have hw2 : (upd H1 wp (.lst (wordsL.map V.str))) wp = some (.lst (wordsL.map V.str)) := upd_same
  have now : o ≠ wp := ne_of_none ho1 nw
  have ho2 : (upd H1 wp (.lst (wordsL.map V.str))) o = some (.lst []) := by rw [upd_ne now]; exact ho1
  have s2 : Same H (upd H1 wp (.lst (wordsL.map V.str))) := s1.trans (same_new nw _)
  generalize (upd H1 wp (.lst (wordsL.map V.str))) = H2 at hw2 ho2 s2 ⊢
  have nob : o ≠ b := hb.nb no
  have noc : o ≠ c := hb.nc no
  have nwb : wp ≠ b := (hb.mono s1).nb nw
  refine ⟨.int n, rfl, n, rfl, by omega, by omega, for_range (lo := 0) (n := n.toNat) (fun i σ H3 => ∃ (zs : List Str) (v5 v6 v7 v8 v9 : Option V), σ = [some (.ref b), some (.int n), some (.str LET), some (.ref o), some (.ref wp), v5, v6, v7, v8, v9, none, none] ∧
      zs.length = i ∧ zs.Nodup ∧ (∀ z ∈ zs, NameOk z) ∧ H3 o = some (.lst (zs.map V.str)) ∧ H3 wp = some (.lst (wordsL.map V.str)) ∧ BagAt H3 b c ∧ But b H H3)
    ⟨[], none, none, none, none, none, rfl, rfl, List.nodup_nil, fun z hz => absurd hz List.not_mem_nil, ho2, hw2, hb.mono s2, But.of s2⟩ ?_ ?_⟩
  · rintro i σ H3 hi ⟨zs, v5, v6, v7, v8, v9, rfl, el, nd, ok, ho3, hw3, hb3, B3⟩
    refine ⟨small (by show 4 ≤ 1000; decide), fun l nl => ?_⟩
    have nlb : l ≠ b := hb3.nb nl
    have B4 : But b H3 (upd H3 l (.lst [.int 1, .int 2, .int 8, .int 4])) := (But.refl b H3).new nl
    refine ⟨.ref b, rfl, b, c, 4, rfl, hb3.new nl, by decide, by decide, fun r H4 r0 r1 hb4 B5 => ?_⟩
    obtain ⟨ln, hln, l1, l8⟩ := pick4 r0 r1
    refine ⟨l, _, r, .int ln, rfl, rfl, .inl (.inl (B5 l _ upd_same nlb)), hln, ln, rfl, by omega, by omega, fun D nD => ?_⟩
    have B6 : But b H3 H4 := B4.trans B5
    have nDb : D ≠ b := hb4.nb nD
    have nDc : D ≠ c := hb4.nc nD
    have nD3 : H3 D = none := B6.free nD nDb
    refine lc_range (lo := 0) (n := ln.toNat) (fun i H' => ∃ cs : List Nat, cs.length = i ∧ (∀ c ∈ cs, Low c) ∧ H' D = some (.lst (cs.map fun c => V.str (one c))) ∧ BagAt H' b c ∧ But b H3 H')
      ⟨[], rfl, fun c hc => absurd hc List.not_mem_nil, upd_same, hb4.new nD, B6.new nD⟩ ?_ ?_
    · rintro j H5 hj ⟨cs, ec, lo, hD, hb5, B7⟩
      refine ⟨rfl, yes_if ?_⟩
      refine ⟨.str LET, rfl, .ref b, rfl, b, c, 26, rfl, hb5, by decide, by decide, fun r2 H6 r3 r4 hb6 B8 => ?_⟩
      obtain ⟨d, hd, ld, _⟩ := let_at r3 r4
      have hD6 := B8 D _ hD nDb
      refine ⟨LET, r2, d, rfl, rfl, by decide +kernel, hd, _, hD6, by rw [List.length_map]; exact small1000 (by omega), cs ++ [d], by rw [List.length_append, ec]; rfl, fun d' hd' => ?_, by rw [upd_same, List.map_append]; rfl, hb6.set nDb nDc, (B7.trans B8).put nD3⟩
      rcases List.mem_append.mp hd' with h | h
      · exact lo d' h
      · rw [List.mem_singleton.mp h]; exact ld
    · rintro H5 ⟨cs, ec, lo, hD, hb5, B7⟩
      obtain ⟨c0, cr, rfl⟩ : ∃ c0 cr, cs = c0 :: cr := by
        cases cs with
        | nil => rw [List.length_nil] at ec; omega
        | cons c0 cr => exact ⟨c0, cr, rfl⟩
      have lc0 : Low c0 := lo c0 List.mem_cons_self
      have lcr : ∀ d ∈ cr, Low d := fun d hd => lo d (List.mem_cons_of_mem _ hd)
      rw [List.length_cons] at ec
      obtain ⟨orest, hocc⟩ := let_index lc0
      have hj26 : c0 - 97 < 26 := by have := lc0.1; have := lc0.2; omega
      generalize c0 - 97 = j at hocc hj26
      -- at, rest
      refine ⟨.str LET, rfl, ⟨_, rfl⟩, .ref D, rfl, D, _, 0, .str (one c0), rfl, rfl, .inl (.inl hD), atI_nat (j := 0) rfl, LET, one c0, j, orest, rfl, rfl, hocc, ⟨_, rfl⟩, .ref D, rfl, 1, rfl, D, _, rfl, .inl (.inl hD), fun p np => ?_⟩
      rw [cut_drop1]
      have np3 : H3 p = none := B7.free np (hb5.nb np)
      refine ⟨_, p, cr.map one, rfl, rfl, .inl (.inl (.inl (by rw [upd_same, List.map_cons, List.map_map]; rfl))), ?_, small (by show 2 ≤ 1000; decide), fun t2 nt2 => ?_⟩
      · rw [ones_len, List.length_map]
        show cr.length + cr.length * 0 ≤ _
        omega
      rw [join_ones]
      generalize hrest : (⟨cr.toArray⟩ : Str) = rest
      have rl : rest.length ≤ 7 := by rw [← hrest]; show cr.toArray.size ≤ 7; rw [List.size_toArray]; omega
      have rlow : ∀ d ∈ rest.cps.toList, Low d := by rw [← hrest]; exact lcr
      refine ⟨t2, _, rfl, .inl (.inl upd_same), rfl, .int j, [.str rest], rfl, .str rest, [], rfl, ⟨rfl, ?_⟩⟩
      have hb6 := (hb5.new (o := HO.lst (((c0 :: cr).map fun c => V.str (one c)).drop 1)) np).new (o := HO.tup [V.int j, V.str rest]) nt2
      have B8 := (B7.new (o := HO.lst (((c0 :: cr).map fun c => V.str (one c)).drop 1)) np).new (o := HO.tup [V.int j, V.str rest]) nt2
      generalize (upd (upd H5 p (HO.lst (((c0 :: cr).map fun c => V.str (one c)).drop 1))) t2 (HO.tup [V.int j, V.str rest])) = H6 at hb6 B8 ⊢
      have hw6 := B8 wp _ hw3 nwb
      -- some
      refine ⟨.ref wp, rfl, .int j, rfl, j, rfl, wp, _, rfl, .inl (.inl hw6), fun p3 np3 => ?_⟩
      obtain ⟨ws, ews, hws⟩ := cut_strs wordsL (some (j : Int)) none
      rw [ews]
      refine ⟨.ref b, rfl, b, c, 8, rfl, hb6.new np3, by decide, by decide, fun r5 H7 _ _ hb7 B9 => ?_⟩
      have wl16 : ws.length ≤ 16 := by
        have e := congrArg List.length ews
        rw [List.length_map] at e
        have l1 := cutV_length (wordsL.map V.str) (some (j : Int)) none
        rw [List.length_map] at l1
        have l2 : wordsL.length = 16 := rfl
        omega
      have hp3 : H7 p3 = some (.lst (ws.map V.str)) := B9 p3 _ upd_same (hb6.nb np3)
      have B10 : But b H3 H7 := (B8.new np3).trans B9
      refine ⟨rfl, .inr ⟨_, rfl, p3, _, _, rfl, rfl, hp3, ?_, ?_, ?_, fun p4 np4 => ?_⟩⟩
      · cases decide (V.int r5 = V.int 0) <;> decide
      · cases decide (V.int r5 = V.int 0) <;> decide
      · rw [List.length_map]
        cases decide (V.int r5 = V.int 0)
        · exact small (by show ws.length * 0 ≤ 1000; omega)
        · exact small (by show ws.length * 1 ≤ 1000; omega)
      obtain ⟨w2, ew2, hw2'⟩ := rep_strs ws (decide (V.int r5 = V.int 0))
      rw [ew2]
      have wl2 : w2.length ≤ 16 := by
        have e := congrArg List.length ew2
        rw [List.length_map] at e
        have l2 : ((List.replicate (if decide (V.int r5 = V.int 0) = true then (1 : Int) else 0).toNat (ws.map V.str)).flatten).length ≤ 16 := by
          cases decide (V.int r5 = V.int 0)
          · show 0 ≤ 16; omega
          · show ((ws.map V.str) ++ []).length ≤ 16
            rw [List.append_nil, List.length_map]; exact wl16
        omega
      have hb8 := hb7.new (o := HO.lst (w2.map V.str)) np4
      have B11 := B10.new (o := HO.lst (w2.map V.str)) np4
      have hp4 : (upd H7 p4 (HO.lst (w2.map V.str))) p4 = some (.lst (w2.map V.str)) := upd_same
      have n4b : p4 ≠ b := hb7.nb np4
      generalize (upd H7 p4 (HO.lst (w2.map V.str))) = H8 at hb8 B11 hp4 ⊢
      refine ⟨.str LET, rfl, .int j, rfl, j, rfl, LET, rfl, by decide +kernel, .str LET, rfl, .int j, rfl, j, rfl, LET, rfl, by decide +kernel, _, _, rfl, rfl, rot_len j, rot j, rfl, fun D2 nD2 => ?_⟩
      obtain ⟨rot26, rotN, rotL⟩ := rot_ok hj26
      have nD2b : D2 ≠ b := hb8.nb nD2
      have nD2c : D2 ≠ c := hb8.nc nD2
      have nD23 : H3 D2 = none := B11.free nD2 nD2b
      have nD24 : p4 ≠ D2 := ne_of_none hp4 nD2
      refine lc_strI (fun i H' => H' D2 = some (.lst ((((rot j).cps.toList.take i).map fun d => one d ++ rest).map V.str)) ∧ H' p4 = some (.lst (w2.map V.str)) ∧ BagAt H' b c ∧ But b H3 H')
        ⟨upd_same, by rw [upd_ne nD24]; exact hp4, hb8.new nD2, B11.new nD2⟩ ?_ ?_
      · rintro i d H9 hd ⟨hD2, hp49, hb9, B12⟩
        have hlt : i < 26 := by rw [← rot26]; exact (List.getElem?_eq_some_iff.mp hd).1
        refine ⟨rfl, yes_if ⟨.str (one d), rfl, .str rest, rfl, _, _, rfl, rfl, small (by show 1 + rest.length ≤ 1000; omega), _, hD2, ?_, ?_, by rw [upd_ne nD24]; exact hp49, hb9.set nD2b nD2c, B12.put nD23⟩⟩
        · rw [List.length_map, List.length_map, List.length_take]; exact small1000 (by omega)
        · rw [upd_same, take_more hd, List.map_append, List.map_append]; rfl
      · rintro H9 ⟨hD2, hp49, hb9, B12⟩
        rw [List.take_length] at hD2
        refine ⟨p4, D2, _, _, rfl, rfl, hp49, hD2, small (by rw [List.length_map, List.length_map, List.length_map]; omega), fun S nS => ?_⟩
        rw [← List.map_append]
        generalize hsome : w2 ++ (rot j).cps.toList.map (fun d => one d ++ rest) = somes
        have hsomes : ∀ z ∈ somes, NameOk z := by
          intro z hz
          rw [← hsome] at hz
          rcases List.mem_append.mp hz with h | h
          · exact words_ok z (hws z (hw2' z h))
          · obtain ⟨d, hd, rfl⟩ := List.mem_map.mp h
            exact cand_ok (rotL d hd) rl rlow
        have slen : somes.length ≤ 42 := by rw [← hsome, List.length_append, List.length_map]; omega
        obtain ⟨fx, hfx, nfx⟩ : ∃ x ∈ somes, x ∉ zs := by
          obtain ⟨x, hx, nx⟩ := cand_free hj26 rest (zs := zs) (by omega)
          exact ⟨x, by rw [← hsome]; exact List.mem_append_right _ hx, nx⟩
        have hb10 := hb9.new (o := HO.lst (somes.map V.str)) nS
        have B13 := B12.new (o := HO.lst (somes.map V.str)) nS
        have hS : (upd H9 S (HO.lst (somes.map V.str))) S = some (.lst (somes.map V.str)) := upd_same
        have nSb : S ≠ b := hb9.nb nS
        have nS3 : H3 S = none := B12.free nS nSb
        generalize (upd H9 S (HO.lst (somes.map V.str))) = H10 at hb10 B13 hS ⊢
        have ho10 := B13 o _ ho3 nob
        -- found.append([..][0])
        refine ⟨.ref o, rfl, .inl ⟨rfl, _, .inl (.inl ho10)⟩, .ref S, rfl, S, rfl, ⟨_, .inl (.inl hS)⟩, fun D3 nD3' => ?_⟩
        have nD3b : D3 ≠ b := hb10.nb nD3'
        have nD3c : D3 ≠ c := hb10.nc nD3'
        have nD33 : H3 D3 = none := B13.free nD3' nD3b
        have nSD : S ≠ D3 := ne_of_none hS nD3'
        have noD : o ≠ D3 := ne_of_none ho10 nD3'
        refine lc_list (K := K) (a := S) (xs := somes.map V.str) (fun i H' => H' D3 = some (.lst (((somes.take i).filter fun z => !decide (z ∈ zs)).map V.str)) ∧ H' S = some (.lst (somes.map V.str)) ∧ H' o = some (.lst (zs.map V.str)) ∧ BagAt H' b c ∧ But b H3 H')
          ⟨upd_same, by rw [upd_ne nSD]; exact hS, by rw [upd_ne noD]; exact ho10, hb10.new nD3', B13.new nD3'⟩ (fun i H' _ q => .inl (.inl q.2.1)) ?_ ?_
        · rintro i x H11 hx ⟨hD3, hS11, ho11, hb11, B14⟩
          obtain ⟨z, hz, rfl⟩ := map_get hx
          have hlt : i < somes.length := (List.getElem?_eq_some_iff.mp hz).1
          refine ⟨rfl, .str z, rfl, .ref o, rfl, o, _, rfl, .inl (.inl (.inl ho11)), rfl, flat_strs zs, _, rfl, ?_⟩
          show if (!inV (.str z) (zs.map V.str)) = true then _ else _
          rw [inV_str]
          have ef : ((somes.take (i + 1)).filter fun z => !decide (z ∈ zs)) = ((somes.take i).filter fun z => !decide (z ∈ zs)) ++ (if z ∈ zs then [] else [z]) := by
            rw [take_more hz, List.filter_append]
            by_cases q : z ∈ zs
            · simp [q]
            · simp [q]
          by_cases q : z ∈ zs
          · rw [decide_eq_true q]
            rw [if_pos q, List.append_nil] at ef
            refine iteF ⟨by rw [ef]; exact hD3, hS11, ho11, hb11, B14⟩
          · rw [decide_eq_false q]
            rw [if_neg q] at ef
            refine iteT ⟨.str z, rfl, _, hD3, ?_, ?_, by rw [upd_ne nSD]; exact hS11, by rw [upd_ne noD]; exact ho11, hb11.set nD3b nD3c, B14.put nD33⟩
            · rw [List.length_map]
              have l1 := List.length_filter_le (fun z => !decide (z ∈ zs)) (somes.take i)
              rw [List.length_take] at l1
              exact small1000 (by omega)
            · rw [upd_same, ef, List.map_append]; rfl
        · rintro H11 ⟨hD3, hS11, ho11, hb11, B14⟩
          rw [List.length_map, List.take_length] at hD3
          obtain ⟨g, gr, hg⟩ : ∃ g gr, (somes.filter fun z => !decide (z ∈ zs)) = g :: gr := by
            have m : fx ∈ (somes.filter fun z => !decide (z ∈ zs)) := List.mem_filter.mpr ⟨hfx, by simp [nfx]⟩
            cases e : (somes.filter fun z => !decide (z ∈ zs)) with
            | nil => rw [e] at m; cases m
            | cons g gr => exact ⟨g, gr, rfl⟩
          have hgm : g ∈ somes ∧ g ∉ zs := by
            have m : g ∈ (somes.filter fun z => !decide (z ∈ zs)) := by rw [hg]; exact List.mem_cons_self
            have m2 := List.mem_filter.mp m
            exact ⟨m2.1, by simpa using m2.2⟩
          rw [hg] at hD3
          refine ⟨D3, _, 0, .str g, rfl, rfl, .inl (.inl hD3), atI_nat (j := 0) rfl, o, _, .str g, rfl, rfl, ho11, by rw [List.length_map]; exact small1000 (by omega), ?_⟩
          refine ⟨zs ++ [g], _, _, _, _, _, rfl, by rw [List.length_append, el]; rfl, nd_snoc nd hgm.2, fun z hz => ?_, by rw [upd_same, List.map_append]; rfl, ?_, hb11.set nob noc, (B3.trans B14).put no⟩
          · rcases List.mem_append.mp hz with h | h
            · exact ok z h
            · rw [List.mem_singleton.mp h]; exact hsomes g hgm.1
          · rw [upd_ne now.symm]
            exact B14 wp _ hw3 nwb
  · rintro σ H3 ⟨zs, v5, v6, v7, v8, v9, rfl, el, nd, ok, ho3, hw3, hb3, B3⟩
    exact ⟨.ref o, rfl, k o zs H3 (by omega) nd ok ho3 no hb3 B3⟩
end
end Lw

set_option Elab.async false
set_option linter.all false
set_option maxRecDepth 100000
set_option maxHeartbeats 4000000
/-! plain tests, rows -/
namespace Lw
open PySem PySem.Spec PyProof.Rows L2
inductive Tst where
  | is (f : Str) (ws : List Str) | non (f : Str) | nt (t : Tst)
def Tst.depth : Tst → Nat
  | .nt t => t.depth + 1
  | _ => 0
def Tst.field : Tst → Str
  | .is f _ => f | .non f => f | .nt t => t.field
/-- what stands within all nots -/
def Tst.core : Tst → Tst
  | .nt t => t.core
  | t => t
/-- a row: what a field has, None or a text -/
abbrev Row := Str → Option (Option Str)
def Tst.pass (ρ : Row) : Tst → Bool
  | .is f ws => match ρ f with | some (some z) => decide (z ∈ ws) | _ => false
  | .non f => decide (ρ f = some none)
  | .nt t => !t.pass ρ
def cellV : Option Str → V
  | none => .non
  | some z => .str z
structure RowAt (H : Hp) (a : Addr) (ρ : Row) : Prop where
  ex : ∃ kvs, H a = some (.dK kvs) ∧ ∀ f, valV kvs (.inr f) = (ρ f).map cellV
inductive TV (H : Hp) : V → Tst → Prop
  | is {t l : Addr} {f : Str} {ws : List Str} (a : H t = some (.tup [.str "is", .str f, .ref l])) (b : H l = some (.lst (ws.map V.str))) : TV H (.ref t) (.is f ws)
  | non {t : Addr} {f : Str} (a : H t = some (.tup [.str "none", .str f])) : TV H (.ref t) (.non f)
  | nt {t : Addr} {v : V} {s : Tst} (a : H t = some (.tup [.str "not", v])) (b : TV H v s) : TV H (.ref t) (.nt s)
theorem RowAt.mono {H H' : Hp} {a : Addr} {ρ : Row} (x : RowAt H a ρ) (s : Same H H') : RowAt H' a ρ := by
  obtain ⟨kvs, e, g⟩ := x.ex
  exact ⟨kvs, s _ _ e, g⟩
theorem TV.mono {H H' : Hp} {v : V} {t : Tst} (x : TV H v t) (s : Same H H') : TV H' v t := by
  induction x with
  | is a b => exact .is (s _ _ a) (s _ _ b)
  | non a => exact .non (s _ _ a)
  | nt a _ ih => exact .nt (s _ _ a) ih
/-- the bag is none of it -/
theorem TV.but {H H' : Hp} {b c : Addr} {v : V} {t : Tst} (x : TV H v t) (g : BagAt H b c) (s : But b H H') : TV H' v t := by
  obtain ⟨x1, y1, z1, ns, h1, _, _⟩ := g
  have nt : ∀ {a : Addr} {xs : List V}, H a = some (.tup xs) → a ≠ b := fun e n => by rw [n, h1] at e; cases e
  have nl : ∀ {a : Addr} {ws : List Str}, H a = some (.lst (ws.map V.str)) → a ≠ b := fun {a ws} e n => by
    rw [n, h1] at e
    injection e with e
    injection e with e
    match ws with
    | [] => simp at e
    | w :: r => simp at e
  induction x with
  | is a b => exact .is (s _ _ a (nt a)) (s _ _ b (nl b))
  | non a => exact .non (s _ _ a (nt a))
  | nt a _ ih => exact .nt (s _ _ a (nt a)) ih
theorem RowAt.but {H H' : Hp} {a b c : Addr} {ρ : Row} (x : RowAt H a ρ) (g : BagAt H b c) (s : But b H H') : RowAt H' a ρ := by
  obtain ⟨kvs, e, f⟩ := x.ex
  obtain ⟨x1, y1, z1, ns, h1, _, _⟩ := g
  exact ⟨kvs, s _ _ e (fun n => by rw [n, h1] at e; cases e), f⟩
theorem RowAt.get {H : Hp} {a : Addr} {ρ : Row} {f : Str} {o : Option Str} (x : RowAt H a ρ) (e : ρ f = some o) : DGet H a (.str f) (some (cellV o)) := by
  obtain ⟨kvs, q, g⟩ := x.ex
  have := DGet.k (k := .inr f) q
  rw [g f, e] at this
  exact this
/-- by levels: the test's nots are fewer than n -/
def spPass (n : Nat) : Sp := fun vs H Q _ => ∃ (r : Addr) (v : V) (t : Tst) (ρ : Row) (o : Option Str), vs = [.ref r, v] ∧ RowAt H r ρ ∧ TV H v t ∧ t.depth < n ∧ ρ t.field = some o ∧ Q (.bl (t.pass ρ)) H
theorem in_cell {o : Option Str} {ws : List Str} : inV (cellV o) (ws.map V.str) = (match (some o : Option (Option Str)) with | some (some z) => decide (z ∈ ws) | _ => false) := by
  cases o with
  | none =>
    show inV V.non (ws.map V.str) = false
    unfold inV
    rw [List.any_eq_false]
    intro y hy
    obtain ⟨z, _, rfl⟩ := List.mem_map.mp hy
    exact Bool.false_ne_true
  | some z => exact inV_str z ws
theorem non_cell (o : Option Str) : decide (cellV o = V.non) = decide (some o = (some none : Option (Option Str))) := by cases o <;> simp [cellV]
theorem tt_if {b : Bool} {F G : Prop} (e : b = true) (h : F) : if b = true then F else G := by
  rw [e]
  exact h
theorem ff_if {b : Bool} {F G : Prop} (e : b = false) (h : G) : if b = true then F else G := by
  rw [e]
  exact h
theorem flat_strs' (ws : List Str) : (ws.map V.str).all flatV = true := by
  rw [List.all_eq_true]
  intro y hy
  obtain ⟨z, _, rfl⟩ := List.mem_map.mp hy
  rfl
theorem pass_is {ρ : Row} {f : Str} {ws : List Str} {o : Option Str} (h : ρ f = some o) : Tst.pass ρ (.is f ws) = inV (cellV o) (ws.map V.str) := by
  rw [in_cell]
  unfold Tst.pass
  rw [h]
theorem pass_non {ρ : Row} {f : Str} {o : Option Str} (h : ρ f = some o) : Tst.pass ρ (.non f) = decide (cellV o = V.non) := by
  rw [non_cell]
  unfold Tst.pass
  rw [h]
theorem flat_cell (o : Option Str) : flatV (cellV o) = true := by cases o <;> rfl
end Lw

set_option Elab.async false
set_option linter.all false
set_option maxRecDepth 100000
set_option maxHeartbeats 4000000
/-! dicts whose keys are of any plain kinds together: numbers, bools, texts, None, tuples of such -/
namespace Lw
open PySem
open PySem.Sem (wp)
abbrev Ent := NestedKey × Value × Value
def entM (w : World) (x : Ent) : DictEntry := ⟨x.1.hash w, x.2.1, x.2.2⟩
/-- the entries of the dict at d -/
def MixD (w : World) (h : Heap) (d : Addr) (xs : List Ent) : Prop :=
  ∃ o es ep, h.get? d = some o ∧ o.ExactDict ∧ o.data = .dict es ep ∧ es.toList = xs.map (entM w) ∧ (∀ x ∈ xs, NestedIs h x.1 x.2.1 ∧ x.1.depth ≤ 8) ∧ (xs.map (·.1)).Nodup
def FoundAt (xs : List Ent) (k : NestedKey) : Option Nat → Prop
  | none => k ∉ xs.map (·.1)
  | some j => ∃ kv v, xs[j]? = some (k, kv, v)
theorem ent_at {w : World} {es : Array DictEntry} {xs : List Ent} (he : es.toList = xs.map (entM w)) (i : Nat) : es[i]? = (xs[i]?).map (entM w) := by
  rw [← Array.getElem?_toList, he, List.getElem?_map]
theorem ent_size {w : World} {es : Array DictEntry} {xs : List Ent} (he : es.toList = xs.map (entM w)) : es.size = xs.length := by
  have := congrArg List.length he
  rw [Array.length_toList, List.length_map] at this
  exact this
theorem uniq_at {xs : List Ent} (hn : (xs.map (·.1)).Nodup) {i j : Nat} {k : NestedKey} {a b : Value × Value} (hi : xs[i]? = some (k, a)) (hj : xs[j]? = some (k, b)) : i = j := by
  have li : i < xs.length := (List.getElem?_eq_some_iff.mp hi).1
  have lj : j < xs.length := (List.getElem?_eq_some_iff.mp hj).1
  have e : (xs.map (·.1))[i]? = (xs.map (·.1))[j]? := by rw [List.getElem?_map, List.getElem?_map, hi, hj]; rfl
  exact (List.getElem?_inj (by rw [List.length_map]; exact li) hn).mp e
section
variable {prog : Program} {w : World} {A : Around} {E : Value → Shared → Prop} {s : Shared} {d : Addr} {o : Obj} {es : Array DictEntry} {ep : Nat} {xs : List Ent} {k : NestedKey} {key : Value}
theorem eq_mix {x : NestedKey} {u : Value} {Q : Bool → Shared → Prop} (hu : A.units + 8 < cLine) (hx : NestedIs s.heap x u) (dx : x.depth ≤ 8) (hk : NestedIs s.heap k key) (h : Q (decide (x = k)) s) : wpAny (model prog w) A (eqBool u key) Q E s :=
  eqAt_key x k A s u key hx hk (by omega) _ _ _ _ (by rw [← NestedKey.decide_eq]; exact h)
theorem tell_mix {stored : List Value} {Q : Bool → Shared → Prop} (hk : NestedIs s.heap k key) (dk : k.depth ≤ 8) (hs : ∀ v ∈ stored, ∃ x, NestedIs s.heap x v ∧ x.depth ≤ 8) (h : Q false s) : wpAny (model prog w) A (tableMayTell key stored) Q E s := by
  unfold tableMayTell
  refine wpAny_ite_split (fun _ => wpAny_pure h) fun _ => ?_
  refine wpAny_bind (quiet_key k key 8 s hk dk _ _ _ ?_)
  rw [Bool.not_true, if_neg Bool.false_ne_true]
  refine wpAny_bind (wpAny_forIn_list _ (fun rest r z => z = s ∧ r = (none, ()) ∧ ∀ v ∈ rest, ∃ x, NestedIs s.heap x v ∧ x.depth ≤ 8) _ ?_ ?_ _ _ ⟨rfl, rfl, hs⟩)
  · rintro v rest r z ⟨rfl, rfl, hr⟩
    obtain ⟨x, hx, dx⟩ := hr v List.mem_cons_self
    refine wpAny_bind (quiet_key x v 8 _ hx dx _ _ _ ?_)
    rw [Bool.not_true, if_neg Bool.false_ne_true]
    exact wpAny_pure ⟨rfl, rfl, fun y hy => hr y (List.mem_cons_of_mem _ hy)⟩
  · rintro r z ⟨rfl, rfl, _⟩
    exact wpAny_pure h
/-- the places with the key's hash are walked from the left -/
def Seen (xs : List Ent) (k : NestedKey) (was : List Nat) : Option Nat → Prop
  | none => ∀ i ∈ was, ∀ a, xs[i]? ≠ some (k, a)
  | some j => ∃ a, xs[j]? = some (k, a) ∧ j ∈ was
theorem places_mem {n : Nat} {f : Nat → Option Int} {h : Int} {i : Nat} : i ∈ placesWithHash n f h ↔ i < n ∧ (f i == some h) = true := by
  unfold placesWithHash
  rw [List.mem_filter, List.mem_range]
theorem found_of {es : Array DictEntry} (he : es.toList = xs.map (entM w)) {r : Option Nat} (h : Seen xs k (placesWithHash es.size (fun i => es[i]?.map (·.hash)) (k.hash w)) r) : FoundAt xs k r := by
  cases r with
  | none =>
    intro hin
    obtain ⟨x, hx, ex⟩ := List.mem_map.mp hin
    obtain ⟨i, li, ei⟩ := List.getElem_of_mem hx
    have eg : xs[i]? = some x := by rw [List.getElem?_eq_getElem li, ei]
    refine h i (places_mem.mpr ⟨by rw [ent_size he]; exact li, ?_⟩) x.2 ?_
    · rw [ent_at he, eg]
      show (some (x.1.hash w) == some (k.hash w)) = true
      rw [ex]; exact beq_self_eq_true _
    · rw [eg, ← ex]
  | some j =>
    obtain ⟨⟨kv, v⟩, e, _⟩ := h
    exact ⟨kv, v, e⟩
theorem place_at (he : es.toList = xs.map (entM w)) {i : Nat} (hi : i ∈ placesWithHash es.size (fun i => es[i]?.map (·.hash)) (k.hash w)) : ∃ x, xs[i]? = some x ∧ es[i]? = some (entM w x) ∧ x.1.hash w = k.hash w := by
  obtain ⟨li, hh⟩ := places_mem.mp hi
  have lx : i < xs.length := by rw [← ent_size he]; exact li
  refine ⟨xs[i], List.getElem?_eq_getElem lx, ?_⟩
  rw [ent_at he, List.getElem?_eq_getElem lx] at hh ⊢
  exact ⟨rfl, Option.some.inj (beq_iff_eq.mp hh)⟩
theorem found_walk (hu : A.units + 8 < cLine) (hk : NestedIs s.heap k key) (ho : s.heap.get? d = some o) (hd : o.data = .dict es ep) (he : es.toList = xs.map (entM w)) (hx : ∀ x ∈ xs, NestedIs s.heap x.1 x.2.1 ∧ x.1.depth ≤ 8) {Q : Option Nat → Shared → Prop}
    (h : ∀ r, FoundAt xs k r → Q r s) : wpAny (model prog w) A (dictWalkPlain d key (k.hash w) es (placesWithHash es.size (fun i => es[i]?.map (·.hash)) (k.hash w))) Q E s := by
  unfold dictWalkPlain
  refine wpAny_bind (wpAny_forIn_list _ (fun rest r z => z = s ∧ r = (none, ()) ∧ ∃ was, placesWithHash es.size (fun i => es[i]?.map (·.hash)) (k.hash w) = was ++ rest ∧ Seen xs k was none) _ ?_ ?_ _ _ ⟨rfl, rfl, [], rfl, fun i hi => absurd hi List.not_mem_nil⟩)
  · rintro i rest r z ⟨rfl, rfl, was, ew, hs⟩
    obtain ⟨x, ex, ee, eh⟩ := place_at (k := k) he (i := i) (by rw [ew]; exact List.mem_append_right _ List.mem_cons_self)
    obtain ⟨ix, dx⟩ := hx x (List.mem_of_getElem? ex)
    rw [ee]
    show wpAny _ _ (ite ((x.1.hash w == k.hash w) = true) _ _) _ _ _
    rw [if_pos (beq_iff_eq.mpr eh)]
    refine wpAny_bind (wpAny_dictEpoch ho hd (wpAny_bind (eq_mix hu ix dx hk (wpAny_bind (wpAny_dictEpoch ho hd ?_)))))
    rw [if_neg (by simp)]
    by_cases q : x.1 = k
    · rw [decide_eq_true q]
      obtain ⟨kx, kv, v⟩ := x
      cases (show kx = k from q)
      refine wpAny_bind (wpAny_rule (wpAny_pure (wpAny_pure (h (some i) ⟨kv, v, ex⟩))))
    · rw [decide_eq_false q]
      refine wpAny_bind (wpAny_rule (wpAny_pure ⟨rfl, rfl, was ++ [i], by rw [ew, List.append_assoc]; rfl, fun j hj a ej => ?_⟩))
      rcases List.mem_append.mp hj with g | g
      · exact hs j g a ej
      · cases List.mem_singleton.mp g
        rw [ex] at ej
        exact q (by rw [Option.some.inj ej])
  · rintro r z ⟨rfl, rfl, was, ew, hs⟩
    rw [List.append_nil] at ew
    exact wpAny_pure (h _ (found_of he (ew ▸ hs)))
theorem is_text {h : Heap} {x : NestedKey} {u : Value} {z : Str} (hx : NestedIs h x u) (e : u.isStr z = true) : x = .text z := by
  cases hx with
  | text y t =>
    have : y = z := by simpa [Value.isStr] using e
    rw [this]
  | _ => simp [Value.isStr] at e
theorem found_text {z : Str} {t : Tok} (hu : A.units + 8 < cLine) (ho : s.heap.get? d = some o) (hd : o.data = .dict es ep) (he : es.toList = xs.map (entM w)) (hx : ∀ x ∈ xs, NestedIs s.heap x.1 x.2.1 ∧ x.1.depth ≤ 8) {Q : Option Nat → Shared → Prop}
    (h : ∀ r, FoundAt xs (.text z) r → Q r s) : wpAny (model prog w) A (foundByValue d (.str z t) es z) Q E s := by
  unfold foundByValue
  cases ef : es.findIdx? (·.key.isStr z) with
  | none =>
    refine wpAny_pure (h none fun hin => ?_)
    obtain ⟨x, hm, ex⟩ := List.mem_map.mp hin
    obtain ⟨ix, _⟩ := hx x hm
    rw [ex] at ix
    have : x.2.1.isStr z = true := by
      generalize x.2.1 = u at ix
      cases ix with
      | text y t => simp [Value.isStr]
    rw [Array.findIdx?_eq_none_iff] at ef
    have := ef (entM w x) (Array.mem_toList_iff.mp (he ▸ List.mem_map_of_mem hm))
    simp_all [entM]
  | some i =>
    obtain ⟨li, hi, _⟩ := Array.findIdx?_eq_some_iff_getElem.mp ef
    have lx : i < xs.length := by rw [← ent_size he]; exact li
    have ex : xs[i]? = some xs[i] := List.getElem?_eq_getElem lx
    have ee := ent_at he i
    rw [ex] at ee
    generalize xs[i] = x at ex ee
    obtain ⟨ix, dx⟩ := hx x (List.mem_of_getElem? ex)
    have ei : es[i] = entM w x := by
      rw [Array.getElem?_eq_getElem li] at ee
      exact Option.some.inj ee
    rw [ei] at hi
    have ek := is_text ix hi
    dsimp only
    rw [ee]
    refine wpAny_bind (wpAny_dictEpoch ho hd (wpAny_bind (eq_mix (k := .text z) (key := .str z t) hu ix dx (.text z t) (wpAny_bind (wpAny_dictEpoch ho hd ?_)))))
    rw [if_neg (by simp), decide_eq_true ek]
    obtain ⟨kx, kv, v⟩ := x
    cases (show kx = .text z from ek)
    exact wpAny_bind (wpAny_rule (wpAny_pure (h (some i) ⟨kv, v, ex⟩)))
theorem found_mix (hu : A.units + 8 < cLine) (hk : NestedIs s.heap k key) (dk : k.depth ≤ 8) (ho : s.heap.get? d = some o) (hd : o.data = .dict es ep) (he : es.toList = xs.map (entM w)) (hx : ∀ x ∈ xs, NestedIs s.heap x.1 x.2.1 ∧ x.1.depth ≤ 8) (hn : (xs.map (·.1)).Nodup)
    {Q : Option Nat → Shared → Prop} (h : ∀ r, FoundAt xs k r → Q r s) : wpAny (model prog w) A (dictFind d key (k.hash w)) Q E s := by
  have plain := found_walk (prog := prog) (E := E) hu hk ho hd he hx h
  have stay : ∀ {v : Value}, v ∈ (placesWithHash es.size (fun i => es[i]?.map (·.hash)) (k.hash w)).filterMap (fun i => es[i]?.map (·.key)) → ∃ x, NestedIs s.heap x v ∧ x.depth ≤ 8 := by
    intro v hv
    obtain ⟨i, hi, e⟩ := List.mem_filterMap.mp hv
    obtain ⟨x, ex, ee, _⟩ := place_at (k := k) he hi
    rw [ee] at e
    obtain rfl : x.2.1 = v := Option.some.inj e
    exact ⟨x.1, hx x (List.mem_of_getElem? ex)⟩
  unfold dictFind
  (try with_reducible refine wpAny_holding ?_)
  refine wpAny_bind (wpAny_dictEntries ho hd ?_)
  have nokey : ¬ ((es.any fun e => e.key == key && e.hash != k.hash w) = true) := by
    rw [← Array.any_toList, List.any_eq_true]
    rintro ⟨e, hin, hc⟩
    rw [he] at hin
    obtain ⟨x, hm, rfl⟩ := List.mem_map.mp hin
    simp only [entM, Bool.and_eq_true, beq_iff_eq, bne_iff_ne, ne_eq] at hc
    have ix := (hx x hm).1
    rw [hc.1] at ix
    exact hc.2 (by rw [NestedIs.inj _ _ _ ix hk])
  have hk' := hk
  obtain ⟨k0, ek, hk⟩ : ∃ k0, k = k0 ∧ NestedIs s.heap k0 key := ⟨k, rfl, hk⟩
  cases hk <;> dsimp only
  all_goals (try refine wpAny_ite_split (fun _ => by subst ek; exact found_text hu ho hd he hx h) fun _ => ?_)
  all_goals refine wpAny_ite_split (fun _ => plain) fun _ => ?_
  all_goals (try rw [if_neg nokey])
  all_goals refine wpAny_ite_split (fun _ => wpAny_bind (wpAny_pure ?_)) (fun _ => wpAny_bind (tell_mix hk' dk (fun _ => stay) ?_))
  all_goals (
    rw [if_neg (by simp)]
    refine wpAny_bind (wpAny_forIn_list _ (fun rest r z => z = s ∧ ∃ hit was, r = (none, hit) ∧ placesWithHash es.size (fun i => es[i]?.map (·.hash)) (NestedKey.hash w k) = was ++ rest ∧ Seen xs k was hit) _ ?_ ?_ _ _ ⟨rfl, none, [], rfl, rfl, fun i hi => absurd hi List.not_mem_nil⟩)
    · rintro i rest r z ⟨rfl, hit, was, rfl, ew, hs⟩
      obtain ⟨x, ex, ee, eh⟩ := place_at (k := k) he (i := i) (by rw [ew]; exact List.mem_append_right _ List.mem_cons_self)
      obtain ⟨ix, dx⟩ := hx x (List.mem_of_getElem? ex)
      rw [ee]
      show wpAny _ _ (ite ((x.1.hash w == NestedKey.hash w k) = true) _ _) _ _ _
      rw [if_pos (beq_iff_eq.mpr eh)]
      refine wpAny_bind (wpAny_dictEpoch ho hd (wpAny_bind (eq_mix hu ix dx hk' (wpAny_bind (wpAny_dictEpoch ho hd ?_)))))
      rw [if_neg (by simp)]
      refine wpAny_ite_split (fun q => ?_) (fun q => ?_)
      · have q := of_decide_eq_true q
        obtain ⟨kx, kv, v⟩ := x
        obtain rfl := (show kx = k from q)
        cases hit with
        | some j =>
          obtain ⟨a, ea, hj⟩ := hs
          obtain rfl := uniq_at hn ea ex
          have nd : (placesWithHash es.size (fun i => es[i]?.map (·.hash)) (NestedKey.hash w kx)).Nodup := List.Pairwise.filter _ List.nodup_range
          rw [ew] at nd
          exact absurd rfl ((List.nodup_append.mp nd).2.2 _ hj _ List.mem_cons_self)
        | none =>
          rw [if_neg (by simp)]
          refine wpAny_bind (wpAny_rule ?_)
          exact wpAny_ite_split (fun _ => wpAny_pure (wpAny_pure (h (some i) ⟨kv, v, ex⟩))) fun _ => wpAny_pure ⟨rfl, some i, was ++ [i], rfl, by rw [ew, List.append_assoc]; rfl, ⟨(kv, v), ex, by simp⟩⟩
      · have q : ¬ x.1 = k := fun e => q (decide_eq_true e)
        refine wpAny_bind (wpAny_rule ?_)
        rw [if_neg (by simp)]
        refine wpAny_pure ⟨rfl, hit, was ++ [i], rfl, by rw [ew, List.append_assoc]; rfl, ?_⟩
        cases hit with
        | some j =>
          obtain ⟨a, ea, hj⟩ := hs
          exact ⟨a, ea, List.mem_append_left _ hj⟩
        | none =>
          intro j hj a ej
          rcases List.mem_append.mp hj with g | g
          · exact hs j g a ej
          · cases List.mem_singleton.mp g
            rw [ex] at ej
            exact q (by rw [Option.some.inj ej])
    · rintro r z ⟨rfl, hit, was, rfl, ew, hs⟩
      rw [List.append_nil] at ew
      exact wpAny_pure (h _ (found_of he (ew ▸ hs))))
theorem mix_stays {h : Heap} {f : Array DictEntry → Array DictEntry} {o' : Obj} (ho : h.get? d = some o) (hd : o.data = .dict es ep) {h' : Heap} (hs : Heap.SameBut d h h') {x : NestedKey} {u : Value} (hx : NestedIs h x u) : NestedIs h' x u :=
  NestedIs.at (fun b ob vs n hb hc => by
    refine Eq.trans (hs.2 b fun e => ?_) hb
    rw [e, ho] at hb
    cases Option.some.inj hb
    exact nomatch hd.symm.trans hc) x u hx
/-- what d[k] = v leaves -/
def SetTo (xs : List Ent) (k : NestedKey) (key v : Value) (ys : List Ent) : Prop :=
  (k ∉ xs.map (·.1) ∧ ys = xs ++ [(k, key, v)]) ∨ ∃ j kv old, xs[j]? = some (k, kv, old) ∧ ys = xs.set j (k, kv, v)
theorem set_mix (hu : A.units + 8 < cLine) (hk : NestedIs s.heap k key) (dk : k.depth ≤ 8) (hm : MixD w s.heap d xs) (hz : xs.length ≤ sizeLine) {v : Value} {Q : Unit → Shared → Prop}
    (h : ∀ h' ys, MixD w h' d ys → Heap.SameBut d s.heap h' → SetTo xs k key v ys → Q () { s with heap := h', toks := s.toks + k.draws }) : wpAny (model prog w) A (dictSet d key v) Q E s := by
  obtain ⟨o, es, ep, ho, hc, hd, he, hx, hn⟩ := hm
  unfold dictSet
  (try with_reducible refine wpAny_holding ?_)
  refine wpAny_bind (pyHash_key _ _ _ _ _ hk (by omega) ?_)
  unfold dictSetHashed
  (try with_reducible refine wpAny_holding ?_)
  refine wpAny_bind (found_mix (s := { s with toks := s.toks + k.draws }) hu hk dk ho hd he hx hn fun r hr => ?_)
  cases r with
  | none =>
    have hr : k ∉ xs.map (·.1) := hr
    refine wpAny_bind (wpAny_rule (wpAny_updateDictKeys (hz := by have := ent_size he; omega) (s := { s with toks := s.toks + k.draws }) ho hd ?_))
    have sb : Heap.SameBut d s.heap (s.heap.update d (Obj.mapDictKeys (·.push ⟨k.hash w, key, v⟩))) := Heap.SameBut.update ..
    refine h _ (xs ++ [(k, key, v)]) ⟨_, _, ep + 1, Heap.get?_update_self _ ho (Obj.isFreed_of_dict (Obj.data_mapDictKeys hd _)), hc.mapDictKeys _, Obj.data_mapDictKeys hd _, ?_, fun x hin => ?_, ?_⟩ sb (.inl ⟨hr, rfl⟩)
    · rw [Array.toList_push, he, List.map_append]; rfl
    · rcases List.mem_append.mp hin with g | g
      · exact ⟨mix_stays (f := id) (o' := o) ho hd sb (hx x g).1, (hx x g).2⟩
      · cases List.mem_singleton.mp g
        exact ⟨mix_stays (f := id) (o' := o) ho hd sb hk, dk⟩
    · rw [List.map_append, List.nodup_append]
      refine ⟨hn, by simp, fun a ha b hb e => ?_⟩
      cases List.mem_singleton.mp hb
      subst e
      exact hr ha
  | some j =>
    obtain ⟨kv, old, ej⟩ := hr
    refine wpAny_bind (wpAny_rule (wpAny_bind (wpAny_updateDict (s := { s with toks := s.toks + k.draws }) ho hd (wpAny_point ?_))))
    have sb : Heap.SameBut d s.heap (s.heap.update d (Obj.mapDict (·.modify j fun e => { e with val := v }))) := Heap.SameBut.update ..
    have ek : (xs.set j (k, kv, v)).map (·.1) = xs.map (·.1) := by
      rw [List.map_set]
      refine List.ext_getElem? fun i => ?_
      rw [List.getElem?_set]
      split
      · rename_i q; subst q
        rw [List.getElem?_map, ej, List.length_map]
        rw [if_pos (List.getElem?_eq_some_iff.mp ej).1]; rfl
      · rfl
    refine h _ (xs.set j (k, kv, v)) ⟨_, _, ep, Heap.get?_update_self _ ho (Obj.isFreed_of_dict (Obj.data_mapDict hd _)), hc.mapDict _, Obj.data_mapDict hd _, ?_, fun x hin => ?_, ek ▸ hn⟩ sb (.inr ⟨j, kv, old, ej, rfl⟩)
    · rw [Array.toList_modify, he]
      refine List.ext_getElem? fun i => ?_
      rw [List.getElem?_modify, List.map_set, List.getElem?_set, List.getElem?_map]
      by_cases q : j = i
      · subst q
        rw [if_pos rfl, ej, List.length_map, if_pos (List.getElem?_eq_some_iff.mp ej).1]
        simp [entM]
      · rw [if_neg q]
        simp [q]
    · rcases List.mem_or_eq_of_mem_set hin with g | g
      · exact ⟨mix_stays (f := id) (o' := o) ho hd sb (hx x g).1, (hx x g).2⟩
      · subst g
        obtain ⟨a, b⟩ := hx _ (List.mem_of_getElem? ej)
        exact ⟨mix_stays (f := id) (o' := o) ho hd sb a, b⟩
end
end Lw

set_option Elab.async false
set_option linter.all false
set_option maxRecDepth 100000
set_option maxHeartbeats 4000000
namespace Lw
open PySem
open PySem.Sem (wp)
section
variable {prog : Program} {w : World} {A : Around} {E : Value → Shared → Prop} {s : Shared} {d : Addr} {xs : List Ent} {k : NestedKey} {key : Value}
theorem MixD.typeIs (x : MixD w s.heap d xs) : s.TypeIs (.ref d) "dict" := let ⟨o, _, _, ho, hc, _⟩ := x; ⟨o, ho, hc.1⟩
theorem there_of {r : Option Nat} (hin : k ∈ xs.map (·.1)) (h : FoundAt xs k r) : ∃ j kv v, r = some j ∧ xs[j]? = some (k, kv, v) := by
  cases r with
  | none => exact absurd hin h
  | some j => obtain ⟨kv, v, e⟩ := h; exact ⟨j, kv, v, rfl, e⟩
theorem getitem_mix (hu : A.units + 9 < cLine) (hk : NestedIs s.heap k key) (dk : k.depth ≤ 8) (hm : MixD w s.heap d xs) (hin : k ∈ xs.map (·.1)) {Q : Value → Shared → Prop}
    (h : ∀ (j : Nat) (kv v : Value), xs[j]? = some (k, kv, v) → Q v { s with toks := s.toks + k.draws }) : wpAny (model prog w) A (getItem (.ref d) key) Q E s := by
  obtain ⟨o, es, ep, ho, hc, hd, he, hx, hn⟩ := id hm
  unfold getItem
  (try with_reducible refine wpAny_holding ?_)
  refine wpAny_bind (wpAny_sequenceKey hm.typeIs (by decide) (wpAny_bind (wpAny_callSpecial?_slot (name := Str.ofString "__getitem__") hm.typeIs slot_dict_getitem (wpAny_call_entry slot_dict_getitem hm.typeIs entry_dict_getitem ?_ (args_dict_getitem _ _)))))
  show wpAny _ _ (dictGet d key >>= _) _ _ s
  refine wpAny_bind ?_
  unfold dictGet
  (try with_reducible refine wpAny_holding ?_)
  refine wpAny_bind (pyHash_key k key A.in1 _ _ hk (by rw [Around.in1_units]; omega) (wpAny_bind (found_mix (s := { s with toks := s.toks + k.draws }) (by rw [Around.in1_units]; omega) hk dk ho hd he hx hn fun r hr => ?_)))
  obtain ⟨j, kv, v, rfl, ej⟩ := there_of hin hr
  refine wpAny_bind (wpAny_dictEntries (s := { s with toks := s.toks + k.draws }) ho hd ?_)
  rw [ent_at he, ej]
  exact wpAny_pure (wpAny_pure ⟨v, rfl, wpAny_pure (h j kv v ej)⟩)
theorem setitem_mix (hu : A.units + 9 < cLine) (hk : NestedIs s.heap k key) (dk : k.depth ≤ 8) (hm : MixD w s.heap d xs) (hz : xs.length ≤ sizeLine) {v : Value} {Q : Unit → Shared → Prop}
    (h : ∀ h' ys, MixD w h' d ys → Heap.SameBut d s.heap h' → SetTo xs k key v ys → Q () { s with heap := h', toks := s.toks + k.draws }) : wpAny (model prog w) A (setItem (.ref d) key v) Q E s := by
  unfold setItem
  (try with_reducible refine wpAny_holding ?_)
  refine wpAny_bind (wpAny_sequenceKey hm.typeIs (by decide) (wpAny_bind (wpAny_callSpecial?_slot (name := Str.ofString "__setitem__") hm.typeIs slot_dict_setitem (wpAny_call_entry slot_dict_setitem hm.typeIs entry_dict_setitem ?_ (args_dict_setitem _ _ _)))))
  show wpAny _ _ (Builtin.Dict.notOrdered "__setitem__" ⟨[.ref d, key, v], []⟩ >>= _) _ _ s
  refine wpAny_bind (wpAny_notOrdered_dict hm.typeIs ?_)
  show wpAny _ _ (dictSet d key v >>= _) _ _ s
  exact wpAny_bind (set_mix (by rw [Around.in1_units]; omega) hk dk hm hz fun h' ys m sb st => wpAny_pure ⟨.none, rfl, wpAny_pure (h h' ys m sb st)⟩)
theorem take_mix (hu : A.units + 8 < cLine) (hk : NestedIs s.heap k key) (dk : k.depth ≤ 8) (hm : MixD w s.heap d xs) (hz : xs.length ≤ sizeLine) (hin : k ∈ xs.map (·.1)) {Q : Option DictEntry → Shared → Prop}
    (h : ∀ h' (j : Nat) (kv v : Value), xs[j]? = some (k, kv, v) → MixD w h' d (xs.eraseIdx j) → Heap.SameBut d s.heap h' → Q (some (entM w (k, kv, v))) { s with heap := h', toks := s.toks + k.draws }) : wpAny (model prog w) A (Builtin.Dict.takeOut d key) Q E s := by
  obtain ⟨o, es, ep, ho, hc, hd, he, hx, hn⟩ := id hm
  unfold Builtin.Dict.takeOut
  (try with_reducible refine wpAny_holding ?_)
  refine wpAny_bind (pyHash_key k key A _ _ hk (by omega) (wpAny_bind (found_mix (s := { s with toks := s.toks + k.draws }) hu hk dk ho hd he hx hn fun r hr => ?_)))
  obtain ⟨j, kv, v, rfl, ej⟩ := there_of hin hr
  refine wpAny_bind (wpAny_dictEntries (s := { s with toks := s.toks + k.draws }) ho hd ?_)
  rw [ent_at he, ej]
  have sb : Heap.SameBut d s.heap (s.heap.update d (Obj.mapDictKeys (·.eraseIdxIfInBounds j))) := Heap.SameBut.update ..
  refine wpAny_bind (wpAny_updateDictKeys (hz := by have := ent_size he; omega) (s := { s with toks := s.toks + k.draws }) ho hd (wpAny_pure (h _ j kv v ej ⟨_, _, ep + 1, Heap.get?_update_self _ ho (Obj.isFreed_of_dict (Obj.data_mapDictKeys hd _)), hc.mapDictKeys _, Obj.data_mapDictKeys hd _, ?_, fun x hin => ?_, ?_⟩ sb)))
  · obtain ⟨l⟩ := es
    have he : l = xs.map (entM w) := he
    subst he
    rw [List.eraseIdxIfInBounds_toArray, map_eraseIdx]
  · have g := List.mem_of_mem_eraseIdx hin
    exact ⟨mix_stays (f := id) (o' := o) ho hd sb (hx x g).1, (hx x g).2⟩
  · rw [map_eraseIdx]
    exact List.Nodup.eraseIdx _ hn
end
end Lw

set_option Elab.async false
set_option linter.all false
set_option maxRecDepth 100000
set_option maxHeartbeats 4000000
namespace Lw
open PySem
open PySem.Sem (wp)
def lf : NestedKey → Leaf
  | .none => .none
  | .num i => .num i
  | .text z => .text z
  | .tup _ => .none
theorem lf_key {h : Heap} {k : NestedKey} {u : Value} (x : NestedIs h k u) (b : carriedByValue u = true) : (lf k).key = k ∧ Leaf.isOf (lf k) u = true := by
  cases x with
  | none => exact ⟨rfl, rfl⟩
  | bool e => exact ⟨rfl, decide_eq_true e.symm⟩
  | int i t => exact ⟨rfl, decide_eq_true rfl⟩
  | text z t => exact ⟨rfl, by show Value.isStrOf z (.str z t) = true; simp [Value.isStrOf]⟩
  | tup p q r t => exact absurd (show false = true from b) (by decide)
theorem is_leaf {h : Heap} {l : Leaf} {u : Value} (x : Leaf.isOf l u = true) : NestedIs h l.key u ∧ l.key.depth ≤ 8 := ⟨Leaf.nested x, by cases l <;> exact Nat.zero_le _⟩
section
variable {prog : Program} {w : World} {A : Around} {E : Value → Shared → Prop} {s : Shared} {d o : Addr} {xs : List Ent} {h : Heap}
theorem leaf_nodup {xs : List Ent} (hx : ∀ x ∈ xs, (lf x.1).key = x.1) (hn : (xs.map (·.1)).Nodup) : (xs.map fun x => lf x.1).Nodup := by
  have e : xs.map (·.1) = (xs.map fun x => lf x.1).map Leaf.key := by
    rw [List.map_map]
    exact List.map_congr_left fun x m => (hx x m).symm
  rw [e] at hn
  exact List.Pairwise.of_map Leaf.key (fun a b n q => n (by rw [q])) hn
/-- all keys carried by value: the library's dict of leaves -/
theorem MixD.leaves (x : MixD w h d xs) (hv : ∀ x ∈ xs, carriedByValue x.2.1 = true) : h.DictOf (leafKind prog w) d (xs.map fun x => (lf x.1, x.2.2)) := by
  obtain ⟨o, es, ep, ho, hc, hd, he, hx, hn⟩ := x
  refine ⟨o, es, ep, ho, hc, hd, fun e hm => ?_, ?_, ?_⟩
  · rw [← Array.mem_toList_iff, he] at hm
    obtain ⟨x, hxm, rfl⟩ := List.mem_map.mp hm
    obtain ⟨a, b⟩ := lf_key (hx x hxm).1 (hv x hxm)
    exact ⟨lf x.1, b, by show x.1.hash w = (lf x.1).key.hash w; rw [a]⟩
  · rw [he]
    clear he hn
    induction xs with
    | nil => exact .nil
    | cons x r ih => exact .cons (lf_key (hx x List.mem_cons_self).1 (hv x List.mem_cons_self)).2 rfl (ih (fun y m => hv y (List.mem_cons_of_mem _ m)) (fun y m => hx y (List.mem_cons_of_mem _ m)))
  · rw [List.map_map]
    exact leaf_nodup (fun x m => (lf_key (hx x m).1 (hv x m)).1) hn
/-- and back: the keys are some values that are these keys -/
theorem mix_of {kvs : List (Leaf × Value)} (x : h.DictOf (leafKind prog w) d kvs) : ∃ xs, MixD w h d xs ∧ xs.map (fun x => (x.1, x.2.2)) = kvs.map (fun p => (p.1.key, p.2)) ∧ ∀ x ∈ xs, carriedByValue x.2.1 = true := by
  obtain ⟨o, es, ep, ho, hc, hd, hk, hp, hn⟩ := x
  have go : ∀ {l : List DictEntry} {kvs : List (Leaf × Value)}, (∀ e ∈ l, ∃ k, (leafKind prog w).is k e.key = true ∧ e.hash = (leafKind prog w).hash k) → PySem.Pairs (leafKind prog w) l kvs →
      ∃ xs : List Ent, l = xs.map (entM w) ∧ (∀ x ∈ xs, (NestedIs h x.1 x.2.1 ∧ x.1.depth ≤ 8) ∧ carriedByValue x.2.1 = true) ∧ xs.map (fun x => (x.1, x.2.2)) = kvs.map (fun p => (p.1.key, p.2)) := by
    intro l kvs hk hp
    induction hp with
    | nil => exact ⟨[], rfl, fun x m => absurd m List.not_mem_nil, rfl⟩
    | @cons e kv l kvs a b _ ih =>
      obtain ⟨xs, e1, e2, e3⟩ := ih fun e m => hk e (List.mem_cons_of_mem _ m)
      obtain ⟨k, k1, k2⟩ := hk e List.mem_cons_self
      have ek := (leafKind prog w).inj _ _ _ k1 a
      subst ek
      refine ⟨(kv.1.key, e.key, e.val) :: xs, ?_, fun x m => ?_, ?_⟩
      · rw [List.map_cons, ← e1]
        obtain ⟨eh, ek, ev⟩ := e
        exact congrArg (· :: l) (by show DictEntry.mk eh ek ev = ⟨kv.1.key.hash w, ek, ev⟩; rw [show eh = kv.1.key.hash w from k2])
      · rcases List.mem_cons.mp m with g | g
        · subst g
          exact ⟨is_leaf a, Leaf.byValue a⟩
        · exact e2 x g
      · rw [List.map_cons, List.map_cons, e3, b]
  obtain ⟨xs, e1, e2, e3⟩ := go (fun e m => hk e (Array.mem_toList_iff.mp m)) hp
  refine ⟨xs, ⟨o, es, ep, ho, hc, hd, e1, fun x m => (e2 x m).1, ?_⟩, e3, fun x m => (e2 x m).2⟩
  have e : xs.map (·.1) = (kvs.map (·.1)).map Leaf.key := by
    have := congrArg (List.map Prod.fst) e3
    rw [List.map_map, List.map_map] at this
    rw [List.map_map]
    exact this
  rw [e]
  exact List.Pairwise.map _ (fun a b n q => n (Leaf.key_inj q)) hn
/-- keys that may be copied: carried by value, or a tuple that no other key hashes like -/
def Apart (w : World) (s : Shared) (xs : List Ent) : Prop := ∀ x ∈ xs, carriedByValue x.2.1 = true ∨ ∃ a, x.2.1 = .ref a ∧ s.TypeIs (.ref a) "tuple" ∧ (xs.filter fun y => y.1.hash w == x.1.hash w).length ≤ 1
theorem apart_key {es : Array DictEntry} (he : es.toList = xs.map (entM w)) (ap : Apart w s xs) : ∀ e ∈ es.toList, KeyApart s es e := by
  intro e m
  have m' := m
  rw [he] at m'
  obtain ⟨x, hx, rfl⟩ := List.mem_map.mp m'
  rcases ap x hx with g | ⟨a, g1, g2, g3⟩
  · exact .inl g
  · refine .inr ⟨a, g1, g2, ?_⟩
    have e1 : (es.filter (·.hash == (entM w x).hash)).toList = (xs.filter fun y => y.1.hash w == x.1.hash w).map (entM w) := by
      rw [Array.toList_filter, he, List.filter_map]
      rfl
    have e2 := congrArg List.length e1
    rw [Array.length_toList, List.length_map] at e2
    omega
theorem merge_mix {nm : String} (hdo : d ≠ o) (hoS : (o == sysModules) = false) (hd : MixD w s.heap d []) (ho : MixD w s.heap o xs) (ap : Apart w s xs) (hz : xs.length ≤ sizeLine) {Q : Unit → Shared → Prop}
    (hQ : ∀ h' ys, MixD w h' d ys → ys.map (fun x => (x.1, x.2.2)) = xs.map (fun x => (x.1, x.2.2)) → (ys = xs ∨ ∀ y ∈ ys, carriedByValue y.2.1 = true) → Heap.SameBut d s.heap h' → Q () { s with heap := h' }) : wpAny (model prog w) A (Builtin.Dict.mergeDict nm d o) Q E s := by
  by_cases hv : ∀ x ∈ xs, carriedByValue x.2.1 = true
  · refine wpAny_mergeDict (knd := leafKind prog w) (kvs := []) hdo hoS (hd.leaves fun x m => absurd m List.not_mem_nil) (ho.leaves hv) (fun h' a b sb => ?_) (by rw [List.length_map]; simpa using hz)
    rw [merged_nil_of_nodup _ (let ⟨_, _, _, _, _, _, _, _, n⟩ := b; n)] at a
    obtain ⟨ys, m1, m2, m3⟩ := mix_of a
    refine hQ h' ys m1 ?_ (.inr m3) sb
    rw [m2, List.map_map]
    obtain ⟨_, _, _, _, _, _, _, hx, _⟩ := ho
    exact List.map_congr_left fun x m => Prod.ext (lf_key (hx x m).1 (hv x m)).1 rfl
  · obtain ⟨od, esd, epd, hod, hcd, hdd, hed, hxd, hnd⟩ := id hd
    obtain ⟨oo, eso, epo, hoo, hco, hdo', heo, hxo, hno⟩ := id ho
    have few : ¬ ((decide (eso.size ≤ 8) && eso.all fun e => (keyPart e.key).isSome) = true) := by
      intro q
      rw [Bool.and_eq_true] at q
      refine hv fun x m => ?_
      have q2 := q.2
      rw [← Array.all_toList, List.all_eq_true, heo] at q2
      have := q2 _ (List.mem_map_of_mem m)
      cases hk : x.2.1 with
      | ref a => rw [show (entM w x).key = x.2.1 from rfl, hk] at this; exact absurd (show false = true from this) (by decide)
      | _ => rfl
    unfold Builtin.Dict.mergeDict
    rw [if_neg (by simpa using hdo)]
    unfold Builtin.Dict.showsAll
    rw [if_neg (by rw [hoS]; exact Bool.false_ne_true)]
    refine wpAny_bind (wpAny_pure (wpAny_bind (wpAny_dictEntries hoo hdo' ?_)))
    dsimp only
    rw [if_pos (by rw [Bool.not_eq_true] at few; rw [few]; rfl)]
    refine wpAny_bind (wpAny_dictEntries hod hdd ?_)
    have e0 : esd = #[] := Array.toList_inj.mp hed
    rw [if_pos (by rw [e0]; rfl)]
    refine wpAny_bind (wpAny_entriesForEmpty_raw hoo hdo' (apart_key heo ap) ?_)
    have ne : eso.isEmpty = false := by
      cases q : eso.isEmpty with
      | false => rfl
      | true =>
        exfalso
        rw [Array.isEmpty_iff.mp q] at heo
        cases xs with
        | nil => exact hv fun x m => absurd m List.not_mem_nil
        | cons _ _ => exact nomatch heo
    rw [ne, if_pos (by rfl)]
    have sb : Heap.SameBut d s.heap (s.heap.update d (Obj.mapDictKeys fun _ => eso)) := Heap.SameBut.update ..
    refine wpAny_bind (wpAny_updateDictKeysTo hod hdd (wpAny_pure (hQ _ xs ⟨_, _, epd + 1, Heap.get?_update_self _ hod (Obj.isFreed_of_dict (Obj.data_mapDictKeys hdd _)), hcd.mapDictKeys _, Obj.data_mapDictKeys hdd _, heo, fun x m => ⟨mix_stays (f := id) (o' := od) hod hdd sb (hxo x m).1, (hxo x m).2⟩, hno⟩ rfl (.inl rfl) sb)) (by rw [ent_size heo]; omega))
end
end Lw

set_option Elab.async false
set_option linter.all false
set_option maxRecDepth 100000
set_option maxHeartbeats 4000000
namespace Lw
open PySem
open PySem.Sem (wp)
section
variable {prog : Program} {w : World} {A : Around} {E : Value → Shared → Prop} {s : Shared} {d o : Addr} {xs : List Ent} {h : Heap}
theorem MixD.lt (x : MixD w h d xs) : d < h.objs.size := let ⟨_, _, _, e, _⟩ := x; Heap.lt_size e
theorem MixD.kept {h' : Heap} (x : MixD w h d xs) (k : ∀ b o, h.get? b = some o → h'.get? b = some o) : MixD w h' d xs := by
  obtain ⟨o, es, ep, ho, hc, hd, he, hx, hn⟩ := x
  exact ⟨o, es, ep, k _ _ ho, hc, hd, he, fun x m => ⟨NestedIs.at (fun b ob _ _ e _ => k b ob e) _ _ (hx x m).1, (hx x m).2⟩, hn⟩
theorem MixD.new (h : Heap) : MixD w (h.push { cls := .type "dict", data := .dict #[] }) h.objs.size [] := ⟨_, #[], _, Heap.get?_push_size _ rfl, ⟨rfl, rfl, rfl⟩, rfl, rfl, fun x m => absurd m List.not_mem_nil, List.nodup_nil⟩
theorem call_dict_mix (hoS : (o == sysModules) = false) (ho : MixD w s.heap o xs) (ap : Apart w s xs) (hz : xs.length ≤ sizeLine) {Q : Value → Shared → Prop}
    (hQ : ∀ h' ys, MixD w h' s.heap.objs.size ys → ys.map (fun x => (x.1, x.2.2)) = xs.map (fun x => (x.1, x.2.2)) → (ys = xs ∨ ∀ y ∈ ys, carriedByValue y.2.1 = true) → (∀ b q, s.heap.get? b = some q → h'.get? b = some q) → Q (.ref s.heap.objs.size) { s with heap := h' }) :
    wpAny (model prog w) A (call (.type "dict") [.ref o]) Q E s := by
  refine callType_codes (Q₁ := fun p z => p = .ref s.heap.objs.size ∧ z = { s with heap := s.heap.push { cls := .type "dict", data := .dict #[] } }) F.kt_called_dict (F.kt_typeCall_dict_1 _) F.entry_dict_init (kt_code_dict_new _ ⟨rfl, rfl⟩) ?_
  rintro p z ⟨rfl, rfl⟩
  have nw : MixD w (s.heap.push { cls := .type "dict", data := .dict #[] }) s.heap.objs.size [] := .new s.heap
  have kp : ∀ b q, s.heap.get? b = some q → (s.heap.push { cls := .type "dict", data := .dict #[] }).get? b = some q := fun b q e => Heap.get?_push_of_some _ e
  have o1 : MixD w (s.heap.push { cls := .type "dict", data := .dict #[] }) o xs := ho.kept kp
  have ne : s.heap.objs.size ≠ o := Nat.ne_of_gt ho.lt
  refine ⟨nw.typeIs, F.args_dict_init_2 _ _, ?_⟩
  (unfold Builtin.«dict.__init__»); refine wpAny_bind ?_
  (unfold Builtin.Dict.selfAndRest); refine wpAny_bind (wpAny_notOrdered_dict nw.typeIs ?_)
  show wpAny _ _ (pure (s.heap.objs.size, [Value.ref o])) _ _ _
  refine wpAny_pure ?_
  show wpAny _ _ (Builtin.Dict.updateFrom "dict.__init__" s.heap.objs.size (.ref o) [] .none) _ _ _
  (unfold Builtin.Dict.updateFrom); refine wpAny_bind (wpAny_typeOf o1.typeIs ?_)
  rw [if_neg (by decide)]
  refine wpAny_bind ?_
  (unfold Builtin.Dict.merge); refine wpAny_bind ?_
  (unfold Builtin.Dict.readDirectly); refine wpAny_bind (wpAny_isInstance o1.typeIs isSubtype_dict_dict ?_)
  rw [Bool.not_true, if_neg Bool.false_ne_true]
  refine wpAny_bind (wpAny_specialOf o1.typeIs F.slot_dict_iter.lookup (wpAny_pure ?_))
  rw [beq_self_eq_true, if_pos rfl]
  refine wpAny_bind (wpAny_pure (merge_mix (s := { s with heap := s.heap.push { cls := .type "dict", data := .dict #[] } }) ne hoS nw o1 ?_ hz fun h' ys m1 m2 m3 sb => ?_))
  · intro x m
    rcases ap x m with g | ⟨a, g1, g2, g3⟩
    · exact .inl g
    · obtain ⟨oa, e1, e2⟩ := g2
      exact .inr ⟨a, g1, ⟨oa, kp _ _ e1, e2⟩, g3⟩
  · show wpAny _ _ (Builtin.Dict.addKeywords _ [] >>= _) _ _ _
    refine wpAny_bind (wpAny_pure (wpAny_pure ?_))
    exact ⟨rfl, hQ h' ys m1 m2 m3 fun b q e => (sb.2 b (Nat.ne_of_lt (Heap.lt_size e))).trans (kp _ _ e)⟩
/-- d.pop(k), there -/
theorem pop_mix {k : NestedKey} {key : Value} (hd : (d == sysModules) = false) (hu : A.units + 9 < cLine) (hk : NestedIs s.heap k key) (dk : k.depth ≤ 8) (hm : MixD w s.heap d xs) (hz : xs.length ≤ sizeLine) (hin : k ∈ xs.map (·.1)) {Q : Value → Shared → Prop}
    (h : ∀ h' (j : Nat) (kv v : Value), xs[j]? = some (k, kv, v) → MixD w h' d (xs.eraseIdx j) → Heap.SameBut d s.heap h' → Q v { s with heap := h', toks := s.toks + k.draws }) : wpAny (model prog w) A (call (.builtin "dict.pop") [.ref d, key]) Q E s := by
  refine call_meetsIn F.slot_dict_pop hm.typeIs F.entry_dict_pop (F.args_dict_pop_2 _ _) (S := fun A' R z => A' = A ∧ z = s ∧ ∀ h' (j : Nat) (kv v : Value), xs[j]? = some (k, kv, v) → MixD w h' d (xs.eraseIdx j) → Heap.SameBut d s.heap h' → R (.ok (.ret v)) { s with heap := h', toks := s.toks + k.draws }) (.of_wp fun A' R z hS => ?_) ⟨rfl, rfl, h⟩
  obtain ⟨rfl, rfl, hR⟩ := hS
  obtain ⟨ob, es, ep, ho, hc, hdat, he, hx, hn⟩ := id hm
  (unfold Builtin.«dict.pop»); refine wpAny_bind ?_
  (unfold Builtin.Dict.keyAndDefault); refine wpAny_bind (wpAny_notOrdered_dict hm.typeIs ?_)
  show wpAny _ _ (pure (d, key, none)) _ _ _
  refine wpAny_pure ?_
  have ne : es.isEmpty = false := by
    cases q : es.isEmpty with
    | false => rfl
    | true =>
      exfalso
      rw [Array.isEmpty_iff.mp q] at he
      cases xs with
      | nil => exact absurd hin List.not_mem_nil
      | cons _ _ => exact nomatch he
  have fin : wpAny (model prog w) A'.in1 (Builtin.Dict.takeOut d key) (fun r z' => ∃ h' j kv v, r = some (entM w (k, kv, v)) ∧ xs[j]? = some (k, kv, v) ∧ MixD w h' d (xs.eraseIdx j) ∧ Heap.SameBut d z.heap h' ∧ z' = { z with heap := h', toks := z.toks + k.draws }) (fun e s' => R (.error e) s') z :=
    take_mix (by rw [Around.in1_units]; omega) hk dk hm hz hin fun h' j kv v e1 e2 e3 => ⟨h', j, kv, v, rfl, e1, e2, e3, rfl⟩
  dsimp only
  refine wpAny_ite_split (fun _ => wpAny_bind (wpAny_pure ?_)) (fun _ => wpAny_bind (wpAny_dictEntries ho hdat (wpAny_bind (wpAny_pure ?_))))
  · rw [if_neg Bool.false_ne_true]
    refine wpAny_bind (wpAny_mono fin (fun r z' hr => ?_) fun _ _ e => e)
    obtain ⟨h', j, kv, v, rfl, e1, e2, e3, rfl⟩ := hr
    rw [if_neg (by simp)]
    exact wpAny_bind (wpAny_letGo (wpAny_pure ⟨v, rfl, hR h' j kv v e1 e2 e3⟩))
  · rw [ne, if_neg Bool.false_ne_true]
    refine wpAny_bind (wpAny_mono fin (fun r z' hr => ?_) fun _ _ e => e)
    obtain ⟨h', j, kv, v, rfl, e1, e2, e3, rfl⟩ := hr
    rw [if_neg (by simp)]
    exact wpAny_bind (wpAny_letGo (wpAny_pure ⟨v, rfl, hR h' j kv v e1 e2 e3⟩))
end
end Lw

set_option Elab.async false
set_option linter.all false
set_option maxRecDepth 100000
set_option maxHeartbeats 4000000
/-! dicts of mixed keys within the heap of a proof -/
namespace Lw
open PySem PySem.Spec PyProof.Rows L2
/-- a key as it is written -/
inductive MK where
  | non
  | bl (b : Bool)
  | int (i : Int)
  | str (z : Str)
  | unit (a : Addr)
def MK.v : MK → V
  | .non => .non
  | .bl b => .bl b
  | .int i => .int i
  | .str z => .str z
  | .unit a => .ref a
def MK.nk : MK → NestedKey
  | .non => .none
  | .bl b => .num (if b = true then 1 else 0)
  | .int i => .num i
  | .str z => .text z
  | .unit _ => .tup []
def MK.byV : MK → Bool
  | .unit _ => false
  | _ => true
/-- where a key is (), it stands there -/
def KOk (H : Hp) (k : MK) : Prop := ∀ e, k = .unit e → H e = some (.tup [])
abbrev Mkv := MK × V
def UOk (H : Hp) (kvs : List Mkv) : Prop := ∀ p ∈ kvs, KOk H p.1
def MRel (p : Mkv) (x : Ent) : Prop := x.1 = p.1.nk ∧ RelV p.1.v x.2.1 ∧ RelV p.2 x.2.2
def MEnt (w : World) (p : Mkv) (e : DictEntry) : Prop := e.hash = p.1.nk.hash w ∧ RelV p.1.v e.key ∧ RelV p.2 e.val
def DObj (w : World) (a : Addr) (kvs : List Mkv) (h : Heap) : Prop :=
  kvs.length ≤ sizeLine ∧ (a == sysModules) = false ∧ (kvs.map fun p => p.1.nk).Nodup ∧ ∃ o es ep, h.get? a = some o ∧ o.ExactDict ∧ o.data = .dict es ep ∧ Paired (MEnt w) kvs es.toList
def MixO (w : World) (a : Addr) (kvs : List Mkv) : HO := .ext (DObj w a kvs)
theorem nk_depth (k : MK) : k.nk.depth ≤ 8 := by cases k <;> first | exact Nat.zero_le _ | exact (by decide : (NestedKey.tup []).depth ≤ 8)
theorem nk_is {P : Program} {w : World} {H : Hp} {h : Heap} {k : MK} {u : Value} (ok : HOk P w H h) (ko : KOk H k) (r : RelV k.v u) : NestedIs h k.nk u := by
  cases k with
  | non => cases (show u = Value.none from r); exact .none
  | bl b => cases (show u = Value.bool b from r); exact .bool rfl
  | int i => obtain ⟨t, rfl⟩ := (show ∃ t, u = Value.int i t from r); exact .int i t
  | str z => obtain ⟨t, rfl⟩ := (show ∃ t, u = Value.str z t from r); exact .text z t
  | unit a =>
    cases (show u = Value.ref a from r)
    obtain ⟨_, its, rv, o, h1, h2, n, h3⟩ := (show ObjOk P w H h a (.tup []) from ok a _ (ko a rfl))
    cases rv
    exact .tup h1 h2 h3 .nil
theorem byV_is {k : MK} {u : Value} (r : RelV k.v u) : carriedByValue u = k.byV := by
  cases k with
  | non => cases (show u = Value.none from r); rfl
  | bl b => cases (show u = Value.bool b from r); rfl
  | int i => obtain ⟨t, rfl⟩ := (show ∃ t, u = Value.int i t from r); rfl
  | str z => obtain ⟨t, rfl⟩ := (show ∃ t, u = Value.str z t from r); rfl
  | unit a => cases (show u = Value.ref a from r); rfl
theorem paired_nk {kvs : List Mkv} {xs : List Ent} (p : Paired MRel kvs xs) : xs.map (·.1) = kvs.map fun p => p.1.nk := by
  induction p with
  | nil => rfl
  | cons a _ ih => rw [List.map_cons, List.map_cons, ih, a.1]
theorem paired_at {α β : Type} {F : α → β → Prop} {as : List α} {bs : List β} (p : Paired F as bs) : ∀ {i : Nat} {b : β}, bs[i]? = some b → ∃ a, as[i]? = some a ∧ F a b := by
  induction p with
  | nil => intro i b e; simp at e
  | cons r _ ih =>
    intro i b e
    cases i with
    | zero => cases e; exact ⟨_, rfl, r⟩
    | succ i => exact ih e
theorem paired_mem {α β : Type} {F : α → β → Prop} {as : List α} {bs : List β} (p : Paired F as bs) {b : β} (m : b ∈ bs) : ∃ a ∈ as, F a b := by
  obtain ⟨i, li, ei⟩ := List.getElem_of_mem m
  obtain ⟨a, ea, r⟩ := paired_at p (i := i) (b := b) (by rw [List.getElem?_eq_getElem li, ei])
  exact ⟨a, List.mem_of_getElem? ea, r⟩
theorem paired_len {α β : Type} {F : α → β → Prop} {as : List α} {bs : List β} (p : Paired F as bs) : as.length = bs.length := Paired.length p
theorem paired_erase {α β : Type} {F : α → β → Prop} {as : List α} {bs : List β} (p : Paired F as bs) : ∀ j, Paired F (as.eraseIdx j) (bs.eraseIdx j) := by
  induction p with
  | nil => intro j; exact .nil
  | cons r t ih =>
    intro j
    cases j with
    | zero => exact t
    | succ j => exact .cons r (ih j)
theorem paired_set {α β : Type} {F : α → β → Prop} {as : List α} {bs : List β} (p : Paired F as bs) {a : α} {b : β} (r : F a b) : ∀ j, Paired F (as.set j a) (bs.set j b) := by
  induction p with
  | nil => intro j; exact .nil
  | cons q t ih =>
    intro j
    cases j with
    | zero => exact .cons r t
    | succ j => exact .cons q (ih j)
theorem paired_snoc {α β : Type} {F : α → β → Prop} {as : List α} {bs : List β} (p : Paired F as bs) {a : α} {b : β} (r : F a b) : Paired F (as ++ [a]) (bs ++ [b]) := by
  induction p with
  | nil => exact .cons r .nil
  | cons q t ih => exact .cons q ih
section
variable {P : Program} {w : World} {H : Hp} {h : Heap} {a : Addr} {kvs : List Mkv}
theorem mix_open (ok : HOk P w H h) (e : H a = some (MixO w a kvs)) (u : UOk H kvs) : kvs.length ≤ sizeLine ∧ (a == sysModules) = false ∧ ∃ xs, MixD w h a xs ∧ Paired MRel kvs xs := by
  obtain ⟨⟨l, ns, nd, o, es, ep, ho, hc, hd, pr⟩, _⟩ := (show ObjOk P w H h a (MixO w a kvs) from ok a _ e)
  refine ⟨l, ns, ?_⟩
  have go : ∀ {kvs : List Mkv} {es : List DictEntry}, UOk H kvs → Paired (MEnt w) kvs es → ∃ xs : List Ent, es = xs.map (entM w) ∧ Paired MRel kvs xs ∧ ∀ x ∈ xs, NestedIs h x.1 x.2.1 ∧ x.1.depth ≤ 8 := by
    intro kvs es u pr
    induction pr with
    | nil => exact ⟨[], rfl, .nil, fun x m => absurd m List.not_mem_nil⟩
    | @cons p e ps es r _ ih =>
      obtain ⟨xs, e1, e2, e3⟩ := ih fun q m => u q (List.mem_cons_of_mem _ m)
      obtain ⟨eh, ek, ev⟩ := e
      obtain ⟨r1, r2, r3⟩ := r
      refine ⟨(p.1.nk, ek, ev) :: xs, ?_, .cons ⟨rfl, r2, r3⟩ e2, fun x m => ?_⟩
      · rw [List.map_cons, ← e1]
        exact congrArg (· :: es) (by show DictEntry.mk eh ek ev = ⟨p.1.nk.hash w, ek, ev⟩; rw [show eh = p.1.nk.hash w from r1])
      · rcases List.mem_cons.mp m with g | g
        · subst g
          exact ⟨nk_is ok (u p List.mem_cons_self) r2, nk_depth p.1⟩
        · exact e3 x g
  obtain ⟨xs, e1, e2, e3⟩ := go u pr
  exact ⟨xs, ⟨o, es, ep, ho, hc, hd, e1, e3, by rw [paired_nk e2]; exact nd⟩, e2⟩
theorem mix_close {P' : Program} {H' : Hp} {xs : List Ent} (l : kvs.length ≤ sizeLine) (ns : (a == sysModules) = false) (m : MixD w h a xs) (pr : Paired MRel kvs xs) : ObjOk P' w H' h a (MixO w a kvs) := by
  obtain ⟨o, es, ep, ho, hc, hd, he, hx, hn⟩ := m
  have pe : Paired (MEnt w) kvs es.toList := by
    rw [he]
    clear he hx hn
    induction pr with
    | nil => exact .nil
    | cons r _ ih => exact .cons ⟨by show NestedKey.hash w _ = _; rw [r.1], r.2.1, r.2.2⟩ (ih (by rw [List.length_cons] at l; omega))
  refine ⟨⟨l, ns, by rw [← paired_nk pr]; exact hn, o, es, ep, ho, hc, hd, pe⟩, ⟨o, ho⟩, fun h1 h2 p k => ?_⟩
  obtain ⟨q1, q2, q3, o2, es2, ep2, g1, g2⟩ := p
  exact ⟨q1, q2, q3, o2, es2, ep2, k _ g1, g2⟩
end
end Lw

set_option Elab.async false
set_option linter.all false
set_option maxRecDepth 100000
set_option maxHeartbeats 4000000
namespace Lw
open PySem PySem.Spec PyProof.Rows L2
section
variable {X : Cx} {pl : List (Addr × Obj)} {σ : L2.St} {H : Hp} {s : Shared} {a : Addr} {kvs : List Mkv}
/-- what is tracked may be told otherwise -/
def Ghost (X : Cx) (H H' : Hp) : Prop := ∀ (pl : List (Addr × Obj)) (σ : L2.St) (s : Shared), Inv X pl σ H s → Inv X pl σ H' s
theorem mix_write {h' : Heap} {t' : Nat} {kvs' : List Mkv} {xs' : List Ent} (J : Inv X pl σ H s) (e : H a = some (MixO X.w a kvs)) (l : kvs'.length ≤ sizeLine) (ns : (a == sysModules) = false) (m : MixD X.w h' a xs') (pr : Paired MRel kvs' xs') (sb : Heap.SameBut a s.heap h') :
    Inv X pl σ (upd H a (MixO X.w a kvs')) { s with heap := h', toks := t' } := by
  obtain ⟨o, _, _, eo, _⟩ := id m
  exact J.write (x := a) (e := a) (by rw [e]; exact True.intro) (.inl rfl) (fun b u hb hu => (sb.2 b hb).trans hu) ⟨o, eo⟩ (mix_close l ns m pr)
/-- len(d) -/
def rLenM (w : World) : List V → Hp → VK → Prop := fun vs H Q => ∃ (a : Addr) (kvs : List Mkv), vs = [.ref a] ∧ H a = some (MixO w a kvs) ∧ Q (.int kvs.length) H
theorem call_lenM : CallR X (.builtin "len") (rLenM X.w) := by
  intro pl s σ H vs us Q J r h
  obtain ⟨a, kvs, rfl, e, q⟩ := h
  rw [Vals.ref1 r]
  obtain ⟨⟨l, ns, _, o, es, ep, ho, hc, hd, pr⟩, _⟩ := (show ObjOk X.prog X.w H s.heap a (MixO X.w a kvs) from J.hok a _ e)
  have el : kvs.length = es.size := by rw [paired_len pr, Array.length_toList]
  refine PyProof.Rows.call_len_slot (n := es.size) (T := "dict") ⟨o, ho, hc.1⟩ F.slot_dict_len (fun Q' hq => PySem.call_len_raw ns ⟨o, ho, hc, hd⟩ hq) (by omega) (by rw [sizeLine_eq] at l; omega) ?_
  rw [← el]
  exact ⟨.int kvs.length, H, J.tok _, ⟨_, rfl⟩, q⟩
/-- list(d): the keys -/
def rListM (w : World) : List V → Hp → VK → Prop := fun vs H Q => ∃ (a : Addr) (kvs : List Mkv), vs = [.ref a] ∧ H a = some (MixO w a kvs) ∧ ∀ p, H p = none → Q (.ref p) (upd H p (.lst (kvs.map fun q => q.1.v)))
theorem call_listM (hc : X.calm = true) : CallR X (.type "list") (rListM X.w) := by
  intro pl s σ H vs us Q J r h
  obtain ⟨a, kvs, rfl, e, q⟩ := h
  rw [Vals.ref1 r]
  obtain ⟨⟨l, ns, _, o, es, ep, ho, hx, hd, pr⟩, _⟩ := (show ObjOk X.prog X.w H s.heap a (MixO X.w a kvs) from J.hok a _ e)
  have el : kvs.length = es.size := by rw [paired_len pr, Array.length_toList]
  refine PySem.W.kdl_call (PySem.KdlSrc.rawDict ns) (J.ok.hd hc) ⟨o, ho, hx, hd⟩ (by omega) fun h' tk out c' kp eS it => ?_
  refine ⟨.ref s.heap.objs.size, upd H s.heap.objs.size (.lst (kvs.map fun q => q.1.v)), J.laid kp (Nat.le_refl _) (show ObjOk X.prog X.w _ _ _ (.lst _) from ⟨by rw [List.length_map]; exact l, out.toList, c', ?_, by rw [Array.toArray_toList]; exact eS⟩), rfl, q _ (J.hok.fresh (Nat.le_refl _))⟩
  have lo : out.toList.length = out.size := by simp
  refine vals_of_at (by rw [List.length_map, lo, it.1, el]) fun j x u h1 h2 => ?_
  obtain ⟨lt, hv⟩ := it.2 j u (by rw [← Array.getElem?_toList]; exact h2)
  obtain ⟨p, ej, r⟩ := paired_at pr (i := j) (b := es[j]) (by rw [Array.getElem?_toList]; exact Array.getElem?_eq_getElem lt)
  rw [List.getElem?_map, ej] at h1
  cases h1
  rw [hv]
  exact r.2.1
/-- keys whose copy asks no == -/
def ApartM (w : World) (kvs : List Mkv) : Prop := ∀ p ∈ kvs, p.1.byV = true ∨ (kvs.filter fun q => q.1.nk.hash w == p.1.nk.hash w).length ≤ 1
/-- dict(d) -/
def rDictM (w : World) : List V → Hp → VK → Prop := fun vs H Q => ∃ (a : Addr) (kvs : List Mkv), vs = [.ref a] ∧ H a = some (MixO w a kvs) ∧ UOk H kvs ∧ ApartM w kvs ∧
  ∀ (p : Addr) (kvs' : List Mkv), H p = none → kvs'.map (fun q => (q.1.nk, q.2)) = kvs.map (fun q => (q.1.nk, q.2)) → (∀ q ∈ kvs', ∀ e, q.1 = .unit e → ∃ q0 ∈ kvs, q0.1 = .unit e) → Q (.ref p) (upd H p (MixO w p kvs'))
theorem mk_of {h : Heap} {x : NestedKey} {u : Value} (i : NestedIs h x u) (b : carriedByValue u = true) : ∃ k : MK, k.byV = true ∧ k.nk = x ∧ RelV k.v u := by
  cases i with
  | none => exact ⟨.non, rfl, rfl, rfl⟩
  | @bool c m e => exact ⟨.bl c, rfl, by show NestedKey.num _ = NestedKey.num m; rw [e], rfl⟩
  | int m t => exact ⟨.int m, rfl, rfl, ⟨t, rfl⟩⟩
  | text z t => exact ⟨.str z, rfl, rfl, ⟨t, rfl⟩⟩
  | tup p q r t => exact absurd (show false = true from b) (by decide)
theorem rekeyed {h : Heap} : ∀ {kvs : List Mkv} {xs ys : List Ent}, Paired MRel kvs xs → (∀ y ∈ ys, NestedIs h y.1 y.2.1) → (∀ y ∈ ys, carriedByValue y.2.1 = true) → ys.map (fun x => (x.1, x.2.2)) = xs.map (fun x => (x.1, x.2.2)) →
    ∃ kvs' : List Mkv, Paired MRel kvs' ys ∧ kvs'.map (fun q => (q.1.nk, q.2)) = kvs.map (fun q => (q.1.nk, q.2)) ∧ ∀ p ∈ kvs', p.1.byV = true
  | _, _, ys, .nil, _, _, e => by
    cases ys with
    | nil => exact ⟨[], .nil, rfl, fun p m => absurd m List.not_mem_nil⟩
    | cons _ _ => exact nomatch e
  | _, _, ys, .cons (a := p) r t, hi, hv, e => by
    cases ys with
    | nil => exact nomatch e
    | cons y ys =>
      obtain ⟨e1, e2⟩ := List.cons.inj e
      obtain ⟨ks, k1, k2, k3⟩ := rekeyed t (fun z m => hi z (List.mem_cons_of_mem _ m)) (fun z m => hv z (List.mem_cons_of_mem _ m)) e2
      obtain ⟨k, b1, b2, b3⟩ := mk_of (hi y List.mem_cons_self) (hv y List.mem_cons_self)
      injection e1 with e3 e4
      refine ⟨(k, p.2) :: ks, .cons ⟨b2.symm, b3, by rw [e4]; exact r.2.2⟩ k1, ?_, fun q m => ?_⟩
      · rw [List.map_cons, List.map_cons, k2, b2, e3, r.1]
      · rcases List.mem_cons.mp m with g | g
        · rw [g]; exact b1
        · exact k3 q g
theorem byV_uok {H : Hp} {kvs : List Mkv} (h : ∀ p ∈ kvs, p.1.byV = true) : UOk H kvs := fun p m e ee => by
  have := h p m
  rw [ee] at this
  exact absurd (show false = true from this) (by decide)
theorem call_dictM : CallR X (.type "dict") (rDictM X.w) := by
  intro pl s σ H vs us Q J r h
  obtain ⟨a, kvs, rfl, e, u, ap, q⟩ := h
  rw [Vals.ref1 r]
  obtain ⟨l, ns, xs, m, pr⟩ := mix_open J.hok e u
  have lx : xs.length ≤ sizeLine := by rw [← paired_len pr]; exact l
  obtain ⟨_, _, _, _, _, _, _, hx, _⟩ := id m
  have apx : Apart X.w s xs := by
    intro x mx
    obtain ⟨p, mp, r1, r2, r3⟩ := paired_mem pr mx
    rcases ap p mp with g | g
    · exact .inl (by rw [byV_is r2]; exact g)
    · cases hv : carriedByValue x.2.1 with
      | true => exact .inl rfl
      | false =>
        refine .inr ?_
        have hi := (hx x mx).1
        generalize ez : x.2.1 = z at hi hv
        generalize ek : x.1 = k at hi
        cases hi with
        | @tup ta to tv tn tks g1 g2 g3 g4 =>
          refine ⟨_, rfl, ⟨_, g1, g2⟩, ?_⟩
          have e1 : (xs.filter fun y => y.1.hash X.w == NestedKey.hash X.w (.tup tks)).length = (kvs.filter fun q => q.1.nk.hash X.w == p.1.nk.hash X.w).length := by
            have : ∀ {kvs : List Mkv} {xs : List Ent}, Paired MRel kvs xs → (xs.filter fun y => y.1.hash X.w == x.1.hash X.w).length = (kvs.filter fun q => q.1.nk.hash X.w == p.1.nk.hash X.w).length := by
              intro kvs xs pr
              induction pr with
              | nil => rfl
              | cons b _ ih =>
                rw [List.filter_cons, List.filter_cons, b.1, r1]
                split
                · rw [List.length_cons, List.length_cons, ← r1, ih, r1]
                · rw [← r1, ih, r1]
            rw [← ek]
            exact this pr
          rw [e1]
          exact g
        | _ => exact absurd hv (by simp [carriedByValue])
  refine call_dict_mix ns m apx lx fun h' ys my e1 e2 kp => ?_
  have nb : (s.heap.objs.size == sysModules) = false := beq_eq_false_iff_ne.mpr (Nat.ne_of_gt J.big)
  have fr := J.hok.fresh (Nat.le_refl _)
  have ly : ys.length = xs.length := by
    have := congrArg List.length e1
    rw [List.length_map, List.length_map] at this
    exact this
  obtain ⟨kvs', p1, p2, p3⟩ : ∃ kvs' : List Mkv, Paired MRel kvs' ys ∧ kvs'.map (fun q => (q.1.nk, q.2)) = kvs.map (fun q => (q.1.nk, q.2)) ∧ (∀ q ∈ kvs', ∀ e, q.1 = .unit e → ∃ q0 ∈ kvs, q0.1 = .unit e) := by
    rcases e2 with g | g
    · rw [g]; exact ⟨kvs, pr, rfl, fun q m e ee => ⟨q, m, ee⟩⟩
    · obtain ⟨_, _, _, _, _, _, _, hy, _⟩ := id my
      obtain ⟨kvs', k1, k2, k3⟩ := rekeyed pr (fun y m => (hy y m).1) g e1
      exact ⟨kvs', k1, k2, fun q m e ee => by have h := k3 q m; rw [ee] at h; exact absurd (show false = true from h) (by decide)⟩
  exact ⟨.ref s.heap.objs.size, _, J.laid kp (Nat.le_refl _) (mix_close (by rw [paired_len p1, ly]; exact lx) nb my p1), rfl, q _ kvs' fr p2 p3⟩
end
end Lw

set_option Elab.async false
set_option linter.all false
set_option maxRecDepth 100000
/-! a def's promise where nothing is being shown (no guard of repr stands around): for laws that call repr -/
namespace Lw
open PySem PySem.Spec PyProof.Rows L2
structure FnG (P : Program) (w : World) (K : PySem.W.Frag) (mg : Str → Option Value) (base : Heap) (k : Nat) (f : Addr) (fd : FuncData) (ps : List Str) (sp : Sp) : Prop where
  few : ∀ vs H Q E, sp vs H Q E → vs.length = ps.length
  go : ∀ (A : Around) (outs : List Env) (st : Shared) (H : Hp) (ar : Args) (us : List Value) (vs : List V) (Q : VK) (E : XK), Room k A → A.guards = some [] → Env0 P w K mg base A outs st H → BindsTo st fd ar (ps.zip us) → Vals vs us →
    sp vs H Q E → codeAny (model P w) A (.call (.ref f) ar) (CR CX0 outs P w H st Q E) st
theorem FnG.of {P : Program} {w : World} {K : PySem.W.Frag} {mg : Str → Option Value} {base : Heap} {k : Nat} {f : Addr} {fd : FuncData} {ps : List Str} {sp : Sp} (F : FnOk P w K mg base CX0 k f fd ps sp) : FnG P w K mg base k f fd ps sp :=
  ⟨F.len, fun A outs st H ar us vs Q E hr _ he hb hv hs => F.run A outs st H ar us vs Q E hr he hb hv hs⟩
section
variable {P : Program} {w : World} {K : PySem.W.Frag} {mg : Str → Option Value} {base : Heap}
theorem fun_okG {x qual : Str} {dst : Stmt} {f : Addr} {fd : FuncData} {N ps : List Str} {k : Nat} {sp : Sp} (F : Fun K x qual dst f fd) (S : FnScope N ps (defScope dst)) (few : ∀ vs H Q E, sp vs H Q E → vs.length = ps.length)
    (body : ∀ (cdv : Value) (A : Around) (outs : List Env) (st : Shared) (H : Hp) (vs : List V) (Q : VK) (E : XK), Room k (A.deeper (envOfC qual (defScope dst) st.heap.objs.size f cdv)) → A.guards = some [] → sp vs H Q E →
      ∃ t, PSs (cxOf CX0 P w K mg base N qual (defScope dst) f cdv A outs st H E).nox (defBody dst) t ∧ t { nx := fun _ H' => Q .non H', rt := Q } (L2.start N vs) H) : FnG P w K mg base (k + 1) f fd ps sp := by
  obtain ⟨oc, od, kV, doc, pm, an, cdv, ct, osl, rfl, lk, hcd⟩ := F.ex
  refine ⟨few, fun A outs st H ar us vs Q E room hg ev hb hv hsp => ?_⟩
  have lenV := few _ _ _ _ hsp
  have kin : K.In st.heap := ev.mod.kin.keeps fun c o e => (ev.bs c o e).1
  have nl : st.heap.NoLimit := ev.mod.nolimit.keeps fun c o e => (ev.bs c o e).1
  have kinds : ∀ y ∈ ps.zip us, (defScope dst).names.lookup y.1 = some .local ∨ ((defScope dst).names.lookup y.1 = some .cell ∧ ((cellsFrom (st.heap.objs.size + 1) (defScope dst).names []).lookup y.1).isSome = true) := by
    rintro ⟨n, v⟩ hy
    rcases S.par n (List.of_mem_zip hy).1 with z | z
    · exact .inl z
    · exact .inr ⟨z, PySem.W.cellsFrom_some _ _ _ (.inl z)⟩
  refine codeAny_call_function room.depth (kin _ _ lk) rfl S.co S.gen rfl (PySem.W.codeRec_of kin hcd) (hb _ _ _ _ ?_)
  refine wpAny_newFunctionEnv_cells S.kind kinds fun ev1 he st1 ic => ?_
  subst he
  refine ⟨nl.keeps ic.toInCall.keep, codeAny_func ?_⟩
  obtain ⟨t, ht, hq⟩ := body cdv A outs st H vs Q E (room.deeper _) hg hsp
  have I : Inv (cxOf CX0 P w K mg base N qual (defScope dst) f cdv A outs st H E) [] (L2.start N vs) H st1 := inv_start S room.hd ev lenV hv ic
  refine wpAny_mono (ht.nox.run [] st1 (L2.start N vs) H _ I hq) (fun fl st' hs => ?_) fun e st' hs => hs
  have back : ∀ {σ' : L2.St} {H' : Hp} {v : V} {u : Value}, Inv (cxOf CX0 P w K mg base N qual (defScope dst) f cdv A outs st H E) [] σ' H' st' → RelV v u → Q v H' → CE outs P w H st Q u st' := by
    intro σ' H' v u J rv q
    exact ⟨v, H', J.os, J.bare, J.base, J.hok, rv, q⟩
  cases fl with
  | ret u =>
    obtain ⟨v, σ', H', J, rv, q⟩ := hs
    exact back J rv q
  | next =>
    obtain ⟨σ', H', J, q⟩ := hs
    exact back (v := V.non) (u := Value.none) J rfl q
  | brk => exact hs.elim fun _ h => h.elim fun _ h => False.elim h.2
  | cont => exact hs.elim fun _ h => h.elim fun _ h => False.elim h.2
end
section
variable {X : Cx} {k : Nat} {f : Addr} {fd : FuncData} {ps : List Str} {sp : Sp} {E : XK} {x : Str} {p pos : Pos} {e : Expr} {es : List Expr} {t : TA}
theorem pe_callG (F : FnG X.prog X.w X.K X.mg X.base k f fd ps sp) (hr : Room k X.A) (hgd : X.A.guards = some []) (hg : Gl X x) (hm : X.mg x = some (.ref f)) (hk : PySem.W.keepIn X.K (.ref f) = true) (hb : Binds X.K fd ps []) (hx : Passes CX0 X E) (ha : PA X (e :: es) t)
    (hdb : (x == ("__debug__" : Str)) = false := by decide) (he : starEach (e :: es) X.env = (false, eval e X.env) :: starEach es X.env := by rfl) (hpl : (backTo pos (starEach es X.env)).any (·.1) = false := by rfl) :
    PE X (.Call (.Name x p) (e :: es) [] pos) (tCall sp [] E t) := by
  refine ⟨fun pins st σ H Q I h => wpAny_Call_Name_kw (ld_glob I hg hm ?_ hdb)⟩
  refine PySem.W.callWith_K (h₀ := X.base) I.ok.mod.kin hk (thn (ha.run pos pins st σ H _ I h) fun us st1 got => ?_) he hpl
  obtain ⟨vs, H1, I1, r, q⟩ := got
  refine ⟨I1.kIn, ?_⟩
  have q' : sp vs H1 Q E := by rw [List.append_nil] at q; exact q
  have le : us.length = ps.length := by rw [← r.length]; exact F.few _ _ _ _ q'
  have bi := hb st1 us I1.kIn (by rw [List.append_nil]; exact le)
  rw [List.append_nil] at bi
  refine wpAny_call (codeAny_mono (F.go X.A X.stack st1 H1 ⟨us, []⟩ us vs Q E hr hgd I1.env0 bi r q') fun res st2 hq => ?_)
  cases res with
  | error er => exact hx pins σ H1 st1 er st2 I1 hq
  | ok fl =>
    cases fl with
    | ret u => exact I1.after hq
    | next => exact hq.elim
    | brk => exact hq.elim
    | cont => exact hq.elim
end

/-! ### the law's own call -/
section
variable {P : Program} {w : World} {K : PySem.W.Frag} {mg mb : Str → Option Value} {k : Nat} {fa a : Addr} {fd : FuncData} {x : Str} {sp : Sp} {st : Shared} {vs : List Value} {ns : List Int}
/-- the script's own object -/
abbrev scriptObj (vs : List Value) : Obj := { cls := .type "list", data := .seq vs.toArray }
abbrev LawEnd (st : Shared) (r : Result) (st' : Shared) : Prop := r = .ok (.ret (.bool true)) ∧ OldK st.heap st'.heap ∧ st'.os = st.os ∧ AllBare st'.gens
theorem law_from (kin : K.In st.heap) (gns : st.heap.Ns mainGlobals mg) (bns : st.heap.Ns builtinsNs mb) (bbs : ∀ y : Str, y ≠ "__name__" → mb y = bootBuiltins y) (nl : st.heap.NoLimit) (gn : st.gens = #[])
    (so : st.heap.get? a = some (scriptObj vs)) (room : Room k callerA) (sm : ∃ mm, st.heap.Ns sysModules mm) (F : ∀ base : Heap, K.In base → base.Ns mainGlobals mg → (∃ o, base.get? sysModules = some o) → FnG P w K mg base k fa fd [x] sp) (bd : ∀ (z : Shared) (u : Value), BindsTo z fd ⟨[u], []⟩ [(x, u)])
    (G : Hp) (only : Only G) (hok : HOk P w G st.heap) (atA : ∀ c, G c ≠ none → c = a) (nk : G a ≠ none → K.lookup a = none) (hsp : sp [.ref a] G (fun v _ => v = .bl true) fun _ _ _ => False) :
    codeAny (model P w) callerA (.call (.ref fa) ⟨[.ref a], []⟩) (LawEnd st) st := by
  have hid : ∀ {c : Addr} {o : Obj}, st.heap.get? c = some o → G c = none → (hidT st.heap G).get? c = some o := fun e n => hidT_get e n
  have free : ∀ {c : Addr} {o : Obj}, st.heap.get? c = some o → (c = a → False) → G c = none := by
    intro c o _ ne
    cases q : G c with
    | none => rfl
    | some u => exact (ne (atA c (by rw [q]; exact fun z => nomatch z))).elim
  have nsk : ∀ {c : Addr} {m : Str → Option Value}, st.heap.Ns c m → (hidT st.heap G).Ns c m := by
    rintro c m ⟨o, es, ep, e, d, r⟩
    refine ⟨o, es, ep, hid e (free e fun z => ?_), d, r⟩
    rw [z, so] at e
    cases e
    have d' : Data.seq vs.toArray _ = Data.dict es ep := d
    cases d'
  have kb : K.In (hidT st.heap G) := by
    intro c o e
    refine hid (kin c o e) ?_
    cases q : G c with
    | none => rfl
    | some u =>
      have ca := atA c (by rw [q]; exact fun z => nomatch z)
      rw [ca] at q e
      rw [nk (by rw [q]; exact fun z => nomatch z)] at e
      cases e
  have md : Mod K mg (hidT st.heap G) := by
    obtain ⟨mc, h1, h2⟩ := nl
    exact ⟨kb, nsk gns, ⟨mb, nsk bns, bbs⟩, ⟨mc, nsk h1, h2⟩⟩
  have ev : Env0 P w K mg (hidT st.heap G) callerA [] st G := ⟨rfl, md, fun c o e => of_hidT e, Nat.le_of_eq (hidT_size _ _), trivial, fun c hc => (List.not_mem_nil hc).elim, hok, .of_eq gn⟩
  refine codeAny_mono ((F _ kb (nsk gns) (sm.elim fun mm h => (nsk h).elim fun o h => h.elim fun es h => h.elim fun ep h => ⟨o, h.1⟩)).go callerA [] st G ⟨[.ref a], []⟩ [.ref a] [.ref a] _ _ room rfl ev (bd st (.ref a)) (.cons rfl .nil) hsp) fun r st' h => ?_
  cases r with
  | error er => exact False.elim h
  | ok fl =>
    cases fl with
    | ret u =>
      obtain ⟨v, G', os, bare, un, hok', rv, q⟩ := h
      have q' : v = .bl true := q
      subst q'
      obtain rfl : u = Value.bool true := rv
      refine ⟨rfl, OldK.of_keep fun c o e => ?_, os, bare⟩
      cases q : G c with
      | none => exact un.keep c o e q List.not_mem_nil List.not_mem_nil
      | some u =>
        rcases only c with z | ⟨ob, xs, z⟩
        · rw [q] at z
          cases z
        · obtain ⟨e1, _⟩ := hok c _ z
          obtain ⟨e2, _⟩ := hok' c _ (un.frzs c ob _ z)
          rw [e] at e1
          cases e1
          exact e2
    | next => exact False.elim h
    | brk => exact False.elim h
    | cont => exact False.elim h
theorem law_callG (kin : K.In st.heap) (gns : st.heap.Ns mainGlobals mg) (bns : st.heap.Ns builtinsNs mb) (bbs : ∀ y : Str, y ≠ "__name__" → mb y = bootBuiltins y) (nl : st.heap.NoLimit) (gn : st.gens = #[])
    (so : st.heap.get? a = some (scriptObj vs)) (hi : IntsAre vs ns) (hl : ns.length ≤ sizeLine) (room : Room k callerA) (sm : ∃ mm, st.heap.Ns sysModules mm) (F : ∀ base : Heap, K.In base → base.Ns mainGlobals mg → (∃ o, base.get? sysModules = some o) → FnG P w K mg base k fa fd [x] sp)
    (bd : ∀ (z : Shared) (u : Value), BindsTo z fd ⟨[u], []⟩ [(x, u)]) (hsp : ∀ G : Hp, Only G → SqL K G a (ns.map V.int) → sp [.ref a] G (fun v _ => v = .bl true) fun _ _ _ => False) :
    codeAny (model P w) callerA (.call (.ref fa) ⟨[.ref a], []⟩) (LawEnd st) st := by
  have rv := vals_ints hi
  have lenV := hi.length
  cases hk : K.lookup a with
  | none =>
    have at1 : (fun c => if c = a then some (HO.frz (scriptObj vs) (.lst (ns.map V.int))) else none : Hp) a = some (.frz (scriptObj vs) (.lst (ns.map V.int))) := if_pos rfl
    have at2 : ∀ {c : Addr}, c ≠ a → (fun c => if c = a then some (HO.frz (scriptObj vs) (.lst (ns.map V.int))) else none : Hp) c = none := fun n => if_neg n
    generalize (fun c => if c = a then some (HO.frz (scriptObj vs) (.lst (ns.map V.int))) else none : Hp) = G at at1 at2
    have on : Only G := fun c => if h : c = a then .inr ⟨scriptObj vs, ns.map V.int, by rw [h]; exact at1⟩ else .inl (at2 h)
    refine law_from kin gns bns bbs nl gn so room sm F bd G on (fun c u z => ?_) (fun c z => ?_) (fun _ => hk) (hsp G on (.inl (.inr ⟨_, at1⟩)))
    · by_cases hc : c = a
      · rw [hc, at1] at z
        cases z
        rw [hc]
        exact ⟨so, by rw [List.length_map]; exact hl, vs, _, rv, so⟩
      · rw [at2 hc] at z
        cases z
    · by_cases hc : c = a
      · exact hc
      · exact absurd (at2 hc) z
  | some o =>
    have e := kin a o hk
    rw [so] at e
    cases e
    have on : Only (fun _ => none) := fun _ => .inl rfl
    exact law_from kin gns bns bbs nl gn so room sm F bd (fun _ => none) on (fun c u z => nomatch z) (fun c z => (z rfl).elim) (fun z => (z rfl).elim)
      (hsp _ on (.inr ⟨_, vs.toArray, _, hk, rfl, rfl, rfl, by rw [List.size_toArray, lenV]; exact hl, by simpa using rv⟩))
end
/-- the end of a law row, from the law's promise where nothing is being shown -/
theorem walkG {l : PySem.W.OpenLaw} {n k : Nat} {q : Program} {loose : List Str} {XP : (Str → Option Value) → Heap → Prop} {YP : World → Heap → Prop} {d : DefRec} {K : Params → PySem.W.Frag} {sp : PySem.W.Frag → Sp} {x : Str}
    (hn : l.most = some n) (hn2 : n ≤ sizeLine) (hdf : d.params.defaults = []) (hin : PyProof.Rows.importsNone q = true) (room : Room k callerA) (hY : ∀ (w : World) (h : Heap), YP w h → (K w.params).In h)
    (F : ∀ (w : World) (mg : Str → Option Value) (fa : Addr) (h : Heap), (K w.params).In h → h.Ns mainGlobals mg → mg d.name = some (.ref fa) →
      ∃ fd : FuncData, (∀ (z : Shared) (u : Value), BindsTo z fd ⟨[u], []⟩ [(x, u)]) ∧ ∀ base : Heap, (K w.params).In base → base.Ns mainGlobals mg → (∃ o, base.get? sysModules = some o) → FnG l.prog w (K w.params) mg base k fa fd [x] (sp (K w.params)))
    (hsp : ∀ (K : PySem.W.Frag) (G : Hp) (a : Addr) (ns : List Int), ns.length ≤ n → Only G → SqL K G a (ns.map V.int) → sp K [.ref a] G (fun v _ => v = .bl true) fun _ _ _ => False) :
    PySem.W.WalkO q loose XP YP l.row.toRowW d [] (fun f vs => PySem.call f vs) := by
  refine Att.attach_call hn hdf fun w s0 s1 mg mb fa o pm cd doc a vs ns G Y ho hd hcd hmg hobj hints hlen hg => ?_
  obtain ⟨fd, bd, hF⟩ := F w mg fa _ (hY w _ Y) G.T.g hmg
  exact law_callG (hY w _ Y) G.T.g G.T.b G.T.builtins G.T.nolimit hg hobj hints (Nat.le_trans hlen hn2) room (let ⟨mm, h, _⟩ := (G.T.seer hin).mods; ⟨mm, h⟩) hF bd fun H hO hS => hsp (K w.params) H a ns hlen hO hS
end Lw

set_option Elab.async false
set_option linter.all false
set_option maxRecDepth 100000
set_option maxHeartbeats 4000000
/-! repr of lists, tuples and dicts of texts -/
namespace Lw
open PySem PySem.Spec PyProof.Rows L2
mutual
/-- what a value shows: in a heap of a proof -/
inductive DX (H : Hp) : V → PyData → Prop
  | non : DX H .non .none
  | bl (b : Bool) : DX H (.bl b) (.bool b)
  | str (x : Str) : DX H (.str x) (.str x)
  | lst {a : Addr} {xs : List V} {ds : List PyData} (e : H a = some (.lst xs)) (d : DXs H xs ds) : DX H (.ref a) (.list ds)
  | tup {a : Addr} {xs : List V} {ds : List PyData} (e : H a = some (.tup xs)) (d : DXs H xs ds) : DX H (.ref a) (.tuple ds)
  | dct {a : Addr} {kvs : List (Key × V)} {kds : List (Str × PyData)} (e : H a = some (.dK kvs)) (k : kvs.map (·.1) = kds.map fun p => Sum.inr p.1) (d : DXs H (kvs.map (·.2)) (kds.map (·.2))) : DX H (.ref a) (.dict (kds.map fun p => (.str p.1, p.2)))
inductive DXs (H : Hp) : List V → List PyData → Prop
  | nil : DXs H [] []
  | cons {v : V} {vs : List V} {d : PyData} {ds : List PyData} (a : DX H v d) (b : DXs H vs ds) : DXs H (v :: vs) (d :: ds)
end
section
variable {X : Cx} {pl : List (Addr × Obj)} {σ : L2.St} {H : Hp} {s : Shared}
def Tracked (H : Hp) (as : List Addr) : Prop := ∀ b ∈ as, ∃ o, H b = some o
theorem keys_read {knd : Key → Value → Bool} {h : Heap} : ∀ {es : List DictEntry} {vs : List (Key × Value)} {kds : List (Str × PyData)}, PySem.Pairs (mixKind X.prog X.w) es vs → vs.map (·.1) = kds.map (fun p => Sum.inr p.1) →
    ReadsAll h (es.map (·.key)) ((kds.map fun p => (PyData.str p.1, p.2)).map (·.1)) [] ∧ es.map (·.val) = vs.map (·.2) := by
  intro es vs kds p
  induction p generalizing kds with
  | nil =>
    intro e
    cases kds with
    | nil => exact ⟨.nil, rfl⟩
    | cons _ _ => cases e
  | @cons en kv es vs a b _ ih =>
    intro e
    cases kds with
    | nil => cases e
    | cons kd kds =>
      obtain ⟨e1, e2⟩ := List.cons.inj e
      obtain ⟨r1, r2⟩ := ih e2
      have a : keyIs kv.1 en.key = true := a
      have e1 : kv.1 = Sum.inr kd.1 := e1
      rw [e1] at a
      have z : ∃ t, en.key = .str kd.1 t := by
        cases hk : en.key with
        | str x t =>
          rw [hk] at a
          have a : Value.isStrOf kd.1 (Value.str x t) = true := a
          have : x = kd.1 := by simpa [Value.isStrOf] using a
          exact ⟨t, by rw [this]⟩
        | _ => rw [hk] at a; cases a
      obtain ⟨t, z⟩ := z
      refine ⟨?_, by rw [List.map_cons, List.map_cons, b, r2]⟩
      have q := ReadsAll.cons (Reads.str (h := h) kd.1 t) r1
      rw [List.nil_append] at q
      rw [List.map_cons, z]
      exact q
theorem kv_keys {kvs : List (Key × V)} {vs : List (Key × Value)} (kv : KV kvs vs) : vs.map (·.1) = kvs.map (·.1) := by
  unfold KV at kv
  induction kv with
  | nil => rfl
  | cons x _ ih => rw [List.map_cons, List.map_cons, ih, x.1]
theorem kv_vals {kvs : List (Key × V)} {vs : List (Key × Value)} (kv : KV kvs vs) : Vals (kvs.map (·.2)) (vs.map (·.2)) := by
  unfold KV at kv
  induction kv with
  | nil => exact .nil
  | cons x _ ih => exact .cons x.2 ih
mutual
theorem DX.reads (J : Inv X pl σ H s) : ∀ {v : V} {d : PyData}, DX H v d → ∀ {u : Value}, RelV v u → ∃ as, Reads s.heap u d as ∧ Tracked H as
  | _, _, .non, u, r => ⟨[], by cases (show u = Value.none from r); exact .none, fun b hb => absurd hb (by simp)⟩
  | _, _, .bl b, u, r => ⟨[], by cases (show u = Value.bool b from r); exact .bool b, fun b hb => absurd hb (by simp)⟩
  | _, _, .str x, u, r => ⟨[], by obtain ⟨t, rfl⟩ := (show ∃ t, u = Value.str x t from r); exact .str x t, fun b hb => absurd hb (by simp)⟩
  | _, _, @DX.lst _ a xs ds e d, u, r => by
    cases (show u = Value.ref a from r)
    obtain ⟨_, its, n, rv, ob⟩ := J.hok a _ e
    obtain ⟨as, q, t⟩ := DXs.reads J d rv
    exact ⟨a :: as, .list ob rfl rfl (by simpa using q), fun b hb => (List.mem_cons.mp hb).elim (fun z => ⟨_, z ▸ e⟩) (t b)⟩
  | _, _, @DX.tup _ a xs ds e d, u, r => by
    cases (show u = Value.ref a from r)
    obtain ⟨_, its, rv, o, h1, h2, n, h3⟩ := (show ObjOk X.prog X.w H s.heap a (.tup xs) from J.hok a _ e)
    obtain ⟨as, q, t⟩ := DXs.reads J d rv
    exact ⟨as, .tuple h1 h2 h3 (by simpa using q), t⟩
  | _, _, @DX.dct _ a kvs kds e k d, u, r => by
    cases (show u = Value.ref a from r)
    obtain ⟨_, _, vs, kv, o, es, ep, h1, h2, h3, _, h4, _⟩ := (show ObjOk X.prog X.w H s.heap a (.dK kvs) from J.hok a _ e)
    have kk := kv_keys kv
    have vv := kv_vals kv
    obtain ⟨r1, r2⟩ := keys_read (X := X) (knd := keyIs) (h := s.heap) h4 (kk.trans k)
    obtain ⟨as, q, t⟩ := DXs.reads J d vv
    have q' : ReadsAll s.heap (es.toList.map (·.val)) ((kds.map fun p => (PyData.str p.1, p.2)).map (·.2)) as := by
      rw [r2, List.map_map]
      exact q
    exact ⟨a :: [] ++ as, .dict h1 h2.1 h3 r1 q', fun b hb => (List.mem_cons.mp hb).elim (fun z => ⟨_, z ▸ e⟩) (t b)⟩
theorem DXs.reads (J : Inv X pl σ H s) : ∀ {vs : List V} {ds : List PyData}, DXs H vs ds → ∀ {us : List Value}, Vals vs us → ∃ as, ReadsAll s.heap us ds as ∧ Tracked H as
  | _, _, .nil, _, .nil => ⟨[], .nil, fun b hb => absurd hb (by simp)⟩
  | _, _, .cons a b, _, .cons x y => by
    obtain ⟨as, q1, t1⟩ := DX.reads J a x
    obtain ⟨bs, q2, t2⟩ := DXs.reads J b y
    exact ⟨as ++ bs, .cons q1 q2, fun c hc => (List.mem_append.mp hc).elim (t1 c) (t2 c)⟩
end
/-- repr(x) -/
def rRepr : List V → Hp → VK → Prop := fun vs H Q => ∃ (a : Addr) (d : PyData), vs = [.ref a] ∧ DX H (.ref a) d ∧ d.showable = true ∧ d.depth ≤ 40 ∧ d.shown.length ≤ sizeLine ∧ Q (.str d.shown) H
theorem call_repr (hg : X.A.guards = some []) (hu : X.A.units + 64 < cLine) (hs : ∃ o, X.base.get? sysModules = some o) : CallR X (.builtin "repr") rRepr := by
  intro pl s σ H vs us Q J r h
  obtain ⟨a, d, rfl, dx, sh, dp, sz, q⟩ := h
  rw [Vals.ref1 r]
  obtain ⟨as, rd, tr⟩ := DX.reads J dx (u := .ref a) rfl
  obtain ⟨o, eo⟩ := hs
  obtain ⟨e0, n0⟩ := J.ok.bs _ _ eo
  have none0 : H sysModules = none := J.base.free _ _ e0 n0 (J.ok.noex _ _ eo)
  refine repr_of_reads' rd sh (fun _ hm => ?_) hg (by omega) (fun _ _ z => z) (fun h' u tk k => ⟨.str d.shown, H, J.kept (t' := tk) k, ⟨u, rfl⟩, q⟩) sz
  obtain ⟨o2, e2⟩ := tr _ hm
  rw [none0] at e2
  cases e2
end
end Lw

set_option Elab.async false
set_option linter.all false
set_option maxRecDepth 100000
set_option maxHeartbeats 4000000
namespace Lw
open PySem PySem.Spec PyProof.Rows L2
section
variable {X : Cx} {pl : List (Addr × Obj)} {σ : L2.St} {H : Hp} {s : Shared} {a : Addr} {kvs : List Mkv} {o i e value : Expr} {pos pos' apos cpos : Pos} {td ty tv : TE} {t : TE}
theorem key_in {k : NestedKey} {xs : List Ent} (pr : Paired MRel kvs xs) (h : k ∈ kvs.map fun p => p.1.nk) : k ∈ xs.map (·.1) := by rw [paired_nk pr]; exact h
theorem ent_of {k : NestedKey} {xs : List Ent} (pr : Paired MRel kvs xs) {j : Nat} {kv v : Value} (e : xs[j]? = some (k, kv, v)) : ∃ p, kvs[j]? = some p ∧ p.1.nk = k ∧ RelV p.1.v kv ∧ RelV p.2 v := by
  obtain ⟨p, ep, r1, r2, r3⟩ := paired_at pr e
  exact ⟨p, ep, r1.symm, r2, r3⟩
/-- d[k], there -/
def tMGet (w : World) (td ty : TE) : TE := fun σ H Q => td σ H fun x H1 => ty σ H1 fun y H2 => ∃ (a : Addr) (kvs : List Mkv) (k : MK), x = .ref a ∧ y = k.v ∧ H2 a = some (MixO w a kvs) ∧ UOk H2 kvs ∧ KOk H2 k ∧ k.nk ∈ kvs.map (fun p => p.1.nk) ∧
  ∀ (j : Nat) (p : Mkv), kvs[j]? = some p → p.1.nk = k.nk → Q p.2 H2
theorem pe_mget (hu : X.A.units + 9 < cLine) (ho : PE X o td) (hi : PE X i ty) (hs : NoSl i) : PE X (.Subscript o i pos) (tMGet X.w td ty) := by
  refine ⟨fun pl s σ H Q J h => ?_⟩
  refine subD_of F.slot_dict_getitem.lookup hs (thn (ho.run pl s σ H _ J h) fun u s1 ⟨x, H1, J1, rx, q1⟩ => thn (hi.run pl s1 σ H1 _ J1 q1) fun iv s2 ⟨y, H2, J2, ry, a, kvs, k, ex, ey, e, uo, ko, hin, q2⟩ => ?_)
  subst ex ey
  cases (show u = Value.ref a from rx)
  obtain ⟨l, ns, xs, m, pr⟩ := mix_open J2.hok e uo
  refine ⟨m.typeIs, getitem_mix hu (nk_is J2.hok ko ry) (nk_depth k) m (key_in pr hin) fun j kv v ej => ?_⟩
  obtain ⟨p, ep, p1, p2, p3⟩ := ent_of pr ej
  exact ⟨p.2, H2, J2.tok _, p3, q2 j p ep p1⟩
/-- d[k] = v: the key's place is kept, or is the last one -/
def MSet (kvs : List Mkv) (k : MK) (v : V) (kvs' : List Mkv) : Prop :=
  (k.nk ∉ kvs.map (fun p => p.1.nk) ∧ kvs' = kvs ++ [(k, v)]) ∨ ∃ (j : Nat) (p : Mkv), kvs[j]? = some p ∧ p.1.nk = k.nk ∧ kvs' = kvs.set j (p.1, v)
def sMPut (w : World) (td ty tv : TE) : TS := fun D σ H => tv σ H fun v H1 => td σ H1 fun x H2 => ty σ H2 fun y H3 => ∃ (a : Addr) (kvs : List Mkv) (k : MK), x = .ref a ∧ y = k.v ∧ H3 a = some (MixO w a kvs) ∧ UOk H3 kvs ∧ KOk H3 k ∧ kvs.length + 1 ≤ sizeLine ∧
  ∀ kvs', MSet kvs k v kvs' → D.nx σ (upd H3 a (MixO w a kvs'))
theorem ps_mput (hu : X.A.units + 9 < cLine) (ho : PE X o td) (hi : PE X i ty) (hv : PE X value tv) (hs : swapsWith value (some (.Subscript o i pos')) pos.line X.env = pure false) : PS X (.Assign [.Subscript o i pos'] value pos) (sMPut X.w td ty tv) := by
  refine ⟨fun pl s σ H D J h => ?_⟩
  refine wpAny_Assign_Subscript (thn (hv.run pl s σ H _ J h) fun r s1 ⟨v, H1, J1, rv, q1⟩ => thn (ho.run pl s1 σ H1 _ J1 q1) fun u s2 ⟨x, H2, J2, rx, q2⟩ => thn (hi.run pl s2 σ H2 _ J2 q2) fun iv s3 ⟨y, H3, J3, ry, a, kvs, k, ex, ey, e, uo, ko, lz, q3⟩ => ?_) hs
  subst ex ey
  cases (show u = Value.ref a from rx)
  obtain ⟨l, ns, xs, m, pr⟩ := mix_open J3.hok e uo
  refine setitem_mix hu (nk_is J3.hok ko ry) (nk_depth k) m (by rw [← paired_len pr]; exact l) fun h' ys m' sb st => ?_
  rcases st with ⟨st1, st2⟩ | ⟨j, kv, old, ej, st2⟩
  · have pr' : Paired MRel (kvs ++ [(k, v)]) ys := by rw [st2]; exact paired_snoc pr ⟨rfl, ry, rv⟩
    exact ⟨σ, _, mix_write J3 e (by rw [List.length_append]; exact lz) ns m' pr' sb, q3 _ (.inl ⟨by rw [← paired_nk pr]; exact st1, rfl⟩)⟩
  · obtain ⟨p, ep, p1, p2, p3⟩ := ent_of pr ej
    have pr' : Paired MRel (kvs.set j (p.1, v)) ys := by rw [st2]; exact paired_set pr ⟨p1.symm, p2, rv⟩ j
    exact ⟨σ, _, mix_write J3 e (by rw [List.length_set]; exact l) ns m' pr' sb, q3 _ (.inr ⟨j, p, ep, p1, rfl⟩)⟩
/-- d.pop(k), there -/
def tMPop (w : World) (td ty : TE) : TE := fun σ H Q => td σ H fun x H1 => ∃ (a : Addr) (kvs : List Mkv), x = .ref a ∧ H1 a = some (MixO w a kvs) ∧ ty σ H1 fun y H2 => ∃ (k : MK), y = k.v ∧ H2 a = some (MixO w a kvs) ∧ UOk H2 kvs ∧ KOk H2 k ∧ k.nk ∈ kvs.map (fun p => p.1.nk) ∧
  ∀ (j : Nat) (p : Mkv), kvs[j]? = some p → p.1.nk = k.nk → Q p.2 (upd H2 a (MixO w a (kvs.eraseIdx j)))
theorem mix_type {w : World} {P : Program} {h : Heap} (ok : HOk P w H h) (e : H a = some (MixO w a kvs)) : ∃ ob, h.get? a = some ob ∧ ob.cls = .type "dict" ∧ ob.dict = none := by
  obtain ⟨⟨l, ns, _, ob, es, ep, ho, hx, hd, pr⟩, _⟩ := (show ObjOk P w H h a (MixO w a kvs) from ok a _ e)
  exact ⟨ob, ho, hx.1, hx.2.1⟩
theorem pe_mpop (hu : X.A.units + 9 < cLine) (ho : PE X o td) (he : PE X e ty) (m : M1 X o "pop" apos e cpos) : PE X (.Call (.Attribute o "pop" apos) [e] [] cpos) (tMPop X.w td ty) := by
  refine ⟨fun pl s σ H Q J h => ?_⟩
  refine wpAny_Call_method m.base m.few m.line F.plainAttrs_dict F.slot_dict_pop F.type_dict_pop (thn (ho.run pl s σ H _ J h) fun u s1 ⟨x, H1, J1, rx, a, kvs, ex, e1, q1⟩ => ?_)
  subst ex
  cases (show u = Value.ref a from rx)
  obtain ⟨ob, t1, t2, t3⟩ := mix_type J1.hok e1
  refine ⟨⟨ob, t1, t2⟩, fun b q => by cases q; exact ⟨ob, t1, t3⟩, ?_⟩
  rw [m.trees]
  refine Calls.callWith_builtin rfl (Calls.evalArgs_plain (Calls.spliced_cons (thn (he.run pl s1 σ H1 _ J1 q1) fun iv s2 ⟨y, H2, J2, ry, k, ey, e2, uo, ko, hin, q2⟩ => Calls.spliced_nil ?_)))
  subst ey
  obtain ⟨l, ns, xs, mm, pr⟩ := mix_open J2.hok e2 uo
  refine pop_mix ns hu (nk_is J2.hok ko ry) (nk_depth k) mm (by rw [← paired_len pr]; exact l) (key_in pr hin) fun h' j kv v ej m' sb => ?_
  obtain ⟨p, ep, p1, p2, p3⟩ := ent_of pr ej
  exact ⟨p.2, _, mix_write J2 e2 (Nat.le_trans (by rw [List.length_eraseIdx]; split <;> omega) l) ns m' (paired_erase pr j) sb, p3, q2 j p ep p1⟩
/-! ### told otherwise -/
theorem pe_ghost (h : PE X e t) : PE X e (fun σ H Q => t σ H fun v H1 => ∃ H2, Ghost X H1 H2 ∧ Q v H2) := by
  refine ⟨fun pl s σ H Q J w => ?_⟩
  exact thn (h.run pl s σ H _ J w) fun u s1 ⟨v, H1, J1, rv, H2, g, q⟩ => ⟨v, H2, g pl σ s1 J1, rv, q⟩
def convK : Key → MK
  | .inl i => .int i
  | .inr z => .str z
abbrev convD (kvs : List (Key × V)) : List Mkv := kvs.map fun p => (convK p.1, p.2)
theorem conv_v (k : Key) : (convK k).v = kV k := by cases k <;> rfl
theorem conv_hash (w : World) (k : Key) : (convK k).nk.hash w = keyH w k := by cases k <;> rfl
theorem conv_inj {a b : Key} (h : (convK a).nk = (convK b).nk) : a = b := by
  cases a <;> cases b <;> first | (injection h with h; rw [h]) | exact nomatch h
theorem conv_key {k : Key} {u : Value} (h : keyIs k u = true) : RelV (convK k).v u := by
  rcases keyIs_shape h with ⟨i, t, rfl, rfl⟩ | ⟨z, t, rfl, rfl⟩
  · exact ⟨t, rfl⟩
  · exact ⟨t, rfl⟩
theorem conv_ents {P : Program} {w : World} : ∀ {kvs : List (Key × V)} {vs : List (Key × Value)} {l : List DictEntry}, KV kvs vs → PySem.Pairs (mixKind P w) l vs → (∀ e ∈ l, ∃ k, keyIs k e.key = true ∧ e.hash = keyH w k) → Paired (MEnt w) (convD kvs) l
  | _, _, _, .nil, .nil, _ => .nil
  | _, _, _, .cons r t, .cons a b p, hk => by
    rename_i kv vs kv' vs' en es
    obtain ⟨k, k1, k2⟩ := hk en List.mem_cons_self
    have ek : k = vs.1 := (mixKind P w).inj _ _ _ k1 a
    subst ek
    refine .cons ⟨?_, ?_, ?_⟩ (conv_ents t p fun e m => hk e (List.mem_cons_of_mem _ m))
    · show en.hash = (convK kv.1).nk.hash w
      rw [conv_hash, r.1, k2]
    · show RelV (convK kv.1).v en.key
      rw [r.1]
      exact conv_key k1
    · show RelV kv.2 en.val
      rw [b]
      exact r.2
theorem ghost_dk {kvs : List (Key × V)} (e : H a = some (.dK kvs)) : Ghost X H (upd H a (MixO X.w a (convD kvs))) := by
  intro pl σ s J
  obtain ⟨z, ns, vs, kv, ob, es, ep, ho, hx, hd, hk, hp, hn⟩ := (show ObjOk X.prog X.w H s.heap a (.dK kvs) from J.hok a _ e)
  refine J.write (x := a) (e := a) (t' := s.toks) (h' := s.heap) (by rw [e]; exact True.intro) (.inl rfl) (fun b u _ hu => hu) ⟨ob, ho⟩ ?_
  have ek := kv_keys kv
  have nd : ((convD kvs).map fun p => p.1.nk).Nodup := by
    have : ((convD kvs).map fun p => p.1.nk) = (kvs.map (·.1)).map fun k => (convK k).nk := by rw [List.map_map, List.map_map]; rfl
    rw [this, ← ek]
    exact List.Pairwise.map _ (fun a b n q => n (conv_inj q)) hn
  refine ⟨⟨by rw [List.length_map]; exact z, ns, nd, ob, es, ep, ho, hx, hd, conv_ents kv hp fun e m => hk e (Array.mem_toList_iff.mp m)⟩, ⟨ob, ho⟩, fun h1 h2 p k => ?_⟩
  obtain ⟨q1, q2, q3, o2, es2, ep2, g1, g2⟩ := p
  exact ⟨q1, q2, q3, o2, es2, ep2, k _ g1, g2⟩
end
end Lw

set_option Elab.async false
set_option linter.all false
set_option maxRecDepth 100000
set_option maxHeartbeats 4000000
namespace Lw
open PySem PySem.Spec PyProof.Rows L2
theorem dict_no_str (l : Addr) (es : Array DictEntry) (n : Nat) (dd : Option Addr) (sl : Array (Option Value)) (b : Str) (u : Tok) :
    Meets (Builtin.«dict.__eq__» ⟨[.ref l, .str b u], []⟩) (fun _ R s => s.heap.get? l = some { cls := .type "dict", dict := dd, data := .dict es n, slots := sl } ∧ R (.ok (.ret .notImplemented)) s) :=
  .of_wp fun prog w A R s h => by
    obtain ⟨hp, g, d, tk, os⟩ := s
    obtain ⟨hl, h⟩ := h
    have f1 := F.sub_str_dict
    wp_walk using wpAny_loadPart' hl
    exact ⟨_, rfl, h⟩
theorem str_no_dict (b : Str) (u : Tok) (l : Addr) (es : Array DictEntry) (n : Nat) (dd : Option Addr) (sl : Array (Option Value)) :
    Meets (Builtin.«str.__eq__» ⟨[.str b u, .ref l], []⟩) (fun _ R s => s.heap.get? l = some { cls := .type "dict", dict := dd, data := .dict es n, slots := sl } ∧ R (.ok (.ret .notImplemented)) s) :=
  .of_wp fun prog w A R s h => by
    obtain ⟨hp, g, d, tk, os⟩ := s
    obtain ⟨hl, h⟩ := h
    wp_walk using wpAny_loadPart' hl, wpAny_load hl
    exact ⟨_, rfl, h⟩
theorem rc_str_dict {A : Around} {s : Shared} {l : Addr} {o : Obj} {es : Array DictEntry} {n : Nat} (b : Str) (u : Tok) (ho : s.heap.get? l = some o) (hc : o.cls = .type "dict") (hd : o.data = .dict es n) (hu : A.units < cLine) : SeqAt.RcAt A s (.str b u) (.ref l) false := fun prog w E Q h => by
  obtain ⟨cls, dd, data, sl⟩ := o
  simp only at hc hd
  subst hc hd
  exact SeqAt.rc_eq_decline_or (k := false) (typeIs_str s b u) ⟨_, ho, rfl⟩ (by decide) F.sub_dict_str F.slot_str_eq F.slot_dict_eq_refl
    (fun _ hq => call_meets F.slot_str_eq (typeIs_str s b u) F.entry_str_eq (F.args_str_eq_2 _ _) (str_no_dict b u l es n dd sl) ⟨ho, hq⟩)
    (fun _ hq => call_meets F.slot_dict_eq_refl ⟨_, ho, rfl⟩ F.entry_dict_eq (F.args_dict_eq_2 _ _) (dict_no_str l es n dd sl b u) ⟨ho, hq⟩)
    (fun _ hq => wpAny_of_eq (rfl : isSame (.str b u) (.ref l) = pure false) hq) (.inr hu) h
theorem eq_str_dict {A : Around} {s : Shared} {l : Addr} {o : Obj} {es : Array DictEntry} {n : Nat} (b : Str) (u : Tok) (ho : s.heap.get? l = some o) (hc : o.cls = .type "dict") (hd : o.data = .dict es n) (hu : A.units < cLine) : SeqAt.EqAt A s (.str b u) (.ref l) false := fun prog w E Q h => by
  unfold eqBool
  refine wpAny_holding (wpAny_ite_split (fun q => absurd (eq_of_beq q) nofun) (fun _ => ?_))
  exact wpAny_bind (rc_str_dict b u ho hc hd hu prog w E _ (wpAny_truthy_bool h))
/-! ### isinstance -/
inductive TyM (K : PySem.W.Frag) (w : World) (H : Hp) : V → Value → Prop
  | base {x : V} {t : Value} (h : TyX K H x t) : TyM K w H x t
  | mix {a : Addr} {kvs : List Mkv} (e : H a = some (MixO w a kvs)) : TyM K w H (.ref a) (.type "dict")
section
variable {X : Cx} {pl : List (Addr × Obj)} {σ : L2.St} {H : Hp} {s : Shared}
theorem kit_ofM {x : V} {u t : Value} (J : Inv X pl σ H s) (rx : RelV x u) (ty : TyM X.K X.w H x t) : ∃ P : Heap → Prop, PySem.W.KitX X.K u t P ∧ P s.heap ∧ u ≠ .builtin "__main__.__loader__#opaque" := by
  cases ty with
  | base h => exact kit_of J rx h
  | mix e =>
    cases (show u = Value.ref _ from rx)
    obtain ⟨ob, h1, h2, _⟩ := mix_type J.hok e
    exact ⟨_, PySem.W.kitx_dict, ⟨ob, h1, h2⟩, fun z => nomatch z⟩
def rIsiM (K : PySem.W.Frag) (w : World) : List V → Hp → VK → Prop := fun xs H Q => ∃ (x c : V) (t u : Value) (b : Bool), xs = [x, c] ∧ ClsV c u ∧ TyM K w H x t ∧ PySem.W.kitOne K t u = some b ∧ Q (.bl b) H
def rIsiTM (K : PySem.W.Frag) (w : World) : List V → Hp → VK → Prop := fun xs H Q => ∃ (x : V) (tp : Addr) (cs : List V) (t : Value) (us : List Value) (b : Bool), xs = [x, .ref tp] ∧ H tp = some (.tup cs) ∧ Paired ClsV cs us ∧ TyM K w H x t ∧ PySem.W.kitAny K t us = some b ∧ Q (.bl b) H
theorem call_isiM : CallR X (.builtin "isinstance") (rIsiM X.K X.w) := by
  intro pl s σ H xs us Q J r h
  obtain ⟨x, c, t, u, b, rfl, k, ty, e, q⟩ := h
  obtain ⟨u1, u2, rfl, r1, r2⟩ := vals2 r
  have eu := k.eq r2
  subst eu
  obtain ⟨P, Z, p, hx⟩ := kit_ofM J r1 ty
  exact PySem.W.kia_one Z J.kIn p e hx fun tk => ⟨.bl b, H, J.tok tk, rfl, q⟩
theorem call_isiTM : CallR X (.builtin "isinstance") (rIsiTM X.K X.w) := by
  intro pl s σ H xs us Q J r h
  obtain ⟨x, tp, cs, t, ws, b, rfl, hT, k, ty, e, q⟩ := h
  obtain ⟨u1, u2, rfl, r1, r2⟩ := vals2 r
  cases (show u2 = Value.ref tp from r2)
  obtain ⟨P, Z, p, hx⟩ := kit_ofM J r1 ty
  obtain ⟨_, its, rv, o, h1, h2, n, h3⟩ := (show ObjOk X.prog X.w H s.heap tp (.tup cs) from J.hok tp _ hT)
  obtain rfl := ClsV.all k rv
  obtain ⟨oc, od, dt, sl⟩ := o
  cases (show oc = _ from h2)
  cases (show dt = _ from h3)
  exact PySem.W.kia_tup Z J.kIn p h1 e hx fun tk => ⟨.bl b, H, J.tok tk, rfl, q⟩
/-! ### x in (texts), whatever x is -/
/-- a value of one of the plain kinds -/
inductive Kd (K : PySem.W.Frag) (w : World) (H : Hp) : V → Prop
  | non : Kd K w H .non
  | bl (b : Bool) : Kd K w H (.bl b)
  | int (i : Int) : Kd K w H (.int i)
  | str (z : Str) : Kd K w H (.str z)
  | lst {a : Addr} {xs : List V} (e : H a = some (.lst xs)) : Kd K w H (.ref a)
  | tup {a : Addr} {xs : List V} (e : H a = some (.tup xs)) : Kd K w H (.ref a)
  | mix {a : Addr} {kvs : List Mkv} (e : H a = some (MixO w a kvs)) : Kd K w H (.ref a)
def isStrV (z : Str) : V → Bool
  | .str y => z == y
  | _ => false
theorem eq_str_kd {x : V} {v : Value} {A : Around} (hu : A.units < cLine) (J : Inv X pl σ H s) (k : Kd X.K X.w H x) (r : RelV x v) (z : Str) (t : Tok) : SeqAt.EqAt A s (.str z t) v (isStrV z x) := by
  cases k with
  | non => cases (show v = Value.none from r); exact SeqAt.EqAt.str_none z t
  | bl b => cases (show v = Value.bool b from r); exact SeqAt.EqAt.str_bool z t b
  | int i => obtain ⟨u, rfl⟩ := (show ∃ t, v = Value.int i t from r); exact SeqAt.EqAt.str_int z t i u
  | str y => obtain ⟨u, rfl⟩ := (show ∃ t, v = Value.str y t from r); exact SeqAt.EqAt.str_str z t y u
  | @lst a xs e =>
    cases (show v = Value.ref a from r)
    obtain ⟨_, its, n, _, h1⟩ := (show ObjOk X.prog X.w H s.heap a (.lst xs) from J.hok a _ e)
    exact SeqAt.EqAt.str_list z t ⟨_, h1, rfl, n, rfl⟩ hu
  | @tup a xs e =>
    cases (show v = Value.ref a from r)
    obtain ⟨_, its, _, o, h1, h2, n, h3⟩ := (show ObjOk X.prog X.w H s.heap a (.tup xs) from J.hok a _ e)
    exact SeqAt.EqAt.str_tuple z t ⟨o, h1, h2, n, h3⟩ hu
  | @mix a kvs e =>
    cases (show v = Value.ref a from r)
    obtain ⟨⟨l, ns, _, o, es, ep, ho, hx, hd, pr⟩, _⟩ := (show ObjOk X.prog X.w H s.heap a (MixO X.w a kvs) from J.hok a _ e)
    exact eq_str_dict z t ho hx.1 hd hu
def rInM (K : PySem.W.Frag) (w : World) : R2 := fun x y H Q => ∃ (p : Addr) (zs : List Str), y = .ref p ∧ (SqL K H p (zs.map V.str) ∨ SqT K H p (zs.map V.str)) ∧ Kd K w H x ∧ Q (.bl (zs.any fun z => isStrV z x)) H
theorem strs_any {x : V} {zs : List Str} {its : List Value} (r : Vals (zs.map V.str) its) : its.any (fun u => match u with | .str z _ => isStrV z x | _ => false) = zs.any (fun z => isStrV z x) := by
  induction zs generalizing its with
  | nil => cases r; rfl
  | cons z zs ih =>
    cases r with
    | cons a b =>
      obtain ⟨t, rfl⟩ := (show ∃ t, _ = Value.str z t from a)
      rw [List.any_cons, List.any_cons, ih b]
theorem strs_mem {zs : List Str} {its : List Value} (r : Vals (zs.map V.str) its) : ∀ u ∈ its, ∃ z t, u = Value.str z t := by
  induction zs generalizing its with
  | nil => cases r; exact fun u m => absurd m List.not_mem_nil
  | cons z zs ih =>
    cases r with
    | cons a b =>
      intro u m
      rcases List.mem_cons.mp m with g | g
      · obtain ⟨t, e⟩ := (show ∃ t, _ = Value.str z t from a)
        exact ⟨z, t, g.trans e⟩
      · exact ih b u g
theorem op_inM (hu : X.A.units + 64 < cLine) : OpR X (compareOp .In) (rInM X.K X.w) := by
  intro pl s σ H x y v u Q J rx ry h
  obtain ⟨p, zs, rfl, hq, kx, q⟩ := h
  cases (show u = Value.ref p from ry)
  have each : ∀ {its : List Value} {A : Around}, A.units < cLine → Vals (zs.map V.str) its → ∀ u ∈ its, SeqAt.EqAt A s u v (match u with | .str z _ => isStrV z x | _ => false) := by
    intro its A ha r u m
    obtain ⟨z, t, rfl⟩ := strs_mem r u m
    exact eq_str_kd ha J kx rx z t
  rcases hq with hq | hq
  · obtain ⟨its, r, pl, hz⟩ := J.list hq
    refine SeqAt.in_listAt (fun u => match u with | .str z _ => isStrV z x | _ => false) pl.isList (fun u m => each (by rw [Around.in1_units]; omega) r u (by simpa using m)) ⟨.bl _, H, J, rfl, ?_⟩
    rw [List.any_toArray, strs_any r]
    exact q
  · obtain ⟨its, r, pl, hz⟩ := J.tuple hq
    refine SeqAt.in_tupleAt (fun u => match u with | .str z _ => isStrV z x | _ => false) pl (fun u m => each (by rw [Around.in1_units]; omega) r u (by simpa using m)) ⟨.bl _, H, J, rfl, ?_⟩
    rw [List.any_toArray, strs_any r]
    exact q
end
end Lw

set_option Elab.async false
set_option linter.all false
set_option maxRecDepth 100000
set_option maxHeartbeats 4000000
/-! data of any kind: what a value shows, and how large it is -/
namespace Lw
open PySem PySem.Spec PyProof.Rows L2
/-- data that can be shown: at most n levels, of weight at most m -/
structure Fine (d : PyData) (n m : Nat) : Prop where
  sh : d.showable = true
  lf : d.leavesShort 48 = true
  dep : d.depth ≤ n
  wt : d.weight ≤ m
structure FineAll (ds : List PyData) (n m : Nat) : Prop where
  ok : ∀ d ∈ ds, d.showable = true ∧ d.leavesShort 48 = true ∧ d.depth ≤ n
  wt : PyData.weightAll ds ≤ m
theorem Fine.le {d : PyData} {n m n' m' : Nat} (x : Fine d n m) (a : n ≤ n') (b : m ≤ m') : Fine d n' m' := ⟨x.sh, x.lf, Nat.le_trans x.dep a, Nat.le_trans x.wt b⟩
theorem FineAll.le {ds : List PyData} {n m n' m' : Nat} (x : FineAll ds n m) (a : n ≤ n') (b : m ≤ m') : FineAll ds n' m' := ⟨fun d h => ⟨(x.ok d h).1, (x.ok d h).2.1, Nat.le_trans (x.ok d h).2.2 a⟩, Nat.le_trans x.wt b⟩
theorem showAll_iff : ∀ ds : List PyData, PyData.showableAll ds = true ↔ ∀ d ∈ ds, d.showable = true
  | [] => ⟨fun _ d h => absurd h List.not_mem_nil, fun _ => rfl⟩
  | d :: r => by
    have e : PyData.showableAll (d :: r) = (PyData.showable d && PyData.showableAll r) := rfl
    rw [e, Bool.and_eq_true, showAll_iff r, List.forall_mem_cons]
theorem leafAll_iff (B : Nat) : ∀ ds : List PyData, PyData.leavesShortAll B ds = true ↔ ∀ d ∈ ds, d.leavesShort B = true
  | [] => ⟨fun _ d h => absurd h List.not_mem_nil, fun _ => rfl⟩
  | d :: r => by
    have e : PyData.leavesShortAll B (d :: r) = (PyData.leavesShort B d && PyData.leavesShortAll B r) := rfl
    rw [e, Bool.and_eq_true, leafAll_iff B r, List.forall_mem_cons]
theorem depAll_iff (n : Nat) : ∀ ds : List PyData, PyData.depthAll ds ≤ n ↔ ∀ d ∈ ds, d.depth ≤ n
  | [] => ⟨fun _ d h => absurd h List.not_mem_nil, fun _ => Nat.zero_le _⟩
  | d :: r => by
    rw [PyData.depthAll, Nat.max_le, depAll_iff n r, List.forall_mem_cons]
theorem FineAll.lst {ds : List PyData} {n m : Nat} (x : FineAll ds n m) : Fine (.list ds) (n + 1) m :=
  ⟨(showAll_iff ds).mpr fun d h => (x.ok d h).1, (leafAll_iff 48 ds).mpr fun d h => (x.ok d h).2.1, by rw [PyData.depth]; exact Nat.succ_le_succ ((depAll_iff n ds).mpr fun d h => (x.ok d h).2.2), x.wt⟩
theorem FineAll.tup {ds : List PyData} {n m : Nat} (x : FineAll ds n m) : Fine (.tuple ds) (n + 1) m :=
  ⟨(showAll_iff ds).mpr fun d h => (x.ok d h).1, (leafAll_iff 48 ds).mpr fun d h => (x.ok d h).2.1, by rw [PyData.depth]; exact Nat.succ_le_succ ((depAll_iff n ds).mpr fun d h => (x.ok d h).2.2), x.wt⟩
theorem Fine.items {ds : List PyData} {n m : Nat} (x : Fine (.list ds) (n + 1) m) : FineAll ds n m := by
  have h := x.dep
  rw [PyData.depth] at h
  exact ⟨fun d hd => ⟨(showAll_iff ds).mp x.sh d hd, (leafAll_iff 48 ds).mp x.lf d hd, (depAll_iff n ds).mp (Nat.le_of_succ_le_succ h) d hd⟩, x.wt⟩
theorem Fine.itemsT {ds : List PyData} {n m : Nat} (x : Fine (.tuple ds) (n + 1) m) : FineAll ds n m := by
  have h := x.dep
  rw [PyData.depth] at h
  exact ⟨fun d hd => ⟨(showAll_iff ds).mp x.sh d hd, (leafAll_iff 48 ds).mp x.lf d hd, (depAll_iff n ds).mp (Nat.le_of_succ_le_succ h) d hd⟩, x.wt⟩
theorem weight_get : ∀ {ds : List PyData} {i : Nat} {d : PyData}, ds[i]? = some d → d.weight + 1 ≤ PyData.weightAll ds
  | [], _, _, e => by simp at e
  | x :: r, 0, d, e => by cases e; rw [PyData.weightAll]; omega
  | x :: r, i + 1, d, e => by
    have := weight_get (ds := r) (i := i) (d := d) (by simpa using e)
    rw [PyData.weightAll]; omega
theorem weight_set : ∀ {ds : List PyData} {i : Nat} {d x : PyData}, ds[i]? = some d → PyData.weightAll (ds.set i x) + d.weight = PyData.weightAll ds + x.weight
  | [], _, _, _, e => by simp at e
  | y :: r, 0, d, x, e => by cases e; rw [List.set_cons_zero, PyData.weightAll, PyData.weightAll]; omega
  | y :: r, i + 1, d, x, e => by
    have := weight_set (ds := r) (i := i) (d := d) (x := x) (by simpa using e)
    rw [List.set_cons_succ, PyData.weightAll, PyData.weightAll]; omega
theorem weight_app : ∀ xs ys : List PyData, PyData.weightAll (xs ++ ys) = PyData.weightAll xs + PyData.weightAll ys
  | [], ys => by rw [List.nil_append, PyData.weightAll]; omega
  | x :: xs, ys => by rw [List.cons_append, PyData.weightAll, PyData.weightAll, weight_app xs ys]; omega
theorem weight_erase : ∀ (ds : List PyData) (i : Nat), PyData.weightAll (ds.eraseIdx i) ≤ PyData.weightAll ds
  | [], _ => Nat.le_refl _
  | x :: r, 0 => by rw [List.eraseIdx_cons_zero, PyData.weightAll]; omega
  | x :: r, i + 1 => by
    have := weight_erase r i
    rw [List.eraseIdx_cons_succ, PyData.weightAll, PyData.weightAll]; omega
theorem FineAll.get {ds : List PyData} {n m i : Nat} {d : PyData} (x : FineAll ds n m) (e : ds[i]? = some d) : Fine d n m := by
  obtain ⟨a, b, c⟩ := x.ok d (List.mem_of_getElem? e)
  exact ⟨a, b, c, by have := weight_get e; have := x.wt; omega⟩
theorem FineAll.erase {ds : List PyData} {n m : Nat} (x : FineAll ds n m) (i : Nat) : FineAll (ds.eraseIdx i) n m := ⟨fun d h => x.ok d (List.mem_of_mem_eraseIdx h), Nat.le_trans (weight_erase ds i) x.wt⟩
/-- an item put in the place of another one -/
theorem FineAll.put {ds : List PyData} {n m i k l : Nat} {d y : PyData} (x : FineAll ds n m) (e : ds[i]? = some d) (z : Fine y n k) (h : k ≤ 2 * d.weight + l) : FineAll (ds.set i y) n (2 * m + l) := by
  refine ⟨fun q hq => ?_, ?_⟩
  · rcases List.mem_or_eq_of_mem_set hq with g | g
    · exact x.ok q g
    · subst g; exact ⟨z.sh, z.lf, z.dep⟩
  · have h1 := weight_set (x := y) e
    have h2 := weight_get e
    have h3 := x.wt
    have h4 := z.wt
    omega
/-- an item told twice -/
theorem FineAll.twice {ds : List PyData} {n m i : Nat} {d : PyData} (x : FineAll ds n m) (e : ds[i]? = some d) : FineAll (ds.take i ++ [d] ++ ds.drop i) n (2 * m) := by
  have w : PyData.weightAll (ds.take i ++ [d] ++ ds.drop i) = PyData.weightAll ds + d.weight + 1 := by
    have h := weight_app (ds.take i) (ds.drop i)
    rw [List.take_append_drop] at h
    rw [weight_app, weight_app, h, PyData.weightAll, PyData.weightAll]
    omega
  refine ⟨fun q hq => ?_, ?_⟩
  · rcases List.mem_append.mp hq with g | g
    · rcases List.mem_append.mp g with g | g
      · exact x.ok q (List.mem_of_mem_take g)
      · cases List.mem_singleton.mp g
        exact x.ok d (List.mem_of_getElem? e)
    · exact x.ok q (List.mem_of_mem_drop g)
  · rw [w]
    have h2 := weight_get e
    have h3 := x.wt
    omega
theorem FineAll.snoc {ds : List PyData} {n m k : Nat} {d : PyData} (x : FineAll ds n m) (z : Fine d n k) : FineAll (ds ++ [d]) n (m + k + 1) := by
  refine ⟨fun q hq => ?_, ?_⟩
  · rcases List.mem_append.mp hq with g | g
    · exact x.ok q g
    · cases List.mem_singleton.mp g
      exact ⟨z.sh, z.lf, z.dep⟩
  · rw [weight_app, PyData.weightAll, PyData.weightAll]
    have := x.wt
    have := z.wt
    omega
theorem FineAll.nil {n m : Nat} : FineAll [] n m := ⟨fun d h => absurd h List.not_mem_nil, Nat.zero_le _⟩
theorem FineAll.cons {d : PyData} {ds : List PyData} {n m k : Nat} (z : Fine d n k) (x : FineAll ds n m) : FineAll (d :: ds) n (k + 1 + m) := by
  refine ⟨fun q hq => ?_, ?_⟩
  · rcases List.mem_cons.mp hq with g | g
    · subst g; exact ⟨z.sh, z.lf, z.dep⟩
    · exact x.ok q g
  · rw [PyData.weightAll]
    have := x.wt
    have := z.wt
    omega
theorem kv_zip : ∀ {ks ds : List PyData}, ks.length = ds.length → PyData.weightKv (ks.zip ds) = PyData.weightAll ks + PyData.weightAll ds ∧ (PyData.showableKv (ks.zip ds) = true ↔ PyData.showableAll ks = true ∧ PyData.showableAll ds = true) ∧
    (PyData.leavesShortKv 48 (ks.zip ds) = true ↔ PyData.leavesShortAll 48 ks = true ∧ PyData.leavesShortAll 48 ds = true) ∧ ∀ n, PyData.depthKv (ks.zip ds) ≤ n ↔ PyData.depthAll ks ≤ n ∧ PyData.depthAll ds ≤ n
  | [], [], _ => ⟨rfl, ⟨fun _ => ⟨rfl, rfl⟩, fun _ => rfl⟩, ⟨fun _ => ⟨rfl, rfl⟩, fun _ => rfl⟩, fun n => ⟨fun _ => ⟨Nat.zero_le _, Nat.zero_le _⟩, fun _ => Nat.zero_le _⟩⟩
  | k :: ks, d :: ds, e => by
    obtain ⟨h1, h2, h3, h4⟩ := kv_zip (ks := ks) (ds := ds) (by simpa using e)
    rw [List.zip_cons_cons]
    refine ⟨?_, ?_, ?_, fun n => ?_⟩
    · rw [PyData.weightKv, PyData.weightAll, PyData.weightAll, h1]; omega
    · show (PyData.showable k && PyData.showable d && PyData.showableKv (ks.zip ds)) = true ↔ (PyData.showable k && PyData.showableAll ks) = true ∧ (PyData.showable d && PyData.showableAll ds) = true
      simp only [Bool.and_eq_true, h2]
      exact ⟨fun ⟨⟨a, b⟩, c, d⟩ => ⟨⟨a, c⟩, b, d⟩, fun ⟨⟨a, c⟩, b, d⟩ => ⟨⟨a, b⟩, c, d⟩⟩
    · show (PyData.leavesShort 48 k && PyData.leavesShort 48 d && PyData.leavesShortKv 48 (ks.zip ds)) = true ↔ (PyData.leavesShort 48 k && PyData.leavesShortAll 48 ks) = true ∧ (PyData.leavesShort 48 d && PyData.leavesShortAll 48 ds) = true
      simp only [Bool.and_eq_true, h3]
      exact ⟨fun ⟨⟨a, b⟩, c, d⟩ => ⟨⟨a, c⟩, b, d⟩, fun ⟨⟨a, c⟩, b, d⟩ => ⟨⟨a, b⟩, c, d⟩⟩
    · rw [PyData.depthKv, PyData.depthAll, PyData.depthAll, Nat.max_le, Nat.max_le, Nat.max_le, Nat.max_le, h4 n]
      exact ⟨fun ⟨⟨a, b⟩, c, d⟩ => ⟨⟨a, c⟩, b, d⟩, fun ⟨⟨a, c⟩, b, d⟩ => ⟨⟨a, b⟩, c, d⟩⟩
theorem FineAll.dct {ks ds : List PyData} {n m k : Nat} (e : ks.length = ds.length) (x : FineAll ks n k) (y : FineAll ds n m) : Fine (.dict (ks.zip ds)) (n + 1) (k + m) := by
  obtain ⟨h1, h2, h3, h4⟩ := kv_zip e
  refine ⟨h2.mpr ⟨(showAll_iff ks).mpr fun d h => (x.ok d h).1, (showAll_iff ds).mpr fun d h => (y.ok d h).1⟩, h3.mpr ⟨(leafAll_iff 48 ks).mpr fun d h => (x.ok d h).2.1, (leafAll_iff 48 ds).mpr fun d h => (y.ok d h).2.1⟩, ?_, ?_⟩
  · rw [PyData.depth]
    exact Nat.succ_le_succ ((h4 n).mpr ⟨(depAll_iff n ks).mpr fun d h => (x.ok d h).2.2, (depAll_iff n ds).mpr fun d h => (y.ok d h).2.2⟩)
  · show PyData.weightKv (ks.zip ds) ≤ _
    have := x.wt
    have := y.wt
    omega
theorem Fine.kvs {ks ds : List PyData} {n m : Nat} (e : ks.length = ds.length) (x : Fine (.dict (ks.zip ds)) (n + 1) m) : FineAll ks n (PyData.weightAll ks) ∧ FineAll ds n (PyData.weightAll ds) ∧ PyData.weightAll ks + PyData.weightAll ds ≤ m := by
  obtain ⟨h1, h2, h3, h4⟩ := kv_zip e
  obtain ⟨s1, s2⟩ := h2.mp x.sh
  obtain ⟨l1, l2⟩ := h3.mp x.lf
  have hd := x.dep
  rw [PyData.depth] at hd
  obtain ⟨d1, d2⟩ := (h4 n).mp (Nat.le_of_succ_le_succ hd)
  refine ⟨⟨fun d h => ⟨(showAll_iff ks).mp s1 d h, (leafAll_iff 48 ks).mp l1 d h, (depAll_iff n ks).mp d1 d h⟩, Nat.le_refl _⟩, ⟨fun d h => ⟨(showAll_iff ds).mp s2 d h, (leafAll_iff 48 ds).mp l2 d h, (depAll_iff n ds).mp d2 d h⟩, Nat.le_refl _⟩, ?_⟩
  rw [← h1]
  exact x.wt
theorem Fine.fits {d : PyData} {n m : Nat} (x : Fine d n m) (hn : n ≤ 40) (hm : m ≤ 100000) : d.showable = true ∧ d.depth ≤ 40 ∧ d.shown.length ≤ sizeLine := by
  refine ⟨x.sh, Nat.le_trans x.dep hn, ?_⟩
  have h := PyData.shown_le 48 (by decide) d x.lf
  have w := x.wt
  rw [sizeLine_eq]
  omega
/-- all signs of a text are low -/
def LowS (z : Str) : Prop := ∀ c ∈ z.cps.toList, c < 256
theorem Fine.non : Fine .none 0 0 := ⟨rfl, rfl, Nat.le_refl _, Nat.le_refl _⟩
theorem Fine.bl (b : Bool) : Fine (.bool b) 0 0 := ⟨rfl, rfl, Nat.le_refl _, Nat.le_refl _⟩
theorem Fine.str {z : Str} {m : Nat} (h : LowS z) (l : z.length ≤ m) : Fine (.str z) 0 m := by
  refine ⟨rfl, ?_, Nat.le_refl _, l⟩
  show (z.cps.toList.all fun c => decide (c < 16 ^ 8)) = true
  rw [List.all_eq_true]
  exact fun c hc => decide_eq_true (Nat.lt_of_lt_of_le (h c hc) (by decide))
end Lw

set_option Elab.async false
set_option linter.all false
set_option maxRecDepth 100000
set_option maxHeartbeats 4000000
/-! trees of plain data: lists, tuples, dicts of texts; the places that they take -/
namespace Lw
open PySem PySem.Spec PyProof.Rows L2
inductive Tr where
  | non | bl (b : Bool) | int (i : Int) | str (z : Str)
  | lst (xs : List Tr) | tup (xs : List Tr)
  | dct (ks : List Str) (xs : List Tr)
mutual
/-- in the heap H the value v is the tree t; all its places are such -/
inductive DT (H : Hp) (A : Addr → Prop) : V → Tr → Prop
  | non : DT H A .non .non
  | bl (b : Bool) : DT H A (.bl b) (.bl b)
  | int (i : Int) : DT H A (.int i) (.int i)
  | str (z : Str) : DT H A (.str z) (.str z)
  | lst {a : Addr} {xs : List V} {ts : List Tr} (e : H a = some (.lst xs)) (n : A a) (d : DTs H A xs ts) : DT H A (.ref a) (.lst ts)
  | tup {a : Addr} {xs : List V} {ts : List Tr} (e : H a = some (.tup xs)) (n : A a) (d : DTs H A xs ts) : DT H A (.ref a) (.tup ts)
  | dct {a : Addr} {kvs : List (Key × V)} {ks : List Str} {ts : List Tr} (e : H a = some (.dK kvs)) (n : A a) (k : kvs.map (·.1) = ks.map Sum.inr) (nd : ks.Nodup) (few : ks.length < 64) (d : DTs H A (kvs.map (·.2)) ts) : DT H A (.ref a) (.dct ks ts)
inductive DTs (H : Hp) (A : Addr → Prop) : List V → List Tr → Prop
  | nil : DTs H A [] []
  | cons {v : V} {vs : List V} {t : Tr} {ts : List Tr} (x : DT H A v t) (y : DTs H A vs ts) : DTs H A (v :: vs) (t :: ts)
end
section
variable {H H' : Hp} {A B : Addr → Prop}
mutual
theorem DT.mono (s : ∀ a o, A a → H a = some o → H' a = some o) : ∀ {v : V} {t : Tr}, DT H A v t → DT H' A v t
  | _, _, .non => .non
  | _, _, .bl b => .bl b
  | _, _, .int i => .int i
  | _, _, .str z => .str z
  | _, _, .lst e n d => .lst (s _ _ n e) n (DTs.mono s d)
  | _, _, .tup e n d => .tup (s _ _ n e) n (DTs.mono s d)
  | _, _, .dct e n k nd few d => .dct (s _ _ n e) n k nd few (DTs.mono s d)
theorem DTs.mono (s : ∀ a o, A a → H a = some o → H' a = some o) : ∀ {vs : List V} {ts : List Tr}, DTs H A vs ts → DTs H' A vs ts
  | _, _, .nil => .nil
  | _, _, .cons x y => .cons (DT.mono s x) (DTs.mono s y)
end
mutual
theorem DT.sub (s : ∀ a, A a → B a) : ∀ {v : V} {t : Tr}, DT H A v t → DT H B v t
  | _, _, .non => .non
  | _, _, .bl b => .bl b
  | _, _, .int i => .int i
  | _, _, .str z => .str z
  | _, _, .lst e n d => .lst e (s _ n) (DTs.sub s d)
  | _, _, .tup e n d => .tup e (s _ n) (DTs.sub s d)
  | _, _, .dct e n k nd few d => .dct e (s _ n) k nd few (DTs.sub s d)
theorem DTs.sub (s : ∀ a, A a → B a) : ∀ {vs : List V} {ts : List Tr}, DTs H A vs ts → DTs H B vs ts
  | _, _, .nil => .nil
  | _, _, .cons x y => .cons (DT.sub s x) (DTs.sub s y)
end
theorem DT.same {v : V} {t : Tr} (x : DT H A v t) (s : Same H H') : DT H' A v t := x.mono fun a o _ e => s a o e
theorem DTs.same {vs : List V} {ts : List Tr} (x : DTs H A vs ts) (s : Same H H') : DTs H' A vs ts := x.mono fun a o _ e => s a o e
theorem DTs.len : ∀ {vs : List V} {ts : List Tr}, DTs H A vs ts → vs.length = ts.length
  | _, _, .nil => rfl
  | _, _, .cons _ y => by rw [List.length_cons, List.length_cons, DTs.len y]
theorem DTs.get : ∀ {vs : List V} {ts : List Tr} {i : Nat} {v : V}, DTs H A vs ts → vs[i]? = some v → ∃ t, ts[i]? = some t ∧ DT H A v t
  | _, _, _, _, .nil, e => by simp at e
  | _, _, 0, _, .cons x _, e => by cases e; exact ⟨_, rfl, x⟩
  | _, _, i + 1, _, .cons _ y, e => by
    obtain ⟨t, e1, e2⟩ := DTs.get (i := i) y (by simpa using e)
    exact ⟨t, by simpa using e1, e2⟩
theorem DTs.at {vs : List V} {ts : List Tr} {i : Nat} {t : Tr} (x : DTs H A vs ts) (e : ts[i]? = some t) : ∃ v, vs[i]? = some v ∧ DT H A v t := by
  have li : i < vs.length := by rw [x.len]; exact (List.getElem?_eq_some_iff.mp e).1
  obtain ⟨t', e1, d⟩ := x.get (List.getElem?_eq_getElem li)
  rw [e] at e1
  cases e1
  exact ⟨vs[i], List.getElem?_eq_getElem li, d⟩
theorem DTs.snoc : ∀ {vs : List V} {ts : List Tr} {v : V} {t : Tr}, DTs H A vs ts → DT H A v t → DTs H A (vs ++ [v]) (ts ++ [t])
  | _, _, _, _, .nil, x => .cons x .nil
  | _, _, _, _, .cons z y, x => .cons z (DTs.snoc y x)
theorem DTs.strs : ∀ {vs : List V} {ws : List Str}, DTs H A vs (ws.map Tr.str) → vs = ws.map V.str
  | _, [], .nil => rfl
  | _, w :: ws, .cons x y => by
    cases x
    rw [DTs.strs y]
    rfl
theorem DTs.ofStrs : ∀ ws : List Str, DTs H A (ws.map V.str) (ws.map Tr.str)
  | [] => .nil
  | w :: r => .cons (.str w) (DTs.ofStrs r)
theorem DT.lstI {v : V} {ts : List Tr} (x : DT H A v (.lst ts)) : ∃ a xs, v = .ref a ∧ H a = some (.lst xs) ∧ A a ∧ DTs H A xs ts := by
  cases x with
  | lst e n d => exact ⟨_, _, rfl, e, n, d⟩
theorem DT.tupI {v : V} {ts : List Tr} (x : DT H A v (.tup ts)) : ∃ a xs, v = .ref a ∧ H a = some (.tup xs) ∧ A a ∧ DTs H A xs ts := by
  cases x with
  | tup e n d => exact ⟨_, _, rfl, e, n, d⟩
theorem DT.dctI {v : V} {ks : List Str} {ts : List Tr} (x : DT H A v (.dct ks ts)) : ∃ a kvs, v = .ref a ∧ H a = some (.dK kvs) ∧ A a ∧ kvs.map (·.1) = ks.map Sum.inr ∧ ks.Nodup ∧ ks.length < 64 ∧ DTs H A (kvs.map (·.2)) ts := by
  cases x with
  | dct e n k nd few d => exact ⟨_, _, rfl, e, n, k, nd, few, d⟩
end
/-! ### what is shown -/
mutual
def Tr.data : Tr → PyData
  | .non => .none
  | .bl b => .bool b
  | .int i => .int i
  | .str z => .str z
  | .lst xs => .list (Tr.datas xs)
  | .tup xs => .tuple (Tr.datas xs)
  | .dct ks xs => .dict ((ks.map PyData.str).zip (Tr.datas xs))
def Tr.datas : List Tr → List PyData
  | [] => []
  | x :: r => x.data :: Tr.datas r
end
theorem datas_map : ∀ ts : List Tr, Tr.datas ts = ts.map Tr.data
  | [] => rfl
  | t :: r => by rw [Tr.datas, datas_map r]; rfl
/-! ### a dict's values -/
def lookT (ks : List Str) (ts : List Tr) (z : Str) : Option Tr := ((ks.zip ts).find? fun p => decide (p.1 = z)).map (·.2)
theorem look_at {ks : List Str} {ts : List Tr} {i : Nat} {z : Str} {t : Tr} (nd : ks.Nodup) (hk : ks[i]? = some z) (ht : ts[i]? = some t) : lookT ks ts z = some t := by
  induction ks generalizing ts i with
  | nil => simp at hk
  | cons k r ih =>
    cases ts with
    | nil => simp at ht
    | cons t' ts =>
      cases i with
      | zero =>
        cases hk
        cases ht
        unfold lookT
        rw [List.zip_cons_cons, List.find?_cons_of_pos (by exact decide_eq_true rfl)]
        rfl
      | succ i =>
        have hk' : r[i]? = some z := by simpa using hk
        have ht' : ts[i]? = some t := by simpa using ht
        have ne : ¬ k = z := fun e => (List.nodup_cons.mp nd).1 (e ▸ List.mem_of_getElem? hk')
        unfold lookT
        rw [List.zip_cons_cons, List.find?_cons_of_neg (by rw [decide_eq_true_eq]; exact ne)]
        exact ih (List.nodup_cons.mp nd).2 hk' ht'
/-- a key's value, in the heap -/
theorem DT.look {H : Hp} {A : Addr → Prop} {kvs : List (Key × V)} {ks : List Str} {ts : List Tr} {z : Str} (k : kvs.map (·.1) = ks.map Sum.inr) (d : DTs H A (kvs.map (·.2)) ts) (m : z ∈ ks) : ∃ v t, valV kvs (.inr z) = some v ∧ lookT ks ts z = some t ∧ DT H A v t := by
  induction ks generalizing kvs ts with
  | nil => cases m
  | cons y r ih =>
    cases kvs with
    | nil => cases k
    | cons p kvs =>
      obtain ⟨k1, k2⟩ := List.cons.inj k
      cases d with
      | @cons _ _ t ts x y' =>
        obtain ⟨pk, pv⟩ := p
        have k1 : pk = Sum.inr y := k1
        subst k1
        by_cases q : y = z
        · subst q
          refine ⟨pv, t, ?_, ?_, x⟩
          · show ((List.find? _ ((Sum.inr y, pv) :: kvs)).map _) = _
            rw [List.find?_cons_of_pos (by exact decide_eq_true rfl)]
            rfl
          · unfold lookT
            rw [List.zip_cons_cons, List.find?_cons_of_pos (by exact decide_eq_true rfl)]
            rfl
        · obtain ⟨v, t', e1, e2, e3⟩ := ih k2 y' (by
            rcases List.mem_cons.mp m with h | h
            · exact absurd h.symm q
            · exact h)
          refine ⟨v, t', ?_, ?_, e3⟩
          · show ((List.find? _ ((Sum.inr y, pv) :: kvs)).map _) = _
            rw [List.find?_cons_of_neg (by rw [decide_eq_true_eq]; exact fun n => q (Sum.inr.inj n))]
            exact e1
          · unfold lookT
            rw [List.zip_cons_cons, List.find?_cons_of_neg (by rw [decide_eq_true_eq]; exact q)]
            exact e2
end Lw

set_option Elab.async false
set_option linter.all false
set_option maxRecDepth 100000
set_option maxHeartbeats 4000000
namespace Lw
open PySem PySem.Spec PyProof.Rows L2
/-! ### sorted texts -/
abbrev leS (a b : Str) : Bool := decide (a.cps.toList ≤ b.cps.toList)
theorem rising_of : ∀ (p : Str) (r : List Str), (p :: r).Pairwise (fun a b => a.cps.toList ≤ b.cps.toList) → risingS p r = true
  | p, [], _ => rfl
  | p, x :: r, h => by
    obtain ⟨h1, h2⟩ := List.pairwise_cons.mp h
    have ih := rising_of x r h2
    simp only [risingS, Bool.and_eq_true, Bool.not_eq_true']
    refine ⟨?_, ih⟩
    rw [ltCps_eq]
    exact decide_eq_false (List.not_lt.mpr (h1 x List.mem_cons_self))
theorem rising_pw : ∀ (p : Str) (r : List Str), risingS p r = true → (p :: r).Pairwise (fun a b => a.cps.toList ≤ b.cps.toList)
  | p, [], _ => by simp
  | p, x :: r, h => by
    simp only [risingS, Bool.and_eq_true, Bool.not_eq_true'] at h
    obtain ⟨h1, h2⟩ := h
    have ih := rising_pw x r h2
    have le : p.cps.toList ≤ x.cps.toList := by
      rw [ltCps_eq] at h1
      exact List.not_lt.mp (of_decide_eq_false h1)
    refine List.pairwise_cons.mpr ⟨fun y hy => ?_, ih⟩
    rcases List.mem_cons.mp hy with e | e
    · rw [e]; exact le
    · exact List.le_trans le ((List.pairwise_cons.mp ih).1 y e)
theorem sorted_pw : ∀ {l : List Str}, sortedS l = true → l.Pairwise (fun a b => a.cps.toList ≤ b.cps.toList)
  | [], _ => List.Pairwise.nil
  | x :: r, h => rising_pw x r h
theorem sorted_one {xs ys : List Str} (p : xs.Perm ys) (hx : sortedS xs = true) (hy : sortedS ys = true) : xs = ys :=
  List.Perm.eq_of_pairwise (le := fun a b : Str => a.cps.toList ≤ b.cps.toList) (fun a b _ _ h h' => by
    have e := List.le_antisymm h h'
    cases a
    cases b
    congr 1
    exact Array.toList_inj.mp e) (sorted_pw hx) (sorted_pw hy) p
def sortT (ks : List Str) : List Str := ks.mergeSort leS
theorem sortT_perm (ks : List Str) : (sortT ks).Perm ks := List.mergeSort_perm ks leS
theorem sortT_sorted (ks : List Str) : sortedS (sortT ks) = true := by
  have h : (sortT ks).Pairwise (fun a b => leS a b = true) := List.pairwise_mergeSort (le := leS) (fun a b c h1 h2 => decide_eq_true (List.le_trans (of_decide_eq_true h1) (of_decide_eq_true h2))) (fun a b => by
    rcases List.le_total a.cps.toList b.cps.toList with h | h
    · simp [leS, h]
    · simp [leS, h]) ks
  have h2 : (sortT ks).Pairwise (fun a b => a.cps.toList ≤ b.cps.toList) := h.imp fun h => of_decide_eq_true h
  cases e : sortT ks with
  | nil => rfl
  | cons x r =>
    rw [e] at h2
    exact rising_of x r h2
theorem sort_eq {ys ks : List Str} (p : ys.Perm ks) (h : sortedS ys = true) : ys = sortT ks := sorted_one (p.trans (sortT_perm ks).symm) h (sortT_sorted ks)
theorem sortT_nodup {ks : List Str} (h : ks.Nodup) : (sortT ks).Nodup := (sortT_perm ks).nodup_iff.mpr h
theorem sortT_mem {ks : List Str} {z : Str} : z ∈ sortT ks ↔ z ∈ ks := (sortT_perm ks).mem_iff
theorem sortT_len (ks : List Str) : (sortT ks).length = ks.length := (sortT_perm ks).length_eq
/-! ### copies with dicts in order -/
mutual
def Tr.canon : Tr → Tr
  | .non => .non
  | .bl b => .bl b
  | .int i => .int i
  | .str z => .str z
  | .lst xs => .lst (Tr.canons xs)
  | .tup xs => .tup (Tr.canons xs)
  | .dct ks xs => .dct (sortT ks) ((sortT ks).map fun z => (lookT ks (Tr.canons xs) z).getD .non)
def Tr.canons : List Tr → List Tr
  | [] => []
  | x :: r => x.canon :: Tr.canons r
end
theorem canons_map : ∀ ts : List Tr, Tr.canons ts = ts.map Tr.canon
  | [] => rfl
  | t :: r => by rw [Tr.canons, canons_map r]; rfl
theorem look_map {f : Tr → Tr} (ks : List Str) (ts : List Tr) (z : Str) : lookT ks (ts.map f) z = (lookT ks ts z).map f := by
  induction ks generalizing ts with
  | nil => rfl
  | cons k r ih =>
    cases ts with
    | nil => rfl
    | cons t ts =>
      unfold lookT
      rw [List.map_cons, List.zip_cons_cons, List.zip_cons_cons]
      by_cases q : k = z
      · rw [List.find?_cons_of_pos (by exact decide_eq_true q), List.find?_cons_of_pos (by exact decide_eq_true q)]
        rfl
      · rw [List.find?_cons_of_neg (by rw [decide_eq_true_eq]; exact q), List.find?_cons_of_neg (by rw [decide_eq_true_eq]; exact q)]
        exact ih ts
mutual
def Tr.depth : Tr → Nat
  | .lst xs => Tr.depths xs + 1
  | .tup xs => Tr.depths xs + 1
  | .dct _ xs => Tr.depths xs + 1
  | .non => 0
  | .bl _ => 0
  | .int _ => 0
  | .str _ => 0
def Tr.depths : List Tr → Nat
  | [] => 0
  | x :: r => max x.depth (Tr.depths r)
end
mutual
/-- no list of more than a thousand -/
def Tr.few : Tr → Bool
  | .lst xs => decide (xs.length ≤ 1000) && Tr.fews xs
  | .tup xs => decide (xs.length ≤ 1000) && Tr.fews xs
  | .dct _ xs => Tr.fews xs
  | .non => true
  | .bl _ => true
  | .int _ => true
  | .str _ => true
def Tr.fews : List Tr → Bool
  | [] => true
  | x :: r => x.few && Tr.fews r
end
theorem depth_mem : ∀ {ts : List Tr} {t : Tr}, t ∈ ts → t.depth ≤ Tr.depths ts
  | x :: r, t, h => by
    rw [Tr.depths]
    rcases List.mem_cons.mp h with e | e
    · rw [e]; exact Nat.le_max_left _ _
    · exact Nat.le_trans (depth_mem e) (Nat.le_max_right _ _)
theorem few_mem : ∀ {ts : List Tr} {t : Tr}, t ∈ ts → Tr.fews ts = true → t.few = true
  | x :: r, t, h, f => by
    rw [Tr.fews, Bool.and_eq_true] at f
    rcases List.mem_cons.mp h with e | e
    · rw [e]; exact f.1
    · exact few_mem e f.2
/-- a comprehension of a dict over a list that stays -/
theorem dc_list {K : PySem.W.Frag} {a : Addr} {xs : List V} {g : TG} {tt : TT} {tk tv : TE} {vs : List Nat} {σ : L2.St} {H1 : Hp} {D : Addr} {Qd : Hp → Prop} (Pv : Nat → Hp → Prop) (first : Pv 0 (upd H1 D (.dK []))) (stays : ∀ i H, i ≤ xs.length → Pv i H → SqL K H a xs)
    (turn : ∀ i x H, xs[i]? = some x → Pv i H → g x (wipe σ vs) H fun σ2 H2 => wipe σ2 vs = wipe σ vs ∧ tt σ2 H2 fun b H3 => if b = true then tk σ2 H3 fun y H4 => tv σ2 H4 fun z H5 => ∃ kvs k, y = kV k ∧ H5 D = some (.dK kvs) ∧ kvs.length < sizeLine ∧ Pv (i + 1) (upd H5 D (.dK (putK kvs k z))) else Pv (i + 1) H3)
    (last : ∀ H, Pv xs.length H → Qd H) :
    ∃ W : Nat → Nat → Hp → Prop, (∃ m, W 0 m (upd H1 D (.dK []))) ∧ ∀ i m H, W i m H →
      ((Itl K a).stop i H ∧ Qd H) ∨ ((Itl K a).go i H ∧ ∃ Nx : Hp → Prop, (∀ H', Nx H' → ∃ m', m' < m ∧ W (i + 1) m' H') ∧ ∀ x H', (Itl K a).yld i H x H' → g x (wipe σ vs) H' fun σ2 H2 => wipe σ2 vs = wipe σ vs ∧ tt σ2 H2 fun b H3 =>
        if b = true then tk σ2 H3 fun y H4 => tv σ2 H4 fun z H5 => ∃ kvs k, y = kV k ∧ H5 D = some (.dK kvs) ∧ kvs.length < sizeLine ∧ Nx (upd H5 D (.dK (putK kvs k z))) else Nx H3) := by
  refine ⟨fun i m H => m = xs.length - i ∧ i ≤ xs.length ∧ Pv i H, ⟨_, rfl, Nat.zero_le _, first⟩, fun i m H hw => ?_⟩
  obtain ⟨rfl, hi, p⟩ := hw
  have sq := stays i H hi p
  rcases Nat.lt_or_ge i xs.length with lt | ge
  · refine .inr ⟨⟨xs, xs[i], sq, List.getElem?_eq_getElem lt⟩, Pv (i + 1), fun H' p' => ⟨_, by omega, rfl, lt, p'⟩, fun x H' y => ?_⟩
    obtain ⟨rfl, y⟩ := y
    exact turn i x _ (y xs sq) p
  · obtain rfl : i = xs.length := Nat.le_antisymm hi ge
    exact .inl ⟨⟨xs, sq, Nat.le_refl _⟩, last H p⟩
end Lw

set_option Elab.async false
set_option linter.all false
set_option maxRecDepth 100000
set_option maxHeartbeats 4000000
/-! trees with the list of all their places: none twice where that list has none twice -/
namespace Lw
open PySem PySem.Spec PyProof.Rows L2
mutual
inductive DL (H : Hp) : List Addr → V → Tr → Prop
  | non : DL H [] .non .non
  | bl (b : Bool) : DL H [] (.bl b) (.bl b)
  | int (i : Int) : DL H [] (.int i) (.int i)
  | str (z : Str) : DL H [] (.str z) (.str z)
  | lst {a : Addr} {L : List Addr} {xs : List V} {ts : List Tr} (e : H a = some (.lst xs)) (d : DLs H L xs ts) : DL H (a :: L) (.ref a) (.lst ts)
  | tup {a : Addr} {L : List Addr} {xs : List V} {ts : List Tr} (e : H a = some (.tup xs)) (d : DLs H L xs ts) : DL H (a :: L) (.ref a) (.tup ts)
  | dct {a : Addr} {L : List Addr} {kvs : List (Key × V)} {ks : List Str} {ts : List Tr} (e : H a = some (.dK kvs)) (k : kvs.map (·.1) = ks.map Sum.inr) (nd : ks.Nodup) (few : ks.length < 64) (d : DLs H L (kvs.map (·.2)) ts) : DL H (a :: L) (.ref a) (.dct ks ts)
inductive DLs (H : Hp) : List Addr → List V → List Tr → Prop
  | nil : DLs H [] [] []
  | cons {L M : List Addr} {v : V} {vs : List V} {t : Tr} {ts : List Tr} (x : DL H L v t) (y : DLs H M vs ts) : DLs H (L ++ M) (v :: vs) (t :: ts)
end
section
variable {H H' : Hp} {A : Addr → Prop}
mutual
theorem DL.dt : ∀ {L : List Addr} {v : V} {t : Tr}, DL H L v t → (∀ a ∈ L, A a) → DT H A v t
  | _, _, _, .non, _ => .non
  | _, _, _, .bl b, _ => .bl b
  | _, _, _, .int i, _ => .int i
  | _, _, _, .str z, _ => .str z
  | _, _, _, .lst e d, s => .lst e (s _ List.mem_cons_self) (DLs.dts d fun a h => s a (List.mem_cons_of_mem _ h))
  | _, _, _, .tup e d, s => .tup e (s _ List.mem_cons_self) (DLs.dts d fun a h => s a (List.mem_cons_of_mem _ h))
  | _, _, _, .dct e k nd few d, s => .dct e (s _ List.mem_cons_self) k nd few (DLs.dts d fun a h => s a (List.mem_cons_of_mem _ h))
theorem DLs.dts : ∀ {L : List Addr} {vs : List V} {ts : List Tr}, DLs H L vs ts → (∀ a ∈ L, A a) → DTs H A vs ts
  | _, _, _, .nil, _ => .nil
  | _, _, _, .cons x y, s => .cons (DL.dt x fun a h => s a (List.mem_append_left _ h)) (DLs.dts y fun a h => s a (List.mem_append_right _ h))
end
mutual
theorem DL.keep : ∀ {L : List Addr} {v : V} {t : Tr}, DL H L v t → (∀ a ∈ L, ∀ o, H a = some o → H' a = some o) → DL H' L v t
  | _, _, _, .non, _ => .non
  | _, _, _, .bl b, _ => .bl b
  | _, _, _, .int i, _ => .int i
  | _, _, _, .str z, _ => .str z
  | _, _, _, .lst e d, s => .lst (s _ List.mem_cons_self _ e) (DLs.keep d fun a h => s a (List.mem_cons_of_mem _ h))
  | _, _, _, .tup e d, s => .tup (s _ List.mem_cons_self _ e) (DLs.keep d fun a h => s a (List.mem_cons_of_mem _ h))
  | _, _, _, .dct e k nd few d, s => .dct (s _ List.mem_cons_self _ e) k nd few (DLs.keep d fun a h => s a (List.mem_cons_of_mem _ h))
theorem DLs.keep : ∀ {L : List Addr} {vs : List V} {ts : List Tr}, DLs H L vs ts → (∀ a ∈ L, ∀ o, H a = some o → H' a = some o) → DLs H' L vs ts
  | _, _, _, .nil, _ => .nil
  | _, _, _, .cons x y, s => .cons (DL.keep x fun a h => s a (List.mem_append_left _ h)) (DLs.keep y fun a h => s a (List.mem_append_right _ h))
end
mutual
theorem DL.there : ∀ {L : List Addr} {v : V} {t : Tr}, DL H L v t → ∀ a ∈ L, ∃ o, H a = some o
  | _, _, _, .lst e d, a, h => by
    rcases List.mem_cons.mp h with q | q
    · subst q; exact ⟨_, e⟩
    · exact DLs.there d a q
  | _, _, _, .tup e d, a, h => by
    rcases List.mem_cons.mp h with q | q
    · subst q; exact ⟨_, e⟩
    · exact DLs.there d a q
  | _, _, _, .dct e k nd few d, a, h => by
    rcases List.mem_cons.mp h with q | q
    · subst q; exact ⟨_, e⟩
    · exact DLs.there d a q
theorem DLs.there : ∀ {L : List Addr} {vs : List V} {ts : List Tr}, DLs H L vs ts → ∀ a ∈ L, ∃ o, H a = some o
  | _, _, _, .cons x y, a, h => by
    rcases List.mem_append.mp h with q | q
    · exact DL.there x a q
    · exact DLs.there y a q
end
theorem DL.same {L : List Addr} {v : V} {t : Tr} (x : DL H L v t) (s : Same H H') : DL H' L v t := x.keep fun a _ o e => s a o e
theorem DLs.same {L : List Addr} {vs : List V} {ts : List Tr} (x : DLs H L vs ts) (s : Same H H') : DLs H' L vs ts := x.keep fun a _ o e => s a o e
theorem DLs.len : ∀ {L : List Addr} {vs : List V} {ts : List Tr}, DLs H L vs ts → vs.length = ts.length
  | _, _, _, .nil => rfl
  | _, _, _, .cons _ y => by rw [List.length_cons, List.length_cons, DLs.len y]
theorem DLs.snoc : ∀ {L M : List Addr} {vs : List V} {ts : List Tr} {v : V} {t : Tr}, DLs H L vs ts → DL H M v t → DLs H (L ++ M) (vs ++ [v]) (ts ++ [t])
  | _, M, _, _, _, _, .nil, x => by
    have h := DLs.cons x .nil
    rw [List.append_nil] at h
    exact h
  | _, _, _, _, _, _, .cons z y, x => by
    rw [List.append_assoc]
    exact .cons z (DLs.snoc y x)
end
/-- new places beside older ones -/
theorem nodup_new {H : Hp} {L M : List Addr} (hL : L.Nodup) (hM : M.Nodup) (there : ∀ a ∈ L, ∃ o, H a = some o) (new : ∀ a ∈ M, H a = none) : (L ++ M).Nodup :=
  List.nodup_append.mpr ⟨hL, hM, fun a ha b hb e => by
    obtain ⟨o, h⟩ := there a ha
    rw [e, new b hb] at h
    cases h⟩
end Lw

set_option Elab.async false
set_option linter.all false
set_option maxRecDepth 100000
set_option maxHeartbeats 4000000
namespace Lw
open PySem PySem.Spec PyProof.Rows L2
abbrev sCopy : Stmt := topS 19
abbrev NCopy : List Str := ["thing", "part", "key"]
def Tr.ty : Tr → String
  | .non => "NoneType"
  | .bl _ => "bool"
  | .int _ => "int"
  | .str _ => "str"
  | .lst _ => "list"
  | .tup _ => "tuple"
  | .dct _ _ => "dict"
theorem DT.ty {K : PySem.W.Frag} {H : Hp} {A : Addr → Prop} {v : V} {t : Tr} (x : DT H A v t) : TyX K H v (.type t.ty) := by
  cases x with
  | non => exact .base .non
  | bl b => exact .base (.bl b)
  | int i => exact .base (.int i)
  | str z => exact .base (.str z)
  | lst e n d => exact .base (.lst e)
  | tup e n d => exact .base (.tup e)
  | dct e n k nd few d => exact .base (.dK e)
def Tr.is (T : String) (t : Tr) : Bool := t.ty == T
theorem kitT_list (K : PySem.W.Frag) (t : Tr) : PySem.W.kitOne K (.type t.ty) (.type "list") = some (t.is "list") := by cases t <;> rfl
theorem kitT_tuple (K : PySem.W.Frag) (t : Tr) : PySem.W.kitOne K (.type t.ty) (.type "tuple") = some (t.is "tuple") := by cases t <;> rfl
theorem kitT_dict (K : PySem.W.Frag) (t : Tr) : PySem.W.kitOne K (.type t.ty) (.type "dict") = some (t.is "dict") := by cases t <;> rfl
theorem take_not_mem {ys : List Str} {i : Nat} {z : Str} (nd : ys.Nodup) (h : ys[i]? = some z) : z ∉ ys.take i := fun m => by
  obtain ⟨j, hj⟩ := List.getElem?_of_mem m
  have hlt : j < i := by
    have h2 := (List.getElem?_eq_some_iff.mp hj).1
    rw [List.length_take] at h2
    omega
  rw [List.getElem?_take_of_lt hlt] at hj
  have := (List.getElem?_inj (List.getElem?_eq_some_iff.mp hj).1 nd).mp (hj.trans h.symm)
  omega
section
variable {P : Program} {w : World} {K : PySem.W.Frag} {mg : Str → Option Value} {base : Heap}
theorem scCopy : FnScope NCopy ["thing"] (defScope sCopy) := ⟨rfl, rfl, rfl, by decide +kernel, rfl, by decide +kernel, by decide +kernel⟩
def spCopy (n : Nat) : Sp := fun vs H Q _ => ∃ (v : V) (t : Tr) (A : Addr → Prop), vs = [v] ∧ DT H A v t ∧ t.depth < n ∧ t.few = true ∧
  ∀ (v' : V) (L : List Addr) (H' : Hp), Same H H' → DL H' L v' t.canon → L.Nodup → (∀ a ∈ L, H a = none) → Q v' H'
theorem ok_copy {f : Addr} {fd : FuncData} (F : Fun K "copy_of" "copy_of" sCopy f fd) (m : mg "copy_of" = some (.ref f)) (b : Binds K fd ["thing"] []) (mi : mg "isinstance" = none) (ml : mg "list" = none) (mt : mg "tuple" = none) (md : mg "dict" = none) (mso : mg "sorted" = none) :
    ∀ n, FnOk P w K mg base CX0 n f fd ["thing"] (spCopy n)
  | 0 => ⟨fun vs H Q E h => by obtain ⟨_, _, _, _, _, z, _⟩ := h; exact absurd z (Nat.not_lt_zero _), fun A outer s H args us vs Q E hr e0 bi rv h => by obtain ⟨_, _, _, _, _, z, _⟩ := h; exact absurd z (Nat.not_lt_zero _)⟩
  | n + 1 => by
    have IH := ok_copy F m b mi ml mt md mso n
    refine F.ok scCopy (fun vs H Q E h => ?_) (fun cdv A outer s H vs Q E hr h => ?_)
    · obtain ⟨v, t, A, rfl, _⟩ := h
      rfl
    obtain ⟨v, t, A, rfl, dv, dp, fw, q⟩ := h
    refine ⟨_, pss_cons (ps_if (pt_val (pe_callB call_isi (by rfl) mi (by decide +kernel) (pa_cons (pv 0) (pa_cons (pe_bltn (v := .ty "list") (by rfl) ml (by decide +kernel) rfl) pa_nil))))
        (pss_one (ps_ret (pe_lc (own := [("part", 1)]) (g := gName 1) (tt := tYes) rfl scCopy.nd (pi_list (pv 0)) (blkOk_by (N := NCopy) (sc := defScope sCopy) (by decide +kernel))
          (fun _ _ _ _ _ => pg_name (i := 1) scCopy.nd rfl (Or.inl rfl)) (fun _ _ _ _ _ => pts_nil) (fun _ _ _ _ _ => pe_call IH hr (by rfl) m F.kp b .nil pass0 (pa_cons (pv 1) pa_nil))))) pss_nil)
      (pss_cons (ps_if (pt_val (pe_callB call_isi (by rfl) mi (by decide +kernel) (pa_cons (pv 0) (pa_cons (pe_bltn (v := .ty "tuple") (by rfl) mt (by decide +kernel) rfl) pa_nil))))
        (pss_one (ps_ret (pe_callTy call_tuple_of (by rfl) mt (by decide +kernel) (pa_cons (pe_lc (own := [("part", 1)]) (g := gName 1) (tt := tYes) rfl scCopy.nd (pi_tup (pv 0)) (blkOk_by (N := NCopy) (sc := defScope sCopy) (by decide +kernel))
          (fun _ _ _ _ _ => pg_name (i := 1) scCopy.nd rfl (Or.inl rfl)) (fun _ _ _ _ _ => pts_nil) (fun _ _ _ _ _ => pe_call IH hr (by rfl) m F.kp b .nil pass0 (pa_cons (pv 1) pa_nil))) pa_nil)))) pss_nil)
      (pss_cons (ps_if (pt_val (pe_callB call_isi (by rfl) mi (by decide +kernel) (pa_cons (pv 0) (pa_cons (pe_bltn (v := .ty "dict") (by rfl) md (by decide +kernel) rfl) pa_nil))))
        (pss_one (ps_ret (pe_dc (own := [("key", 2)]) (g := gName 2) (tt := tYes) rfl scCopy.nd (pi_list (pe_callB (call_sortedD rfl) (by rfl) mso (by decide +kernel) (pa_cons (pv 0) pa_nil))) (blkOk_by (N := NCopy) (sc := defScope sCopy) (by decide +kernel))
          (fun _ _ _ _ _ => pg_name (i := 2) scCopy.nd rfl (Or.inl rfl)) (fun _ _ _ _ _ => pts_nil) (fun _ _ _ _ _ => pv 2) (fun _ _ _ _ _ => pe_call IH hr (by rfl) m F.kp b .nil pass0 (pa_cons (pe_dget (hu_of hr) (pv 0) (pv 2) (fun _ _ => rfl)) pa_nil))))) pss_nil)
      (pss_one (ps_ret (pv 0))))), ?_⟩
    have stepL : ∀ {a : Addr} {xs : List V} {ts : List Tr} {D : Addr}, DTs H A xs ts → Tr.depths ts < n → Tr.fews ts = true → ts.length ≤ 1000 → H D = none → ∀ (i : Nat) (x : V) (H1 : Hp), xs[i]? = some x →
        (Same H H1 ∧ ∃ L acc, H1 D = some (.lst acc) ∧ acc.length = i ∧ DLs H1 L acc ((Tr.canons ts).take i) ∧ L.Nodup ∧ (∀ a ∈ L, H a = none) ∧ D ∉ L) → spCopy n [x] H1 (fun y H4 => ∃ acc, H4 D = some (.lst acc) ∧ acc.length < sizeLine ∧
          (Same H (upd H4 D (.lst (acc ++ [y]))) ∧ ∃ L acc', upd H4 D (.lst (acc ++ [y])) D = some (.lst acc') ∧ acc'.length = i + 1 ∧ DLs (upd H4 D (.lst (acc ++ [y]))) L acc' ((Tr.canons ts).take (i + 1)) ∧ L.Nodup ∧ (∀ a ∈ L, H a = none) ∧ D ∉ L)) (E0 : XK) := by
      rintro a xs ts D d dd ff hl nD i x H1 hx ⟨s1, L, acc, hD, hi, dl, nd, new, nL⟩
      obtain ⟨t, ht, dt⟩ := d.get hx
      have mem : t ∈ ts := List.mem_of_getElem? ht
      have lt : i < ts.length := (List.getElem?_eq_some_iff.mp ht).1
      refine ⟨x, t, A, rfl, dt.same s1, Nat.lt_of_le_of_lt (depth_mem mem) dd, few_mem mem ff, fun v' M H' s2 dv' nd' new' => ?_⟩
      have hD' : H' D = some (.lst acc) := s2 _ _ hD
      have nM : D ∉ M := fun h => by rw [new' D h] at hD; cases hD
      have k1 : ∀ b, b ≠ D → (upd H' D (.lst (acc ++ [v']))) b = H' b := fun b nb => upd_ne nb
      refine ⟨acc, hD', small1000 (by omega), fun b o e => ?_, L ++ M, acc ++ [v'], upd_same, by rw [List.length_append, hi]; rfl, ?_, nodup_new nd nd' dl.there new', fun b hb => ?_, fun h => ?_⟩
      · rw [k1 b (ne_of_none e nD)]
        exact s2 _ _ (s1 _ _ e)
      · have e1 : (Tr.canons ts).take (i + 1) = (Tr.canons ts).take i ++ [t.canon] := by
          rw [List.take_add_one, canons_map, List.getElem?_map, ht]
          rfl
        rw [e1]
        refine DLs.keep (H := H') ((dl.same s2).snoc dv') fun b hb o e => ?_
        rw [k1 b (fun eb => ?_)]
        · exact e
        · subst eb
          rcases List.mem_append.mp hb with h | h
          · exact nL h
          · exact nM h
      · rcases List.mem_append.mp hb with h | h
        · exact new b h
        · exact s1.free (new' b h)
      · rcases List.mem_append.mp h with h | h
        · exact nL h
        · exact nM h
    have zero : ∀ {ts : List Tr} {D : Addr}, H D = none → (Same H (upd H D (.lst [])) ∧ ∃ L acc, upd H D (.lst []) D = some (.lst acc) ∧ acc.length = 0 ∧ DLs (upd H D (.lst [])) L acc ((Tr.canons ts).take 0) ∧ L.Nodup ∧ (∀ a ∈ L, H a = none) ∧ D ∉ L) := fun nD =>
      ⟨same_new nD _, [], [], upd_same, rfl, .nil, List.nodup_nil, (fun _ h => nomatch h), (fun h => nomatch h)⟩
    have clen : ∀ ts : List Tr, (Tr.canons ts).length = ts.length := fun ts => by rw [canons_map, List.length_map]
    refine ⟨v, rfl, v, .ty "list", _, _, _, rfl, .ty "list", dv.ty, kitT_list K t, _, rfl, ?_⟩
    cases dv with
    | non => exact ff_if rfl ⟨_, rfl, _, .ty "tuple", _, _, _, rfl, .ty "tuple", .base .non, kitT_tuple K .non, _, rfl, ff_if rfl ⟨_, rfl, _, .ty "dict", _, _, _, rfl, .ty "dict", .base .non, kitT_dict K .non, _, rfl, ff_if rfl ⟨_, rfl, q _ [] H (fun _ _ h => h) .non List.nodup_nil fun _ h => nomatch h⟩⟩⟩
    | bl x => exact ff_if rfl ⟨_, rfl, _, .ty "tuple", _, _, _, rfl, .ty "tuple", .base (.bl x), kitT_tuple K (.bl x), _, rfl, ff_if rfl ⟨_, rfl, _, .ty "dict", _, _, _, rfl, .ty "dict", .base (.bl x), kitT_dict K (.bl x), _, rfl, ff_if rfl ⟨_, rfl, q _ [] H (fun _ _ h => h) (.bl x) List.nodup_nil fun _ h => nomatch h⟩⟩⟩
    | int x => exact ff_if rfl ⟨_, rfl, _, .ty "tuple", _, _, _, rfl, .ty "tuple", .base (.int x), kitT_tuple K (.int x), _, rfl, ff_if rfl ⟨_, rfl, _, .ty "dict", _, _, _, rfl, .ty "dict", .base (.int x), kitT_dict K (.int x), _, rfl, ff_if rfl ⟨_, rfl, q _ [] H (fun _ _ h => h) (.int x) List.nodup_nil fun _ h => nomatch h⟩⟩⟩
    | str x => exact ff_if rfl ⟨_, rfl, _, .ty "tuple", _, _, _, rfl, .ty "tuple", .base (.str x), kitT_tuple K (.str x), _, rfl, ff_if rfl ⟨_, rfl, _, .ty "dict", _, _, _, rfl, .ty "dict", .base (.str x), kitT_dict K (.str x), _, rfl, ff_if rfl ⟨_, rfl, q _ [] H (fun _ _ h => h) (.str x) List.nodup_nil fun _ h => nomatch h⟩⟩⟩
    | @lst a xs ts e nA d =>
      have dd : Tr.depths ts < n := Nat.lt_of_succ_lt_succ dp
      have ff : ts.length ≤ 1000 ∧ Tr.fews ts = true := by
        have h : (decide (ts.length ≤ 1000) && Tr.fews ts) = true := fw
        rw [Bool.and_eq_true, decide_eq_true_eq] at h
        exact h
      refine tt_if rfl ⟨_, rfl, a, rfl, ⟨xs, .inl (.inl e)⟩, fun D nD => ?_⟩
      refine lc_list (K := K) (a := a) (xs := xs) (fun i H1 => Same H H1 ∧ ∃ L acc, H1 D = some (.lst acc) ∧ acc.length = i ∧ DLs H1 L acc ((Tr.canons ts).take i) ∧ L.Nodup ∧ (∀ a ∈ L, H a = none) ∧ D ∉ L)
        (zero nD) (fun i H1 _ p => .inl (.inl (p.1 _ _ e))) (fun i x H1 hx p => ⟨rfl, yes_if ?_⟩) ?_
      · exact ⟨x, rfl, stepL (a := a) d dd ff.2 ff.1 nD i x H1 hx p⟩
      · rintro H1 ⟨s1, L, acc, hD, _, dl, nd, new, nL⟩
        rw [List.take_of_length_le (by rw [clen, d.len]; exact Nat.le_refl _)] at dl
        refine q _ (D :: L) H1 s1 (.lst hD dl) (List.nodup_cons.mpr ⟨nL, nd⟩) fun b hb => ?_
        rcases List.mem_cons.mp hb with h | h
        · subst h; exact nD
        · exact new b h
    | @tup a xs ts e nA d =>
      have dd : Tr.depths ts < n := Nat.lt_of_succ_lt_succ dp
      have ff : ts.length ≤ 1000 ∧ Tr.fews ts = true := by
        have h : (decide (ts.length ≤ 1000) && Tr.fews ts) = true := fw
        rw [Bool.and_eq_true, decide_eq_true_eq] at h
        exact h
      refine ff_if rfl ⟨_, rfl, _, .ty "tuple", _, _, _, rfl, .ty "tuple", .base (.tup e), kitT_tuple K (.tup ts), _, rfl, tt_if rfl ⟨_, rfl, a, rfl, ⟨xs, .inl (.inl e)⟩, fun D nD => ?_⟩⟩
      refine lc_tup (K := K) (a := a) (xs := xs) (fun i H1 => Same H H1 ∧ ∃ L acc, H1 D = some (.lst acc) ∧ acc.length = i ∧ DLs H1 L acc ((Tr.canons ts).take i) ∧ L.Nodup ∧ (∀ a ∈ L, H a = none) ∧ D ∉ L)
        (zero nD) (fun i H1 _ p => .inl (.inl (p.1 _ _ e))) (fun i x H1 hx p => ⟨rfl, yes_if ?_⟩) ?_
      · exact ⟨x, rfl, stepL (a := a) d dd ff.2 ff.1 nD i x H1 hx p⟩
      · rintro H1 ⟨s1, L, acc, hD, _, dl, nd, new, nL⟩
        rw [List.take_of_length_le (by rw [clen, d.len]; exact Nat.le_refl _)] at dl
        refine ⟨D, acc, rfl, .inl ⟨.inl (.inl hD), fun l nl => ?_⟩⟩
        refine q _ (l :: L) _ (s1.trans (same_new nl _)) (.tup upd_same (dl.same (same_new nl _))) (List.nodup_cons.mpr ⟨fun h => ?_, nd⟩) fun b hb => ?_
        · obtain ⟨o, h⟩ := dl.there l h
          rw [nl] at h
          cases h
        · rcases List.mem_cons.mp hb with h | h
          · subst h; exact s1.free nl
          · exact new b h
    | @dct a kvs ks ts e nA k ndk few d =>
      have dd : Tr.depths ts < n := Nat.lt_of_succ_lt_succ dp
      have ff : Tr.fews ts = true := fw
      have sl : (sortT ks).length = ks.length := sortT_len ks
      refine ff_if rfl ⟨_, rfl, _, .ty "tuple", _, _, _, rfl, .ty "tuple", .base (.dK e), kitT_tuple K (.dct ks ts), _, rfl, ff_if rfl ⟨_, rfl, _, .ty "dict", _, _, _, rfl, .ty "dict", .base (.dK e), kitT_dict K (.dct ks ts), _, rfl, tt_if rfl ⟨_, rfl, a, kvs, ks, rfl, .inl e, k, few, fun ys p perm srt np => ?_⟩⟩⟩
      have ey : ys = sortT ks := sort_eq perm srt
      subst ey
      have s0 : Same H (upd H p (.lst ((sortT ks).map V.str))) := same_new np _
      refine ⟨p, rfl, ⟨_, .inl (.inl upd_same)⟩, fun D nD' => ?_⟩
      have nD : H D = none := s0.free nD'
      have npD : p ≠ D := ne_of_none upd_same nD'
      refine dc_list (K := K) (a := p) (xs := (sortT ks).map V.str) (fun i H1 => Same H H1 ∧ H1 p = some (.lst ((sortT ks).map V.str)) ∧ ∃ (L : List Addr) (es : List (Key × V)), H1 D = some (.dK es) ∧ es.map (·.1) = ((sortT ks).take i).map Sum.inr ∧
          DLs H1 L (es.map (·.2)) (((sortT ks).take i).map fun z => (lookT ks (Tr.canons ts) z).getD .non) ∧ L.Nodup ∧ (∀ a ∈ L, H a = none) ∧ D ∉ L ∧ p ∉ L)
        ⟨s0.trans (same_new nD' _), by rw [upd_ne npD]; exact upd_same, [], [], upd_same, rfl, .nil, List.nodup_nil, (fun _ h => nomatch h), (fun h => nomatch h), (fun h => nomatch h)⟩ (fun i H1 _ p => .inl (.inl p.2.1)) ?_ ?_
      · rintro i x H1 hx ⟨s1, hp, L, es, hD, ek, dl, nd, new, nL, npL⟩
        obtain ⟨z, hz, rfl⟩ := map_get hx
        have lt : i < (sortT ks).length := (List.getElem?_eq_some_iff.mp hz).1
        have zk : z ∈ ks := sortT_mem.mp (List.mem_of_getElem? hz)
        obtain ⟨u, t, g1, g2, g3⟩ := DT.look k d zk
        have g3' : t ∈ ts := by
          unfold lookT at g2
          obtain ⟨pr, h1, h2⟩ := Option.map_eq_some_iff.mp g2
          have h3 := List.of_mem_zip (List.mem_of_find?_eq_some h1)
          rw [← h2]
          exact h3.2
        refine ⟨rfl, yes_if ⟨.str z, rfl, .ref a, rfl, .str z, rfl, a, u, rfl, ?_, ?_⟩⟩
        · exact .inl ⟨kvs, .inr z, .inl (s1 _ _ e), rfl, g1.symm⟩
        refine ⟨u, t, A, rfl, g3.same s1, Nat.lt_of_le_of_lt (depth_mem g3') dd, few_mem g3' ff, fun v' M H' s2 dv' nd' new' => ?_⟩
        have hD' : H' D = some (.dK es) := s2 _ _ hD
        have nM : D ∉ M := fun h => by rw [new' D h] at hD; cases hD
        have npM : p ∉ M := fun h => by rw [new' p h] at hp; cases hp
        have el : es.length = i := by
          have h := congrArg List.length ek
          rw [List.length_map, List.length_map, List.length_take] at h
          omega
        have newz : valV es (Sum.inr z : Key) = none := by
          have nm : (Sum.inr z : Key) ∉ es.map (·.1) := by
            rw [ek]
            intro h
            obtain ⟨y, hy, e2⟩ := List.mem_map.mp h
            have ezy : y = z := Sum.inr.inj e2
            subst ezy
            exact take_not_mem (sortT_nodup ndk) hz hy
          unfold valV
          rw [Option.map_eq_none_iff, List.find?_eq_none]
          intro pr hp' h
          exact nm (by rw [← of_decide_eq_true h]; exact List.mem_map_of_mem hp')
        refine ⟨es, .inr z, rfl, hD', small1000 (by omega), ?_⟩
        rw [L2.putK_new v' newz]
        have e0 : (sortT ks).take (i + 1) = (sortT ks).take i ++ [z] := by
          rw [List.take_add_one, hz]
          rfl
        refine ⟨fun b o eb => ?_, by rw [upd_ne npD]; exact s2 _ _ hp, L ++ M, es ++ [(.inr z, v')], upd_same, ?_, ?_, nodup_new nd nd' dl.there new', fun b hb => ?_, fun h => ?_, fun h => ?_⟩
        · rw [upd_ne (ne_of_none eb nD)]
          exact s2 _ _ (s1 _ _ eb)
        · rw [e0, List.map_append, List.map_append, ek]
          rfl
        · rw [e0, List.map_append, List.map_append]
          have e1 : (lookT ks (Tr.canons ts) z).getD .non = t.canon := by
            rw [canons_map, look_map, g2]
            rfl
          show DLs _ (L ++ M) (es.map (·.2) ++ [v']) (_ ++ [(lookT ks (Tr.canons ts) z).getD .non])
          rw [e1]
          refine DLs.keep (H := H') ((dl.same s2).snoc dv') fun b hb o eb => ?_
          rw [upd_ne (fun q => ?_)]
          · exact eb
          · subst q
            rcases List.mem_append.mp hb with h | h
            · exact nL h
            · exact nM h
        · rcases List.mem_append.mp hb with h | h
          · exact new b h
          · exact s1.free (new' b h)
        · rcases List.mem_append.mp h with h | h
          · exact nL h
          · exact nM h
        · rcases List.mem_append.mp h with h | h
          · exact npL h
          · exact npM h
      · rintro H1 ⟨s1, hp, L, es, hD, ek, dl, nd, new, nL, _⟩
        rw [List.length_map, List.take_length] at ek dl
        refine q _ (D :: L) H1 s1 (.dct hD ek (sortT_nodup ndk) (by rw [sl]; exact few) dl) (List.nodup_cons.mpr ⟨nL, nd⟩) fun b hb => ?_
        rcases List.mem_cons.mp hb with h | h
        · subst h; exact nD
        · exact new b h
end
end Lw

set_option Elab.async false
set_option linter.all false
set_option maxRecDepth 100000
set_option maxHeartbeats 4000000
/-! a value is one tree alone; no tree stands within itself; dicts of texts -/
namespace Lw
open PySem PySem.Spec PyProof.Rows L2
theorem inr_inj : ∀ {ks ls : List Str}, ks.map (Sum.inr : Str → Key) = ls.map Sum.inr → ks = ls
  | [], [], _ => rfl
  | [], _ :: _, h => by cases h
  | _ :: _, [], h => by cases h
  | k :: r, l :: q, h => by
    obtain ⟨h1, h2⟩ := List.cons.inj h
    rw [Sum.inr.inj h1, inr_inj h2]
section
variable {H : Hp} {A B : Addr → Prop}
mutual
theorem DT.one : ∀ {v : V} {t t' : Tr}, DT H A v t → DT H B v t' → t = t'
  | _, _, _, .non, y => by cases y; rfl
  | _, _, _, .bl b, y => by cases y; rfl
  | _, _, _, .int b, y => by cases y; rfl
  | _, _, _, .str b, y => by cases y; rfl
  | _, _, _, .lst e n d, y => by
    cases y with
    | lst e' n' d' => rw [e] at e'; cases e'; rw [DTs.one d d']
    | tup e' n' d' => rw [e] at e'; cases e'
    | dct e' n' _ _ _ d' => rw [e] at e'; cases e'
  | _, _, _, .tup e n d, y => by
    cases y with
    | lst e' n' d' => rw [e] at e'; cases e'
    | tup e' n' d' => rw [e] at e'; cases e'; rw [DTs.one d d']
    | dct e' n' _ _ _ d' => rw [e] at e'; cases e'
  | _, _, _, .dct e n k nd few d, y => by
    cases y with
    | lst e' n' d' => rw [e] at e'; cases e'
    | tup e' n' d' => rw [e] at e'; cases e'
    | dct e' n' k' _ _ d' => rw [e] at e'; cases e'; rw [k] at k'; rw [inr_inj k', DTs.one d d']
theorem DTs.one : ∀ {vs : List V} {ts ts' : List Tr}, DTs H A vs ts → DTs H B vs ts' → ts = ts'
  | _, _, _, .nil, y => by cases y; rfl
  | _, _, _, .cons a b, y => by
    cases y with
    | cons a' b' => rw [DT.one a a', DTs.one b b']
end
section
variable {a : Addr} {T : Tr}
mutual
theorem DT.avoid (x : DT H B (.ref a) T) : ∀ {v : V} {t : Tr}, DT H A v t → t.depth < T.depth → DT H (fun b => A b ∧ b ≠ a) v t
  | _, _, .non, _ => .non
  | _, _, .bl b, _ => .bl b
  | _, _, .int i, _ => .int i
  | _, _, .str z, _ => .str z
  | _, _, .lst (a := c) (ts := ts) e n d, h => .lst e ⟨n, fun q => by subst q; have h1 := DT.one x (.lst e n d); rw [h1] at h; exact Nat.lt_irrefl _ h⟩ (DTs.avoid x d (Nat.lt_of_succ_lt h))
  | _, _, .tup (a := c) (ts := ts) e n d, h => .tup e ⟨n, fun q => by subst q; have h1 := DT.one x (.tup e n d); rw [h1] at h; exact Nat.lt_irrefl _ h⟩ (DTs.avoid x d (Nat.lt_of_succ_lt h))
  | _, _, .dct (a := c) (ts := ts) e n k nd few d, h => .dct e ⟨n, fun q => by subst q; have h1 := DT.one x (.dct e n k nd few d); rw [h1] at h; exact Nat.lt_irrefl _ h⟩ k nd few (DTs.avoid x d (Nat.lt_of_succ_lt h))
theorem DTs.avoid (x : DT H B (.ref a) T) : ∀ {vs : List V} {ts : List Tr}, DTs H A vs ts → Tr.depths ts < T.depth → DTs H (fun b => A b ∧ b ≠ a) vs ts
  | _, _, .nil, _ => .nil
  | _, _, .cons (t := t) (ts := ts) z y, h => by
    have h' : max t.depth (Tr.depths ts) < T.depth := h
    exact .cons (DT.avoid x z (Nat.lt_of_le_of_lt (Nat.le_max_left _ _) h')) (DTs.avoid x y (Nat.lt_of_le_of_lt (Nat.le_max_right _ _) h'))
end
end
end
/-! ### dicts of texts -/
abbrev tkD (es : List (Str × V)) : List (Key × V) := es.map fun p => (Sum.inr p.1, p.2)
theorem tkD_keys (es : List (Str × V)) : (tkD es).map (·.1) = (es.map (·.1)).map Sum.inr := by
  rw [List.map_map, List.map_map]
  rfl
theorem tkD_vals (es : List (Str × V)) : (tkD es).map (·.2) = es.map (·.2) := by
  rw [List.map_map]
  rfl
theorem valV_no {kvs : List (Key × V)} {k : Key} (h : k ∉ kvs.map (·.1)) : valV kvs k = none := by
  unfold valV
  rw [Option.map_eq_none_iff, List.find?_eq_none]
  intro pr hp' q
  exact h (by rw [← of_decide_eq_true q]; exact List.mem_map_of_mem hp')
theorem tk_merge : ∀ {rs es : List (Str × V)}, ((es ++ rs).map (·.1)).Nodup → mergeK (tkD es) (tkD rs) = tkD (es ++ rs)
  | [], es, _ => by rw [List.append_nil]; rfl
  | p :: r, es, nd => by
    show mergeK (putK (tkD es) (.inr p.1) p.2) (tkD r) = _
    have new : (Sum.inr p.1 : Key) ∉ (tkD es).map (·.1) := fun m => by
      rw [tkD_keys] at m
      obtain ⟨y, hy, e⟩ := List.mem_map.mp m
      rw [Sum.inr.inj e] at hy
      rw [List.map_append, List.nodup_append] at nd
      exact nd.2.2 _ hy _ (by rw [List.map_cons]; exact List.mem_cons_self) rfl
    have h1 : putK (tkD es) (.inr p.1) p.2 = tkD (es ++ [p]) := by
      rw [L2.putK_new p.2 (valV_no new)]
      show _ = List.map _ (es ++ [p])
      rw [List.map_append]
      rfl
    rw [h1, tk_merge (by rw [List.append_assoc]; exact nd), List.append_assoc]
    rfl
theorem tk_dict {es : List (Str × V)} (nd : (es.map (·.1)).Nodup) : mergeK [] (tkD es) = tkD es := tk_merge (es := []) nd
end Lw

set_option Elab.async false
set_option linter.all false
set_option maxRecDepth 100000
set_option maxHeartbeats 4000000
namespace Lw
open PySem PySem.Spec PyProof.Rows L2
abbrev sLCopied : Stmt := topS 42
abbrev NLCopied : List Str := ["_law_thing", "_law_one", "_law_key"]
/-- a list of new copies on its way -/
def CopL (H : Hp) (D : Addr) (ts : List Tr) (i : Nat) (H1 : Hp) : Prop :=
  Same H H1 ∧ ∃ L acc, H1 D = some (.lst acc) ∧ acc.length = i ∧ DLs H1 L acc (ts.take i) ∧ L.Nodup ∧ (∀ a ∈ L, H a = none) ∧ D ∉ L
theorem CopL.zero {H : Hp} {D : Addr} {ts : List Tr} (nD : H D = none) : CopL H D ts 0 (upd H D (.lst [])) :=
  ⟨same_new nD _, [], [], upd_same, rfl, .nil, List.nodup_nil, (fun _ h => nomatch h), (fun h => nomatch h)⟩
/-- one more -/
theorem CopL.step {H H1 H' : Hp} {D : Addr} {ts : List Tr} {i : Nat} {t : Tr} {v' : V} {M : List Addr} (nD : H D = none) (p : CopL H D ts i H1) (ht : ts[i]? = some t) (s2 : Same H1 H') (dv' : DL H' M v' t) (nd' : M.Nodup) (new' : ∀ a ∈ M, H1 a = none) :
    ∃ acc, H' D = some (.lst acc) ∧ acc.length = i ∧ CopL H D ts (i + 1) (upd H' D (.lst (acc ++ [v']))) := by
  obtain ⟨s1, L, acc, hD, hi, dl, nd, new, nL⟩ := p
  have hD' : H' D = some (.lst acc) := s2 _ _ hD
  have nM : D ∉ M := fun h => by rw [new' D h] at hD; cases hD
  have k1 : ∀ b, b ≠ D → (upd H' D (.lst (acc ++ [v']))) b = H' b := fun b nb => upd_ne nb
  refine ⟨acc, hD', hi, fun b o e => ?_, L ++ M, acc ++ [v'], upd_same, by rw [List.length_append, hi]; rfl, ?_, nodup_new nd nd' dl.there new', fun b hb => ?_, fun h => ?_⟩
  · rw [k1 b (ne_of_none e nD)]
    exact s2 _ _ (s1 _ _ e)
  · have e1 : ts.take (i + 1) = ts.take i ++ [t] := by
      rw [List.take_add_one, ht]
      rfl
    rw [e1]
    refine DLs.keep (H := H') ((dl.same s2).snoc dv') fun b hb o e => ?_
    rw [k1 b (fun eb => ?_)]
    · exact e
    · subst eb
      rcases List.mem_append.mp hb with h | h
      · exact nL h
      · exact nM h
  · rcases List.mem_append.mp hb with h | h
    · exact new b h
    · exact s1.free (new' b h)
  · rcases List.mem_append.mp h with h | h
    · exact nL h
    · exact nM h
theorem CopL.last {H H1 : Hp} {D : Addr} {ts : List Tr} {n : Nat} (hn : ts.length ≤ n) (nD : H D = none) (p : CopL H D ts n H1) : ∃ L acc, Same H H1 ∧ H1 D = some (.lst acc) ∧ DLs H1 L acc ts ∧ (D :: L).Nodup ∧ ∀ a ∈ D :: L, H a = none := by
  obtain ⟨s1, L, acc, hD, _, dl, nd, new, nL⟩ := p
  rw [List.take_of_length_le hn] at dl
  refine ⟨L, acc, s1, hD, dl, List.nodup_cons.mpr ⟨nL, nd⟩, fun b hb => ?_⟩
  rcases List.mem_cons.mp hb with h | h
  · subst h; exact nD
  · exact new b h
section
variable {P : Program} {w : World} {K : PySem.W.Frag} {mg : Str → Option Value} {base : Heap}
theorem scLCopied : FnScope NLCopied ["_law_thing"] (defScope sLCopied) := ⟨rfl, rfl, rfl, by decide +kernel, rfl, by decide +kernel, by decide +kernel⟩
def spCopied (n : Nat) : Sp := fun vs H Q _ => ∃ (v : V) (t : Tr) (A : Addr → Prop), vs = [v] ∧ DT H A v t ∧ t.depth < n ∧ t.few = true ∧
  ∀ (v' : V) (L : List Addr) (H' : Hp), Same H H' → DL H' L v' t → L.Nodup → (∀ a ∈ L, H a = none) → Q v' H'
theorem ok_copied {f : Addr} {fd : FuncData} (F : Fun K "_law_copied" "_law_copied" sLCopied f fd) (m : mg "_law_copied" = some (.ref f)) (b : Binds K fd ["_law_thing"] []) (mi : mg "isinstance" = none) (ml : mg "list" = none) (mt : mg "tuple" = none) (md : mg "dict" = none) :
    ∀ n, FnOk P w K mg base CX0 n f fd ["_law_thing"] (spCopied n)
  | 0 => ⟨fun vs H Q E h => by obtain ⟨_, _, _, _, _, z, _⟩ := h; exact absurd z (Nat.not_lt_zero _), fun A outer s H args us vs Q E hr e0 bi rv h => by obtain ⟨_, _, _, _, _, z, _⟩ := h; exact absurd z (Nat.not_lt_zero _)⟩
  | n + 1 => by
    have IH := ok_copied F m b mi ml mt md n
    refine F.ok scLCopied (fun vs H Q E h => ?_) (fun cdv A outer s H vs Q E hr h => ?_)
    · obtain ⟨v, t, A, rfl, _⟩ := h
      rfl
    obtain ⟨v, t, A, rfl, dv, dp, fw, q⟩ := h
    refine ⟨_, pss_cons (ps_if (pt_val (pe_callB call_isi (by rfl) mi (by decide +kernel) (pa_cons (pv 0) (pa_cons (pe_bltn (v := .ty "list") (by rfl) ml (by decide +kernel) rfl) pa_nil))))
        (pss_one (ps_ret (pe_lc (own := [("_law_one", 1)]) (g := gName 1) (tt := tYes) rfl scLCopied.nd (pi_list (pv 0)) (blkOk_by (N := NLCopied) (sc := defScope sLCopied) (by decide +kernel))
          (fun _ _ _ _ _ => pg_name (i := 1) scLCopied.nd rfl (Or.inl rfl)) (fun _ _ _ _ _ => pts_nil) (fun _ _ _ _ _ => pe_call IH hr (by rfl) m F.kp b .nil pass0 (pa_cons (pv 1) pa_nil))))) pss_nil)
      (pss_cons (ps_if (pt_val (pe_callB call_isi (by rfl) mi (by decide +kernel) (pa_cons (pv 0) (pa_cons (pe_bltn (v := .ty "tuple") (by rfl) mt (by decide +kernel) rfl) pa_nil))))
        (pss_one (ps_ret (pe_callTy call_tuple_of (by rfl) mt (by decide +kernel) (pa_cons (pe_lc (own := [("_law_one", 1)]) (g := gName 1) (tt := tYes) rfl scLCopied.nd (pi_tup (pv 0)) (blkOk_by (N := NLCopied) (sc := defScope sLCopied) (by decide +kernel))
          (fun _ _ _ _ _ => pg_name (i := 1) scLCopied.nd rfl (Or.inl rfl)) (fun _ _ _ _ _ => pts_nil) (fun _ _ _ _ _ => pe_call IH hr (by rfl) m F.kp b .nil pass0 (pa_cons (pv 1) pa_nil))) pa_nil)))) pss_nil)
      (pss_one (ps_ret (pe_ifExp (pt_val (pe_callB call_isi (by rfl) mi (by decide +kernel) (pa_cons (pv 0) (pa_cons (pe_bltn (v := .ty "dict") (by rfl) md (by decide +kernel) rfl) pa_nil))))
        (pe_callTy (call_dictP rfl) (by rfl) md (by decide +kernel) (pa_cons (pe_lock (pe_lc (own := [("_law_key", 2)]) (g := gName 2) (tt := tYes) rfl scLCopied.nd (pi_keys (pv 0)) (blkOk_by (N := NLCopied) (sc := defScope sLCopied) (by decide +kernel))
          (fun _ _ _ _ _ => pg_name (i := 2) scLCopied.nd rfl (Or.inl rfl)) (fun _ _ _ _ _ => pts_nil) (fun _ _ _ _ _ => pe_tup (pa_cons (pv 2) (pa_cons (pe_call IH hr (by rfl) m F.kp b .nil pass0 (pa_cons (pe_dget (hu_of hr) (pv 0) (pv 2) (fun _ _ => rfl)) pa_nil)) pa_nil))))) pa_nil))
        (pv 0))))), ?_⟩
    have stepL : ∀ {a : Addr} {xs : List V} {ts : List Tr} {D : Addr}, DTs H A xs ts → Tr.depths ts < n → Tr.fews ts = true → ts.length ≤ 1000 → H D = none → ∀ (i : Nat) (x : V) (H1 : Hp), xs[i]? = some x →
        CopL H D ts i H1 → spCopied n [x] H1 (fun y H4 => ∃ acc, H4 D = some (.lst acc) ∧ acc.length < sizeLine ∧ CopL H D ts (i + 1) (upd H4 D (.lst (acc ++ [y])))) (E0 : XK) := by
      intro a xs ts D d dd ff hl nD i x H1 hx p
      obtain ⟨t, ht, dt⟩ := d.get hx
      have mem : t ∈ ts := List.mem_of_getElem? ht
      have lt : i < ts.length := (List.getElem?_eq_some_iff.mp ht).1
      refine ⟨x, t, A, rfl, dt.same p.1, Nat.lt_of_le_of_lt (depth_mem mem) dd, few_mem mem ff, fun v' M H' s2 dv' nd' new' => ?_⟩
      obtain ⟨acc, h1, h2, h3⟩ := p.step nD ht s2 dv' nd' new'
      exact ⟨acc, h1, small1000 (by omega), h3⟩
    refine ⟨v, rfl, v, .ty "list", _, _, _, rfl, .ty "list", dv.ty, kitT_list K t, _, rfl, ?_⟩
    cases dv with
    | non => exact ff_if rfl ⟨_, rfl, _, .ty "tuple", _, _, _, rfl, .ty "tuple", .base .non, kitT_tuple K .non, _, rfl, ff_if rfl ⟨_, rfl, _, .ty "dict", _, _, _, rfl, .ty "dict", .base .non, kitT_dict K .non, _, rfl, ff_if rfl ⟨_, rfl, q _ [] H (fun _ _ h => h) .non List.nodup_nil fun _ h => nomatch h⟩⟩⟩
    | bl x => exact ff_if rfl ⟨_, rfl, _, .ty "tuple", _, _, _, rfl, .ty "tuple", .base (.bl x), kitT_tuple K (.bl x), _, rfl, ff_if rfl ⟨_, rfl, _, .ty "dict", _, _, _, rfl, .ty "dict", .base (.bl x), kitT_dict K (.bl x), _, rfl, ff_if rfl ⟨_, rfl, q _ [] H (fun _ _ h => h) (.bl x) List.nodup_nil fun _ h => nomatch h⟩⟩⟩
    | int x => exact ff_if rfl ⟨_, rfl, _, .ty "tuple", _, _, _, rfl, .ty "tuple", .base (.int x), kitT_tuple K (.int x), _, rfl, ff_if rfl ⟨_, rfl, _, .ty "dict", _, _, _, rfl, .ty "dict", .base (.int x), kitT_dict K (.int x), _, rfl, ff_if rfl ⟨_, rfl, q _ [] H (fun _ _ h => h) (.int x) List.nodup_nil fun _ h => nomatch h⟩⟩⟩
    | str x => exact ff_if rfl ⟨_, rfl, _, .ty "tuple", _, _, _, rfl, .ty "tuple", .base (.str x), kitT_tuple K (.str x), _, rfl, ff_if rfl ⟨_, rfl, _, .ty "dict", _, _, _, rfl, .ty "dict", .base (.str x), kitT_dict K (.str x), _, rfl, ff_if rfl ⟨_, rfl, q _ [] H (fun _ _ h => h) (.str x) List.nodup_nil fun _ h => nomatch h⟩⟩⟩
    | @lst a xs ts e nA d =>
      have dd : Tr.depths ts < n := Nat.lt_of_succ_lt_succ dp
      have ff : ts.length ≤ 1000 ∧ Tr.fews ts = true := by
        have h : (decide (ts.length ≤ 1000) && Tr.fews ts) = true := fw
        rw [Bool.and_eq_true, decide_eq_true_eq] at h
        exact h
      refine tt_if rfl ⟨_, rfl, a, rfl, ⟨xs, .inl (.inl e)⟩, fun D nD => ?_⟩
      refine lc_list (K := K) (a := a) (xs := xs) (CopL H D ts) (.zero nD) (fun i H1 _ p => .inl (.inl (p.1 _ _ e))) (fun i x H1 hx p => ⟨rfl, yes_if ⟨x, rfl, stepL (a := a) d dd ff.2 ff.1 nD i x H1 hx p⟩⟩) fun H1 p => ?_
      obtain ⟨L, acc, s1, hD, dl, nd, new⟩ := p.last (by rw [d.len]; exact Nat.le_refl _) nD
      exact q _ (D :: L) H1 s1 (.lst hD dl) nd new
    | @tup a xs ts e nA d =>
      have dd : Tr.depths ts < n := Nat.lt_of_succ_lt_succ dp
      have ff : ts.length ≤ 1000 ∧ Tr.fews ts = true := by
        have h : (decide (ts.length ≤ 1000) && Tr.fews ts) = true := fw
        rw [Bool.and_eq_true, decide_eq_true_eq] at h
        exact h
      refine ff_if rfl ⟨_, rfl, _, .ty "tuple", _, _, _, rfl, .ty "tuple", .base (.tup e), kitT_tuple K (.tup ts), _, rfl, tt_if rfl ⟨_, rfl, a, rfl, ⟨xs, .inl (.inl e)⟩, fun D nD => ?_⟩⟩
      refine lc_tup (K := K) (a := a) (xs := xs) (CopL H D ts) (.zero nD) (fun i H1 _ p => .inl (.inl (p.1 _ _ e))) (fun i x H1 hx p => ⟨rfl, yes_if ⟨x, rfl, stepL (a := a) d dd ff.2 ff.1 nD i x H1 hx p⟩⟩) fun H1 p => ?_
      obtain ⟨L, acc, s1, hD, dl, nd, new⟩ := p.last (by rw [d.len]; exact Nat.le_refl _) nD
      refine ⟨D, acc, rfl, .inl ⟨.inl (.inl hD), fun l nl => ?_⟩⟩
      refine q _ (l :: L) _ (s1.trans (same_new nl _)) (.tup upd_same (dl.same (same_new nl _))) (List.nodup_cons.mpr ⟨fun h => ?_, (List.nodup_cons.mp nd).2⟩) fun b hb => ?_
      · obtain ⟨o, h⟩ := dl.there l h
        rw [nl] at h
        cases h
      · rcases List.mem_cons.mp hb with h | h
        · subst h; exact s1.free nl
        · exact new b (List.mem_cons_of_mem _ h)
    | @dct a kvs ks ts e nA k ndk few d =>
      have dd : Tr.depths ts < n := Nat.lt_of_succ_lt_succ dp
      have ff : Tr.fews ts = true := fw
      have lk : kvs.length = ks.length := by
        have h := congrArg List.length k
        rw [List.length_map, List.length_map] at h
        exact h
      have lt : ks.length = ts.length := by
        have h := d.len
        rw [List.length_map] at h
        omega
      have dA : DTs H (fun b => A b ∧ b ≠ a) (kvs.map (·.2)) ts := DTs.avoid (DT.dct e nA k ndk few d) d (Nat.lt_succ_self _)
      refine ff_if rfl ⟨_, rfl, _, .ty "tuple", _, _, _, rfl, .ty "tuple", .base (.dK e), kitT_tuple K (.dct ks ts), _, rfl, ff_if rfl ⟨_, rfl, _, .ty "dict", _, _, _, rfl, .ty "dict", .base (.dK e), kitT_dict K (.dct ks ts), _, rfl, tt_if rfl ⟨a, _, e, trivial, fun od => ?_⟩⟩⟩
      have h1a : (upd H a (.frz od (.dK kvs))) a = some (.frz od (.dK kvs)) := upd_same
      have k1 : ∀ c, c ≠ a → (upd H a (.frz od (.dK kvs))) c = H c := fun c nc => upd_ne nc
      generalize (upd H a (.frz od (.dK kvs))) = HF at h1a k1 ⊢
      have d1 : DTs HF (fun b => A b ∧ b ≠ a) (kvs.map (·.2)) ts := dA.mono fun c o hc eo => by rw [k1 c hc.2]; exact eo
      refine ⟨_, rfl, a, od, rfl, .inl ⟨kvs, h1a, fun D nD => ?_⟩⟩
      refine lc_it walk_keys (fun i Hx => Same HF Hx ∧ ∃ (L ps : List Addr) (es : List (Str × V)), Hx D = some (.lst (ps.map V.ref)) ∧ es.map (·.1) = ks.take i ∧ Paired (fun p (r : Str × V) => Hx p = some (.tup [.str r.1, r.2])) ps es ∧
          DLs Hx L (es.map (·.2)) (ts.take i) ∧ L.Nodup ∧ (∀ c ∈ L, HF c = none) ∧ D ∉ L)
        ⟨same_new nD _, [], [], [], upd_same, rfl, .nil, .nil, List.nodup_nil, (fun _ h => nomatch h), (fun h => nomatch h)⟩ (fun i Hx _ p => p.1 _ _ h1a) ?_ ?_
      · rintro i x Hx H' hi p ⟨rfl, kk, vv, hkv, rfl⟩
        obtain ⟨s1, L, ps, es, hD, ek, pr, dl, nd, new, nL⟩ := p
        obtain ⟨z, hz, rfl⟩ : ∃ z, ks[i]? = some z ∧ kk = Sum.inr z := by
          have h : (kvs.map (·.1))[i]? = some kk := by rw [List.getElem?_map, hkv]; rfl
          rw [k, List.getElem?_map] at h
          obtain ⟨z, h1, h2⟩ := Option.map_eq_some_iff.mp h
          exact ⟨z, h1, h2.symm⟩
        have hil : i < ts.length := by omega
        have ht : ts[i]? = some ts[i] := List.getElem?_eq_getElem hil
        obtain ⟨u, t0, g1, g2, g3⟩ := DT.look k d1 (List.mem_of_getElem? hz)
        rw [look_at ndk hz ht] at g2
        cases g2
        have mem : ts[i] ∈ ts := List.getElem_mem hil
        refine ⟨rfl, yes_if ⟨.str z, rfl, .ref a, rfl, .str z, rfl, a, u, rfl, .inl ⟨kvs, .inr z, .inr ⟨od, s1 _ _ h1a⟩, rfl, g1.symm⟩, ?_⟩⟩
        refine ⟨u, ts[i], _, rfl, g3.same s1, Nat.lt_of_le_of_lt (depth_mem mem) dd, few_mem mem ff, fun v' M H' s2 dv' nd' new' => ?_⟩
        refine ⟨small (by show 2 ≤ 1000; decide), fun T nT => ?_⟩
        have el : es.length = i := by
          have h := congrArg List.length ek
          rw [List.length_map, List.length_take] at h
          omega
        have hD' : H' D = some (.lst (ps.map V.ref)) := s2 _ _ hD
        have sT : Same H' (upd H' T (.tup [.str z, v'])) := same_new nT _
        have hT : (upd H' T (.tup [.str z, v'])) T = some (.tup [.str z, v']) := upd_same
        generalize (upd H' T (.tup [.str z, v'])) = HT at sT hT ⊢
        have hDT := sT _ _ hD'
        refine ⟨_, hDT, small1000 (by rw [List.length_map, pr.length]; omega), fun c o eo => ?_, L ++ M, ps ++ [T], es ++ [(z, v')], by rw [upd_same, List.map_append]; rfl, ?_, ?_, ?_, nodup_new nd nd' dl.there new', fun c hc => ?_, fun h => ?_⟩
        · rw [upd_ne (ne_of_none eo nD)]
          exact sT _ _ (s2 _ _ (s1 _ _ eo))
        · rw [List.take_add_one, hz, List.map_append, ek]
          rfl
        · refine Paired.mono (fun p r h => ?_) ((Paired.mono (fun p r h => sT _ _ (s2 _ _ h)) pr).snoc (b := (z, v')) hT)
          rw [upd_ne (fun q => by rw [q, hDT] at h; cases h)]
          exact h
        · rw [List.take_add_one, ht, List.map_append]
          refine DLs.keep (H := HT) (((dl.same s2).snoc dv').same sT) fun c hc o eo => ?_
          rw [upd_ne (fun q => ?_)]
          · exact eo
          · subst q
            rcases List.mem_append.mp hc with h | h
            · exact nL h
            · rw [new' _ h] at hD
              cases hD
        · rcases List.mem_append.mp hc with h | h
          · exact new c h
          · exact s1.free (new' c h)
        · rcases List.mem_append.mp h with h | h
          · exact nL h
          · rw [new' _ h] at hD
            cases hD
      · rintro Hx ⟨s1, L, ps, es, hD, ek, pr, dl, nd, new, nL⟩
        rw [List.take_of_length_le (by omega)] at ek dl
        have ha := s1 _ _ h1a
        have nDa : D ≠ a := fun q => by rw [q, ha] at hD; cases hD
        have keep : ∀ c, c ≠ a → (upd Hx a (.dK kvs)) c = Hx c := fun c nc => upd_ne nc
        have at' : (upd Hx a (.dK kvs)) a = some (.dK kvs) := upd_same
        refine ⟨ha, D, ps, tkD es, rfl, .inl (.inl ?_), ?_, fun p np => ?_⟩
        · rw [keep D nDa]
          exact hD
        · have go : ∀ {ps : List Addr} {es : List (Str × V)}, Paired (fun p (r : Str × V) => Hx p = some (.tup [.str r.1, r.2])) ps es → Paired (fun p (kv : Key × V) => SqT K (upd Hx a (.dK kvs)) p [kV kv.1, kv.2]) ps (tkD es) := by
            intro ps es pr
            induction pr with
            | nil => exact .nil
            | cons h _ ih =>
              refine .cons (.inl (.inl ?_)) ih
              rw [keep _ (fun q => by rw [q, ha] at h; cases h)]
              exact h
          exact go pr
        · rw [tk_dict (by rw [ek]; exact ndk)]
          have sH : Same H (upd Hx a (.dK kvs)) := fun c o eo => by
            by_cases qc : c = a
            · subst qc
              rw [at', ← eo]
              exact e.symm
            · rw [keep c qc]
              exact s1 _ _ (by rw [k1 c qc]; exact eo)
          have nLa : ∀ c ∈ L, c ≠ a := fun c hc q => by
            have h := new c hc
            rw [q, h1a] at h
            cases h
          have dl3 : DLs (upd Hx a (.dK kvs)) L (es.map (·.2)) ts := dl.keep fun c hc o eo => by rw [keep c (nLa c hc)]; exact eo
          refine q _ (p :: L) _ (sH.trans (same_new np _)) (.dct upd_same (by rw [tkD_keys, ek]) ndk few (by rw [tkD_vals]; exact dl3.same (same_new np _))) (List.nodup_cons.mpr ⟨fun h => ?_, nd⟩) fun c hc => ?_
          · obtain ⟨o, h⟩ := dl3.there p h
            rw [np] at h
            cases h
          · rcases List.mem_cons.mp hc with h | h
            · subst h
              exact sH.free np
            · have h2 := new c h
              rw [k1 c (nLa c h)] at h2
              exact h2
end
end Lw

set_option Elab.async false
set_option linter.all false
set_option maxRecDepth 100000
set_option maxHeartbeats 4000000
/-! what is changed: some places alone; values changed one after another -/
namespace Lw
open PySem PySem.Spec PyProof.Rows L2
/-- all stands but what stands at these places; none is freed -/
structure Off (L : List Addr) (H H' : Hp) : Prop where
  keep : ∀ a o, a ∉ L → H a = some o → H' a = some o
  free : ∀ a, H' a = none → H a = none
section
variable {L M : List Addr} {H H1 H2 : Hp}
theorem Off.refl (L : List Addr) (H : Hp) : Off L H H := ⟨fun _ _ _ h => h, fun _ h => h⟩
theorem Off.trans (x : Off L H H1) (y : Off M H1 H2) : Off (L ++ M) H H2 :=
  ⟨fun a o n e => y.keep a o (fun h => n (List.mem_append_right _ h)) (x.keep a o (fun h => n (List.mem_append_left _ h)) e), fun a e => x.free a (y.free a e)⟩
theorem Off.sub (x : Off L H H1) (s : ∀ a ∈ L, a ∈ M) : Off M H H1 := ⟨fun a o n e => x.keep a o (fun h => n (s a h)) e, x.free⟩
theorem Off.then (x : Off L H H1) (y : Off L H1 H2) : Off L H H2 := (x.trans y).sub fun a h => (List.mem_append.mp h).elim id id
theorem Off.same (s : Same H H1) : Off L H H1 := ⟨fun a o _ e => s a o e, fun a e => s.free e⟩
theorem Off.put {a : Addr} {u o : HO} (m : a ∈ L) (e : H a = some u) : Off L H (upd H a o) :=
  ⟨fun b w n h => by rw [upd_ne (fun q : b = a => n (by rw [q]; exact m))]; exact h, fun b h => by
    by_cases q : b = a
    · subst q; rw [upd_same] at h; cases h
    · rw [upd_ne q] at h; exact h⟩
end
/-- of some values, with places of their own, the first i are changed -/
structure Rui (H : Hp) (L : List Addr) (xs : List V) (ts : List Tr) (i : Nat) (Hx : Hp) : Prop where
  ex : ∃ L1 L2, L = L1 ++ L2 ∧ Off L1 H Hx ∧ DLs H L2 (xs.drop i) (ts.drop i)
section
variable {H Hx : Hp} {L : List Addr} {xs : List V} {ts : List Tr} {i : Nat}
theorem Rui.zero (d : DLs H L xs ts) : Rui H L xs ts 0 H := ⟨[], L, rfl, .refl _ _, d⟩
theorem Rui.off (r : Rui H L xs ts i Hx) : Off L H Hx := by
  obtain ⟨L1, L2, rfl, h, _⟩ := r.ex
  exact h.sub fun a m => List.mem_append_left _ m
theorem Rui.step (nd : L.Nodup) (r : Rui H L xs ts i Hx) {x : V} (hx : xs[i]? = some x) :
    ∃ t M, ts[i]? = some t ∧ DL Hx M x t ∧ M.Nodup ∧ (∀ b ∈ M, b ∈ L) ∧ ∀ H', Off M Hx H' → Rui H L xs ts (i + 1) H' := by
  obtain ⟨L1, L2, rfl, h, d⟩ := r.ex
  have lx : i < xs.length := (List.getElem?_eq_some_iff.mp hx).1
  have ex : xs.drop i = x :: xs.drop (i + 1) := by
    rw [List.drop_eq_getElem_cons lx, (List.getElem?_eq_some_iff.mp hx).2]
  rw [ex] at d
  have lt : i < ts.length := by
    have h1 := d.len
    rw [List.length_cons, List.length_drop, List.length_drop] at h1
    omega
  have et : ts.drop i = ts[i] :: ts.drop (i + 1) := List.drop_eq_getElem_cons lt
  rw [et] at d
  cases d with
  | @cons M L3 _ _ _ _ a b =>
    have nd1 := List.nodup_append.mp nd
    have nd2 := List.nodup_append.mp nd1.2.1
    refine ⟨ts[i], M, List.getElem?_eq_getElem lt, a.keep fun c hc o e => h.keep c o (fun hL => nd1.2.2 c hL c (List.mem_append_left _ hc) rfl) e, nd2.1, fun c hc => List.mem_append_right _ (List.mem_append_left _ hc), fun H' hO => ⟨L1 ++ M, L3, (List.append_assoc _ _ _).symm, h.trans hO, b⟩⟩
end
theorem valV_at : ∀ {kvs : List (Key × V)} {i : Nat} {k : Key} {v : V}, (kvs.map (·.1)).Nodup → kvs[i]? = some (k, v) → valV kvs k = some v
  | [], _, _, _, _, h => by simp at h
  | p :: r, 0, k, v, _, h => by
    cases h
    show ((List.find? _ ((k, v) :: r)).map _) = _
    rw [List.find?_cons_of_pos (by exact decide_eq_true rfl)]
    rfl
  | p :: r, i + 1, k, v, nd, h => by
    have h' : r[i]? = some (k, v) := by simpa using h
    rw [List.map_cons, List.nodup_cons] at nd
    have ne : ¬ p.1 = k := fun q => nd.1 (q ▸ List.mem_map_of_mem (f := (·.1)) (List.mem_of_getElem? h'))
    show ((List.find? _ (p :: r)).map _) = _
    rw [List.find?_cons_of_neg (by rw [decide_eq_true_eq]; exact ne)]
    exact valV_at nd.2 h'
theorem inr_nodup : ∀ {ks : List Str}, ks.Nodup → (ks.map (Sum.inr : Str → Key)).Nodup
  | [], _ => List.nodup_nil
  | k :: r, h => by
    rw [List.map_cons]
    refine List.nodup_cons.mpr ⟨fun m => ?_, inr_nodup (List.nodup_cons.mp h).2⟩
    obtain ⟨y, hy, e⟩ := List.mem_map.mp m
    rw [Sum.inr.inj e] at hy
    exact (List.nodup_cons.mp h).1 hy
end Lw

set_option Elab.async false
set_option linter.all false
set_option maxRecDepth 100000
set_option maxHeartbeats 4000000
namespace Lw
open PySem PySem.Spec PyProof.Rows L2
abbrev sRuined : Stmt := topS 43
abbrev NRuined : List Str := ["_law_thing", "_law_one", "_law_key"]
def Tr.seq : Tr → Bool
  | .lst _ => true
  | .tup _ => true
  | _ => false
theorem kitT_seq (K : PySem.W.Frag) (t : Tr) : PySem.W.kitAny K (.type t.ty) [.type "list", .type "tuple"] = some t.seq := by cases t <;> rfl
section
variable {P : Program} {w : World} {K : PySem.W.Frag} {mg : Str → Option Value} {base : Heap}
theorem scRuined : FnScope NRuined ["_law_thing"] (defScope sRuined) := ⟨rfl, rfl, rfl, by decide +kernel, rfl, by decide +kernel, by decide +kernel⟩
def spRuined (n : Nat) : Sp := fun vs H Q _ => ∃ (v : V) (t : Tr) (L : List Addr), vs = [v] ∧ DL H L v t ∧ L.Nodup ∧ t.depth < n ∧ t.few = true ∧ ∀ H' : Hp, Off L H H' → Q (.bl true) H'
theorem ok_ruined {f : Addr} {fd : FuncData} (F : Fun K "_law_ruined" "_law_ruined" sRuined f fd) (m : mg "_law_ruined" = some (.ref f)) (b : Binds K fd ["_law_thing"] []) (mi : mg "isinstance" = none) (ml : mg "list" = none) (mt : mg "tuple" = none) (md : mg "dict" = none) :
    ∀ n, FnOk P w K mg base CX0 n f fd ["_law_thing"] (spRuined n)
  | 0 => ⟨fun vs H Q E h => by obtain ⟨_, _, _, _, _, _, z, _⟩ := h; exact absurd z (Nat.not_lt_zero _), fun A outer s H args us vs Q E hr e0 bi rv h => by obtain ⟨_, _, _, _, _, _, z, _⟩ := h; exact absurd z (Nat.not_lt_zero _)⟩
  | n + 1 => by
    have IH := ok_ruined F m b mi ml mt md n
    refine F.ok scRuined (fun vs H Q E h => ?_) (fun cdv A outer s H vs Q E hr h => ?_)
    · obtain ⟨v, t, L, rfl, _⟩ := h
      rfl
    obtain ⟨v, t, L, rfl, dv, nd, dp, fw, q⟩ := h
    have scal : ∀ {v : V} {t : Tr}, (∀ H : Hp, TyX K H v (.type t.ty)) → t.seq = false → t.is "dict" = false → t.is "list" = false → (∀ H' : Hp, Off [] H H' → Q (.bl true) H') → ∃ u, PSs (cxOf CX0 P w K mg base NRuined "_law_ruined" (defScope sRuined) f cdv A outer s H E).nox (defBody sRuined) u ∧ u { nx := fun _ H' => Q .non H', rt := Q } (start NRuined [v]) H := by
      intro v t ty i1 i2 i3 q
      refine ⟨_, pss_cons (ps_if (pt_val (pe_callB call_isiT (by rfl) mi (by decide +kernel) (pa_cons (pv 0) (pa_cons (pe_tup (pa_cons (pe_bltn (v := .ty "list") (by rfl) ml (by decide +kernel) rfl) (pa_cons (pe_bltn (v := .ty "tuple") (by rfl) mt (by decide +kernel) rfl) pa_nil))) pa_nil))))
        (pss_one (ps_for PassesOwn.never rfl (pi_list (pv 0)) (pg_name (i := 1) scRuined.nd rfl (.inl rfl)) (pss_one (ps_expr (pe_call IH hr (by rfl) m F.kp b .nil pass0 (pa_cons (pv 1) pa_nil)))))) pss_nil)
      (pss_cons (ps_if (pt_val (pe_callB call_isi (by rfl) mi (by decide +kernel) (pa_cons (pv 0) (pa_cons (pe_bltn (v := .ty "dict") (by rfl) md (by decide +kernel) rfl) pa_nil))))
        (pss_cons (ps_for PassesOwn.never rfl (pi_list (pe_callTy (call_listD rfl) (by rfl) ml (by decide +kernel) (pa_cons (pv 0) pa_nil))) (pg_name (i := 2) scRuined.nd rfl (.inl rfl)) (pss_one (ps_expr (pe_call IH hr (by rfl) m F.kp b .nil pass0 (pa_cons (pe_dget (hu_of hr) (pv 0) (pv 2) (fun _ _ => rfl)) pa_nil)))))
        (pss_cons (ps_expr (pe_dclear (pv 0))) (pss_one (ps_dput (hu_of hr) (pv 0) pe_str pe_non (by rfl))))) pss_nil)
      (pss_cons (ps_if (pt_val (pe_callB call_isi (by rfl) mi (by decide +kernel) (pa_cons (pv 0) (pa_cons (pe_bltn (v := .ty "list") (by rfl) ml (by decide +kernel) rfl) pa_nil))))
        (pss_cons (ps_expr (pe_bm0 PySem.F.plainAttrs_list PySem.F.slot_list_reverse PySem.F.type_list_reverse mt_reverse (pv 0))) (pss_one (ps_expr (pe_bm PySem.F.plainAttrs_list PySem.F.slot_list_append PySem.F.type_list_append mt_append (pv 0) (pa_cons pe_non pa_nil))))) pss_nil)
      (pss_one (ps_ret pe_bl)))), ?_⟩
      refine ⟨v, rfl, small (by show 2 ≤ 1000; decide), fun tp ntp => ⟨v, tp, [.ty "list", .ty "tuple"], _, [.type "list", .type "tuple"], _, rfl, upd_same, .cons (.ty "list") (.cons (.ty "tuple") .nil), ty _, kitT_seq K t, _, rfl, ff_if i1 ?_⟩⟩
      exact ⟨v, rfl, v, .ty "dict", _, _, _, rfl, .ty "dict", ty _, kitT_dict K t, _, rfl, ff_if i2 ⟨v, rfl, v, .ty "list", _, _, _, rfl, .ty "list", ty _, kitT_list K t, _, rfl, ff_if i3 (q _ (.same (same_new ntp _)))⟩⟩
    cases dv with
    | non => exact scal (t := .non) (fun _ => .base .non) rfl rfl rfl q
    | bl x => exact scal (t := .bl x) (fun _ => .base (.bl x)) rfl rfl rfl q
    | int x => exact scal (t := .int x) (fun _ => .base (.int x)) rfl rfl rfl q
    | str x => exact scal (t := .str x) (fun _ => .base (.str x)) rfl rfl rfl q
    | @lst a L xs ts e d =>
      have dd : Tr.depths ts < n := Nat.lt_of_succ_lt_succ dp
      have ff : ts.length ≤ 1000 ∧ Tr.fews ts = true := by
        have h : (decide (ts.length ≤ 1000) && Tr.fews ts) = true := fw
        rw [Bool.and_eq_true, decide_eq_true_eq] at h
        exact h
      obtain ⟨na, nd'⟩ := List.nodup_cons.mp nd
      refine ⟨_, pss_cons (ps_if (pt_val (pe_callB call_isiT (by rfl) mi (by decide +kernel) (pa_cons (pv 0) (pa_cons (pe_tup (pa_cons (pe_bltn (v := .ty "list") (by rfl) ml (by decide +kernel) rfl) (pa_cons (pe_bltn (v := .ty "tuple") (by rfl) mt (by decide +kernel) rfl) pa_nil))) pa_nil))))
        (pss_one (ps_for PassesOwn.never rfl (pi_list (pv 0)) (pg_name (i := 1) scRuined.nd rfl (.inl rfl)) (pss_one (ps_expr (pe_call IH hr (by rfl) m F.kp b .nil pass0 (pa_cons (pv 1) pa_nil)))))) pss_nil)
      (pss_cons (ps_if (pt_val (pe_callB call_isi (by rfl) mi (by decide +kernel) (pa_cons (pv 0) (pa_cons (pe_bltn (v := .ty "dict") (by rfl) md (by decide +kernel) rfl) pa_nil))))
        (pss_cons (ps_for PassesOwn.never rfl (pi_list (pe_callTy (call_listD rfl) (by rfl) ml (by decide +kernel) (pa_cons (pv 0) pa_nil))) (pg_name (i := 2) scRuined.nd rfl (.inl rfl)) (pss_one (ps_expr (pe_call IH hr (by rfl) m F.kp b .nil pass0 (pa_cons (pe_dget (hu_of hr) (pv 0) (pv 2) (fun _ _ => rfl)) pa_nil)))))
        (pss_cons (ps_expr (pe_dclear (pv 0))) (pss_one (ps_dput (hu_of hr) (pv 0) pe_str pe_non (by rfl))))) pss_nil)
      (pss_cons (ps_if (pt_val (pe_callB call_isi (by rfl) mi (by decide +kernel) (pa_cons (pv 0) (pa_cons (pe_bltn (v := .ty "list") (by rfl) ml (by decide +kernel) rfl) pa_nil))))
        (pss_cons (ps_expr (pe_bm0 PySem.F.plainAttrs_list PySem.F.slot_list_reverse PySem.F.type_list_reverse mt_reverse (pv 0))) (pss_one (ps_expr (pe_bm PySem.F.plainAttrs_list PySem.F.slot_list_append PySem.F.type_list_append mt_append (pv 0) (pa_cons pe_non pa_nil))))) pss_nil)
      (pss_one (ps_ret pe_bl)))), ?_⟩
      refine ⟨_, rfl, small (by show 2 ≤ 1000; decide), fun tp ntp => ⟨_, tp, [.ty "list", .ty "tuple"], _, [.type "list", .type "tuple"], _, rfl, upd_same, .cons (.ty "list") (.cons (.ty "tuple") .nil), .base (.lst (same_new ntp _ _ _ e)), kitT_seq K (.lst ts), _, rfl, tt_if rfl ?_⟩⟩
      have s0 : Same H (upd H tp (.tup [.ty "list", .ty "tuple"])) := same_new ntp _
      have e0 := s0 _ _ e
      have d0 := d.same s0
      generalize (upd H tp (.tup [.ty "list", .ty "tuple"])) = Hs at s0 e0 d0 ⊢
      refine ⟨_, rfl, a, rfl, ⟨xs, .inl (.inl e0)⟩, ?_⟩
      refine for_list (K := K) (a := a) (xs := xs) (fun i σ Hx => (∃ o1, σ = [some (.ref a), o1, none]) ∧ Rui Hs L xs ts i Hx) ⟨⟨_, rfl⟩, .zero d0⟩ (fun i σ Hx _ p => .inl (.inl (p.2.off.keep a _ na e0))) ?_ ?_
      · rintro i x σ Hx hx ⟨⟨o1, rfl⟩, r⟩
        obtain ⟨t, M, ht, dl, ndM, _, next⟩ := r.step nd' hx
        have mem : t ∈ ts := List.mem_of_getElem? ht
        exact ⟨x, rfl, x, t, M, rfl, dl, ndM, Nat.lt_of_le_of_lt (depth_mem mem) dd, few_mem mem ff.2, fun H' o => ⟨⟨_, rfl⟩, next H' o⟩⟩
      · rintro σ Hx ⟨⟨o1, rfl⟩, r⟩
        have ex := r.off.keep a _ na e0
        refine ⟨_, rfl, _, .ty "dict", _, _, _, rfl, .ty "dict", .base (.lst ex), kitT_dict K (.lst ts), _, rfl, ff_if rfl ⟨_, rfl, _, .ty "list", _, _, _, rfl, .ty "list", .base (.lst ex), kitT_list K (.lst ts), _, rfl, tt_if rfl ?_⟩⟩
        refine ⟨_, rfl, .inl ⟨rfl, xs, .inl (.inl ex)⟩, a, xs, rfl, rfl, ex, ?_⟩
        refine ⟨_, rfl, .inl ⟨rfl, _, .inl (.inl upd_same)⟩, a, _, .non, rfl, rfl, upd_same, small1000 (by rw [List.length_reverse, d.len]; exact ff.1), ?_⟩
        exact q _ (((Off.same s0).then (r.off.sub fun c hc => List.mem_cons_of_mem _ hc)).then ((Off.put List.mem_cons_self ex).then (.put List.mem_cons_self upd_same)))
    | @tup a L xs ts e d =>
      have dd : Tr.depths ts < n := Nat.lt_of_succ_lt_succ dp
      have ff : ts.length ≤ 1000 ∧ Tr.fews ts = true := by
        have h : (decide (ts.length ≤ 1000) && Tr.fews ts) = true := fw
        rw [Bool.and_eq_true, decide_eq_true_eq] at h
        exact h
      obtain ⟨na, nd'⟩ := List.nodup_cons.mp nd
      refine ⟨_, pss_cons (ps_if (pt_val (pe_callB call_isiT (by rfl) mi (by decide +kernel) (pa_cons (pv 0) (pa_cons (pe_tup (pa_cons (pe_bltn (v := .ty "list") (by rfl) ml (by decide +kernel) rfl) (pa_cons (pe_bltn (v := .ty "tuple") (by rfl) mt (by decide +kernel) rfl) pa_nil))) pa_nil))))
        (pss_one (ps_for PassesOwn.never rfl (pi_tup (pv 0)) (pg_name (i := 1) scRuined.nd rfl (.inl rfl)) (pss_one (ps_expr (pe_call IH hr (by rfl) m F.kp b .nil pass0 (pa_cons (pv 1) pa_nil)))))) pss_nil)
      (pss_cons (ps_if (pt_val (pe_callB call_isi (by rfl) mi (by decide +kernel) (pa_cons (pv 0) (pa_cons (pe_bltn (v := .ty "dict") (by rfl) md (by decide +kernel) rfl) pa_nil))))
        (pss_cons (ps_for PassesOwn.never rfl (pi_list (pe_callTy (call_listD rfl) (by rfl) ml (by decide +kernel) (pa_cons (pv 0) pa_nil))) (pg_name (i := 2) scRuined.nd rfl (.inl rfl)) (pss_one (ps_expr (pe_call IH hr (by rfl) m F.kp b .nil pass0 (pa_cons (pe_dget (hu_of hr) (pv 0) (pv 2) (fun _ _ => rfl)) pa_nil)))))
        (pss_cons (ps_expr (pe_dclear (pv 0))) (pss_one (ps_dput (hu_of hr) (pv 0) pe_str pe_non (by rfl))))) pss_nil)
      (pss_cons (ps_if (pt_val (pe_callB call_isi (by rfl) mi (by decide +kernel) (pa_cons (pv 0) (pa_cons (pe_bltn (v := .ty "list") (by rfl) ml (by decide +kernel) rfl) pa_nil))))
        (pss_cons (ps_expr (pe_bm0 PySem.F.plainAttrs_list PySem.F.slot_list_reverse PySem.F.type_list_reverse mt_reverse (pv 0))) (pss_one (ps_expr (pe_bm PySem.F.plainAttrs_list PySem.F.slot_list_append PySem.F.type_list_append mt_append (pv 0) (pa_cons pe_non pa_nil))))) pss_nil)
      (pss_one (ps_ret pe_bl)))), ?_⟩
      refine ⟨_, rfl, small (by show 2 ≤ 1000; decide), fun tp ntp => ⟨_, tp, [.ty "list", .ty "tuple"], _, [.type "list", .type "tuple"], _, rfl, upd_same, .cons (.ty "list") (.cons (.ty "tuple") .nil), .base (.tup (same_new ntp _ _ _ e)), kitT_seq K (.tup ts), _, rfl, tt_if rfl ?_⟩⟩
      have s0 : Same H (upd H tp (.tup [.ty "list", .ty "tuple"])) := same_new ntp _
      have e0 := s0 _ _ e
      have d0 := d.same s0
      generalize (upd H tp (.tup [.ty "list", .ty "tuple"])) = Hs at s0 e0 d0 ⊢
      refine ⟨_, rfl, a, rfl, ⟨xs, .inl (.inl e0)⟩, ?_⟩
      refine for_tup (K := K) (a := a) (xs := xs) (fun i σ Hx => (∃ o1, σ = [some (.ref a), o1, none]) ∧ Rui Hs L xs ts i Hx) ⟨⟨_, rfl⟩, .zero d0⟩ (fun i σ Hx _ p => .inl (.inl (p.2.off.keep a _ na e0))) ?_ ?_
      · rintro i x σ Hx hx ⟨⟨o1, rfl⟩, r⟩
        obtain ⟨t, M, ht, dl, ndM, _, next⟩ := r.step nd' hx
        have mem : t ∈ ts := List.mem_of_getElem? ht
        exact ⟨x, rfl, x, t, M, rfl, dl, ndM, Nat.lt_of_le_of_lt (depth_mem mem) dd, few_mem mem ff.2, fun H' o => ⟨⟨_, rfl⟩, next H' o⟩⟩
      · rintro σ Hx ⟨⟨o1, rfl⟩, r⟩
        have ex := r.off.keep a _ na e0
        refine ⟨_, rfl, _, .ty "dict", _, _, _, rfl, .ty "dict", .base (.tup ex), kitT_dict K (.tup ts), _, rfl, ff_if rfl ⟨_, rfl, _, .ty "list", _, _, _, rfl, .ty "list", .base (.tup ex), kitT_list K (.tup ts), _, rfl, ff_if rfl ?_⟩⟩
        exact q _ ((Off.same s0).then (r.off.sub fun c hc => List.mem_cons_of_mem _ hc))
    | @dct a L kvs ks ts e k ndk few d =>
      have dd : Tr.depths ts < n := Nat.lt_of_succ_lt_succ dp
      have ff : Tr.fews ts = true := fw
      obtain ⟨na, nd'⟩ := List.nodup_cons.mp nd
      refine ⟨_, pss_cons (ps_if (pt_val (pe_callB call_isiT (by rfl) mi (by decide +kernel) (pa_cons (pv 0) (pa_cons (pe_tup (pa_cons (pe_bltn (v := .ty "list") (by rfl) ml (by decide +kernel) rfl) (pa_cons (pe_bltn (v := .ty "tuple") (by rfl) mt (by decide +kernel) rfl) pa_nil))) pa_nil))))
        (pss_one (ps_for PassesOwn.never rfl (pi_list (pv 0)) (pg_name (i := 1) scRuined.nd rfl (.inl rfl)) (pss_one (ps_expr (pe_call IH hr (by rfl) m F.kp b .nil pass0 (pa_cons (pv 1) pa_nil)))))) pss_nil)
      (pss_cons (ps_if (pt_val (pe_callB call_isi (by rfl) mi (by decide +kernel) (pa_cons (pv 0) (pa_cons (pe_bltn (v := .ty "dict") (by rfl) md (by decide +kernel) rfl) pa_nil))))
        (pss_cons (ps_for PassesOwn.never rfl (pi_list (pe_callTy (call_listD rfl) (by rfl) ml (by decide +kernel) (pa_cons (pv 0) pa_nil))) (pg_name (i := 2) scRuined.nd rfl (.inl rfl)) (pss_one (ps_expr (pe_call IH hr (by rfl) m F.kp b .nil pass0 (pa_cons (pe_dget (hu_of hr) (pv 0) (pv 2) (fun _ _ => rfl)) pa_nil)))))
        (pss_cons (ps_expr (pe_dclear (pv 0))) (pss_one (ps_dput (hu_of hr) (pv 0) pe_str pe_non (by rfl))))) pss_nil)
      (pss_cons (ps_if (pt_val (pe_callB call_isi (by rfl) mi (by decide +kernel) (pa_cons (pv 0) (pa_cons (pe_bltn (v := .ty "list") (by rfl) ml (by decide +kernel) rfl) pa_nil))))
        (pss_cons (ps_expr (pe_bm0 PySem.F.plainAttrs_list PySem.F.slot_list_reverse PySem.F.type_list_reverse mt_reverse (pv 0))) (pss_one (ps_expr (pe_bm PySem.F.plainAttrs_list PySem.F.slot_list_append PySem.F.type_list_append mt_append (pv 0) (pa_cons pe_non pa_nil))))) pss_nil)
      (pss_one (ps_ret pe_bl)))), ?_⟩
      refine ⟨_, rfl, small (by show 2 ≤ 1000; decide), fun tp ntp => ⟨_, tp, [.ty "list", .ty "tuple"], _, [.type "list", .type "tuple"], _, rfl, upd_same, .cons (.ty "list") (.cons (.ty "tuple") .nil), .base (.dK (same_new ntp _ _ _ e)), kitT_seq K (.dct ks ts), _, rfl, ff_if rfl ?_⟩⟩
      have s0 : Same H (upd H tp (.tup [.ty "list", .ty "tuple"])) := same_new ntp _
      have e0 := s0 _ _ e
      have d0 := d.same s0
      generalize (upd H tp (.tup [.ty "list", .ty "tuple"])) = Hr at s0 e0 d0 ⊢
      refine ⟨_, rfl, _, .ty "dict", _, _, _, rfl, .ty "dict", .base (.dK e0), kitT_dict K (.dct ks ts), _, rfl, tt_if rfl ⟨_, rfl, a, kvs, rfl, .inl e0, fun p np => ?_⟩⟩
      have s1 : Same Hr (upd Hr p (.lst (kvs.map fun kv => kV kv.1))) := same_new np _
      have e1 := s1 _ _ e0
      have d1 := d0.same s1
      have hp : (upd Hr p (.lst (kvs.map fun kv => kV kv.1))) p = some (.lst (kvs.map fun kv => kV kv.1)) := upd_same
      have npL : p ∉ L := fun h => by
        obtain ⟨o, h2⟩ := d0.there p h
        rw [np] at h2
        cases h2
      generalize (upd Hr p (.lst (kvs.map fun kv => kV kv.1))) = Hs at s1 e1 d1 hp ⊢
      refine ⟨p, rfl, ⟨_, .inl (.inl hp)⟩, ?_⟩
      refine for_list (K := K) (a := p) (xs := kvs.map fun kv => kV kv.1) (fun i σ Hx => (∃ o2, σ = [some (.ref a), none, o2]) ∧ Rui Hs L (kvs.map (·.2)) ts i Hx) ⟨⟨_, rfl⟩, .zero d1⟩ (fun i σ Hx _ r => .inl (.inl (r.2.off.keep p _ npL hp))) ?_ ?_
      · rintro i x σ Hx hx ⟨⟨o2, rfl⟩, r⟩
        obtain ⟨⟨kk, u⟩, hkv, rfl⟩ := map_get hx
        have ex := r.off.keep a _ na e1
        refine ⟨_, rfl, kV kk, rfl, a, u, rfl, .inl ⟨kvs, kk, .inl ex, rfl, (valV_at (by rw [k]; exact inr_nodup ndk) hkv).symm⟩, ?_⟩
        obtain ⟨t, M, ht, dl, ndM, _, next⟩ := r.step (x := u) nd' (by rw [List.getElem?_map, hkv]; rfl)
        have mem : t ∈ ts := List.mem_of_getElem? ht
        exact ⟨u, t, M, rfl, dl, ndM, Nat.lt_of_le_of_lt (depth_mem mem) dd, few_mem mem ff, fun H' o => ⟨⟨_, rfl⟩, next H' o⟩⟩
      · rintro σ Hx ⟨⟨o2, rfl⟩, r⟩
        have ex := r.off.keep a _ na e1
        refine ⟨_, rfl, .inr (.inr (.inl ⟨rfl, .inl ⟨_, ex⟩⟩)), a, kvs, rfl, rfl, ex, ?_⟩
        refine ⟨_, rfl, a, _, rfl, .inl ⟨[], .inr "q", upd_same, rfl, small1000 (Nat.zero_le _), rfl⟩, ?_⟩
        refine ⟨_, rfl, _, .ty "list", _, _, _, rfl, .ty "list", .base (.dK upd_same), kitT_list K (.dct ks ts), _, rfl, ff_if rfl ?_⟩
        exact q _ ((((Off.same s0).then (.same s1)).then (r.off.sub fun c hc => List.mem_cons_of_mem _ hc)).then ((Off.put List.mem_cons_self ex).then (.put List.mem_cons_self upd_same)))
end
end Lw

set_option Elab.async false
set_option linter.all false
set_option maxRecDepth 100000
set_option maxHeartbeats 4000000
namespace Lw
open PySem PySem.Spec PyProof.Rows L2
inductive Fld where
  | mk (ws : List Str) | lk (t : Str) | tg
inductive FV (H : Hp) (ns : List Str) : V → Fld → Prop
  | mk {t l : Addr} {ws : List Str} (a : H t = some (.tup [.str "mark", .ref l])) (b : H l = some (.lst (ws.map V.str))) (c : ws ≠ []) (d : ∀ z ∈ ws, NameOk z) (few : ws.length ≤ 4) (nd : ws.Nodup) : FV H ns (.ref t) (.mk ws)
  | lk {t : Addr} {n : Str} (a : H t = some (.tup [.str "link", .str n])) (m : n ∈ ns) : FV H ns (.ref t) (.lk n)
  | tg {t : Addr} (a : H t = some (.tup [.str "tag"])) : FV H ns (.ref t) .tg
/-- as they are drawn: up to three words -/
def Fld.w3 : Fld → Prop
  | .mk ws => ws.length ≤ 3
  | .lk _ => True
  | .tg => True
def Fld.num : Fld → Nat
  | .mk _ => 0
  | .lk _ => 1
  | .tg => 2
/-- how many of a sort -/
def cntF (fs : List (Str × Fld)) (k : Nat) : Nat := (fs.filter fun p => decide (p.2.num = k)).length
theorem cntF_one (fs : List (Str × Fld)) (z : Str) (f : Fld) (k : Nat) : cntF (fs ++ [(z, f)]) k = cntF fs k + if f.num = k then 1 else 0 := by
  unfold cntF
  rw [List.filter_append, List.length_append]
  by_cases q : f.num = k
  · rw [if_pos q, List.filter_cons_of_pos (by exact decide_eq_true q)]
    rfl
  · rw [if_neg q, List.filter_cons_of_neg (by rw [decide_eq_true_eq]; exact q)]
    rfl
/-- a dict of texts -/
abbrev txD (es : List (Str × V)) : List (Key × V) := es.map fun p => (Sum.inr p.1, p.2)
/-- the fields of a table, in the order in which they came -/
structure FsAt (H : Hp) (ns : List Str) (a : Addr) (fs : List (Str × Fld)) : Prop where
  ex : ∃ es : List (Str × V), H a = some (.dK (txD es)) ∧ Paired (fun e f => e.1 = f.1 ∧ FV H ns e.2 f.2) es fs
  nd : (fs.map (·.1)).Nodup
  few : fs.length ≤ 6
  ok : ∀ p ∈ fs, NameOk p.1
  two : ∀ k, k < 3 → cntF fs k ≤ 2
theorem FV.mono {H H' : Hp} {ns : List Str} {v : V} {f : Fld} (x : FV H ns v f) (s : Same H H') : FV H' ns v f := by
  cases x with
  | mk a b c d e g => exact .mk (s _ _ a) (s _ _ b) c d e g
  | lk a m => exact .lk (s _ _ a) m
  | tg a => exact .tg (s _ _ a)
theorem FV.but {H H' : Hp} {ns : List Str} {b c : Addr} {v : V} {f : Fld} (x : FV H ns v f) (g : BagAt H b c) (s : But b H H') : FV H' ns v f := by
  obtain ⟨x1, y1, z1, ns1, h1, _, _⟩ := g
  have nt : ∀ {a : Addr} {xs : List V}, H a = some (.tup xs) → a ≠ b := fun e n => by rw [n, h1] at e; cases e
  have nl : ∀ {a : Addr} {ws : List Str}, H a = some (.lst (ws.map V.str)) → a ≠ b := fun {a ws} e n => by
    rw [n, h1] at e
    injection e with e
    injection e with e
    match ws with
    | [] => simp at e
    | w :: r => simp at e
  cases x with
  | mk a b c d e g => exact .mk (s _ _ a (nt a)) (s _ _ b (nl b)) c d e g
  | lk a m => exact .lk (s _ _ a (nt a)) m
  | tg a => exact .tg (s _ _ a (nt a))
theorem pairedF {H H' : Hp} {ns : List Str} {es : List (Str × V)} {fs : List (Str × Fld)} (x : Paired (fun e f => e.1 = f.1 ∧ FV H ns e.2 f.2) es fs) (up : ∀ v f, FV H ns v f → FV H' ns v f) : Paired (fun e f => e.1 = f.1 ∧ FV H' ns e.2 f.2) es fs := by
  induction x with
  | nil => exact .nil
  | cons a _ ih => exact .cons ⟨a.1, up _ _ a.2⟩ ih
theorem FsAt.mono {H H' : Hp} {ns : List Str} {a : Addr} {fs : List (Str × Fld)} (x : FsAt H ns a fs) (s : Same H H') : FsAt H' ns a fs := by
  obtain ⟨vs, e, p⟩ := x.ex
  exact ⟨⟨vs, s _ _ e, pairedF p fun _ _ z => z.mono s⟩, x.nd, x.few, x.ok, x.two⟩
theorem FsAt.but {H H' : Hp} {ns : List Str} {a b c : Addr} {fs : List (Str × Fld)} (x : FsAt H ns a fs) (g : BagAt H b c) (s : But b H H') : FsAt H' ns a fs := by
  obtain ⟨vs, e, p⟩ := x.ex
  refine ⟨⟨vs, s _ _ e fun n => ?_, pairedF p fun _ _ z => z.but g s⟩, x.nd, x.few, x.ok, x.two⟩
  obtain ⟨x1, y1, z1, ns1, h1, _, _⟩ := g
  rw [n, h1] at e
  cases e
/-- a dict of texts: one more -/
theorem putK_new {es : List (Str × V)} {k : Str} {v : V} (new : k ∉ es.map (·.1)) : putK (txD es) (.inr k) v = txD (es ++ [(k, v)]) := by
  have no : (txD es).any (fun kv => decide (kv.1 = Sum.inr k)) = false := by
    rw [List.any_eq_false]
    intro p hp
    obtain ⟨q, hq, rfl⟩ := List.mem_map.mp hp
    simp only [decide_eq_true_eq]
    intro z
    exact new (Sum.inr.inj z ▸ List.mem_map.mpr ⟨q, hq, rfl⟩)
  unfold putK
  rw [if_neg (by rw [no]; exact Bool.false_ne_true)]
  show txD es ++ [(Sum.inr k, v)] = (es ++ [(k, v)]).map fun p => (Sum.inr p.1, p.2)
  rw [List.map_append]
  rfl
theorem paired_keys {H : Hp} {ns : List Str} {es : List (Str × V)} {fs : List (Str × Fld)} (x : Paired (fun e f => e.1 = f.1 ∧ FV H ns e.2 f.2) es fs) : es.map (·.1) = fs.map (·.1) := by
  induction x with
  | nil => rfl
  | cons a _ ih => rw [List.map_cons, List.map_cons, ih, a.1]
theorem nd_snoc {α : Type} {l : List α} {x : α} (h : l.Nodup) (n : x ∉ l) : (l ++ [x]).Nodup := by
  rw [List.nodup_append]
  exact ⟨h, by simp, fun a ha b hb e => n (by rw [List.mem_singleton] at hb; rw [← hb, ← e]; exact ha)⟩
theorem lst_bag {H : Hp} {b c : Addr} {x y z : Int} {ns : List Str} (h1 : H b = some (.lst [.int x, .int y, .int z, .ref c])) (h2 : H b = some (.lst (ns.map V.str))) : False := by
  rw [h1] at h2
  injection h2 with e
  injection e with e
  match ns with
  | [] => simp at e
  | w :: r => simp at e
abbrev sFields : Stmt := topS 37
abbrev NFields : List Str := ["_law_bag_here", "_law_tables", "_law_rare", "_law_labels", "_law_found", "_law_k", "_law_sort"]
section
variable {P : Program} {w : World} {K : PySem.W.Frag} {mg : Str → Option Value} {base : Heap}
theorem scFields : FnScope NFields ["_law_bag_here", "_law_tables", "_law_rare"] (defScope sFields) := ⟨rfl, rfl, rfl, by decide +kernel, rfl, by decide +kernel, by decide +kernel⟩
def spFields : Sp := fun vs H Q _ => ∃ (b c tb : Addr) (ns : List Str) (ra : Int), vs = [.ref b, .ref tb, .int ra] ∧ BagAt H b c ∧ H tb = some (.lst (ns.map V.str)) ∧ ns ≠ [] ∧ ns.length ≤ 20 ∧ 0 < ra ∧ ra ≤ 20 ∧ ∀ (p : Addr) (fs : List (Str × Fld)) (H' : Hp), FsAt H' ns p fs → (∀ p ∈ fs, p.2.w3) → H p = none → BagAt H' b c → But b H H' → Q (.ref p) H'
theorem cond_read {k : Nat} {ra : Int} {b c : Addr} {σ : L2.St} {H3 : Hp} {T F : Hp → Prop} (h0 : σ[0]? = some (some (.ref b))) (h2 : σ[2]? = some (some (.int ra))) (ra0 : 0 < ra) (ra1 : ra ≤ 20) (h5 : σ[5]? = some (some (.int (k : Nat)))) (hb : BagAt H3 b c)
    (t : ∀ H4, BagAt H4 b c → But b H3 H4 → T H4) (f : ∀ H4, BagAt H4 b c → But b H3 H4 → F H4) :
    tOr (tAnd (tTest (tOp (rI0 fun i j => V.bl (decide (i < j))) (tVar 5) (tC (V.int 3)))) (tTest (tOp (rI0 fun i j => V.bl (decide (j < i))) (tCall spTake [] E0 (tCons (tVar 0) (tCons (tC (V.int 4)) tNil))) (tC (V.int 0)))))
      (tAnd (tTest (tOp (rI0 fun i j => V.bl (decide (j < i))) (tVar 5) (tC (V.int 2)))) (tTest (tOp rEq (tCall spTake [] E0 (tCons (tVar 0) (tCons (tVar 2) tNil))) (tC (V.int 0))))) σ H3 (fun b H1 => if b = true then T H1 else F H1) := by
  by_cases h : k < 3
  · refine ⟨_, h5, _, _, rfl, rfl, _, rfl, tt_if (decide_eq_true (by omega)) ?_⟩
    refine ⟨_, h0, b, c, 4, rfl, hb, by decide, by decide, fun r H4 r0 r1 hb4 B4 => ⟨r, 0, rfl, rfl, _, rfl, ?_⟩⟩
    by_cases g : 0 < r
    · exact tt_if (decide_eq_true g) (tt_if rfl (t _ hb4 B4))
    · exact ff_if (decide_eq_false g) ⟨_, h5, _, _, rfl, rfl, _, rfl, ff_if (decide_eq_false (by omega)) (ff_if rfl (f _ hb4 B4))⟩
  · refine ⟨_, h5, _, _, rfl, rfl, _, rfl, ff_if (decide_eq_false (by omega)) (ff_if rfl ⟨_, h5, _, _, rfl, rfl, _, rfl, tt_if (decide_eq_true (by omega)) ?_⟩)⟩
    refine ⟨_, h0, _, h2, b, c, ra, rfl, hb, ra0, by omega, fun r H4 r0 r1 hb4 B4 => ⟨rfl, _, rfl, ?_⟩⟩
    by_cases g : V.int r = V.int 0
    · exact tt_if (decide_eq_true g) (t _ hb4 B4)
    · exact ff_if (decide_eq_false g) (f _ hb4 B4)
theorem ok_fields {f f1 f2 : Addr} {fd fd1 fd2 : FuncData} (F : Fun K "_law_fields" "_law_fields" sFields f fd) (G1 : FnOk P w K mg base CX0 1 f1 fd1 ["_law_bag_here", "_law_many_here"] spTake) (m1 : mg "_law_take" = some (.ref f1)) (k1 : PySem.W.keepIn K (.ref f1) = true) (b1 : Binds K fd1 ["_law_bag_here", "_law_many_here"] [])
    (G2 : FnOk P w K mg base CX0 2 f2 fd2 ["_law_bag_here", "_law_many_here"] spNames) (m2 : mg "_law_names" = some (.ref f2)) (k2 : PySem.W.keepIn K (.ref f2) = true) (b2 : Binds K fd2 ["_law_bag_here", "_law_many_here"] [])
    (mrange : mg "range" = none) (mlen : mg "len" = none) : FnOk P w K mg base CX0 3 f fd ["_law_bag_here", "_law_tables", "_law_rare"] spFields := by
  refine F.ok scFields (fun vs H Q E h => ?_) (fun cdv A outer s H vs Q E hr h => ?_)
  · obtain ⟨b, c, tb, ns, ra, rfl, _⟩ := h
    rfl
  obtain ⟨b, c, tb, ns, ra, rfl, hb, ht, nn, nl, ra0, ra1, q⟩ := h
  refine ⟨_, pss_cons (ps_par (i := 3) (j := 4) rfl scFields.nd rfl rfl (by decide) rfl rfl (pa_cons (pe_call G2 hr (by rfl) m2 k2 b2 .nil pass0 (pa_cons (pv 0) (pa_cons pe_int pa_nil))) (pa_cons pe_dnewK pa_nil)) (by rfl))
    (pss_cons (ps_for PassesOwn.never rfl (pi_range1 (by rfl) mrange (pa_cons pe_int pa_nil)) (pg_name (i := 5) scFields.nd rfl (.inl rfl))
      (pss_one (ps_if (PW.pt (pw_or (PW.pt (pw_and (pt_cmpR op_lt (pv 5) pe_int (nomark _)) (pw_and1 (pt_cmpR op_gt (pe_call G1 (hr.mono (by decide)) (by rfl) m1 k1 b1 .nil pass0 (pa_cons (pv 0) (pa_cons pe_int pa_nil))) pe_int (nomark _))))) (pw_or1 (PW.pt (pw_and (pt_cmpR op_gt (pv 5) pe_int (nomark _)) (pw_and1 (pt_cmpR op_eq (pe_call G1 (hr.mono (by decide)) (by rfl) m1 k1 b1 .nil pass0 (pa_cons (pv 0) (pa_cons (pv 2) pa_nil))) pe_int (nomark _)))))))) (pss_cons (ps_set (i := 6) scFields.nd rfl (.inl rfl) (pe_ix ix_list (pe_lst (pa_cons pe_str (pa_cons pe_str (pa_cons pe_str pa_nil)))) (pe_op op_mod (pv 5) pe_int) (fun _ _ => rfl))) (pss_one (ps_if (pt_cmpR op_eq (pv 6) pe_str (nomark _)) (pss_one (ps_dput (hu_of hr) (pv 4) (pe_ix ix_list (pv 3) (pv 5) (fun _ _ => rfl)) (pe_tup (pa_cons pe_str (pa_cons (pe_call G2 hr (by rfl) m2 k2 b2 .nil pass0 (pa_cons (pv 0) (pa_cons (pe_op op_add pe_int (pe_call G1 (hr.mono (by decide)) (by rfl) m1 k1 b1 .nil pass0 (pa_cons (pv 0) (pa_cons pe_int pa_nil)))) pa_nil))) pa_nil))) (by rfl))) (pss_one (ps_if (pt_cmpR op_eq (pv 6) pe_str (nomark _)) (pss_one (ps_dput (hu_of hr) (pv 4) (pe_ix ix_list (pv 3) (pv 5) (fun _ _ => rfl)) (pe_tup (pa_cons pe_str (pa_cons (pe_ix ix_list (pv 1) (pe_call G1 (hr.mono (by decide)) (by rfl) m1 k1 b1 .nil pass0 (pa_cons (pv 0) (pa_cons (pe_callB call_len_seq (by rfl) mlen (by decide +kernel) (pa_cons (pv 1) pa_nil)) pa_nil))) (fun _ _ => rfl)) pa_nil))) (by rfl))) (pss_one (ps_dput (hu_of hr) (pv 4) (pe_ix ix_list (pv 3) (pv 5) (fun _ _ => rfl)) (pe_tup (pa_cons pe_str pa_nil)) (by rfl)))))))) pss_nil)))
    (pss_one (ps_ret (pv 4)))), ?_⟩
  refine ⟨.ref b, rfl, b, c, 6, rfl, hb, by decide, by decide, fun Lb zs H1 lz ndz okz eL nL hb1 B1 d nd' => ⟨.ref Lb, .ref d, rfl, ?_⟩⟩
  have l6 : zs.length = 6 := by omega
  have nLb : Lb ≠ b := hb.nb nL
  have dH : H d = none := B1.free nd' (hb1.nb nd')
  have eL2 : (upd H1 d (.dK [])) Lb = some (.lst (zs.map V.str)) := by rw [upd_ne (ne_of_none eL nd')]; exact eL
  have eT2 : (upd H1 d (.dK [])) tb = some (.lst (ns.map V.str)) := by
    have nb : tb ≠ b := fun z => by
      obtain ⟨x1, y1, z1, ns1, h1, _, _⟩ := hb
      exact lst_bag h1 (z ▸ ht)
    have e := B1 _ _ ht nb
    rw [upd_ne (ne_of_none e nd')]
    exact e
  have fsat : FsAt (upd H1 d (.dK [])) ns d [] := ⟨⟨[], upd_same, .nil⟩, List.nodup_nil, Nat.zero_le _, (fun p hp => absurd hp (by simp)), fun k _ => Nat.zero_le _⟩
  refine ⟨6, rfl, by decide, by decide, for_range (lo := 0) (n := 6) (fun i σ H3 => ∃ (fs : List (Str × Fld)) (v5 v6 : Option V), σ = [some (.ref b), some (.ref tb), some (.int ra), some (.ref Lb), some (.ref d), v5, v6] ∧ FsAt H3 ns d fs ∧ (∀ p ∈ fs, p.2.w3) ∧ fs.length ≤ i ∧ (∀ k, k < 3 → cntF fs k ≤ (i + 2 - k) / 3) ∧ (∀ p ∈ fs, p.1 ∈ zs.take i) ∧
      H3 Lb = some (.lst (zs.map V.str)) ∧ H3 tb = some (.lst (ns.map V.str)) ∧ BagAt H3 b c ∧ But b H H3) ⟨[], none, none, rfl, fsat, (fun p hp => absurd hp (by simp)), Nat.le_refl _, fun k _ => Nat.zero_le _, fun p hp => absurd hp (by simp), eL2, eT2, hb1.new nd', B1.put dH |>.trans (But.refl _ _)⟩ ?_ ?_⟩
  · rintro i σ H3 hi ⟨fs, v5, v6, rfl, fa, f3, lf, cn, sub, e3, t3, hb3, B3⟩
    rw [Int.zero_add]
    have iz : i < zs.length := by omega
    have ez : zs[i]? = some zs[i] := List.getElem?_eq_getElem iz
    generalize zs[i] = z at ez
    have newz : z ∉ fs.map (·.1) := fun hz => by
      obtain ⟨p, hp, e⟩ := List.mem_map.mp hz
      have m := sub p hp
      rw [e] at m
      have nd2 : (zs.take (i + 1)).Nodup := ndz.sublist (List.take_sublist _ _)
      rw [List.take_add_one, ez] at nd2
      exact (List.nodup_append.mp nd2).2.2 z m z (by simp) rfl
    have okz' : NameOk z := okz z (List.mem_of_getElem? ez)
    have sub2 : ∀ p ∈ fs, p.1 ∈ zs.take (i + 1) := fun p hp => List.mem_of_mem_take (l := zs.take (i+1)) (i := i) (by rw [List.take_take, Nat.min_eq_left (Nat.le_succ _)]; exact sub p hp)
    have inz : z ∈ zs.take (i + 1) := by rw [List.take_add_one, ez]; simp
    have nLb' : ∀ {H4}, But b H3 H4 → H4 Lb = some (.lst (zs.map V.str)) := fun x => x _ _ e3 nLb
    -- a field more
    have more : ∀ (v : V) (fl : Fld) (H5 : Hp) (es : List (Str × V)), FsAt H5 ns d fs → H5 d = some (.dK (txD es)) → Paired (fun e f => e.1 = f.1 ∧ FV H5 ns e.2 f.2) es fs → FV H5 ns v fl → (∀ u f, FV H5 ns u f → FV (upd H5 d (.dK (txD (es ++ [(z, v)])))) ns u f) → (∀ k, k < 3 → cntF (fs ++ [(z, fl)]) k ≤ 2) → FsAt (upd H5 d (.dK (txD (es ++ [(z, v)])))) ns d (fs ++ [(z, fl)]) := by
      intro v fl H5 es fa5 e5 p5 fv up two'
      refine ⟨⟨es ++ [(z, v)], upd_same, paired_snoc (pairedF p5 up) ⟨rfl, up _ _ fv⟩⟩, ?_, ?_, fun p hp => ?_, two'⟩
      · rw [List.map_append]
        exact nd_snoc fa5.nd newz
      · rw [List.length_append]
        exact Nat.le_trans (Nat.succ_le_succ lf) (by omega)
      · rcases List.mem_append.mp hp with h | h
        · exact fa5.ok p h
        · rw [List.mem_singleton.mp h]
          exact okz'
    have upv : ∀ {H5 : Hp} {es : List (Str × V)} {o : HO}, H5 d = some (.dK (txD es)) → ∀ u f, FV H5 ns u f → FV (upd H5 d o) ns u f := by
      intro H5 es o e5 u f x
      cases x with
      | mk a b c d' e g => exact .mk (by rw [upd_ne (fun n => by rw [n, e5] at a; cases a)]; exact a) (by rw [upd_ne (fun n => by rw [n, e5] at b; cases b)]; exact b) c d' e g
      | lk a m => exact .lk (by rw [upd_ne (fun n => by rw [n, e5] at a; cases a)]; exact a) m
      | tg a => exact .tg (by rw [upd_ne (fun n => by rw [n, e5] at a; cases a)]; exact a)
    refine cond_read (k := i) rfl rfl ra0 ra1 rfl hb3 (fun H4 hb4 B4 => ?_) (fun H4 hb4 B4 => ?_)
    · have ntb : tb ≠ b := fun z => by obtain ⟨x1, y1, z1, ns1, h1, _, _⟩ := hb3; exact lst_bag h1 (z ▸ t3)
      have ndb : d ≠ b := hb.nb dH
      have fin : ∀ (v : V) (fl : Fld) (H5 : Hp), But b H4 H5 → BagAt H5 b c → FV H5 ns v fl → fl.w3 → fl.num = i % 3 → ∃ a H6, V.ref d = V.ref a ∧ DPut H5 a (.str z) v H6 ∧ ∃ (fs : List (Str × Fld)), FsAt H6 ns d fs ∧ (∀ p ∈ fs, p.2.w3) ∧ fs.length ≤ i + 1 ∧ (∀ k, k < 3 → cntF fs k ≤ (i + 1 + 2 - k) / 3) ∧ (∀ p ∈ fs, p.1 ∈ zs.take (i + 1)) ∧
          H6 Lb = some (.lst (zs.map V.str)) ∧ H6 tb = some (.lst (ns.map V.str)) ∧ BagAt H6 b c ∧ But b H H6 := by
        intro v fl H5 B5 hb5 fv hw3 hk
        have cn' : ∀ k, k < 3 → cntF (fs ++ [(z, fl)]) k ≤ (i + 1 + 2 - k) / 3 := fun k h3 => by
          rw [cntF_one]
          have := cn k h3
          by_cases q : fl.num = k
          · rw [if_pos q]
            omega
          · rw [if_neg q]
            omega
        have B35 := B4.trans B5
        have fa5 := fa.but hb3 B35
        obtain ⟨es, e5, p5⟩ := fa5.ex
        have pk := paired_keys p5
        have les : es.length ≤ i := by
          have := congrArg List.length pk
          rw [List.length_map, List.length_map] at this
          omega
        have pn : putK (txD es) (.inr z) v = txD (es ++ [(z, v)]) := putK_new (by rw [pk]; exact newz)
        have L5 := B35 _ _ e3 nLb
        have T5 := B35 _ _ t3 ntb
        refine ⟨d, _, rfl, DPut.k (k := .inr z) e5 (Nat.lt_of_le_of_lt (by rw [List.length_map]; exact les) (Nat.lt_of_lt_of_le (Nat.lt_trans hi (by decide : 6 < 1000)) (small (Nat.le_refl _)))), fs ++ [(z, fl)], ?_⟩
        rw [pn]
        refine ⟨more v fl H5 es fa5 e5 p5 fv (upv e5) (fun k h3 => Nat.le_trans (cn' k h3) (by omega)), fun p hp => (by
          rcases List.mem_append.mp hp with h | h
          · exact f3 p h
          · rw [List.mem_singleton.mp h]; exact hw3), by rw [List.length_append]; exact Nat.succ_le_succ lf, cn', fun p hp => ?_, ?_, ?_, hb5.set ndb (hb.nc dH), (B3.trans B35).put dH⟩
        · rcases List.mem_append.mp hp with h | h
          · exact sub2 p h
          · rw [List.mem_singleton.mp h]
            exact inz
        · rw [upd_ne (fun n => by rw [n, e5] at L5; cases L5)]
          exact L5
        · rw [upd_ne (fun n => by rw [n, e5] at T5; cases T5)]
          exact T5
      have atz : ∀ {H5}, But b H4 H5 → SqL K H5 Lb (zs.map V.str) := fun x => .inl (.inl ((B4.trans x) _ _ e3 nLb))
      have azz : atI (zs.map V.str) (i : Int) = some (V.str z) := atI_nat (by rw [List.getElem?_map, ez]; rfl)
      refine ⟨small (by show 3 ≤ 1000; decide), fun ls nls => ⟨_, rfl, _, _, rfl, rfl, (by decide : (0:Int)<3), ?_⟩⟩
      have B5 : But b H4 (upd H4 ls (.lst [.str "mark", .str "link", .str "tag"])) := (But.refl b H4).new nls
      have hb5 := hb4.new nls (o := .lst [.str "mark", .str "link", .str "tag"])
      have hls : (upd H4 ls (.lst [.str "mark", .str "link", .str "tag"])) ls = some (.lst [.str "mark", .str "link", .str "tag"]) := upd_same
      generalize (upd H4 ls (.lst [.str "mark", .str "link", .str "tag"])) = H5 at hls B5 hb5 ⊢
      have i3 : (i : Int) % 3 = 0 ∨ (i : Int) % 3 = 1 ∨ (i : Int) % 3 = 2 := by omega
      rcases i3 with e | e | e
      · refine ⟨ls, _, _, .str "mark", rfl, rfl, .inl (.inl hls), by rw [e]; rfl, ?_⟩
        refine ⟨_, rfl, rfl, _, rfl, tt_if (by decide +kernel) ?_⟩
        refine ⟨_, rfl, _, rfl, b, c, 3, rfl, hb5, by decide, by decide, fun r H6 r0 r1 hb6 B6 => ⟨1, r, rfl, rfl, b, c, 1 + r, rfl, hb6, by omega, by omega, fun Lm ws H7 lw ndw okw eLm nLm hb7 B7 => ⟨small (by show 2 ≤ 1000; decide), fun t nt => ?_⟩⟩⟩
        have B8 : But b H4 (upd H7 t (.tup [.str "mark", .ref Lm])) := ((B5.trans B6).trans B7).new nt
        have fv : FV (upd H7 t (.tup [.str "mark", .ref Lm])) ns (.ref t) (.mk ws) := .mk upd_same (by rw [upd_ne (ne_of_none eLm nt)]; exact eLm) (fun n => by rw [n] at lw; simp at lw; omega) okw (by omega) ndw
        obtain ⟨a, H9, ea, pa, fs9, w1, w1b, w2, w3, w4, w5, w6, w7, w8⟩ := fin _ _ _ B8 (hb7.new nt) fv (by show ws.length ≤ 3; omega) (by show 0 = i % 3; omega)
        exact ⟨_, rfl, _, rfl, _, rfl, Lb, _, i, _, rfl, rfl, atz B8, azz, a, H9, ea, pa, fs9, _, _, rfl, w1, w1b, w2, w3, w4, w5, w6, w7, w8⟩
      · refine ⟨ls, _, _, .str "link", rfl, rfl, .inl (.inl hls), by rw [e]; rfl, ?_⟩
        refine ⟨_, rfl, rfl, _, rfl, ff_if (by decide +kernel) ⟨_, rfl, rfl, _, rfl, tt_if (by decide +kernel) ?_⟩⟩
        have T5 := (B4.trans B5) _ _ t3 ntb
        have lpos : 0 < ns.length := List.length_pos_iff.mpr nn
        refine ⟨_, rfl, _, rfl, _, rfl, tb, _, rfl, .inl (.inl (.inl T5)), b, c, _, rfl, hb5, by rw [List.length_map]; omega, by rw [List.length_map]; omega, fun r H6 r0 r1 hb6 B6 => ?_⟩
        rw [List.length_map] at r1
        obtain ⟨k, rfl⟩ := Int.eq_ofNat_of_zero_le r0
        have kl : k < ns.length := by omega
        have ek : ns[k]? = some ns[k] := List.getElem?_eq_getElem kl
        have mk : ns[k] ∈ ns := List.getElem_mem kl
        generalize ns[k] = nm at ek mk
        refine ⟨tb, _, (k : Nat), .str nm, rfl, rfl, .inl (.inl (B6 _ _ T5 ntb)), atI_nat (by rw [List.getElem?_map, ek]; rfl), small (by show 2 ≤ 1000; decide), fun t nt => ?_⟩
        have B8 : But b H4 (upd H6 t (.tup [.str "link", .str nm])) := (B5.trans B6).new nt
        obtain ⟨a, H9, ea, pa, fs9, w1, w1b, w2, w3, w4, w5, w6, w7, w8⟩ := fin _ (.lk nm) _ B8 (hb6.new nt) (.lk upd_same mk) trivial (by show 1 = i % 3; omega)
        exact ⟨_, rfl, _, rfl, _, rfl, Lb, _, i, _, rfl, rfl, atz B8, azz, a, H9, ea, pa, fs9, _, _, rfl, w1, w1b, w2, w3, w4, w5, w6, w7, w8⟩
      · refine ⟨ls, _, _, .str "tag", rfl, rfl, .inl (.inl hls), by rw [e]; rfl, ?_⟩
        refine ⟨_, rfl, rfl, _, rfl, ff_if (by decide +kernel) ⟨_, rfl, rfl, _, rfl, ff_if (by decide +kernel) ?_⟩⟩
        refine ⟨small (by show 1 ≤ 1000; decide), fun t nt => ?_⟩
        have B8 : But b H4 (upd H5 t (.tup [.str "tag"])) := B5.new nt
        obtain ⟨a, H9, ea, pa, fs9, w1, w1b, w2, w3, w4, w5, w6, w7, w8⟩ := fin _ .tg _ B8 (hb5.new nt) (.tg upd_same) trivial (by show 2 = i % 3; omega)
        exact ⟨_, rfl, _, rfl, _, rfl, Lb, _, i, _, rfl, rfl, atz B8, azz, a, H9, ea, pa, fs9, _, _, rfl, w1, w1b, w2, w3, w4, w5, w6, w7, w8⟩
    · exact ⟨fs, _, _, rfl, fa.but hb3 B4, f3, Nat.le_succ_of_le lf, (fun k h3 => Nat.le_trans (cn k h3) (by omega)), sub2, nLb' B4, B4 _ _ t3 (fun z => by obtain ⟨x1, y1, z1, ns1, h1, _, _⟩ := hb3; exact lst_bag h1 (z ▸ t3)), hb4, B3.trans B4⟩
  · rintro σ H3 ⟨fs, v5, v6, rfl, fa, f3, lf, cn, sub, e3, t3, hb3, B3⟩
    exact ⟨.ref d, rfl, q d fs H3 fa f3 dH hb3 B3⟩
end
end Lw

set_option Elab.async false
set_option linter.all false
set_option maxRecDepth 100000
set_option maxHeartbeats 4000000
namespace Lw
open PySem PySem.Spec PyProof.Rows L2
/-- a dict held against the empty one -/
def rNeDE : R2 := fun x y H Q => ∃ (a b : Addr) (ks : List (Key × V)), x = .ref a ∧ y = .ref b ∧ H a = some (.dK ks) ∧ H b = some (.dK []) ∧ Q (.bl (!ks.isEmpty)) H
theorem op_ne_dictE {X : Cx} (hu : X.A.units < cLine) : OpR X (compareOp .NotEq) rNeDE := by
  intro pins s σ H x y v u Q I rx ry h
  obtain ⟨a, b, ks, rfl, rfl, ea, eb, q⟩ := h
  obtain rfl : v = Value.ref a := rx
  obtain rfl : u = Value.ref b := ry
  obtain ⟨_, ya, va, ra, da⟩ := (show ObjOk X.prog X.w H s.heap a (.dK ks) from I.hok a _ ea)
  obtain ⟨_, yb, vb, rb, db⟩ := (show ObjOk X.prog X.w H s.heap b (.dK []) from I.hok b _ eb)
  cases rb
  refine PySem.W.keq_ne (knd := mixKind X.prog X.w) (r := true) ya yb da db hu (fun e => ?_) ?_
  · have : va = [] := List.eq_nil_of_length_eq_zero e
    subst this
    exact .nil
  · have e : (!(va.length == ([] : List (Key × Value)).length && true)) = !ks.isEmpty := by
      cases ra with
      | nil => rfl
      | cons a b => rfl
    rw [e]
    exact ⟨.bl _, _, I, rfl, q⟩
theorem cut_take1 (x : V) (xs : List V) : cutV (x :: xs) none (some 1) = [x] := by
  have e : HT.sIx (x :: xs).length (x :: xs).length (some ((1 : Nat) : Int)) = min 1 (x :: xs).length := HT.sIx_nat _ _ 1
  unfold cutV
  rw [show HT.sIx (x :: xs).length (x :: xs).length (some (1 : Int)) = min 1 (x :: xs).length from e, HT.sIx_none]
  have m : min 1 (x :: xs).length = 1 := by rw [List.length_cons]; omega
  rw [m]
  rfl
theorem pick4' {r : Int} (h0 : 0 ≤ r) (h1 : r < 4) : ∃ ln : Int, atI [V.int 0, V.int 0, V.int 1, V.int 2] r = some (.int ln) ∧ 0 ≤ ln ∧ ln ≤ 2 := by
  obtain h | h | h | h : r = 0 ∨ r = 1 ∨ r = 2 ∨ r = 3 := by omega
  · exact ⟨0, by rw [h]; rfl, by decide, by decide⟩
  · exact ⟨0, by rw [h]; rfl, by decide, by decide⟩
  · exact ⟨1, by rw [h]; rfl, by decide, by decide⟩
  · exact ⟨2, by rw [h]; rfl, by decide, by decide⟩
/-- what a table of fields has at a name -/
theorem fv_at {H : Hp} {ns : List Str} {es : List (Str × V)} {fs : List (Str × Fld)} {z : Str} (x : Paired (fun e f => e.1 = f.1 ∧ FV H ns e.2 f.2) es fs) (m : z ∈ fs.map (·.1)) : ∃ v fl, valV (txD es) (.inr z) = some v ∧ FV H ns v fl ∧ (z, fl) ∈ fs := by
  induction x with
  | nil => cases m
  | @cons e f es fs a _ ih =>
    by_cases q : e.1 = z
    · refine ⟨e.2, f.2, ?_, a.2, by rw [← q, a.1]; exact List.mem_cons_self⟩
      show ((List.find? _ ((Sum.inr e.1, e.2) :: txD es)).map _) = _
      rw [List.find?_cons_of_pos (by rw [q]; exact decide_eq_true rfl)]
      rfl
    · obtain ⟨v, fl, e1, fv, mm⟩ := ih (by
        rcases List.mem_cons.mp m with h | h
        · exact absurd (a.1.trans h.symm) q
        · exact h)
      refine ⟨v, fl, ?_, fv, List.mem_cons_of_mem _ mm⟩
      show ((List.find? _ ((Sum.inr e.1, e.2) :: txD es)).map _) = _
      rw [List.find?_cons_of_neg (by rw [decide_eq_true_eq]; exact fun n => q (Sum.inr.inj n))]
      exact e1
theorem TV.isRef {H : Hp} {v : V} {t : Tst} (x : TV H v t) : ∃ a, v = .ref a := by
  cases x with
  | is a b => exact ⟨_, rfl⟩
  | non a => exact ⟨_, rfl⟩
  | nt a b => exact ⟨_, rfl⟩
/-- a list of tests grows: the tests stand -/
theorem TV.app {H : Hp} {D : Addr} {vs : List V} {ts : List Tst} {o : HO} (eD : H D = some (.lst vs)) (pp : Paired (TV H) vs ts) {v : V} {t : Tst} (x : TV H v t) (ne : ∀ f ws, t.core = .is f ws → ws ≠ []) : TV (upd H D o) v t := by
  have nt : ∀ {a : Addr} {xs : List V}, H a = some (.tup xs) → a ≠ D := fun e n => by rw [n, eD] at e; cases e
  induction x with
  | @is t l f ws a b =>
    refine .is (by rw [upd_ne (nt a)]; exact a) (by
      rw [upd_ne (fun n => ?_)]
      · exact b
      · rw [n, eD] at b
        injection b with b
        injection b with b
        have w0 := ne f ws rfl
        match ws, w0 with
        | w :: r, _ =>
          rw [List.map_cons] at b
          subst b
          cases pp with
          | cons q _ =>
            obtain ⟨a, e⟩ := q.isRef
            cases e)
  | non a => exact .non (by rw [upd_ne (nt a)]; exact a)
  | nt a _ ih => exact .nt (by rw [upd_ne (nt a)]; exact a) (ih ne)
theorem tv_list {H H' : Hp} {vs : List V} {ts : List Tst} (x : Paired (TV H) vs ts) (up : ∀ v t, t ∈ ts → TV H v t → TV H' v t) : Paired (TV H') vs ts := by
  induction x with
  | nil => exact .nil
  | cons a _ ih => exact .cons (up _ _ List.mem_cons_self a) (ih fun v t m => up v t (List.mem_cons_of_mem _ m))
/-- nots drawn, and the test put at the end -/
theorem turn_read {K : PySem.W.Frag} {b c D : Addr} {v1 v2 v4 v5 v7 v8 v9 v10 : Option V} {v : V} {t : Tst} {vs : List V} {H7 : Hp} {Dn : Ends} (hb : BagAt H7 b c) (nDb : D ≠ b) (hD : H7 D = some (.lst vs)) (few : vs.length < 100) (tv : TV H7 v t) (dt : t.depth = 0)
    (fin : ∀ (v' : V) (t' : Tst) (H8 : Hp) (v9' : Option V), TV H8 v' t' → t'.depth ≤ 2 → t'.field = t.field → t'.core = t.core → BagAt H8 b c → But b H7 H8 → Dn.nx [some (.ref b), v1, v2, some (.ref D), v4, v5, some v', v7, v8, v9', v10] (upd H8 D (.lst (vs ++ [v'])))) :
    tSeq (tFor (iRng1 (tCons (tOp (rIxL K) (tLst (tCons (tC (V.int 0)) (tCons (tC (V.int 0)) (tCons (tC (V.int 1)) (tCons (tC (V.int 2)) tNil))))) (tCall spTake [] E0 (tCons (tVar 0) (tCons (tC (V.int 4)) tNil)))) tNil)) (gName 9) (tAsg (tTup (tCons (tC (V.str "not")) (tCons (tVar 6) tNil))) (gName 6)))
      (tDrop (tBM K "list" rAppend (tVar 3) (tCons (tVar 6) tNil))) Dn [some (.ref b), v1, v2, some (.ref D), v4, v5, some v, v7, v8, v9, v10] H7 := by
  refine ⟨small (by show 4 ≤ 1000; decide), fun l nl => ⟨_, rfl, b, c, 4, rfl, hb.new nl, by decide, by decide, fun r H8 r0 r1 hb8 B8 => ?_⟩⟩
  have nlb : l ≠ b := hb.nb nl
  obtain ⟨ln, hln, l0, l2⟩ := pick4' r0 r1
  have B7 : But b H7 H8 := ((But.refl b H7).new nl).trans B8
  refine ⟨l, _, r, .int ln, rfl, rfl, .inl (.inl (B8 l _ upd_same nlb)), hln, ln, rfl, by omega, by omega, for_range (lo := 0) (n := ln.toNat) (fun i σ H' => ∃ (v' : V) (t' : Tst) (v9' : Option V), σ = [some (.ref b), v1, v2, some (.ref D), v4, v5, some v', v7, v8, v9', v10] ∧
    TV H' v' t' ∧ t'.depth = i ∧ t'.field = t.field ∧ t'.core = t.core ∧ BagAt H' b c ∧ But b H7 H') ⟨v, t, v9, rfl, tv.but hb B7, dt, rfl, rfl, hb8, B7⟩ ?_ ?_⟩
  · rintro i σ H' hi ⟨v', t', v9', rfl, tv', de, fe, ce, hb', B'⟩
    exact ⟨_, rfl, small (by show 2 ≤ 1000; decide), fun p np => ⟨.ref p, .nt t', _, rfl, .nt upd_same (tv'.mono (same_new np _)), by show t'.depth + 1 = i + 1; rw [de], fe, ce, hb'.new np, B'.new np⟩⟩
  · rintro σ H' ⟨v', t', v9', rfl, tv', de, fe, ce, hb', B'⟩
    have hD' := B' D _ hD nDb
    exact ⟨.ref D, rfl, .inl ⟨rfl, _, .inl (.inl hD')⟩, _, rfl, D, _, v', rfl, rfl, hD', small1000 (by omega), fin v' t' H' v9' tv' (by omega) fe ce hb' B'⟩
abbrev sTests : Stmt := topS 39
abbrev NTests : List Str := ["_law_bag_here", "_law_fields_here", "_law_top", "_law_found", "_law_k", "_law_name", "_law_test", "_law_words", "_law_some", "_law_turn", "_law_word"]
section
variable {P : Program} {w : World} {K : PySem.W.Frag} {mg : Str → Option Value} {base : Heap}
theorem scTests : FnScope NTests ["_law_bag_here", "_law_fields_here", "_law_top"] (defScope sTests) := ⟨rfl, rfl, rfl, by decide +kernel, rfl, by decide +kernel, by decide +kernel⟩
/-- what stands within the nots of a test fits the fields -/
inductive TstC (fs : List (Str × Fld)) (m : Nat) : Tst → Prop
  | is {f : Str} {ws vs : List Str} (a : (f, .mk vs) ∈ fs) (b : ws ≠ []) (c : ws.length ≤ m) (d : ∀ z ∈ ws, z ∈ vs) (e : ∀ z ∈ ws, NameOk z) : TstC fs m (.is f ws)
  | lk {f n : Str} (a : (f, .lk n) ∈ fs) : TstC fs m (.non f)
  | tg {f : Str} (a : (f, .tg) ∈ fs) : TstC fs m (.non f)
/-- a test drawn: so many nots, a field of these, so many words -/
structure TstOk (fs : List (Str × Fld)) (n m : Nat) (t : Tst) : Prop where
  dep : t.depth ≤ n
  core : TstC fs m t.core
theorem TstC.words {fs : List (Str × Fld)} {m : Nat} {t : Tst} (x : TstC fs m t) : ∀ f ws, t = .is f ws → ws ≠ [] := fun f ws e => by
  cases x with
  | is a b c d e' => injection e with e1 e2; rw [← e2]; exact b
  | lk a => cases e
  | tg a => cases e
def spTests : Sp := fun vs H Q _ => ∃ (b c f : Addr) (ns : List Str) (fs : List (Str × Fld)) (top : Int), vs = [.ref b, .ref f, .int top] ∧ BagAt H b c ∧ FsAt H ns f fs ∧ 0 ≤ top ∧ top ≤ 9 ∧
  ∀ (p : Addr) (vs : List V) (ts : List Tst) (H' : Hp), H' p = some (.lst vs) → Paired (TV H') vs ts → (∀ t ∈ ts, TstOk fs 2 4 t) → ts.length ≤ 9 → H p = none → BagAt H' b c → But b H H' → Q (.ref p) H'
theorem ok_tests {f f1 : Addr} {fd fd1 : FuncData} (F : Fun K "_law_tests" "_law_tests" sTests f fd) (G1 : FnOk P w K mg base CX0 1 f1 fd1 ["_law_bag_here", "_law_many_here"] spTake) (m1 : mg "_law_take" = some (.ref f1)) (k1 : PySem.W.keepIn K (.ref f1) = true) (b1 : Binds K fd1 ["_law_bag_here", "_law_many_here"] [])
    (mrange : mg "range" = none) (mlen : mg "len" = none) (mint : mg "int" = none) (msorted : mg "sorted" = none) : FnOk P w K mg base CX0 3 f fd ["_law_bag_here", "_law_fields_here", "_law_top"] spTests := by
  refine F.ok scTests (fun vs H Q E h => ?_) (fun cdv A outer s H vs Q E hr h => ?_)
  · obtain ⟨b, c, f, ns, fs, top, rfl, _⟩ := h
    rfl
  obtain ⟨b, c, fa, ns, fs, top, rfl, hb, hf, t0, t1, q⟩ := h
  refine ⟨_, pss_cons (ps_set (i := 3) scTests.nd rfl (.inl rfl) (pe_lst pa_nil))
    (pss_cons (ps_for PassesOwn.never rfl (pi_range1 (by rfl) mrange (pa_cons (pe_op op_mul (pe_call G1 (hr.mono (by decide)) (by rfl) m1 k1 b1 .nil pass0 (pa_cons (pv 0) (pa_cons (pe_op op_add (pv 2) pe_int) pa_nil)))
        (pe_callTy call_int1 (by rfl) mint (by decide +kernel) (pa_cons (pe_cmpR (op_ne_dictE (Nat.lt_of_le_of_lt (Nat.le_add_right _ 64) hr.units)) (pv 1) pe_dnewK (nomark _)) pa_nil))) pa_nil)) (pg_name (i := 4) scTests.nd rfl (.inl rfl))
      (pss_cons (ps_set (i := 5) scTests.nd rfl (.inl rfl) (pe_ix ix_list (pe_callB (call_sortedD rfl) (by rfl) msorted (by decide +kernel) (pa_cons (pv 1) pa_nil)) (pe_call G1 (hr.mono (by decide)) (by rfl) m1 k1 b1 .nil pass0 (pa_cons (pv 0) (pa_cons (pe_callB call_lenD (by rfl) mlen (by decide +kernel) (pa_cons (pv 1) pa_nil)) pa_nil))) (fun _ _ => rfl)))
      (pss_cons (ps_set (i := 6) scTests.nd rfl (.inl rfl) (pe_tup (pa_cons pe_str (pa_cons (pv 5) pa_nil))))
      (pss_cons (ps_if (pt_cmpR op_eq (pe_ix ix_tup (pe_dget (hu_of hr) (pv 1) (pv 5) (fun _ _ => rfl)) pe_int (fun _ _ => rfl)) pe_str (nomark _))
        (pss_cons (ps_set (i := 7) scTests.nd rfl (.inl rfl) (pe_ix ix_tup (pe_dget (hu_of hr) (pv 1) (pv 5) (fun _ _ => rfl)) pe_int (fun _ _ => rfl)))
        (pss_cons (ps_setLc (i := 8) (own := [("_law_word", 10)]) (g := gName 10) rfl scTests.nd rfl rfl (sw_true rfl rfl rfl (by decide +kernel)) (pi_list (pv 7)) (blkOk_by (N := NTests) (sc := defScope sTests) (by decide +kernel))
            (fun _ _ _ _ _ => pg_name (i := 10) scTests.nd rfl (Or.inl rfl)) (fun _ _ _ _ _ => pts_one (pt_cmpR (r := rEq) op_eq (pe_call G1 (hr.mono (by decide)) (by rfl) m1 k1 b1 .nil pass0 (pa_cons (pv 0) (pa_cons pe_int pa_nil))) pe_int (nomark _))) (fun _ _ _ _ _ => pv 10))
        (pss_one (ps_set (i := 6) scTests.nd rfl (.inl rfl) (pe_tup (pa_cons pe_str (pa_cons (pv 5) (pa_cons (pe_orT (pv 8) (pe_one (pe_slice sl_list (pv 7) po_none (po_some pe_int)))) pa_nil)))))))) pss_nil)
      (pss_cons (ps_for PassesOwn.never rfl (pi_range1 (by rfl) mrange (pa_cons (pe_ix ix_list (pe_lst (pa_cons pe_int (pa_cons pe_int (pa_cons pe_int (pa_cons pe_int pa_nil))))) (pe_call G1 (hr.mono (by decide)) (by rfl) m1 k1 b1 .nil pass0 (pa_cons (pv 0) (pa_cons pe_int pa_nil))) (fun _ _ => rfl)) pa_nil)) (pg_name (i := 9) scTests.nd rfl (.inl rfl))
        (pss_one (ps_set (i := 6) scTests.nd rfl (.inl rfl) (pe_tup (pa_cons pe_str (pa_cons (pv 6) pa_nil))))))
      (pss_one (ps_expr (pe_bm PySem.F.plainAttrs_list PySem.F.slot_list_append PySem.F.type_list_append mt_append (pv 3) (pa_cons (pv 6) pa_nil)))))))))
    (pss_one (ps_ret (pv 3)))), ?_⟩
  obtain ⟨es, eE, pE⟩ := hf.ex
  have pk := paired_keys pE
  have les : es.length ≤ 6 := by
    have := congrArg List.length pk
    rw [List.length_map, List.length_map] at this
    have := hf.few
    omega
  have nfb : fa ≠ b := fun z => by obtain ⟨x1, y1, z1, ns1, h1, _, _⟩ := hb; rw [z, h1] at eE; cases eE
  refine ⟨Nat.zero_le _, fun D nD => ?_⟩
  have nDb : D ≠ b := hb.nb nD
  have nDc : D ≠ c := hb.nc nD
  have hD0 : (upd H D (.lst [])) D = some (.lst []) := upd_same
  have hb1 := hb.new nD (o := .lst [])
  have B1 : But b H (upd H D (.lst [])) := (But.refl b H).new nD
  generalize (upd H D (.lst [])) = H1 at hD0 hb1 B1 ⊢
  refine ⟨_, rfl, _, rfl, top, 1, rfl, rfl, b, c, top + 1, rfl, hb1, by omega, by omega, fun r H2 r0 r1 hb2 B2 => ⟨_, rfl, fun d nd => ⟨fa, d, txD es, rfl, rfl, ?_, upd_same, .inr ⟨_, rfl, ?_⟩⟩⟩⟩
  · have e := (B1.trans B2) _ _ eE nfb
    rw [upd_ne (ne_of_none e nd)]
    exact e
  obtain ⟨u, hu, u01⟩ : ∃ u : Int, (if (!(txD es).isEmpty) = true then (1 : Int) else 0) = u ∧ ((u = 0) ∨ (u = 1 ∧ es ≠ [])) := by
    cases es with
    | nil => exact ⟨0, rfl, .inl rfl⟩
    | cons e r => exact ⟨1, rfl, .inr ⟨rfl, by simp⟩⟩
  rw [hu]
  have ru : 0 ≤ r * u ∧ r * u ≤ 9 ∧ (0 < r * u → es ≠ []) := by
    rcases u01 with h | ⟨h, h2⟩
    · rw [h, Int.mul_zero]; exact ⟨by decide, by decide, fun n => absurd n (by decide)⟩
    · rw [h, Int.mul_one]; exact ⟨r0, by omega, fun _ => h2⟩
  refine ⟨r, u, rfl, rfl, .inl ⟨by omega, by omega⟩, ?_⟩
  generalize hm : r * u = n at ru
  obtain ⟨n0, n9, nE⟩ := ru
  have hD2 := B2 D _ hD0 nDb
  have nDd : D ≠ d := ne_of_none hD2 nd
  refine ⟨n, by show [V.int (r * u)] = [V.int n]; rw [hm], by omega, by omega, for_range (lo := 0) (n := n.toNat) (fun i σ H3 => ∃ (vs : List V) (ts : List Tst) (v4 v5 v6 v7 v8 v9 : Option V), σ = [some (.ref b), some (.ref fa), some (.int top), some (.ref D), v4, v5, v6, v7, v8, v9, none] ∧
      H3 D = some (.lst vs) ∧ Paired (TV H3) vs ts ∧ (∀ t ∈ ts, TstOk fs 2 4 t) ∧ ts.length = i ∧ BagAt H3 b c ∧ But b H H3)
    ⟨[], [], none, none, none, none, none, none, rfl, by rw [upd_ne nDd]; exact hD2, .nil, fun t ht => absurd ht (by simp), rfl, hb2.new nd, (B1.trans B2).new nd⟩ ?_ ?_⟩
  · rintro i σ H3 hi ⟨vs, ts, v4, v5, v6, v7, v8, v9, rfl, hD3, pp, okT, lT, hb3, B3⟩
    rw [Int.zero_add]
    have ne : es ≠ [] := nE (by omega)
    have lvs : vs.length = i := by rw [← lT]; exact Paired.length pp
    have e3 := B3 _ _ eE nfb
    refine ⟨_, rfl, fa, txD es, es.map (·.1), rfl, .inl e3, by rw [List.map_map, List.map_map]; rfl, by rw [List.length_map]; omega, fun ys p pm _ np => ⟨_, rfl, _, rfl, fa, txD es, rfl, ?_, ?_⟩⟩
    · rw [upd_ne (ne_of_none e3 np)]
      exact e3
    have lys : ys.length = es.length := by rw [pm.length_eq, List.length_map]
    have l0 : 0 < es.length := List.length_pos_iff.mpr ne
    have npb : p ≠ b := hb3.nb np
    refine ⟨b, c, ((txD es).length : Nat), rfl, hb3.new np, by rw [List.length_map]; omega, by rw [List.length_map]; omega, fun r2 H4 r20 r21 hb4 B4 => ?_⟩
    rw [List.length_map] at r21
    have hp4 := B4 p _ (upd_same (o := HO.lst (ys.map V.str))) npb
    have B34 : But b H3 H4 := ((But.refl b H3).new np).trans B4
    obtain ⟨j, rfl⟩ : ∃ j : Nat, r2 = j := ⟨r2.toNat, by omega⟩
    have hj : j < ys.length := by omega
    have ej : ys[j]? = some ys[j] := List.getElem?_eq_getElem hj
    have mz : ys[j] ∈ fs.map (·.1) := by rw [← pk]; exact pm.mem_iff.mp (List.getElem_mem hj)
    generalize ys[j] = z at ej mz
    refine ⟨p, _, j, .str z, rfl, rfl, .inl (.inl hp4), atI_nat (by rw [List.getElem?_map, ej]; rfl), ?_⟩
    -- the test: none
    refine ⟨_, rfl, small (by show 2 ≤ 1000; decide), fun t1 nt1 => ?_⟩
    have tv1 : TV (upd H4 t1 (.tup [.str "none", .str z])) (.ref t1) (.non z) := .non upd_same
    have B5 : But b H3 (upd H4 t1 (.tup [.str "none", .str z])) := B34.new nt1
    have hb5 := hb4.new nt1 (o := .tup [.str "none", .str z])
    generalize (upd H4 t1 (.tup [.str "none", .str z])) = H5 at tv1 B5 hb5 ⊢
    obtain ⟨v, fl, ev, fv, mfl⟩ := fv_at (pairedF pE fun _ _ q => q.but hb (B3.trans B5)) mz
    have dget : ∀ {H6}, But b H5 H6 → DGet H6 fa (.str z) (some v) := fun {H6} x => by
      have := DGet.k (k := .inr z) (((B3.trans B5).trans x) _ _ eE nfb)
      rw [ev] at this
      exact this
    -- what is left of the turn
    have rest : ∀ (v' : V) (t : Tst) (H7 : Hp), But b H3 H7 → BagAt H7 b c → TV H7 v' t → t.depth = 0 → t.field = z → TstC fs 4 t.core →
        ∀ (v'' : V) (t' : Tst) (H8 : Hp), TV H8 v'' t' → t'.depth ≤ 2 → t'.field = t.field → t'.core = t.core → BagAt H8 b c → But b H7 H8 →
          (upd H8 D (.lst (vs ++ [v'']))) D = some (.lst (vs ++ [v''])) ∧ Paired (TV (upd H8 D (.lst (vs ++ [v''])))) (vs ++ [v'']) (ts ++ [t']) ∧ (∀ t ∈ ts ++ [t'], TstOk fs 2 4 t) ∧ (ts ++ [t']).length = i + 1 ∧ BagAt (upd H8 D (.lst (vs ++ [v'']))) b c ∧ But b H (upd H8 D (.lst (vs ++ [v'']))) := by
      intro v' t H7 B7 hb7 tv7 d7 f7 w7 v'' t' H8 tv8 d8 f8 c8 hb8 B8
      have B38 := B7.trans B8
      have hD8 := B38 D _ hD3 nDb
      have pp8 : Paired (TV H8) vs ts := tv_list pp fun v t _ q => q.but hb3 B38
      have w8 : TstC fs 4 t'.core := by rw [c8]; exact w7
      refine ⟨upd_same, paired_snoc (tv_list pp8 fun v t m q => q.app hD8 pp8 ((okT t m).core.words)) (tv8.app hD8 pp8 w8.words), fun t0 h0 => ?_, by rw [List.length_append, lT]; rfl, hb8.set nDb nDc, (B3.trans B38).put nD⟩
      rcases List.mem_append.mp h0 with h | h
      · exact okT t0 h
      · rw [List.mem_singleton.mp h]
        exact ⟨d8, w8⟩
    have few : vs.length < 100 := by omega
    -- which sort
    have other : ∀ (a : Addr) (s : Str) (xs : List V), v = .ref a → H5 a = some (.tup (.str s :: xs)) → s ≠ "mark" → ∀ (T F : Hp → Prop), F H5 → tTest (tOp rEq (tOp (rIxT K) (tDGet (tVar 1) (tVar 5)) (tC (V.int 0))) (tC (V.str "mark"))) [some (.ref b), some (.ref fa), some (.int top), some (.ref D), some (.int i), some (.str z), some (.ref t1), v7, v8, v9, none] H5 (fun b H => if b = true then T H else F H) := by
      intro a s xs ea ha ns T F h
      exact ⟨_, rfl, _, rfl, fa, _, rfl, dget (But.refl _ _), a, _, 0, .str s, by rw [ea], rfl, .inl (.inl ha), atI_nat (j := 0) rfl, rfl, _, rfl, ff_if (decide_eq_false fun n => ns (by injection n)) h⟩
    cases fv with
    | @mk tt l ws a bL wn okw fw ndw =>
      have nlb : l ≠ b := fun n => by
        obtain ⟨x1, y1, z1, ns1, h1, _, _⟩ := hb5
        rw [n, h1] at bL
        injection bL with e
        injection e with e
        match ws, wn with
        | w :: r, _ => simp at e
      have ntb : tt ≠ b := fun n => by obtain ⟨x1, y1, z1, ns1, h1, _, _⟩ := hb5; rw [n, h1] at a; cases a
      refine ⟨_, rfl, _, rfl, fa, _, rfl, dget (But.refl _ _), tt, _, 0, .str "mark", rfl, rfl, .inl (.inl a), atI_nat (j := 0) rfl, rfl, _, rfl, tt_if (by decide +kernel) ?_⟩
      refine ⟨_, rfl, _, rfl, fa, _, rfl, dget (But.refl _ _), tt, _, 1, .ref l, rfl, rfl, .inl (.inl a), atI_nat (j := 1) rfl, ?_⟩
      refine ⟨.ref l, rfl, l, rfl, ⟨_, .inl (.inl bL)⟩, fun D3 nD3 => ?_⟩
      have nD3b : D3 ≠ b := hb5.nb nD3
      have nD3c : D3 ≠ c := hb5.nc nD3
      refine lc_list (K := K) (a := l) (xs := ws.map V.str) (fun k H' => ∃ acc : List Str, H' D3 = some (.lst (acc.map V.str)) ∧ acc.length ≤ k ∧ (∀ z ∈ acc, z ∈ ws) ∧ BagAt H' b c ∧ But b H5 H')
        ⟨[], upd_same, Nat.le_refl _, fun z hz => absurd hz (by simp), hb5.new nD3, (But.refl b H5).new nD3⟩ (fun k H' _ q => by obtain ⟨acc, _, _, _, _, B6⟩ := q; exact .inl (.inl (B6 _ _ bL nlb))) ?_ ?_
      · rintro k x H6 hx ⟨acc, hD6, la, ma, hb6, B6⟩
        obtain ⟨z0, hz, rfl⟩ := map_get hx
        have kw : k < ws.length := (List.getElem?_eq_some_iff.mp hz).1
        refine ⟨rfl, _, rfl, b, c, 2, rfl, hb6, by decide, by decide, fun r3 H7 _ _ hb7 B7 => ⟨rfl, _, rfl, ?_⟩⟩
        have hD7 := B7 D3 _ hD6 nD3b
        by_cases g : V.int r3 = V.int 0
        · refine tt_if (decide_eq_true g) ⟨_, rfl, _, hD7, by rw [List.length_map]; exact small1000 (by omega), acc ++ [z0], by rw [upd_same, List.map_append]; rfl, by rw [List.length_append]; exact Nat.succ_le_succ la, fun y hy => ?_, hb7.set nD3b nD3c, (B6.trans B7).put nD3⟩
          rcases List.mem_append.mp hy with h | h
          · exact ma y h
          · rw [List.mem_singleton.mp h]
            exact List.mem_of_getElem? hz
        · exact ff_if (decide_eq_false g) ⟨acc, hD7, Nat.le_succ_of_le la, ma, hb7, B6.trans B7⟩
      · rintro H6 ⟨acc, hD6, la, ma, hb6, B6⟩
        rw [List.length_map] at la
        have bL6 := B6 _ _ bL nlb
        have B36 := B5.trans B6
        -- the words of the test
        have last : ∀ (q : Addr) (us : List Str) (H7 : Hp), H7 q = some (.lst (us.map V.str)) → us ≠ [] → us.length ≤ 4 → (∀ y ∈ us, y ∈ ws) → BagAt H7 b c → But b H3 H7 → ∀ t, H7 t = none →
            TV (upd H7 t (.tup [.str "is", .str z, .ref q])) (.ref t) (.is z us) ∧ TstC fs 4 (Tst.is z us).core ∧ But b H3 (upd H7 t (.tup [.str "is", .str z, .ref q])) ∧ BagAt (upd H7 t (.tup [.str "is", .str z, .ref q])) b c := by
          intro q us H7 hq nu lu mu hb7 B7 t nt
          exact ⟨.is upd_same (by rw [upd_ne (ne_of_none hq nt)]; exact hq), .is mfl nu lu mu fun y hy => okw y (mu y hy), B7.new nt, hb7.new nt⟩
        refine ⟨_, rfl, _, rfl, _, .inl ⟨_, .inl (.inl hD6), rfl⟩, ?_⟩
        cases acc with
        | nil =>
          refine ff_if rfl ⟨_, rfl, 1, rfl, l, _, rfl, .inl (.inl bL6), fun p4 np4 => ?_⟩
          match ws, wn with
          | w0 :: wr, _ =>
            rw [List.map_cons, cut_take1]
            refine ⟨small (by show 3 ≤ 1000; decide), fun t nt => ?_⟩
            obtain ⟨x1, x2, x3, x4⟩ := last p4 [w0] _ upd_same (by simp) (by simp) (fun y hy => by rw [List.mem_singleton.mp hy]; exact List.mem_cons_self) (hb6.new np4) (B36.new np4) t nt
            exact turn_read (K := K) x4 nDb (x3 D _ hD3 nDb) few x1 rfl fun v' t' H8 v9' tv8 d8 f8 c8 hb8 B8 => ⟨vs ++ [v'], ts ++ [t'], _, _, _, _, _, _, rfl, rest _ _ _ x3 x4 x1 rfl rfl x2 v' t' H8 tv8 d8 f8 c8 hb8 B8⟩
        | cons a0 ar =>
          refine tt_if rfl ⟨small (by show 3 ≤ 1000; decide), fun t nt => ?_⟩
          obtain ⟨x1, x2, x3, x4⟩ := last D3 (a0 :: ar) _ hD6 (by simp) (Nat.le_trans la fw) ma hb6 B36 t nt
          exact turn_read (K := K) x4 nDb (x3 D _ hD3 nDb) few x1 rfl fun v' t' H8 v9' tv8 d8 f8 c8 hb8 B8 => ⟨vs ++ [v'], ts ++ [t'], _, _, _, _, _, _, rfl, rest _ _ _ x3 x4 x1 rfl rfl x2 v' t' H8 tv8 d8 f8 c8 hb8 B8⟩
    | lk a mlk =>
      exact other _ "link" _ rfl a (by decide +kernel) _ _ (turn_read (K := K) hb5 nDb (B5 D _ hD3 nDb) few tv1 rfl fun v' t' H8 v9' tv8 d8 f8 c8 hb8 B8 => ⟨vs ++ [v'], ts ++ [t'], _, _, _, _, _, _, rfl, rest _ _ _ B5 hb5 tv1 rfl rfl (.lk mfl) v' t' H8 tv8 d8 f8 c8 hb8 B8⟩)
    | tg a =>
      exact other _ "tag" _ rfl a (by decide +kernel) _ _ (turn_read (K := K) hb5 nDb (B5 D _ hD3 nDb) few tv1 rfl fun v' t' H8 v9' tv8 d8 f8 c8 hb8 B8 => ⟨vs ++ [v'], ts ++ [t'], _, _, _, _, _, _, rfl, rest _ _ _ B5 hb5 tv1 rfl rfl (.tg mfl) v' t' H8 tv8 d8 f8 c8 hb8 B8⟩)
  · rintro σ H3 ⟨vs, ts, v4, v5, v6, v7, v8, v9, rfl, hD3, pp, okT, lT, hb3, B3⟩
    exact ⟨.ref D, rfl, q D vs ts H3 hD3 pp okT (by omega) nD hb3 B3⟩
end
end Lw

set_option Elab.async false
set_option linter.all false
set_option maxRecDepth 100000
set_option maxHeartbeats 4000000
namespace Lw
open PySem PySem.Spec PyProof.Rows L2
/-! ### fields as trees -/
def Fld.sort : Fld → Str
  | .mk _ => "mark"
  | .lk _ => "link"
  | .tg => "tag"
def Fld.tree : Fld → Tr
  | .mk ws => .tup [.str "mark", .lst (ws.map Tr.str)]
  | .lk n => .tup [.str "link", .str n]
  | .tg => .tup [.str "tag"]
abbrev Flds := List (Str × Fld)
def fieldsT (fs : Flds) : Tr := .dct (fs.map (·.1)) (fs.map (·.2.tree))
theorem FV.dt {H : Hp} {ns : List Str} {b c : Addr} {v : V} {f : Fld} (x : FV H ns v f) (g : BagAt H b c) : DT H (· ≠ b) v f.tree := by
  obtain ⟨x1, y1, z1, ns1, h1, _, _⟩ := g
  have nt : ∀ {a : Addr} {xs : List V}, H a = some (.tup xs) → a ≠ b := fun e n => by rw [n, h1] at e; cases e
  cases x with
  | mk a b c d e g => exact .tup a (nt a) (.cons (.str _) (.cons (.lst b (fun n => lst_bag h1 (n ▸ b)) (DTs.ofStrs _)) .nil))
  | lk a m => exact .tup a (nt a) (.cons (.str _) (.cons (.str _) .nil))
  | tg a => exact .tup a (nt a) (.cons (.str _) .nil)
theorem FsAt.dt {H : Hp} {ns : List Str} {a b c : Addr} {fs : Flds} (x : FsAt H ns a fs) (g : BagAt H b c) : DT H (· ≠ b) (.ref a) (fieldsT fs) := by
  obtain ⟨es, e, p⟩ := x.ex
  have nt : a ≠ b := fun n => by
    obtain ⟨x1, y1, z1, ns1, h1, _, _⟩ := g
    rw [n, h1] at e
    cases e
  have few := x.few
  refine .dct e nt ?_ x.nd (by rw [List.length_map]; omega) ?_
  · rw [← paired_keys p]
    exact tkD_keys es
  · have h := tkD_vals es
    show DTs H _ ((tkD es).map (·.2)) _
    rw [h]
    clear h e few x
    induction p with
    | nil => exact .nil
    | cons q _ ih => exact .cons (q.2.dt g) ih
/-- what a field of that name is -/
def fldAt (fs : Flds) (z : Str) : Option Fld := (fs.find? fun p => decide (p.1 = z)).map (·.2)
theorem fldAt_mem {fs : Flds} {z : Str} (m : z ∈ fs.map (·.1)) : ∃ fl, fldAt fs z = some fl ∧ (z, fl) ∈ fs := by
  induction fs with
  | nil => cases m
  | cons p r ih =>
    by_cases q : p.1 = z
    · refine ⟨p.2, ?_, by rw [← q]; exact List.mem_cons_self⟩
      unfold fldAt
      rw [List.find?_cons_of_pos (by exact decide_eq_true q)]
      rfl
    · obtain ⟨fl, e, h⟩ := ih (by
        rcases List.mem_cons.mp m with h | h
        · exact absurd h.symm q
        · exact h)
      refine ⟨fl, ?_, List.mem_cons_of_mem _ h⟩
      unfold fldAt
      rw [List.find?_cons_of_neg (by rw [decide_eq_true_eq]; exact q)]
      exact e
theorem fld_look (fs : Flds) (z : Str) : lookT (fs.map (·.1)) (fs.map (·.2.tree)) z = (fldAt fs z).map Fld.tree := by
  induction fs with
  | nil => rfl
  | cons p r ih =>
    unfold lookT fldAt
    rw [List.map_cons, List.map_cons, List.zip_cons_cons]
    by_cases q : p.1 = z
    · rw [List.find?_cons_of_pos (by exact decide_eq_true q), List.find?_cons_of_pos (by exact decide_eq_true q)]
      rfl
    · rw [List.find?_cons_of_neg (by rw [decide_eq_true_eq]; exact q), List.find?_cons_of_neg (by rw [decide_eq_true_eq]; exact q)]
      exact ih
/-- in the heap -/
theorem fields_get {H : Hp} {A : Addr → Prop} {f : Addr} {fs : Flds} {z : Str} (x : DT H A (.ref f) (fieldsT fs)) (m : z ∈ fs.map (·.1)) : ∃ v fl, DGet H f (.str z) (some v) ∧ fldAt fs z = some fl ∧ DT H A v fl.tree := by
  obtain ⟨a, kvs, e1, e, n, k, nd, few, d⟩ := x.dctI
  cases e1
  obtain ⟨v, t, h1, h2, h3⟩ := DT.look k d m
  obtain ⟨fl, g1, _⟩ := fldAt_mem m
  rw [fld_look, g1] at h2
  cases h2
  refine ⟨v, fl, ?_, g1, h3⟩
  have h := DGet.k (k := .inr z) e
  rw [h1] at h
  exact h
theorem fld_sort {H : Hp} {A : Addr → Prop} {v : V} {fl : Fld} (x : DT H A v fl.tree) : ∃ a xs, v = .ref a ∧ H a = some (.tup (.str fl.sort :: xs)) ∧ A a := by
  cases fl with
  | mk ws =>
    obtain ⟨a, xs, e, h, n, d⟩ := x.tupI
    cases d with
    | cons p q => cases p; exact ⟨a, _, e, h, n⟩
  | lk m =>
    obtain ⟨a, xs, e, h, n, d⟩ := x.tupI
    cases d with
    | cons p q => cases p; exact ⟨a, _, e, h, n⟩
  | tg =>
    obtain ⟨a, xs, e, h, n, d⟩ := x.tupI
    cases d with
    | cons p q => cases p; exact ⟨a, _, e, h, n⟩
def sortIs (fs : Flds) (s : Str) (z : Str) : Bool := decide ((fldAt fs z).map Fld.sort = some s)
/-- the names of the fields of a sort, ascending -/
def likeT (fs : Flds) (s : Str) : List Str := (sortT (fs.map (·.1))).filter (sortIs fs s)
theorem like_mem {fs : Flds} {s z : Str} (m : z ∈ likeT fs s) : ∃ fl, fldAt fs z = some fl ∧ (z, fl) ∈ fs ∧ fl.sort = s := by
  obtain ⟨h1, h2⟩ := List.mem_filter.mp m
  obtain ⟨fl, e1, e2⟩ := fldAt_mem (sortT_mem.mp h1)
  refine ⟨fl, e1, e2, ?_⟩
  have h := of_decide_eq_true h2
  rw [e1] at h
  exact Option.some.inj h
theorem like_len (fs : Flds) (s : Str) : (likeT fs s).length ≤ fs.length := by
  have h := List.length_filter_le (sortIs fs s) (sortT (fs.map (·.1)))
  rw [sortT_len, List.length_map] at h
  exact h
abbrev sLike : Stmt := topS 38
abbrev NLike : List Str := ["_law_fields_here", "_law_sort", "_law_name"]
section
variable {P : Program} {w : World} {K : PySem.W.Frag} {mg : Str → Option Value} {base : Heap}
theorem scLike : FnScope NLike ["_law_fields_here", "_law_sort"] (defScope sLike) := ⟨rfl, rfl, rfl, by decide +kernel, rfl, by decide +kernel, by decide +kernel⟩
def spLike : Sp := fun vs H Q _ => ∃ (f : Addr) (fs : Flds) (A : Addr → Prop) (s : Str), vs = [.ref f, .str s] ∧ DT H A (.ref f) (fieldsT fs) ∧ ∀ (p : Addr) (H' : Hp), Same H H' → H p = none → H' p = some (.lst ((likeT fs s).map V.str)) → Q (.ref p) H'
theorem ok_like {f : Addr} {fd : FuncData} (F : Fun K "_law_like" "_law_like" sLike f fd) (mso : mg "sorted" = none) : FnOk P w K mg base CX0 1 f fd ["_law_fields_here", "_law_sort"] spLike := by
  refine F.ok scLike (fun vs H Q E h => ?_) (fun cdv A outer s H vs Q E hr h => ?_)
  · obtain ⟨f, fs, A, s, rfl, _⟩ := h
    rfl
  obtain ⟨fa, fs, A, s, rfl, x, q⟩ := h
  refine ⟨_, pss_one (ps_ret (pe_lc (own := [("_law_name", 2)]) (g := gName 2) rfl scLike.nd (pi_list (pe_callB (call_sortedD rfl) (by rfl) mso (by decide +kernel) (pa_cons (pv 0) pa_nil))) (blkOk_by (N := NLike) (sc := defScope sLike) (by decide +kernel))
    (fun _ _ _ _ _ => pg_name (i := 2) scLike.nd rfl (Or.inl rfl)) (fun _ _ _ _ _ => pts_one (pt_cmpR (r := rEq) op_eq (pe_ix (r := rIxT K) ix_tup (pe_dget (hu_of hr) (pv 0) (pv 2) (fun _ _ => rfl)) pe_int (fun _ _ => rfl)) (pv 1) (nomark _))) (fun _ _ _ _ _ => pv 2))), ?_⟩
  obtain ⟨a, kvs, e1, e, n, k, nd, few, d⟩ := x.dctI
  cases e1
  refine ⟨.ref fa, rfl, fa, kvs, _, rfl, .inl e, k, few, fun ys p pm srt np => ?_⟩
  obtain rfl : ys = sortT (fs.map (·.1)) := sort_eq pm srt
  have s1 : Same H (upd H p (.lst ((sortT (fs.map (·.1))).map V.str))) := same_new np _
  have hp : (upd H p (.lst ((sortT (fs.map (·.1))).map V.str))) p = some (.lst ((sortT (fs.map (·.1))).map V.str)) := upd_same
  generalize (upd H p (.lst ((sortT (fs.map (·.1))).map V.str))) = H1 at s1 hp ⊢
  refine ⟨p, rfl, ⟨_, .inl (.inl hp)⟩, fun D nD => ?_⟩
  have npD : p ≠ D := ne_of_none hp nD
  refine lc_list (K := K) (a := p) (xs := (sortT (fs.map (·.1))).map V.str) (fun i Hx => Same H1 Hx ∧ Hx D = some (.lst (((((sortT (fs.map (·.1))).take i).filter (sortIs fs s)).map V.str)))) ⟨same_new nD _, upd_same⟩ (fun i Hx _ q => .inl (.inl (q.1 _ _ hp))) ?_ ?_
  · rintro i v Hx hx ⟨s2, hD⟩
    obtain ⟨z, hz, rfl⟩ := map_get hx
    have zk : z ∈ fs.map (·.1) := sortT_mem.mp (List.mem_of_getElem? hz)
    obtain ⟨v, fl, g1, g2, g3⟩ := fields_get (x.same (s1.trans s2)) zk
    obtain ⟨ta, xs, rfl, ht, _⟩ := fld_sort g3
    have e2 : (sortT (fs.map (·.1))).take (i + 1) = (sortT (fs.map (·.1))).take i ++ [z] := by
      rw [List.take_add_one, hz]
      rfl
    have lacc : ((((sortT (fs.map (·.1))).take i).filter (sortIs fs s)).map V.str).length < sizeLine := by
      have h1 := List.length_filter_le (sortIs fs s) ((sortT (fs.map (·.1))).take i)
      have h2 : ((sortT (fs.map (·.1))).take i).length ≤ (sortT (fs.map (·.1))).length := by rw [List.length_take]; exact Nat.min_le_right _ _
      rw [sortT_len] at h2
      exact small1000 (by rw [List.length_map]; omega)
    refine ⟨rfl, _, rfl, _, rfl, fa, _, rfl, g1, ta, _, 0, .str fl.sort, rfl, rfl, .inl (.inl ht), atI_nat (j := 0) rfl, _, rfl, rfl, _, rfl, ?_⟩
    by_cases c : fl.sort = s
    · refine tt_if (by rw [c]; exact decide_eq_true rfl) ⟨_, rfl, _, hD, lacc, fun b o eb => ?_, ?_⟩
      · rw [upd_ne (ne_of_none eb nD)]
        exact s2 _ _ eb
      · rw [upd_same, e2, List.filter_append, List.map_append]
        have h : sortIs fs s z = true := decide_eq_true (by rw [g2, ← c]; rfl)
        rw [List.filter_cons_of_pos h]
        rfl
    · refine ff_if (decide_eq_false fun h => c (by injection h)) ⟨s2, ?_⟩
      have h : sortIs fs s z = false := decide_eq_false fun h => c (by rw [g2] at h; exact Option.some.inj h)
      rw [e2, List.filter_append, List.filter_cons_of_neg (by rw [h]; exact Bool.false_ne_true), List.filter_nil, List.append_nil]
      exact hD
  · rintro Hx ⟨s2, hD⟩
    rw [List.length_map, List.take_length] at hD
    exact q D Hx (s1.trans s2) (s1.free nD) hD
end
end Lw

set_option Elab.async false
set_option linter.all false
set_option maxRecDepth 100000
set_option maxHeartbeats 4000000
namespace Lw
open PySem PySem.Spec PyProof.Rows L2
inductive FldOk (ns : List Str) : Fld → Prop
  | mk {ws : List Str} (c : ws ≠ []) (d : ∀ z ∈ ws, NameOk z) (few : ws.length ≤ 4) (nd : ws.Nodup) : FldOk ns (.mk ws)
  | lk {n : Str} (m : n ∈ ns) : FldOk ns (.lk n)
  | tg : FldOk ns .tg
/-- the fields of a table, as they are drawn -/
structure FldsOk (ns : List Str) (fs : Flds) : Prop where
  nd : (fs.map (·.1)).Nodup
  few : fs.length ≤ 6
  ok : ∀ p ∈ fs, NameOk p.1
  two : ∀ k, k < 3 → cntF fs k ≤ 2
  val : ∀ p ∈ fs, FldOk ns p.2
theorem FsAt.flds {H : Hp} {ns : List Str} {a : Addr} {fs : Flds} (x : FsAt H ns a fs) : FldsOk ns fs := by
  refine ⟨x.nd, x.few, x.ok, x.two, ?_⟩
  obtain ⟨es, e0, p⟩ := x.ex
  clear x e0
  induction p with
  | nil => exact fun p h => nomatch h
  | @cons e f es fs a _ ih =>
    intro p hp
    rcases List.mem_cons.mp hp with h | h
    · subst h
      obtain ⟨a1, a2⟩ := a
      generalize p.2 = fl at a2
      generalize e.2 = u at a2
      cases a2 with
      | mk a b c d e g => exact .mk c d e g
      | lk a m => exact .lk m
      | tg a => exact .tg
    · exact ih p h
theorem FV.of {H : Hp} {A : Addr → Prop} {ns : List Str} {v : V} {fl : Fld} (x : DT H A v fl.tree) (o : FldOk ns fl) : FV H ns v fl := by
  cases o with
  | mk c d few nd =>
    obtain ⟨a, xs, rfl, h, _, y⟩ := x.tupI
    cases y with
    | cons p q =>
      cases p
      cases q with
      | cons p q =>
        cases q
        obtain ⟨l, ys, rfl, hl, _, z⟩ := p.lstI
        rw [DTs.strs z] at hl
        exact .mk h hl c d few nd
  | lk m =>
    obtain ⟨a, xs, rfl, h, _, y⟩ := x.tupI
    cases y with
    | cons p q =>
      cases p
      cases q with
      | cons p q =>
        cases q
        cases p
        exact .lk h m
  | tg =>
    obtain ⟨a, xs, rfl, h, _, y⟩ := x.tupI
    cases y with
    | cons p q =>
      cases p
      cases q
      exact .tg h
theorem FsAt.of {H : Hp} {A : Addr → Prop} {ns : List Str} {a : Addr} {fs : Flds} (x : DT H A (.ref a) (fieldsT fs)) (o : FldsOk ns fs) : FsAt H ns a fs := by
  obtain ⟨a', kvs, e1, e, n, k, nd, few, d⟩ := x.dctI
  cases e1
  refine ⟨?_, o.nd, o.few, o.ok, o.two⟩
  have go : ∀ {kvs : List (Key × V)} {fs : Flds}, kvs.map (·.1) = (fs.map (·.1)).map Sum.inr → DTs H A (kvs.map (·.2)) (fs.map (·.2.tree)) → (∀ p ∈ fs, FldOk ns p.2) → ∃ es : List (Str × V), kvs = txD es ∧ Paired (fun e f => e.1 = f.1 ∧ FV H ns e.2 f.2) es fs := by
    intro kvs fs
    induction fs generalizing kvs with
    | nil =>
      intro k _ _
      cases kvs with
      | nil => exact ⟨[], rfl, .nil⟩
      | cons p r => cases k
    | cons f fs ih =>
      intro k d o
      cases kvs with
      | nil => cases k
      | cons p r =>
        obtain ⟨k1, k2⟩ := List.cons.inj k
        cases d with
        | cons x y =>
          obtain ⟨es, h1, h2⟩ := ih k2 y fun p hp => o p (List.mem_cons_of_mem _ hp)
          obtain ⟨pk, pw⟩ := p
          have k1 : pk = Sum.inr f.1 := k1
          subst k1
          exact ⟨(f.1, pw) :: es, by rw [h1]; rfl, .cons ⟨rfl, FV.of x (o f List.mem_cons_self)⟩ h2⟩
  obtain ⟨es, h1, h2⟩ := go k d o.val
  exact ⟨es, by rw [e, h1], h2⟩
/-! ### tables -/
abbrev Tabs := List (Str × Flds)
def tablesT (tabs : Tabs) : Tr := .dct (tabs.map (·.1)) (tabs.map fun p => fieldsT p.2)
structure TabsOk (tabs : Tabs) : Prop where
  nd : (tabs.map (·.1)).Nodup
  one : tabs ≠ []
  few : tabs.length ≤ 3
  ok : ∀ p ∈ tabs, NameOk p.1
  val : ∀ p ∈ tabs, FldsOk (tabs.map (·.1)) p.2
def tabAt (tabs : Tabs) (z : Str) : Option Flds := (tabs.find? fun p => decide (p.1 = z)).map (·.2)
theorem tabAt_mem {tabs : Tabs} {z : Str} (m : z ∈ tabs.map (·.1)) : ∃ fs, tabAt tabs z = some fs ∧ (z, fs) ∈ tabs := by
  induction tabs with
  | nil => cases m
  | cons p r ih =>
    by_cases q : p.1 = z
    · refine ⟨p.2, ?_, by rw [← q]; exact List.mem_cons_self⟩
      unfold tabAt
      rw [List.find?_cons_of_pos (by exact decide_eq_true q)]
      rfl
    · obtain ⟨fl, e, h⟩ := ih (by
        rcases List.mem_cons.mp m with h | h
        · exact absurd h.symm q
        · exact h)
      refine ⟨fl, ?_, List.mem_cons_of_mem _ h⟩
      unfold tabAt
      rw [List.find?_cons_of_neg (by rw [decide_eq_true_eq]; exact q)]
      exact e
theorem tab_look (tabs : Tabs) (z : Str) : lookT (tabs.map (·.1)) (tabs.map fun p => fieldsT p.2) z = (tabAt tabs z).map fieldsT := by
  induction tabs with
  | nil => rfl
  | cons p r ih =>
    unfold lookT tabAt
    rw [List.map_cons, List.map_cons, List.zip_cons_cons]
    by_cases q : p.1 = z
    · rw [List.find?_cons_of_pos (by exact decide_eq_true q), List.find?_cons_of_pos (by exact decide_eq_true q)]
      rfl
    · rw [List.find?_cons_of_neg (by rw [decide_eq_true_eq]; exact q), List.find?_cons_of_neg (by rw [decide_eq_true_eq]; exact q)]
      exact ih
theorem tables_get {H : Hp} {A : Addr → Prop} {T : Addr} {tabs : Tabs} {z : Str} (x : DT H A (.ref T) (tablesT tabs)) (m : z ∈ tabs.map (·.1)) : ∃ f fs, DGet H T (.str z) (some (.ref f)) ∧ tabAt tabs z = some fs ∧ (z, fs) ∈ tabs ∧ DT H A (.ref f) (fieldsT fs) := by
  obtain ⟨a, kvs, e1, e, n, k, nd, few, d⟩ := x.dctI
  cases e1
  obtain ⟨v, t, h1, h2, h3⟩ := DT.look k d m
  obtain ⟨fs, g1, g2⟩ := tabAt_mem m
  rw [tab_look, g1] at h2
  cases h2
  obtain ⟨f, _, rfl, _⟩ := h3.dctI
  refine ⟨f, fs, ?_, g1, g2, h3⟩
  have h := DGet.k (k := .inr z) e
  rw [h1] at h
  exact h
/-! ### tests and rules -/
def Tst.tree : Tst → Tr
  | .is f ws => .tup [.str "is", .str f, .lst (ws.map Tr.str)]
  | .non f => .tup [.str "none", .str f]
  | .nt t => .tup [.str "not", t.tree]
def testsT (ts : List Tst) : Tr := .lst (ts.map Tst.tree)
/-- no place of the bag, and of no list of references that stood -/
def Aside (b : Addr) (H : Hp) (a : Addr) : Prop := a ≠ b ∧ ∀ ps : List Addr, H a ≠ some (.lst (ps.map V.ref))
theorem aside_new {H : Hp} {b c a : Addr} (hb : BagAt H b c) (n : H a = none) : Aside b H a := ⟨hb.nb n, fun ps e => by rw [n] at e; cases e⟩
theorem aside_tup {H H' : Hp} {b c a : Addr} {xs : List V} (hb : BagAt H' b c) (B : But b H H') (e : H' a = some (.tup xs)) : Aside b H a := by
  have nb : a ≠ b := fun n => by
    obtain ⟨x1, y1, z1, ns1, h1, _, _⟩ := hb
    rw [n, h1] at e
    cases e
  refine ⟨nb, fun ps h => ?_⟩
  rw [B _ _ h nb] at e
  cases e
theorem aside_txt {H H' : Hp} {b c a : Addr} {ws : List Str} (hb : BagAt H' b c) (B : But b H H') (ne : ws ≠ []) (e : H' a = some (.lst (ws.map V.str))) : Aside b H a := by
  have nb : a ≠ b := fun n => by
    obtain ⟨x1, y1, z1, ns1, h1, _, _⟩ := hb
    exact lst_bag h1 (n ▸ e)
  refine ⟨nb, fun ps h => ?_⟩
  rw [B _ _ h nb] at e
  injection e with e
  injection e with e
  cases ws with
  | nil => exact ne rfl
  | cons w r =>
    cases ps with
    | nil => cases e
    | cons p q => cases e
theorem TV.dtA {H : Hp} {A : Addr → Prop} (T : ∀ a xs, H a = some (.tup xs) → A a) (W : ∀ a (ws : List Str), ws ≠ [] → H a = some (.lst (ws.map V.str)) → A a) {v : V} {t : Tst} (x : TV H v t) (ne : ∀ f ws, t.core = .is f ws → ws ≠ []) : DT H A v t.tree := by
  induction x with
  | is a b => exact .tup a (T _ _ a) (.cons (.str _) (.cons (.str _) (.cons (.lst b (W _ _ (ne _ _ rfl) b) (DTs.ofStrs _)) .nil)))
  | non a => exact .tup a (T _ _ a) (.cons (.str _) (.cons (.str _) .nil))
  | nt a _ ih => exact .tup a (T _ _ a) (.cons (.str _) (.cons (ih ne) .nil))
theorem tests_dt {H H' : Hp} {b c p : Addr} (hb : BagAt H b c) (hb' : BagAt H' b c) (B : But b H H') {vs : List V} {ts : List Tst} (e : H' p = some (.lst vs)) (n : H p = none) (x : Paired (TV H') vs ts) (ne : ∀ t ∈ ts, ∀ f ws, t.core = .is f ws → ws ≠ []) : DT H' (Aside b H) (.ref p) (testsT ts) := by
  refine .lst e (aside_new hb n) ?_
  clear e
  induction x with
  | nil => exact .nil
  | cons a _ ih => exact .cons (a.dtA (fun _ _ h => aside_tup hb' B h) (fun _ _ w h => aside_txt hb' B w h) (ne _ List.mem_cons_self)) (ih fun t m => ne t (List.mem_cons_of_mem _ m))
theorem DT.but {H H' : Hp} {b : Addr} {v : V} {t : Tr} (x : DT H (· ≠ b) v t) (s : But b H H') : DT H' (· ≠ b) v t := x.mono fun a o n e => s a o e n
theorem DTs.but {H H' : Hp} {b : Addr} {vs : List V} {ts : List Tr} (x : DTs H (· ≠ b) vs ts) (s : But b H H') : DTs H' (· ≠ b) vs ts := x.mono fun a o n e => s a o e n
theorem DT.butA {H H' H0 : Hp} {b : Addr} {v : V} {t : Tr} (x : DT H (Aside b H0) v t) (s : But b H H') : DT H' (Aside b H0) v t := x.mono fun a o n e => s a o e n.1
inductive RK where
  | link (tb fd : Str) (x y : List Tst) | uniq (tb fd : Str) | one (tb : Str) (x : List Tst) | chk (tb : Str) (x : List Tst)
abbrev Rul := Str × RK
def ruleT : Rul → Tr
  | (n, .link tb fd x y) => .tup [.str n, .str "link", .str tb, .str fd, testsT x, testsT y]
  | (n, .uniq tb fd) => .tup [.str n, .str "unique", .str tb, .str fd]
  | (n, .one tb x) => .tup [.str n, .str "some", .str tb, testsT x]
  | (n, .chk tb x) => .tup [.str n, .str "check", .str tb, testsT x]
abbrev TstsOk (fs : Flds) (ts : List Tst) : Prop := (∀ t ∈ ts, TstOk fs 2 4 t) ∧ ts.length ≤ 9
inductive RKOk (tabs : Tabs) : RK → Prop
  | link {tb fd n2 : Str} {fs fs2 : Flds} {x y : List Tst} (h : (tb, fs) ∈ tabs) (l : (fd, .lk n2) ∈ fs) (h2 : (n2, fs2) ∈ tabs) (tx : TstsOk fs x) (ty : TstsOk fs2 y) : RKOk tabs (.link tb fd x y)
  | uniq {tb fd : Str} {fs : Flds} (h : (tb, fs) ∈ tabs) (l : (fd, .tg) ∈ fs) : RKOk tabs (.uniq tb fd)
  | one {tb : Str} {fs : Flds} {x : List Tst} (h : (tb, fs) ∈ tabs) (tx : TstsOk fs x) : RKOk tabs (.one tb x)
  | chk {tb : Str} {fs : Flds} {x : List Tst} (h : (tb, fs) ∈ tabs) (tx : TstsOk fs x) : RKOk tabs (.chk tb x)
/-- a list of names against the empty one -/
theorem strs_dp {K : PySem.W.Frag} {H : Hp} : ∀ ws : List Str, DpAll K H (ws.map V.str) (ws.map PyData.str)
  | [] => .nil
  | w :: r => .cons (.str w) (strs_dp r)
theorem strs_lay : ∀ {ws : List Str}, (∀ z ∈ ws, NameOk z) → PyData.canLayAll0 (ws.map PyData.str) = true
  | [], _ => rfl
  | z :: r, h => by
    show (PyData.canLay0 (.str z) && PyData.canLayAll0 (r.map PyData.str)) = true
    rw [strs_lay fun y hy => h y (List.mem_cons_of_mem _ hy), Bool.and_true]
    have o := h z List.mem_cons_self
    show PyData.strOk z = true
    unfold PyData.strOk
    rw [← Array.all_toList, List.all_eq_true]
    intro c hc
    exact decide_eq_true (Nat.lt_of_le_of_lt (o.low c hc).2 (by decide))
theorem strs_depth : ∀ ws : List Str, PyData.depthAll (ws.map PyData.str) ≤ 1
  | [] => Nat.zero_le _
  | z :: r => by
    show max (PyData.depth (.str z)) (PyData.depthAll (r.map PyData.str)) ≤ 1
    exact Nat.max_le.mpr ⟨Nat.zero_le _, strs_depth r⟩
theorem strs_shaped {ws : List Str} (h : ∀ z ∈ ws, NameOk z) : SeqAt.shaped (.list (ws.map PyData.str)) = true := by
  unfold SeqAt.shaped
  rw [Bool.and_eq_true]
  refine ⟨strs_lay h, decide_eq_true ?_⟩
  show PyData.depthAll (ws.map PyData.str) + 1 ≤ 64
  have := strs_depth ws
  omega
theorem strs_eqv (ws : List Str) : PyData.eqv (.list (ws.map PyData.str)) (.list []) = ws.isEmpty := by cases ws <;> rfl
theorem and_lt_read {K : PySem.W.Frag} {σ : L2.St} {H : Hp} {T F : Hp → Prop} {j : Nat} {k : Int} {l : Addr} {ws : List Str} (h5 : σ[5]? = some (some (.int k))) (h6 : σ[j]? = some (some (.ref l))) (e : H l = some (.lst (ws.map V.str))) (ok : ∀ z ∈ ws, NameOk z)
    (t : ws ≠ [] → ∀ H1, Same H H1 → T H1) (f : ∀ H1, Same H H1 → F H1) :
    tAnd (tTest (tOp (rI0 fun i j => V.bl (decide (i < j))) (tVar 5) (tC (V.int 2)))) (tTest (tOp (rNeD K) (tVar j) (tLst tNil))) σ H (fun b H1 => if b = true then T H1 else F H1) := by
  by_cases g : k < 2
  · refine ⟨_, h5, _, _, rfl, rfl, _, rfl, tt_if (decide_eq_true g) ⟨_, h6, Nat.zero_le _, fun p np => ⟨_, _, .lst (.inl (.inl (same_new np _ _ _ e))) (strs_dp ws), .lst (.inl (.inl upd_same)) .nil, strs_shaped ok, by rfl, !ws.isEmpty, by rw [strs_eqv], ?_⟩⟩⟩
    cases ws with
    | nil => exact ff_if rfl (f _ (same_new np _))
    | cons a r => exact tt_if rfl (t (by simp) _ (same_new np _))
  · exact ⟨_, h5, _, _, rfl, rfl, _, rfl, ff_if (decide_eq_false g) (ff_if rfl (f _ fun _ _ h => h))⟩
theorem and_eq_read {K : PySem.W.Frag} {σ : L2.St} {H : Hp} {T F : Hp → Prop} {j : Nat} {k : Int} {l : Addr} {ws : List Str} (h5 : σ[5]? = some (some (.int k))) (h6 : σ[j]? = some (some (.ref l))) (e : H l = some (.lst (ws.map V.str))) (ok : ∀ z ∈ ws, NameOk z)
    (t : ws ≠ [] → ∀ H1, Same H H1 → T H1) (f : ∀ H1, Same H H1 → F H1) :
    tAnd (tTest (tOp rEq (tVar 5) (tC (V.int 2)))) (tTest (tOp (rNeD K) (tVar j) (tLst tNil))) σ H (fun b H1 => if b = true then T H1 else F H1) := by
  by_cases g : V.int k = V.int 2
  · refine ⟨_, h5, rfl, _, rfl, tt_if (decide_eq_true g) ⟨_, h6, Nat.zero_le _, fun p np => ⟨_, _, .lst (.inl (.inl (same_new np _ _ _ e))) (strs_dp ws), .lst (.inl (.inl upd_same)) .nil, strs_shaped ok, by rfl, !ws.isEmpty, by rw [strs_eqv], ?_⟩⟩⟩
    cases ws with
    | nil => exact ff_if rfl (f _ (same_new np _))
    | cons a r => exact tt_if rfl (t (by simp) _ (same_new np _))
  · exact ⟨_, h5, rfl, _, rfl, ff_if (decide_eq_false g) (ff_if rfl (f _ fun _ _ h => h))⟩
theorem Same.but {H H' : Hp} (s : Same H H') (b : Addr) : But b H H' := fun a o e _ => s a o e
theorem BagAt.same {H H' : Hp} {b c : Addr} (x : BagAt H b c) (s : Same H H') : BagAt H' b c := by
  obtain ⟨x1, y1, z1, ns, h1, h2, h3⟩ := x
  exact ⟨x1, y1, z1, ns, s _ _ h1, s _ _ h2, h3⟩
abbrev sRule : Stmt := topS 40
abbrev NRule : List Str := ["_law_bag_here", "_law_tables", "_law_name", "_law_table", "_law_fields_here", "_law_kind", "_law_links", "_law_tags", "_law_field", "_law_there"]
section
variable {P : Program} {w : World} {K : PySem.W.Frag} {mg : Str → Option Value} {base : Heap}
theorem scRule : FnScope NRule ["_law_bag_here", "_law_tables", "_law_name"] (defScope sRule) := ⟨rfl, rfl, rfl, by decide +kernel, rfl, by decide +kernel, by decide +kernel⟩
def spRule : Sp := fun vs H Q _ => ∃ (b c T : Addr) (tabs : Tabs) (n : Str), vs = [.ref b, .ref T, .str n] ∧ BagAt H b c ∧ DT H (· ≠ b) (.ref T) (tablesT tabs) ∧ TabsOk tabs ∧
  ∀ (p : Addr) (r : RK) (H' : Hp), DT H' (Aside b H) (.ref p) (ruleT (n, r)) → RKOk tabs r → H p = none → BagAt H' b c → But b H H' → Q (.ref p) H'
theorem ok_rule {f f1 f2 f3 : Addr} {fd fd1 fd2 fd3 : FuncData} (F : Fun K "_law_one_rule" "_law_one_rule" sRule f fd)
    (G1 : FnOk P w K mg base CX0 1 f1 fd1 ["_law_bag_here", "_law_many_here"] spTake) (m1 : mg "_law_take" = some (.ref f1)) (k1 : PySem.W.keepIn K (.ref f1) = true) (b1 : Binds K fd1 ["_law_bag_here", "_law_many_here"] [])
    (G2 : FnOk P w K mg base CX0 1 f2 fd2 ["_law_fields_here", "_law_sort"] spLike) (m2 : mg "_law_like" = some (.ref f2)) (k2 : PySem.W.keepIn K (.ref f2) = true) (b2 : Binds K fd2 ["_law_fields_here", "_law_sort"] [])
    (G3 : FnOk P w K mg base CX0 3 f3 fd3 ["_law_bag_here", "_law_fields_here", "_law_top"] spTests) (m3 : mg "_law_tests" = some (.ref f3)) (k3 : PySem.W.keepIn K (.ref f3) = true) (b3 : Binds K fd3 ["_law_bag_here", "_law_fields_here", "_law_top"] [])
    (mlen : mg "len" = none) (mso : mg "sorted" = none) : FnOk P w K mg base CX0 4 f fd ["_law_bag_here", "_law_tables", "_law_name"] spRule := by
  refine F.ok scRule (fun vs H Q E h => ?_) (fun cdv A outer s H vs Q E hr h => ?_)
  · obtain ⟨b, c, T, tabs, n, rfl, _⟩ := h
    rfl
  obtain ⟨b, c, T, tabs, n, rfl, hb, dT, ok, q⟩ := h
  refine ⟨_, (pss_cons (ps_set (i := 3) scRule.nd rfl (.inl rfl) (pe_ix ix_list (pe_callB (call_sortedD rfl) (by rfl) mso (by decide +kernel) (pa_cons (pv 1) pa_nil)) (pe_call G1 (hr.mono (by decide)) (by rfl) m1 k1 b1 .nil pass0 (pa_cons (pv 0) (pa_cons (pe_callB call_lenD (by rfl) mlen (by decide +kernel) (pa_cons (pv 1) pa_nil)) pa_nil))) (fun _ _ => rfl))) (pss_cons (ps_par (i := 4) (j := 5) rfl scRule.nd rfl rfl (by decide) rfl rfl (pa_cons (pe_dget (hu_of hr) (pv 1) (pv 3) (fun _ _ => rfl)) (pa_cons (pe_call G1 (hr.mono (by decide)) (by rfl) m1 k1 b1 .nil pass0 (pa_cons (pv 0) (pa_cons pe_int pa_nil))) pa_nil)) (by rfl)) (pss_cons (ps_par (i := 6) (j := 7) rfl scRule.nd rfl rfl (by decide) rfl rfl (pa_cons (pe_call G2 (hr.mono (by decide)) (by rfl) m2 k2 b2 .nil pass0 (pa_cons (pv 4) (pa_cons pe_str pa_nil))) (pa_cons (pe_call G2 (hr.mono (by decide)) (by rfl) m2 k2 b2 .nil pass0 (pa_cons (pv 4) (pa_cons pe_str pa_nil))) pa_nil)) (by rfl)) (pss_cons (ps_if (PW.pt (pw_and (pt_cmpR op_lt (pv 5) pe_int (nomark _)) (pw_and1 (pt_cmpR (op_neD hr.units) (pv 6) (pe_lst pa_nil) (nomark _))))) (pss_cons (ps_set (i := 8) scRule.nd rfl (.inl rfl) (pe_ix ix_list (pv 6) (pe_call G1 (hr.mono (by decide)) (by rfl) m1 k1 b1 .nil pass0 (pa_cons (pv 0) (pa_cons (pe_callB call_len_seq (by rfl) mlen (by decide +kernel) (pa_cons (pv 6) pa_nil)) pa_nil))) (fun _ _ => rfl))) (pss_cons (ps_set (i := 9) scRule.nd rfl (.inl rfl) (pe_call G3 (hr.mono (by decide)) (by rfl) m3 k3 b3 .nil pass0 (pa_cons (pv 0) (pa_cons (pe_dget (hu_of hr) (pv 1) (pe_ix ix_tup (pe_dget (hu_of hr) (pv 4) (pv 8) (fun _ _ => rfl)) pe_int (fun _ _ => rfl)) (fun _ _ => rfl)) (pa_cons pe_int pa_nil))))) (pss_one (ps_ret (pe_tup (pa_cons (pv 2) (pa_cons pe_str (pa_cons (pv 3) (pa_cons (pv 8) (pa_cons (pe_call G3 (hr.mono (by decide)) (by rfl) m3 k3 b3 .nil pass0 (pa_cons (pv 0) (pa_cons (pv 4) (pa_cons pe_int pa_nil)))) (pa_cons (pv 9) pa_nil))))))))))) pss_nil) (pss_cons (ps_if (PW.pt (pw_and (pt_cmpR op_eq (pv 5) pe_int (nomark _)) (pw_and1 (pt_cmpR (op_neD hr.units) (pv 7) (pe_lst pa_nil) (nomark _))))) (pss_one (ps_ret (pe_tup (pa_cons (pv 2) (pa_cons pe_str (pa_cons (pv 3) (pa_cons (pe_ix ix_list (pv 7) (pe_call G1 (hr.mono (by decide)) (by rfl) m1 k1 b1 .nil pass0 (pa_cons (pv 0) (pa_cons (pe_callB call_len_seq (by rfl) mlen (by decide +kernel) (pa_cons (pv 7) pa_nil)) pa_nil))) (fun _ _ => rfl)) pa_nil))))))) pss_nil) (pss_cons (ps_if (pt_cmpR op_eq (pv 5) pe_int (nomark _)) (pss_one (ps_ret (pe_tup (pa_cons (pv 2) (pa_cons pe_str (pa_cons (pv 3) (pa_cons (pe_call G3 (hr.mono (by decide)) (by rfl) m3 k3 b3 .nil pass0 (pa_cons (pv 0) (pa_cons (pv 4) (pa_cons pe_int pa_nil)))) pa_nil))))))) pss_nil) (pss_one (ps_ret (pe_tup (pa_cons (pv 2) (pa_cons pe_str (pa_cons (pv 3) (pa_cons (pe_call G3 (hr.mono (by decide)) (by rfl) m3 k3 b3 .nil pass0 (pa_cons (pv 0) (pa_cons (pv 4) (pa_cons (pe_op op_add pe_int (pe_call G1 (hr.mono (by decide)) (by rfl) m1 k1 b1 .nil pass0 (pa_cons (pv 0) (pa_cons pe_int pa_nil)))) pa_nil)))) pa_nil))))))))))))), ?_⟩
  obtain ⟨_, kvs, e1, eT, nT, kT, ndT, fewT, dTs⟩ := dT.dctI
  cases e1
  have lk : kvs.length = tabs.length := by
    have h := congrArg List.length kT
    rw [List.length_map, List.length_map, List.length_map] at h
    exact h
  have l1 : 0 < tabs.length := List.length_pos_iff.mpr ok.one
  have l3 := ok.few
  refine ⟨_, rfl, T, kvs, tabs.map (·.1), rfl, .inl eT, kT, by rw [List.length_map]; omega, fun ys p pm srt np => ⟨_, rfl, _, rfl, T, kvs, rfl, same_new np _ _ _ eT, ?_⟩⟩
  refine ⟨b, c, (kvs.length : Nat), rfl, hb.new np, by omega, by omega, fun r H2 r0 r1 hb2 B2 => ?_⟩
  have npb : p ≠ b := hb.nb np
  have hp2 := B2 p _ (upd_same (o := HO.lst (ys.map V.str))) npb
  have B02 : But b H H2 := ((But.refl b H).new np).trans B2
  obtain ⟨j, rfl⟩ := Int.eq_ofNat_of_zero_le r0
  have hj : j < ys.length := by rw [pm.length_eq, List.length_map]; omega
  have ej : ys[j]? = some ys[j] := List.getElem?_eq_getElem hj
  have mz : ys[j] ∈ tabs.map (·.1) := pm.mem_iff.mp (List.getElem_mem hj)
  generalize ys[j] = z at ej mz
  refine ⟨p, _, (j : Nat), .str z, rfl, rfl, .inl (.inl hp2), atI_nat (by rw [List.getElem?_map, ej]; rfl), ?_⟩
  obtain ⟨fa, fs, dg, _, mem, dF⟩ := tables_get (dT.but B02) mz
  have okF : FldsOk (tabs.map (·.1)) fs := ok.val _ mem
  refine ⟨_, rfl, _, rfl, T, .ref fa, rfl, dg, _, rfl, b, c, 6, rfl, hb2, by decide, by decide, fun k H3 k0 k6 hb3 B3 => ⟨.ref fa, .int k, rfl, ?_⟩⟩
  have dF3 := dF.but B3
  have B03 := B02.trans B3
  refine ⟨_, rfl, fa, fs, _, "link", rfl, dF3, fun L1 H4 s4 n4 h4 => ⟨_, rfl, fa, fs, _, "tag", rfl, dF3.same s4, fun L2 H5 s5 n5 h5 => ⟨.ref L1, .ref L2, rfl, ?_⟩⟩⟩
  have s35 := s4.trans s5
  have dF5 := dF3.same s35
  have hb5 := hb3.same s35
  have B05 := B03.trans (Same.but s35 b)
  have h45 := s5 _ _ h4
  have n1b : L1 ≠ b := hb3.nb n4
  have n2b : L2 ≠ b := hb3.nb (s4.free n5)
  have okL : ∀ (s : Str) (z : Str), z ∈ likeT fs s → NameOk z := fun s z h => by
    obtain ⟨fl, _, m, _⟩ := like_mem h
    exact okF.ok _ m
  clear dF dF3 hb3 B3 B02 hb2 dg h4
  refine and_lt_read rfl rfl h45 (okL "link") (fun ne H6 s6 => ?_) (fun H6 s6 => ?_)
  · have hb6 := hb5.same s6
    have h6 := s6 _ _ h45
    have B06 := B05.trans (Same.but s6 b)
    have dF6 := dF5.same s6
    have lpos : 0 < (likeT fs "link").length := List.length_pos_iff.mpr ne
    have lle := like_len fs "link"
    have l6 := okF.few
    refine ⟨_, rfl, _, rfl, _, rfl, L1, _, rfl, .inl (.inl (.inl h6)), b, c, _, rfl, hb6, by rw [List.length_map]; omega, by rw [List.length_map]; omega, fun r H7 r0 r1 hb7 B7 => ?_⟩
    rw [List.length_map] at r1
    obtain ⟨i, rfl⟩ := Int.eq_ofNat_of_zero_le r0
    have il : i < (likeT fs "link").length := by omega
    have ei : (likeT fs "link")[i]? = some (likeT fs "link")[i] := List.getElem?_eq_getElem il
    have my := List.getElem_mem il
    generalize (likeT fs "link")[i] = y at ei my
    refine ⟨L1, _, (i : Nat), .str y, rfl, rfl, .inl (.inl (B7 _ _ h6 n1b)), atI_nat (by rw [List.getElem?_map, ei]; rfl), ?_⟩
    obtain ⟨fl, ea, mfl, es⟩ := like_mem my
    obtain ⟨v, fl', dg, ea', dv⟩ := fields_get (dF6.but B7) (List.mem_map_of_mem (f := (·.1)) mfl)
    rw [ea] at ea'
    cases ea'
    cases fl with
    | mk ws => exact absurd (show ("mark" : Str) = "link" from es) (by decide +kernel)
    | tg => exact absurd (show ("tag" : Str) = "link" from es) (by decide +kernel)
    | lk n2 =>
      obtain ⟨a, xs, rfl, ha, _, dd⟩ := dv.tupI
      have n2m : n2 ∈ tabs.map (·.1) := by
        cases okF.val _ mfl with
        | lk m => exact m
      obtain ⟨f2, fs2, dg2, _, mem2, dF2⟩ := tables_get (((dT.but B06).but B7)) n2m
      cases dd with
      | cons p1 q1 =>
        cases p1
        cases q1 with
        | cons p2 q2 =>
          cases p2
          cases q2
          refine ⟨_, rfl, _, rfl, _, rfl, _, rfl, fa, _, rfl, dg, a, _, 1, .str n2, rfl, rfl, .inl (.inl ha), atI_nat (j := 1) rfl, T, .ref f2, rfl, dg2, ?_⟩
          refine ⟨b, c, f2, tabs.map (·.1), fs2, 1, rfl, hb7, FsAt.of dF2 (ok.val _ mem2), by decide, by decide, fun p2 vs2 ts2 H8 e8 pp8 ok8 l8 n8 hb8 B8 => ?_⟩
          have B18 := (B06.trans B7).trans B8
          have d8 := tests_dt hb hb8 B18 e8 ((B06.trans B7).free n8 (hb7.nb n8)) pp8 fun t m => (ok8 t m).core.words
          have o8 : TstsOk fs2 ts2 := ⟨ok8, l8⟩
          refine ⟨_, rfl, _, rfl, _, rfl, _, rfl, _, rfl, ?_⟩
          refine ⟨b, c, fa, tabs.map (·.1), fs, 1, rfl, hb8, FsAt.of ((dF6.but B7).but B8) okF, by decide, by decide, fun p3 vs3 ts3 H9 e9 pp9 ok9 l9 n9 hb9 B9 => ?_⟩
          have d9 := tests_dt hb hb9 (B18.trans B9) e9 (B18.free n9 (hb8.nb n9)) pp9 fun t m => (ok9 t m).core.words
          have o9 : TstsOk fs ts3 := ⟨ok9, l9⟩
          refine ⟨_, rfl, small (by show 6 ≤ 1000; decide), fun t nt => ?_⟩
          have st : Same H9 (upd H9 t (.tup [.str n, .str "link", .str z, .str y, .ref p3, .ref p2])) := same_new nt _
          have Ba := ((B06.trans B7).trans B8).trans B9
          exact q t (.link z y ts3 ts2) _ (.tup upd_same (aside_new hb (Ba.free nt (hb9.nb nt))) (.cons (.str _) (.cons (.str _) (.cons (.str _) (.cons (.str _) (.cons (d9.same st) (.cons ((d8.butA B9).same st) .nil))))))) (.link mem mfl mem2 o9 o8) (Ba.free nt (hb9.nb nt)) (hb9.same st) (Ba.trans (Same.but st b))
  have hb6 := hb5.same s6
  have h6 := s6 _ _ h5
  have B06 := B05.trans (Same.but s6 b)
  have dF6 := dF5.same s6
  refine and_eq_read rfl rfl h6 (okL "tag") (fun ne H7 s7 => ?_) (fun H7 s7 => ?_)
  · have hb7 := hb6.same s7
    have h7 := s7 _ _ h6
    have B07 := B06.trans (Same.but s7 b)
    have lpos : 0 < (likeT fs "tag").length := List.length_pos_iff.mpr ne
    have lle := like_len fs "tag"
    have l6 := okF.few
    refine ⟨_, rfl, _, rfl, _, rfl, _, rfl, _, rfl, L2, _, rfl, .inl (.inl (.inl h7)), b, c, _, rfl, hb7, by rw [List.length_map]; omega, by rw [List.length_map]; omega, fun r H8 r0 r1 hb8 B8 => ?_⟩
    rw [List.length_map] at r1
    obtain ⟨i, rfl⟩ := Int.eq_ofNat_of_zero_le r0
    have il : i < (likeT fs "tag").length := by omega
    have ei : (likeT fs "tag")[i]? = some (likeT fs "tag")[i] := List.getElem?_eq_getElem il
    have my := List.getElem_mem il
    generalize (likeT fs "tag")[i] = y at ei my
    refine ⟨L2, _, (i : Nat), .str y, rfl, rfl, .inl (.inl (B8 _ _ h7 n2b)), atI_nat (by rw [List.getElem?_map, ei]; rfl), small (by show 4 ≤ 1000; decide), fun t nt => ?_⟩
    obtain ⟨fl, ea, mfl, es⟩ := like_mem my
    cases fl with
    | mk ws => exact absurd (show ("mark" : Str) = "tag" from es) (by decide +kernel)
    | lk n2 => exact absurd (show ("link" : Str) = "tag" from es) (by decide +kernel)
    | tg =>
      have st : Same H8 (upd H8 t (.tup [.str n, .str "unique", .str z, .str y])) := same_new nt _
      have Ba := B07.trans B8
      exact q t (.uniq z y) _ (.tup upd_same (aside_new hb (Ba.free nt (hb8.nb nt))) (.cons (.str _) (.cons (.str _) (.cons (.str _) (.cons (.str _) .nil))))) (.uniq mem mfl) (Ba.free nt (hb8.nb nt)) (hb8.same st) (Ba.trans (Same.but st b))
  have hb7 := hb6.same s7
  have B07 := B06.trans (Same.but s7 b)
  have dF7 := dF6.same s7
  by_cases g : V.int k = V.int 3
  · refine ⟨_, rfl, rfl, _, rfl, tt_if (decide_eq_true g) ?_⟩
    refine ⟨_, rfl, _, rfl, _, rfl, _, rfl, ?_⟩
    refine ⟨b, c, fa, tabs.map (·.1), fs, 1, rfl, hb7, FsAt.of dF7 okF, by decide, by decide, fun p3 vs3 ts3 H8 e8 pp8 ok8 l8 n8 hb8 B8 => ?_⟩
    have d8 := tests_dt hb hb8 (B07.trans B8) e8 (B07.free n8 (hb7.nb n8)) pp8 fun t m => (ok8 t m).core.words
    have o8 : TstsOk fs ts3 := ⟨ok8, l8⟩
    refine ⟨small (by show 4 ≤ 1000; decide), fun t nt => ?_⟩
    have st : Same H8 (upd H8 t (.tup [.str n, .str "some", .str z, .ref p3])) := same_new nt _
    have Ba := B07.trans B8
    exact q t (.one z ts3) _ (.tup upd_same (aside_new hb (Ba.free nt (hb8.nb nt))) (.cons (.str _) (.cons (.str _) (.cons (.str _) (.cons (d8.same st) .nil))))) (.one mem o8) (Ba.free nt (hb8.nb nt)) (hb8.same st) (Ba.trans (Same.but st b))
  · refine ⟨_, rfl, rfl, _, rfl, ff_if (decide_eq_false g) ?_⟩
    refine ⟨_, rfl, _, rfl, _, rfl, _, rfl, _, rfl, b, c, 2, rfl, hb7, by decide, by decide, fun r H8 r0 r1 hb8 B8 => ⟨1, r, rfl, rfl, ?_⟩⟩
    refine ⟨b, c, fa, tabs.map (·.1), fs, 1 + r, rfl, hb8, FsAt.of (dF7.but B8) okF, by omega, by omega, fun p3 vs3 ts3 H9 e9 pp9 ok9 l9 n9 hb9 B9 => ?_⟩
    have d9 := tests_dt hb hb9 ((B07.trans B8).trans B9) e9 ((B07.trans B8).free n9 (hb8.nb n9)) pp9 fun t m => (ok9 t m).core.words
    have o9 : TstsOk fs ts3 := ⟨ok9, l9⟩
    refine ⟨small (by show 4 ≤ 1000; decide), fun t nt => ?_⟩
    have st : Same H9 (upd H9 t (.tup [.str n, .str "check", .str z, .ref p3])) := same_new nt _
    have Ba := (B07.trans B8).trans B9
    exact q t (.chk z ts3) _ (.tup upd_same (aside_new hb (Ba.free nt (hb9.nb nt))) (.cons (.str _) (.cons (.str _) (.cons (.str _) (.cons (d9.same st) .nil))))) (.chk mem o9) (Ba.free nt (hb9.nb nt)) (hb9.same st) (Ba.trans (Same.but st b))
end
end Lw

set_option Elab.async false
set_option linter.all false
set_option maxRecDepth 100000
set_option maxHeartbeats 4000000
namespace Lw
open PySem PySem.Spec PyProof.Rows L2
theorem FV.dtA {H : Hp} {A : Addr → Prop} {ns : List Str} (T : ∀ a xs, H a = some (.tup xs) → A a) (W : ∀ a (ws : List Str), ws ≠ [] → H a = some (.lst (ws.map V.str)) → A a) {v : V} {f : Fld} (x : FV H ns v f) : DT H A v f.tree := by
  cases x with
  | mk a b c d e g => exact .tup a (T _ _ a) (.cons (.str _) (.cons (.lst b (W _ _ c b) (DTs.ofStrs _)) .nil))
  | lk a m => exact .tup a (T _ _ a) (.cons (.str _) (.cons (.str _) .nil))
  | tg a => exact .tup a (T _ _ a) (.cons (.str _) .nil)
theorem FsAt.dtA {H H' : Hp} {ns : List Str} {a b c : Addr} {fs : Flds} (x : FsAt H' ns a fs) (hb : BagAt H' b c) (B : But b H H') : DT H' (Aside b H) (.ref a) (fieldsT fs) := by
  obtain ⟨es, e, p⟩ := x.ex
  have nt : Aside b H a := by
    have nb : a ≠ b := fun n => by
      obtain ⟨x1, y1, z1, ns1, h1, _, _⟩ := hb
      rw [n, h1] at e
      cases e
    refine ⟨nb, fun ps h => ?_⟩
    rw [B _ _ h nb] at e
    cases e
  have few := x.few
  refine .dct e nt ?_ x.nd (by rw [List.length_map]; omega) ?_
  · rw [← paired_keys p]
    exact tkD_keys es
  · have h := tkD_vals es
    show DTs H' _ ((tkD es).map (·.2)) _
    rw [h]
    clear h e few x
    induction p with
    | nil => exact .nil
    | cons q _ ih => exact .cons (q.2.dtA (fun _ _ h => aside_tup hb B h) (fun _ _ w h => aside_txt hb B w h)) ih
def rulesT (rs : List Rul) : Tr := .lst (rs.map ruleT)
def partsT (tabs : Tabs) (rs : List Rul) : Tr := .tup [tablesT tabs, rulesT rs]
/-- the parts of a schema, as they are drawn -/
structure PartsOk (tabs : Tabs) (rs : List Rul) : Prop where
  tab : TabsOk tabs
  nd : (rs.map (·.1)).Nodup
  ok : ∀ r ∈ rs, NameOk r.1 ∧ RKOk tabs r.2
  few : rs.length ≤ 6
theorem list_ref {H : Hp} {A : Addr → Prop} {v : V} {r : Rul} (x : DT H A v (ruleT r)) : ∃ a, v = .ref a := by
  obtain ⟨n, k⟩ := r
  cases k with
  | link tb fd x y => obtain ⟨a, _, h, _⟩ := x.tupI; exact ⟨a, h⟩
  | uniq tb fd => obtain ⟨a, _, h, _⟩ := x.tupI; exact ⟨a, h⟩
  | one tb x => obtain ⟨a, _, h, _⟩ := x.tupI; exact ⟨a, h⟩
  | chk tb x => obtain ⟨a, _, h, _⟩ := x.tupI; exact ⟨a, h⟩
abbrev sParts : Stmt := topS 41
abbrev NParts : List Str := ["_law_bag_here", "_law_many_here", "_law_rare", "_law_rules", "_law_tables", "_law_found", "_law_names_here", "_law_table", "_law_name"]
section
variable {P : Program} {w : World} {K : PySem.W.Frag} {mg : Str → Option Value} {base : Heap}
theorem scParts : FnScope NParts ["_law_bag_here", "_law_many_here", "_law_rare", "_law_rules"] (defScope sParts) := ⟨rfl, rfl, rfl, by decide +kernel, rfl, by decide +kernel, by decide +kernel⟩
def spParts : Sp := fun vs H Q _ => ∃ (b c : Addr) (many ra rl : Int), vs = [.ref b, .int many, .int ra, .int rl] ∧ BagAt H b c ∧ 0 < many ∧ many ≤ 3 ∧ 0 < ra ∧ ra ≤ 20 ∧ 0 ≤ rl ∧ rl ≤ 6 ∧
  ∀ (p : Addr) (tabs : Tabs) (rs : List Rul) (H' : Hp), DT H' (· ≠ b) (.ref p) (partsT tabs rs) → PartsOk tabs rs → (∀ p ∈ tabs, ∀ q ∈ p.2, q.2.w3) → H p = none → BagAt H' b c → But b H H' → Q (.ref p) H'
theorem ok_parts {f f1 f2 f3 f4 : Addr} {fd fd1 fd2 fd3 fd4 : FuncData} (F : Fun K "_law_parts" "_law_parts" sParts f fd)
    (G1 : FnOk P w K mg base CX0 1 f1 fd1 ["_law_bag_here", "_law_many_here"] spTake) (m1 : mg "_law_take" = some (.ref f1)) (k1 : PySem.W.keepIn K (.ref f1) = true) (b1 : Binds K fd1 ["_law_bag_here", "_law_many_here"] [])
    (G2 : FnOk P w K mg base CX0 2 f2 fd2 ["_law_bag_here", "_law_many_here"] spNames) (m2 : mg "_law_names" = some (.ref f2)) (k2 : PySem.W.keepIn K (.ref f2) = true) (b2 : Binds K fd2 ["_law_bag_here", "_law_many_here"] [])
    (G3 : FnOk P w K mg base CX0 3 f3 fd3 ["_law_bag_here", "_law_tables", "_law_rare"] spFields) (m3 : mg "_law_fields" = some (.ref f3)) (k3 : PySem.W.keepIn K (.ref f3) = true) (b3 : Binds K fd3 ["_law_bag_here", "_law_tables", "_law_rare"] [])
    (G4 : FnOk P w K mg base CX0 4 f4 fd4 ["_law_bag_here", "_law_tables", "_law_name"] spRule) (m4 : mg "_law_one_rule" = some (.ref f4)) (k4 : PySem.W.keepIn K (.ref f4) = true) (b4 : Binds K fd4 ["_law_bag_here", "_law_tables", "_law_name"] [])
    (md : mg "dict" = none) : FnOk P w K mg base CX0 5 f fd ["_law_bag_here", "_law_many_here", "_law_rare", "_law_rules"] spParts := by
  refine F.ok scParts (fun vs H Q E h => ?_) (fun cdv A outer s H vs Q E hr h => ?_)
  · obtain ⟨b, c, many, ra, rl, rfl, _⟩ := h
    rfl
  obtain ⟨b, c, many, ra, rl, rfl, hb, many0, many1, ra0, ra1, rl0, rl1, q⟩ := h
  refine ⟨_, (pss_cons (ps_set (i := 4) scParts.nd rfl (by first | exact .inl rfl | exact .inr rfl) (pe_call G2 (hr.mono (by decide)) (by rfl) m2 k2 b2 .nil pass0 (pa_cons (pv 0) (pa_cons (pe_op op_add pe_int (pe_call G1 (hr.mono (by decide)) (by rfl) m1 k1 b1 .nil pass0 (pa_cons (pv 0) (pa_cons (pv 1) pa_nil)))) pa_nil)))) (pss_cons (ps_set (i := 5) scParts.nd rfl (by first | exact .inl rfl | exact .inr rfl) (pe_callTy (call_dictP rfl) (by rfl) md (by decide +kernel) (pa_cons (pe_lc (own := [("_law_table", 7)]) (g := gName 7) (tt := tYes) rfl scParts.nd (pi_list (pv 4)) (blkOk_by (N := NParts) (sc := defScope sParts) (by decide +kernel)) (fun _ _ _ _ _ => pg_name (i := 7) scParts.nd rfl (Or.inl rfl)) (fun _ _ _ _ _ => pts_nil) (fun _ _ _ _ _ => (pe_tup (pa_cons (pv 7) (pa_cons (pe_call G3 (hr.mono (by decide)) (by rfl) m3 k3 b3 .nil pass0 (pa_cons (pv 0) (pa_cons (pv 4) (pa_cons (pv 2) pa_nil)))) pa_nil))))) pa_nil))) (pss_cons (ps_set (i := 6) scParts.nd rfl (by first | exact .inl rfl | exact .inr rfl) (pe_call G2 (hr.mono (by decide)) (by rfl) m2 k2 b2 .nil pass0 (pa_cons (pv 0) (pa_cons (pe_call G1 (hr.mono (by decide)) (by rfl) m1 k1 b1 .nil pass0 (pa_cons (pv 0) (pa_cons (pe_op op_add (pv 3) pe_int) pa_nil))) pa_nil)))) (pss_one (ps_ret (pe_tup (pa_cons (pv 5) (pa_cons (pe_lc (own := [("_law_name", 8)]) (g := gName 8) (tt := tYes) rfl scParts.nd (pi_list (pv 6)) (blkOk_by (N := NParts) (sc := defScope sParts) (by decide +kernel)) (fun _ _ _ _ _ => pg_name (i := 8) scParts.nd rfl (Or.inl rfl)) (fun _ _ _ _ _ => pts_nil) (fun _ _ _ _ _ => (pe_call G4 (hr.mono (by decide)) (by rfl) m4 k4 b4 .nil pass0 (pa_cons (pv 0) (pa_cons (pv 5) (pa_cons (pv 8) pa_nil)))))) pa_nil)))))))), ?_⟩
  refine ⟨_, rfl, _, rfl, _, rfl, b, c, many, rfl, hb, by omega, by omega, fun r H1 r0 r1 hb1 B1 => ⟨1, r, rfl, rfl, b, c, 1 + r, rfl, hb1, by omega, by omega, fun Lt ns H2 ln ndn okn eL nL hb2 B2 => ?_⟩⟩
  have nLb : Lt ≠ b := hb1.nb nL
  have lns : 0 < ns.length ∧ ns.length ≤ 3 := by omega
  have nns : ns ≠ [] := List.length_pos_iff.mp lns.1
  refine ⟨.ref Lt, rfl, Lt, rfl, ⟨_, .inl (.inl eL)⟩, fun D nD => ?_⟩
  have nDb : D ≠ b := hb2.nb nD
  have nDc : D ≠ c := hb2.nc nD
  refine lc_list (K := K) (a := Lt) (xs := ns.map V.str) (fun i Hx => ∃ (ps : List Addr) (es : List (Str × V)) (tabs : Tabs), Hx D = some (.lst (ps.map V.ref)) ∧ es.map (·.1) = ns.take i ∧ tabs.map (·.1) = ns.take i ∧
      Paired (fun p (e : Str × V) => Hx p = some (.tup [.str e.1, e.2])) ps es ∧ DTs Hx (fun a => a ≠ b ∧ a ≠ D) (es.map (·.2)) (tabs.map fun p => fieldsT p.2) ∧ (∀ p ∈ tabs, FldsOk ns p.2) ∧ (∀ p ∈ tabs, ∀ q ∈ p.2, q.2.w3) ∧ BagAt Hx b c ∧ But b H2 Hx)
    ⟨[], [], [], upd_same, rfl, rfl, .nil, .nil, (fun p h => nomatch h), (fun p h => nomatch h), hb2.new nD, (But.refl b H2).new nD⟩ (fun i Hx _ p => .inl (.inl (by obtain ⟨_, _, _, _, _, _, _, _, _, _, _, B⟩ := p; exact B _ _ eL nLb))) ?_ ?_
  · rintro i x Hx hx ⟨ps, es, tabs, hD, ek, tk, pr, dts, okt, ok3, hbx, Bx⟩
    obtain ⟨z, hz, rfl⟩ := map_get hx
    have il : i < ns.length := (List.getElem?_eq_some_iff.mp hz).1
    have lp : ps.length ≤ i := by
      have h := congrArg List.length ek
      rw [List.length_map, List.length_take] at h
      have h2 := pr.length
      omega
    refine ⟨rfl, yes_if ⟨_, rfl, _, rfl, _, rfl, _, rfl, b, c, Lt, ns, ra, rfl, hbx, Bx _ _ eL nLb, nns, by omega, ra0, ra1, fun p fs H3 fa fa3 np hb3 B3 => ⟨small (by show 2 ≤ 1000; decide), fun t nt => ?_⟩⟩⟩
    have hD3 := B3 _ _ hD nDb
    have d3 := fa.dtA hb3 B3
    have st : Same H3 (upd H3 t (.tup [.str z, .ref p])) := same_new nt _
    have ht : (upd H3 t (.tup [.str z, .ref p])) t = some (.tup [.str z, .ref p]) := upd_same
    have hb4 := hb3.same st
    have B4 : But b Hx (upd H3 t (.tup [.str z, .ref p])) := B3.trans (Same.but st b)
    generalize (upd H3 t (.tup [.str z, .ref p])) = H4 at st ht hb4 B4 ⊢
    have hD4 := st _ _ hD3
    have e1 : ns.take (i + 1) = ns.take i ++ [z] := by
      rw [List.take_add_one, hz]
      rfl
    refine ⟨_, hD4, small1000 (by rw [List.length_map]; omega), ps ++ [t], es ++ [(z, .ref p)], tabs ++ [(z, fs)], by rw [upd_same, List.map_append]; rfl, by rw [e1, List.map_append, ek]; rfl, by rw [e1, List.map_append, tk]; rfl, ?_, ?_, fun p' hp' => ?_, fun p' hp' => ?_, hb4.set nDb nDc, (Bx.trans B4).put nD⟩
    · refine Paired.mono (fun p r h => ?_) ((Paired.mono (fun p r h => B4 _ _ h (fun n => by
        obtain ⟨x1, y1, z1, ns1, h1, _, _⟩ := hbx
        rw [n, h1] at h
        cases h)) pr).snoc (b := (z, V.ref p)) ht)
      rw [upd_ne (fun q => by rw [q, hD4] at h; cases h)]
      exact h
    · rw [List.map_append, List.map_append]
      have dn : DT H4 (fun a => a ≠ b ∧ a ≠ D) (.ref p) (fieldsT fs) := (d3.same st).sub fun a h => ⟨h.1, fun n => h.2 ps (by rw [n]; exact hD)⟩
      have dold : DTs H4 (fun a => a ≠ b ∧ a ≠ D) (es.map (·.2)) (tabs.map fun p => fieldsT p.2) := dts.mono fun a o n e => B4 _ _ e n.1
      exact (dold.snoc dn).mono fun a o n e => by rw [upd_ne n.2]; exact e
    · rcases List.mem_append.mp hp' with h | h
      · exact okt p' h
      · rw [List.mem_singleton.mp h]
        exact fa.flds
    · rcases List.mem_append.mp hp' with h | h
      · exact ok3 p' h
      · rw [List.mem_singleton.mp h]
        exact fa3
  · rintro Hx ⟨ps, es, tabs, hD, ek, tk, pr, dts, okt, ok3, hbx, Bx⟩
    rw [List.length_map, List.take_length] at ek tk
    have ltn : tabs.length = ns.length := by rw [← tk, List.length_map]
    have okT : TabsOk tabs := ⟨by rw [tk]; exact ndn, fun n => by rw [n] at ltn; simp at ltn; omega, by omega, fun p hp => okn _ (by rw [← tk]; exact List.mem_map_of_mem hp), by rw [tk]; exact okt⟩
    refine ⟨D, ps, tkD es, rfl, .inl (.inl hD), ?_, fun T nT => ?_⟩
    · clear ek tk dts hD
      induction pr with
      | nil => exact .nil
      | cons h _ ih => exact .cons (.inl (.inl h)) ih
    rw [tk_dict (by rw [ek]; exact ndn)]
    have sT : Same Hx (upd Hx T (.dK (tkD es))) := same_new nT _
    have dT : DT (upd Hx T (.dK (tkD es))) (· ≠ b) (.ref T) (tablesT tabs) := .dct upd_same (hbx.nb nT) (by rw [tkD_keys, ek, tk]) okT.nd (by rw [List.length_map]; omega) (by rw [tkD_vals]; exact (dts.same sT).sub fun a h => h.1)
    have hb4 := hbx.same sT
    have B4 : But b H (upd Hx T (.dK (tkD es))) := ((B1.trans B2).trans Bx).trans (Same.but sT b)
    generalize (upd Hx T (.dK (tkD es))) = H4 at dT hb4 B4 ⊢
    refine ⟨_, rfl, _, rfl, _, rfl, rl, 1, rfl, rfl, b, c, rl + 1, rfl, hb4, by omega, by omega, fun r2 H5 r20 r21 hb5 B5 => ⟨b, c, r2, rfl, hb5, by omega, by omega, fun Ln zs H6 lz ndz okz eZ nZ hb6 B6 => ?_⟩⟩
    have nZb : Ln ≠ b := hb5.nb nZ
    have B06 := (B4.trans B5).trans B6
    have dT6 := (dT.but B5).but B6
    refine ⟨_, rfl, .ref Ln, rfl, Ln, rfl, ⟨_, .inl (.inl eZ)⟩, fun D2 nD2 => ?_⟩
    have n2b : D2 ≠ b := hb6.nb nD2
    have n2c : D2 ≠ c := hb6.nc nD2
    refine lc_list (K := K) (a := Ln) (xs := zs.map V.str) (fun i Hy => ∃ (ps : List Addr) (rs : List Rul), Hy D2 = some (.lst (ps.map V.ref)) ∧ rs.map (·.1) = zs.take i ∧ DTs Hy (fun a => a ≠ b ∧ a ≠ D2) (ps.map V.ref) (rs.map ruleT) ∧ (∀ r ∈ rs, RKOk tabs r.2) ∧ BagAt Hy b c ∧ But b H6 Hy)
      ⟨[], [], upd_same, rfl, .nil, (fun r h => nomatch h), hb6.new nD2, (But.refl b H6).new nD2⟩ (fun i Hy _ p => .inl (.inl (by obtain ⟨_, _, _, _, _, _, _, B⟩ := p; exact B _ _ eZ nZb))) ?_ ?_
    · rintro i x Hy hy ⟨ps2, rs, hD2, rk, drs, okr, hby, By⟩
      obtain ⟨z, hz, rfl⟩ := map_get hy
      have il : i < zs.length := (List.getElem?_eq_some_iff.mp hz).1
      have lp : ps2.length ≤ i := by
        have h := congrArg List.length rk
        rw [List.length_map, List.length_take] at h
        have h2 := drs.len
        rw [List.length_map, List.length_map] at h2
        omega
      refine ⟨rfl, yes_if ⟨_, rfl, _, rfl, _, rfl, b, c, T, tabs, z, rfl, hby, dT6.but By, okT, fun p k H7 d7 ok7 n7 hb7 B7 => ?_⟩⟩
      have hD7 := B7 _ _ hD2 n2b
      have e1 : zs.take (i + 1) = zs.take i ++ [z] := by
        rw [List.take_add_one, hz]
        rfl
      refine ⟨_, hD7, small1000 (by rw [List.length_map]; omega), ps2 ++ [p], rs ++ [(z, k)], by rw [upd_same, List.map_append]; rfl, by rw [e1, List.map_append, rk]; rfl, ?_, fun r' hr' => ?_, hb7.set n2b n2c, (By.trans B7).put nD2⟩
      · rw [List.map_append, List.map_append]
        have dn : DT H7 (fun a => a ≠ b ∧ a ≠ D2) (.ref p) (ruleT (z, k)) := d7.sub fun a h => ⟨h.1, fun n => h.2 ps2 (by rw [n]; exact hD2)⟩
        have dold : DTs H7 (fun a => a ≠ b ∧ a ≠ D2) (ps2.map V.ref) (rs.map ruleT) := drs.mono fun a o n e => B7 _ _ e n.1
        exact (dold.snoc dn).mono fun a o n e => by rw [upd_ne n.2]; exact e
      · rcases List.mem_append.mp hr' with h | h
        · exact okr r' h
        · rw [List.mem_singleton.mp h]
          exact ok7
    · rintro Hy ⟨ps2, rs, hD2, rk, drs, okr, hby, By⟩
      rw [List.length_map, List.take_length] at rk
      refine ⟨small (by show 2 ≤ 1000; decide), fun t nt => ?_⟩
      have st : Same Hy (upd Hy t (.tup [.ref T, .ref D2])) := same_new nt _
      have lr : rs.length = zs.length := by rw [← rk, List.length_map]
      refine q t tabs rs _ (.tup upd_same (hby.nb nt) (.cons ((dT6.but By).same st) (.cons (.lst (st _ _ hD2) n2b ((drs.same st).sub fun a h => h.1)) .nil))) ⟨okT, by rw [rk]; exact ndz, fun r hr => ⟨okz _ (by rw [← rk]; exact List.mem_map_of_mem hr), okr r hr⟩, by omega⟩ ok3 ((B06.trans By).free nt (hby.nb nt)) (hby.same st) ((B06.trans By).trans (Same.but st b))
end
end Lw

set_option Elab.async false
set_option linter.all false
set_option maxRecDepth 100000
set_option maxHeartbeats 4000000
/-! sets of texts: made, put into, sorted -/
namespace Lw
open PySem PySem.Spec PyProof.Rows L2
open PySem.Froz (SD TxOk sObj addTx tailTx)
/-- at a the set of the texts l (each once, in no order that one may rely on) -/
structure SetS (P : Program) (w : World) (h : Heap) (a : Addr) (l : List Str) : Prop where
  ex : ∃ D : SD, h.get? a = some (sObj "set" D) ∧ TxOk P w D l ∧ Ris D.2.2.place.toList ∧ (w.params.followText "set-order" = true ∨ D.2.2.led = true)
  nd : l.Nodup
  few : l.length < scanBound
/-- the payload behind an add rises, too -/
theorem add_ris {D : SD} {hs : Int} {v : Value} {F : Prop} (r : Ris D.2.2.place.toList) (b : F ∨ D.2.2.led = true) : Ris (addTx hs v D).2.2.place.toList ∧ (F ∨ (addTx hs v D).2.2.led = true) := by
  obtain ⟨es, ep, t⟩ := D
  have r1 := layNew_ris t es hs v r
  have l1 := layNew_led t es hs v
  have b1 : F ∨ (layNew t es hs v).2.1.led = true := b.imp id fun z => l1.trans z
  have key : ∀ (t2 : SetTable) (es1 : Array (Int × Value)) (wd : Bool), Ris t2.place.toList → (F ∨ t2.led = true) → Ris (tailTx ep es1 t2 wd).2.2.place.toList ∧ (F ∨ (tailTx ep es1 t2 wd).2.2.led = true) := by
    intro t2 es1 wd r2 b2
    unfold tailTx
    by_cases c : (!wd && t2.tooFull) = true
    · rw [if_pos c]
      exact ⟨relayAll_ris t2 es1 _, b2.imp id fun z => (relayAll_led t2 es1 _).trans z⟩
    · rw [if_neg c]
      exact ⟨r2, b2⟩
  show Ris (tailTx ep _ _ _).2.2.place.toList ∧ (F ∨ (tailTx ep _ _ _).2.2.led = true)
  refine key _ _ _ ?_ ?_
  · split
    · exact r1
    · exact r1
  · split
    · exact b1
    · exact b1
section
variable {P : Program} {w : World} {A : Around} {E : Value → Shared → Prop} {s : Shared}
theorem setS_fresh {h : Heap} : SetS P w (h.push { cls := .type "set", dict := none, data := .set #[] 0 (.fresh 0 0 (!w.params.followText "set-order")) }) h.objs.size [] :=
  ⟨⟨(#[], 0, .fresh 0 0 (!w.params.followText "set-order")), Heap.get?_push_size _ rfl, .nil rfl, List.Pairwise.nil, by
    show _ ∨ (!w.params.followText "set-order") = true
    cases w.params.followText "set-order"
    · exact .inr rfl
    · exact .inl rfl⟩, List.nodup_nil, by decide⟩
theorem SetS.at {h h' : Heap} {a : Addr} {l : List Str} (x : SetS P w h a l) (k : ∀ o, h.get? a = some o → h'.get? a = some o) : SetS P w h' a l := by
  obtain ⟨⟨D, e, r⟩, n, f⟩ := x
  exact ⟨⟨D, k _ e, r⟩, n, f⟩
/-- a text that is there is put in once more -/
theorem add_there {a : Addr} {D : SD} {l : List Str} {k : Str} {u : Tok} {Q : Bool → Shared → Prop} (ho : s.heap.get? a = some (sObj "set" D)) (F : TxOk P w D l) (hk : k ∈ l) (hb : l.length < scanBound) (h : Q false s) : wpAny (model P w) A (setAddHashed a (.str k u) (hashStr w k)) Q E s := by
  obtain ⟨es, ep, t⟩ := D
  have szl : es.size = l.length := F.sz
  have few : es.size < scanBound := by omega
  have itself : (strKind P w).is k (.str k u) = true := PySem.Froz.is_str k u
  unfold setAddHashed setAddHashedIn
  refine wpAny_holding (wpAny_bind (wpAny_setState_of ho (show (sObj "set" (es, ep, t)).data = .set es ep t from rfl) F.fit ?_))
  dsimp only
  rw [byScan_of rfl few F.el]
  simp only [↓reduceIte]
  unfold setAddByScan
  refine wpAny_bind (wpAny_bind (wpAny_rule (wpAny_bind (wpAny_setScan_of (knd := strKind P w) (k := k) itself ho rfl F.fit F.el ?_))))
  cases hf : List.findIdx? (fun e => (strKind P w).is k e.2) es.toList with
  | some j => exact wpAny_pure (wpAny_pure h)
  | none =>
    obtain ⟨e, he, q⟩ := (F.mem k).mp hk
    have c := List.findIdx?_eq_none_iff.mp hf e he
    rw [q] at c
    cases c
/-- found.add(k) -/
theorem setS_add {a : Addr} {l : List Str} {k : Str} {tk : Tok} {Q : Value → Shared → Prop} (R : SetS P w s.heap a l) (room : l.length + 1 < scanBound)
    (hQ : ∀ h', Heap.SameBut a s.heap h' → SetS P w h' a (if k ∈ l then l else k :: l) → Q .none { s with heap := h', toks := s.toks + 1 }) : wpAny (model P w) A (call (.builtin "set.add") [.ref a, .str k tk]) Q E s := by
  obtain ⟨⟨D, at_a, G, ris, led⟩, nd, few⟩ := R
  refine wpAny_call_entry F.slot_set_add ⟨_, at_a, rfl⟩ F.entry_set_add ?_ (F.args_set_add_2 _ _)
  unfold Builtin.«set.add» Builtin.Frozenset.oneOther
  simp only [List.isEmpty_nil, bind_assoc]
  unfold Builtin.Frozenset.addrOf setAdd
  refine wpAny_bind (wpAny_pure ?_)
  try dsimp only
  refine wpAny_bind (wpAny_pure ?_)
  try dsimp only
  refine wpAny_bind (wpAny_holding (wpAny_bind ((strKind P w).pyHash (k := k) (PySem.Froz.is_str _ _) ?_)))
  by_cases hk : k ∈ l
  · refine add_there (s := { s with toks := s.toks + 1 }) at_a G hk few ?_
    have q := hQ s.heap (Heap.SameBut.refl a s.heap) (by rw [if_pos hk]; exact ⟨⟨D, at_a, G, ris, led⟩, nd, few⟩)
    exact wpAny_pure ⟨_, rfl, q⟩
  · refine PySem.Froz.add_x (s := { s with toks := s.toks + 1 }) at_a G hk room ?_
    obtain ⟨r2, b2⟩ := add_ris (hs := hashStr w k) (v := .str k tk) ris led
    have q := hQ (s.heap.update a fun _ => sObj "set" (addTx (hashStr w k) (.str k tk) D)) (Heap.SameBut.update s.heap a _)
      (by rw [if_neg hk]; exact ⟨⟨_, PySem.Froz.get_upd _ at_a rfl, PySem.Froz.add_ok tk G, r2, b2⟩, List.nodup_cons.mpr ⟨hk, nd⟩, room⟩)
    exact wpAny_pure ⟨_, rfl, q⟩
/-! ### the members, in order -/
theorem perm_of {l ks : List Str} (nd : l.Nodup) (sub : ∀ x ∈ l, x ∈ ks) (len : ks.length = l.length) : l.Perm ks := by
  induction l generalizing ks with
  | nil => rw [List.length_nil] at len; rw [List.length_eq_zero_iff.mp len]
  | cons x r ih =>
    obtain ⟨s, t, rfl⟩ := List.append_of_mem (sub x List.mem_cons_self)
    obtain ⟨nx, nr⟩ := List.nodup_cons.mp nd
    have sub' : ∀ y ∈ r, y ∈ s ++ t := fun y hy => by
      rcases List.mem_append.mp (sub y (List.mem_cons_of_mem _ hy)) with z | z
      · exact List.mem_append_left _ z
      · rcases List.mem_cons.mp z with z | z
        · exact absurd (z ▸ hy) nx
        · exact List.mem_append_right _ z
    have len' : (s ++ t).length = r.length := by
      simp only [List.length_append, List.length_cons] at len ⊢
      omega
    exact ((ih nr sub' len').cons x).trans List.perm_middle.symm
def txtOf : Value → Str
  | .str k _ => k
  | _ => Str.empty
theorem txts_of : ∀ (l : List Value), (∀ v ∈ l, ∃ k tk, v = Value.str k tk) → StrsAre l (l.map txtOf)
  | [], _ => .nil
  | v :: l, h => by
    obtain ⟨k, tk, rfl⟩ := h v List.mem_cons_self
    exact .cons k tk (txts_of l fun u hu => h u (List.mem_cons_of_mem _ hu))
theorem is_txt {k : Str} {v : Value} (h : (strKind P w).is k v = true) : ∃ tk, v = .str k tk := by
  have h : Value.isStrOf k v = true := h
  cases v with
  | str x u =>
    have e : x = k := by simpa [Value.isStrOf] using h
    exact ⟨u, by rw [e]⟩
  | _ => cases h
theorem txts_perm {D : SD} {l : List Str} (G : TxOk P w D l) (nd : l.Nodup) : (∀ v ∈ D.1.toList.map (·.2), ∃ k tk, v = Value.str k tk) ∧ (D.1.toList.map fun e => txtOf e.2).Perm l := by
  refine ⟨fun v hv => ?_, (perm_of nd (fun x hx => ?_) ?_).symm⟩
  · obtain ⟨e, he, rfl⟩ := List.mem_map.mp hv
    obtain ⟨⟨k, q, _⟩, _⟩ := G.el e he
    obtain ⟨tk, z⟩ := is_txt q
    exact ⟨k, tk, z⟩
  · obtain ⟨e, he, q⟩ := (G.mem x).mp hx
    obtain ⟨tk, z⟩ := is_txt q
    exact List.mem_map.mpr ⟨e, he, by rw [z]; rfl⟩
  · rw [List.length_map, Array.length_toList]
    exact G.sz
theorem sorted_setS {a : Addr} {l : List Str} {Q : Value → Shared → Prop} (R : SetS P w s.heap a l) (hh : A.handled = none) (h64 : l.length < 64)
    (hQ : ∀ s' p (out : Array Value) (c : Nat) (ys : List Str), (∀ b o, s.heap.get? b = some o → s'.heap.get? b = some o) → s'.gens = s.gens → s'.os = s.os → s.heap.objs.size ≤ p →
      s'.heap.get? p = some (seqObj "list" out c) → StrsAre out.toList ys → ys.Perm l → sortedS ys = true → Q (.ref p) s') : wpAny (model P w) A (call (.builtin "sorted") [.ref a]) Q E s := by
  obtain ⟨⟨⟨es, ep, t⟩, at_a, G, ris, led⟩, nd, few⟩ := R
  obtain ⟨allT, pl⟩ := txts_perm G nd
  have szl : es.size = l.length := G.sz
  refine Calls.call_function_entry kind_sorted plain_sorted entry_sorted (args_sorted1 _) ?_
  unfold Builtin.«sorted»
  refine wpAny_bind (m := checkCount "sorted" 1 1 _) (wpAny_pure ?_)
  refine wpAny_bind (collect_set (A := A.in1) hh ⟨_, at_a, rfl, rfl⟩ G.fit (by show es.size < scanBound; omega) ris led fun s1 vs k1 z1 g1 o1 pm => ?_)
  have lv : vs.length = l.length := by rw [pm.length_eq, List.length_map, Array.length_toList]; exact szl
  have ts : StrsAre vs (vs.map txtOf) := txts_of vs fun v hv => allT v (pm.mem_iff.mp hv)
  have pv : (vs.map txtOf).Perm l := by
    have q := pm.map txtOf
    rw [List.map_map] at q
    exact q.trans pl
  refine wpAny_bind (wpAny_newList ?_ (by rw [lv, sizeLine_eq]; omega))
  have at_L : (s1.heap.push (seqObj "list" vs.toArray 0)).get? s1.heap.objs.size = some (seqObj "list" vs.toArray 0) := Heap.get?_push_size _ rfl
  refine wpAny_bind (wpAny_holding (wpAny_call_entry slot_list_sort ⟨_, at_L, rfl⟩ entry_list_sort (list_sort_treeK strKind_oneLt at_L ts.keysOf (fun v₁ v₂ rest e => keyKind_strs (by rw [← e]; exact ts)) (by rw [lv]; exact h64) fun st' hp hs => ⟨_, rfl, ?_⟩) (args_list_sort _)))
  obtain ⟨ys, y1, y2, y3⟩ := sorted_out_str ts hp hs
  obtain ⟨c, hc⟩ := sortedHeap_at (vs := vs) (out := (arrOf st').map (·.2)) at_L
  refine wpAny_pure ⟨_, rfl, hQ _ s1.heap.objs.size _ c ys (fun b u e => ?_) g1 o1 z1 hc y1 (y2.trans pv) y3⟩
  have q := k1 b u e
  have lt := Heap.lt_size q
  show (sortedHeap (s1.heap.push (seqObj "list" vs.toArray 0)) s1.heap.objs.size vs _).get? b = some u
  rw [sortedHeap_old (Nat.ne_of_lt lt) (by rw [size_push']; exact Nat.lt_succ_of_lt lt)]
  exact Heap.get?_push_of_some _ q
end
end Lw

set_option Elab.async false
set_option linter.all false
set_option maxRecDepth 100000
set_option maxHeartbeats 4000000
/-! sets of texts within the heap of a proof: the comprehension, sorted -/
namespace Lw
open PySem PySem.Spec PySem.W PySem.Calls PyProof.Rows L2
def SetSO (P : Program) (w : World) (a : Addr) (l : List Str) : HO := .ext fun h => SetS P w h a l
section
variable {X : Cx} {pl : List (Addr × Obj)} {σ : L2.St} {H : Hp} {s : Shared}
theorem setS_ok {P : Program} {w : World} {h : Heap} {a : Addr} {l : List Str} (R : SetS P w h a l) : ObjOk P w H h a (SetSO P w a l) := by
  obtain ⟨D, e, _⟩ := R.ex
  exact ⟨R, ⟨_, e⟩, fun h1 h2 p k => SetS.at p k⟩
theorem setS_get {a : Addr} {l : List Str} (J : Inv X pl σ H s) (ha : H a = some (SetSO X.prog X.w a l)) : SetS X.prog X.w s.heap a l := (J.hok a _ ha).1
/-- sorted(a set of texts) -/
def rSortedSS (P : Program) (w : World) : List V → Hp → VK → Prop := fun vs H Q => ∃ (a : Addr) (l : List Str), vs = [.ref a] ∧ H a = some (SetSO P w a l) ∧ l.length < 64 ∧ ∀ (ys : List Str) (p : Addr), ys.Perm l → sortedS ys = true → H p = none → Q (.ref p) (upd H p (.lst (ys.map V.str)))
theorem cr_sortedSS (hc : X.calm = true) : CallR X (.builtin "sorted") (rSortedSS X.prog X.w) := by
  intro pl s σ H vs us Q J r h
  obtain ⟨a, l, rfl, ha, h64, q⟩ := h
  rw [Vals.ref1 r]
  refine sorted_setS (setS_get J ha) (J.ok.hd hc) h64 fun s' p out c ys k g o new at_p ts py so => ?_
  have len : (ys.map V.str).length ≤ sizeLine := by rw [List.length_map, py.length_eq, sizeLine_eq]; omega
  have free : H p = none := J.hok.fresh new
  obtain ⟨h', g', d', t', o'⟩ := s'
  have J' : Inv X pl σ (upd H p (.lst (ys.map V.str))) ⟨h', g', d', t', o'⟩ :=
    J.call' (ch := []) o (Un.laid k new free) (J.hok.laid k new ⟨len, out.toList, c, vals_of_strs ts, by rw [Array.toArray_toList]; exact at_p⟩) (by show AllBare g'; rw [show g' = s.gens from g]; exact J.bare) (fun _ z => nomatch z)
  exact ⟨.ref p, _, J', rfl, q ys p py so free⟩
/-- D.add(x) within the comprehension -/
theorem addS_ok {E : Value → Shared → Prop} {D : Addr} {l : List Str} {k : Str} {tk : Tok} {Q : Value → Shared → Prop} (J : Inv X pl σ H s) (hD : H D = some (SetSO X.prog X.w D l)) (room : l.length + 1 < scanBound)
    (h : ∀ s', Inv X pl σ (upd H D (SetSO X.prog X.w D (if k ∈ l then l else k :: l))) s' → Q .none s') : wpAny (model X.prog X.w) X.A (call (.builtin "set.add") [.ref D, .str k tk]) Q E s := by
  refine setS_add (setS_get J hD) room fun h' sb new => ?_
  obtain ⟨D2, e, _⟩ := id new.ex
  exact h _ (J.write (e := D) (t' := s.toks + 1) (by rw [hD]; trivial) (.inl rfl) (fun b u hb hu => (sb.2 b hb).trans hu) ⟨_, e⟩ (setS_ok new))
/-- {elt for target in iter}, elt a text -/
def tScS (P : Program) (w : World) (wi : TI) (g : TG) (te : TE) (vs : List Nat) : TE := fun σ H Q => wi σ H fun J H1 => ∀ D, H1 D = none → ∃ W : Nat → Nat → Hp → Prop, (∃ m, W 0 m (upd H1 D (SetSO P w D []))) ∧ ∀ i m H, W i m H →
  (J.stop i H ∧ Q (.ref D) H) ∨ (J.go i H ∧ ∃ Nx : Hp → Prop, (∀ H', Nx H' → ∃ m', m' < m ∧ W (i + 1) m' H') ∧ ∀ x H', J.yld i H x H' → g x (wipe σ vs) H' fun σ2 H2 => wipe σ2 vs = wipe σ vs ∧
    te σ2 H2 fun y H4 => ∃ (k : Str) (l : List Str), y = .str k ∧ H4 D = some (SetSO P w D l) ∧ l.length + 1 < scanBound ∧ Nx (upd H4 D (SetSO P w D (if k ∈ l then l else k :: l))))
theorem pe_scS {elt tg iter : Expr} {scope : Scope} {own : List (Str × Nat)} {pos : Pos} {wi : TI} {g : TG} {te : TE} (calm : X.calm = true) (nd : X.N.Nodup) (src : PI X tg iter wi) (ok : BlkOk X.N X.env.scope scope own)
    (rg : ∀ (s : Shared) (H : Hp) (C : Addr) (cl : List (Str × Addr)) (fp : List Addr), PG (X.blk s H scope (compEnvC scope cl C X.env) fp) tg g)
    (re : ∀ (s : Shared) (H : Hp) (C : Addr) (cl : List (Str × Addr)) (fp : List Addr), PE (X.blk s H scope (compEnvC scope cl C X.env) fp) elt te) (plain : ∀ x, foldedSetIterable iter X.env x = pure x := by intro _; rfl) :
    PE X (.SetComp elt [⟨tg, iter, [], 0⟩] scope pos) (tScS X.prog X.w wi g te (own.map (·.2))) := by
  refine ⟨fun pl s0 σ H Q J0 want => ?_⟩
  rw [PpSet.eval_SetComp]
  have cellsFree : ∀ y ∈ scope.names, y.2 = .free → ∃ c, X.env.cells.lookup y.1 = some c := by
    intro y hy e
    exact (ok.free y hy e).elim (fun k => J0.ok.has _ (.inl k)) (fun k => J0.ok.has _ (.inr k))
  refine wpAny_comprehension_free (use := none) rfl plain (closure_ok cellsFree) ok.kind (fun y hy e => by rw [ok.uniq y hy, e])
    (thn (src.run pl s0 σ H _ J0 want) fun xv s1 got => thn got fun itv s2 got2 => ?_)
  obtain ⟨it, fp, tn, It1, H2, rfl, J2, T, tn2, fo2, rest⟩ := got2
  refine PpSet.newSet_ok (newEnv_comp ?_)
  generalize eL : s2.heap.objs.size = L
  have freeL : H2 L = none := J2.hok.fresh (Nat.le_of_eq eL)
  obtain ⟨W, ⟨m0, w0⟩, turn⟩ := rest L freeL
  generalize e3 : ({ s2 with heap := s2.heap.push { cls := .type "set", dict := none, data := .set #[] 0 (.fresh 0 0 (!X.w.params.followText "set-order")) } } : Shared) = s3
  have hp3 : s3.heap = s2.heap.push { cls := .type "set", dict := none, data := .set #[] 0 (.fresh 0 0 (!X.w.params.followText "set-order")) } := by rw [← e3]
  have J3 : Inv X pl σ (upd H2 L (SetSO X.prog X.w L [])) s3 := by
    rw [← e3]
    refine J2.laid (t' := s2.toks) (fun b o q => Heap.get?_push_of_some _ q) (Nat.le_of_eq eL) ?_
    rw [← eL]
    exact setS_ok setS_fresh
  have fo3 : ∀ b ∈ fp, FpOk X pl (upd H2 L (SetSO X.prog X.w L [])) b ∧ b < s3.heap.objs.size := by
    intro b hb
    obtain ⟨o, eo, _⟩ := T.obj _ _ tn2 b hb
    have lt := Heap.lt_size eo
    refine ⟨⟨?_, (fo2 b hb).2⟩, by rw [hp3, Heap.size_push]; exact Nat.lt_succ_of_lt lt⟩
    rw [upd_ne (by rw [← eL]; exact Nat.ne_of_lt lt)]
    exact (fo2 b hb).1
  have tn3 : tn 0 s3.heap := T.keep _ _ _ tn2 fun b _ o eo => by rw [hp3]; exact Heap.get?_push_of_some _ eo
  have J4 := block_start J3 ok nd fo3
  have ug := rg s3 (upd H2 L (SetSO X.prog X.w L [])) s3.heap.objs.size (cellsFrom (s3.heap.objs.size + 1) scope.names (cloFrom X.env.cells scope.names [])) fp
  have ue := re s3 (upd H2 L (SetSO X.prog X.w L [])) s3.heap.objs.size (cellsFrom (s3.heap.objs.size + 1) scope.names (cloFrom X.env.cells scope.names [])) fp
  show codeAny _ _ (.compStart (.SetComp elt [⟨tg, iter, [], 0⟩] scope pos) 0 (.ref it) (.ref L) (compEnvC scope (cellsFrom (s3.heap.objs.size + 1) scope.names (cloFrom X.env.cells scope.names [])) s3.heap.objs.size X.env)) (compPost (model X.prog X.w) X.A X.xe none (EP X pl σ Q) (.ref L) s3.heap.objs.size) { s3 with heap := pushCells (s3.heap.push { cls := .type "dict", data := .dict #[] }) scope.names }
  have none3 : ∀ b ∈ fp, (upd H2 L (SetSO X.prog X.w L [])) b = none := fun b hb => (fo3 b hb).1.1
  generalize ece : compEnvC scope (cellsFrom (s3.heap.objs.size + 1) scope.names (cloFrom X.env.cells scope.names [])) s3.heap.objs.size X.env = ce at J4 ug ue ⊢
  have locC : ce.locals = s3.heap.objs.size := by subst ece; rfl
  generalize eH3 : upd H2 L (SetSO X.prog X.w L []) = H3 at J3 J4 ug ue w0 none3 fo3
  generalize e4 : ({ s3 with heap := pushCells (s3.heap.push { cls := .type "dict", data := .dict #[] }) scope.names } : Shared) = s4 at J4 ⊢
  have tn4 : tn 0 s4.heap := T.keep _ _ _ tn3 fun b _ o eo => by rw [← e4]; exact pushCells_keeps _ _ _ _ (Heap.get?_push_of_some _ eo)
  have okB : ∀ {σ' : L2.St} {H' : Hp} {s' : Shared}, Inv (X.blk s3 H3 scope ce fp) [] σ' H' s' → (∀ b ∈ fp, H' b = none) → ∀ b ∈ fp, FpOk (X.blk s3 H3 scope ce fp) [] H' b := by
    intro σ' H' s' J fr b hb
    exact ⟨fr b hb, (J.ok.exf b hb).1, J.ok.exfs b hb, .inl hb, fun x c e => (J.ok.exf b hb).2 x c e, fun p hp => absurd (show p ∈ ([] : List (Addr × Obj)) ++ [] from hp) (by simp)⟩
  have loop : codeAny (model X.prog X.w) X.A (.compLoop (.SetComp elt [⟨tg, iter, [], 0⟩] scope pos) 0 (.ref it) (.ref L) ce) (compPost (model X.prog X.w) X.A X.xe none (EP X pl σ Q) (.ref L) s3.heap.objs.size) s4 := by
    refine PpSet.compLoopS_any (fun n s' => ∃ i H', Inv (X.blk s3 H3 scope ce fp) [] (wipe σ (own.map (·.2))) H' s' ∧ tn i s'.heap ∧ (∀ b ∈ fp, H' b = none) ∧ W i n H') ?_ m0 ⟨0, H3, J4, tn4, none3, w0⟩
    rintro n s5 ⟨i, H5, J5, tn5, fr5, w5⟩
    rcases turn i n H5 w5 with ⟨stop, qq⟩ | ⟨go, Nx, hNx, step⟩
    · refine thnF (T.done (X.blk s3 H3 scope ce fp) rfl rfl rfl calm i [] s5 _ H5 (fun _ _ => False) J5 (okB J5 fr5) tn5 stop) fun r s6 got6 => ?_
      obtain ⟨rfl, J6⟩ := got6
      have J7 : Inv X pl σ H5 s6 := J3.call' (ch := fp) J6.os J6.base J6.hok J6.bare fun b hb => ⟨(fo3 b hb).1.2.2.2.1, (fo3 b hb).1.2.1, (fo3 b hb).1.2.2.2.2.1, (fo3 b hb).1.2.2.2.2.2⟩
      have frC : H5 s3.heap.objs.size = none := locC ▸ (show H5 ce.locals = none from J6.free)
      obtain ⟨m, nsC, _⟩ := J6.loc
      have nsC : s6.heap.Ns s3.heap.objs.size m := locC ▸ (show s6.heap.Ns ce.locals m from nsC)
      obtain ⟨f0, f1, f2, f3, f4, f5⟩ := J3.fpOk (Nat.le_refl _) frC
      exact ⟨m, nsC, fun h'' sb => ⟨.ref L, H5, J7.turned (t' := s6.toks) (fun b o hb e => (sb.2 b hb).trans e) f0 f1 f3 f4 f5, rfl, qq⟩⟩
    · refine thnF (T.item (X.blk s3 H3 scope ce fp) rfl rfl rfl calm i [] s5 _ H5 (fun _ _ => False) J5 (okB J5 fr5) tn5 go) fun r s6 got6 => ?_
      obtain ⟨u, rfl, got6⟩ := got6
      refine thnF got6 fun _ s7 got7 => ?_
      obtain ⟨x, H7, J7, r7, y7, tn7, fr7⟩ := got7
      have J7p := J7.pinned (okB J7 fr7) (T.obj _ _ tn7)
      refine thnF (ug.run _ s7 _ H7 x u _ J7p r7 (step x H7 y7)) fun _ s8 got8 => ?_
      obtain ⟨σ8, H8, J8, ew, want8⟩ := got8
      have fin : ∀ {s' : Shared} {H' : Hp}, Inv (X.blk s3 H3 scope ce fp) ([] ++ pinsAt fp s7.heap) σ8 H' s' → Nx H' →
          ∃ m, m < n ∧ ∃ i H', Inv (X.blk s3 H3 scope ce fp) [] (wipe σ (own.map (·.2))) H' s' ∧ tn i s'.heap ∧ (∀ b ∈ fp, H' b = none) ∧ W i m H' := by
        intro s' H' J11 nx
        obtain ⟨m', lt, w'⟩ := hNx _ nx
        have pinned : ∀ b ∈ fp, ∀ o, s7.heap.get? b = some o → s'.heap.get? b = some o ∧ H' b = none := by
          intro b hb o eo
          obtain ⟨z1, z2, _⟩ := J11.pin (b, o) (List.mem_append_right _ (List.mem_append_right _ (mem_pinsAt hb eo)))
          exact ⟨z1, z2⟩
        have el : (wipe σ (own.map (·.2))).length = σ8.length := by rw [← ew, wipe_length]
        refine ⟨m', lt, i + 1, _, (J11.unpinned (pins := [])).weak el (fun j v ev => ?_), T.keep _ _ _ tn7 fun b hb o eo => (pinned b hb o eo).1, fun b hb => ?_, w'⟩
        · rw [← ew] at ev
          exact (wipe_some ev).1
        · obtain ⟨o, eo, _⟩ := T.obj _ _ tn7 b hb
          exact (pinned b hb o eo).2
      refine thnF ((pts_nil (X := X.blk s3 H3 scope ce fp)).run _ s8 σ8 H8 (fun b H9 => if b = true then te σ8 H9 _ else False) J8 want8) fun b s9 got9 => ?_
      obtain ⟨H9, J9, want9⟩ := got9
      cases b with
      | false => exact absurd want9 (by simp)
      | true =>
        simp only [if_true] at want9 ⊢
        refine thnF (ue.run _ s9 σ8 H9 _ J9 want9) fun z s10 got10 => ?_
        obtain ⟨yv, H10, J10, r10, k, l, rfl, eL10, lt10, nx⟩ := got10
        obtain ⟨tk, rfl⟩ := r10
        exact addS_ok (X := X.blk s3 H3 scope ce fp) J10 eL10 lt10 fun s11 J11 => fin J11 nx
  exact PpSet.codeAny_compStart_set loop (T.self X.A 0 _ _ _ tn4 loop)
end
end Lw

set_option Elab.async false
set_option linter.all false
set_option maxRecDepth 100000
set_option maxHeartbeats 4000000
/-! set(a list of texts) -/
namespace Lw
open PySem PySem.Spec PyProof.Rows L2
abbrev bareSet (w : World) : Obj := { cls := .type "set", dict := none, data := .set #[] 0 (.fresh 0 0 (!w.params.followText "set-order")) }
/-- put in, unless it is there -/
def ins (l : List Str) (k : Str) : List Str := if k ∈ l then l else k :: l
/-- the texts of a list, each once -/
def once (ks : List Str) : List Str := ks.foldl ins []
theorem once_snoc (ks : List Str) (k : Str) : once (ks ++ [k]) = ins (once ks) k := by
  unfold once
  rw [List.foldl_append]
  rfl
theorem ins_len (l : List Str) (k : Str) : (ins l k).length ≤ l.length + 1 := by
  unfold ins
  split
  · exact Nat.le_succ _
  · exact Nat.le_refl _
theorem once_go (ks : List Str) : ∀ l : List Str, (ks.foldl ins l).length ≤ l.length + ks.length := by
  induction ks with
  | nil => intro l; exact Nat.le_refl _
  | cons k r ih =>
    intro l
    have h1 := ih (ins l k)
    have h2 := ins_len l k
    show (r.foldl ins (ins l k)).length ≤ l.length + (r.length + 1)
    omega
theorem once_len (ks : List Str) : (once ks).length ≤ ks.length := by
  have h := once_go ks []
  rw [List.length_nil, Nat.zero_add] at h
  exact h
theorem mem_ins {l : List Str} {k x : Str} : x ∈ ins l k ↔ x = k ∨ x ∈ l := by
  unfold ins
  split
  · rename_i h
    exact ⟨.inr, fun z => z.elim (fun e => e ▸ h) id⟩
  · exact List.mem_cons
theorem mem_go (ks : List Str) : ∀ (l : List Str) (x : Str), x ∈ ks.foldl ins l ↔ x ∈ l ∨ x ∈ ks := by
  induction ks with
  | nil => intro l x; simp
  | cons k r ih =>
    intro l x
    show x ∈ r.foldl ins (ins l k) ↔ _
    rw [ih, mem_ins, List.mem_cons]
    constructor
    · rintro ((h | h) | h)
      · exact .inr (.inl h)
      · exact .inl h
      · exact .inr (.inr h)
    · rintro (h | h | h)
      · exact .inl (.inr h)
      · exact .inl (.inl h)
      · exact .inr h
theorem mem_once {ks : List Str} {x : Str} : x ∈ once ks ↔ x ∈ ks := by
  have h := mem_go ks [] x
  rw [show (x ∈ ([] : List Str)) = False from by simp] at h
  rw [show (False ∨ x ∈ ks) = (x ∈ ks) from false_or _] at h
  exact h
section
variable {P : Program} {w : World} {A : Around} {E : Value → Shared → Prop} {s : Shared}
theorem bare_at {h : Heap} {a : Addr} (e : h.get? a = some (bareSet w)) : SetS P w h a [] :=
  ⟨⟨(#[], 0, .fresh 0 0 (!w.params.followText "set-order")), e, .nil rfl, List.Pairwise.nil, by
    show _ ∨ (!w.params.followText "set-order") = true
    cases w.params.followText "set-order"
    · exact .inr rfl
    · exact .inl rfl⟩, List.nodup_nil, by decide⟩
/-- one more, its hash told -/
theorem setS_put {a : Addr} {l : List Str} {k : Str} {tk : Tok} {Q : Bool → Shared → Prop} (R : SetS P w s.heap a l) (room : l.length + 1 < scanBound)
    (hQ : ∀ b h', Heap.SameBut a s.heap h' → SetS P w h' a (ins l k) → Q b { s with heap := h' }) : wpAny (model P w) A (setAddHashed a (.str k tk) (hashStr w k)) Q E s := by
  obtain ⟨⟨D, at_a, G, ris, led⟩, nd, few⟩ := R
  by_cases hk : k ∈ l
  · exact add_there at_a G hk few (hQ _ s.heap (Heap.SameBut.refl a s.heap) (by unfold ins; rw [if_pos hk]; exact ⟨⟨D, at_a, G, ris, led⟩, nd, few⟩))
  · obtain ⟨r2, b2⟩ := add_ris (hs := hashStr w k) (v := .str k tk) ris led
    exact PySem.Froz.add_x at_a G hk room (hQ _ _ (Heap.SameBut.update s.heap a _)
      (by unfold ins; rw [if_neg hk]; exact ⟨⟨_, PySem.Froz.get_upd _ at_a rfl, PySem.Froz.add_ok tk G, r2, b2⟩, List.nodup_cons.mpr ⟨hk, nd⟩, room⟩))
theorem put_all {I S : Addr} {fp wr : List Addr} {G : Array GenState → Array GenState → Prop} {n : Nat} {Pv : Nat → Value → Prop} {St : Nat → Shared → Prop} {R : Result → Shared → Prop} (Wk : WalksS P w A.in1 I fp wr G n Pv St) (out : S ∉ fp) (ks : List Str)
    (hn : n = ks.length) (room : ks.length + 1 < scanBound) (what : ∀ i v, Pv i v → ∃ k t, ks[i]? = some k ∧ v = .str k t) : ∀ (left i : Nat) (s : Shared), n - i = left → i ≤ n → St i s → SetS P w s.heap S (once (ks.take i)) →
      (∀ s', Moved (S :: wr) G s s' → SetS P w s'.heap S (once ks) → R (.ok (.ret .none)) s') → codeAny (model P w) A (.builtin "set.update.loop" ⟨[.ref S, .ref I], []⟩) R s := by
  have nwr : S ∉ wr := fun h => out (Wk.sub _ h)
  have up : ∀ b ∈ wr, b ∈ S :: wr := fun b hb => List.mem_cons_of_mem _ hb
  intro left
  induction left with
  | zero =>
    intro i s hl hi st has fin
    obtain rfl : i = n := by omega
    refine codeAny_builtin F.entry_set_update_loop ?_
    rw [Around.under_plainId F.plain_set_update_loop _]
    show wpAny _ A.in1 (pyNext (.ref I) >>= _) _ _ s
    refine wpAny_bind (Wk.done s _ _ st fun s' mv => ?_)
    rw [List.take_of_length_le (by omega)] at has
    exact wpAny_pure (fin s' (mv.mono up) (has.at fun o e => mv.heap S o nwr e))
  | succ left ih =>
    intro i s hl hi st has fin
    have lt : i < n := by omega
    refine codeAny_builtin F.entry_set_update_loop ?_
    rw [Around.under_plainId F.plain_set_update_loop _]
    show wpAny _ A.in1 (pyNext (.ref I) >>= _) _ _ s
    refine wpAny_bind (Wk.item i s _ _ lt st fun v s' pv st' mv => ?_)
    obtain ⟨z, t, hz, rfl⟩ := what i v pv
    have has' : SetS P w s'.heap S (once (ks.take i)) := has.at fun o e => mv.heap S o nwr e
    have lenT : (once (ks.take i)).length ≤ i := Nat.le_trans (once_len _) (by rw [List.length_take]; omega)
    show wpAny _ A.in1 (holding [Value.str z t] (setAdd S (.str z t)) >>= _) _ _ s'
    refine wpAny_bind (wpAny_holding ?_)
    unfold setAdd
    refine wpAny_holding (wpAny_bind ((strKind P w).pyHash (k := z) (PySem.Froz.is_str _ _) ?_))
    refine setS_put (s := { s' with toks := s'.toks + 1 }) has' (by omega) fun b h' sb has2 => ?_
    rw [← once_snoc, show ks.take i ++ [z] = ks.take (i + 1) from by rw [List.take_add_one, hz]; rfl] at has2
    refine wpAny_pure ⟨plainId_quiet F.plain_set_update_loop _, ih (i + 1) _ (by omega) lt (Wk.frame _ s' _ _ st' (Nat.le_succ _) fun b hb o e => ?_) has2 fun s'' mv2 has3 => ?_⟩
    · exact (sb.2 b fun h : b = S => out (h ▸ hb)).trans e
    · exact fin s'' (Moved.trans Wk.gtrans ((mv.mono up).then_heap (Nat.le_succ _) fun b o hb e => (sb.2 b fun h : b = S => hb (h ▸ List.mem_cons_self)).trans e) mv2) has3
set_option maxHeartbeats 6400000 in
/-- set(xs), xs a list of texts -/
theorem call_set_txts {L : Addr} {items : Array Value} (ks : List Str) {Q : Value → Shared → Prop} (calm : A.handled = none) (isL : s.heap.IsList L items) (ts : StrsAre items.toList ks) (room : ks.length + 1 < scanBound)
    (h : ∀ (h' : Heap) (tk : Nat), SetS P w h' s.heap.objs.size (once ks) → (∀ b o, s.heap.get? b = some o → h'.get? b = some o) → Q (.ref s.heap.objs.size) { s with heap := h', toks := tk }) :
    wpAny (model P w) A (call (.type "set") [.ref L]) Q E s := by
  have size : items.size = ks.length := by rw [← StrsAre.len_eq ts, Array.length_toList]
  obtain ⟨cc, tl, hmro⟩ := F.called_set.mro
  have made := F.called_set.made
  have subs := F.called_set.sub
  refine wpAny_call (codeAny_of_tree ?_)
  show wpAny _ _ (callAny (.type "set") _) _ _ _
  refine wpAny_pure ⟨Code.quiet_builtin _ (by decide +kernel), codeAny_builtin F.entry_type_call ?_⟩
  rw [Around.under_plain (weight_type_call_type "set" [.ref L] []) rfl]
  have nt := F.called_set.notType
  have cr := F.called_set.canCreate
  have tc := F.typeCall_set_1 (.ref L)
  repeat (any_goals (first | assumption | wp_step))
  refine codeAny_mono (code_set_led1 (.ref L) (E := E) (Q₁ := fun ob s1 => ob = .ref s.heap.objs.size ∧ s1 = { s with heap := s.heap.push (bareSet w) }) ⟨rfl, rfl⟩) fun r s1 got => ?_
  cases r with
  | error e => exact got
  | ok fl =>
    cases fl with
    | ret ob =>
      obtain ⟨rfl, rfl⟩ := got
      have at_S : (s.heap.push (bareSet w)).get? s.heap.objs.size = some (bareSet w) := Heap.get?_push_size _ rfl
      have ty_S : Shared.TypeIs { s with heap := s.heap.push (bareSet w) } (.ref s.heap.objs.size) "set" := ⟨_, at_S, rfl⟩
      have il := F.called_set.init.lookup
      have ib := F.called_set.init.bind (.ref s.heap.objs.size)
      repeat (any_goals (first | assumption | wp_step))
      refine codeAny_mono (codeAny_call_builtin (R := wants (fun r s2 => r = .none ∧ ∃ h' tk, s2 = { s with heap := h', toks := tk } ∧ SetS P w h' s.heap.objs.size (once ks) ∧ (∀ b o, s.heap.get? b = some o → h'.get? b = some o)) E) F.called_set.init.plain F.entry_set_init (check_set_init_1 ty_S ?_)) fun r2 s2 got2 => ?_
      · obtain ⟨oL, at_L, cL, nL, dL⟩ := isL
        obtain ⟨q1, q2, q3, q4⟩ := oL
        simp only at cL dL
        subst cL
        subst dL
        have at_L' : (s.heap.push (bareSet w)).get? L = some { cls := .type "list", dict := q2, data := .seq items nL, slots := q4 } := Heap.get?_push_of_some _ at_L
        have z1 := F.sub_list_set
        have z2 := F.sub_list_frozenset
        have z3 : (Value.type "list" == Value.type "dict") = false := by decide
        have isL' : (s.heap.push (bareSet w)).IsList L items := ⟨_, at_L', rfl, nL, rfl⟩
        unfold Builtin.«set.__init__» noKeywords Builtin.Frozenset.updateFrom
        generalize epi : pyIter = PI
        wp_walk
        subst epi
        refine wpAny_pyIter_list isL' (wpAny_bind (wpAny_runValue ?_))
        have lt := Heap.lt_size at_L
        have calm3 : A.in1.in1.in1.handled = none := by simp [calm]
        have sz1 : (s.heap.push (bareSet w)).objs.size = s.heap.objs.size + 1 := Heap.size_push ..
        have neI : L ≠ (s.heap.push (bareSet w)).objs.size := by
          rw [sz1]
          exact Nat.ne_of_lt (Nat.lt_succ_of_lt lt)
        have neS : s.heap.objs.size ∉ [(s.heap.push (bareSet w)).objs.size, L] := by
          rw [sz1]
          simp only [List.mem_cons, List.not_mem_nil, or_false, not_or]
          exact ⟨Nat.ne_of_lt (Nat.lt_succ_self _), Nat.ne_of_gt lt⟩
        have what : ∀ (i : Nat) (v : Value), items[i]? = some v → ∃ k t, ks[i]? = some k ∧ v = .str k t := fun i v hv => by
          have hi : i < ks.length := by rw [← size]; exact (Array.getElem?_eq_some_iff.mp hv).1
          obtain ⟨t, e⟩ := SS.strs_at ts i v (by rw [Array.getElem?_toList]; exact hv)
          refine ⟨ks[i], t, List.getElem?_eq_getElem hi, ?_⟩
          rw [e, List.getD_eq_getElem?_getD, List.getElem?_eq_getElem hi] <;> rfl
        refine put_all ((Walks.list calm3 _ L neI items).toS) neS ks size room what (items.size - 0) 0 _ (by omega) (Nat.zero_le _) ⟨⟨_, Heap.get?_push_size _ rfl, rfl, rfl⟩, (isL'.push _)⟩ ?first ?last
        case first => exact bare_at (Heap.get?_push_of_some _ at_S)
        case last =>
          intro s' mv has
          obtain ⟨h', g', d', t', o'⟩ := s'
          have eg : g' = s.gens := mv.gens
          have ed : d' = s.drawn := mv.drawn
          have eo : o' = s.os := mv.os
          subst eg
          subst ed
          subst eo
          show wpAny _ _ _ _ _ _
          refine wpAny_pure ?_
          show wpAny _ _ (ret Value.none) _ _ _
          refine wpAny_pure ⟨rfl, h', t', rfl, has, fun b o e => ?_⟩
          have lb := Heap.lt_size e
          refine mv.heap b o ?_ (Heap.get?_push_of_some _ (Heap.get?_push_of_some _ e))
          rw [sz1]
          simp only [List.mem_cons, List.not_mem_nil, or_false, not_or]
          exact ⟨Nat.ne_of_lt lb, Nat.ne_of_lt (Nat.lt_succ_of_lt lb)⟩
      · cases r2 with
        | error e => exact got2
        | ok fl2 =>
          cases fl2 with
          | ret r =>
            obtain ⟨rfl, h', tk, rfl, has, old⟩ := got2
            repeat (any_goals (first | assumption | wp_step))
            exact h _ _ has old
          | _ => exact got2.elim
    | _ => exact got.elim
end
section
variable {X : Cx}
/-- set(a list of texts) -/
def rSetOfS (K : PySem.W.Frag) (P : Program) (w : World) : List V → Hp → VK → Prop := fun vs H Q => ∃ (a : Addr) (ks : List Str), vs = [.ref a] ∧ SqL K H a (ks.map V.str) ∧ ks.length ≤ 1000 ∧ ∀ p, H p = none → Q (.ref p) (upd H p (SetSO P w p (once ks)))
theorem cr_setS (hc : X.calm = true) : CallR X (.type "set") (rSetOfS X.K X.prog X.w) := by
  intro pl s σ H vs us Q J r h
  obtain ⟨a, ks, rfl, hs, few, q⟩ := h
  obtain ⟨its, rv, isl, _⟩ := J.list hs
  rw [Vals.ref1 r]
  refine call_set_txts (P := X.prog) (w := X.w) ks (J.ok.hd hc) isl.isList (by simpa using strsAre_of rv) (by have : 1001 < scanBound := (by decide); omega) fun h' tk has old => ?_
  have free : H s.heap.objs.size = none := J.hok.fresh (Nat.le_refl _)
  exact ⟨.ref s.heap.objs.size, _, J.laid (t' := tk) old (Nat.le_refl _) (setS_ok has), rfl, q _ free⟩
end
end Lw

set_option Elab.async false
set_option linter.all false
set_option maxRecDepth 100000
set_option maxHeartbeats 4000000
namespace Lw
open PySem PySem.Spec PyProof.Rows L2
/-- whether a sign is a letter -/
def inL (c : Nat) : Bool := !(Builtin.Str.occurrences LET ⟨#[c]⟩ 0 LET.length 1).isEmpty
theorem inL_low {c : Nat} (h : Low c) : inL c = true := by
  have all : ∀ i : Fin 26, inL (97 + i) = true := by decide +kernel
  have h1 : 97 ≤ c ∧ c ≤ 122 := h
  have h2 := all ⟨c - 97, by omega⟩
  have e : 97 + (c - 97) = c := by omega
  have h3 : inL (97 + (c - 97)) = true := h2
  rw [e] at h3
  exact h3
theorem Same.put {H H1 : Hp} {D : Addr} {o : HO} (s : Same H H1) (n : H D = none) : Same H (upd H1 D o) := fun a u e => by
  rw [upd_ne (ne_of_none e n)]
  exact s a u e
theorem once_nd {ks : List Str} (nd : ks.Nodup) : (once ks).length = ks.length := by
  have go : ∀ (ks l : List Str), (∀ x ∈ ks, x ∉ l) → ks.Nodup → (ks.foldl ins l).length = l.length + ks.length := by
    intro ks
    induction ks with
    | nil => intro l _ _; rfl
    | cons k r ih =>
      intro l n nd
      obtain ⟨n1, n2⟩ := List.nodup_cons.mp nd
      have e : ins l k = k :: l := if_neg (n k List.mem_cons_self)
      show (r.foldl ins (ins l k)).length = _
      rw [e, ih (k :: l) (fun x hx h => ?_) n2, List.length_cons, List.length_cons]
      · omega
      · rcases List.mem_cons.mp h with q | q
        · exact n1 (q ▸ hx)
        · exact n x (List.mem_cons_of_mem _ hx) q
  have h := go ks [] (fun _ _ h => nomatch h) nd
  rw [List.length_nil, Nat.zero_add] at h
  exact h
def rLenSS (P : Program) (w : World) : List V → Hp → VK → Prop := fun vs H Q => ∃ (a : Addr) (l : List Str), vs = [.ref a] ∧ H a = some (SetSO P w a l) ∧ l.length ≤ 1000 ∧ Q (.int l.length) H
theorem cr_lenSS {X : Cx} : CallR X (.builtin "len") (rLenSS X.prog X.w) := by
  intro pl s σ H vs us Q J r h
  obtain ⟨a, l, rfl, ha, few, q⟩ := h
  rw [Vals.ref1 r]
  obtain ⟨⟨D, e, T, _⟩, _, _⟩ := setS_get J ha
  have sz : D.1.size = l.length := T.sz
  refine call_len_set e ⟨rfl, rfl, rfl⟩ rfl T.fit (by omega) ?_
  rw [sz]
  exact ⟨.int l.length, H, J.tok _, ⟨_, rfl⟩, q⟩
abbrev sIsName : Stmt := topS 4
abbrev sAreNames : Stmt := topS 5
section
variable {P : Program} {w : World} {K : PySem.W.Frag} {mg : Str → Option Value} {base : Heap}
def spName1 : Sp := fun vs H Q _ => ∃ z : Str, vs = [.str z] ∧ NameOk z ∧ ∀ H', Same H H' → Q (.bl true) H'
theorem scIsName : FnScope ["thing", "letter"] ["thing"] (defScope sIsName) := ⟨rfl, rfl, rfl, by decide +kernel, rfl, by decide +kernel, by decide +kernel⟩
theorem ok_isname {f : Addr} {fd : FuncData} {t1 t2 : Tok} (F : Fun K "is_name" "is_name" sIsName f fd) (mi : mg "isinstance" = none) (ms : mg "str" = none) (ml : mg "len" = none) (mall : mg "all" = none) (mL : mg "LETTERS" = some (.str LET t1)) (mM : mg "LONGEST" = some (.int 8 t2)) :
    FnOk P w K mg base CX0 1 f fd ["thing"] spName1 := by
  refine F.ok scIsName (fun vs H Q E h => ?_) (fun cdv A outer s H vs Q E hr h => ?_)
  · obtain ⟨z, rfl, _⟩ := h
    rfl
  obtain ⟨z, rfl, o, q⟩ := h
  refine ⟨_, pss_cons (ps_if (PW.pt (pw_or (pt_not (pt_val (pe_callB call_isi (by rfl) mi (by decide +kernel) (pa_cons (pv 0) (pa_cons (pe_bltn (v := .ty "str") (by rfl) ms (by decide +kernel) rfl) pa_nil)))))
      (pw_or1 (pt_not ((pt_chain op_le op_le pe_int (pe_callB call_len (by rfl) ml (by decide +kernel) (pa_cons (pv 0) pa_nil)) (pe_glob (v := .int 8) (by rfl) mM ⟨t2, rfl⟩)))))))
      (pss_one (ps_ret pe_bl)) pss_nil)
    (pss_one (ps_ret (pe_callB (cr_all rfl) (by rfl) mall (by decide +kernel) (pa_cons (pe_lc (own := [("letter", 1)]) (g := gName 1) (tt := tYes) rfl scIsName.nd (pi_str (pv 0)) (blkOk_by (N := ["thing", "letter"]) (sc := defScope sIsName) (by decide +kernel))
      (fun _ _ _ _ _ => pg_name (i := 1) scIsName.nd rfl (Or.inl rfl)) (fun _ _ _ _ _ => pts_nil) (fun _ _ _ _ _ => pe_cmpR op_in_str (pv 1) (pe_glob (v := .str LET) (by rfl) mL ⟨t1, rfl⟩) (by rfl))) pa_nil)))), ?_⟩
  refine ⟨.str z, rfl, .str z, .ty "str", _, _, true, rfl, .ty _, .base (.str z), rfl, _, rfl, ?_⟩
  have p1 := o.pos
  have p8 := o.most
  have sz : z.length ≤ sizeLine := by rw [sizeLine_eq]; omega
  refine ff_if rfl ⟨.str z, rfl, .str z, z.length, rfl, ⟨sz, rfl⟩, 1, (z.length : Int), rfl, rfl, _, rfl, ?_⟩
  refine tt_if (decide_eq_true (by omega)) ⟨z.length, 8, rfl, rfl, _, rfl, ?_⟩
  rw [decide_eq_true (by omega : (z.length : Int) ≤ 8)]
  refine ff_if rfl ?_
  refine ⟨.str z, rfl, z, rfl, fun D nD => ?_⟩
  refine lc_strI (fun i H1 => Same H H1 ∧ H1 D = some (.lst ((z.cps.toList.take i).map fun c => V.bl (inL c)))) ⟨same_new nD _, upd_same⟩ ?_ ?_
  · rintro i c H1 hx ⟨s1, h1'⟩
    refine ⟨rfl, yes_if ⟨.str ⟨#[c]⟩, rfl, ⟨#[c]⟩, LET, rfl, rfl, _, h1', ?_, Same.put s1 nD, ?_⟩⟩
    · rw [List.length_map, List.length_take, Array.length_toList]
      have : z.cps.size = z.length := rfl
      rw [sizeLine_eq]; omega
    · rw [upd_same, List.take_add_one, hx]
      simp [inL]
  · rintro H1 ⟨s1, h1'⟩
    rw [List.take_length] at h1'
    refine ⟨D, z.cps.toList.map inL, rfl, SqL.of (by rw [List.map_map]; exact h1'), ?_⟩
    have e : (z.cps.toList.map inL).all id = true := by
      rw [List.all_eq_true]
      intro b hb
      obtain ⟨c, hc, rfl⟩ := List.mem_map.mp hb
      exact inL_low (o.low c hc)
    rw [e]
    exact q H1 s1
abbrev NAre : List Str := ["thing", "part"]
theorem scAre : FnScope NAre ["thing"] (defScope sAreNames) := ⟨rfl, rfl, rfl, by decide +kernel, rfl, by decide +kernel, by decide +kernel⟩
def spAre1 : Sp := fun vs H Q _ => ∃ (l : Addr) (ws : List Str), vs = [.ref l] ∧ H l = some (.lst (ws.map V.str)) ∧ (∀ z ∈ ws, NameOk z) ∧ ws.Nodup ∧ ws.length ≤ 100 ∧ ∀ H', Same H H' → Q (.bl true) H'
theorem ok_are {f f1 : Addr} {fd fd1 : FuncData} (F : Fun K "are_names" "are_names" sAreNames f fd) (G1 : FnOk P w K mg base CX0 1 f1 fd1 ["thing"] spName1) (m1 : mg "is_name" = some (.ref f1)) (k1 : PySem.W.keepIn K (.ref f1) = true) (b1 : Binds K fd1 ["thing"] [])
    (mi : mg "isinstance" = none) (ml : mg "list" = none) (mn : mg "len" = none) (mall : mg "all" = none) (ms : mg "set" = none) : FnOk P w K mg base CX0 2 f fd ["thing"] spAre1 := by
  refine F.ok scAre (fun vs H Q E h => ?_) (fun cdv A outer s H vs Q E hr h => ?_)
  · obtain ⟨l, ws, rfl, _⟩ := h
    rfl
  obtain ⟨l, ws, rfl, e, ok, nd, few, q⟩ := h
  refine ⟨_, pss_cons (ps_if (PW.pt (pw_or (pt_not (pt_val (pe_callB call_isi (by rfl) mi (by decide +kernel) (pa_cons (pv 0) (pa_cons (pe_bltn (v := .ty "list") (by rfl) ml (by decide +kernel) rfl) pa_nil)))))
      (pw_or1 (pt_not (pt_val (pe_callB (cr_all rfl) (by rfl) mall (by decide +kernel) (pa_cons (pe_lc (own := [("part", 1)]) (g := gName 1) (tt := tYes) rfl scAre.nd (pi_list (pv 0)) (blkOk_by (N := NAre) (sc := defScope sAreNames) (by decide +kernel))
        (fun _ _ _ _ _ => pg_name (i := 1) scAre.nd rfl (Or.inl rfl)) (fun _ _ _ _ _ => pts_nil) (fun _ _ _ _ _ => pe_call G1 hr (by rfl) m1 k1 b1 .nil pass0 (pa_cons (pv 1) pa_nil))) pa_nil)))))))
      (pss_one (ps_ret pe_bl)) pss_nil)
    (pss_one (ps_ret (pe_cmpR op_eq (pe_callB cr_lenSS (by rfl) mn (by decide +kernel) (pa_cons (pe_callTy (cr_setS rfl) (by rfl) ms (by decide +kernel) (pa_cons (pv 0) pa_nil)) pa_nil)) (pe_callB call_len_seq (by rfl) mn (by decide +kernel) (pa_cons (pv 0) pa_nil)) (nomark _)))), ?_⟩
  refine ⟨_, rfl, _, .ty "list", _, _, true, rfl, .ty _, .base (.lst e), rfl, _, rfl, ff_if rfl ⟨_, rfl, l, rfl, ⟨_, .inl (.inl e)⟩, fun D nD => ?_⟩⟩
  refine lc_list (K := K) (a := l) (xs := ws.map V.str) (fun i H1 => Same H H1 ∧ H1 D = some (.lst (List.replicate i (V.bl true)))) ⟨same_new nD _, upd_same⟩ (fun i H1 _ p => .inl (.inl (p.1 _ _ e))) ?_ ?_
  · rintro i x H1 hx ⟨s1, hD⟩
    obtain ⟨z, hz, rfl⟩ := map_get hx
    have il : i < ws.length := (List.getElem?_eq_some_iff.mp hz).1
    refine ⟨rfl, yes_if ⟨_, rfl, z, rfl, ok z (List.mem_of_getElem? hz), fun H2 s2 => ⟨_, s2 _ _ hD, small1000 (by rw [List.length_replicate]; omega), Same.put (s1.trans s2) nD, ?_⟩⟩⟩
    rw [upd_same, List.replicate_succ']
  · rintro H1 ⟨s1, hD⟩
    refine ⟨D, List.replicate (ws.map V.str).length true, rfl, .inl (.inl (by rw [List.map_replicate]; exact hD)), true, ?_, ff_if rfl ?_⟩
    · have h : (List.replicate (ws.map V.str).length true).all id = true := by
        rw [List.all_eq_true]
        intro b hb
        exact (List.mem_replicate.mp hb).2
      rw [h]
    refine ⟨_, rfl, l, ws, rfl, .inl (.inl (s1 _ _ e)), by omega, fun p np => ⟨p, once ws, rfl, upd_same, Nat.le_trans (once_len ws) (by omega), _, rfl, l, ws.map V.str, rfl, .inl (.inl (.inl ((s1.trans (same_new np _)) _ _ e))), rfl, ?_⟩⟩
    rw [once_nd nd, List.length_map]
    have h : decide (V.int (ws.length : Nat) = V.int (ws.length : Nat)) = true := decide_eq_true rfl
    rw [h]
    exact q _ (s1.trans (same_new np _))
end
end Lw

set_option Elab.async false
set_option linter.all false
set_option maxRecDepth 100000
set_option maxHeartbeats 4000000
namespace Lw
open PySem PySem.Spec PyProof.Rows L2
/-! ### how often a text stands in a list -/
def eqs (k : Str) (v : Value) : Bool := match v with
  | .str z _ => z == k
  | _ => false
theorem eqs_at {A : Around} {s : Shared} {k : Str} {t : Tok} : ∀ {us : List Value} {ws : List Str}, StrsAre us ws → ∀ y ∈ us, SeqAt.EqAt A s y (.str k t) (eqs k y)
  | _, _, .nil => fun y hy => by cases hy
  | _, _, .cons n t' h => fun y hy => by
    rcases List.mem_cons.mp hy with e | e
    · rw [e]
      exact SeqAt.EqAt.str_str n t' k t
    · exact eqs_at h y e
theorem eqs_count {k : Str} : ∀ {us : List Value} {ws : List Str}, StrsAre us ws → us.countP (eqs k) = ws.count k
  | _, _, .nil => rfl
  | _, _, .cons n t h => by
    have ih := eqs_count (k := k) h
    rw [List.countP_cons, List.count_cons, ih] <;> rfl
def rCntS (K : PySem.W.Frag) : V → List V → Hp → VK → Prop := fun x xs H Q => ∃ (p : Addr) (ws : List Str) (k : Str), x = .ref p ∧ xs = [.str k] ∧ SqL K H p (ws.map V.str) ∧ Q (.int (ws.count k : Nat)) H
theorem mt_lcountS {X : Cx} : MtR X "list.count" (rCntS X.K) := by
  intro pins s σ H x xs v us Q I rx rxs h
  obtain ⟨p, ns, k, rfl, rfl, hs, q⟩ := h
  cases rx
  obtain ⟨u, rfl, ru⟩ := rxs.one
  obtain ⟨t, rfl⟩ := ru
  obtain ⟨its, rv, ⟨⟨cls, dd, data, sl⟩, n, ho, hc, hdn, hd⟩, hlen⟩ := I.list hs
  simp only at hc hd
  subst hc hd
  have hi := strsAre_of rv
  refine call_meets PySem.F.slot_list_count ⟨_, ho, rfl⟩ PySem.F.entry_list_count (PySem.F.args_list_count_2 _ _)
    (SeqAt.list_countAt p its.toArray n dd sl (.str k t) (eqs k)) ⟨ho, fun y hy => eqs_at hi y (by simpa using hy), ?_⟩
  have ec : its.toArray.toList.countP (eqs k) = ns.count k := eqs_count hi
  refine ⟨.int (ns.count k : Nat), H, I.tok _, ⟨s.toks, ?_⟩, q⟩
  show Value.int ((its.toArray.toList.countP (eqs k) : Nat) : Int) s.toks = Value.int ((ns.count k : Nat) : Int) s.toks
  rw [ec]
end Lw

set_option Elab.async false
set_option linter.all false
set_option maxRecDepth 100000
set_option maxHeartbeats 4000000
namespace Lw
open PySem PySem.Spec PyProof.Rows L2
abbrev sIsField : Stmt := topS 12
abbrev sFieldsOf : Stmt := topS 11
section
variable {P : Program} {w : World} {K : PySem.W.Frag} {mg : Str → Option Value} {base : Heap}
theorem scIsField : FnScope ["thing"] ["thing"] (defScope sIsField) := ⟨rfl, rfl, rfl, by decide +kernel, rfl, by decide +kernel, by decide +kernel⟩
def spIsField1 : Sp := fun vs H Q _ => ∃ (v : V) (fl : Fld) (ns : List Str) (A : Addr → Prop), vs = [v] ∧ DT H A v fl.tree ∧ FldOk ns fl ∧ (∀ n ∈ ns, NameOk n) ∧ ∀ H', Same H H' → Q (.bl true) H'
theorem ok_isfield {f f1 f2 : Addr} {fd fd1 fd2 : FuncData} {t1 : Tok} (F : Fun K "_is_field" "_is_field" sIsField f fd) (G1 : FnOk P w K mg base CX0 1 f1 fd1 ["thing"] spName1) (m1 : mg "is_name" = some (.ref f1)) (k1 : PySem.W.keepIn K (.ref f1) = true) (b1 : Binds K fd1 ["thing"] [])
    (G2 : FnOk P w K mg base CX0 2 f2 fd2 ["thing"] spAre1) (m2 : mg "are_names" = some (.ref f2)) (k2 : PySem.W.keepIn K (.ref f2) = true) (b2 : Binds K fd2 ["thing"] [])
    (mi : mg "isinstance" = none) (mt : mg "tuple" = none) (mlen : mg "len" = none) (mW : mg "MOST_WORDS" = some (.int 4 t1)) : FnOk P w K mg base CX0 3 f fd ["thing"] spIsField1 := by
  refine F.ok scIsField (fun vs H Q E h => ?_) (fun cdv A outer s H vs Q E hr h => ?_)
  · obtain ⟨v, fl, ns, A, rfl, _⟩ := h
    rfl
  obtain ⟨v, fl, ns, A, rfl, d, o, okn, q⟩ := h
  refine ⟨_, (pss_cons (ps_if (pt_not (pt_val (pe_callB call_isi (by rfl) mi (by decide +kernel) (pa_cons (pv 0) (pa_cons (pe_bltn (v := .ty "tuple") (by rfl) mt (by decide +kernel) rfl) pa_nil))))) (pss_one (ps_ret pe_bl)) pss_nil) (pss_cons (ps_if (pt_cmpR op_eq (pe_callB call_len_seq (by rfl) mlen (by decide +kernel) (pa_cons (pv 0) pa_nil)) pe_int (nomark _)) (pss_one (ps_ret (pe_cmpR op_eq (pe_ix ix_tup (pv 0) pe_int (fun _ _ => rfl)) pe_str (nomark _)))) pss_nil) (pss_cons (ps_if (pt_cmpR op_ne (pe_callB call_len_seq (by rfl) mlen (by decide +kernel) (pa_cons (pv 0) pa_nil)) pe_int (nomark _)) (pss_one (ps_ret pe_bl)) pss_nil) (pss_cons (ps_if (pt_cmpR op_eq (pe_ix ix_tup (pv 0) pe_int (fun _ _ => rfl)) pe_str (nomark _)) (pss_one (ps_ret (pe_and (pe_call G2 (hr.mono (by decide)) (by rfl) m2 k2 b2 .nil pass0 (pa_cons (pe_ix ix_tup (pv 0) pe_int (fun _ _ => rfl)) pa_nil)) (pe_one (pe_chain op_le op_le pe_int (pe_callB call_len_seq (by rfl) mlen (by decide +kernel) (pa_cons (pe_ix ix_tup (pv 0) pe_int (fun _ _ => rfl)) pa_nil)) (pe_glob (v := .int 4) (by rfl) mW ⟨t1, rfl⟩)))))) pss_nil) (pss_one (ps_ret (pe_and (pe_cmpR op_eq (pe_ix ix_tup (pv 0) pe_int (fun _ _ => rfl)) pe_str (nomark _)) (pe_one (pe_call G1 (hr.mono (by decide)) (by rfl) m1 k1 b1 .nil pass0 (pa_cons (pe_ix ix_tup (pv 0) pe_int (fun _ _ => rfl)) pa_nil)))))))))), ?_⟩
  cases o with
  | @mk ws c dn few nd =>
    obtain ⟨a, xs, rfl, ha, _, y⟩ := d.tupI
    cases y with
    | cons p r =>
      cases p
      cases r with
      | cons p r =>
        cases r
        obtain ⟨l, ys, rfl, hl, _, z⟩ := p.lstI
        rw [DTs.strs z] at hl
        have at0 : SqT K H a [.str "mark", .ref l] := .inl (.inl ha)
        refine ⟨_, rfl, _, .ty "tuple", _, _, true, rfl, .ty _, .base (.tup ha), rfl, _, rfl, ff_if rfl ?_⟩
        refine ⟨_, rfl, a, _, rfl, .inr at0, rfl, _, rfl, ff_if (by show decide (V.int ((2 : Nat) : Int) = V.int 1) = false; decide +kernel) ?_⟩
        refine ⟨_, rfl, a, _, rfl, .inr at0, rfl, _, rfl, ff_if (by show (!decide (V.int ((2 : Nat) : Int) = V.int 2)) = false; decide +kernel) ?_⟩
        refine ⟨_, rfl, a, _, 0, .str "mark", rfl, rfl, at0, atI_nat (j := 0) rfl, rfl, _, rfl, tt_if (by decide +kernel) ?_⟩
        refine ⟨_, rfl, a, _, 1, .ref l, rfl, rfl, at0, atI_nat (j := 1) rfl, l, ws, rfl, hl, dn, nd, by omega, fun H1 s1 => ⟨true, rfl, tt_if rfl ?_⟩⟩
        have l1 : 1 ≤ ws.length := List.length_pos_iff.mpr c
        refine ⟨_, rfl, a, _, 1, .ref l, rfl, rfl, .inl (.inl (s1 _ _ ha)), atI_nat (j := 1) rfl, l, ws.map V.str, rfl, .inl (.inl (.inl (s1 _ _ hl))), 1, _, rfl, rfl, true, ?_, tt_if rfl ⟨_, 4, rfl, rfl, ?_⟩⟩
        · show V.bl (decide ((1 : Int) ≤ (((ws.map V.str).length : Nat) : Int))) = V.bl true
          rw [List.length_map, decide_eq_true (by omega)]
        · show Q (.bl (decide ((((ws.map V.str).length : Nat) : Int) ≤ 4))) H1
          rw [List.length_map, decide_eq_true (by omega)]
          exact q H1 s1
  | @lk n m =>
    obtain ⟨a, xs, rfl, ha, _, y⟩ := d.tupI
    cases y with
    | cons p r =>
      cases p
      cases r with
      | cons p r =>
        cases r
        cases p
        have at0 : SqT K H a [.str "link", .str n] := .inl (.inl ha)
        refine ⟨_, rfl, _, .ty "tuple", _, _, true, rfl, .ty _, .base (.tup ha), rfl, _, rfl, ff_if rfl ?_⟩
        refine ⟨_, rfl, a, _, rfl, .inr at0, rfl, _, rfl, ff_if (by show decide (V.int ((2 : Nat) : Int) = V.int 1) = false; decide +kernel) ?_⟩
        refine ⟨_, rfl, a, _, rfl, .inr at0, rfl, _, rfl, ff_if (by show (!decide (V.int ((2 : Nat) : Int) = V.int 2)) = false; decide +kernel) ?_⟩
        refine ⟨_, rfl, a, _, 0, .str "link", rfl, rfl, at0, atI_nat (j := 0) rfl, rfl, _, rfl, ff_if (by decide +kernel) ?_⟩
        refine ⟨_, rfl, a, _, 0, .str "link", rfl, rfl, at0, atI_nat (j := 0) rfl, rfl, true, by decide +kernel, tt_if rfl ?_⟩
        exact ⟨_, rfl, a, _, 1, .str n, rfl, rfl, at0, atI_nat (j := 1) rfl, n, rfl, okn n m, fun H1 s1 => q H1 s1⟩
  | tg =>
    obtain ⟨a, xs, rfl, ha, _, y⟩ := d.tupI
    cases y with
    | cons p r =>
      cases p
      cases r
      have at0 : SqT K H a [.str "tag"] := .inl (.inl ha)
      refine ⟨_, rfl, _, .ty "tuple", _, _, true, rfl, .ty _, .base (.tup ha), rfl, _, rfl, ff_if rfl ?_⟩
      refine ⟨_, rfl, a, _, rfl, .inr at0, rfl, _, rfl, tt_if (by decide +kernel) ?_⟩
      refine ⟨_, rfl, a, _, 0, .str "tag", rfl, rfl, at0, atI_nat (j := 0) rfl, rfl, ?_⟩
      have e : decide (V.str "tag" = V.str "tag") = true := decide_eq_true rfl
      rw [e]
      exact q H fun _ _ h => h
end
end Lw

set_option Elab.async false
set_option linter.all false
set_option maxRecDepth 100000
set_option maxHeartbeats 4000000
namespace Lw
open PySem PySem.Spec PyProof.Rows L2
/-- a dict that was locked stands as it was -/
theorem unlock_same {H Hx : Hp} {d : Addr} {u : HO} {od : Obj} (e : H d = some u) (s : Same (upd H d (.frz od u)) Hx) : Same H (upd Hx d u) := fun c o eo => by
  by_cases q : c = d
  · subst q
    rw [upd_same, ← eo, e]
  · rw [upd_ne q]
    exact s c o (by rw [upd_ne q]; exact eo)
/-- a dict's keys and values by their places -/
theorem DT.turn {H : Hp} {A : Addr → Prop} {kvs : List (Key × V)} {ks : List Str} {ts : List Tr} {i : Nat} {kk : Key} {vv : V} (k : kvs.map (·.1) = ks.map Sum.inr) (nd : ks.Nodup) (d : DTs H A (kvs.map (·.2)) ts) (h : kvs[i]? = some (kk, vv)) :
    ∃ z t, ks[i]? = some z ∧ ts[i]? = some t ∧ kk = Sum.inr z ∧ valV kvs (.inr z) = some vv ∧ DT H A vv t := by
  obtain ⟨z, hz, rfl⟩ : ∃ z, ks[i]? = some z ∧ kk = Sum.inr z := by
    have h1 : (kvs.map (·.1))[i]? = some kk := by rw [List.getElem?_map, h]; rfl
    rw [k, List.getElem?_map] at h1
    obtain ⟨z, h1, h2⟩ := Option.map_eq_some_iff.mp h1
    exact ⟨z, h1, h2.symm⟩
  obtain ⟨t, ht, dt⟩ := d.get (i := i) (v := vv) (by rw [List.getElem?_map, h]; rfl)
  exact ⟨z, t, hz, ht, rfl, valV_at (by rw [k]; exact inr_nodup nd) h, dt⟩
theorem cnt_sort {k : Nat} {s : Str} (h : ∀ fl : Fld, fl.sort = s ↔ fl.num = k) : ∀ fs : Flds, (fs.map (·.2.sort)).count s = cntF fs k
  | [] => rfl
  | (z, fl) :: r => by
    have ih := cnt_sort h r
    unfold cntF at ih ⊢
    rw [List.map_cons, List.count_cons, ih]
    by_cases q : fl.num = k
    · rw [List.filter_cons_of_pos (by exact decide_eq_true q), List.length_cons]
      have e : fl.sort = s := (h fl).mpr q
      rw [show ((z, fl).2.sort == s) = true from by rw [beq_iff_eq]; exact e]
      rfl
    · rw [List.filter_cons_of_neg (by rw [decide_eq_true_eq]; exact q)]
      have e : ¬ fl.sort = s := fun n => q ((h fl).mp n)
      rw [show ((z, fl).2.sort == s) = false from by rw [beq_eq_false_iff_ne]; exact e]
      rfl
abbrev sortL : List Str := ["mark", "link", "tag"]
theorem sort_num {i : Nat} {s : Str} (h : sortL[i]? = some s) : i < 3 ∧ ∀ fl : Fld, fl.sort = s ↔ fl.num = i := by
  match i, h with
  | 0, h => cases h; exact ⟨by decide, fun fl => by cases fl <;> simp only [Fld.sort, Fld.num] <;> decide +kernel⟩
  | 1, h => cases h; exact ⟨by decide, fun fl => by cases fl <;> simp only [Fld.sort, Fld.num] <;> decide +kernel⟩
  | 2, h => cases h; exact ⟨by decide, fun fl => by cases fl <;> simp only [Fld.sort, Fld.num] <;> decide +kernel⟩
def SortsAt (K : PySem.W.Frag) (mg : Str → Option Value) (p : Addr) : Prop := mg "SORTS" = some (.ref p) ∧ ∃ (ta tb tc : Tok) (n : Nat) (sl : Array (Option Value)), K.lookup p = some ⟨.type "tuple", none, .seq #[.str "mark" ta, .str "link" tb, .str "tag" tc] n, sl⟩
theorem SortsAt.sq {K : PySem.W.Frag} {mg : Str → Option Value} {p : Addr} (x : SortsAt K mg p) (H : Hp) : SqT K H p (sortL.map V.str) := by
  obtain ⟨_, ta, tb, tc, n, sl, e⟩ := x
  exact .inr ⟨_, _, n, e, rfl, rfl, by show 3 ≤ sizeLine; decide, .cons ⟨ta, rfl⟩ (.cons ⟨tb, rfl⟩ (.cons ⟨tc, rfl⟩ .nil))⟩
theorem all_true (n : Nat) : (List.replicate n true).all id = true := by
  rw [List.all_eq_true]
  intro b hb
  exact (List.mem_replicate.mp hb).2
abbrev NFieldsOf : List Str := ["thing", "sorts", "name", "sort"]
section
variable {P : Program} {w : World} {K : PySem.W.Frag} {mg : Str → Option Value} {base : Heap}
theorem scFieldsOf : FnScope NFieldsOf ["thing"] (defScope sFieldsOf) := ⟨rfl, rfl, rfl, by decide +kernel, rfl, by decide +kernel, by decide +kernel⟩
def spFieldsOf1 : Sp := fun vs H Q _ => ∃ (v : V) (fs : Flds) (ns : List Str) (A : Addr → Prop), vs = [v] ∧ DT H A v (fieldsT fs) ∧ FldsOk ns fs ∧ (∀ n ∈ ns, NameOk n) ∧ ∀ H', Same H H' → Q (.bl true) H'
theorem ok_fieldsof {f f1 f3 pS : Addr} {fd fd1 fd3 : FuncData} {t1 : Tok} (F : Fun K "fields_of" "fields_of" sFieldsOf f fd) (G1 : FnOk P w K mg base CX0 1 f1 fd1 ["thing"] spName1) (m1 : mg "is_name" = some (.ref f1)) (k1 : PySem.W.keepIn K (.ref f1) = true) (b1 : Binds K fd1 ["thing"] [])
    (G3 : FnOk P w K mg base CX0 3 f3 fd3 ["thing"] spIsField1) (m3 : mg "_is_field" = some (.ref f3)) (k3 : PySem.W.keepIn K (.ref f3) = true) (b3 : Binds K fd3 ["thing"] [])
    (mi : mg "isinstance" = none) (md : mg "dict" = none) (mall : mg "all" = none) (mO : mg "MOST_OF_A_SORT" = some (.int 2 t1)) (MS : SortsAt K mg pS) : FnOk P w K mg base CX0 4 f fd ["thing"] spFieldsOf1 := by
  refine F.ok scFieldsOf (fun vs H Q E h => ?_) (fun cdv A outer s H vs Q E hr h => ?_)
  · obtain ⟨v, fs, ns, A, rfl, _⟩ := h
    rfl
  obtain ⟨v, fs, ns, A, rfl, x, o, okn, q⟩ := h
  refine ⟨_, (pss_cons (ps_if (pt_not (pt_val (pe_callB call_isi (by rfl) mi (by decide +kernel) (pa_cons (pv 0) (pa_cons (pe_bltn (v := .ty "dict") (by rfl) md (by decide +kernel) rfl) pa_nil))))) (pss_one (ps_ret pe_bl)) pss_nil) (pss_cons (ps_if (pt_not (pt_val (pe_callB (cr_all rfl) (by rfl) mall (by decide +kernel) (pa_cons (pe_lock (pe_lc (own := [("name", 2)]) (g := gName 2) (tt := tYes) rfl scFieldsOf.nd (pi_keys (pv 0)) (blkOk_by (N := NFieldsOf) (sc := defScope sFieldsOf) (by decide +kernel)) (fun _ _ _ _ _ => pg_name (i := 2) scFieldsOf.nd rfl (Or.inl rfl)) (fun _ _ _ _ _ => pts_nil) (fun _ _ _ _ _ => (pe_and (pe_call G1 (hr.mono (by decide)) (by rfl) m1 k1 b1 .nil pass0 (pa_cons (pv 2) pa_nil)) (pe_one (pe_call G3 (hr.mono (by decide)) (by rfl) m3 k3 b3 .nil pass0 (pa_cons (pe_dget (hu_of hr) (pv 0) (pv 2) (fun _ _ => rfl)) pa_nil))))))) pa_nil)))) (pss_one (ps_ret pe_bl)) pss_nil) (pss_cons (ps_lock (ps_set (i := 1) scFieldsOf.nd rfl (.inr rfl) (pe_lc (own := [("name", 2)]) (g := gName 2) (tt := tYes) rfl scFieldsOf.nd (pi_keys (pv 0)) (blkOk_by (N := NFieldsOf) (sc := defScope sFieldsOf) (by decide +kernel)) (fun _ _ _ _ _ => pg_name (i := 2) scFieldsOf.nd rfl (Or.inl rfl)) (fun _ _ _ _ _ => pts_nil) (fun _ _ _ _ _ => (pe_ix (r := rIxT K) ix_tup (pe_dget (hu_of hr) (pv 0) (pv 2) (fun _ _ => rfl)) pe_int (fun _ _ => rfl)))))) (pss_one (ps_ret (pe_callB (cr_all rfl) (by rfl) mall (by decide +kernel) (pa_cons (pe_lc (own := [("sort", 3)]) (g := gName 3) (tt := tYes) rfl scFieldsOf.nd (pi_tup (pe_glob (v := .ref pS) (by rfl) MS.1 rfl)) (blkOk_by (N := NFieldsOf) (sc := defScope sFieldsOf) (by decide +kernel)) (fun _ _ _ _ _ => pg_name (i := 3) scFieldsOf.nd rfl (Or.inl rfl)) (fun _ _ _ _ _ => pts_nil) (fun _ _ _ _ _ => (pe_cmpR (r := rI0 fun i j => V.bl (decide (i ≤ j))) op_le (show PE _ _ (tBM K "list" (rCntS K) (tVar 1) (tCons (tVar 3) tNil)) from pe_bm PySem.F.plainAttrs_list PySem.F.slot_list_count PySem.F.type_list_count mt_lcountS (pv 1) (pa_cons (pv 3) pa_nil)) (pe_glob (v := .int 2) (by rfl) mO ⟨t1, rfl⟩) (nomark _)))) pa_nil))))))), ?_⟩
  obtain ⟨f, kvs, rfl, e, nA, k, nd, few, d⟩ := x.dctI
  have lk : kvs.length = fs.length := by
    have h := congrArg List.length k
    rw [List.length_map, List.length_map, List.length_map] at h
    exact h
  have l6 := o.few
  have dA : DTs H (fun c => A c ∧ c ≠ f) (kvs.map (·.2)) (fs.map (·.2.tree)) := DTs.avoid x d (Nat.lt_succ_self _)
  -- a value of the dict, at a turn
  have val : ∀ {Hx : Hp} {od : Obj} {i : Nat} {kk : Key} {vv : V}, Same (upd H f (.frz od (.dK kvs))) Hx → kvs[i]? = some (kk, vv) → ∃ z fl, kk = Sum.inr z ∧ (z, fl) ∈ fs ∧ fs[i]? = some (z, fl) ∧ DGet Hx f (.str z) (some vv) ∧ DT Hx (fun c => A c ∧ c ≠ f) vv fl.tree := by
    intro Hx od i kk vv s h
    obtain ⟨z, t, h1, h2, h3, h4, h5⟩ := DT.turn k nd dA h
    rw [List.getElem?_map] at h1 h2
    obtain ⟨pr, g1, g2⟩ := Option.map_eq_some_iff.mp h1
    rw [g1] at h2
    obtain ⟨pz, pf⟩ := pr
    cases g2
    cases h2
    refine ⟨pz, pf, h3, List.mem_of_getElem? g1, g1, .inl ⟨kvs, .inr pz, .inr ⟨od, s _ _ upd_same⟩, rfl, h4.symm⟩, h5.mono fun c u hc eu => s _ _ (by rw [upd_ne hc.2]; exact eu)⟩
  refine ⟨_, rfl, _, .ty "dict", _, _, true, rfl, .ty _, .base (.dK e), rfl, _, rfl, ff_if rfl ?_⟩
  refine ⟨f, _, e, trivial, fun od => ⟨_, rfl, f, od, rfl, .inl ⟨kvs, upd_same, fun D nD => ?_⟩⟩⟩
  refine lc_it walk_keys (fun i Hx => Same (upd H f (.frz od (.dK kvs))) Hx ∧ Hx D = some (.lst (List.replicate i (V.bl true)))) ⟨same_new nD _, upd_same⟩ (fun i Hx _ p => p.1 _ _ upd_same) ?_ ?_
  · rintro i y Hx H' hi ⟨s1, hD⟩ ⟨rfl, kk, vv, hkv, rfl⟩
    obtain ⟨z, fl, rfl, mz, _, dg, dv⟩ := val s1 hkv
    refine ⟨rfl, yes_if ⟨.str z, rfl, z, rfl, o.ok _ mz, fun H2 s2 => ⟨true, rfl, tt_if rfl ?_⟩⟩⟩
    refine ⟨_, rfl, .str z, rfl, f, vv, rfl, ?_, vv, fl, ns, _, rfl, dv.same s2, o.val _ mz, okn, fun H3 s3 => ?_⟩
    · rcases dg with ⟨kv2, kx, h1, h2, h3⟩ | ⟨kv2, kx, b, h1, h2, _, h3⟩
      · refine .inl ⟨kv2, kx, ?_, h2, h3⟩
        rcases h1 with h1 | ⟨o1, h1⟩
        · exact .inl (s2 _ _ h1)
        · exact .inr ⟨o1, s2 _ _ h1⟩
      · cases h2
    refine ⟨_, s3 _ _ (s2 _ _ hD), small1000 (by rw [List.length_replicate]; omega), Same.put ((s1.trans s2).trans s3) nD, ?_⟩
    rw [upd_same, List.replicate_succ']
  rintro Hx ⟨s1, hD⟩
  have sH : Same H (upd Hx f (.dK kvs)) := unlock_same e s1
  have nDf : D ≠ f := fun n => by rw [n, s1 _ _ upd_same] at hD; cases hD
  refine ⟨s1 _ _ upd_same, D, List.replicate kvs.length true, rfl, .inl (.inl (by rw [upd_ne nDf, List.map_replicate]; exact hD)), true, by rw [all_true], ff_if rfl ?_⟩
  generalize (upd Hx f (.dK kvs)) = H2 at sH ⊢
  have e2 := sH _ _ e
  have dA2 := dA.same sH
  have val2 : ∀ {Hx : Hp} {od : Obj} {i : Nat} {kk : Key} {vv : V}, Same (upd H2 f (.frz od (.dK kvs))) Hx → kvs[i]? = some (kk, vv) → ∃ z fl, kk = Sum.inr z ∧ fs[i]? = some (z, fl) ∧ DGet Hx f (.str z) (some vv) ∧ DT Hx (fun c => A c ∧ c ≠ f) vv fl.tree := by
    intro Hx od i kk vv s h
    obtain ⟨z, t, h1, h2, h3, h4, h5⟩ := DT.turn k nd dA2 h
    rw [List.getElem?_map] at h1 h2
    obtain ⟨pr, g1, g2⟩ := Option.map_eq_some_iff.mp h1
    rw [g1] at h2
    obtain ⟨pz, pf⟩ := pr
    cases g2
    cases h2
    refine ⟨pz, pf, h3, g1, .inl ⟨kvs, .inr pz, .inr ⟨od, s _ _ upd_same⟩, rfl, h4.symm⟩, h5.mono fun c u hc eu => s _ _ (by rw [upd_ne hc.2]; exact eu)⟩
  refine ⟨f, _, e2, trivial, fun od2 => ⟨_, rfl, f, od2, rfl, .inl ⟨kvs, upd_same, fun D2 nD2 => ?_⟩⟩⟩
  refine lc_it walk_keys (fun i Hx => Same (upd H2 f (.frz od2 (.dK kvs))) Hx ∧ Hx D2 = some (.lst (((fs.take i).map (·.2.sort)).map V.str))) ⟨same_new nD2 _, upd_same⟩ (fun i Hx _ p => p.1 _ _ upd_same) ?_ ?_
  · rintro i y Hx H' hi ⟨s1, hD2⟩ ⟨rfl, kk, vv, hkv, rfl⟩
    obtain ⟨z, fl, rfl, hz, dg, dv⟩ := val2 s1 hkv
    obtain ⟨ta, xs, rfl, ht, _⟩ := fld_sort dv
    refine ⟨rfl, yes_if ⟨_, rfl, .str z, rfl, f, _, rfl, dg, ta, _, 0, .str fl.sort, rfl, rfl, .inl (.inl ht), atI_nat (j := 0) rfl, ?_⟩⟩
    refine ⟨_, hD2, small1000 (by rw [List.length_map, List.length_map, List.length_take]; omega), Same.put s1 nD2, ?_⟩
    rw [upd_same, List.take_add_one, hz]
    simp
  rintro Hy ⟨s3, hD2⟩
  have sH2 : Same H2 (upd Hy f (.dK kvs)) := unlock_same e2 s3
  have nD2f : D2 ≠ f := fun n => by rw [n, s3 _ _ upd_same] at hD2; cases hD2
  rw [lk, List.take_length] at hD2
  refine ⟨s3 _ _ upd_same, ?_⟩
  have hD3 : (upd Hy f (.dK kvs)) D2 = some (.lst ((fs.map (·.2.sort)).map V.str)) := by rw [upd_ne nD2f]; exact hD2
  generalize (upd Hy f (.dK kvs)) = H3 at sH2 hD3 ⊢
  refine ⟨pS, rfl, ⟨_, MS.sq H3⟩, fun D3 nD3 => ?_⟩
  refine lc_tup (K := K) (a := pS) (xs := sortL.map V.str) (fun i Hx => Same H3 Hx ∧ Hx D3 = some (.lst (List.replicate i (V.bl true)))) ⟨same_new nD3 _, upd_same⟩ (fun i Hx _ _ => MS.sq Hx) ?_ ?_
  · rintro i y Hx hy ⟨s4, h3⟩
    obtain ⟨z, hz, rfl⟩ := map_get hy
    obtain ⟨i3, hn⟩ := sort_num hz
    have c2 := o.two i i3
    have cc := cnt_sort hn fs
    refine ⟨rfl, yes_if ⟨_, rfl, .inl ⟨rfl, _, .inl (.inl (s4 _ _ hD3))⟩, .str z, rfl, D2, _, z, rfl, rfl, .inl (.inl (s4 _ _ hD3)), _, 2, rfl, rfl, _, h3, small1000 (by rw [List.length_replicate]; omega), Same.put s4 nD3, ?_⟩⟩
    rw [cc]
    dsimp only
    rw [decide_eq_true (by omega), upd_same, List.replicate_succ']
  · rintro Hx ⟨s4, h3⟩
    refine ⟨D3, List.replicate (sortL.map V.str).length true, rfl, .inl (.inl (by rw [List.map_replicate]; exact h3)), ?_⟩
    rw [all_true]
    exact q _ ((sH.trans sH2).trans s4)
end
end Lw

set_option Elab.async false
set_option linter.all false
set_option maxRecDepth 100000
set_option maxHeartbeats 4000000
namespace Lw
open PySem PySem.Spec PyProof.Rows L2
theorem TV.of {H : Hp} {A : Addr → Prop} : ∀ {t : Tst} {v : V}, DT H A v t.tree → TV H v t
  | .is f ws, v, x => by
    obtain ⟨a, xs, rfl, h, _, y⟩ := x.tupI
    cases y with
    | cons p r =>
      cases p
      cases r with
      | cons p r =>
        cases p
        cases r with
        | cons p r =>
          cases r
          obtain ⟨l, ys, rfl, hl, _, z⟩ := p.lstI
          rw [DTs.strs z] at hl
          exact .is h hl
  | .non f, v, x => by
    obtain ⟨a, xs, rfl, h, _, y⟩ := x.tupI
    cases y with
    | cons p r =>
      cases p
      cases r with
      | cons p r =>
        cases p
        cases r
        exact .non h
  | .nt t, v, x => by
    obtain ⟨a, xs, rfl, h, _, y⟩ := x.tupI
    cases y with
    | cons p r =>
      cases p
      cases r with
      | cons p r =>
        cases r
        exact .nt h (TV.of p)
theorem fldAt_of {fs : Flds} (nd : (fs.map (·.1)).Nodup) {z : Str} {fl : Fld} (m : (z, fl) ∈ fs) : fldAt fs z = some fl := by
  induction fs with
  | nil => cases m
  | cons p r ih =>
    rw [List.map_cons, List.nodup_cons] at nd
    unfold fldAt
    rcases List.mem_cons.mp m with h | h
    · rw [← h, List.find?_cons_of_pos (by exact decide_eq_true rfl)]
      rfl
    · have ne : ¬ p.1 = z := fun q => nd.1 (by rw [q]; exact List.mem_map_of_mem (f := (·.1)) h)
      rw [List.find?_cons_of_neg (by rw [decide_eq_true_eq]; exact ne)]
      exact ih nd.2 h
theorem fldAt_name {fs : Flds} {z : Str} {fl : Fld} (e : fldAt fs z = some fl) : z ∈ fs.map (·.1) := by
  unfold fldAt at e
  obtain ⟨p, h1, h2⟩ := Option.map_eq_some_iff.mp e
  have h3 := List.mem_of_find?_eq_some h1
  have h4 : p.1 = z := of_decide_eq_true (List.find?_some (p := fun p : Str × Fld => decide (p.1 = z)) h1)
  rw [← h4]
  exact List.mem_map_of_mem h3
theorem in_strs {z : Str} {vs : List Str} (m : z ∈ vs) : inV (V.str z) (vs.map V.str) = true := by
  unfold inV
  rw [List.any_eq_true]
  exact ⟨V.str z, List.mem_map_of_mem m, by simp [eqV]⟩
abbrev sIsNot : Stmt := topS 15
abbrev sInside : Stmt := topS 14
abbrev sSortOf : Stmt := topS 13
abbrev sInner : Stmt := topS 17
abbrev sTs : Stmt := topS 16
abbrev NInner : List Str := ["fields", "thing", "words", "word"]
abbrev NTs : List Str := ["fields", "thing", "test"]
def Tst.isNt : Tst → Bool
  | .nt _ => true
  | _ => false
section
variable {P : Program} {w : World} {K : PySem.W.Frag} {mg : Str → Option Value} {base : Heap}
theorem scIsNot : FnScope ["thing"] ["thing"] (defScope sIsNot) := ⟨rfl, rfl, rfl, by decide +kernel, rfl, by decide +kernel, by decide +kernel⟩
def spIsNot : Sp := fun vs H Q _ => ∃ (v : V) (t : Tst), vs = [v] ∧ TV H v t ∧ Q (.bl t.isNt) H
theorem ok_isnot {f : Addr} {fd : FuncData} (F : Fun K "_is_not" "_is_not" sIsNot f fd) (mis : mg "isinstance" = none) (mtup : mg "tuple" = none) (mlen : mg "len" = none) : FnOk P w K mg base CX0 1 f fd ["thing"] spIsNot := by
  refine F.ok scIsNot (fun vs H Q E h => ?_) (fun cdv A outer s H vs Q E hr h => ?_)
  · obtain ⟨v, t, rfl, _⟩ := h
    rfl
  obtain ⟨v, t, rfl, tv, q⟩ := h
  refine ⟨_, pss_one (ps_ret (pe_and (pe_callB call_isi (by rfl) mis (by decide +kernel) (pa_cons (pv 0) (pa_cons (pe_bltn (v := .ty "tuple") (by rfl) mtup (by decide +kernel) rfl) pa_nil)))
    (pe_and (pe_cmpR op_eq (pe_callB call_len_seq (by rfl) mlen (by decide +kernel) (pa_cons (pv 0) pa_nil)) pe_int (nomark _)) (pe_one (pe_cmpR op_eq (pe_ix ix_tup (pv 0) pe_int (fun _ _ => rfl)) pe_str (nomark _)))))), ?_⟩
  have kt : PySem.W.kitOne K (.type "tuple") (.type "tuple") = some true := kit_ty (by rfl)
  cases tv with
  | @is t l f ws a b => exact ⟨.ref t, rfl, .ref t, .ty "tuple", .type "tuple", .type "tuple", true, rfl, .ty _, .base (.tup a), kt, true, rfl, tt_if rfl ⟨.ref t, rfl, t, _, rfl, .inr (.inl (.inl a)), rfl, _, rfl, ff_if rfl q⟩⟩
  | @non t f a => exact ⟨.ref t, rfl, .ref t, .ty "tuple", .type "tuple", .type "tuple", true, rfl, .ty _, .base (.tup a), kt, true, rfl, tt_if rfl ⟨.ref t, rfl, t, _, rfl, .inr (.inl (.inl a)), rfl, _, rfl, tt_if rfl ⟨.ref t, rfl, t, _, 0, _, rfl, rfl, .inl (.inl a), atI_nat (j := 0) rfl, rfl, q⟩⟩⟩
  | @nt t v' s' a bb => exact ⟨.ref t, rfl, .ref t, .ty "tuple", .type "tuple", .type "tuple", true, rfl, .ty _, .base (.tup a), kt, true, rfl, tt_if rfl ⟨.ref t, rfl, t, _, rfl, .inr (.inl (.inl a)), rfl, _, rfl, tt_if rfl ⟨.ref t, rfl, t, _, 0, _, rfl, rfl, .inl (.inl a), atI_nat (j := 0) rfl, rfl, q⟩⟩⟩
theorem scInside : FnScope ["test", "inner", "_"] ["test"] (defScope sInside) := ⟨rfl, rfl, rfl, by decide +kernel, rfl, by decide +kernel, by decide +kernel⟩
def spInside : Sp := fun vs H Q _ => ∃ (v : V) (t : Tst), vs = [v] ∧ TV H v t ∧ t.depth ≤ 4 ∧ ∀ v', TV H v' t.core → t.core.isNt = false → Q v' H
theorem core_no : ∀ t : Tst, t.core.isNt = false
  | .is _ _ => rfl
  | .non _ => rfl
  | .nt t => core_no t
theorem core_it : ∀ t : Tst, t.isNt = false → t.core = t
  | .is _ _, _ => rfl
  | .non _, _ => rfl
  | .nt _, h => nomatch h
theorem ok_inside {f f1 : Addr} {fd fd1 : FuncData} {tk : Tok} (F : Fun K "inside_nots" "inside_nots" sInside f fd) (G : FnOk P w K mg base CX0 1 f1 fd1 ["thing"] spIsNot) (m1 : mg "_is_not" = some (.ref f1)) (k1 : PySem.W.keepIn K (.ref f1) = true) (b1 : Binds K fd1 ["thing"] [])
    (mMost : mg "MOST_NOTS" = some (.int 4 tk)) (mrange : mg "range" = none) : FnOk P w K mg base CX0 2 f fd ["test"] spInside := by
  refine F.ok scInside (fun vs H Q E h => ?_) (fun cdv A outer s H vs Q E hr h => ?_)
  · obtain ⟨v, t, rfl, _⟩ := h
    rfl
  obtain ⟨v, t, rfl, tv, dp, q⟩ := h
  refine ⟨_, pss_cons (ps_set (i := 1) scInside.nd rfl (.inl rfl) (pv 0))
    (pss_cons (ps_for PassesOwn.never rfl (pi_range1 (by rfl) mrange (pa_cons (pe_glob (v := .int 4) (by rfl) mMost ⟨tk, rfl⟩) pa_nil)) (pg_name (i := 2) scInside.nd rfl (.inl rfl))
      (pss_one (ps_if (pt_val (pe_call G hr (by rfl) m1 k1 b1 .nil pass0 (pa_cons (pv 1) pa_nil))) (pss_one (ps_set (i := 1) scInside.nd rfl (.inl rfl) (pe_ix ix_tup (pv 1) pe_int (fun _ _ => rfl)))) pss_nil)))
    (pss_cons (ps_if (pt_val (pe_call G hr (by rfl) m1 k1 b1 .nil pass0 (pa_cons (pv 1) pa_nil))) (pss_one (ps_ret pe_non)) pss_nil) (pss_one (ps_ret (pv 1))))), ?_⟩
  refine ⟨v, rfl, 4, rfl, by decide, by decide, for_range (lo := 0) (n := 4) (fun i σ H3 => ∃ (u : V) (t' : Tst) (v2 : Option V), H3 = H ∧ σ = [some v, some u, v2] ∧ TV H u t' ∧ t'.core = t.core ∧ t'.depth ≤ 4 - i) ⟨v, t, none, rfl, rfl, tv, rfl, dp⟩ ?_ ?_⟩
  · rintro i σ H3 hi ⟨u, t', v2, rfl, rfl, tu, ec, ed⟩
    refine ⟨u, rfl, u, t', rfl, tu, _, rfl, ?_⟩
    cases tu with
    | @is t1 l f ws a b => exact ff_if rfl ⟨_, _, _, rfl, rfl, .is a b, ec, Nat.zero_le _⟩
    | @non t1 f a => exact ff_if rfl ⟨_, _, _, rfl, rfl, .non a, ec, Nat.zero_le _⟩
    | @nt t1 v' s' a bb => exact tt_if rfl ⟨.ref t1, rfl, t1, _, 1, _, rfl, rfl, .inl (.inl a), atI_nat (j := 1) rfl, v', s', _, rfl, rfl, bb, ec, by have : s'.depth + 1 ≤ 4 - i := ed; omega⟩
  · rintro σ H3 ⟨u, t', v2, rfl, rfl, tu, ec, ed⟩
    have no : t'.isNt = false := by
      cases t' with
      | nt s' => exact absurd (show s'.depth + 1 ≤ 0 from ed) (by omega)
      | _ => rfl
    refine ⟨u, rfl, u, t', rfl, tu, _, rfl, ff_if no ⟨u, rfl, q u ?_ (core_no t)⟩⟩
    rw [← ec, core_it t' no]
    exact tu

theorem scSortOf : FnScope ["fields", "name"] ["fields", "name"] (defScope sSortOf) := ⟨rfl, rfl, rfl, by decide +kernel, rfl, by decide +kernel, by decide +kernel⟩
def spSort1 : Sp := fun vs H Q _ => ∃ (f : Addr) (fs : Flds) (z : Str) (fl : Fld) (A : Addr → Prop), vs = [.ref f, .str z] ∧ DT H A (.ref f) (fieldsT fs) ∧ NameOk z ∧ fldAt fs z = some fl ∧ ∀ H', Same H H' → Q (.str fl.sort) H'
theorem ok_sortof {f f1 : Addr} {fd fd1 : FuncData} (F : Fun K "sort_of" "sort_of" sSortOf f fd) (G1 : FnOk P w K mg base CX0 1 f1 fd1 ["thing"] spName1) (m1 : mg "is_name" = some (.ref f1)) (k1 : PySem.W.keepIn K (.ref f1) = true) (b1 : Binds K fd1 ["thing"] []) : FnOk P w K mg base CX0 2 f fd ["fields", "name"] spSort1 := by
  refine F.ok scSortOf (fun vs H Q E h => ?_) (fun cdv A outer s H vs Q E hr h => ?_)
  · obtain ⟨f, fs, z, fl, A, rfl, _⟩ := h
    rfl
  obtain ⟨f, fs, z, fl, A, rfl, x, okz, e, q⟩ := h
  refine ⟨_, (pss_cons (ps_if (PW.pt (pw_and (pt_val (pe_call G1 (hr.mono (by decide)) (by rfl) m1 k1 b1 .nil pass0 (pa_cons (pv 1) pa_nil))) (pw_and1 (pt_cmp (pc_din (hu_of hr) (pv 1) (pv 0)))))) (pss_one (ps_ret (pe_ix ix_tup (pe_dget (hu_of hr) (pv 0) (pv 1) (fun _ _ => rfl)) pe_int (fun _ _ => rfl)))) pss_nil) (pss_one (ps_ret pe_non))), ?_⟩
  refine ⟨.str z, rfl, z, rfl, okz, fun H1 s1 => ⟨_, rfl, tt_if rfl ?_⟩⟩
  obtain ⟨v, fl', dg, e', dv⟩ := fields_get (x.same s1) (fldAt_name e)
  rw [e] at e'
  cases e'
  obtain ⟨ta, xs, rfl, ht, _⟩ := fld_sort dv
  exact ⟨.str z, rfl, _, rfl, f, _, rfl, dg, _, rfl, tt_if rfl ⟨_, rfl, .str z, rfl, f, _, rfl, dg, ta, _, 0, .str fl.sort, rfl, rfl, .inl (.inl ht), atI_nat (j := 0) rfl, q H1 s1⟩⟩
theorem scInner : FnScope NInner ["fields", "thing"] (defScope sInner) := ⟨rfl, rfl, rfl, by decide +kernel, rfl, by decide +kernel, by decide +kernel⟩
def spInner1 : Sp := fun vs H Q _ => ∃ (f : Addr) (v : V) (fs : Flds) (ns : List Str) (t : Tst) (A : Addr → Prop), vs = [.ref f, v] ∧ DT H A (.ref f) (fieldsT fs) ∧ FldsOk ns fs ∧ TV H v t ∧ TstC fs 4 t ∧ ∀ H', Same H H' → Q (.bl true) H'
theorem ok_inner {f f4 : Addr} {fd fd4 : FuncData} (F : Fun K "_is_inner_test" "_is_inner_test" sInner f fd) (G4 : FnOk P w K mg base CX0 2 f4 fd4 ["fields", "name"] spSort1) (m4 : mg "sort_of" = some (.ref f4)) (k4 : PySem.W.keepIn K (.ref f4) = true) (b4 : Binds K fd4 ["fields", "name"] [])
    (mi : mg "isinstance" = none) (mt : mg "tuple" = none) (ml : mg "list" = none) (mlen : mg "len" = none) (mall : mg "all" = none) : FnOk P w K mg base CX0 3 f fd ["fields", "thing"] spInner1 := by
  refine F.ok scInner (fun vs H Q E h => ?_) (fun cdv A outer s H vs Q E hr h => ?_)
  · obtain ⟨f, v, fs, ns, t, A, rfl, _⟩ := h
    rfl
  obtain ⟨f, v, fs, ns, t, A, rfl, x, o, tv, tc, q⟩ := h
  refine ⟨_, (pss_cons (ps_if (pt_not (pt_val (pe_callB call_isi (by rfl) mi (by decide +kernel) (pa_cons (pv 1) (pa_cons (pe_bltn (v := .ty "tuple") (by rfl) mt (by decide +kernel) rfl) pa_nil))))) (pss_one (ps_ret pe_bl)) pss_nil) (pss_cons (ps_if (pt_cmpR op_eq (pe_callB call_len_seq (by rfl) mlen (by decide +kernel) (pa_cons (pv 1) pa_nil)) pe_int (nomark _)) (pss_one (ps_ret (pe_and (pe_cmpR op_eq (pe_ix ix_tup (pv 1) pe_int (fun _ _ => rfl)) pe_str (nomark _)) (pe_one (pe_cmpR (r := rIn K false) op_in_seq (pe_call G4 (hr.mono (by decide)) (by rfl) m4 k4 b4 .nil pass0 (pa_cons (pv 0) (pa_cons (pe_ix ix_tup (pv 1) pe_int (fun _ _ => rfl)) pa_nil))) (pe_tup (pa_cons pe_str (pa_cons pe_str pa_nil))) (by rfl)))))) pss_nil) (pss_cons (ps_if (PW.pt (pw_or (pt_cmpR op_ne (pe_callB call_len_seq (by rfl) mlen (by decide +kernel) (pa_cons (pv 1) pa_nil)) pe_int (nomark _)) (pw_or (pt_cmpR op_ne (pe_ix ix_tup (pv 1) pe_int (fun _ _ => rfl)) pe_str (nomark _)) (pw_or1 (pt_cmpR op_ne (pe_call G4 (hr.mono (by decide)) (by rfl) m4 k4 b4 .nil pass0 (pa_cons (pv 0) (pa_cons (pe_ix ix_tup (pv 1) pe_int (fun _ _ => rfl)) pa_nil))) pe_str (nomark _)))))) (pss_one (ps_ret pe_bl)) pss_nil) (pss_cons (ps_if (PW.pt (pw_or (pt_not (pt_val (pe_callB call_isi (by rfl) mi (by decide +kernel) (pa_cons (pe_ix ix_tup (pv 1) pe_int (fun _ _ => rfl)) (pa_cons (pe_bltn (v := .ty "list") (by rfl) ml (by decide +kernel) rfl) pa_nil))))) (pw_or1 (pt_cmpR op_eq (pe_callB call_len_seq (by rfl) mlen (by decide +kernel) (pa_cons (pe_ix ix_tup (pv 1) pe_int (fun _ _ => rfl)) pa_nil)) pe_int (nomark _))))) (pss_one (ps_ret pe_bl)) pss_nil) (pss_cons (ps_set (i := 2) scInner.nd rfl (.inr rfl) (pe_ix ix_tup (pe_dget (hu_of hr) (pv 0) (pe_ix ix_tup (pv 1) pe_int (fun _ _ => rfl)) (fun _ _ => rfl)) pe_int (fun _ _ => rfl))) (pss_one (ps_ret (pe_callB (cr_all rfl) (by rfl) mall (by decide +kernel) (pa_cons (pe_lc (own := [("word", 3)]) (g := gName 3) (tt := tYes) rfl scInner.nd (pi_list (pe_ix ix_tup (pv 1) pe_int (fun _ _ => rfl))) (blkOk_by (N := NInner) (sc := defScope sInner) (by decide +kernel)) (fun _ _ _ _ _ => pg_name (i := 3) scInner.nd rfl (Or.inl rfl)) (fun _ _ _ _ _ => pts_nil) (fun _ _ _ _ _ => (pe_cmpR (r := rIn K false) op_in_seq (pv 3) (pv 2) (by rfl)))) pa_nil))))))))), ?_⟩
  cases tc with
  | @is y ws vs a nb c sub okw =>
    cases tv with
    | @is t l _ _ ht hl =>
      have at0 : ∀ {H'}, Same H H' → SqT K H' t [.str "is", .str y, .ref l] := fun s => .inl (.inl (s _ _ ht))
      have ea := fldAt_of o.nd a
      have oky : NameOk y := o.ok _ a
      refine ⟨_, rfl, _, .ty "tuple", _, _, true, rfl, .ty _, .base (.tup ht), rfl, _, rfl, ff_if rfl ?_⟩
      refine ⟨_, rfl, t, _, rfl, .inr (at0 fun _ _ h => h), rfl, _, rfl, ff_if (by show decide (V.int ((3 : Nat) : Int) = V.int 2) = false; decide +kernel) ?_⟩
      refine ⟨_, rfl, t, _, rfl, .inr (at0 fun _ _ h => h), rfl, _, rfl, ff_if (by show (!decide (V.int ((3 : Nat) : Int) = V.int 3)) = false; decide +kernel) ?_⟩
      refine ⟨_, rfl, t, _, 0, _, rfl, rfl, at0 (fun _ _ h => h), atI_nat (j := 0) rfl, rfl, _, rfl, ff_if (by decide +kernel) ?_⟩
      refine ⟨_, rfl, _, rfl, t, _, 1, _, rfl, rfl, at0 (fun _ _ h => h), atI_nat (j := 1) rfl, f, fs, y, .mk vs, A, rfl, x, oky, ea, fun H1 s1 => ⟨rfl, _, rfl, ff_if (by show (!decide (V.str "mark" = V.str "mark")) = false; decide +kernel) ?_⟩⟩
      have hl1 := s1 _ _ hl
      refine ⟨_, rfl, t, _, 2, .ref l, rfl, rfl, at0 s1, atI_nat (j := 2) rfl, _, .ty "list", _, _, true, rfl, .ty _, .base (.lst hl1), rfl, _, rfl, ff_if rfl ?_⟩
      refine ⟨_, rfl, t, _, 2, .ref l, rfl, rfl, at0 s1, atI_nat (j := 2) rfl, l, _, rfl, .inl (.inl (.inl hl1)), rfl, _, rfl, ff_if ?_ ?_⟩
      · refine decide_eq_false fun h => nb ?_
        injection h with h
        rw [List.length_map] at h
        exact List.eq_nil_of_length_eq_zero (by omega)
      obtain ⟨v, fl', dg, e', dv⟩ := fields_get (x.same s1) (fldAt_name ea)
      rw [ea] at e'
      cases e'
      obtain ⟨ta, xs, rfl, hta, _, dd⟩ := dv.tupI
      cases dd with
      | cons p r =>
        cases p
        cases r with
        | cons p r =>
          cases r
          obtain ⟨lw, ys, rfl, hlw, _, z⟩ := p.lstI
          rw [DTs.strs z] at hlw
          refine ⟨_, rfl, _, rfl, t, _, 1, _, rfl, rfl, at0 s1, atI_nat (j := 1) rfl, f, _, rfl, dg, ta, _, 1, .ref lw, rfl, rfl, .inl (.inl hta), atI_nat (j := 1) rfl, ?_⟩
          refine ⟨_, rfl, t, _, 2, .ref l, rfl, rfl, at0 s1, atI_nat (j := 2) rfl, l, rfl, ⟨_, .inl (.inl hl1)⟩, fun D nD => ?_⟩
          refine lc_list (K := K) (a := l) (xs := ws.map V.str) (fun i Hx => Same H1 Hx ∧ Hx D = some (.lst (List.replicate i (V.bl true)))) ⟨same_new nD _, upd_same⟩ (fun i Hx _ p => .inl (.inl (p.1 _ _ hl1))) ?_ ?_
          · rintro i u Hx hx ⟨s2, hD⟩
            obtain ⟨z0, hz, rfl⟩ := map_get hx
            have il : i < ws.length := (List.getElem?_eq_some_iff.mp hz).1
            have iv : inV (V.str z0) (vs.map V.str) = true := in_strs (sub z0 (List.mem_of_getElem? hz))
            refine ⟨rfl, yes_if ⟨_, rfl, _, rfl, lw, _, rfl, .inl (.inl (.inl (s2 _ _ hlw))), rfl, flat_strs' vs, _, hD, small1000 (by rw [List.length_replicate]; omega), Same.put s2 nD, ?_⟩⟩
            rw [iv, upd_same, List.replicate_succ']
            rfl
          · rintro Hx ⟨s2, hD⟩
            refine ⟨D, List.replicate (ws.map V.str).length true, rfl, .inl (.inl (by rw [List.map_replicate]; exact hD)), ?_⟩
            rw [all_true]
            exact q _ (s1.trans s2)
  | @lk y n a =>
    cases tv with
    | @non t _ ht =>
      have at0 : SqT K H t [.str "none", .str y] := .inl (.inl ht)
      refine ⟨_, rfl, _, .ty "tuple", _, _, true, rfl, .ty _, .base (.tup ht), rfl, _, rfl, ff_if rfl ?_⟩
      refine ⟨_, rfl, t, _, rfl, .inr at0, rfl, _, rfl, tt_if (by show decide (V.int ((2 : Nat) : Int) = V.int 2) = true; decide +kernel) ?_⟩
      refine ⟨_, rfl, t, _, 0, _, rfl, rfl, at0, atI_nat (j := 0) rfl, rfl, true, by decide +kernel, tt_if rfl ?_⟩
      refine ⟨_, rfl, _, rfl, t, _, 1, _, rfl, rfl, at0, atI_nat (j := 1) rfl, f, fs, y, .lk n, A, rfl, x, o.ok _ a, fldAt_of o.nd a, fun H1 s1 => ⟨small (by show 2 ≤ 1000; decide), fun p np => ⟨p, _, rfl, .inr (.inl (.inl upd_same)), rfl, rfl, ?_⟩⟩⟩
      exact q _ (s1.trans (same_new np _))
  | @tg y a =>
    cases tv with
    | @non t _ ht =>
      have at0 : SqT K H t [.str "none", .str y] := .inl (.inl ht)
      refine ⟨_, rfl, _, .ty "tuple", _, _, true, rfl, .ty _, .base (.tup ht), rfl, _, rfl, ff_if rfl ?_⟩
      refine ⟨_, rfl, t, _, rfl, .inr at0, rfl, _, rfl, tt_if (by show decide (V.int ((2 : Nat) : Int) = V.int 2) = true; decide +kernel) ?_⟩
      refine ⟨_, rfl, t, _, 0, _, rfl, rfl, at0, atI_nat (j := 0) rfl, rfl, true, by decide +kernel, tt_if rfl ?_⟩
      refine ⟨_, rfl, _, rfl, t, _, 1, _, rfl, rfl, at0, atI_nat (j := 1) rfl, f, fs, y, .tg, A, rfl, x, o.ok _ a, fldAt_of o.nd a, fun H1 s1 => ⟨small (by show 2 ≤ 1000; decide), fun p np => ⟨p, _, rfl, .inr (.inl (.inl upd_same)), rfl, rfl, ?_⟩⟩⟩
      exact q _ (s1.trans (same_new np _))
theorem scTs : FnScope NTs ["fields", "thing"] (defScope sTs) := ⟨rfl, rfl, rfl, by decide +kernel, rfl, by decide +kernel, by decide +kernel⟩
def spTs1 : Sp := fun vs H Q _ => ∃ (f : Addr) (v : V) (fs : Flds) (ns : List Str) (ts : List Tst) (A B : Addr → Prop), vs = [.ref f, v] ∧ DT H A (.ref f) (fieldsT fs) ∧ FldsOk ns fs ∧ DT H B v (testsT ts) ∧ TstsOk fs ts ∧ ∀ H', Same H H' → Q (.bl true) H'
theorem ok_ts {f f5 f6 : Addr} {fd fd5 fd6 : FuncData} (F : Fun K "is_tests" "is_tests" sTs f fd) (G5 : FnOk P w K mg base CX0 3 f5 fd5 ["fields", "thing"] spInner1) (m5 : mg "_is_inner_test" = some (.ref f5)) (k5 : PySem.W.keepIn K (.ref f5) = true) (b5 : Binds K fd5 ["fields", "thing"] [])
    (G6 : FnOk P w K mg base CX0 2 f6 fd6 ["test"] spInside) (m6 : mg "inside_nots" = some (.ref f6)) (k6 : PySem.W.keepIn K (.ref f6) = true) (b6 : Binds K fd6 ["test"] [])
    (mi : mg "isinstance" = none) (ml : mg "list" = none) (mall : mg "all" = none) : FnOk P w K mg base CX0 4 f fd ["fields", "thing"] spTs1 := by
  refine F.ok scTs (fun vs H Q E h => ?_) (fun cdv A outer s H vs Q E hr h => ?_)
  · obtain ⟨f, v, fs, ns, ts, A, B, rfl, _⟩ := h
    rfl
  obtain ⟨f, v, fs, ns, ts, A, B, rfl, x, o, d, ok, q⟩ := h
  refine ⟨_, (pss_cons (ps_if (pt_not (pt_val (pe_callB call_isi (by rfl) mi (by decide +kernel) (pa_cons (pv 1) (pa_cons (pe_bltn (v := .ty "list") (by rfl) ml (by decide +kernel) rfl) pa_nil))))) (pss_one (ps_ret pe_bl)) pss_nil) (pss_one (ps_ret (pe_callB (cr_all rfl) (by rfl) mall (by decide +kernel) (pa_cons (pe_lc (own := [("test", 2)]) (g := gName 2) (tt := tYes) rfl scTs.nd (pi_list (pv 1)) (blkOk_by (N := NTs) (sc := defScope sTs) (by decide +kernel)) (fun _ _ _ _ _ => pg_name (i := 2) scTs.nd rfl (Or.inl rfl)) (fun _ _ _ _ _ => pts_nil) (fun _ _ _ _ _ => (pe_call G5 (hr.mono (by decide)) (by rfl) m5 k5 b5 .nil pass0 (pa_cons (pv 0) (pa_cons (pe_call G6 (hr.mono (by decide)) (by rfl) m6 k6 b6 .nil pass0 (pa_cons (pv 2) pa_nil)) pa_nil))))) pa_nil))))), ?_⟩
  obtain ⟨l, vs, rfl, hl, _, dts⟩ := d.lstI
  have lv : vs.length = ts.length := by
    have h := dts.len
    rw [List.length_map] at h
    exact h
  have l9 := ok.2
  refine ⟨_, rfl, _, .ty "list", _, _, true, rfl, .ty _, .base (.lst hl), rfl, _, rfl, ff_if rfl ?_⟩
  refine ⟨_, rfl, l, rfl, ⟨_, .inl (.inl hl)⟩, fun D nD => ?_⟩
  refine lc_list (K := K) (a := l) (xs := vs) (fun i Hx => Same H Hx ∧ Hx D = some (.lst (List.replicate i (V.bl true)))) ⟨same_new nD _, upd_same⟩ (fun i Hx _ p => .inl (.inl (p.1 _ _ hl))) ?_ ?_
  · rintro i u Hx hx ⟨s1, hD⟩
    obtain ⟨tt, htt, dt⟩ := dts.get hx
    rw [List.getElem?_map] at htt
    obtain ⟨t, ht, rfl⟩ := Option.map_eq_some_iff.mp htt
    have il : i < ts.length := (List.getElem?_eq_some_iff.mp ht).1
    have okt := ok.1 t (List.mem_of_getElem? ht)
    have dep := okt.dep
    refine ⟨rfl, yes_if ⟨_, rfl, _, rfl, u, t, rfl, TV.of (dt.same s1), by omega, fun v' tv' _ => ⟨f, v', fs, ns, t.core, A, rfl, x.same s1, o, tv', okt.core, fun H2 s2 => ?_⟩⟩⟩
    refine ⟨_, s2 _ _ hD, small1000 (by rw [List.length_replicate]; omega), Same.put (s1.trans s2) nD, ?_⟩
    rw [upd_same, List.replicate_succ']
  · rintro Hx ⟨s1, hD⟩
    refine ⟨D, List.replicate vs.length true, rfl, .inl (.inl (by rw [List.map_replicate]; exact hD)), ?_⟩
    rw [all_true]
    exact q _ s1
end
end Lw

set_option Elab.async false
set_option linter.all false
set_option maxRecDepth 100000
set_option maxHeartbeats 4000000
namespace Lw
open PySem PySem.Spec PyProof.Rows L2
theorem tabAt_of {tabs : Tabs} (nd : (tabs.map (·.1)).Nodup) {z : Str} {fs : Flds} (m : (z, fs) ∈ tabs) : tabAt tabs z = some fs := by
  induction tabs with
  | nil => cases m
  | cons p r ih =>
    rw [List.map_cons, List.nodup_cons] at nd
    unfold tabAt
    rcases List.mem_cons.mp m with h | h
    · rw [← h, List.find?_cons_of_pos (by exact decide_eq_true rfl)]
      rfl
    · have ne : ¬ p.1 = z := fun q => nd.1 (by rw [q]; exact List.mem_map_of_mem (f := (·.1)) h)
      rw [List.find?_cons_of_neg (by rw [decide_eq_true_eq]; exact ne)]
      exact ih nd.2 h
/-- a table of tables, in the heap -/
theorem tab_get {H : Hp} {A : Addr → Prop} {T : Addr} {tabs : Tabs} {z : Str} {fs : Flds} (x : DT H A (.ref T) (tablesT tabs)) (nd : (tabs.map (·.1)).Nodup) (m : (z, fs) ∈ tabs) : ∃ f, DGet H T (.str z) (some (.ref f)) ∧ DT H A (.ref f) (fieldsT fs) := by
  obtain ⟨f, fs', dg, e, _, d⟩ := tables_get x (List.mem_map_of_mem (f := (·.1)) m)
  rw [tabAt_of nd m] at e
  cases e
  exact ⟨f, dg, d⟩
theorem fld_get {H : Hp} {A : Addr → Prop} {f : Addr} {fs : Flds} {z : Str} {fl : Fld} (x : DT H A (.ref f) (fieldsT fs)) (nd : (fs.map (·.1)).Nodup) (m : (z, fl) ∈ fs) : ∃ v, DGet H f (.str z) (some v) ∧ DT H A v fl.tree := by
  obtain ⟨v, fl', dg, e, d⟩ := fields_get x (List.mem_map_of_mem (f := (·.1)) m)
  rw [fldAt_of nd m] at e
  cases e
  exact ⟨v, dg, d⟩
theorem lk_at {H : Hp} {A : Addr → Prop} {v : V} {n : Str} (x : DT H A v (Fld.lk n).tree) : ∃ a, v = .ref a ∧ H a = some (.tup [.str "link", .str n]) := by
  obtain ⟨a, xs, rfl, h, _, y⟩ := x.tupI
  cases y with
  | cons p r =>
    cases p
    cases r with
    | cons p r =>
      cases p
      cases r
      exact ⟨a, rfl, h⟩
abbrev sLinkRule : Stmt := topS 30
abbrev sRule1 : Stmt := topS 29
section
variable {P : Program} {w : World} {K : PySem.W.Frag} {mg : Str → Option Value} {base : Heap}
theorem scLinkRule : FnScope ["tables", "fields", "thing"] ["tables", "fields", "thing"] (defScope sLinkRule) := ⟨rfl, rfl, rfl, by decide +kernel, rfl, by decide +kernel, by decide +kernel⟩
def spLinkRule1 : Sp := fun vs H Q _ => ∃ (T f a : Addr) (v4 v5 : V) (tabs : Tabs) (fs fs2 : Flds) (n fd n2 tb : Str) (x y : List Tst) (A B : Addr → Prop), vs = [.ref T, .ref f, .ref a] ∧ DT H A (.ref T) (tablesT tabs) ∧ TabsOk tabs ∧ DT H A (.ref f) (fieldsT fs) ∧ FldsOk (tabs.map (·.1)) fs ∧
  H a = some (.tup [.str n, .str "link", .str tb, .str fd, v4, v5]) ∧ DT H B v4 (testsT x) ∧ DT H B v5 (testsT y) ∧ (fd, .lk n2) ∈ fs ∧ (n2, fs2) ∈ tabs ∧ TstsOk fs x ∧ TstsOk fs2 y ∧ ∀ H', Same H H' → Q (.bl true) H'
theorem ok_linkrule {f f4 f7 : Addr} {fd fd4 fd7 : FuncData} (F : Fun K "_is_link_rule" "_is_link_rule" sLinkRule f fd) (G4 : FnOk P w K mg base CX0 2 f4 fd4 ["fields", "name"] spSort1) (m4 : mg "sort_of" = some (.ref f4)) (k4 : PySem.W.keepIn K (.ref f4) = true) (b4 : Binds K fd4 ["fields", "name"] [])
    (G7 : FnOk P w K mg base CX0 4 f7 fd7 ["fields", "thing"] spTs1) (m7 : mg "is_tests" = some (.ref f7)) (k7 : PySem.W.keepIn K (.ref f7) = true) (b7 : Binds K fd7 ["fields", "thing"] []) : FnOk P w K mg base CX0 5 f fd ["tables", "fields", "thing"] spLinkRule1 := by
  refine F.ok scLinkRule (fun vs H Q E h => ?_) (fun cdv A outer s H vs Q E hr h => ?_)
  · obtain ⟨T, f, a, v4, v5, tabs, fs, fs2, n, fd, n2, tb, x, y, A, B, rfl, _⟩ := h
    rfl
  obtain ⟨T, f, a, v4, v5, tabs, fs, fs2, n, fd, n2, tb, x, y, A, B, rfl, dT, okT, dF, okF, ha, d4, d5, mf, mt, tx, ty, q⟩ := h
  refine ⟨_, (pss_cons (ps_if (PW.pt (pw_or (pt_cmpR op_ne (pe_call G4 (hr.mono (by decide)) (by rfl) m4 k4 b4 .nil pass0 (pa_cons (pv 1) (pa_cons (pe_ix ix_tup (pv 2) pe_int (fun _ _ => rfl)) pa_nil))) pe_str (nomark _)) (pw_or1 (pt_not (pt_val (pe_call G7 (hr.mono (by decide)) (by rfl) m7 k7 b7 .nil pass0 (pa_cons (pv 1) (pa_cons (pe_ix ix_tup (pv 2) pe_int (fun _ _ => rfl)) pa_nil)))))))) (pss_one (ps_ret pe_bl)) pss_nil) (pss_one (ps_ret (pe_call G7 (hr.mono (by decide)) (by rfl) m7 k7 b7 .nil pass0 (pa_cons (pe_dget (hu_of hr) (pv 0) (pe_ix ix_tup (pe_dget (hu_of hr) (pv 1) (pe_ix ix_tup (pv 2) pe_int (fun _ _ => rfl)) (fun _ _ => rfl)) pe_int (fun _ _ => rfl)) (fun _ _ => rfl)) (pa_cons (pe_ix ix_tup (pv 2) pe_int (fun _ _ => rfl)) pa_nil)))))), ?_⟩
  have at0 : ∀ {H'}, Same H H' → SqT K H' a [.str n, .str "link", .str tb, .str fd, v4, v5] := fun s => .inl (.inl (s _ _ ha))
  refine ⟨_, rfl, _, rfl, a, _, 3, _, rfl, rfl, at0 (fun _ _ h => h), atI_nat (j := 3) rfl, f, fs, fd, .lk n2, A, rfl, dF, okF.ok _ mf, fldAt_of okF.nd mf, fun H1 s1 => ⟨rfl, _, rfl, ff_if (by show (!decide (V.str "link" = V.str "link")) = false; decide +kernel) ?_⟩⟩
  refine ⟨_, rfl, _, rfl, a, _, 4, _, rfl, rfl, at0 s1, atI_nat (j := 4) rfl, f, v4, fs, _, x, A, B, rfl, dF.same s1, okF, d4.same s1, tx, fun H2 s2 => ⟨_, rfl, ff_if rfl ?_⟩⟩
  have s12 := s1.trans s2
  obtain ⟨u, dg, du⟩ := fld_get (dF.same s12) okF.nd mf
  obtain ⟨ta, rfl, hta⟩ := lk_at du
  obtain ⟨f2, dg2, d2⟩ := tab_get (dT.same s12) okT.nd mt
  refine ⟨_, rfl, _, rfl, _, rfl, a, _, 3, _, rfl, rfl, at0 s12, atI_nat (j := 3) rfl, f, _, rfl, dg, ta, _, 1, .str n2, rfl, rfl, .inl (.inl hta), atI_nat (j := 1) rfl, T, _, rfl, dg2, ?_⟩
  exact ⟨_, rfl, a, _, 5, _, rfl, rfl, at0 s12, atI_nat (j := 5) rfl, f2, v5, fs2, _, y, A, B, rfl, d2, okT.val _ mt, d5.same s12, ty, fun H3 s3 => q H3 (s12.trans s3)⟩
/-- a rule's tuple -/
theorem rule_head {H : Hp} {B : Addr → Prop} {tabs : Tabs} {v : V} {n : Str} {r : RK} (d : DT H B v (ruleT (n, r))) (o : RKOk tabs r) : ∃ (a : Addr) (xs : List V) (tb : Str) (fs : Flds), v = .ref a ∧ H a = some (.tup xs) ∧ (tb, fs) ∈ tabs ∧ xs[0]? = some (.str n) ∧ xs[2]? = some (.str tb) ∧ (xs.length = 4 ∨ xs.length = 6) := by
  cases o with
  | @link tb fd n2 fs fs2 x y h l h2 tx ty =>
    obtain ⟨a, xs, e, ha, _, dd⟩ := d.tupI
    cases dd with
    | cons p1 q => cases p1; cases q with
      | cons p2 q => cases p2; cases q with
        | cons p3 q => cases p3; cases q with
          | cons p4 q => cases q with
            | cons p5 q => cases q with
              | cons p6 q => cases q; exact ⟨a, _, tb, fs, e, ha, h, rfl, rfl, .inr rfl⟩
  | @uniq tb fd fs h l =>
    obtain ⟨a, xs, e, ha, _, dd⟩ := d.tupI
    cases dd with
    | cons p1 q => cases p1; cases q with
      | cons p2 q => cases p2; cases q with
        | cons p3 q => cases p3; cases q with
          | cons p4 q => cases q; exact ⟨a, _, tb, fs, e, ha, h, rfl, rfl, .inl rfl⟩
  | @one tb fs x h tx =>
    obtain ⟨a, xs, e, ha, _, dd⟩ := d.tupI
    cases dd with
    | cons p1 q => cases p1; cases q with
      | cons p2 q => cases p2; cases q with
        | cons p3 q => cases p3; cases q with
          | cons p4 q => cases q; exact ⟨a, _, tb, fs, e, ha, h, rfl, rfl, .inl rfl⟩
  | @chk tb fs x h tx =>
    obtain ⟨a, xs, e, ha, _, dd⟩ := d.tupI
    cases dd with
    | cons p1 q => cases p1; cases q with
      | cons p2 q => cases p2; cases q with
        | cons p3 q => cases p3; cases q with
          | cons p4 q => cases q; exact ⟨a, _, tb, fs, e, ha, h, rfl, rfl, .inl rfl⟩
theorem tests4 {H : Hp} {B : Addr → Prop} {v : V} {n kd tb : Str} {t : Tr} (d : DT H B v (.tup [.str n, .str kd, .str tb, t])) : ∃ (a : Addr) (w : V), v = .ref a ∧ H a = some (.tup [.str n, .str kd, .str tb, w]) ∧ DT H B w t := by
  obtain ⟨a, xs, e, ha, _, dd⟩ := d.tupI
  cases dd with
  | cons p1 q => cases p1; cases q with
    | cons p2 q => cases p2; cases q with
      | cons p3 q => cases p3; cases q with
        | cons p4 q => cases q; exact ⟨a, _, e, ha, p4⟩
theorem tests6 {H : Hp} {B : Addr → Prop} {v : V} {n kd tb fd : Str} {t u : Tr} (d : DT H B v (.tup [.str n, .str kd, .str tb, .str fd, t, u])) : ∃ (a : Addr) (w w' : V), v = .ref a ∧ H a = some (.tup [.str n, .str kd, .str tb, .str fd, w, w']) ∧ DT H B w t ∧ DT H B w' u := by
  obtain ⟨a, xs, e, ha, _, dd⟩ := d.tupI
  cases dd with
  | cons p1 q => cases p1; cases q with
    | cons p2 q => cases p2; cases q with
      | cons p3 q => cases p3; cases q with
        | cons p4 q => cases p4; cases q with
          | cons p5 q => cases q with
            | cons p6 q => cases q; exact ⟨a, _, _, e, ha, p5, p6⟩
theorem len46 {xs : List V} (h : xs.length = 4 ∨ xs.length = 6) : (if true = true then !inV (V.int (xs.length : Nat)) [V.int 4, V.int 6] else inV (V.int (xs.length : Nat)) [V.int 4, V.int 6]) = false := by
  rcases h with e | e
  · rw [e]; decide +kernel
  · rw [e]; decide +kernel
theorem scRule1 : FnScope ["tables", "thing", "fields"] ["tables", "thing"] (defScope sRule1) := ⟨rfl, rfl, rfl, by decide +kernel, rfl, by decide +kernel, by decide +kernel⟩
def spRule1 : Sp := fun vs H Q _ => ∃ (T : Addr) (v : V) (tabs : Tabs) (n : Str) (r : RK) (A B : Addr → Prop), vs = [.ref T, v] ∧ DT H A (.ref T) (tablesT tabs) ∧ TabsOk tabs ∧ DT H B v (ruleT (n, r)) ∧ NameOk n ∧ RKOk tabs r ∧ ∀ H', Same H H' → Q (.bl true) H'
theorem ok_rule1 {f f1 f4 f7 f8 : Addr} {fd fd1 fd4 fd7 fd8 : FuncData} (F : Fun K "_is_rule" "_is_rule" sRule1 f fd) (G1 : FnOk P w K mg base CX0 1 f1 fd1 ["thing"] spName1) (m1 : mg "is_name" = some (.ref f1)) (k1 : PySem.W.keepIn K (.ref f1) = true) (b1 : Binds K fd1 ["thing"] [])
    (G4 : FnOk P w K mg base CX0 2 f4 fd4 ["fields", "name"] spSort1) (m4 : mg "sort_of" = some (.ref f4)) (k4 : PySem.W.keepIn K (.ref f4) = true) (b4 : Binds K fd4 ["fields", "name"] [])
    (G7 : FnOk P w K mg base CX0 4 f7 fd7 ["fields", "thing"] spTs1) (m7 : mg "is_tests" = some (.ref f7)) (k7 : PySem.W.keepIn K (.ref f7) = true) (b7 : Binds K fd7 ["fields", "thing"] [])
    (G8 : FnOk P w K mg base CX0 5 f8 fd8 ["tables", "fields", "thing"] spLinkRule1) (m8 : mg "_is_link_rule" = some (.ref f8)) (k8 : PySem.W.keepIn K (.ref f8) = true) (b8 : Binds K fd8 ["tables", "fields", "thing"] [])
    (mi : mg "isinstance" = none) (mt : mg "tuple" = none) (mlen : mg "len" = none) : FnOk P w K mg base CX0 6 f fd ["tables", "thing"] spRule1 := by
  refine F.ok scRule1 (fun vs H Q E h => ?_) (fun cdv A outer s H vs Q E hr h => ?_)
  · obtain ⟨T, v, tabs, n, r, A, B, rfl, _⟩ := h
    rfl
  obtain ⟨T, v, tabs, n, r, A, B, rfl, dT, okT, dr, okn, okr, q⟩ := h
  refine ⟨_, (pss_cons (ps_if (PW.pt (pw_or (pt_not (pt_val (pe_callB call_isi (by rfl) mi (by decide +kernel) (pa_cons (pv 1) (pa_cons (pe_bltn (v := .ty "tuple") (by rfl) mt (by decide +kernel) rfl) pa_nil))))) (pw_or1 (pt_cmpR (r := rIn K true) op_notIn_seq (pe_callB call_len_seq (by rfl) mlen (by decide +kernel) (pa_cons (pv 1) pa_nil)) (pe_tup (pa_cons pe_int (pa_cons pe_int pa_nil))) (by rfl))))) (pss_one (ps_ret pe_bl)) pss_nil) (pss_cons (ps_if (PW.pt (pw_or (pt_not (pt_val (pe_call G1 (hr.mono (by decide)) (by rfl) m1 k1 b1 .nil pass0 (pa_cons (pe_ix ix_tup (pv 1) pe_int (fun _ _ => rfl)) pa_nil)))) (pw_or (pt_not (pt_val (pe_call G1 (hr.mono (by decide)) (by rfl) m1 k1 b1 .nil pass0 (pa_cons (pe_ix ix_tup (pv 1) pe_int (fun _ _ => rfl)) pa_nil)))) (pw_or1 (pt_cmp (pc_dnotin (hu_of hr) (pe_ix ix_tup (pv 1) pe_int (fun _ _ => rfl)) (pv 0))))))) (pss_one (ps_ret pe_bl)) pss_nil) (pss_cons (ps_set (i := 2) scRule1.nd rfl (.inl rfl) (pe_dget (hu_of hr) (pv 0) (pe_ix ix_tup (pv 1) pe_int (fun _ _ => rfl)) (fun _ _ => rfl))) (pss_cons (ps_if (pt_cmpR op_eq (pe_callB call_len_seq (by rfl) mlen (by decide +kernel) (pa_cons (pv 1) pa_nil)) pe_int (nomark _)) (pss_one (ps_ret (pe_and (pe_cmpR op_eq (pe_ix ix_tup (pv 1) pe_int (fun _ _ => rfl)) pe_str (nomark _)) (pe_one (pe_call G8 (hr.mono (by decide)) (by rfl) m8 k8 b8 .nil pass0 (pa_cons (pv 0) (pa_cons (pv 2) (pa_cons (pv 1) pa_nil)))))))) pss_nil) (pss_cons (ps_if (pt_cmpR op_eq (pe_ix ix_tup (pv 1) pe_int (fun _ _ => rfl)) pe_str (nomark _)) (pss_one (ps_ret (pe_cmpR op_eq (pe_call G4 (hr.mono (by decide)) (by rfl) m4 k4 b4 .nil pass0 (pa_cons (pv 2) (pa_cons (pe_ix ix_tup (pv 1) pe_int (fun _ _ => rfl)) pa_nil))) pe_str (nomark _)))) pss_nil) (pss_one (ps_ret (pe_and (pe_cmpR (r := rIn K false) op_in_seq (pe_ix ix_tup (pv 1) pe_int (fun _ _ => rfl)) (pe_tup (pa_cons pe_str (pa_cons pe_str pa_nil))) (by rfl)) (pe_one (pe_call G7 (hr.mono (by decide)) (by rfl) m7 k7 b7 .nil pass0 (pa_cons (pv 2) (pa_cons (pe_ix ix_tup (pv 1) pe_int (fun _ _ => rfl)) pa_nil)))))))))))), ?_⟩
  obtain ⟨a, xs, tb, fs, rfl, ha, mt, x0, x2, hL⟩ := rule_head dr okr
  have at0 : ∀ {H'}, Same H H' → SqT K H' a xs := fun s => .inl (.inl (s _ _ ha))
  have okF := okT.val _ mt
  refine ⟨_, rfl, _, .ty "tuple", _, _, true, rfl, .ty _, .base (.tup ha), rfl, _, rfl, ff_if rfl ⟨_, rfl, a, _, rfl, .inr (at0 fun _ _ h => h), small (by show 2 ≤ 1000; decide), fun p np => ⟨p, _, rfl, .inr (.inl (.inl upd_same)), rfl, rfl, _, rfl, ff_if (len46 hL) ?_⟩⟩⟩
  have s0 : Same H (upd H p (.tup [.int 4, .int 6])) := same_new np _
  refine ⟨_, rfl, a, _, 0, _, rfl, rfl, at0 s0, atI_nat (j := 0) x0, n, rfl, okn, fun H1 s1 => ⟨_, rfl, ff_if rfl ?_⟩⟩
  have s01 := s0.trans s1
  refine ⟨_, rfl, a, _, 2, _, rfl, rfl, at0 s01, atI_nat (j := 2) x2, tb, rfl, okT.ok _ mt, fun H2 s2 => ⟨_, rfl, ff_if rfl ?_⟩⟩
  have s02 := s01.trans s2
  obtain ⟨f, dg, dF⟩ := tab_get (dT.same s02) okT.nd mt
  refine ⟨_, rfl, a, _, 2, _, rfl, rfl, at0 s02, atI_nat (j := 2) x2, _, rfl, T, _, rfl, dg, _, rfl, ff_if rfl ?_⟩
  refine ⟨_, rfl, _, rfl, a, _, 2, _, rfl, rfl, at0 s02, atI_nat (j := 2) x2, T, _, rfl, dg, ?_⟩
  have ha2 := s02 _ _ ha
  have dr2 := dr.same s02
  have eqT : ∀ {a' : Addr} {ys : List V}, V.ref a = V.ref a' → H2 a' = some (.tup ys) → xs = ys := fun e h => by
    cases e
    rw [ha2] at h
    cases h
    rfl
  cases okr with
  | @link tb' fd n2 fs' fs2 x y h l h2 tx ty =>
    obtain ⟨a', w, w', e, h', d4, d5⟩ := tests6 dr2
    obtain rfl := eqT e h'
    cases e
    injection x2 with x2
    injection x2 with x2
    subst x2
    have efs : fs' = fs := by
      have e1 := tabAt_of okT.nd h
      rw [tabAt_of okT.nd mt] at e1
      exact (Option.some.inj e1).symm
    subst efs
    have at2 : SqT K H2 a _ := .inl (.inl ha2)
    refine ⟨_, rfl, a, _, rfl, .inr at2, rfl, _, rfl, tt_if (by show decide (V.int ((6 : Nat) : Int) = V.int 6) = true; decide +kernel) ?_⟩
    refine ⟨_, rfl, a, _, 1, _, rfl, rfl, at2, atI_nat (j := 1) rfl, rfl, true, by decide +kernel, tt_if rfl ?_⟩
    exact ⟨_, rfl, _, rfl, _, rfl, T, f, a, w, w', tabs, fs', fs2, n, fd, n2, tb', x, y, A, B, rfl, dT.same s02, okT, dF, okF, ha2, d4, d5, l, h2, tx, ty, fun H3 s3 => q H3 (s02.trans s3)⟩
  | @uniq tb' fd fs' h l =>
    obtain ⟨a', w, e, h', d4⟩ := tests4 dr2
    obtain rfl := eqT e h'
    cases e
    cases d4
    injection x2 with x2
    injection x2 with x2
    subst x2
    have efs : fs' = fs := by
      have e1 := tabAt_of okT.nd h
      rw [tabAt_of okT.nd mt] at e1
      exact (Option.some.inj e1).symm
    subst efs
    have at2 : ∀ {H'}, Same H2 H' → SqT K H' a _ := fun s => .inl (.inl (s _ _ ha2))
    refine ⟨_, rfl, a, _, rfl, .inr (at2 fun _ _ h => h), rfl, _, rfl, ff_if (by show decide (V.int ((4 : Nat) : Int) = V.int 6) = false; decide +kernel) ?_⟩
    refine ⟨_, rfl, a, _, 1, _, rfl, rfl, at2 (fun _ _ h => h), atI_nat (j := 1) rfl, rfl, _, rfl, tt_if (by decide +kernel) ?_⟩
    refine ⟨_, rfl, _, rfl, a, _, 3, _, rfl, rfl, at2 (fun _ _ h => h), atI_nat (j := 3) rfl, f, fs', fd, .tg, A, rfl, dF, okF.ok _ l, fldAt_of okF.nd l, fun H3 s3 => ⟨rfl, ?_⟩⟩
    have e : decide (V.str Fld.tg.sort = V.str "tag") = true := decide_eq_true rfl
    rw [e]
    exact q H3 (s02.trans s3)
  | @one tb' fs' x h tx =>
    obtain ⟨a', w, e, h', d4⟩ := tests4 dr2
    obtain rfl := eqT e h'
    cases e
    injection x2 with x2
    injection x2 with x2
    subst x2
    have efs : fs' = fs := by
      have e1 := tabAt_of okT.nd h
      rw [tabAt_of okT.nd mt] at e1
      exact (Option.some.inj e1).symm
    subst efs
    have at2 : ∀ {H'}, Same H2 H' → SqT K H' a _ := fun s => .inl (.inl (s _ _ ha2))
    refine ⟨_, rfl, a, _, rfl, .inr (at2 fun _ _ h => h), rfl, _, rfl, ff_if (by show decide (V.int ((4 : Nat) : Int) = V.int 6) = false; decide +kernel) ?_⟩
    refine ⟨_, rfl, a, _, 1, _, rfl, rfl, at2 (fun _ _ h => h), atI_nat (j := 1) rfl, rfl, _, rfl, ff_if (by decide +kernel) ?_⟩
    refine ⟨_, rfl, a, _, 1, _, rfl, rfl, at2 (fun _ _ h => h), atI_nat (j := 1) rfl, small (by show 2 ≤ 1000; decide), fun p3 np3 => ⟨p3, _, rfl, .inr (.inl (.inl upd_same)), rfl, rfl, true, by decide +kernel, tt_if rfl ?_⟩⟩
    have s3 : Same H2 (upd H2 p3 (.tup [.str "check", .str "some"])) := same_new np3 _
    exact ⟨_, rfl, _, rfl, a, _, 3, _, rfl, rfl, at2 s3, atI_nat (j := 3) rfl, f, w, fs', _, x, A, B, rfl, dF.same s3, okF, d4.same s3, tx, fun H4 s4 => q H4 ((s02.trans s3).trans s4)⟩
  | @chk tb' fs' x h tx =>
    obtain ⟨a', w, e, h', d4⟩ := tests4 dr2
    obtain rfl := eqT e h'
    cases e
    injection x2 with x2
    injection x2 with x2
    subst x2
    have efs : fs' = fs := by
      have e1 := tabAt_of okT.nd h
      rw [tabAt_of okT.nd mt] at e1
      exact (Option.some.inj e1).symm
    subst efs
    have at2 : ∀ {H'}, Same H2 H' → SqT K H' a _ := fun s => .inl (.inl (s _ _ ha2))
    refine ⟨_, rfl, a, _, rfl, .inr (at2 fun _ _ h => h), rfl, _, rfl, ff_if (by show decide (V.int ((4 : Nat) : Int) = V.int 6) = false; decide +kernel) ?_⟩
    refine ⟨_, rfl, a, _, 1, _, rfl, rfl, at2 (fun _ _ h => h), atI_nat (j := 1) rfl, rfl, _, rfl, ff_if (by decide +kernel) ?_⟩
    refine ⟨_, rfl, a, _, 1, _, rfl, rfl, at2 (fun _ _ h => h), atI_nat (j := 1) rfl, small (by show 2 ≤ 1000; decide), fun p3 np3 => ⟨p3, _, rfl, .inr (.inl (.inl upd_same)), rfl, rfl, true, by decide +kernel, tt_if rfl ?_⟩⟩
    have s3 : Same H2 (upd H2 p3 (.tup [.str "check", .str "some"])) := same_new np3 _
    exact ⟨_, rfl, _, rfl, a, _, 3, _, rfl, rfl, at2 s3, atI_nat (j := 3) rfl, f, w, fs', _, x, A, B, rfl, dF.same s3, okF, d4.same s3, tx, fun H4 s4 => q H4 ((s02.trans s3).trans s4)⟩
end
end Lw

set_option Elab.async false
set_option linter.all false
set_option maxRecDepth 100000
set_option maxHeartbeats 4000000
/-! several dicts locked at once; loops within loops of a comprehension -/
namespace Lw
open PySem PySem.Spec PyProof.Rows L2
def lockN : Nat → TE → TE
  | 0, t => t
  | k + 1, t => tLockE (lockN k t)
theorem pe_lockN {X : Cx} {e : Expr} {t : TE} (h : PE X e t) : ∀ k, PE X e (lockN k t)
  | 0 => h
  | k + 1 => pe_lock (pe_lockN h k)
def lockNS : Nat → TS → TS
  | 0, t => t
  | k + 1, t => tLock (lockNS k t)
theorem ps_lockN {X : Cx} {st : Stmt} {t : TS} (h : PS X st t) : ∀ k, PS X st (lockNS k t)
  | 0 => h
  | k + 1 => ps_lock (ps_lockN h k)
/-- the heap with these locked -/
def lockAll : Hp → List (Addr × HO) → (Addr → Obj) → Hp
  | H, [], _ => H
  | H, p :: r, o => lockAll (upd H p.1 (.frz (o p.1) p.2)) r o
/-- .. and unlocked -/
def freeAll : Hp → List (Addr × HO) → Hp
  | H, [] => H
  | H, p :: r => upd (freeAll H r) p.1 p.2
/-- the ends, once these are unlocked -/
def endsN : List (Addr × HO) → (Addr → Obj) → Ends → Ends
  | [], _, D => D
  | p :: r, o, D => endsN r o ⟨fun σ' H' => H' p.1 = some (.frz (o p.1) p.2) ∧ D.nx σ' (upd H' p.1 p.2), fun v H' => H' p.1 = some (.frz (o p.1) p.2) ∧ D.rt v (upd H' p.1 p.2), fun σ' H' => H' p.1 = some (.frz (o p.1) p.2) ∧ D.bk σ' (upd H' p.1 p.2), fun σ' H' => H' p.1 = some (.frz (o p.1) p.2) ∧ D.ct σ' (upd H' p.1 p.2)⟩
theorem lockAll_cong : ∀ {L : List (Addr × HO)} {H : Hp} {o o' : Addr → Obj}, (∀ p ∈ L, o p.1 = o' p.1) → lockAll H L o = lockAll H L o'
  | [], _, _, _, _ => rfl
  | p :: r, H, o, o', h => by
    show lockAll (upd H p.1 (.frz (o p.1) p.2)) r o = lockAll (upd H p.1 (.frz (o' p.1) p.2)) r o'
    rw [h p List.mem_cons_self, lockAll_cong fun q hq => h q (List.mem_cons_of_mem _ hq)]
theorem endsN_cong : ∀ {L : List (Addr × HO)} {D : Ends} {o o' : Addr → Obj}, (∀ p ∈ L, o p.1 = o' p.1) → endsN L o D = endsN L o' D
  | [], _, _, _, _ => rfl
  | p :: r, D, o, o', h => by
    have e := h p List.mem_cons_self
    have ih : ∀ D, endsN r o D = endsN r o' D := fun D => endsN_cong fun q hq => h q (List.mem_cons_of_mem _ hq)
    unfold endsN
    rw [e, ih]
theorem lockNS_read {t : TS} : ∀ {L : List (Addr × HO)} {D : Ends} {σ : L2.St} {H : Hp}, (L.map (·.1)).Nodup → (∀ p ∈ L, H p.1 = some p.2 ∧ Mut (some p.2)) → (∀ o : Addr → Obj, t (endsN L o D) σ (lockAll H L o)) → lockNS L.length t D σ H
  | [], _, _, _, _, _, h => h fun _ => default
  | p :: r, D, σ, H, nd, al, h => by
    obtain ⟨n1, n2⟩ := List.nodup_cons.mp nd
    obtain ⟨e, mu⟩ := al p List.mem_cons_self
    refine ⟨p.1, p.2, e, mu, fun od => ?_⟩
    have ne : ∀ q ∈ r, q.1 ≠ p.1 := fun q hq z => n1 (by show p.1 ∈ _; rw [← z]; exact List.mem_map_of_mem hq)
    refine lockNS_read (t := t) (L := r) n2 (fun q hq => ?_) fun o => ?_
    · rw [upd_ne (ne q hq)]
      exact al q (List.mem_cons_of_mem _ hq)
    · have h1 := h fun c => if c = p.1 then od else o c
      have c1 : ∀ q ∈ r, (fun c => if c = p.1 then od else o c) q.1 = o q.1 := fun q hq => if_neg (ne q hq)
      have e1 : (fun c => if c = p.1 then od else o c) p.1 = od := if_pos rfl
      unfold endsN lockAll at h1
      rw [lockAll_cong c1, endsN_cong c1, e1] at h1
      exact h1
theorem endsN_nx : ∀ {L : List (Addr × HO)} {o : Addr → Obj} {D : Ends} {σ : L2.St} {Hx : Hp}, (L.map (·.1)).Nodup → (∀ p ∈ L, Hx p.1 = some (.frz (o p.1) p.2)) → D.nx σ (freeAll Hx L) → (endsN L o D).nx σ Hx
  | [], _, _, _, _, _, _, h => h
  | p :: r, o, D, σ, Hx, nd, al, h => by
    obtain ⟨n1, n2⟩ := List.nodup_cons.mp nd
    have stay : ∀ {r : List (Addr × HO)}, p.1 ∉ r.map (·.1) → freeAll Hx r p.1 = Hx p.1 := by
      intro r
      induction r with
      | nil => intro _; rfl
      | cons q r ih =>
        intro n
        rw [List.map_cons, List.mem_cons, not_or] at n
        show upd (freeAll Hx r) q.1 q.2 p.1 = _
        rw [upd_ne n.1]
        exact ih n.2
    exact endsN_nx (L := r) n2 (fun q hq => al q (List.mem_cons_of_mem _ hq)) ⟨(stay n1).trans (al p List.mem_cons_self), h⟩
theorem lockAll_ne : ∀ {L : List (Addr × HO)} {o : Addr → Obj} {H : Hp} {c : Addr}, c ∉ L.map (·.1) → lockAll H L o c = H c
  | [], _, _, _, _ => rfl
  | p :: r, o, H, c, n => by
    rw [List.map_cons, List.mem_cons, not_or] at n
    show lockAll (upd H p.1 _) r o c = _
    rw [lockAll_ne n.2, upd_ne n.1]
theorem lockAll_at : ∀ {L : List (Addr × HO)} {o : Addr → Obj} {H : Hp}, (L.map (·.1)).Nodup → ∀ p ∈ L, lockAll H L o p.1 = some (.frz (o p.1) p.2)
  | p :: r, o, H, nd, q, hq => by
    obtain ⟨n1, n2⟩ := List.nodup_cons.mp nd
    rcases List.mem_cons.mp hq with h | h
    · rw [h]
      show lockAll (upd H p.1 _) r o p.1 = _
      rw [lockAll_ne n1]
      exact upd_same
    · exact lockAll_at n2 q h
theorem freeAll_same : ∀ {L : List (Addr × HO)} {o : Addr → Obj} {H Hx : Hp}, (L.map (·.1)).Nodup → (∀ p ∈ L, H p.1 = some p.2) → Same (lockAll H L o) Hx → Same H (freeAll Hx L) := by
  intro L o H Hx nd al s c u e
  have out : ∀ {r : List (Addr × HO)}, c ∉ r.map (·.1) → freeAll Hx r c = Hx c := by
    intro r
    induction r with
    | nil => intro _; rfl
    | cons q r ih =>
      intro n
      rw [List.map_cons, List.mem_cons, not_or] at n
      show upd (freeAll Hx r) q.1 q.2 c = _
      rw [upd_ne n.1]
      exact ih n.2
  have ins : ∀ {r : List (Addr × HO)}, (∀ p ∈ r, H p.1 = some p.2) → c ∈ r.map (·.1) → freeAll Hx r c = some u := by
    intro r
    induction r with
    | nil => intro _ m; cases m
    | cons q r ih =>
      intro al m
      show upd (freeAll Hx r) q.1 q.2 c = _
      by_cases z : c = q.1
      · subst z
        rw [upd_same, ← e, al q List.mem_cons_self]
      · rw [upd_ne z]
        refine ih (fun p hp => al p (List.mem_cons_of_mem _ hp)) ?_
        rcases List.mem_cons.mp m with h | h
        · exact absurd h z
        · exact h
  by_cases m : c ∈ L.map (·.1)
  · exact ins al m
  · rw [out m]
    exact s c u (by rw [lockAll_ne m]; exact e)
theorem freeAll_ne {Hx : Hp} {c : Addr} : ∀ {r : List (Addr × HO)}, c ∉ r.map (·.1) → freeAll Hx r c = Hx c
  | [], _ => rfl
  | q :: r, n => by
    rw [List.map_cons, List.mem_cons, not_or] at n
    show upd (freeAll Hx r) q.1 q.2 c = _
    rw [upd_ne n.1]
    exact freeAll_ne n.2
/-- each once -/
def ded : List Addr → List Addr
  | [] => []
  | a :: r => if a ∈ r then ded r else a :: ded r
theorem mem_ded {x : Addr} : ∀ {l : List Addr}, x ∈ ded l ↔ x ∈ l
  | [] => Iff.rfl
  | a :: r => by
    unfold ded
    by_cases h : a ∈ r
    · rw [if_pos h, mem_ded, List.mem_cons]
      exact ⟨.inr, fun q => q.elim (fun e => e ▸ h) id⟩
    · rw [if_neg h, List.mem_cons, List.mem_cons, mem_ded]
theorem nodup_ded : ∀ l : List Addr, (ded l).Nodup
  | [] => List.nodup_nil
  | a :: r => by
    unfold ded
    by_cases h : a ∈ r
    · rw [if_pos h]
      exact nodup_ded r
    · rw [if_neg h]
      exact List.nodup_cons.mpr ⟨fun m => h (mem_ded.mp m), nodup_ded r⟩
end Lw

set_option Elab.async false
set_option linter.all false
set_option maxRecDepth 100000
set_option maxHeartbeats 4000000
namespace Lw
open PySem PySem.Spec PyProof.Rows L2
abbrev sTabs : Stmt := topS 27
abbrev NTabs : List Str := ["thing", "fields", "table", "name", "field"]
theorem tab_refs {H : Hp} {A : Addr → Prop} : ∀ {vs : List V} {tabs : Tabs}, DTs H A vs (tabs.map fun p => fieldsT p.2) → ∃ fa : List Addr, vs = fa.map V.ref ∧ ∀ a ∈ fa, ∃ kvs, H a = some (.dK kvs) ∧ A a
  | _, [], .nil => ⟨[], rfl, fun _ h => nomatch h⟩
  | _, p :: r, .cons x y => by
    obtain ⟨fa, h1, h2⟩ := tab_refs y
    obtain ⟨a, kvs, rfl, e, n, _⟩ := x.dctI
    refine ⟨a :: fa, by rw [h1]; rfl, fun b hb => ?_⟩
    rcases List.mem_cons.mp hb with h | h
    · rw [h]; exact ⟨kvs, e, n⟩
    · exact h2 b h
section
variable {P : Program} {w : World} {K : PySem.W.Frag} {mg : Str → Option Value} {base : Heap}
theorem scTabs : FnScope NTabs ["thing"] (defScope sTabs) := ⟨rfl, rfl, rfl, by decide +kernel, rfl, by decide +kernel, by decide +kernel⟩
def spTabs1 : Sp := fun vs H Q _ => ∃ (T : Addr) (tabs : Tabs) (A : Addr → Prop), vs = [.ref T] ∧ DT H A (.ref T) (tablesT tabs) ∧ TabsOk tabs ∧ ∀ H', Same H H' → Q (.bl true) H'
theorem ok_tabs {f f1 f9 : Addr} {fd fd1 fd9 : FuncData} {t1 : Tok} (F : Fun K "_are_tables" "_are_tables" sTabs f fd) (G1 : FnOk P w K mg base CX0 1 f1 fd1 ["thing"] spName1) (m1 : mg "is_name" = some (.ref f1)) (k1 : PySem.W.keepIn K (.ref f1) = true) (b1 : Binds K fd1 ["thing"] [])
    (G9 : FnOk P w K mg base CX0 4 f9 fd9 ["thing"] spFieldsOf1) (m9 : mg "fields_of" = some (.ref f9)) (k9 : PySem.W.keepIn K (.ref f9) = true) (b9 : Binds K fd9 ["thing"] [])
    (mi : mg "isinstance" = none) (md : mg "dict" = none) (mlen : mg "len" = none) (mall : mg "all" = none) (mM : mg "MOST_TABLES" = some (.int 3 t1)) : FnOk P w K mg base CX0 5 f fd ["thing"] spTabs1 := by
  refine F.ok scTabs (fun vs H Q E h => ?_) (fun cdv A0 outer s H vs Q E hr h => ?_)
  · obtain ⟨T, tabs, A, rfl, _⟩ := h
    rfl
  obtain ⟨T, tabs, A, rfl, x, ok, q⟩ := h
  obtain ⟨_, kvs, e1, e, nA, k, nd, few, d⟩ := x.dctI
  cases e1
  obtain ⟨fa, efa, hfa⟩ := tab_refs d
  have dA : DTs H (fun c => A c ∧ c ≠ T) (kvs.map (·.2)) (tabs.map fun p => fieldsT p.2) := DTs.avoid x d (Nat.lt_succ_self _)
  have nT : T ∉ fa := fun m => by
    obtain ⟨fa', h1, h2⟩ := tab_refs dA
    have e2 : fa' = fa := by
      have h3 : fa'.map V.ref = fa.map V.ref := h1.symm.trans efa
      exact List.map_inj_right (fun a b h => by injection h) |>.mp h3
    rw [← e2] at m
    obtain ⟨_, _, _, n⟩ := h2 T m
    exact n rfl
  obtain ⟨L, hL⟩ : ∃ L : List (Addr × HO), L = (T, .dK kvs) :: (ded fa).map fun a => (a, (H a).getD (.lst [])) := ⟨_, rfl⟩
  have Lk : L.map (·.1) = T :: ded fa := by
    rw [hL, List.map_cons, List.map_map]
    congr 1
    exact List.map_id' _
  have ndL : (L.map (·.1)).Nodup := by
    rw [Lk]
    exact List.nodup_cons.mpr ⟨fun m => nT (mem_ded.mp m), nodup_ded fa⟩
  have alL : ∀ p ∈ L, H p.1 = some p.2 ∧ Mut (some p.2) := by
    intro p hp
    rw [hL] at hp
    rcases List.mem_cons.mp hp with h | h
    · rw [h]; exact ⟨e, trivial⟩
    · obtain ⟨a, ha, rfl⟩ := List.mem_map.mp h
      obtain ⟨kv2, h2, _⟩ := hfa a (mem_ded.mp ha)
      show H a = some ((H a).getD _) ∧ Mut (some ((H a).getD _))
      rw [h2]
      exact ⟨rfl, trivial⟩
  refine ⟨_, (pss_cons (ps_if (PW.pt (pw_or (pt_not (pt_val (pe_callB call_isi (by rfl) mi (by decide +kernel) (pa_cons (pv 0) (pa_cons (pe_bltn (v := .ty "dict") (by rfl) md (by decide +kernel) rfl) pa_nil))))) (pw_or1 (pt_not (pt_chain op_le op_le pe_int (pe_callB call_lenD (by rfl) mlen (by decide +kernel) (pa_cons (pv 0) pa_nil)) (pe_glob (v := .int 3) (by rfl) mM ⟨t1, rfl⟩)))))) (pss_one (ps_ret pe_bl)) pss_nil) (pss_cons (ps_if (pt_not (pt_val (pe_callB (cr_all rfl) (by rfl) mall (by decide +kernel) (pa_cons (pe_lock (pe_lc (own := [("table", 2)]) (g := gName 2) (tt := tYes) rfl scTabs.nd (pi_keys (pv 0)) (blkOk_by (N := NTabs) (sc := defScope sTabs) (by decide +kernel)) (fun _ _ _ _ _ => pg_name (i := 2) scTabs.nd rfl (Or.inl rfl)) (fun _ _ _ _ _ => pts_nil) (fun _ _ _ _ _ => (pe_and (pe_call G1 (hr.mono (by decide)) (by rfl) m1 k1 b1 .nil pass0 (pa_cons (pv 2) pa_nil)) (pe_one (pe_call G9 (hr.mono (by decide)) (by rfl) m9 k9 b9 .nil pass0 (pa_cons (pe_dget (hu_of hr) (pv 0) (pv 2) (fun _ _ => rfl)) pa_nil))))))) pa_nil)))) (pss_one (ps_ret pe_bl)) pss_nil) (pss_cons (ps_lockN (ps_setLc2 (i := 1) (own := [("table", 2), ("name", 3)]) (vs1 := [3]) (g := gName 2) (g1 := gName 3) (tt := tYes) (tt1 := tYes) rfl scTabs.nd rfl rfl (sw_true rfl rfl rfl (by decide +kernel)) (pi_keys (pv 0)) (blkOk_by (N := NTabs) (sc := defScope sTabs) (by decide +kernel)) (by decide) (fun _ _ _ _ _ => pg_name (i := 2) scTabs.nd rfl (Or.inl rfl)) (fun _ _ _ _ _ => pts_nil) (fun _ _ _ _ _ => pi_keys (pe_dget (hu_of hr) (pv 0) (pv 2) (fun _ _ => rfl))) (fun _ _ _ _ _ => pg_name (i := 3) scTabs.nd rfl (Or.inl rfl)) (fun _ _ _ _ _ => pts_nil) (fun _ _ _ _ _ => (pe_dget (hu_of hr) (pe_dget (hu_of hr) (pv 0) (pv 2) (fun _ _ => rfl)) (pv 3) (fun _ _ => rfl)))) (L.length)) (pss_one (ps_ret (pe_callB (cr_all rfl) (by rfl) mall (by decide +kernel) (pa_cons (pe_lc (own := [("field", 4)]) (g := gName 4) rfl scTabs.nd (pi_list (pv 1)) (blkOk_by (N := NTabs) (sc := defScope sTabs) (by decide +kernel)) (fun _ _ _ _ _ => pg_name (i := 4) scTabs.nd rfl (Or.inl rfl)) (fun _ _ _ _ _ => pts_one (pt_cmpR (r := rEq) op_eq (pe_ix (r := rIxT K) ix_tup (pv 4) pe_int (fun _ _ => rfl)) pe_str (nomark _))) (fun _ _ _ _ _ => (pe_cmp (pc_din (hu_of hr) (pe_ix (r := rIxT K) ix_tup (pv 4) pe_int (fun _ _ => rfl)) (pv 0))))) pa_nil))))))), ?_⟩
  have lk : kvs.length = tabs.length := by
    have h := congrArg List.length k
    rw [List.length_map, List.length_map, List.length_map] at h
    exact h
  have l1 : 0 < tabs.length := List.length_pos_iff.mpr ok.one
  have l3 := ok.few
  have okn : ∀ n ∈ tabs.map (·.1), NameOk n := fun n hn => by
    obtain ⟨p, hp, rfl⟩ := List.mem_map.mp hn
    exact ok.ok p hp
  refine ⟨_, rfl, _, .ty "dict", _, _, true, rfl, .ty _, .base (.dK e), rfl, _, rfl, ff_if rfl ?_⟩
  refine ⟨_, rfl, T, kvs, rfl, e, 1, _, rfl, rfl, _, rfl, tt_if (decide_eq_true (by omega)) ⟨_, 3, rfl, rfl, _, rfl, ?_⟩⟩
  rw [decide_eq_true (by omega : ((kvs.length : Nat) : Int) ≤ 3)]
  refine ff_if rfl ?_
  -- a table at a turn
  have turn : ∀ {i : Nat} {kk : Key} {vv : V}, kvs[i]? = some (kk, vv) → ∃ z fs a kvf, kk = Sum.inr z ∧ vv = V.ref a ∧ (z, fs) ∈ tabs ∧ valV kvs (.inr z) = some (.ref a) ∧ DT H (fun c => A c ∧ c ≠ T) (.ref a) (fieldsT fs) ∧ a ∈ fa ∧ H a = some (.dK kvf) := by
    intro i kk vv h
    obtain ⟨z, t, h1, h2, h3, h4, h5⟩ := DT.turn k nd dA h
    rw [List.getElem?_map] at h1 h2
    obtain ⟨pr, g1, g2⟩ := Option.map_eq_some_iff.mp h1
    rw [g1] at h2
    obtain ⟨pz, pf⟩ := pr
    cases g2
    cases h2
    obtain ⟨a, kvf, rfl, ea, _⟩ := h5.dctI
    refine ⟨pz, pf, a, kvf, h3, rfl, List.mem_of_getElem? g1, h4, h5, ?_, ea⟩
    have m : V.ref a ∈ kvs.map (·.2) := List.mem_map_of_mem (f := (·.2)) (List.mem_of_getElem? h)
    rw [efa] at m
    obtain ⟨b, hb, eb⟩ := List.mem_map.mp m
    cases eb
    exact hb
  refine ⟨T, _, e, trivial, fun od => ⟨_, rfl, T, od, rfl, .inl ⟨kvs, upd_same, fun D nD => ?_⟩⟩⟩
  refine lc_it walk_keys (fun i Hx => Same (upd H T (.frz od (.dK kvs))) Hx ∧ Hx D = some (.lst (List.replicate i (V.bl true)))) ⟨same_new nD _, upd_same⟩ (fun i Hx _ p => p.1 _ _ upd_same) ?_ ?_
  · rintro i y Hx H' hi ⟨s1, hD⟩ ⟨rfl, kk, vv, hkv, rfl⟩
    obtain ⟨z, fs, a, kvf, rfl, rfl, mz, hv, dv, _, _⟩ := turn hkv
    have dvx : DT H' (fun c => A c ∧ c ≠ T) (.ref a) (fieldsT fs) := dv.mono fun c u hc eu => s1 _ _ (by rw [upd_ne hc.2]; exact eu)
    refine ⟨rfl, yes_if ⟨.str z, rfl, z, rfl, ok.ok _ mz, fun H2 s2 => ⟨true, rfl, tt_if rfl ?_⟩⟩⟩
    refine ⟨_, rfl, .str z, rfl, T, .ref a, rfl, .inl ⟨kvs, .inr z, .inr ⟨od, s2 _ _ (s1 _ _ upd_same)⟩, rfl, hv.symm⟩, .ref a, fs, _, _, rfl, dvx.same s2, ok.val _ mz, okn, fun H3 s3 => ?_⟩
    refine ⟨_, s3 _ _ (s2 _ _ hD), small1000 (by rw [List.length_replicate]; omega), Same.put ((s1.trans s2).trans s3) nD, ?_⟩
    rw [upd_same, List.replicate_succ']
  rintro Hx ⟨s1, hD⟩
  have sH : Same H (upd Hx T (.dK kvs)) := unlock_same e s1
  have nDf : D ≠ T := fun n => by rw [n, s1 _ _ upd_same] at hD; cases hD
  refine ⟨s1 _ _ upd_same, D, List.replicate kvs.length true, rfl, .inl (.inl (by rw [upd_ne nDf, List.map_replicate]; exact hD)), true, by rw [all_true], ff_if rfl ?_⟩
  generalize (upd Hx T (.dK kvs)) = H2 at sH ⊢
  clear s1 hD nDf nD
  have alL2 : ∀ p ∈ L, H2 p.1 = some p.2 ∧ Mut (some p.2) := fun p hp => ⟨sH _ _ (alL p hp).1, (alL p hp).2⟩
  refine lockNS_read ndL alL2 fun o => ?_
  have hFT : lockAll H2 L o T = some (.frz (o T) (.dK kvs)) := lockAll_at ndL (T, .dK kvs) (by rw [hL]; exact List.mem_cons_self)
  have hFa : ∀ {a kvf}, a ∈ fa → H a = some (.dK kvf) → lockAll H2 L o a = some (.frz (o a) (.dK kvf)) := fun {a kvf} m ea => lockAll_at ndL (a, .dK kvf) (by
    rw [hL]
    refine List.mem_cons_of_mem _ (List.mem_map.mpr ⟨a, mem_ded.mpr m, ?_⟩)
    rw [ea]
    rfl)
  have hFL := fun p hp => lockAll_at (o := o) (H := H2) ndL p hp
  have sF : ∀ {Hx}, Same (lockAll H2 L o) Hx → Same H2 (freeAll Hx L) := fun s => freeAll_same ndL (fun p hp => (alL2 p hp).1) s
  generalize (lockAll H2 L o) = HF at hFT hFa hFL sF ⊢
  refine ⟨_, rfl, T, o T, rfl, .inl ⟨kvs, hFT, fun D nD => ?_⟩⟩
  refine ⟨fun i m Hx => m = kvs.length - i ∧ i ≤ kvs.length ∧ Same HF Hx ∧ ∃ acc, Hx D = some (.lst acc) ∧ acc.length ≤ 6 * i ∧ ∀ v ∈ acc, ∃ fl, DT H A v fl.tree ∧ FldOk (tabs.map (·.1)) fl, ⟨_, rfl, Nat.zero_le _, same_new nD _, [], upd_same, Nat.le_refl _, fun _ h => nomatch h⟩, ?_⟩
  rintro i m Hx ⟨rfl, hi, s3, acc0, hD0, la0, ac0⟩
  by_cases lt : i < kvs.length
  · refine .inr ⟨⟨s3 _ _ hFT, lt⟩, fun Hy => Same HF Hy ∧ ∃ acc, Hy D = some (.lst acc) ∧ acc.length ≤ 6 * (i + 1) ∧ ∀ v ∈ acc, ∃ fl, DT H A v fl.tree ∧ FldOk (tabs.map (·.1)) fl, fun H' p' => ⟨_, by omega, rfl, lt, p'⟩, fun y H' yy => ?_⟩
    obtain ⟨rfl, kk, vv, hkv, rfl⟩ := yy
    obtain ⟨z, fs, a, kvf, rfl, rfl, mz, hv, dv, ma, ea⟩ := turn hkv
    have okF := ok.val _ mz
    have l6 : fs.length ≤ 6 := okF.few
    obtain ⟨a', kvf', e1, ea', _, kf, ndf, _, df⟩ := dv.dctI
    cases e1
    rw [ea] at ea'
    cases ea'
    have lkf : kvf.length = fs.length := by
      have h := congrArg List.length kf
      rw [List.length_map, List.length_map, List.length_map] at h
      exact h
    have dgT : ∀ {H6}, Same HF H6 → DGet H6 T (.str z) (some (.ref a)) := fun s => .inl ⟨kvs, .inr z, .inr ⟨o T, s _ _ hFT⟩, rfl, hv.symm⟩
    refine ⟨rfl, yes_if ⟨_, rfl, .str z, rfl, T, _, rfl, dgT s3, a, o a, rfl, .inl ⟨kvf, s3 _ _ (hFa ma ea), ?_⟩⟩⟩
    refine ⟨fun j k' Hy => k' = kvf.length - j ∧ j ≤ kvf.length ∧ Same HF Hy ∧ ∃ acc, Hy D = some (.lst acc) ∧ acc.length ≤ 6 * i + j ∧ ∀ v ∈ acc, ∃ fl, DT H A v fl.tree ∧ FldOk (tabs.map (·.1)) fl, ⟨_, rfl, Nat.zero_le _, s3, acc0, hD0, la0, ac0⟩, ?_⟩
    rintro j k' Hy ⟨rfl, hj, s4, acc, hD, la, ac⟩
    by_cases ltj : j < kvf.length
    · refine .inr ⟨⟨s4 _ _ (hFa ma ea), ltj⟩, fun Hz => Same HF Hz ∧ ∃ acc, Hz D = some (.lst acc) ∧ acc.length ≤ 6 * i + (j + 1) ∧ ∀ v ∈ acc, ∃ fl, DT H A v fl.tree ∧ FldOk (tabs.map (·.1)) fl, fun H' p' => ⟨_, by omega, rfl, ltj, p'⟩, fun y H' yy => ?_⟩
      obtain ⟨rfl, kk2, vv2, hkv2, rfl⟩ := yy
      obtain ⟨z2, t2, h1, h2, rfl, h4, h5⟩ := DT.turn kf ndf df hkv2
      rw [List.getElem?_map] at h1 h2
      obtain ⟨pr, g1, g2⟩ := Option.map_eq_some_iff.mp h1
      rw [g1] at h2
      obtain ⟨pz, fl⟩ := pr
      cases g2
      cases h2
      refine ⟨rfl, yes_if ⟨_, rfl, .str z, rfl, T, _, rfl, dgT s4, .str pz, rfl, a, vv2, rfl, .inl ⟨kvf, .inr pz, .inr ⟨o a, s4 _ _ (hFa ma ea)⟩, rfl, h4.symm⟩, acc, hD, small1000 (by omega), Same.put s4 nD, acc ++ [vv2], upd_same, by rw [List.length_append]; exact Nat.succ_le_succ la, fun v hv => ?_⟩⟩
      rcases List.mem_append.mp hv with h | h
      · exact ac v h
      · rw [List.mem_singleton.mp h]
        exact ⟨fl, h5.sub fun c hc => hc.1, okF.val _ (List.mem_of_getElem? g1)⟩
    · obtain rfl : j = kvf.length := by omega
      exact .inl ⟨⟨s4 _ _ (hFa ma ea), Nat.le_refl _⟩, s4, acc, hD, by omega, ac⟩
  · obtain rfl : i = kvs.length := by omega
    refine .inl ⟨⟨s3 _ _ hFT, Nat.le_refl _⟩, ?_⟩
    refine endsN_nx ndL (fun p hp => s3 _ _ (hFL p hp)) ?_
    have s5 := sH.trans (sF s3)
    have hD5 : freeAll Hx L D = some (.lst acc0) := by
      rw [freeAll_ne fun m => ?_]
      · exact hD0
      · obtain ⟨p, hp, ep⟩ := List.mem_map.mp m
        have h := s3 _ _ (hFL p hp)
        rw [show p.1 = D from ep, hD0] at h
        cases h
    generalize (freeAll Hx L) = H5 at s5 hD5 ⊢
    refine ⟨_, rfl, D, rfl, ⟨_, .inl (.inl hD5)⟩, fun D3 nD3 => ?_⟩
    refine lc_list (K := K) (a := D) (xs := acc0) (fun i Hx => Same H5 Hx ∧ ∃ n, n ≤ i ∧ Hx D3 = some (.lst (List.replicate n (V.bl true)))) ⟨same_new nD3 _, 0, Nat.le_refl _, upd_same⟩ (fun i Hx _ p => .inl (.inl (p.1 _ _ hD5))) ?_ ?_
    · rintro i v Hy hv ⟨s6, n, ln, h3⟩
      have il : i < acc0.length := (List.getElem?_eq_some_iff.mp hv).1
      obtain ⟨fl, dl, ofl⟩ := ac0 v (List.mem_of_getElem? hv)
      have dl6 := dl.same (s5.trans s6)
      cases ofl with
      | @lk n2 mn =>
        obtain ⟨ta, rfl, hta⟩ := lk_at dl6
        obtain ⟨f2, fs2, dg2, _⟩ := tables_get (x.same (s5.trans s6)) mn
        refine ⟨rfl, _, rfl, ta, _, 0, .str "link", rfl, rfl, .inl (.inl hta), atI_nat (j := 0) rfl, rfl, _, rfl, tt_if (by decide +kernel) ?_⟩
        refine ⟨_, rfl, ta, _, 1, .str n2, rfl, rfl, .inl (.inl hta), atI_nat (j := 1) rfl, _, rfl, T, _, rfl, dg2, _, h3, small1000 (by rw [List.length_replicate]; omega), Same.put s6 nD3, n + 1, by omega, ?_⟩
        rw [upd_same, List.replicate_succ']
        rfl
      | mk c dn few nd =>
        obtain ⟨ta, xs, rfl, hta, _⟩ := fld_sort dl6
        exact ⟨rfl, _, rfl, ta, _, 0, .str "mark", rfl, rfl, .inl (.inl hta), atI_nat (j := 0) rfl, rfl, _, rfl, ff_if (by decide +kernel) ⟨s6, n, by omega, h3⟩⟩
      | tg =>
        obtain ⟨ta, xs, rfl, hta, _⟩ := fld_sort dl6
        exact ⟨rfl, _, rfl, ta, _, 0, .str "tag", rfl, rfl, .inl (.inl hta), atI_nat (j := 0) rfl, rfl, _, rfl, ff_if (by decide +kernel) ⟨s6, n, by omega, h3⟩⟩
    · rintro Hy ⟨s6, n, _, h3⟩
      refine ⟨D3, List.replicate n true, rfl, .inl (.inl (by rw [List.map_replicate]; exact h3)), ?_⟩
      rw [all_true]
      exact q _ (s5.trans s6)
end
end Lw

set_option Elab.async false
set_option linter.all false
set_option maxRecDepth 100000
set_option maxHeartbeats 4000000
namespace Lw
open PySem PySem.Spec PyProof.Rows L2
mutual
theorem DT.exist {H : Hp} {A : Addr → Prop} : ∀ {v : V} {t : Tr}, DT H A v t → DT H (fun a => A a ∧ H a ≠ none) v t
  | _, _, .non => .non
  | _, _, .bl b => .bl b
  | _, _, .int i => .int i
  | _, _, .str z => .str z
  | _, _, .lst e n d => .lst e ⟨n, by rw [e]; exact nofun⟩ (DTs.exist d)
  | _, _, .tup e n d => .tup e ⟨n, by rw [e]; exact nofun⟩ (DTs.exist d)
  | _, _, .dct e n k nd few d => .dct e ⟨n, by rw [e]; exact nofun⟩ k nd few (DTs.exist d)
theorem DTs.exist {H : Hp} {A : Addr → Prop} : ∀ {vs : List V} {ts : List Tr}, DTs H A vs ts → DTs H (fun a => A a ∧ H a ≠ none) vs ts
  | _, _, .nil => .nil
  | _, _, .cons x y => .cons (DT.exist x) (DTs.exist y)
end
theorem depths_le {n : Nat} : ∀ {ts : List Tr}, (∀ t ∈ ts, t.depth ≤ n) → Tr.depths ts ≤ n
  | [], _ => Nat.zero_le _
  | t :: r, h => by
    show max t.depth (Tr.depths r) ≤ n
    exact Nat.max_le.mpr ⟨h t List.mem_cons_self, depths_le fun u hu => h u (List.mem_cons_of_mem _ hu)⟩
theorem fews_all : ∀ {ts : List Tr}, (∀ t ∈ ts, t.few = true) → Tr.fews ts = true
  | [], _ => rfl
  | t :: r, h => by
    show (t.few && Tr.fews r) = true
    rw [h t List.mem_cons_self, fews_all fun u hu => h u (List.mem_cons_of_mem _ hu)]
    rfl
theorem strs_depths (ws : List Str) : Tr.depths (ws.map Tr.str) ≤ 0 := depths_le fun t ht => by
  obtain ⟨z, _, rfl⟩ := List.mem_map.mp ht
  exact Nat.le_refl _
theorem strs_fews (ws : List Str) : Tr.fews (ws.map Tr.str) = true := fews_all fun t ht => by
  obtain ⟨z, _, rfl⟩ := List.mem_map.mp ht
  rfl
theorem fld_depth : ∀ fl : Fld, fl.tree.depth ≤ 2
  | .mk ws => by
    have h := strs_depths ws
    show max 0 (max (Tr.depths (ws.map Tr.str) + 1) 0) + 1 ≤ 2
    omega
  | .lk n => by show max 0 (max 0 0) + 1 ≤ 2; omega
  | .tg => by show max 0 0 + 1 ≤ 2; omega
theorem fld_few {ns : List Str} : ∀ {fl : Fld}, FldOk ns fl → fl.tree.few = true
  | .mk ws, .mk c dn few nd => by
    show (decide (2 ≤ 1000) && (true && ((decide ((ws.map Tr.str).length ≤ 1000) && Tr.fews (ws.map Tr.str)) && true))) = true
    rw [strs_fews, List.length_map, decide_eq_true (by omega : ws.length ≤ 1000)]
    rfl
  | .lk n, _ => rfl
  | .tg, _ => rfl
theorem fields_depth (fs : Flds) : (fieldsT fs).depth ≤ 3 := by
  show Tr.depths (fs.map (·.2.tree)) + 1 ≤ 3
  have h : Tr.depths (fs.map (·.2.tree)) ≤ 2 := depths_le fun t ht => by
    obtain ⟨p, _, rfl⟩ := List.mem_map.mp ht
    exact fld_depth p.2
  omega
theorem fields_few {ns : List Str} {fs : Flds} (o : ∀ p ∈ fs, FldOk ns p.2) : (fieldsT fs).few = true := by
  show Tr.fews (fs.map (·.2.tree)) = true
  exact fews_all fun t ht => by
    obtain ⟨p, hp, rfl⟩ := List.mem_map.mp ht
    exact fld_few (o p hp)
theorem fld_canon : ∀ fl : Fld, fl.tree.canon = fl.tree
  | .mk ws => by
    show Tr.tup [.str "mark", .lst (Tr.canons (ws.map Tr.str))] = _
    rw [canons_map, List.map_map]
    rfl
  | .lk n => rfl
  | .tg => rfl
/-- the fields in order -/
def atF (fs : Flds) (z : Str) : Fld := (fldAt fs z).getD .tg
def ordFld : Fld → Fld
  | .mk ws => .mk (sortT ws)
  | f => f
def ordF (fs : Flds) : Flds := (sortT (fs.map (·.1))).map fun z => (z, ordFld (atF fs z))
theorem ordF_keys (fs : Flds) : (ordF fs).map (·.1) = sortT (fs.map (·.1)) := by
  unfold ordF
  rw [List.map_map]
  exact List.map_id' _
theorem fields_canon (fs : Flds) : (fieldsT fs).canon = .dct (sortT (fs.map (·.1))) ((sortT (fs.map (·.1))).map fun z => (atF fs z).tree) := by
  show Tr.dct (sortT (fs.map (·.1))) ((sortT (fs.map (·.1))).map fun z => (lookT (fs.map (·.1)) (Tr.canons (fs.map (·.2.tree))) z).getD .non) = _
  congr 1
  refine List.map_congr_left fun z hz => ?_
  obtain ⟨fl, e, _⟩ := fldAt_mem (sortT_mem.mp hz)
  rw [canons_map, look_map, fld_look, e]
  unfold atF
  rw [e]
  exact fld_canon fl
theorem putK_old {es : List (Str × V)} {z : Str} {v : V} (m : z ∈ es.map (·.1)) : putK (tkD es) (.inr z) v = tkD (es.map fun p => if p.1 = z then (p.1, v) else p) := by
  have yes : (tkD es).any (fun kv => decide (kv.1 = Sum.inr z)) = true := by
    rw [List.any_eq_true]
    obtain ⟨p, hp, e⟩ := List.mem_map.mp m
    exact ⟨_, List.mem_map_of_mem hp, decide_eq_true (by rw [← e])⟩
  unfold putK
  rw [if_pos yes]
  show (es.map _).map _ = (es.map _).map _
  rw [List.map_map, List.map_map]
  refine List.map_congr_left fun p _ => ?_
  by_cases q : p.1 = z
  · show (if (Sum.inr p.1 : Key) = Sum.inr z then ((Sum.inr p.1 : Key), v) else (Sum.inr p.1, p.2)) = _
    rw [if_pos (by rw [q])]
    show _ = (fun p : Str × V => ((Sum.inr p.1 : Key), p.2)) (if p.1 = z then (p.1, v) else p)
    rw [if_pos q]
  · show (if (Sum.inr p.1 : Key) = Sum.inr z then ((Sum.inr p.1 : Key), v) else (Sum.inr p.1, p.2)) = _
    rw [if_neg (fun n => q (Sum.inr.inj n))]
    show _ = (fun p : Str × V => ((Sum.inr p.1 : Key), p.2)) (if p.1 = z then (p.1, v) else p)
    rw [if_neg q]
/-- a dict's cells, by their names -/
abbrev Cur (H : Hp) (A : Addr → Prop) (g : Str → Fld) (es : List (Str × V)) (ks : List Str) : Prop := Paired (fun e z => e.1 = z ∧ DT H A e.2 (g z).tree) es ks
theorem Cur.keys {H : Hp} {A : Addr → Prop} {g : Str → Fld} {es : List (Str × V)} {ks : List Str} (x : Cur H A g es ks) : es.map (·.1) = ks := by
  induction x with
  | nil => rfl
  | cons a _ ih => rw [List.map_cons, ih, a.1]
theorem Cur.vals {H : Hp} {A : Addr → Prop} {g : Str → Fld} {es : List (Str × V)} {ks : List Str} (x : Cur H A g es ks) : DTs H A (es.map (·.2)) (ks.map fun z => (g z).tree) := by
  induction x with
  | nil => exact .nil
  | cons a _ ih => exact .cons a.2 ih
theorem Cur.of {H : Hp} {A : Addr → Prop} {g : Str → Fld} : ∀ {kvs : List (Key × V)} {ks : List Str}, kvs.map (·.1) = ks.map Sum.inr → DTs H A (kvs.map (·.2)) (ks.map fun z => (g z).tree) → ∃ es, kvs = tkD es ∧ Cur H A g es ks
  | [], [], _, _ => ⟨[], rfl, .nil⟩
  | (kk, v) :: r, z :: ks, k, .cons x y => by
    obtain ⟨k1, k2⟩ := List.cons.inj k
    have k1 : kk = Sum.inr z := k1
    subst k1
    obtain ⟨es, h1, h2⟩ := Cur.of k2 y
    exact ⟨(z, v) :: es, by rw [h1]; rfl, .cons ⟨rfl, x⟩ h2⟩
theorem Cur.put {H H' : Hp} {A : Addr → Prop} {g g' : Str → Fld} {es : List (Str × V)} {ks : List Str} {z : Str} {v : V} (x : Cur H A g es ks) (up : ∀ v t, DT H A v t → DT H' A v t) (dv : DT H' A v (g' z).tree) (e : ∀ y, y ≠ z → g' y = g y) : Cur H' A g' (es.map fun p => if p.1 = z then (p.1, v) else p) ks := by
  induction x with
  | nil => exact .nil
  | @cons p y es ks a _ ih =>
    refine .cons ?_ ih
    show (if p.1 = z then (p.1, v) else p).1 = y ∧ DT H' A (if p.1 = z then (p.1, v) else p).2 (g' y).tree
    by_cases q : p.1 = z
    · rw [if_pos q]
      exact ⟨a.1, by rw [← a.1, q]; exact dv⟩
    · rw [if_neg q]
      exact ⟨a.1, by rw [e y (fun n => q (a.1.trans n))]; exact up _ _ a.2⟩
theorem Cur.mono {H H' : Hp} {A : Addr → Prop} {g g' : Str → Fld} {es : List (Str × V)} {ks : List Str} (x : Cur H A g es ks) (up : ∀ v t, DT H A v t → DT H' A v t) (e : ∀ y ∈ ks, g' y = g y) : Cur H' A g' es ks := by
  induction x with
  | nil => exact .nil
  | @cons p y es ks a _ ih => exact .cons ⟨a.1, by rw [e y List.mem_cons_self]; exact up _ _ a.2⟩ (ih fun z hz => e z (List.mem_cons_of_mem _ hz))
end Lw

set_option Elab.async false
set_option linter.all false
set_option maxRecDepth 100000
set_option maxHeartbeats 4000000
namespace Lw
open PySem PySem.Spec PyProof.Rows L2
abbrev sOrd : Stmt := topS 28
section
variable {P : Program} {w : World} {K : PySem.W.Frag} {mg : Str → Option Value} {base : Heap}
theorem scOrd : FnScope ["fields", "copy", "name"] ["fields"] (defScope sOrd) := ⟨rfl, rfl, rfl, by decide +kernel, rfl, by decide +kernel, by decide +kernel⟩
def spOrd : Sp := fun vs H Q _ => ∃ (f : Addr) (fs : Flds) (ns : List Str) (A : Addr → Prop), vs = [.ref f] ∧ DT H A (.ref f) (fieldsT fs) ∧ FldsOk ns fs ∧ ∀ (p : Addr) (H' : Hp), Same H H' → DT H' (fun c => H c = none) (.ref p) (fieldsT (ordF fs)) → Q (.ref p) H'
theorem ok_ord {f f2 : Addr} {fd fd2 : FuncData} (F : Fun K "_ordered" "_ordered" sOrd f fd) (G2 : FnOk P w K mg base CX0 4 f2 fd2 ["thing"] (spCopy 4)) (m2 : mg "copy_of" = some (.ref f2)) (k2 : PySem.W.keepIn K (.ref f2) = true) (b2 : Binds K fd2 ["thing"] [])
    (mso : mg "sorted" = none) : FnOk P w K mg base CX0 5 f fd ["fields"] spOrd := by
  refine F.ok scOrd (fun vs H Q E h => ?_) (fun cdv A0 outer s H vs Q E hr h => ?_)
  · obtain ⟨f, fs, ns, A, rfl, _⟩ := h
    rfl
  obtain ⟨f, fs, ns, A, rfl, x, o, q⟩ := h
  refine ⟨_, (pss_cons (ps_set (i := 1) scOrd.nd rfl (.inl rfl) (pe_call G2 (hr.mono (by decide)) (by rfl) m2 k2 b2 .nil pass0 (pa_cons (pv 0) pa_nil))) (pss_cons (ps_lock (ps_for PassesOwn.never rfl (pi_keys (pv 0)) (pg_name (i := 2) scOrd.nd rfl (.inl rfl)) (pss_one (ps_if (pt_cmpR op_eq (pe_ix ix_tup (pe_dget (hu_of hr) (pv 0) (pv 2) (fun _ _ => rfl)) pe_int (fun _ _ => rfl)) pe_str (nomark _)) (pss_one (ps_dput (hu_of hr) (pv 1) (pv 2) (pe_tup (pa_cons pe_str (pa_cons (pe_callB cr_sortedS (by rfl) mso (by decide +kernel) (pa_cons (pe_ix ix_tup (pe_dget (hu_of hr) (pv 0) (pv 2) (fun _ _ => rfl)) pe_int (fun _ _ => rfl)) pa_nil)) pa_nil))) (by rfl))) pss_nil)))) (pss_one (ps_ret (pv 1))))), ?_⟩
  refine ⟨_, rfl, .ref f, fieldsT fs, A, rfl, x, Nat.lt_of_le_of_lt (fields_depth fs) (by decide), fields_few o.val, fun v' M H1 s1 dl ndM new => ?_⟩
  rw [fields_canon] at dl
  have dlt : DT H1 (· ∈ M) v' _ := dl.dt fun a h => h
  obtain ⟨cp, kvc, rfl, ec, mcp, kc, ndc, fewc, dc⟩ := dlt.dctI
  have x1 := x.exist.same s1
  obtain ⟨f', kvs, e1, e, nA, k, nd, few, d⟩ := x1.dctI
  cases e1
  have lk : kvs.length = fs.length := by
    have h := congrArg List.length k
    rw [List.length_map, List.length_map, List.length_map] at h
    exact h
  have l6 := o.few
  have dA : DTs H1 (fun c => (A c ∧ H c ≠ none) ∧ c ≠ f) (kvs.map (·.2)) (fs.map (·.2.tree)) := DTs.avoid x1 d (Nat.lt_succ_self _)
  have ncp : H cp = none := new cp mcp
  have hf : H f ≠ none := nA.2
  have nfc : cp ≠ f := fun n => hf (by rw [← n]; exact ncp)
  -- the copy's cells, beside the copy itself
  have dcA : DTs H1 (fun c => H c = none ∧ c ≠ cp) (kvc.map (·.2)) ((sortT (fs.map (·.1))).map fun z => (atF fs z).tree) :=
    (DTs.avoid dlt dc (Nat.lt_succ_self _)).sub fun c h => ⟨new c h.1, h.2⟩
  obtain ⟨es0, rfl, cur0⟩ := Cur.of kc dcA
  refine ⟨f, _, e, trivial, fun od => ⟨_, rfl, f, od, rfl, .inl ⟨kvs, upd_same, ?_⟩⟩⟩
  have hF : (upd H1 f (.frz od (.dK kvs))) f = some (.frz od (.dK kvs)) := upd_same
  have hO : ∀ c, c ≠ f → (upd H1 f (.frz od (.dK kvs))) c = H1 c := fun c n => upd_ne n
  generalize (upd H1 f (.frz od (.dK kvs))) = HF at hF hO ⊢
  refine for_it walk_keys (fun i σ Hx => (∃ o2, σ = [some (.ref f), some (.ref cp), o2]) ∧ (∀ c u, HF c = some u → c ≠ cp → Hx c = some u) ∧ ∃ es, Hx cp = some (.dK (tkD es)) ∧
      Cur Hx (fun c => H c = none ∧ c ≠ cp) (fun z => if z ∈ (fs.map (·.1)).take i then ordFld (atF fs z) else atF fs z) es (sortT (fs.map (·.1))))
    ⟨⟨_, rfl⟩, fun c u h _ => h, es0, by rw [hO cp nfc]; exact ec, cur0.mono (fun v t dt => dt.mono fun c u hc eu => by rw [hO c (fun n => hf (by rw [← n]; exact hc.1))]; exact eu) fun y _ => by
      rw [List.take_zero]
      exact if_neg (fun h => nomatch h)⟩
    (fun i σ Hx _ p => p.2.1 _ _ hF nfc.symm) ?_ ?_
  · rintro i y σ Hx H' hi ⟨⟨o2, rfl⟩, keep, es, hcp, cur⟩ ⟨rfl, kk, vv, hkv, rfl⟩
    obtain ⟨z, t, h1, h2, rfl, h4, h5⟩ := DT.turn k nd dA hkv
    rw [List.getElem?_map] at h2
    obtain ⟨pr, g1, g2⟩ := Option.map_eq_some_iff.mp h2
    have hz : (fs.map (·.1))[i]? = some pr.1 := by rw [List.getElem?_map, g1]; rfl
    rw [h1] at hz
    obtain ⟨pz, fl⟩ := pr
    have ez : z = pz := Option.some.inj hz
    subst ez
    subst g2
    have mem : (z, fl) ∈ fs := List.mem_of_getElem? g1
    have eat : atF fs z = fl := by
      unfold atF
      rw [fldAt_of o.nd mem]
      rfl
    have zks : z ∈ sortT (fs.map (·.1)) := sortT_mem.mpr (List.mem_map_of_mem (f := (·.1)) mem)
    have e1 : (fs.map (·.1)).take (i + 1) = (fs.map (·.1)).take i ++ [z] := by
      rw [List.take_add_one, h1]
      rfl
    have gs : ∀ y, y ≠ z → (if y ∈ (fs.map (·.1)).take (i + 1) then ordFld (atF fs y) else atF fs y) = if y ∈ (fs.map (·.1)).take i then ordFld (atF fs y) else atF fs y := fun y ny => by
      rw [e1]
      by_cases m : y ∈ (fs.map (·.1)).take i
      · rw [if_pos m, if_pos (List.mem_append_left _ m)]
      · rw [if_neg m, if_neg (fun h => (List.mem_append.mp h).elim m fun h => ny (List.mem_singleton.mp h))]
    have gz : (if z ∈ (fs.map (·.1)).take (i + 1) then ordFld (atF fs z) else atF fs z) = ordFld fl := by
      rw [if_pos (by rw [e1]; exact List.mem_append_right _ List.mem_cons_self), eat]
    have gz0 : (if z ∈ (fs.map (·.1)).take i then ordFld (atF fs z) else atF fs z) = fl := by
      rw [if_neg (take_not_mem o.nd h1), eat]
    have dv : DT H' (fun c => (A c ∧ H c ≠ none) ∧ c ≠ f) vv fl.tree := h5.mono fun c u hc eu => keep c u (by rw [hO c hc.2]; exact eu) fun n => hc.1.2 (by rw [n]; exact ncp)
    have dg : ∀ {H6}, H6 f = some (.frz od (.dK kvs)) → DGet H6 f (.str z) (some vv) := fun h => .inl ⟨kvs, .inr z, .inr ⟨od, h⟩, rfl, h4.symm⟩
    have hfx := keep _ _ hF nfc.symm
    obtain ⟨ta, xs, rfl, hta, _⟩ := fld_sort dv
    refine ⟨_, rfl, .str z, rfl, f, _, rfl, dg hfx, ta, _, 0, .str fl.sort, rfl, rfl, .inl (.inl hta), atI_nat (j := 0) rfl, rfl, _, rfl, ?_⟩
    have plain : ordFld fl = fl → (∃ o2, [some (V.ref f), some (V.ref cp), some (kV (Sum.inr z))] = [some (V.ref f), some (V.ref cp), o2]) ∧ (∀ c u, HF c = some u → c ≠ cp → H' c = some u) ∧ ∃ es, H' cp = some (.dK (tkD es)) ∧
      Cur H' (fun c => H c = none ∧ c ≠ cp) (fun z => if z ∈ (fs.map (·.1)).take (i + 1) then ordFld (atF fs z) else atF fs z) es (sortT (fs.map (·.1))) := fun eo => ⟨⟨_, rfl⟩, keep, es, hcp, cur.mono (fun _ _ h => h) fun y _ => by
        by_cases ny : y = z
        · subst ny
          rw [gz, gz0, eo]
        · exact gs y ny⟩
    cases fl with
    | lk n => exact ff_if (by show decide (V.str "link" = V.str "mark") = false; decide +kernel) (plain rfl)
    | tg => exact ff_if (by show decide (V.str "tag" = V.str "mark") = false; decide +kernel) (plain rfl)
    | mk ws =>
      obtain ⟨a', xs', e2, ha', _, dd⟩ := dv.tupI
      cases e2
      rw [hta] at ha'
      cases ha'
      cases dd with
      | cons p1 r1 =>
        cases r1 with
        | cons p2 r2 =>
          cases r2
          obtain ⟨l, ys, rfl, hl, _, zz⟩ := p2.lstI
          rw [DTs.strs zz] at hl
          have fw : ws.length ≤ 4 := by
            cases o.val _ mem with
            | mk c dn few nd => exact few
          refine tt_if (by show decide (V.str "mark" = V.str "mark") = true; decide +kernel) ?_
          refine ⟨_, rfl, .str z, rfl, f, _, rfl, dg hfx, ta, _, 1, .ref l, rfl, rfl, .inl (.inl hta), atI_nat (j := 1) rfl, l, ws, rfl, .inl (.inl hl), by omega, fun ys p pm srt np => ?_⟩
          obtain rfl : ys = sortT ws := sort_eq pm srt
          refine ⟨small (by show 2 ≤ 1000; decide), fun t nt => ⟨_, rfl, _, rfl, cp, upd (upd (upd H' p (.lst ((sortT ws).map V.str))) t (.tup [.str "mark", .ref p])) cp (.dK (putK (tkD es) (Sum.inr z) (V.ref t))), rfl, ?_⟩⟩
          have sp : Same H' (upd (upd H' p (.lst ((sortT ws).map V.str))) t (.tup [.str "mark", .ref p])) := (same_new np _).trans (same_new nt _)
          have ht : (upd (upd H' p (.lst ((sortT ws).map V.str))) t (.tup [.str "mark", .ref p])) t = some (.tup [.str "mark", .ref p]) := upd_same
          have hp : (upd (upd H' p (.lst ((sortT ws).map V.str))) t (.tup [.str "mark", .ref p])) p = some (.lst ((sortT ws).map V.str)) := same_new nt _ _ _ upd_same
          have n2 : p ≠ cp := ne_of_none hcp np |>.symm
          have n1 : t ≠ cp := fun n => by
            have h := same_new np (.lst ((sortT ws).map V.str)) _ _ hcp
            rw [← n, nt] at h
            cases h
          have free : ∀ c, H' c = none → H c = none := fun c hc => by
            by_cases q : c = cp
            · rw [q]; exact ncp
            · refine Classical.byContradiction fun hn => ?_
              obtain ⟨u, hu⟩ := Option.ne_none_iff_exists'.mp hn
              have hu1 := s1 _ _ hu
              by_cases qf : c = f
              · rw [qf, hfx] at hc; cases hc
              · rw [keep c u (by rw [hO c qf]; exact hu1) q] at hc
                cases hc
          have fp : H p = none := free p np
          have ft : H t = none := by
            refine free t ?_
            have h := (same_new np (.lst ((sortT ws).map V.str))).free nt
            exact h
          generalize (upd (upd H' p (.lst ((sortT ws).map V.str))) t (.tup [.str "mark", .ref p])) = Ht at sp ht hp ⊢
          have hcpt := sp _ _ hcp
          have zes : z ∈ es.map (·.1) := by rw [cur.keys]; exact zks
          have les : es.length ≤ 6 := by
            have h := congrArg List.length cur.keys
            rw [List.length_map, sortT_len, List.length_map] at h
            omega
          refine ⟨.inl ⟨tkD es, .inr z, hcpt, rfl, small1000 (by rw [List.length_map]; omega), rfl⟩, ⟨_, rfl⟩, fun c u h n => ?_, es.map (fun p => if p.1 = z then (p.1, V.ref t) else p), by rw [upd_same, putK_old zes], ?_⟩
          · rw [upd_ne n]
            exact sp _ _ (keep c u h n)
          · refine cur.put (fun v t dt => (dt.same sp).mono fun c u hc eu => by rw [upd_ne hc.2]; exact eu) ?_ gs
            rw [gz]
            exact .tup (by rw [upd_ne n1]; exact ht) ⟨ft, n1⟩ (.cons (.str _) (.cons (.lst (by rw [upd_ne n2]; exact hp) ⟨fp, n2⟩ (DTs.ofStrs _)) .nil))
  · rintro σ Hx ⟨⟨o2, rfl⟩, keep, es, hcp, cur⟩
    have hfx := keep _ _ hF nfc.symm
    refine ⟨hfx, _, rfl, q cp _ (fun c u h => ?_) ?_⟩
    · have h1 := s1 _ _ h
      by_cases qf : c = f
      · subst qf
        rw [upd_same, ← h1, e]
      · rw [upd_ne qf]
        exact keep c u (by rw [hO c qf]; exact h1) fun n => by rw [n, ncp] at h; cases h
    · have all : (fs.map (·.1)).take kvs.length = fs.map (·.1) := List.take_of_length_le (by rw [List.length_map]; omega)
      rw [all] at cur
      refine .dct (kvs := tkD es) (by rw [upd_ne nfc]; exact hcp) ncp (by rw [tkD_keys, cur.keys, ordF_keys]) (by rw [ordF_keys]; exact ndc) (by rw [ordF_keys]; exact fewc) ?_
      rw [tkD_vals]
      have hv := cur.vals
      have e3 : ((sortT (fs.map (·.1))).map fun z => (if z ∈ fs.map (·.1) then ordFld (atF fs z) else atF fs z).tree) = (ordF fs).map (·.2.tree) := by
        unfold ordF
        rw [List.map_map]
        refine List.map_congr_left fun z hz => ?_
        rw [if_pos (sortT_mem.mp hz)]
        rfl
      rw [e3] at hv
      exact (hv.mono fun c u hc eu => by rw [upd_ne (fun n => hf (by rw [← n]; exact hc.1))]; exact eu).sub fun c hc => hc.1
end
end Lw

set_option Elab.async false
set_option linter.all false
set_option maxRecDepth 100000
set_option maxHeartbeats 4000000
namespace Lw
open PySem PySem.Spec PyProof.Rows L2
theorem Cur.snoc {H H' : Hp} {A : Addr → Prop} {g : Str → Fld} {es : List (Str × V)} {ks : List Str} {z : Str} {v : V} (x : Cur H A g es ks) (up : ∀ v t, DT H A v t → DT H' A v t) (dv : DT H' A v (g z).tree) : Cur H' A g (es ++ [(z, v)]) (ks ++ [z]) := by
  induction x with
  | nil => exact .cons ⟨rfl, dv⟩ .nil
  | cons a _ ih => exact .cons ⟨a.1, up _ _ a.2⟩ ih
abbrev sPlain : Stmt := topS 44
abbrev NPlain : List Str := ["_law_fields_here", "_law_found", "_law_name", "_law_sort"]
section
variable {P : Program} {w : World} {K : PySem.W.Frag} {mg : Str → Option Value} {base : Heap}
theorem scPlain : FnScope NPlain ["_law_fields_here"] (defScope sPlain) := ⟨rfl, rfl, rfl, by decide +kernel, rfl, by decide +kernel, by decide +kernel⟩
def spPlain : Sp := fun vs H Q _ => ∃ (f : Addr) (fs : Flds) (ns : List Str) (A : Addr → Prop), vs = [.ref f] ∧ DT H A (.ref f) (fieldsT fs) ∧ FldsOk ns fs ∧ ∀ (p : Addr) (H' : Hp), Same H H' → H p = none → DT H' (fun c => (A c ∧ H c ≠ none) ∨ H c = none) (.ref p) (fieldsT (ordF fs)) → Q (.ref p) H'
theorem ok_plain {f : Addr} {fd : FuncData} (F : Fun K "_law_plain_fields" "_law_plain_fields" sPlain f fd) (mso : mg "sorted" = none) : FnOk P w K mg base CX0 1 f fd ["_law_fields_here"] spPlain := by
  refine F.ok scPlain (fun vs H Q E h => ?_) (fun cdv A0 outer s H vs Q E hr h => ?_)
  · obtain ⟨f, fs, ns, A, rfl, _⟩ := h
    rfl
  obtain ⟨f, fs, ns, A, rfl, x, o, q⟩ := h
  refine ⟨_, (pss_cons (ps_set (i := 1) scPlain.nd rfl (.inl rfl) pe_dnewK) (pss_cons (ps_for PassesOwn.never rfl (pi_list (pe_callB (call_sortedD rfl) (by rfl) mso (by decide +kernel) (pa_cons (pv 0) pa_nil))) (pg_name (i := 2) scPlain.nd rfl (.inl rfl)) (pss_cons (ps_set (i := 3) scPlain.nd rfl (.inl rfl) (pe_dget (hu_of hr) (pv 0) (pv 2) (fun _ _ => rfl))) (pss_one (ps_dput (hu_of hr) (pv 1) (pv 2) (pe_ifExp (pt_cmpR op_eq (pe_ix ix_tup (pv 3) pe_int (fun _ _ => rfl)) pe_str (nomark _)) (pe_tup (pa_cons pe_str (pa_cons (pe_callB cr_sortedS (by rfl) mso (by decide +kernel) (pa_cons (pe_ix ix_tup (pv 3) pe_int (fun _ _ => rfl)) pa_nil)) pa_nil))) (pv 3)) (by rfl))))) (pss_one (ps_ret (pv 1))))), ?_⟩
  have l6 := o.few
  refine fun D nD => ?_
  have s0 : Same H (upd H D (.dK [])) := same_new nD _
  have hD0 : (upd H D (.dK [])) D = some (.dK []) := upd_same
  have x0 := x.exist.same s0
  generalize (upd H D (.dK [])) = H0 at s0 hD0 x0 ⊢
  obtain ⟨f', kvs, e1, e, nA, k, nd, few, d⟩ := x0.dctI
  cases e1
  have nDf : D ≠ f := fun n => nA.2 (by rw [← n]; exact nD)
  refine ⟨_, rfl, f, kvs, _, rfl, .inl e, k, few, fun ys p pm srt np => ?_⟩
  obtain rfl : ys = sortT (fs.map (·.1)) := sort_eq pm srt
  have s1 : Same H0 (upd H0 p (.lst ((sortT (fs.map (·.1))).map V.str))) := same_new np _
  have hp : (upd H0 p (.lst ((sortT (fs.map (·.1))).map V.str))) p = some (.lst ((sortT (fs.map (·.1))).map V.str)) := upd_same
  have npD : p ≠ D := fun n => by rw [n, hD0] at np; cases np
  have hD1 := s1 _ _ hD0
  generalize (upd H0 p (.lst ((sortT (fs.map (·.1))).map V.str))) = H1 at s1 hp hD1 ⊢
  refine ⟨p, rfl, ⟨_, .inl (.inl hp)⟩, ?_⟩
  refine for_list (K := K) (a := p) (xs := (sortT (fs.map (·.1))).map V.str) (fun i σ Hx => (∃ o2 o3, σ = [some (.ref f), some (.ref D), o2, o3]) ∧ (∀ c u, H1 c = some u → c ≠ D → Hx c = some u) ∧ ∃ es, Hx D = some (.dK (tkD es)) ∧ Cur Hx (fun c => ((A c ∧ H c ≠ none) ∨ H c = none) ∧ c ≠ D) (fun z => ordFld (atF fs z)) es ((sortT (fs.map (·.1))).take i))
    ⟨⟨_, _, rfl⟩, fun c u h _ => h, [], hD1, .nil⟩ (fun i σ Hx _ q => .inl (.inl (q.2.1 _ _ hp npD))) ?_ ?_
  · rintro i y σ Hx hy ⟨⟨o2, o3, rfl⟩, keep, es, hD, cur⟩
    obtain ⟨z, hz, rfl⟩ := map_get hy
    have zk : z ∈ fs.map (·.1) := sortT_mem.mp (List.mem_of_getElem? hz)
    have xx : DT Hx (fun c => A c ∧ H c ≠ none) (.ref f) (fieldsT fs) := x0.mono fun c u hc eu => keep c u (s1 _ _ eu) fun n => hc.2 (by rw [n]; exact nD)
    obtain ⟨v, fl, dg, efl, dv⟩ := fields_get xx zk
    have eat : atF fs z = fl := by unfold atF; rw [efl]; rfl
    have e1 : (sortT (fs.map (·.1))).take (i + 1) = (sortT (fs.map (·.1))).take i ++ [z] := by
      rw [List.take_add_one, hz]
      rfl
    have les : es.length ≤ 6 := by
      have h := congrArg List.length cur.keys
      have h2 := sortT_len (fs.map (·.1))
      rw [List.length_map, List.length_take, h2, List.length_map] at h
      omega
    have zno : (Sum.inr z : Key) ∉ (tkD es).map (·.1) := fun m => by
      rw [tkD_keys, cur.keys] at m
      obtain ⟨y, hy, e⟩ := List.mem_map.mp m
      rw [Sum.inr.inj e] at hy
      exact take_not_mem (sortT_nodup o.nd) hz hy
    have put : ∀ v', putK (tkD es) (Sum.inr z) v' = tkD (es ++ [(z, v')]) := fun v' => by
      rw [L2.putK_new v' (valV_no zno)]
      show _ = List.map _ (es ++ [(z, v')])
      rw [List.map_append]
      rfl
    have free : ∀ c, Hx c = none → H c = none := fun c hc => by
      refine Classical.byContradiction fun hn => ?_
      obtain ⟨u, hu⟩ := Option.ne_none_iff_exists'.mp hn
      by_cases q : c = D
      · rw [q, hD] at hc; cases hc
      · rw [keep c u (s1 _ _ (s0 _ _ hu)) q] at hc
        cases hc
    obtain ⟨ta, xs, rfl, hta, _⟩ := fld_sort dv
    refine ⟨_, rfl, .str z, rfl, f, .ref ta, rfl, dg, ?_⟩
    refine ⟨_, rfl, ta, _, 0, .str fl.sort, rfl, rfl, .inl (.inl hta), atI_nat (j := 0) rfl, rfl, _, rfl, ?_⟩
    have plain : ordFld fl = fl → ∃ a H4, V.ref D = V.ref a ∧ DPut Hx a (.str z) (.ref ta) H4 ∧ (∀ c u, H1 c = some u → c ≠ D → H4 c = some u) ∧ ∃ es, H4 D = some (.dK (tkD es)) ∧ Cur H4 (fun c => ((A c ∧ H c ≠ none) ∨ H c = none) ∧ c ≠ D) (fun z => ordFld (atF fs z)) es ((sortT (fs.map (·.1))).take (i + 1)) := fun eo => by
      refine ⟨D, upd Hx D (.dK (putK (tkD es) (Sum.inr z) (.ref ta))), rfl, .inl ⟨tkD es, .inr z, hD, rfl, small1000 (by rw [List.length_map]; omega), rfl⟩, fun c u h n => by rw [upd_ne n]; exact keep c u h n, es ++ [(z, .ref ta)], by rw [upd_same, put], ?_⟩
      rw [e1]
      refine cur.snoc (fun v t dt => dt.mono fun c u hc eu => by rw [upd_ne hc.2]; exact eu) ?_
      rw [eat, eo]
      exact (dv.sub (B := fun c => ((A c ∧ H c ≠ none) ∨ H c = none) ∧ c ≠ D) fun c hc => ⟨.inl hc, fun n => hc.2 (by rw [n]; exact nD)⟩).mono fun c u hc eu => by rw [upd_ne hc.2]; exact eu
    cases fl with
    | lk n =>
      obtain ⟨a, H4, ea, dp, h3, h4⟩ := plain rfl
      exact ff_if (by show decide (V.str "link" = V.str "mark") = false; decide +kernel) ⟨_, rfl, _, rfl, _, rfl, a, H4, ea, dp, ⟨_, _, rfl⟩, h3, h4⟩
    | tg =>
      obtain ⟨a, H4, ea, dp, h3, h4⟩ := plain rfl
      exact ff_if (by show decide (V.str "tag" = V.str "mark") = false; decide +kernel) ⟨_, rfl, _, rfl, _, rfl, a, H4, ea, dp, ⟨_, _, rfl⟩, h3, h4⟩
    | mk ws =>
      obtain ⟨a', xs', e2, ha', _, dd⟩ := dv.tupI
      cases e2
      rw [hta] at ha'
      cases ha'
      cases dd with
      | cons p1 r1 =>
        cases r1 with
        | cons p2 r2 =>
          cases r2
          obtain ⟨l, ys, rfl, hl, _, zz⟩ := p2.lstI
          rw [DTs.strs zz] at hl
          have mem : (z, Fld.mk ws) ∈ fs := by
            obtain ⟨fl, e2, m2⟩ := fldAt_mem zk
            rw [efl] at e2
            cases e2
            exact m2
          have fw : ws.length ≤ 4 := by
            cases o.val _ mem with
            | mk c dn few nd => exact few
          refine tt_if (by show decide (V.str "mark" = V.str "mark") = true; decide +kernel) ?_
          refine ⟨_, rfl, ta, _, 1, .ref l, rfl, rfl, .inl (.inl hta), atI_nat (j := 1) rfl, l, ws, rfl, .inl (.inl hl), by omega, fun ys2 p2' pm2 srt2 np2 => ?_⟩
          obtain rfl : ys2 = sortT ws := sort_eq pm2 srt2
          refine ⟨small (by show 2 ≤ 1000; decide), fun t nt => ⟨_, rfl, _, rfl, D, upd (upd (upd Hx p2' (.lst ((sortT ws).map V.str))) t (.tup [.str "mark", .ref p2'])) D (.dK (putK (tkD es) (Sum.inr z) (V.ref t))), rfl, ?_⟩⟩
          have sp : Same Hx (upd (upd Hx p2' (.lst ((sortT ws).map V.str))) t (.tup [.str "mark", .ref p2'])) := (same_new np2 _).trans (same_new nt _)
          have ht : (upd (upd Hx p2' (.lst ((sortT ws).map V.str))) t (.tup [.str "mark", .ref p2'])) t = some (.tup [.str "mark", .ref p2']) := upd_same
          have hpp : (upd (upd Hx p2' (.lst ((sortT ws).map V.str))) t (.tup [.str "mark", .ref p2'])) p2' = some (.lst ((sortT ws).map V.str)) := same_new nt _ _ _ upd_same
          have n2 : p2' ≠ D := (ne_of_none hD np2).symm
          have nt' : Hx t = none := (same_new np2 (.lst ((sortT ws).map V.str))).free nt
          have n1 : t ≠ D := (ne_of_none hD nt').symm
          have fp : H p2' = none := free p2' np2
          have ft : H t = none := free t nt'
          generalize (upd (upd Hx p2' (.lst ((sortT ws).map V.str))) t (.tup [.str "mark", .ref p2'])) = Ht at sp ht hpp ⊢
          refine ⟨.inl ⟨tkD es, .inr z, sp _ _ hD, rfl, small1000 (by rw [List.length_map]; omega), rfl⟩, ⟨_, _, rfl⟩, fun c u h n => ?_, es ++ [(z, .ref t)], by rw [upd_same, put], ?_⟩
          · rw [upd_ne n]
            exact sp _ _ (keep c u h n)
          · rw [e1]
            refine cur.snoc (fun v t dt => (dt.same sp).mono fun c u hc eu => by rw [upd_ne hc.2]; exact eu) ?_
            rw [eat]
            exact .tup (by rw [upd_ne n1]; exact ht) ⟨.inr ft, n1⟩ (.cons (.str _) (.cons (.lst (by rw [upd_ne n2]; exact hpp) ⟨.inr fp, n2⟩ (DTs.ofStrs _)) .nil))
  · rintro σ Hx ⟨⟨o2, o3, rfl⟩, keep, es, hD, cur⟩
    rw [List.length_map, List.take_length] at cur
    refine ⟨_, rfl, q D Hx (fun c u h => keep c u (s1 _ _ (s0 _ _ h)) fun n => by rw [n, nD] at h; cases h) nD ?_⟩
    refine .dct hD (.inr nD) (by rw [tkD_keys, cur.keys, ordF_keys]) (by rw [ordF_keys]; exact sortT_nodup nd) (by rw [ordF_keys, sortT_len]; exact few) ?_
    rw [tkD_vals]
    have hv := cur.vals
    have e3 : ((sortT (fs.map (·.1))).map fun z => (ordFld (atF fs z)).tree) = (ordF fs).map (·.2.tree) := by
      unfold ordF
      rw [List.map_map]
      rfl
    rw [e3] at hv
    exact hv.sub fun c hc => hc.1
end
end Lw

set_option Elab.async false
set_option linter.all false
set_option maxRecDepth 100000
set_option maxHeartbeats 4000000
namespace Lw
open PySem PySem.Spec PyProof.Rows L2
def wordsN : Fld → Nat
  | .mk ws => ws.length
  | _ => 0
/-- the product of the numbers of words of these fields -/
def manyL (fs : Flds) (l : List Str) : Nat := l.foldl (fun a z => a * wordsN (atF fs z)) 1
def manyF (fs : Flds) : Nat := manyL fs (likeT fs "mark")
theorem manyL_snoc (fs : Flds) (l : List Str) (z : Str) : manyL fs (l ++ [z]) = manyL fs l * wordsN (atF fs z) := by
  unfold manyL
  rw [List.foldl_append]
  rfl
abbrev sMany : Stmt := topS 45
abbrev NMany : List Str := ["_law_fields_here", "_law_found", "_law_mark"]
section
variable {P : Program} {w : World} {K : PySem.W.Frag} {mg : Str → Option Value} {base : Heap}
theorem scMany : FnScope NMany ["_law_fields_here"] (defScope sMany) := ⟨rfl, rfl, rfl, by decide +kernel, rfl, by decide +kernel, by decide +kernel⟩
def spMany : Sp := fun vs H Q _ => ∃ (f : Addr) (fs : Flds) (ns : List Str) (A : Addr → Prop), vs = [.ref f] ∧ DT H A (.ref f) (fieldsT fs) ∧ FldsOk ns fs ∧ ∀ H', Same H H' → Q (.int (manyF fs : Nat)) H'
theorem ok_many {f f2 : Addr} {fd fd2 : FuncData} (F : Fun K "_law_many" "_law_many" sMany f fd) (G2 : FnOk P w K mg base CX0 1 f2 fd2 ["_law_fields_here", "_law_sort"] spLike) (m2 : mg "_law_like" = some (.ref f2)) (k2 : PySem.W.keepIn K (.ref f2) = true) (b2 : Binds K fd2 ["_law_fields_here", "_law_sort"] [])
    (mlen : mg "len" = none) : FnOk P w K mg base CX0 2 f fd ["_law_fields_here"] spMany := by
  refine F.ok scMany (fun vs H Q E h => ?_) (fun cdv A0 outer s H vs Q E hr h => ?_)
  · obtain ⟨f, fs, ns, A, rfl, _⟩ := h
    rfl
  obtain ⟨f, fs, ns, A, rfl, x, o, q⟩ := h
  refine ⟨_, (pss_cons (ps_set (i := 1) scMany.nd rfl (.inl rfl) pe_int) (pss_cons (ps_for PassesOwn.never rfl (pi_list (pe_call G2 (hr.mono (by decide)) (by rfl) m2 k2 b2 .nil pass0 (pa_cons (pv 0) (pa_cons pe_str pa_nil)))) (pg_name (i := 2) scMany.nd rfl (.inl rfl)) (pss_one (ps_set (i := 1) scMany.nd rfl (.inl rfl) (pe_op op_mul (pv 1) (pe_callB call_len_seq (by rfl) mlen (by decide +kernel) (pa_cons (pe_ix ix_tup (pe_dget (hu_of hr) (pv 0) (pv 2) (fun _ _ => rfl)) pe_int (fun _ _ => rfl)) pa_nil)))))) (pss_one (ps_ret (pv 1))))), ?_⟩
  refine ⟨_, rfl, f, fs, A, "mark", rfl, x, fun p H1 s1 np hp => ?_⟩
  refine ⟨p, rfl, ⟨_, .inl (.inl hp)⟩, ?_⟩
  refine for_list (K := K) (a := p) (xs := (likeT fs "mark").map V.str) (fun i σ Hx => Hx = H1 ∧ ∃ o2, σ = [some (.ref f), some (.int (manyL fs ((likeT fs "mark").take i) : Nat)), o2]) ⟨rfl, _, rfl⟩ (fun i σ Hx _ q => .inl (.inl (by rw [q.1]; exact hp))) ?_ ?_
  · rintro i y σ Hx hy ⟨rfl, o2, rfl⟩
    obtain ⟨z, hz, rfl⟩ := map_get hy
    obtain ⟨fl, efl, mfl, es⟩ := like_mem (List.mem_of_getElem? hz)
    obtain ⟨v, dg, dv⟩ := fld_get (x.same s1) o.nd mfl
    cases fl with
    | lk n => exact absurd (show ("link" : Str) = "mark" from es) (by decide +kernel)
    | tg => exact absurd (show ("tag" : Str) = "mark" from es) (by decide +kernel)
    | mk ws =>
      obtain ⟨ta, xs, rfl, hta, _, dd⟩ := dv.tupI
      cases dd with
      | cons p1 r1 =>
        cases r1 with
        | cons p2 r2 =>
          cases r2
          obtain ⟨l, ys, rfl, hl, _, zz⟩ := p2.lstI
          rw [DTs.strs zz] at hl
          have fw : ws.length ≤ 4 := by
            cases o.val _ mfl with
            | mk c dn few nd => exact few
          have eat : atF fs z = .mk ws := by unfold atF; rw [efl]; rfl
          have e1 : (likeT fs "mark").take (i + 1) = (likeT fs "mark").take i ++ [z] := by
            rw [List.take_add_one, hz]
            rfl
          refine ⟨_, rfl, _, rfl, .str z, rfl, f, _, rfl, dg, ta, _, 1, .ref l, rfl, rfl, .inl (.inl hta), atI_nat (j := 1) rfl, l, _, rfl, .inl (.inl (.inl hl)), _, _, rfl, rfl, .inr ⟨by rw [List.length_map]; omega, by rw [List.length_map]; omega⟩, rfl, some (.str z), ?_⟩
          show [some (V.ref f), some (V.int (((manyL fs ((likeT fs "mark").take i) : Nat) : Int) * (((ws.map V.str).length : Nat) : Int))), some (V.str z)] = _
          rw [e1, manyL_snoc, eat, List.length_map]
          show _ = [some (V.ref f), some (V.int ((manyL fs ((likeT fs "mark").take i) * ws.length : Nat) : Int)), _]
          rw [Int.natCast_mul]
  · rintro σ Hx ⟨rfl, o2, rfl⟩
    rw [List.length_map, List.take_length]
    exact ⟨_, rfl, q Hx s1⟩
end
end Lw

set_option Elab.async false
set_option linter.all false
set_option maxRecDepth 100000
set_option maxHeartbeats 4000000
namespace Lw
open PySem PySem.Spec PyProof.Rows L2
abbrev sStrange : Stmt := topS 48
abbrev NStrange : List Str := ["_law_bag_here", "_law_known", "_law_one"]
def inB (known : List Str) (z : Str) : Bool := inV (V.str z) (known.map V.str)
theorem inB_iff {known : List Str} {z : Str} : inB known z = true ↔ z ∈ known := by
  unfold inB inV
  rw [List.any_eq_true]
  constructor
  · rintro ⟨y, hy, e⟩
    obtain ⟨x, hx, rfl⟩ := List.mem_map.mp hy
    have e2 : (x == z) = true := e
    rw [← beq_iff_eq.mp e2]
    exact hx
  · intro m
    exact ⟨V.str z, List.mem_map_of_mem m, by simp [eqV]⟩
section
variable {P : Program} {w : World} {K : PySem.W.Frag} {mg : Str → Option Value} {base : Heap}
theorem scStrange : FnScope NStrange ["_law_bag_here", "_law_known"] (defScope sStrange) := ⟨rfl, rfl, rfl, by decide +kernel, rfl, by decide +kernel, by decide +kernel⟩
def spStrange : Sp := fun vs H Q _ => ∃ (b c l : Addr) (known : List Str), vs = [.ref b, .ref l] ∧ BagAt H b c ∧ H l = some (.lst (known.map V.str)) ∧ known.length ≤ 19 ∧ ∀ (z : Str) (H' : Hp), NameOk z → z ∉ known → BagAt H' b c → But b H H' → Q (.str z) H'
theorem ok_strange {f f2 : Addr} {fd fd2 : FuncData} (F : Fun K "_law_strange" "_law_strange" sStrange f fd) (G2 : FnOk P w K mg base CX0 2 f2 fd2 ["_law_bag_here", "_law_many_here"] spNames) (m2 : mg "_law_names" = some (.ref f2)) (k2 : PySem.W.keepIn K (.ref f2) = true) (b2 : Binds K fd2 ["_law_bag_here", "_law_many_here"] [])
    (mlen : mg "len" = none) : FnOk P w K mg base CX0 3 f fd ["_law_bag_here", "_law_known"] spStrange := by
  refine F.ok scStrange (fun vs H Q E h => ?_) (fun cdv A0 outer s H vs Q E hr h => ?_)
  · obtain ⟨b, c, l, known, rfl, _⟩ := h
    rfl
  obtain ⟨b, c, l, known, rfl, hb, hl, few, q⟩ := h
  refine ⟨_, pss_one (ps_ret (pe_ix ix_list (pe_lc (own := [("_law_one", 2)]) (g := gName 2) rfl scStrange.nd (pi_list (pe_call G2 (hr.mono (by decide)) (by rfl) m2 k2 b2 .nil pass0 (pa_cons (pv 0) (pa_cons (pe_op op_add (pe_callB call_len_seq (by rfl) mlen (by decide +kernel) (pa_cons (pv 1) pa_nil)) pe_int) pa_nil)))) (blkOk_by (N := NStrange) (sc := defScope sStrange) (by decide +kernel)) (fun _ _ _ _ _ => pg_name (i := 2) scStrange.nd rfl (Or.inl rfl)) (fun _ _ _ _ _ => pts_one (pt_cmpR (r := rIn K true) op_notIn_seq (pv 2) (pv 1) (by rfl))) (fun _ _ _ _ _ => pv 2)) pe_int (fun _ _ => rfl))), ?_⟩
  have nlb : l ≠ b := fun n => by
    obtain ⟨x1, y1, z1, ns1, h1, _, _⟩ := hb
    exact lst_bag h1 (n ▸ hl)
  refine ⟨_, rfl, _, rfl, l, _, rfl, .inl (.inl (.inl hl)), _, 1, rfl, rfl, b, c, _, rfl, hb, by omega, by rw [List.length_map]; omega, fun p zs H1 lz nd ok hp np hb1 B1 => ?_⟩
  rw [List.length_map] at lz
  have lz' : zs.length = known.length + 1 := by omega
  have npb : p ≠ b := hb.nb np
  refine ⟨p, rfl, ⟨_, .inl (.inl hp)⟩, fun D nD => ?_⟩
  have hl1 := B1 _ _ hl nlb
  refine lc_list (K := K) (a := p) (xs := zs.map V.str) (fun i Hx => Same H1 Hx ∧ Hx D = some (.lst (((zs.take i).filter fun z => !inB known z).map V.str))) ⟨same_new nD _, upd_same⟩ (fun i Hx _ q => .inl (.inl (q.1 _ _ hp))) ?_ ?_
  · rintro i v Hx hx ⟨s2, hD⟩
    obtain ⟨z, hz, rfl⟩ := map_get hx
    have il : i < zs.length := (List.getElem?_eq_some_iff.mp hz).1
    have e2 : zs.take (i + 1) = zs.take i ++ [z] := by
      rw [List.take_add_one, hz]
      rfl
    refine ⟨rfl, _, rfl, _, rfl, l, _, rfl, .inl (.inl (.inl (s2 _ _ hl1))), rfl, flat_strs' known, _, rfl, ?_⟩
    show if (!inB known z) = true then _ else _
    by_cases g : inB known z = true
    · refine ff_if (by rw [g]; rfl) ⟨s2, ?_⟩
      rw [e2, List.filter_append, List.filter_cons_of_neg (by rw [g]; decide), List.filter_nil, List.append_nil]
      exact hD
    · have g' : inB known z = false := by simpa using g
      refine tt_if (by rw [g']; rfl) ⟨_, rfl, _, hD, ?_, Same.put s2 nD, ?_⟩
      · have h1 := List.length_filter_le (fun z => !inB known z) (zs.take i)
        rw [List.length_take] at h1
        exact small1000 (by rw [List.length_map]; omega)
      · rw [upd_same, e2, List.filter_append, List.map_append, List.filter_cons_of_pos (by rw [g']; rfl)]
        rfl
  · rintro Hx ⟨s2, hD⟩
    rw [List.length_map, List.take_length] at hD
    have ne : (zs.filter fun z => !inB known z) ≠ [] := fun n => by
      have sub : ∀ z ∈ zs, z ∈ known := fun z hz => by
        refine Classical.byContradiction fun h => ?_
        have m : z ∈ zs.filter fun z => !inB known z := List.mem_filter.mpr ⟨hz, by
          have g : inB known z = false := by
            cases g : inB known z with
            | false => rfl
            | true => exact absurd (inB_iff.mp g) h
          rw [g]
          rfl⟩
        rw [n] at m
        cases m
      have h := PySem.length_le_of_nodup_of_subset zs known nd sub
      omega
    obtain ⟨z, r, ez⟩ := List.exists_cons_of_ne_nil ne
    have mz : z ∈ zs.filter fun z => !inB known z := by rw [ez]; exact List.mem_cons_self
    obtain ⟨mz1, mz2⟩ := List.mem_filter.mp mz
    rw [ez] at hD
    refine ⟨D, _, 0, .str z, rfl, rfl, .inl (.inl hD), atI_nat (j := 0) rfl, q z Hx (ok z mz1) (fun h => ?_) (hb1.same s2) (B1.trans (Same.but s2 b))⟩
    rw [inB_iff.mpr h] at mz2
    cases mz2
end
end Lw

set_option Elab.async false
set_option linter.all false
set_option maxRecDepth 100000
set_option maxHeartbeats 4000000
/-! trees: read, shown, compared -/
namespace Lw
open PySem PySem.Spec PyProof.Rows L2
theorem zip_fst : ∀ {α β : Type} {ks : List α} {ts : List β}, ks.length = ts.length → (ks.zip ts).map (·.1) = ks
  | _, _, [], [], _ => rfl
  | _, _, [], _ :: _, h => by cases h
  | _, _, _ :: _, [], h => by cases h
  | _, _, k :: r, t :: q, h => by rw [List.zip_cons_cons, List.map_cons, zip_fst (Nat.succ.inj h)]
theorem zip_snd : ∀ {α β : Type} {ks : List α} {ts : List β}, ks.length = ts.length → (ks.zip ts).map (·.2) = ts
  | _, _, [], [], _ => rfl
  | _, _, [], _ :: _, h => by cases h
  | _, _, _ :: _, [], h => by cases h
  | _, _, k :: r, t :: q, h => by rw [List.zip_cons_cons, List.map_cons, zip_snd (Nat.succ.inj h)]
theorem zip_mapl : ∀ {α β γ : Type} (f : α → γ) (ks : List α) (ts : List β), (ks.map f).zip ts = (ks.zip ts).map fun p => (f p.1, p.2)
  | _, _, _, _, [], _ => rfl
  | _, _, _, _, _ :: _, [] => rfl
  | _, _, _, f, k :: r, t :: q => by rw [List.map_cons, List.zip_cons_cons, List.zip_cons_cons, List.map_cons, zip_mapl f r q]
section
variable {X : Cx} {pl : List (Addr × Obj)} {σ : L2.St} {H : Hp} {s : Shared} {A B : Addr → Prop}
mutual
theorem DT.reads (J : Inv X pl σ H s) : ∀ {v : V} {t : Tr}, DT H A v t → ∀ {u : Value}, RelV v u → ∃ as, Reads s.heap u t.data as ∧ Tracked H as
  | _, _, .non, u, r => ⟨[], by cases (show u = Value.none from r); exact .none, fun b hb => absurd hb (by simp)⟩
  | _, _, .bl b, u, r => ⟨[], by cases (show u = Value.bool b from r); exact .bool b, fun b hb => absurd hb (by simp)⟩
  | _, _, .int i, u, r => ⟨[], by obtain ⟨t, rfl⟩ := (show ∃ t, u = Value.int i t from r); exact .int i t, fun b hb => absurd hb (by simp)⟩
  | _, _, .str x, u, r => ⟨[], by obtain ⟨t, rfl⟩ := (show ∃ t, u = Value.str x t from r); exact .str x t, fun b hb => absurd hb (by simp)⟩
  | _, _, @DT.lst _ _ a xs ts e n d, u, r => by
    cases (show u = Value.ref a from r)
    obtain ⟨_, its, k, rv, ob⟩ := J.hok a _ e
    obtain ⟨as, q, t⟩ := DTs.reads J d rv
    exact ⟨a :: as, .list ob rfl rfl (by simpa using q), fun b hb => (List.mem_cons.mp hb).elim (fun z => ⟨_, z ▸ e⟩) (t b)⟩
  | _, _, @DT.tup _ _ a xs ts e n d, u, r => by
    cases (show u = Value.ref a from r)
    obtain ⟨_, its, rv, o, h1, h2, k, h3⟩ := (show ObjOk X.prog X.w H s.heap a (.tup xs) from J.hok a _ e)
    obtain ⟨as, q, t⟩ := DTs.reads J d rv
    exact ⟨as, .tuple h1 h2 h3 (by simpa using q), t⟩
  | _, _, @DT.dct _ _ a kvs ks ts e n k nd few d, u, r => by
    cases (show u = Value.ref a from r)
    obtain ⟨_, _, vs, kv, o, es, ep, h1, h2, h3, _, h4, _⟩ := (show ObjOk X.prog X.w H s.heap a (.dK kvs) from J.hok a _ e)
    have kk := kv_keys kv
    have vv := kv_vals kv
    have len : ks.length = (Tr.datas ts).length := by
      rw [datas_map, List.length_map, ← d.len, List.length_map, ← List.length_map (as := kvs) (f := (·.1)), k, List.length_map]
    obtain ⟨r1, r2⟩ := keys_read (X := X) (knd := keyIs) (h := s.heap) (kds := ks.zip (Tr.datas ts)) h4 (by
      rw [kk.trans k, show (fun p : Str × PyData => (Sum.inr p.1 : Key)) = Sum.inr ∘ (·.1) from rfl, ← List.map_map, zip_fst len])
    obtain ⟨as, q, t⟩ := DTs.reads J d vv
    have q' : ReadsAll s.heap (es.toList.map (·.val)) (((ks.zip (Tr.datas ts)).map fun p => (PyData.str p.1, p.2)).map (·.2)) as := by
      rw [r2, List.map_map]
      show ReadsAll _ _ ((ks.zip (Tr.datas ts)).map (·.2)) _
      rw [zip_snd len]
      exact q
    refine ⟨a :: [] ++ as, ?_, fun b hb => (List.mem_cons.mp hb).elim (fun z => ⟨_, z ▸ e⟩) (t b)⟩
    show Reads _ _ (.dict ((ks.map PyData.str).zip (Tr.datas ts))) _
    rw [zip_mapl]
    exact .dict h1 h2.1 h3 r1 q'
theorem DTs.reads (J : Inv X pl σ H s) : ∀ {vs : List V} {ts : List Tr}, DTs H A vs ts → ∀ {us : List Value}, Vals vs us → ∃ as, ReadsAll s.heap us (Tr.datas ts) as ∧ Tracked H as
  | _, _, .nil, _, .nil => ⟨[], .nil, fun b hb => absurd hb (by simp)⟩
  | _, _, .cons a b, _, .cons x y => by
    obtain ⟨as, q1, t1⟩ := DT.reads J a x
    obtain ⟨bs, q2, t2⟩ := DTs.reads J b y
    exact ⟨as ++ bs, .cons q1 q2, fun c hc => (List.mem_append.mp hc).elim (t1 c) (t2 c)⟩
end
/-- repr of a tree -/
def rReprT : List V → Hp → VK → Prop := fun vs H Q => ∃ (a : Addr) (t : Tr) (A : Addr → Prop), vs = [.ref a] ∧ DT H A (.ref a) t ∧ t.data.showable = true ∧ t.data.depth ≤ 40 ∧ t.data.shown.length ≤ sizeLine ∧ Q (.str t.data.shown) H
theorem call_reprT (hg : X.A.guards = some []) (hu : X.A.units + 64 < cLine) (hs : ∃ o, X.base.get? sysModules = some o) : CallR X (.builtin "repr") rReprT := by
  intro pl s σ H vs us Q J r h
  obtain ⟨a, t, A, rfl, dx, sh, dp, sz, q⟩ := h
  rw [Vals.ref1 r]
  obtain ⟨as, rd, tr⟩ := DT.reads J dx (u := .ref a) rfl
  obtain ⟨o, eo⟩ := hs
  obtain ⟨e0, n0⟩ := J.ok.bs _ _ eo
  have none0 : H sysModules = none := J.base.free _ _ e0 n0 (J.ok.noex _ _ eo)
  refine repr_of_reads' rd sh (fun _ hm => ?_) hg (by omega) (fun _ _ z => z) (fun h' u tk k => ⟨.str t.data.shown, H, J.kept (t' := tk) k, ⟨u, rfl⟩, q⟩) sz
  obtain ⟨o2, e2⟩ := tr _ hm
  rw [none0] at e2
  cases e2
/-- two trees without dicts -/
theorem plain_eqP (J : Inv X pl σ H s) {A1 : Around} {v v' : V} {t t' : Tr} {u u' : Value} (x : DT H A v t) (y : DT H B v' t') (r : RelV v u) (r' : RelV v' u') (h : SeqAt.shaped t.data = true) (h' : SeqAt.shaped t'.data = true) (hu : A1.units + 64 < cLine) :
    SeqAt.EqP X.prog X.w A1 s u u' (PyData.eqv t.data t'.data) := by
  obtain ⟨as, r1, _⟩ := DT.reads J x r
  obtain ⟨bs, r2, _⟩ := DT.reads J y r'
  exact (SeqAt.eqAt_reads t.data t'.data A1 s u u' as bs r1 r2 (SeqAt.canLay_of_shaped h) (SeqAt.canLay_of_shaped h') (SeqAt.room_of_shaped h hu)).eqP
/-- the items of two dicts -/
def eqItems (f : Tr → Tr → Bool) (ks : List Str) (ts : List Tr) (ls : List Str) (us : List Tr) : Bool := (ks.zip ts).all fun p => match lookT ls us p.1 with | none => false | some u => f p.2 u
def eqDct (f : Tr → Tr → Bool) (ks : List Str) (ts : List Tr) (ls : List Str) (us : List Tr) : Bool := (ks.length == ls.length) && eqItems f ks ts ls us
theorem look_no {kvs : List (Key × V)} {ks : List Str} {z : Str} (k : kvs.map (·.1) = ks.map Sum.inr) (m : z ∉ ks) (ts : List Tr) : valV kvs (.inr z) = none ∧ lookT ks ts z = none := by
  refine ⟨valV_no fun h => ?_, ?_⟩
  · rw [k] at h
    obtain ⟨y, hy, e⟩ := List.mem_map.mp h
    exact m (Sum.inr.inj e ▸ hy)
  · unfold lookT
    rw [Option.map_eq_none_iff, List.find?_eq_none]
    intro p hp q
    have h1 : p.1 = z := of_decide_eq_true q
    exact m (h1 ▸ (List.of_mem_zip hp).1)
theorem look_mem {ks : List Str} {ts : List Tr} {z : Str} {t : Tr} (h : lookT ks ts z = some t) : t ∈ ts := by
  unfold lookT at h
  obtain ⟨p, hp, rfl⟩ := Option.map_eq_some_iff.mp h
  exact (List.of_mem_zip (List.mem_of_find?_eq_some hp)).2
theorem items_hits {A1 : Around} {f : Tr → Tr → Bool} {ls : List Str} {us : List Tr} {lvs : List (Key × V)} {vb : List (Key × Value)} (rb : KV lvs vb) (kl : lvs.map (·.1) = ls.map Sum.inr) (dl : DTs H B (lvs.map (·.2)) us)
    {G G' : Tr → Prop} (hu : ∀ t ∈ us, G' t) (hf : ∀ v v' t t' u u', DT H A v t → G t → DT H B v' t' → G' t' → RelV v u → RelV v' u' → SeqAt.EqP X.prog X.w A1 s u u' (f t t')) :
    ∀ {kvs : List (Key × V)} {va : List (Key × Value)} {ks : List Str} {ts : List Tr}, KV kvs va → kvs.map (·.1) = ks.map Sum.inr → DTs H A (kvs.map (·.2)) ts → (∀ t ∈ ts, G t) → PySem.W.KeqHitsP X.prog X.w A1 s vb va (eqItems f ks ts ls us) := by
  intro kvs va ks ts ra
  unfold KV at ra
  induction ra generalizing ks ts with
  | nil =>
    intro k d hg
    cases ks with
    | nil => cases d; exact .nil
    | cons _ _ => cases k
  | @cons p q ps qs h hr ih =>
    intro k d hg
    obtain ⟨h1, h2⟩ := h
    cases ks with
    | nil => cases k
    | cons z ks =>
      obtain ⟨e1, e2⟩ := List.cons.inj k
      cases d with
      | @cons _ _ t ts x y =>
        have rest := ih e2 y fun t m => hg t (List.mem_cons_of_mem _ m)
        obtain ⟨key, v⟩ := q
        have h1' : p.1 = key := h1
        have ez : key = Sum.inr z := by rw [← h1']; exact e1
        subst ez
        by_cases m : z ∈ ls
        · obtain ⟨w', t', ev, et, dw⟩ := DT.look kl dl m
          have rr : RelO (some w') (valueAt vb (Sum.inr z)) := by rw [← ev]; exact rb.val _
          obtain ⟨y', hy, ry⟩ := rr.some_of
          have e : eqItems f (z :: ks) (t :: ts) ls us = (f t t' && eqItems f ks ts ls us) := by
            show ((match lookT ls us z with | none => false | some u => f t u) && _) = _
            rw [et]
            rfl
          rw [e]
          exact .hit hy (hf _ _ _ _ _ _ x (hg _ List.mem_cons_self) dw (hu _ (look_mem et)) h2 ry) rest
        · obtain ⟨ev, et⟩ := look_no kl m us
          have rr : RelO none (valueAt vb (Sum.inr z)) := by rw [← ev]; exact rb.val _
          have e : eqItems f (z :: ks) (t :: ts) ls us = false := by
            show ((match lookT ls us z with | none => false | some u => f t u) && _) = _
            rw [et]
            rfl
          rw [e]
          refine .miss ?_
          cases hv : valueAt vb (Sum.inr z) with
          | none => rfl
          | some y => rw [hv] at rr; cases rr
/-- two dicts of texts -/
theorem dct_rcP (J : Inv X pl σ H s) {A1 : Around} (hu : A1.units < cLine) {f : Tr → Tr → Bool} {v v' : V} {ks ls : List Str} {ts us : List Tr} {u u' : Value} (x : DT H A v (.dct ks ts)) (y : DT H B v' (.dct ls us)) (r : RelV v u) (r' : RelV v' u')
    {G G' : Tr → Prop} (hg : ∀ t ∈ ts, G t) (hg' : ∀ t ∈ us, G' t) (hf : ∀ v v' t t' u u', DT H A v t → G t → DT H B v' t' → G' t' → RelV v u → RelV v' u' → SeqAt.EqP X.prog X.w A1.in1 s u u' (f t t')) (E Q : Value → Shared → Prop) (q : Q (.bool (eqDct f ks ts ls us)) s) : wpAny (model X.prog X.w) A1 (richCompare .Eq u u') Q E s := by
  obtain ⟨a, kvs, rfl, ea, _, ka, nda, _, da⟩ := x.dctI
  obtain ⟨b, lvs, rfl, eb, _, kb, ndb, _, db⟩ := y.dctI
  cases (show u = Value.ref a from r)
  cases (show u' = Value.ref b from r')
  obtain ⟨_, ya, va, ra, oa⟩ := (show ObjOk X.prog X.w H s.heap a (.dK kvs) from J.hok a _ ea)
  obtain ⟨_, yb, vb, rb, ob⟩ := (show ObjOk X.prog X.w H s.heap b (.dK lvs) from J.hok b _ eb)
  refine PySem.W.rcP_dicts (knd := mixKind X.prog X.w) (r := eqItems f ks ts ls us) ya yb oa ob hu (fun _ => items_hits rb kb db hg' hf ra ka da hg) E Q ?_
  have e1 : va.length = ks.length := by rw [← ra.length, ← List.length_map (as := kvs) (f := (·.1)), ka, List.length_map]
  have e2 : vb.length = ls.length := by rw [← rb.length, ← List.length_map (as := lvs) (f := (·.1)), kb, List.length_map]
  rw [e1, e2]
  exact q
/-- two equal trees of any kind -/
theorem paired_dts {F : V → V → Prop} : ∀ {vs ws : List V} {ts : List Tr}, DTs H A vs ts → DTs H B ws ts → (∀ v w t, t ∈ ts → DT H A v t → DT H B w t → F v w) → Paired F vs ws
  | _, _, _, .nil, y, _ => by cases y; exact .nil
  | _, _, _, .cons a b, y, h => by
    cases y with
    | cons a' b' => exact .cons (h _ _ _ List.mem_cons_self a a') (paired_dts b b' fun v w t m => h v w t (List.mem_cons_of_mem _ m))
theorem same_hits {kvs lvs : List (Key × V)} {ks : List Str} {ts : List Tr} {F : V → V → Prop} (nd : ks.Nodup) (k : kvs.map (·.1) = ks.map Sum.inr) (d : DTs H A (kvs.map (·.2)) ts) (k' : lvs.map (·.1) = ks.map Sum.inr) (d' : DTs H B (lvs.map (·.2)) ts)
    (h : ∀ v w t, t ∈ ts → DT H A v t → DT H B w t → F v w) : ∀ p ∈ kvs, ∃ u, valV lvs p.1 = some u ∧ F p.2 u := fun p hp => by
  obtain ⟨i, hi⟩ := List.mem_iff_getElem?.mp hp
  have hk : (kvs.map (·.1))[i]? = some p.1 := by rw [List.getElem?_map, hi]; rfl
  have hv : (kvs.map (·.2))[i]? = some p.2 := by rw [List.getElem?_map, hi]; rfl
  rw [k] at hk
  obtain ⟨z, hz, e⟩ := (by simpa using hk : ∃ z, ks[i]? = some z ∧ Sum.inr z = p.1)
  obtain ⟨t, ht, dv⟩ := d.get hv
  obtain ⟨u, t', ev, et, du⟩ := DT.look k' d' (List.mem_of_getElem? hz)
  rw [look_at nd hz ht] at et
  cases et
  exact ⟨u, by rw [← e]; exact ev, h _ _ _ (List.mem_of_getElem? ht) dv du⟩
theorem sameP (J : Inv X pl σ H s) : ∀ (n : Nat) (A1 : Around), A1.units + n < cLine → ∀ {t : Tr} {v v' : V} {u u' : Value}, t.depth ≤ n → DT H A v t → DT H B v' t → RelV v u → RelV v' u' → SeqAt.EqP X.prog X.w A1 s u u' true := by
  intro n
  induction n with
  | zero =>
    intro A1 hu t v v' u u' dp x y r r'
    cases x with
    | non => cases y; exact (eqAt_same r r' rfl).eqP
    | bl b => cases y; exact (eqAt_same r r' rfl).eqP
    | int b => cases y; exact (eqAt_same r r' rfl).eqP
    | str b => cases y; exact (eqAt_same r r' rfl).eqP
    | lst e n d => exact absurd dp (Nat.not_succ_le_zero _)
    | tup e n d => exact absurd dp (Nat.not_succ_le_zero _)
    | dct e n k nd few d => exact absurd dp (Nat.not_succ_le_zero _)
  | succ n ih =>
    intro A1 hu t v v' u u' dp x y r r'
    have hu0 : A1.units < cLine := by omega
    have hu1 : A1.in1.units + n < cLine := by show A1.units + 1 + n < cLine; omega
    cases x with
    | non => cases y; exact (eqAt_same r r' rfl).eqP
    | bl b => cases y; exact (eqAt_same r r' rfl).eqP
    | int b => cases y; exact (eqAt_same r r' rfl).eqP
    | str b => cases y; exact (eqAt_same r r' rfl).eqP
    | @lst a xs ts e na d =>
      cases y with
      | @lst b ys _ e' nb d' =>
        have dp' : Tr.depths ts ≤ n := Nat.le_of_succ_le_succ dp
        cases (show u = Value.ref a from r)
        cases (show u' = Value.ref b from r')
        by_cases eab : a = b
        · subst eab
          exact (SeqAt.EqAt.same _).eqP
        obtain ⟨us, r1, p1, _⟩ := J.list (.inl (.inl e))
        obtain ⟨ws, r2, p2, _⟩ := J.list (.inl (.inl e'))
        have pr := paired_dts (F := fun x y => ∃ t : Tr, t.depth ≤ n ∧ DT H A x t ∧ DT H B y t) d d' fun v w t m h1 h2 => ⟨t, Nat.le_trans (depth_mem m) dp', h1, h2⟩
        have hsz : us.toArray.size = ws.toArray.size := by
          rw [List.size_toArray, List.size_toArray, ← r1.length, ← r2.length]
          exact Paired.length pr
        refine SeqAt.eqP_refs eab fun E Q q => SeqAt.rcP_lists (e := fun _ => true) p1.isList p2.isList hsz hu0 (fun j h1 h2 => ?_) E Q ?_
        · have k := items_run (P := X.prog) (w := X.w) (A := A1.in1) (s := s) (fun x y v u ⟨t, h0, h1, h2⟩ => ih A1.in1 hu1 h0 h1 h2) pr r1 r2 j (by simpa using h1) (by simpa using h2)
          simpa using k
        · rw [show ((List.range us.toArray.size).all fun _ => true) = true from List.all_eq_true.mpr fun _ _ => rfl]
          exact q
    | @tup a xs ts e na d =>
      cases y with
      | @tup b ys _ e' nb d' =>
        have dp' : Tr.depths ts ≤ n := Nat.le_of_succ_le_succ dp
        cases (show u = Value.ref a from r)
        cases (show u' = Value.ref b from r')
        by_cases eab : a = b
        · subst eab
          exact (SeqAt.EqAt.same _).eqP
        obtain ⟨us, r1, p1, _⟩ := J.tuple (.inl (.inl e))
        obtain ⟨ws, r2, p2, _⟩ := J.tuple (.inl (.inl e'))
        have pr := paired_dts (F := fun x y => ∃ t : Tr, t.depth ≤ n ∧ DT H A x t ∧ DT H B y t) d d' fun v w t m h1 h2 => ⟨t, Nat.le_trans (depth_mem m) dp', h1, h2⟩
        have hsz : us.toArray.size = ws.toArray.size := by
          rw [List.size_toArray, List.size_toArray, ← r1.length, ← r2.length]
          exact Paired.length pr
        refine SeqAt.eqP_refs eab fun E Q q => GQ.rc_tupG hsz hu0 (fun (_ : Nat) (s' : Shared) => s' = s) p1 p2 (fun j h1 h2 s' es => ?_) (fun s' es => by rw [es]; exact q) rfl
        subst es
        have k := items_run (P := X.prog) (w := X.w) (A := A1.in1) (s := s') (F := fun x y => ∃ t : Tr, t.depth ≤ n ∧ DT H A x t ∧ DT H B y t) (fun x y v u ⟨t, h0, h1, h2⟩ => ih A1.in1 hu1 h0 h1 h2) pr r1 r2 j (by simpa using h1) (by simpa using h2)
        have kk : SeqAt.EqP X.prog X.w A1.in1 s' us.toArray[j] ws.toArray[j] true := by simpa using k
        exact kk E (fun r s2 => r = true ∧ s2 = s') (And.intro rfl rfl)
    | @dct a kvs ks ts e na k nd few d =>
      cases y with
      | @dct b lvs _ _ e' nb k' nd' few' d' =>
        have dp' : Tr.depths ts ≤ n := Nat.le_of_succ_le_succ dp
        cases (show u = Value.ref a from r)
        cases (show u' = Value.ref b from r')
        by_cases eab : a = b
        · subst eab
          exact (SeqAt.EqAt.same _).eqP
        obtain ⟨_, ya, va, ra, oa⟩ := (show ObjOk X.prog X.w H s.heap a (.dK kvs) from J.hok a _ e)
        obtain ⟨_, yb, vb, rb, ob⟩ := (show ObjOk X.prog X.w H s.heap b (.dK lvs) from J.hok b _ e')
        have pr := same_hits (F := fun x y => ∃ t : Tr, t.depth ≤ n ∧ DT H A x t ∧ DT H B y t) nd k d k' d' fun v w t m h1 h2 => ⟨t, Nat.le_trans (depth_mem m) dp', h1, h2⟩
        refine SeqAt.eqP_refs eab fun E Q q => PySem.W.rcP_dicts (knd := mixKind X.prog X.w) (r := true) ya yb oa ob hu0 (fun _ => hits_run (F := fun x y => ∃ t : Tr, t.depth ≤ n ∧ DT H A x t ∧ DT H B y t) (fun x y v u ⟨t, h0, h1, h2⟩ => ih A1.in1 hu1 h0 h1 h2) rb ra pr) E Q ?_
        have e1 : va.length = vb.length := by
          rw [← ra.length, ← rb.length, ← List.length_map (as := kvs) (f := (·.1)), k, ← k', List.length_map]
        rw [show (va.length == vb.length && true) = true from by rw [e1]; simp]
        exact q
/-- a rich comparison of two equal trees -/
theorem same_rcP (J : Inv X pl σ H s) {A1 : Around} (hu : A1.units + 64 < cLine) {t : Tr} {a b : Addr} (dp : t.depth ≤ 60) (x : DT H A (.ref a) t) (y : DT H B (.ref b) t) (E Q : Value → Shared → Prop) (q : Q (.bool true) s) : wpAny (model X.prog X.w) A1 (richCompare .Eq (.ref a) (.ref b)) Q E s := by
  have hu0 : A1.units < cLine := by omega
  have hu1 : A1.in1.units + 60 < cLine := by show A1.units + 1 + 60 < cLine; omega
  cases x with
  | @lst _ xs ts e na d =>
    cases y with
    | @lst _ ys _ e' nb d' =>
      have dp' : Tr.depths ts ≤ 60 := Nat.le_of_succ_le dp
      obtain ⟨us, r1, p1, _⟩ := J.list (.inl (.inl e))
      obtain ⟨ws, r2, p2, _⟩ := J.list (.inl (.inl e'))
      have pr := paired_dts (F := fun x y => ∃ t : Tr, t.depth ≤ 60 ∧ DT H A x t ∧ DT H B y t) d d' fun v w t m h1 h2 => ⟨t, Nat.le_trans (depth_mem m) dp', h1, h2⟩
      have hsz : us.toArray.size = ws.toArray.size := by
        rw [List.size_toArray, List.size_toArray, ← r1.length, ← r2.length]
        exact Paired.length pr
      refine SeqAt.rcP_lists (e := fun _ => true) p1.isList p2.isList hsz hu0 (fun j h1 h2 => ?_) E Q ?_
      · have k := items_run (P := X.prog) (w := X.w) (A := A1.in1) (s := s) (fun x y v u ⟨t, h0, h1, h2⟩ => sameP J 60 A1.in1 hu1 h0 h1 h2) pr r1 r2 j (by simpa using h1) (by simpa using h2)
        simpa using k
      · rw [show ((List.range us.toArray.size).all fun _ => true) = true from List.all_eq_true.mpr fun _ _ => rfl]
        exact q
  | @tup _ xs ts e na d =>
    cases y with
    | @tup _ ys _ e' nb d' =>
      have dp' : Tr.depths ts ≤ 60 := Nat.le_of_succ_le dp
      obtain ⟨us, r1, p1, _⟩ := J.tuple (.inl (.inl e))
      obtain ⟨ws, r2, p2, _⟩ := J.tuple (.inl (.inl e'))
      have pr := paired_dts (F := fun x y => ∃ t : Tr, t.depth ≤ 60 ∧ DT H A x t ∧ DT H B y t) d d' fun v w t m h1 h2 => ⟨t, Nat.le_trans (depth_mem m) dp', h1, h2⟩
      have hsz : us.toArray.size = ws.toArray.size := by
        rw [List.size_toArray, List.size_toArray, ← r1.length, ← r2.length]
        exact Paired.length pr
      refine GQ.rc_tupG hsz hu0 (fun (_ : Nat) (s' : Shared) => s' = s) p1 p2 (fun j h1 h2 s' es => ?_) (fun s' es => by rw [es]; exact q) rfl
      subst es
      have k := items_run (P := X.prog) (w := X.w) (A := A1.in1) (s := s') (F := fun x y => ∃ t : Tr, t.depth ≤ 60 ∧ DT H A x t ∧ DT H B y t) (fun x y v u ⟨t, h0, h1, h2⟩ => sameP J 60 A1.in1 hu1 h0 h1 h2) pr r1 r2 j (by simpa using h1) (by simpa using h2)
      have kk : SeqAt.EqP X.prog X.w A1.in1 s' us.toArray[j] ws.toArray[j] true := by simpa using k
      exact kk E (fun r s2 => r = true ∧ s2 = s') (And.intro rfl rfl)
  | @dct _ kvs ks ts e na k nd few d =>
    cases y with
    | @dct _ lvs _ _ e' nb k' nd' few' d' =>
      have dp' : Tr.depths ts ≤ 60 := Nat.le_of_succ_le dp
      obtain ⟨_, ya, va, ra, oa⟩ := (show ObjOk X.prog X.w H s.heap a (.dK kvs) from J.hok a _ e)
      obtain ⟨_, yb, vb, rb, ob⟩ := (show ObjOk X.prog X.w H s.heap b (.dK lvs) from J.hok b _ e')
      have pr := same_hits (F := fun x y => ∃ t : Tr, t.depth ≤ 60 ∧ DT H A x t ∧ DT H B y t) nd k d k' d' fun v w t m h1 h2 => ⟨t, Nat.le_trans (depth_mem m) dp', h1, h2⟩
      refine PySem.W.rcP_dicts (knd := mixKind X.prog X.w) (r := true) ya yb oa ob hu0 (fun _ => hits_run (F := fun x y => ∃ t : Tr, t.depth ≤ 60 ∧ DT H A x t ∧ DT H B y t) (fun x y v u ⟨t, h0, h1, h2⟩ => sameP J 60 A1.in1 hu1 h0 h1 h2) rb ra pr) E Q ?_
      have e1 : va.length = vb.length := by
        rw [← ra.length, ← rb.length, ← List.length_map (as := kvs) (f := (·.1)), k, ← k', List.length_map]
      rw [show (va.length == vb.length && true) = true from by rw [e1]; simp]
      exact q
end
section
variable {X : Cx}
/-- == of two equal trees -/
def rEqSame : R2 := fun x y H Q => ∃ (a b : Addr) (t : Tr) (A B : Addr → Prop), x = .ref a ∧ y = .ref b ∧ DT H A (.ref a) t ∧ DT H B (.ref b) t ∧ t.depth ≤ 60 ∧ Q (.bl true) H
theorem op_eqSame (hu : X.A.units + 64 < cLine) : OpR X (compareOp .Eq) rEqSame := by
  intro pins s σ H x y v u Q I rx ry h
  obtain ⟨a, b, t, A, B, rfl, rfl, dx, dy, dp, q⟩ := h
  obtain rfl : v = Value.ref a := rx
  obtain rfl : u = Value.ref b := ry
  exact same_rcP I hu dp dx dy _ _ ⟨.bl true, H, I, rfl, q⟩
/-- == of two trees without dicts -/
def rEqPl : R2 := fun x y H Q => ∃ (t u : Tr) (A B : Addr → Prop), DT H A x t ∧ DT H B y u ∧ SeqAt.shaped t.data = true ∧ SeqAt.shaped u.data = true ∧ Q (.bl (PyData.eqv t.data u.data)) H
theorem op_eqPl (hu : X.A.units + 64 < cLine) : OpR X (compareOp .Eq) rEqPl := by
  intro pins s σ H x y v u Q I rx ry h
  obtain ⟨t, t', A, B, dx, dy, sd, se, q⟩ := h
  obtain ⟨as, r1, _⟩ := DT.reads I dx rx
  obtain ⟨bs, r2, _⟩ := DT.reads I dy ry
  exact SeqAt.compareEq_shaped r1 r2 sd se hu ⟨.bl _, H, I, rfl, q⟩
abbrev eqD1 (t u : Tr) : Bool := PyData.eqv t.data u.data
/-- == of two dicts of trees without dicts -/
def eqD2 : Tr → Tr → Bool
  | .dct ks ts, .dct ls us => eqDct eqD1 ks ts ls us
  | _, _ => false
inductive Dict1 : Tr → Prop
  | mk {ks : List Str} {ts : List Tr} (h : ∀ t ∈ ts, SeqAt.shaped t.data = true) : Dict1 (.dct ks ts)
theorem eqD2_self {ks : List Str} {ts : List Tr} (nd : ks.Nodup) (len : ks.length = ts.length) {f : Tr → Tr → Bool} (h : ∀ t ∈ ts, f t t = true) : eqDct f ks ts ks ts = true := by
  unfold eqDct eqItems
  rw [Bool.and_eq_true]
  refine ⟨by simp, List.all_eq_true.mpr fun p hp => ?_⟩
  obtain ⟨i, hi⟩ := List.mem_iff_getElem?.mp hp
  have hz : ks[i]? = some p.1 := by
    have h1 : ((ks.zip ts).map (·.1))[i]? = some p.1 := by rw [List.getElem?_map, hi]; rfl
    rwa [zip_fst len] at h1
  have ht : ts[i]? = some p.2 := by
    have h1 : ((ks.zip ts).map (·.2))[i]? = some p.2 := by rw [List.getElem?_map, hi]; rfl
    rwa [zip_snd len] at h1
  rw [look_at nd hz ht]
  exact h _ (List.mem_of_getElem? ht)
theorem d2_eqP {pl : List (Addr × Obj)} {σ : L2.St} {H : Hp} {s : Shared} {A B : Addr → Prop} (J : Inv X pl σ H s) {A1 : Around} (hu : A1.units + 66 < cLine) {v v' : V} {t t' : Tr} {u u' : Value} (x : DT H A v t) (g : Dict1 t) (y : DT H B v' t') (g' : Dict1 t') (r : RelV v u) (r' : RelV v' u') :
    SeqAt.EqP X.prog X.w A1 s u u' (eqD2 t t') := by
  cases g with
  | @mk ks ts g =>
    cases g' with
    | @mk ls us g' =>
      obtain ⟨a, kvs, rfl, ea, na, ka, nda, fa, da⟩ := x.dctI
      obtain ⟨b, lvs, rfl, eb, nb, kb, ndb, fb, db⟩ := y.dctI
      cases (show u = Value.ref a from r)
      cases (show u' = Value.ref b from r')
      by_cases eab : a = b
      · subst eab
        have e := DT.one x y
        injection e with e1 e2
        subst e1 e2
        have len : ks.length = ts.length := by rw [← da.len, List.length_map, ← List.length_map (as := kvs) (f := (·.1)), ka, List.length_map]
        rw [show eqD2 (.dct ks ts) (.dct ks ts) = true from eqD2_self nda len fun t m => SeqAt.eqv_refl _ (SeqAt.canLay_of_shaped (g t m))]
        exact (SeqAt.EqAt.same _).eqP
      · exact SeqAt.eqP_refs eab fun E Q q => dct_rcP J (by omega) x y rfl rfl (f := eqD1) (G := fun t => SeqAt.shaped t.data = true) (G' := fun t => SeqAt.shaped t.data = true) g g' (fun v v' t t' u u' d1 h1 d2 h2 r1 r2 => plain_eqP J d1 d2 r1 r2 h1 h2 (by show A1.units + 1 + 64 < cLine; omega)) E Q q
/-- == of two dicts of dicts of trees without dicts -/
def rEqDD : R2 := fun x y H Q => ∃ (ks ls : List Str) (ts us : List Tr) (A B : Addr → Prop), DT H A x (.dct ks ts) ∧ DT H B y (.dct ls us) ∧ (∀ t ∈ ts, Dict1 t) ∧ (∀ t ∈ us, Dict1 t) ∧ Q (.bl (eqDct eqD2 ks ts ls us)) H
theorem op_eqDD (hu : X.A.units + 68 < cLine) : OpR X (compareOp .Eq) rEqDD := by
  intro pins s σ H x y v u Q I rx ry h
  obtain ⟨ks, ls, ts, us, A, B, dx, dy, g, g', q⟩ := h
  exact dct_rcP I (A1 := X.A) (by omega) dx dy rx ry (f := eqD2) g g' (fun v v' t t' u u' d1 h1 d2 h2 r1 r2 => d2_eqP I (by show X.A.units + 1 + 66 < cLine; omega) d1 h1 d2 h2 r1 r2) _ _ ⟨.bl _, H, I, rfl, q⟩
end
end Lw

set_option Elab.async false
set_option linter.all false
set_option maxRecDepth 100000
set_option maxHeartbeats 4000000
/-! != of two equal trees, tuples at the top -/
namespace Lw
open PySem PySem.Spec PyProof.Rows L2
section
open AutoSeq1 (wpAny_loadPart')
variable {P : Program} {w : World} {A : Around} {R : Result → Shared → Prop}
theorem tup_ne_same (l b : Addr) (xs ys : Array Value) (n m : Nat) (d1 d2 : Option Addr) (s1 s2 : Array (Option Value)) (sz : xs.size = ys.size) {s : Shared}
    (each : ∀ i (h1 : i < xs.size) (h2 : i < ys.size), SeqAt.EqP P w A.in1 s xs[i] ys[i] true) (fin : R (.ok (.ret (.bool false))) s)
    (hl : s.heap.get? l = some { cls := .type "tuple", dict := d1, data := .seq xs n, slots := s1 }) (hb : s.heap.get? b = some { cls := .type "tuple", dict := d2, data := .seq ys m, slots := s2 }) :
    wpAny (model P w) A.in1 (Builtin.«tuple.__ne__» ⟨[.ref l, .ref b], []⟩) (GQ.FinOf P w A R) (fun e s' => R (.error e) s') s := by
  have sub := AutoSeq1.sub_tuple_tuple
  have hZ : (xs.toList.zip ys.toList).length = xs.size := by simp [sz]
  obtain ⟨hp, gs, dr, tk, os⟩ := s
  wp_walk using wpAny_loadPart' hl, wpAny_loadPart' hb, wpAny_forIn_list _ (fun left acc s' => acc.1 = none ∧ s' = ⟨hp, gs, dr, tk, os⟩ ∧ ∃ i, left = (xs.toList.zip ys.toList).drop i ∧ i ≤ xs.size) _
  case turn =>
    rintro ⟨y, x⟩ left acc s' ⟨ha, rfl, i, hz, hi⟩
    have lt : i < (xs.toList.zip ys.toList).length := by
      rcases Nat.lt_or_ge i (xs.toList.zip ys.toList).length with h' | h'
      · exact h'
      · rw [List.drop_of_length_le h'] at hz
        cases hz
    have h1 : i < xs.size := hZ ▸ lt
    have h2 : i < ys.size := sz ▸ h1
    rw [List.drop_eq_getElem_cons lt] at hz
    injection hz with hyx hrest
    obtain rfl : y = xs[i] := by have q := congrArg Prod.fst hyx; simpa using q
    obtain rfl : x = ys[i] := by have q := congrArg Prod.snd hyx; simpa using q
    refine wpAny_bind (each i h1 h2 _ _ ?_)
    wp_walk
    exact ⟨rfl, rfl, i + 1, hrest, h1⟩
  case fin =>
    rintro ⟨b1, b2⟩ s' ⟨ha, rfl, i, hz, hi⟩
    simp only at ha
    subst ha
    wp_walk
    simpa [Builtin.Tuple.tupleCompareSizes, sz] using fin
  case h =>
    exact ⟨rfl, rfl, 0, rfl, Nat.zero_le _⟩
end
section
variable {X : Cx}
def rNeSame : R2 := fun x y H Q => ∃ (a b : Addr) (ts : List Tr) (A B : Addr → Prop), x = .ref a ∧ y = .ref b ∧ DT H A (.ref a) (.tup ts) ∧ DT H B (.ref b) (.tup ts) ∧ Tr.depths ts ≤ 60 ∧ Q (.bl false) H
theorem op_neSame (hu : X.A.units + 64 < cLine) : OpR X (compareOp .NotEq) rNeSame := by
  intro pins s σ H x y v u Q J rx ry h
  obtain ⟨a, b, ts, A, B, rfl, rfl, dx, dy, dp, q⟩ := h
  obtain rfl : v = Value.ref a := rx
  obtain rfl : u = Value.ref b := ry
  obtain ⟨_, xs, e1, ex, _, d⟩ := dx.tupI
  cases e1
  obtain ⟨_, ys, e2, ey, _, d'⟩ := dy.tupI
  cases e2
  obtain ⟨us, r1, p1, _⟩ := J.tuple (.inl (.inl ex))
  obtain ⟨ws, r2, p2, _⟩ := J.tuple (.inl (.inl ey))
  have pr := paired_dts (F := fun x y => ∃ t : Tr, t.depth ≤ 60 ∧ DT H A x t ∧ DT H B y t) d d' fun v w t m h1 h2 => ⟨t, Nat.le_trans (depth_mem m) dp, h1, h2⟩
  have hsz : us.toArray.size = ws.toArray.size := by
    rw [List.size_toArray, List.size_toArray, ← r1.length, ← r2.length]
    exact Paired.length pr
  obtain ⟨⟨c1, dd, t1, sl⟩, ho, hc, n, hd⟩ := id p1
  obtain ⟨⟨c2, dd2, t2, sl2⟩, ho2, hc2, n2, hd2⟩ := id p2
  simp only at hc hd hc2 hd2
  subst hc hd hc2 hd2
  show wpAny (model X.prog X.w) X.A (richCompare .NotEq (.ref a) (.ref b)) (EP X pins σ Q) X.xe s
  refine wpAny_richCompare_same_room (op := .NotEq) ⟨_, ho, rfl⟩ ⟨_, ho2, rfl⟩ F.slot_tuple_ne (GQ.call_here F.slot_tuple_ne ⟨_, ho, rfl⟩ F.entry_tuple_ne (F.args_tuple_ne_2 _ _) ?_) (by omega)
  refine tup_ne_same (R := wants (fun v s' => v ≠ .notImplemented ∧ EP X pins σ Q v s') X.xe) a b us.toArray ws.toArray n n2 dd dd2 sl sl2 hsz (fun j h1 h2 => ?_) ⟨(fun x => nomatch x), .bl false, H, J, rfl, q⟩ ho ho2
  have k := items_run (P := X.prog) (w := X.w) (A := X.A.in1) (s := s) (F := fun x y => ∃ t : Tr, t.depth ≤ 60 ∧ DT H A x t ∧ DT H B y t) (fun x y v u ⟨t, h0, h1, h2⟩ => sameP J 60 X.A.in1 (by show X.A.units + 1 + 60 < cLine; omega) h0 h1 h2) pr r1 r2 j (by simpa using h1) (by simpa using h2)
  simpa using k
end
end Lw

set_option Elab.async false
set_option linter.all false
set_option maxRecDepth 100000
set_option maxHeartbeats 4000000
/-! == and != by an own __eq__, whatever it answers -/
namespace Lw
open PySem PySem.Spec PyProof.Rows L2
section
variable {X : Cx} {n : Nat}
/-- what stands on the right: a type that is not asked first -/
def RightOk (X : Cx) (C : Addr) (h : Heap) (v : Value) : Prop := ∃ tb, PySem.W.Looks (model X.prog X.w) h (typeOf v) tb ∧ PySem.W.notFirst X.K C tb = true
theorem own_call {CX : CXT} {f : Addr} {fd : FuncData} {ps : List Str} {sp : Sp} {E : XK} (F : FnOk X.prog X.w X.K X.mg X.base CX n f fd ps sp) (hb : Binds X.K fd ps []) (hx : Passes CX X E)
    {A : Around} {pl : List (Addr × Obj)} {s : Shared} {σ : L2.St} {H : Hp} {a : Addr} {y : V} {v : Value} (sb : Sub X n A) (J : Inv X pl σ H s) (ry : RelV y v) {Q : Bool → Hp → Prop} (q : sp [.ref a, y] H (fun z H' => ∃ b, z = .bl b ∧ Q b H') E) :
    wpAny (model X.prog X.w) A (call (.ref f) [.ref a, v]) (fun r s' => ∃ b H', r = .bool b ∧ Inv X pl σ H' s' ∧ Q b H') X.xe s := by
  have e0 : Env0 X.prog X.w X.K X.mg X.base A X.stack s H := by
    have e := J.env0
    exact ⟨by rw [sb.fr]; exact e.frames, e.mod, e.bs, e.bsz, e.funs, e.frf, e.hok, e.bare⟩
  have hl := F.len _ _ _ _ q
  have r2 : Vals [V.ref a, y] [Value.ref a, v] := .cons rfl (.cons ry .nil)
  refine wpAny_call (codeAny_mono (F.run A X.stack s H ⟨[.ref a, v], []⟩ [.ref a, v] [.ref a, y] _ E sb.room e0 (by
    have h := hb s [.ref a, v] J.kIn (by simpa using hl)
    simpa using h) r2 q) fun r s' hq => ?_)
  cases r with
  | error e => exact hx pl σ H s e s' J hq
  | ok fl =>
    cases fl with
    | ret w =>
      obtain ⟨z, H', J', rz, b, ez, ex⟩ := J.after hq
      subst ez
      cases rz
      exact ⟨b, H', rfl, J', ex⟩
    | next => exact False.elim hq
    | brk => exact False.elim hq
    | cont => exact False.elim hq
/-- the class at C has this def as its __eq__, and nothing else in the way -/
structure EqCls (K : PySem.W.Frag) (C f : Addr) : Prop where
  eq : PySem.W.findIn K (.ref C) "__eq__" = some (some (.ref f))
  ne : PySem.W.findIn K (.ref C) "__ne__" = some (some (.builtin "object.__ne__"))
  fn : PySem.W.isFn K (.ref f) = true
  ob : PySem.W.subIn K (.ref C) (.type "object") = some true
def rEqOwn (C : Addr) (sp : Sp) (E : XK) (ok : V → Hp → Prop) : R2 := fun x y H Q => ∃ (a dx : Addr) (fs : List (Str × V)), x = .ref a ∧ H a = some (.ins C dx fs) ∧ ok y H ∧ sp [x, y] H (fun z H' => ∃ b, z = .bl b ∧ Q (.bl b) H') E
theorem op_eqOwn {CX : CXT} {C f : Addr} {fd : FuncData} {ps : List Str} {sp : Sp} {E : XK} {ok : V → Hp → Prop} (F : FnOk X.prog X.w X.K X.mg X.base CX n f fd ps sp) (hb : Binds X.K fd ps []) (hx : Passes CX X E) (c : EqCls X.K C f) (hr : Room n X.A)
    (hok : ∀ pl σ H s y v, Inv X pl σ H s → RelV y v → ok y H → RightOk X C s.heap v) : OpR X (compareOp .Eq) (rEqOwn C sp E ok) := by
  intro pl s σ H x y v u Q J rx ry h
  obtain ⟨a, dx, fs, rfl, ha, o, q⟩ := h
  cases (show v = Value.ref a from rx)
  obtain ⟨mA, G, _⟩ := ins_get J.hok ha
  obtain ⟨od, G, _⟩ := G.look
  obtain ⟨m, hF⟩ := J.fr
  obtain ⟨tb, L, nf⟩ := hok pl σ H s y u J ry o
  show wpAny (model X.prog X.w) X.A (richCompare .Eq (.ref a) u) (EP X pl σ Q) X.xe s
  refine PySem.W.cmp_K (op := .Eq) (tb := tb) hr.units0 hF J.ok.mod.kin G L nf c.eq c.fn ?_
  refine wpAny_mono (own_call F hb hx (A := X.A) ⟨hr, rfl⟩ J ry q) (fun r s' z => ?_) fun _ _ x => x
  obtain ⟨b, H', rfl, J', q'⟩ := z
  exact ⟨.bl b, H', J', rfl, q'⟩
section
variable {M : Model} {A : Around} {E : Value → Shared → Prop} {s : Shared} {K : PySem.W.Frag} {x C : Addr} {ox : Obj} {od : Option Obj} {name : Str} {id T : String}
/-- a built-in method of an instance is called -/
theorem bound_B {args : List Value} {Q : Option Value → Shared → Prop} (K1 : K.In s.heap) (G : PySem.W.InstAt s.heap x ox C od) (hs : PySem.W.findIn K (.ref C) name = some (some (.builtin id))) (S : Slot T name id)
    (h : wpAny M A (call (.builtin id) (.ref x :: args)) (fun v => Q (some v)) E s) : wpAny M A (callSpecialIfBound? (.ref x) name args) Q E s := by
  simp only [callSpecialIfBound?, bindSpecialIfBound?]
  refine wpAny_holding (wpAny_bind (wpAny_bind (wpAny_bind (G.type.here ((PySem.W.looks_findIn K1 hs).here ?_)))))
  simp only [S.bind]
  refine wpAny_bind (wpAny_askSetting (wpAny_ite ?_))
  have last : wpAny M A (call (.builtin id) ([.ref x] ++ args) >>= fun v => pure (some v)) Q E s := wpAny_bind (wpAny_mono h (fun v s' h' => wpAny_pure h') fun _ _ h' => h')
  split
  · exact wpAny_bind (wpAny_pure (wpAny_pure last))
  · exact wpAny_tryCatch (wpAny_bind (wpAny_pure (wpAny_pure last)))
/-- object.__ne__ is asked of an instance -/
theorem check_ne {b : Value} {Q : Unit → Shared → Prop} (K1 : K.In s.heap) (G : PySem.W.InstAt s.heap x ox C od) (ho : PySem.W.subIn K (.ref C) (.type "object") = some true) (q : Q () s) :
    wpAny M A (checkBuiltinCall "object.__ne__" ⟨[.ref x, b], []⟩) Q E s := by
  simp only [checkBuiltinCall, F.cmpKind_ne, F.cmpSplit_ne]
  refine wpAny_bind ?_
  unfold isInstance
  refine wpAny_bind (G.type.here ((PySem.W.looks_subIn K1 ho).here ?_))
  simp only [Bool.not_true, Bool.false_eq_true, if_false]
  have ok := F.cmpArgs_ne (.ref x) b
  cases hsig : Manifest.signature? "object.__ne__" with
  | none => exact wpAny_pure q
  | some sig =>
    simp only [argsOk, hsig] at ok
    have h2 : Bind.checkArgs "object.__ne__" sig ⟨[.ref x, b], []⟩ = pure () := ok
    show wpAny M A (Bind.checkArgs "object.__ne__" sig ⟨[.ref x, b], []⟩) Q E s
    rw [h2]
    exact wpAny_pure q
end
theorem ne_rc {P : Program} {w : World} {A : Around} {E : Value → Shared → Prop} {s : Shared} {K : PySem.W.Frag} {x C f L : Addr} {ox : Obj} {od : Option Obj} {b tb : Value} {h₀ : Heap} {m : Str → Option Value} {Q : Value → Shared → Prop}
    (c : EqCls K C f) (hu : A.units + 1 < cLine) (hF : Fr h₀ L s.heap m) (K0 : K.In h₀) (G : PySem.W.InstAt s.heap x ox C od) (hb : PySem.W.Looks (model P w) s.heap (typeOf b) tb) (hn : PySem.W.notFirst K C tb = true)
    (h : wpAny (model P w) A.in1 (call (.ref f) [.ref x, b]) (fun r s' => ∃ k, r = .bool k ∧ Q (.bool (!k)) s') E s) : wpAny (model P w) A (richCompare .NotEq (.ref x) b) Q E s := by
  have K1 := K0.keeps hF.keep
  have hu0 : A.units < cLine := Nat.lt_of_succ_lt hu
  have told : wpAny (model P w) A (call (.builtin "object.__ne__") [.ref x, b]) (fun v s' => ∃ k, v = .bool k ∧ Q (.bool k) s') E s := by
    refine wpAny_call (codeAny_call_builtin F.cmp_object.ne.plain F.cmpEntry_ne (check_ne K1 G c.ob ?_))
    unfold Builtin.«object.__ne__»
    repeat (first | (with_reducible refine wpAny_cRoomFor (by exact hu) ?_) | (with_reducible refine wpAny_bind (PySem.W.ifBound_K K1 G c.eq c.fn (wpAny_mono h (fun r s' hq => ?_) fun _ _ y => y))) | wp_step)
    obtain ⟨k, rfl, q⟩ := hq
    show wpAny _ _ (truthy (.bool k) >>= fun t => ret (Value.bool (!t))) _ _ _
    exact wpAny_bind (wpAny_truthy_bool (wpAny_pure ⟨!k, rfl, q⟩))
  have one : wpAny (model P w) A (tryCompare (.ref x) (cmpInfo .NotEq).2.1 b) (fun r s' => ∃ v, r = some v ∧ Q v s') E s := by
    unfold tryCompare
    refine wpAny_bind (bound_B K1 G c.ne F.cmp_object.ne (wpAny_mono told (fun v s' hv => ?_) fun _ _ y => y))
    obtain ⟨k, rfl, q⟩ := hv
    exact wpAny_pure ⟨_, rfl, q⟩
  unfold richCompare
  simp only [oneThing_ref]
  refine wpAny_holding (wpAny_bind (wpAny_cRoomFor hu0 ?_))
  refine wpAny_bind (G.type.here (wpAny_bind (hb.here ?_)))
  split
  · rename_i q
    have e : PySem.W.subIn K tb (.ref C) = some false := by
      rcases Bool.or_eq_true_iff.mp hn with e | e
      · rw [beq_iff_eq.mp e] at q
        simp at q
      · exact beq_iff_eq.mp e
    refine wpAny_bind ((PySem.W.looks_subIn K1 e).here ?_)
    simp only [Bool.false_eq_true, if_false]
    refine wpAny_bind (wpAny_mono one (fun r s' z => ?_) fun _ _ y => y)
    obtain ⟨v, rfl, hq⟩ := z
    exact wpAny_pure hq
  · refine wpAny_bind (wpAny_pure ?_)
    simp only [Bool.false_eq_true, if_false]
    refine wpAny_bind (wpAny_mono one (fun r s' z => ?_) fun _ _ y => y)
    obtain ⟨v, rfl, hq⟩ := z
    exact wpAny_pure hq
end
section
variable {X : Cx} {n : Nat}
theorem op_neOwn {CX : CXT} {C f : Addr} {fd : FuncData} {ps : List Str} {sp : Sp} {E : XK} {ok : V → Hp → Prop} (F : FnOk X.prog X.w X.K X.mg X.base CX n f fd ps sp) (hb : Binds X.K fd ps []) (hx : Passes CX X E) (c : EqCls X.K C f) (hr : Room (n + 1) X.A)
    (hok : ∀ pl σ H s y v, Inv X pl σ H s → RelV y v → ok y H → RightOk X C s.heap v) :
    OpR X (compareOp .NotEq) (fun x y H Q => ∃ (a dx : Addr) (fs : List (Str × V)), x = .ref a ∧ H a = some (.ins C dx fs) ∧ ok y H ∧ sp [x, y] H (fun z H' => ∃ b, z = .bl b ∧ Q (.bl (!b)) H') E) := by
  intro pl s σ H x y v u Q J rx ry h
  obtain ⟨a, dx, fs, rfl, ha, o, q⟩ := h
  cases (show v = Value.ref a from rx)
  obtain ⟨mA, G, _⟩ := ins_get J.hok ha
  obtain ⟨od, G, _⟩ := G.look
  obtain ⟨m, hF⟩ := J.fr
  obtain ⟨tb, L, nf⟩ := hok pl σ H s y u J ry o
  show wpAny (model X.prog X.w) X.A (richCompare .NotEq (.ref a) u) (EP X pl σ Q) X.xe s
  refine ne_rc c hr.in1.units0 hF J.ok.mod.kin G L nf ?_
  refine wpAny_mono (own_call F hb hx (A := X.A.in1) (Sub.in1 ⟨hr, rfl⟩) J ry (Q := fun b H' => Q (.bl (!b)) H') q) (fun r s' z => ?_) fun _ _ x => x
  obtain ⟨b, H', rfl, J', q'⟩ := z
  exact ⟨b, rfl, .bl (!b), H', J', rfl, q'⟩
/-- an instance of the same class, or a value of a type of Python's -/
theorem right_of {C : Addr} {pl : List (Addr × Obj)} {σ : L2.St} {H : Hp} {s : Shared} {y t : Value} {v : V} (J : Inv X pl σ H s) (r : RelV v y) (ty : TyX X.K H v t) (nf : PySem.W.notFirst X.K C t = true) : RightOk X C s.heap y := by
  obtain ⟨P, Z, p, _⟩ := kit_of J r ty
  exact ⟨t, Z.ty _ _ J.kIn p, nf⟩
end
end Lw

set_option Elab.async false
set_option linter.all false
set_option maxRecDepth 100000
set_option maxHeartbeats 4000000
/-! enumerate over a tuple -/
namespace Lw
open PySem PySem.Spec PyProof.Rows L2
theorem enum_one {v : Value} {o : Obj} {Hs : Heap → Prop} (B : Begins v o Hs) :
    Meets (Builtin.«enumerate.__new__» ⟨[.type "enumerate", v], []⟩) (fun _ R s => Hs s.heap ∧
      R (.ok (.ret (.ref (s.heap.push o).objs.size))) { s with heap := (s.heap.push o).push ⟨.type "enumerate", none, .fields #[.none, .bool false, .ref s.heap.objs.size, rawInt 0, .none, .none], #[]⟩ }) :=
  .of_wp fun P w A R s h => by
    obtain ⟨hp, gs, dr, tk, os⟩ := s
    obtain ⟨hH, h⟩ := h
    have sub := sub_enumerate
    have one : ∀ {A' : Around} {E : Value → Shared → Prop} {Q : Value → Shared → Prop}, Q (.ref hp.objs.size) ⟨hp.push o, gs, dr, tk, os⟩ → wpAny (model P w) A' (pyIter v) Q E ⟨hp, gs, dr, tk, os⟩ := fun q => B.iter P w _ _ ⟨hp, gs, dr, tk, os⟩ _ hH q
    wp_walk using one
    refine wpAny_stack_any fun stk => wpAny_pure ?_
    split
    · rename_i cc _ _ _ _ _
      cases (cc == Value.type "enumerate") <;> (wp_walk using one; exact ⟨_, rfl, h⟩)
    · wp_walk using one
      exact ⟨_, rfl, h⟩
theorem call_enum1 {P : Program} {w : World} {A : Around} {E : Value → Shared → Prop} {s : Shared} {v : Value} {o : Obj} {Hs : Heap → Prop} {Q : Value → Shared → Prop} (B : Begins v o Hs) (hH : Hs s.heap)
    (h : ∀ h', IsEnum h' (s.heap.objs.size + 1) s.heap.objs.size 0 .none → h'.get? s.heap.objs.size = some o → (∀ b ob, s.heap.get? b = some ob → h'.get? b = some ob) → Q (.ref (s.heap.objs.size + 1)) { s with heap := h' }) :
    wpAny (model P w) A (call (.type "enumerate") [v]) Q E s := by
  refine callType_new F.called_enumerate (by decide) (F.typeCall_enumerate_1 _) (F.newCall_enumerate_1 _) (fun ob => F.args_object_init_2 ob _) F.entry_enumerate_new (enum_one B) ⟨hH, ?_⟩
  have z : (s.heap.push o).objs.size = s.heap.objs.size + 1 := Heap.size_push ..
  show _ ∧ _
  rw [z]
  have g : IsEnum ((s.heap.push o).push ⟨.type "enumerate", none, .fields #[.none, .bool false, .ref s.heap.objs.size, rawInt 0, .none, .none], #[]⟩) (s.heap.objs.size + 1) s.heap.objs.size 0 .none := by
    have q := Heap.get?_push_size (s.heap.push o) (o := ⟨.type "enumerate", none, .fields #[.none, .bool false, .ref s.heap.objs.size, rawInt 0, .none, .none], #[]⟩) rfl
    rw [z] at q
    exact q
  exact ⟨⟨_, g, rfl⟩, h _ g (Heap.get?_push_of_some _ (Heap.get?_push_size _ B.free)) fun b ob e => Heap.get?_push_of_some _ (Heap.get?_push_of_some _ e)⟩
/-- the tuple at a, each item in a new pair -/
def IteT (K : PySem.W.Frag) (a : Addr) : It :=
  ⟨fun i H => ∃ (xs : List V) (x : V), SqT K H a xs ∧ xs[i]? = some x, fun i H v H' => ∃ T x, v = .ref T ∧ H T = none ∧ H' = upd H T (.tup [.int (i : Nat), x]) ∧ ∀ xs, SqT K H a xs → xs[i]? = some x, fun i H => ∃ xs : List V, SqT K H a xs ∧ xs.length = i⟩
theorem turn_enumT {P : Program} {w : World} {K : PySem.W.Frag} {elts : List Expr} {kk : Nat} {tpos : Pos} (a e it : Addr) :
    Turn P w K (.Tuple elts kk tpos) (IteT K a) [e, it] e (fun i h => (∃ old, IsEnum h e it ((i : Nat) : Int) old) ∧ h.IsTupleIter it a i ∧ e ≠ it ∧ a ≠ it ∧ a ≠ e) where
  mem := by simp
  obj := fun i h st b hb => by
    obtain ⟨⟨old, he⟩, ⟨o, ho, hc, hd⟩, _⟩ := st
    rcases (by simpa using hb : b = e ∨ b = it) with z | z
    · rw [z]; exact ⟨_, he, fun v q => nomatch q⟩
    · rw [z]; exact ⟨o, ho, fun v q => by rw [hd] at q; cases q⟩
  keep := fun i h h' st k => let ⟨⟨old, he⟩, hi, ne⟩ := st; ⟨⟨old, k e (by simp) _ he⟩, hi.at fun o q => k it (by simp) o q, ne⟩
  item := by
    intro X hP hw hK hc i pl s σ H E J hf st hg
    subst hP hw hK
    obtain ⟨⟨old, he⟩, hit, hne, hai, hae⟩ := st
    obtain ⟨xs, x, hq, hx⟩ := hg
    obtain ⟨its, rv, p, hz⟩ := J.tuple hq
    obtain ⟨u, hu, ru⟩ := rv.get hx
    have hel : e < s.heap.objs.size := Heap.lt_size he
    have hil : it < s.heap.objs.size := by obtain ⟨_, q, _⟩ := hit; exact Heap.lt_size q
    have hlt : i < its.toArray.size := by
      have h1 := (List.getElem?_eq_some_iff.mp hu).1
      simpa using h1
    have nef : e ∉ [it, a] := by
      intro m
      rcases (by simpa using m : e = it ∨ e = a) with z | z
      · exact hne z
      · exact hae z.symm
    refine wpAny_pyNext_enum_itemD (Draws.tuple (prog := X.prog) (w := X.w) (A := X.A.in1) (J.ok.hd hc) it a hai its.toArray) he ⟨hit, p⟩ hlt hne nef fun y h' tk hy ho st' hT hsz hk => ?_
    obtain rfl : u = y := by
      have h2 : its.toArray[i]? = some u := by simpa using hu
      rw [h2] at hy
      exact Option.some.inj hy
    refine ⟨_, rfl, wpAny_letOwnedTupleGo_enum (s := { s with heap := h', toks := tk + 1 }) ho fun h'' he' sb => ?_⟩
    have hT2 : h''.get? s.heap.objs.size = some { cls := .type "tuple", data := .seq #[.int i tk, u] } := (sb.2 _ (Nat.ne_of_gt hel)).trans hT
    have new : ObjOk X.prog X.w (upd H s.heap.objs.size (.tup [.int (i : Nat), x])) h'' s.heap.objs.size (.tup [.int (i : Nat), x]) :=
      ⟨by show 2 ≤ sizeLine; decide, [.int i tk, u], .cons ⟨_, rfl⟩ (.cons ru .nil), ⟨_, hT2, rfl, _, rfl⟩⟩
    have J1 : Inv X pl σ (upd H s.heap.objs.size (.tup [.int (i : Nat), x])) { s with heap := h'', toks := tk + 1 } :=
      J.turnedNew (ch := [e, it]) (fun b ob hb q => (sb.2 b (fun z => hb (by simp [z]))).trans (hk b ob (fun z => hb (by simp [z])) (fun z => hb (by simp [z])) q)) hf (Nat.le_refl _) new
    refine ⟨.ref s.heap.objs.size, _, J1, rfl, ⟨_, x, rfl, J.hok.fresh (Nat.le_refl _), rfl, fun ys hy2 => by rw [J.tuple_inj hy2 hq]; exact hx⟩, ⟨⟨u, ?_⟩, st'.1.at fun o q => (sb.2 it (Ne.symm hne)).trans q, hne, hai, hae⟩, fun b hb => ?_⟩
    · have e1 : ((i + 1 : Nat) : Int) = (i : Int) + 1 := by omega
      rw [e1]
      exact he'
    · have hb' : b < s.heap.objs.size := by
        rcases (by simpa using hb : b = e ∨ b = it) with z | z
        · rw [z]; exact hel
        · rw [z]; exact hil
      rw [upd_ne (Nat.ne_of_lt hb')]
      exact (hf b hb).1
  done := by
    intro X hP hw hK hc i pl s σ H E J hf st hg
    subst hP hw hK
    obtain ⟨⟨old, he⟩, hit, hne, hai, hae⟩ := st
    obtain ⟨xs, hq, hx⟩ := hg
    obtain ⟨its, rv, p, hz⟩ := J.tuple hq
    obtain ⟨f0, f1, f2, f3, f4, f5⟩ := hf it (by simp)
    have hl : its.toArray.size = i := by rw [List.size_toArray, ← rv.length]; exact hx
    refine wpAny_pyNext_enum_endD (Draws.tuple (prog := X.prog) (w := X.w) (A := X.A.in1) (J.ok.hd hc) it a hai its.toArray) he (by rw [hl]; exact ⟨hit, p⟩) fun h' eb => ?_
    exact ⟨rfl, J.turned (t' := s.toks) (fun b o hb q => eb b o hb q) f0 f1 f3 f4 f5⟩
  self := fun A i s Q E st h => let ⟨⟨_, he⟩, _⟩ := st; wpAny_pyIter_enum he h
def iEnumT (K : PySem.W.Frag) (ta : TA) : TI := fun σ H R => ta σ H fun vs H1 => ∃ a xs, vs = [.ref a] ∧ SqT K H1 a xs ∧ R (IteT K a) H1
theorem pi_enumT {X : Cx} {e : Expr} {ta : TA} {p pos tpos : Pos} {elts : List Expr} {kk : Nat} (hg : Gl X "enumerate") (hm : X.mg "enumerate" = none) (ha : PA X [e] ta) (hs : starEach [e] X.env = [(false, eval e X.env)] := by rfl) :
    PI X (.Tuple elts kk tpos) (.Call (.Name "enumerate" p) [e] [] pos) (iEnumT X.K ta) := by
  refine ⟨fun pl s σ H R J h => ?_⟩
  refine Call_ (ld_blt J hg hm boot_enumerate (PyProof.Rows.callWith_type1 (thn (ha.run pos pl s σ H _ J h) fun us s1 ⟨vs, H1, J1, r1, q1⟩ => ?_) hs rfl))
  obtain ⟨a, xs, ex, hq, q⟩ := q1
  subst ex
  cases r1 with
  | cons r rr =>
    cases rr
    cases r
    obtain ⟨its, rv, p', hz⟩ := J1.tuple hq
    have hal : a < s1.heap.objs.size := by obtain ⟨_, q, _⟩ := p'; exact Heap.lt_size q
    refine call_enum1 (begins_tuple a its.toArray) p' fun h' he hit hk => wpAny_pyIter_enum he ?_
    have J2 : Inv X pl σ H1 { s1 with heap := h' } := J1.kept (t' := s1.toks) hk
    refine ⟨s1.heap.objs.size + 1, [s1.heap.objs.size + 1, s1.heap.objs.size], _, _, H1, rfl, J2, turn_enumT a (s1.heap.objs.size + 1) s1.heap.objs.size, ⟨⟨.none, he⟩, ⟨_, hit, rfl, rfl⟩, Nat.succ_ne_self _, Nat.ne_of_lt hal, Nat.ne_of_lt (Nat.lt_succ_of_lt hal)⟩, fun b hb => ?_, q⟩
    have hle : s1.heap.objs.size ≤ b := by
      rcases (by simpa using hb : b = s1.heap.objs.size + 1 ∨ b = s1.heap.objs.size) with z | z
      · rw [z]; exact Nat.le_add_right _ _
      · rw [z]; exact Nat.le_refl _
    exact J1.fpOk hle (J1.hok.fresh hle)
end Lw

set_option Elab.async false
set_option linter.all false
namespace Lw
open PySem PySem.Spec PyProof.Rows L2
/-- a row that nobody comes to -/
theorem ps_never {X : Cx} {st : Stmt} : PS X st (fun _ _ _ => False) := ⟨fun _ _ _ _ _ _ h => h.elim⟩
end Lw

set_option Elab.async false
set_option linter.all false
set_option maxRecDepth 100000
set_option maxHeartbeats 4000000
namespace Lw
open PySem PySem.Spec PyProof.Rows L2
/-! ### the tables in order; rules as trees -/
def tabOf (tabs : Tabs) (z : Str) : Flds := (tabAt tabs z).getD []
def ordTabs (tabs : Tabs) : Tabs := (sortT (tabs.map (·.1))).map fun z => (z, ordF (tabOf tabs z))
theorem ordTabs_keys (tabs : Tabs) : (ordTabs tabs).map (·.1) = sortT (tabs.map (·.1)) := by
  unfold ordTabs
  rw [List.map_map]
  exact List.map_id' _
theorem ordTabs_vals (tabs : Tabs) : (ordTabs tabs).map (fun p => fieldsT p.2) = (sortT (tabs.map (·.1))).map fun z => fieldsT (ordF (tabOf tabs z)) := by
  unfold ordTabs
  rw [List.map_map]
  rfl
theorem tst_canon : ∀ t : Tst, t.tree.canon = t.tree
  | .is f ws => by
    show Tr.tup [.str "is", .str f, .lst (Tr.canons (ws.map Tr.str))] = _
    rw [canons_map, List.map_map]
    rfl
  | .non f => rfl
  | .nt t => by
    show Tr.tup [.str "not", t.tree.canon] = _
    rw [tst_canon t]
    rfl
theorem tests_canon (ts : List Tst) : (testsT ts).canon = testsT ts := by
  show Tr.lst (Tr.canons (ts.map Tst.tree)) = _
  rw [canons_map, List.map_map]
  unfold testsT
  congr 1
  exact List.map_congr_left fun t _ => tst_canon t
theorem rule_canon : ∀ r : Rul, (ruleT r).canon = ruleT r
  | (n, .link tb fd x y) => by
    show Tr.tup [.str n, .str "link", .str tb, .str fd, (testsT x).canon, (testsT y).canon] = _
    rw [tests_canon, tests_canon]
    rfl
  | (n, .uniq tb fd) => rfl
  | (n, .one tb x) => by
    show Tr.tup [.str n, .str "some", .str tb, (testsT x).canon] = _
    rw [tests_canon]
    rfl
  | (n, .chk tb x) => by
    show Tr.tup [.str n, .str "check", .str tb, (testsT x).canon] = _
    rw [tests_canon]
    rfl
theorem tst_depth : ∀ t : Tst, t.tree.depth ≤ t.depth + 2
  | .is f ws => by
    show max 0 (max 0 (max (Tr.depths (ws.map Tr.str) + 1) 0)) + 1 ≤ 2
    have h := strs_depths ws
    omega
  | .non f => by show max 0 (max 0 0) + 1 ≤ 2; omega
  | .nt t => by
    show max 0 (max t.tree.depth 0) + 1 ≤ t.depth + 1 + 2
    have h := tst_depth t
    omega
theorem tests_depth {fs : Flds} {ts : List Tst} (o : TstsOk fs ts) : (testsT ts).depth ≤ 5 := by
  have h : Tr.depths (ts.map Tst.tree) ≤ 4 := depths_le fun t ht => by
    obtain ⟨s, hs, rfl⟩ := List.mem_map.mp ht
    have h1 := tst_depth s
    have h2 := (o.1 s hs).dep
    omega
  show Tr.depths (ts.map Tst.tree) + 1 ≤ 5
  omega
theorem core_few {fs : Flds} {m : Nat} (hm : m ≤ 1000) : ∀ {t : Tst}, TstC fs m t.core → t.tree.few = true
  | .is f ws, h => by
    have h2 : ws.length ≤ m := by
      cases h with
      | is a b c d e => exact c
    show (decide (3 ≤ 1000) && (true && (true && ((decide ((ws.map Tr.str).length ≤ 1000) && Tr.fews (ws.map Tr.str)) && true)))) = true
    rw [strs_fews, List.length_map, decide_eq_true (by omega : ws.length ≤ 1000)]
    rfl
  | .non f, _ => rfl
  | .nt t, h => by
    show (decide (2 ≤ 1000) && (true && (t.tree.few && true))) = true
    rw [core_few hm (t := t) h]
    rfl
theorem tests_few {fs : Flds} {ts : List Tst} (o : TstsOk fs ts) : (testsT ts).few = true := by
  show (decide ((ts.map Tst.tree).length ≤ 1000) && Tr.fews (ts.map Tst.tree)) = true
  rw [List.length_map, decide_eq_true (by have := o.2; omega : ts.length ≤ 1000), fews_all fun t ht => by
    obtain ⟨s, hs, rfl⟩ := List.mem_map.mp ht
    exact core_few (by decide) (o.1 s hs).core]
  rfl
theorem rule_depth {tabs : Tabs} : ∀ {r : Rul}, RKOk tabs r.2 → (ruleT r).depth ≤ 6
  | (n, .link tb fd x y), .link h l h2 tx ty => by
    show max 0 (max 0 (max 0 (max 0 (max (testsT x).depth (max (testsT y).depth 0))))) + 1 ≤ 6
    have h1 := tests_depth tx
    have h2 := tests_depth ty
    omega
  | (n, .uniq tb fd), _ => by show max 0 (max 0 (max 0 (max 0 0))) + 1 ≤ 6; omega
  | (n, .one tb x), .one h tx => by
    show max 0 (max 0 (max 0 (max (testsT x).depth 0))) + 1 ≤ 6
    have h1 := tests_depth tx
    omega
  | (n, .chk tb x), .chk h tx => by
    show max 0 (max 0 (max 0 (max (testsT x).depth 0))) + 1 ≤ 6
    have h1 := tests_depth tx
    omega
theorem rule_few {tabs : Tabs} : ∀ {r : Rul}, RKOk tabs r.2 → (ruleT r).few = true
  | (n, .link tb fd x y), .link h l h2 tx ty => by
    show (decide (6 ≤ 1000) && (true && (true && (true && (true && ((testsT x).few && ((testsT y).few && true))))))) = true
    rw [tests_few tx, tests_few ty]
    rfl
  | (n, .uniq tb fd), _ => rfl
  | (n, .one tb x), .one h tx => by
    show (decide (4 ≤ 1000) && (true && (true && (true && ((testsT x).few && true))))) = true
    rw [tests_few tx]
    rfl
  | (n, .chk tb x), .chk h tx => by
    show (decide (4 ≤ 1000) && (true && (true && (true && ((testsT x).few && true))))) = true
    rw [tests_few tx]
    rfl
theorem rules_canon (rs : List Rul) : (rulesT rs).canon = rulesT rs := by
  show Tr.lst (Tr.canons (rs.map ruleT)) = _
  rw [canons_map, List.map_map]
  unfold rulesT
  congr 1
  exact List.map_congr_left fun t _ => rule_canon t
theorem rules_depth {tabs : Tabs} {rs : List Rul} (o : PartsOk tabs rs) : (rulesT rs).depth ≤ 7 := by
  have h : Tr.depths (rs.map ruleT) ≤ 6 := depths_le fun t ht => by
    obtain ⟨s, hs, rfl⟩ := List.mem_map.mp ht
    exact rule_depth (o.ok s hs).2
  show Tr.depths (rs.map ruleT) + 1 ≤ 7
  omega
theorem rules_few {tabs : Tabs} {rs : List Rul} (o : PartsOk tabs rs) : (rulesT rs).few = true := by
  show (decide ((rs.map ruleT).length ≤ 1000) && Tr.fews (rs.map ruleT)) = true
  rw [List.length_map, decide_eq_true (by have := o.few; omega : rs.length ≤ 1000), fews_all fun t ht => by
    obtain ⟨s, hs, rfl⟩ := List.mem_map.mp ht
    exact rule_few (o.ok s hs).2]
  rfl
/-! ### a schema -/
structure SchAt (C : Addr) (H : Hp) (A : Addr → Prop) (s : Addr) (tabs : Tabs) (rs : List Rul) : Prop where
  ex : ∃ dx dT dR, A s ∧ H s = some (.ins C dx [("_tables", .ref dT), ("_rules", .ref dR)]) ∧ DT H A (.ref dT) (tablesT (ordTabs tabs)) ∧ DT H A (.ref dR) (rulesT rs)
theorem SchAt.mono {C : Addr} {H H' : Hp} {A : Addr → Prop} {s : Addr} {tabs : Tabs} {rs : List Rul} (x : SchAt C H A s tabs rs) (k : ∀ a o, A a → H a = some o → H' a = some o) : SchAt C H' A s tabs rs := by
  obtain ⟨dx, dT, dR, n, e, d1, d2⟩ := x.ex
  exact ⟨dx, dT, dR, n, k _ _ n e, d1.mono k, d2.mono k⟩
theorem SchAt.sub {C : Addr} {H : Hp} {A B : Addr → Prop} {s : Addr} {tabs : Tabs} {rs : List Rul} (x : SchAt C H A s tabs rs) (k : ∀ a, A a → B a) : SchAt C H B s tabs rs := by
  obtain ⟨dx, dT, dR, n, e, d1, d2⟩ := x.ex
  exact ⟨dx, dT, dR, k _ n, e, d1.sub k, d2.sub k⟩
section
variable {K : PySem.W.Frag} {a : Addr} {xs : List V}
theorem walk_enumT : Walk (IteT K a) xs.length (fun H => SqT K H a xs) (YPair (fun i => some (.int (i : Nat))) (fun i => xs[i]?)) := by
  refine ⟨fun i _ hi q => ⟨xs, xs[i], q, by simp [hi]⟩, fun _ q => ⟨xs, q, rfl⟩, fun i H v H' _ q y => ?_⟩
  obtain ⟨T, x, h1, h2, h3, h4⟩ := y
  exact ⟨T, .int (i : Nat), x, h1, h2, h3, rfl, h4 xs q⟩
end
/-! ### Schema.__init__ -/
abbrev sMeth (i : Nat) : Stmt := (C8.clsBody (topS 31)).getD i (.Pass ⟨0, 0, 0, 0⟩)
abbrev sInit : Stmt := sMeth 0
abbrev NInit : List Str := ["self", "tables", "rules", "at", "rule", "earlier", "table"]
theorem scInit : FnScope NInit ["self", "tables", "rules"] (C8.fnScope sInit) := ⟨rfl, rfl, rfl, by decide +kernel, rfl, by decide +kernel, by decide +kernel⟩
end Lw

set_option Elab.async false
set_option linter.all false
set_option maxRecDepth 100000
set_option maxHeartbeats 4000000
namespace Lw
open PySem PySem.Spec PyProof.Rows L2
/-- the places of a tree hold lists, tuples, dicts -/
def PlainO : HO → Prop
  | .lst _ => True
  | .tup _ => True
  | .dK _ => True
  | _ => False
mutual
theorem DT.plain {H : Hp} {A : Addr → Prop} : ∀ {v : V} {t : Tr}, DT H A v t → DT H (fun a => A a ∧ ∃ o, H a = some o ∧ PlainO o) v t
  | _, _, .non => .non
  | _, _, .bl b => .bl b
  | _, _, .int i => .int i
  | _, _, .str z => .str z
  | _, _, .lst e n d => .lst e ⟨n, _, e, trivial⟩ (DTs.plain d)
  | _, _, .tup e n d => .tup e ⟨n, _, e, trivial⟩ (DTs.plain d)
  | _, _, .dct e n k nd few d => .dct e ⟨n, _, e, trivial⟩ k nd few (DTs.plain d)
theorem DTs.plain {H : Hp} {A : Addr → Prop} : ∀ {vs : List V} {ts : List Tr}, DTs H A vs ts → DTs H (fun a => A a ∧ ∃ o, H a = some o ∧ PlainO o) vs ts
  | _, _, .nil => .nil
  | _, _, .cons x y => .cons (DT.plain x) (DTs.plain y)
end
/-- an instance is none of them -/
theorem DT.noIns {H : Hp} {A : Addr → Prop} {s C dx : Addr} {fs : List (Str × V)} (hs : H s = some (.ins C dx fs)) {v : V} {t : Tr} (d : DT H A v t) : DT H (fun a => A a ∧ a ≠ s) v t := d.plain.sub fun a h => ⟨h.1, fun n => by
  obtain ⟨_, o, e, p⟩ := h
  rw [n, hs] at e
  cases e
  exact p⟩
theorem DTs.noIns {H : Hp} {A : Addr → Prop} {s C dx : Addr} {fs : List (Str × V)} (hs : H s = some (.ins C dx fs)) {vs : List V} {ts : List Tr} (d : DTs H A vs ts) : DTs H (fun a => A a ∧ a ≠ s) vs ts := d.plain.sub fun a h => ⟨h.1, fun n => by
  obtain ⟨_, o, e, p⟩ := h
  rw [n, hs] at e
  cases e
  exact p⟩
theorem cut_take (xs : List V) (i : Nat) : cutV xs none (some (i : Int)) = xs.take i := by
  have e : HT.sIx xs.length xs.length (some ((i : Nat) : Int)) = min i xs.length := HT.sIx_nat _ _ i
  unfold cutV
  rw [e, HT.sIx_none]
  simp
theorem inB_no {known : List Str} {z : Str} (h : z ∉ known) : inV (V.str z) (known.map V.str) = false := by
  cases g : inV (V.str z) (known.map V.str) with
  | false => rfl
  | true => exact absurd (inB_iff.mp g) h
/-- a rule's name stands at its head -/
theorem rule_name {H : Hp} {B : Addr → Prop} {v : V} : ∀ {r : Rul}, DT H B v (ruleT r) → ∃ (a : Addr) (xs : List V), v = .ref a ∧ H a = some (.tup xs) ∧ B a ∧ xs[0]? = some (.str r.1)
  | (n, .link tb fd x y), d => by
    obtain ⟨a, xs, rfl, e, n, dd⟩ := d.tupI
    cases dd with
    | cons p q => cases p; exact ⟨a, _, rfl, e, n, rfl⟩
  | (n, .uniq tb fd), d => by
    obtain ⟨a, xs, rfl, e, n, dd⟩ := d.tupI
    cases dd with
    | cons p q => cases p; exact ⟨a, _, rfl, e, n, rfl⟩
  | (n, .one tb x), d => by
    obtain ⟨a, xs, rfl, e, n, dd⟩ := d.tupI
    cases dd with
    | cons p q => cases p; exact ⟨a, _, rfl, e, n, rfl⟩
  | (n, .chk tb x), d => by
    obtain ⟨a, xs, rfl, e, n, dd⟩ := d.tupI
    cases dd with
    | cons p q => cases p; exact ⟨a, _, rfl, e, n, rfl⟩
theorem nodup_map_take {rs : List Rul} (nd : (rs.map (·.1)).Nodup) {i : Nat} {r : Rul} (h : rs[i]? = some r) : r.1 ∉ (rs.take i).map (·.1) := by
  rw [List.map_take]
  exact take_not_mem nd (by rw [List.getElem?_map, h]; rfl)
theorem tabOf_at {tabs : Tabs} {z : Str} {fs : Flds} (h : tabAt tabs z = some fs) : tabOf tabs z = fs := by unfold tabOf; rw [h]; rfl
section
variable {P : Program} {w : World} {K : PySem.W.Frag} {mg : Str → Option Value} {base : Heap}
/-- what stands behind it: the instance with its two fields, all else as it was -/
def MadeAt (C : Addr) (H : Hp) (s dx : Addr) (tabs : Tabs) (rs : List Rul) (H' : Hp) : Prop := (∀ c u, H c = some u → c ≠ s → H' c = some u) ∧ ∃ dT dR, H' s = some (.ins C dx [("_tables", .ref dT), ("_rules", .ref dR)]) ∧ DT H' (fun c => H c = none) (.ref dT) (tablesT (ordTabs tabs)) ∧ DT H' (fun c => H c = none) (.ref dR) (rulesT rs)
structure InitCls (K : PySem.W.Frag) (C : Addr) : Prop where
  cls : Cls K C
  n1 : NoAttr K C "_tables"
  n2 : NoAttr K C "_rules"
def spInitL (C : Addr) : Sp := fun vs H Q _ => ∃ (s dx T R : Addr) (tabs : Tabs) (rs : List Rul) (A B : Addr → Prop), vs = [.ref s, .ref T, .ref R] ∧ H s = some (.ins C dx []) ∧ DT H A (.ref T) (tablesT tabs) ∧ DT H B (.ref R) (rulesT rs) ∧ PartsOk tabs rs ∧ ∀ H', MadeAt C H s dx tabs rs H' → Q .non H'
theorem ok_initL {C f f27 f29 f28 f19 : Addr} {fd fd27 fd29 fd28 fd19 : FuncData} {t1 : Tok} (F : C8.Fun K "__init__" "Schema.__init__" sInit f fd) (c : InitCls K C)
    (G27 : FnOk P w K mg base CX0 5 f27 fd27 ["thing"] spTabs1) (m27 : mg "_are_tables" = some (.ref f27)) (k27 : PySem.W.keepIn K (.ref f27) = true) (b27 : Binds K fd27 ["thing"] [])
    (G29 : FnOk P w K mg base CX0 6 f29 fd29 ["tables", "thing"] spRule1) (m29 : mg "_is_rule" = some (.ref f29)) (k29 : PySem.W.keepIn K (.ref f29) = true) (b29 : Binds K fd29 ["tables", "thing"] [])
    (G28 : FnOk P w K mg base CX0 5 f28 fd28 ["fields"] spOrd) (m28 : mg "_ordered" = some (.ref f28)) (k28 : PySem.W.keepIn K (.ref f28) = true) (b28 : Binds K fd28 ["fields"] [])
    (G19 : FnOk P w K mg base CX0 8 f19 fd19 ["thing"] (spCopy 8)) (m19 : mg "copy_of" = some (.ref f19)) (k19 : PySem.W.keepIn K (.ref f19) = true) (b19 : Binds K fd19 ["thing"] [])
    (mi : mg "isinstance" = none) (ml : mg "list" = none) (mt : mg "tuple" = none) (mlen : mg "len" = none) (men : mg "enumerate" = none) (mso : mg "sorted" = none) (mM : mg "MOST_RULES" = some (.int 6 t1)) : FnOk P w K mg base CX0 9 f fd ["self", "tables", "rules"] (spInitL C) := by
  refine C8.fn0 F scInit (fun vs H Q E h => ?_) (fun cdv A0 outer s0 H vs Q E hr h => ?_)
  · obtain ⟨s, dx, T, R, tabs, rs, A, B, rfl, _⟩ := h
    rfl
  obtain ⟨s, dx, T, R, tabs, rs, A, B, rfl, hs, dT, dR, ok, q⟩ := h
  refine ⟨_, (pss_cons (ps_if (pt_not (pt_val (pe_call G27 (hr.mono (by decide)) (by rfl) m27 k27 b27 .nil pass0 (pa_cons (pv 1) pa_nil)))) (pss_one ps_never) pss_nil)
    (pss_cons (ps_if (PW.pt (pw_or (pt_not (pt_val (pe_callB call_isiT (by rfl) mi (by decide +kernel) (pa_cons (pv 2) (pa_cons (pe_tup (pa_cons (pe_bltn (v := .ty "list") (by rfl) ml (by decide +kernel) rfl) (pa_cons (pe_bltn (v := .ty "tuple") (by rfl) mt (by decide +kernel) rfl) pa_nil))) pa_nil))))) (pw_or1 (pt_cmpR op_gt (pe_callB call_len_seq (by rfl) mlen (by decide +kernel) (pa_cons (pv 2) pa_nil)) (pe_glob (v := .int 6) (by rfl) mM ⟨t1, rfl⟩) (nomark _))))) (pss_one ps_never) pss_nil)
    (pss_cons (ps_for PassesOwn.never rfl (pi_enum (by rfl) men (pa_cons (pv 2) pa_nil)) (pg_tup rfl (pgs_cons (pg_name (i := 3) scInit.nd rfl (.inl rfl)) (pgs_cons (pg_name (i := 4) scInit.nd rfl (.inl rfl)) pgs_nil)))
      (pss_one (ps_if (PW.pt (pw_or (pt_not (pt_val (pe_call G29 (hr.mono (by decide)) (by rfl) m29 k29 b29 .nil pass0 (pa_cons (pv 1) (pa_cons (pv 4) pa_nil))))) (pw_or1 (pt_cmpR (r := rIn K false) op_in_seq (pe_ix ix_tup (pv 4) pe_int (fun _ _ => rfl)) (pe_lc (own := [("earlier", 5)]) (g := gName 5) (tt := tYes) rfl scInit.nd (pi_list (pe_slice sl_list (pv 2) po_none (po_some (pv 3)))) (blkOk_by (N := NInit) (sc := C8.fnScope sInit) (by decide +kernel)) (fun _ _ _ _ _ => pg_name (i := 5) scInit.nd rfl (Or.inl rfl)) (fun _ _ _ _ _ => pts_nil) (fun _ _ _ _ _ => pe_ix (r := rIxT K) ix_tup (pv 5) pe_int (fun _ _ => rfl))) (by rfl))))) (pss_one ps_never) pss_nil)))
    (pss_cons (ps_fld (pv 0) (pe_dc (own := [("table", 6)]) (g := gName 6) (tt := tYes) rfl scInit.nd (pi_list (pe_callB (call_sortedD rfl) (by rfl) mso (by decide +kernel) (pa_cons (pv 1) pa_nil))) (blkOk_by (N := NInit) (sc := C8.fnScope sInit) (by decide +kernel)) (fun _ _ _ _ _ => pg_name (i := 6) scInit.nd rfl (Or.inl rfl)) (fun _ _ _ _ _ => pts_nil) (fun _ _ _ _ _ => pv 6) (fun _ _ _ _ _ => pe_call G28 (hr.mono (by decide)) (by rfl) m28 k28 b28 .nil pass0 (pa_cons (pe_dget (hu_of hr) (pv 1) (pv 6) (fun _ _ => rfl)) pa_nil))) (by rfl))
    (pss_one (ps_fld (pv 0) (pe_lc (own := [("rule", 4)]) (g := gName 4) (tt := tYes) rfl scInit.nd (pi_list (pv 2)) (blkOk_by (N := NInit) (sc := C8.fnScope sInit) (by decide +kernel)) (fun _ _ _ _ _ => pg_name (i := 4) scInit.nd rfl (Or.inl rfl)) (fun _ _ _ _ _ => pts_nil) (fun _ _ _ _ _ => pe_call G19 (hr.mono (by decide)) (by rfl) m19 k19 b19 .nil pass0 (pa_cons (pv 4) pa_nil))) (by rfl))))))), ?_⟩
  obtain ⟨_, xs, e1, eR, nR, dRs⟩ := dR.lstI
  cases e1
  have sqR : ∀ {Hx : Hp}, Same H Hx → SqL K Hx R xs := fun sx => .inl (.inl (sx _ _ eR))
  have lxs : xs.length = rs.length := by rw [dRs.len, List.length_map]
  have l6 := ok.few
  -- a rule at its place
  have ruleAt : ∀ {i : Nat} {x : V}, xs[i]? = some x → ∃ r, rs[i]? = some r ∧ DT H B x (ruleT r) := fun {i x} hx => by
    obtain ⟨t, ht, d⟩ := dRs.get hx
    rw [List.getElem?_map] at ht
    obtain ⟨r, hr', rfl⟩ := Option.map_eq_some_iff.mp ht
    exact ⟨r, hr', d⟩
  refine ⟨_, rfl, T, tabs, A, rfl, dT, ok.tab, fun H1 s1 => ⟨_, rfl, ff_if rfl ?_⟩⟩
  refine ⟨_, rfl, small (by show 2 ≤ 1000; decide), fun tp ntp => ⟨_, tp, [.ty "list", .ty "tuple"], _, [.type "list", .type "tuple"], true, rfl, upd_same, .cons (.ty "list") (.cons (.ty "tuple") .nil), .base (.lst (same_new ntp _ _ _ (s1 _ _ eR))), rfl, _, rfl, ff_if rfl ?_⟩⟩
  have s2 : Same H (upd H1 tp (.tup [.ty "list", .ty "tuple"])) := s1.trans (same_new ntp _)
  generalize (upd H1 tp (.tup [.ty "list", .ty "tuple"])) = H2 at s2 ⊢
  clear s1 ntp
  refine ⟨_, rfl, R, xs, rfl, .inl (sqR s2), _, _, rfl, rfl, _, rfl, ff_if (decide_eq_false (by omega)) ?_⟩
  refine ⟨_, rfl, R, xs, rfl, sqR s2, ?_⟩
  refine for_it walk_enum (fun i σ Hx => Same H Hx ∧ ∃ o3 o4, σ = [some (.ref s), some (.ref T), some (.ref R), o3, o4, none, none]) ⟨s2, _, _, rfl⟩ (fun i σ Hx _ p => sqR p.1) ?_ ?_
  · rintro i y σ Hx H' hi ⟨s3, o3, o4, rfl⟩ ⟨pr, x1, x2, rfl, npr, rfl, e1, e2⟩
    have e1' : V.int (i : Nat) = x1 := Option.some.inj e1
    subst e1'
    obtain ⟨r, er, dr⟩ := ruleAt e2
    have s4 : Same H (upd Hx pr (.tup [.int (i : Nat), x2])) := s3.trans (same_new npr _)
    refine ⟨pr, [.int (i : Nat), x2], rfl, .inl (.inl upd_same), rfl, .int (i : Nat), [x2], rfl, x2, [], rfl, rfl, ?_⟩
    generalize (upd Hx pr (.tup [.int (i : Nat), x2])) = H4 at s4 ⊢
    obtain ⟨okn, okr⟩ := ok.ok r (List.mem_of_getElem? er)
    refine ⟨_, rfl, _, rfl, T, x2, tabs, r.1, r.2, A, B, rfl, dT.same s4, ok.tab, dr.same s4, okn, okr, fun H5 s5 => ⟨_, rfl, ff_if rfl ?_⟩⟩
    have s6 := s4.trans s5
    obtain ⟨ra, ys, rfl, era, _, y0⟩ := rule_name dr
    refine ⟨_, rfl, ra, ys, 0, .str r.1, rfl, rfl, .inl (.inl (s6 _ _ era)), atI_nat (j := 0) y0, ?_⟩
    refine ⟨.ref R, rfl, .int (i : Nat), rfl, (i : Int), rfl, R, xs, rfl, sqR s6, fun p np => ?_⟩
    rw [cut_take]
    have s7 : Same H (upd H5 p (.lst (xs.take i))) := s6.trans (same_new np _)
    have hp : (upd H5 p (.lst (xs.take i))) p = some (.lst (xs.take i)) := upd_same
    generalize (upd H5 p (.lst (xs.take i))) = H7 at s7 hp ⊢
    refine ⟨p, rfl, ⟨_, .inl (.inl hp)⟩, fun D nD => ?_⟩
    refine lc_list (K := K) (a := p) (xs := xs.take i) (fun j Hy => Same H7 Hy ∧ Hy D = some (.lst (((rs.take j).map (·.1)).map V.str))) ⟨same_new nD _, upd_same⟩ (fun j Hy _ q => .inl (.inl (q.1 _ _ hp))) ?_ ?_
    · rintro j x Hy hx ⟨s8, hD⟩
      have hx' : xs[j]? = some x := by
        rw [List.getElem?_take] at hx
        split at hx
        · exact hx
        · cases hx
      obtain ⟨r2, er2, dr2⟩ := ruleAt hx'
      obtain ⟨rb, zs, rfl, erb, _, z0⟩ := rule_name dr2
      refine ⟨rfl, yes_if ⟨_, rfl, rb, zs, 0, .str r2.1, rfl, rfl, .inl (.inl (s8 _ _ (s7 _ _ erb))), atI_nat (j := 0) z0, _, hD, small1000 (by rw [List.length_map, List.length_map, List.length_take]; omega), Same.put s8 nD, ?_⟩⟩
      rw [upd_same, List.take_add_one, er2, List.map_append, List.map_append]
      rfl
    · rintro Hy ⟨s8, hD⟩
      have el : (xs.take i).length = i := by rw [List.length_take]; omega
      rw [el] at hD
      refine ⟨D, _, rfl, .inl (.inl (.inl hD)), rfl, flat_strs' _, _, rfl, ff_if (inB_no (nodup_map_take ok.nd er)) ?_⟩
      exact ⟨s7.trans s8, _, _, rfl⟩
  rintro σ Hx ⟨s3, o3, o4, rfl⟩
  -- self._tables
  have dTx := (dT.noIns hs).same s3
  obtain ⟨_, kvs, e1, eT, nT, kT, ndT, fewT, dTs⟩ := dTx.dctI
  cases e1
  refine ⟨_, rfl, T, kvs, tabs.map (·.1), rfl, .inl eT, kT, fewT, fun ys p perm srt np => ?_⟩
  obtain rfl : ys = sortT (tabs.map (·.1)) := sort_eq perm srt
  have s4 : Same H (upd Hx p (.lst ((sortT (tabs.map (·.1))).map V.str))) := s3.trans (same_new np _)
  have hp : (upd Hx p (.lst ((sortT (tabs.map (·.1))).map V.str))) p = some (.lst ((sortT (tabs.map (·.1))).map V.str)) := upd_same
  have eT4 := same_new np (.lst ((sortT (tabs.map (·.1))).map V.str)) _ _ eT
  generalize (upd Hx p (.lst ((sortT (tabs.map (·.1))).map V.str))) = H4 at s4 hp eT4 ⊢
  refine ⟨p, rfl, ⟨_, .inl (.inl hp)⟩, fun D nD => ?_⟩
  have nD0 : H D = none := s4.free nD
  have nDs : s ≠ D := ne_of_none hs nD0
  refine dc_list (K := K) (a := p) (xs := (sortT (tabs.map (·.1))).map V.str) (fun i Hy => Same H4 Hy ∧ ∃ es : List (Str × V), Hy D = some (.dK (tkD es)) ∧ es.map (·.1) = (sortT (tabs.map (·.1))).take i ∧ DTs Hy (fun c => H c = none ∧ c ≠ D) (es.map (·.2)) (((sortT (tabs.map (·.1))).take i).map fun z => fieldsT (ordF (tabOf tabs z))))
    ⟨same_new nD _, [], upd_same, rfl, .nil⟩ (fun i Hy _ q => .inl (.inl (q.1 _ _ hp))) ?_ ?_
  · rintro i x Hy hx ⟨s5, es, hD, ek, dd⟩
    obtain ⟨z, hz, rfl⟩ := map_get hx
    have zk : z ∈ tabs.map (·.1) := sortT_mem.mp (List.mem_of_getElem? hz)
    have dTy := dT.same (s4.trans s5)
    obtain ⟨fa, fs, dg, et, mt', dfs⟩ := tables_get dTy zk
    refine ⟨rfl, yes_if ⟨.str z, rfl, _, rfl, .str z, rfl, T, .ref fa, rfl, dg, fa, fs, _, _, rfl, dfs, ok.tab.val _ mt', fun p' H' s' d' => ?_⟩⟩
    have hD' := s' _ _ hD
    have el : es.length ≤ 3 := by
      have h1 := congrArg List.length ek
      have h2 := ok.tab.few
      have h3 := sortT_len (tabs.map (·.1))
      rw [List.length_map, List.length_take, h3, List.length_map] at h1
      omega
    have zno : (Sum.inr z : Key) ∉ (tkD es).map (·.1) := fun m => by
      rw [tkD_keys, ek] at m
      obtain ⟨y, hy, e⟩ := List.mem_map.mp m
      rw [Sum.inr.inj e] at hy
      exact take_not_mem (sortT_nodup ok.tab.nd) hz hy
    have e0 : (sortT (tabs.map (·.1))).take (i + 1) = (sortT (tabs.map (·.1))).take i ++ [z] := by
      rw [List.take_add_one, hz]
      rfl
    refine ⟨tkD es, .inr z, rfl, hD', small1000 (by rw [List.length_map]; omega), Same.put (s5.trans s') nD, es ++ [(z, .ref p')], ?_, ?_, ?_⟩
    · rw [upd_same, L2.putK_new _ (valV_no zno)]
      show _ = some (HO.dK (List.map _ (es ++ [(z, V.ref p')])))
      rw [List.map_append]
      rfl
    · rw [e0, List.map_append, ek]
      rfl
    · rw [e0, List.map_append, List.map_append]
      refine DTs.mono (fun c u hc eu => by rw [upd_ne hc.2]; exact eu) ((dd.same s').snoc ?_)
      show DT H' _ (V.ref p') (fieldsT (ordF (tabOf tabs z)))
      rw [tabOf_at et]
      exact d'.sub fun c hc => ⟨(s4.trans s5).free hc, fun n => by rw [n, hD] at hc; cases hc⟩
  rintro Hy ⟨s5, es, hD, ek, dd⟩
  rw [List.length_map, List.take_length] at ek dd
  have s6 := s4.trans s5
  have dTt : DT Hy (fun c => H c = none) (.ref D) (tablesT (ordTabs tabs)) := by
    refine .dct hD nD0 (by rw [tkD_keys, ek, ordTabs_keys]) (by rw [ordTabs_keys]; exact sortT_nodup ok.tab.nd) (by rw [ordTabs_keys, sortT_len]; exact fewT) ?_
    rw [tkD_vals, ordTabs_vals]
    exact dd.sub fun c h => h.1
  refine ⟨_, rfl, s, C, dx, [], rfl, s6 _ _ hs, c.cls, c.n1, by show 0 < 1000; decide, ?_⟩

  have hs7 : (upd Hy s (.ins C dx (putF "_tables" (.ref D) []))) s = some (.ins C dx [("_tables", .ref D)]) := upd_same
  have k7 : ∀ c u, H c = some u → c ≠ s → (upd Hy s (.ins C dx (putF "_tables" (.ref D) []))) c = some u := fun c u h n => by rw [upd_ne n]; exact s6 _ _ h
  have f7 : ∀ c, (upd Hy s (.ins C dx (putF "_tables" (.ref D) []))) c = none → H c = none := fun c h => by
    by_cases n : c = s
    · rw [n, upd_same] at h; cases h
    · rw [upd_ne n] at h; exact s6.free h
  have dTt7 : DT (upd Hy s (.ins C dx (putF "_tables" (.ref D) []))) (fun c => H c = none) (.ref D) (tablesT (ordTabs tabs)) := dTt.mono fun c u hc eu => by
    rw [upd_ne (fun n => by rw [n, hs] at hc; cases hc)]
    exact eu
  generalize (upd Hy s (.ins C dx (putF "_tables" (.ref D) []))) = H7 at hs7 k7 f7 dTt7 ⊢
  have eR7 : H7 R = some (.lst xs) := k7 _ _ eR fun n => by rw [n, hs] at eR; cases eR
  refine ⟨_, rfl, R, rfl, ⟨xs, .inl (.inl eR7)⟩, fun D2 nD2 => ?_⟩
  refine lc_list (K := K) (a := R) (xs := xs) (fun i Hz => Same H7 Hz ∧ ∃ acc, Hz D2 = some (.lst acc) ∧ acc.length = i ∧ DTs Hz (fun c => H c = none ∧ c ≠ D2) acc ((rs.take i).map ruleT)) ⟨same_new nD2 _, [], upd_same, rfl, .nil⟩ (fun i Hz _ q => .inl (.inl (q.1 _ _ eR7))) ?_ ?_
  · rintro i x Hz hx ⟨s8, acc, hD, la, dd⟩
    obtain ⟨r, er, dr⟩ := ruleAt hx
    have drz : DT Hz (fun a => B a ∧ a ≠ s) x (ruleT r) := ((dr.noIns hs).mono fun c u hc eu => k7 c u eu hc.2).same s8
    have okr := (ok.ok r (List.mem_of_getElem? er)).2
    refine ⟨rfl, yes_if ⟨_, rfl, x, ruleT r, _, rfl, drz, Nat.lt_of_le_of_lt (rule_depth okr) (by decide), rule_few okr, fun v' M H' s9 dl ndM new => ?_⟩⟩
    rw [rule_canon] at dl
    have il : i < rs.length := (List.getElem?_eq_some_iff.mp er).1
    refine ⟨acc, s9 _ _ hD, small1000 (by omega), Same.put (s8.trans s9) nD2, acc ++ [v'], upd_same, by rw [List.length_append, la]; rfl, ?_⟩
    rw [List.take_add_one, er, List.map_append]
    refine DTs.mono (fun c u hc eu => by rw [upd_ne hc.2]; exact eu) ((dd.same s9).snoc (t := ruleT r) (dl.dt fun a h => ⟨f7 a (s8.free (new a h)), fun n => ?_⟩))
    have h1 := new a h
    rw [n, hD] at h1
    cases h1
  rintro Hz ⟨s8, acc, hD, la, dd⟩
  rw [lxs, List.take_length] at dd
  refine ⟨_, rfl, s, C, dx, [("_tables", .ref D)], rfl, s8 _ _ hs7, c.cls, c.n2, by show 1 < 1000; decide, ?_⟩
  have nD2 : H D2 = none := f7 _ nD2
  refine q _ ⟨fun c u h n => by rw [upd_ne n]; exact s8 _ _ (k7 _ _ h n), D, D2, upd_same, ?_, ?_⟩
  · exact (dTt7.same s8).mono fun c u hc eu => by
      rw [upd_ne (fun n => by rw [n, hs] at hc; cases hc)]
      exact eu
  · refine .lst (by rw [upd_ne (fun n => by rw [n, hs] at nD2; cases nD2)]; exact hD) nD2 ?_
    exact (dd.sub (B := fun c => H c = none) fun c h => h.1).mono fun c u hc eu => by
      rw [upd_ne (fun n => by rw [n, hs] at hc; cases hc)]
      exact eu
end
end Lw

set_option Elab.async false
set_option linter.all false
set_option maxRecDepth 100000
set_option maxHeartbeats 4000000
namespace Lw
open PySem PySem.Spec PyProof.Rows L2
theorem cut_part {xs : List V} {i : Nat} (h : i < xs.length) : ¬ (HT.sIx xs.length 0 none = 0 ∧ HT.sIx xs.length xs.length (some ((i : Nat) : Int)) = xs.length) := fun n => by
  have e : HT.sIx xs.length xs.length (some ((i : Nat) : Int)) = min i xs.length := HT.sIx_nat _ _ i
  rw [e] at n
  omega
theorem sqT_keep {K : PySem.W.Frag} {H H' : Hp} {s C dx R : Addr} {fs : List (Str × V)} {xs : List V} (hs : H s = some (.ins C dx fs)) (h : SqT K H R xs) (k : ∀ c u, H c = some u → c ≠ s → H' c = some u) : SqT K H' R xs :=
  h.elim (fun h => .inl (h.elim (fun h => .inl (k _ _ h fun n => by rw [n, hs] at h; cases h)) fun ⟨o, h⟩ => .inr ⟨o, k _ _ h fun n => by rw [n, hs] at h; cases h⟩)) fun h => .inr h
section
variable {P : Program} {w : World} {K : PySem.W.Frag} {mg : Str → Option Value} {base : Heap}
def spInitT (K : PySem.W.Frag) (C : Addr) : Sp := fun vs H Q _ => ∃ (s dx T R : Addr) (xs : List V) (tabs : Tabs) (rs : List Rul) (A B : Addr → Prop), vs = [.ref s, .ref T, .ref R] ∧ H s = some (.ins C dx []) ∧ DT H A (.ref T) (tablesT tabs) ∧ SqT K H R xs ∧ (∀ H', Same H H' → TyX K H' (.ref R) (.type "tuple")) ∧ DTs H B xs (rs.map ruleT) ∧ PartsOk tabs rs ∧ ∀ H', MadeAt C H s dx tabs rs H' → Q .non H'
theorem ok_initT {C f f27 f29 f28 f19 : Addr} {fd fd27 fd29 fd28 fd19 : FuncData} {t1 : Tok} (F : C8.Fun K "__init__" "Schema.__init__" sInit f fd) (c : InitCls K C)
    (G27 : FnOk P w K mg base CX0 5 f27 fd27 ["thing"] spTabs1) (m27 : mg "_are_tables" = some (.ref f27)) (k27 : PySem.W.keepIn K (.ref f27) = true) (b27 : Binds K fd27 ["thing"] [])
    (G29 : FnOk P w K mg base CX0 6 f29 fd29 ["tables", "thing"] spRule1) (m29 : mg "_is_rule" = some (.ref f29)) (k29 : PySem.W.keepIn K (.ref f29) = true) (b29 : Binds K fd29 ["tables", "thing"] [])
    (G28 : FnOk P w K mg base CX0 5 f28 fd28 ["fields"] spOrd) (m28 : mg "_ordered" = some (.ref f28)) (k28 : PySem.W.keepIn K (.ref f28) = true) (b28 : Binds K fd28 ["fields"] [])
    (G19 : FnOk P w K mg base CX0 8 f19 fd19 ["thing"] (spCopy 8)) (m19 : mg "copy_of" = some (.ref f19)) (k19 : PySem.W.keepIn K (.ref f19) = true) (b19 : Binds K fd19 ["thing"] [])
    (mi : mg "isinstance" = none) (ml : mg "list" = none) (mt : mg "tuple" = none) (mlen : mg "len" = none) (men : mg "enumerate" = none) (mso : mg "sorted" = none) (mM : mg "MOST_RULES" = some (.int 6 t1)) : FnOk P w K mg base CX0 9 f fd ["self", "tables", "rules"] (spInitT K C) := by
  refine C8.fn0 F scInit (fun vs H Q E h => ?_) (fun cdv A0 outer s0 H vs Q E hr h => ?_)
  · obtain ⟨s, dx, T, R, xs, tabs, rs, A, B, rfl, _⟩ := h
    rfl
  obtain ⟨s, dx, T, R, xs, tabs, rs, A, B, rfl, hs, dT, sq0, ty0, dRs, ok, q⟩ := h
  refine ⟨_, (pss_cons (ps_if (pt_not (pt_val (pe_call G27 (hr.mono (by decide)) (by rfl) m27 k27 b27 .nil pass0 (pa_cons (pv 1) pa_nil)))) (pss_one ps_never) pss_nil)
    (pss_cons (ps_if (PW.pt (pw_or (pt_not (pt_val (pe_callB call_isiT (by rfl) mi (by decide +kernel) (pa_cons (pv 2) (pa_cons (pe_tup (pa_cons (pe_bltn (v := .ty "list") (by rfl) ml (by decide +kernel) rfl) (pa_cons (pe_bltn (v := .ty "tuple") (by rfl) mt (by decide +kernel) rfl) pa_nil))) pa_nil))))) (pw_or1 (pt_cmpR op_gt (pe_callB call_len_seq (by rfl) mlen (by decide +kernel) (pa_cons (pv 2) pa_nil)) (pe_glob (v := .int 6) (by rfl) mM ⟨t1, rfl⟩) (nomark _))))) (pss_one ps_never) pss_nil)
    (pss_cons (ps_for PassesOwn.never rfl (pi_enumT (by rfl) men (pa_cons (pv 2) pa_nil)) (pg_tup rfl (pgs_cons (pg_name (i := 3) scInit.nd rfl (.inl rfl)) (pgs_cons (pg_name (i := 4) scInit.nd rfl (.inl rfl)) pgs_nil)))
      (pss_one (ps_if (PW.pt (pw_or (pt_not (pt_val (pe_call G29 (hr.mono (by decide)) (by rfl) m29 k29 b29 .nil pass0 (pa_cons (pv 1) (pa_cons (pv 4) pa_nil))))) (pw_or1 (pt_cmpR (r := rIn K false) op_in_seq (pe_ix ix_tup (pv 4) pe_int (fun _ _ => rfl)) (pe_lc (own := [("earlier", 5)]) (g := gName 5) (tt := tYes) rfl scInit.nd (pi_tup (pe_slice sl_tup (pv 2) po_none (po_some (pv 3)))) (blkOk_by (N := NInit) (sc := C8.fnScope sInit) (by decide +kernel)) (fun _ _ _ _ _ => pg_name (i := 5) scInit.nd rfl (Or.inl rfl)) (fun _ _ _ _ _ => pts_nil) (fun _ _ _ _ _ => pe_ix (r := rIxT K) ix_tup (pv 5) pe_int (fun _ _ => rfl))) (by rfl))))) (pss_one ps_never) pss_nil)))
    (pss_cons (ps_fld (pv 0) (pe_dc (own := [("table", 6)]) (g := gName 6) (tt := tYes) rfl scInit.nd (pi_list (pe_callB (call_sortedD rfl) (by rfl) mso (by decide +kernel) (pa_cons (pv 1) pa_nil))) (blkOk_by (N := NInit) (sc := C8.fnScope sInit) (by decide +kernel)) (fun _ _ _ _ _ => pg_name (i := 6) scInit.nd rfl (Or.inl rfl)) (fun _ _ _ _ _ => pts_nil) (fun _ _ _ _ _ => pv 6) (fun _ _ _ _ _ => pe_call G28 (hr.mono (by decide)) (by rfl) m28 k28 b28 .nil pass0 (pa_cons (pe_dget (hu_of hr) (pv 1) (pv 6) (fun _ _ => rfl)) pa_nil))) (by rfl))
    (pss_one (ps_fld (pv 0) (pe_lc (own := [("rule", 4)]) (g := gName 4) (tt := tYes) rfl scInit.nd (pi_tup (pv 2)) (blkOk_by (N := NInit) (sc := C8.fnScope sInit) (by decide +kernel)) (fun _ _ _ _ _ => pg_name (i := 4) scInit.nd rfl (Or.inl rfl)) (fun _ _ _ _ _ => pts_nil) (fun _ _ _ _ _ => pe_call G19 (hr.mono (by decide)) (by rfl) m19 k19 b19 .nil pass0 (pa_cons (pv 4) pa_nil))) (by rfl))))))), ?_⟩
  have sqR : ∀ {Hx : Hp}, Same H Hx → SqT K Hx R xs := fun sx => sq0.ext sx
  have lxs : xs.length = rs.length := by rw [dRs.len, List.length_map]
  have l6 := ok.few
  -- a rule at its place
  have ruleAt : ∀ {i : Nat} {x : V}, xs[i]? = some x → ∃ r, rs[i]? = some r ∧ DT H B x (ruleT r) := fun {i x} hx => by
    obtain ⟨t, ht, d⟩ := dRs.get hx
    rw [List.getElem?_map] at ht
    obtain ⟨r, hr', rfl⟩ := Option.map_eq_some_iff.mp ht
    exact ⟨r, hr', d⟩
  refine ⟨_, rfl, T, tabs, A, rfl, dT, ok.tab, fun H1 s1 => ⟨_, rfl, ff_if rfl ?_⟩⟩
  refine ⟨_, rfl, small (by show 2 ≤ 1000; decide), fun tp ntp => ⟨_, tp, [.ty "list", .ty "tuple"], _, [.type "list", .type "tuple"], true, rfl, upd_same, .cons (.ty "list") (.cons (.ty "tuple") .nil), ty0 _ (s1.trans (same_new ntp _)), rfl, _, rfl, ff_if rfl ?_⟩⟩
  have s2 : Same H (upd H1 tp (.tup [.ty "list", .ty "tuple"])) := s1.trans (same_new ntp _)
  generalize (upd H1 tp (.tup [.ty "list", .ty "tuple"])) = H2 at s2 ⊢
  clear s1 ntp
  refine ⟨_, rfl, R, xs, rfl, .inr (sqR s2), _, _, rfl, rfl, _, rfl, ff_if (decide_eq_false (by omega)) ?_⟩
  refine ⟨_, rfl, R, xs, rfl, sqR s2, ?_⟩
  refine for_it walk_enumT (fun i σ Hx => Same H Hx ∧ ∃ o3 o4, σ = [some (.ref s), some (.ref T), some (.ref R), o3, o4, none, none]) ⟨s2, _, _, rfl⟩ (fun i σ Hx _ p => sqR p.1) ?_ ?_
  · rintro i y σ Hx H' hi ⟨s3, o3, o4, rfl⟩ ⟨pr, x1, x2, rfl, npr, rfl, e1, e2⟩
    have e1' : V.int (i : Nat) = x1 := Option.some.inj e1
    subst e1'
    obtain ⟨r, er, dr⟩ := ruleAt e2
    have s4 : Same H (upd Hx pr (.tup [.int (i : Nat), x2])) := s3.trans (same_new npr _)
    refine ⟨pr, [.int (i : Nat), x2], rfl, .inl (.inl upd_same), rfl, .int (i : Nat), [x2], rfl, x2, [], rfl, rfl, ?_⟩
    generalize (upd Hx pr (.tup [.int (i : Nat), x2])) = H4 at s4 ⊢
    obtain ⟨okn, okr⟩ := ok.ok r (List.mem_of_getElem? er)
    refine ⟨_, rfl, _, rfl, T, x2, tabs, r.1, r.2, A, B, rfl, dT.same s4, ok.tab, dr.same s4, okn, okr, fun H5 s5 => ⟨_, rfl, ff_if rfl ?_⟩⟩
    have s6 := s4.trans s5
    obtain ⟨ra, ys, rfl, era, _, y0⟩ := rule_name dr
    refine ⟨_, rfl, ra, ys, 0, .str r.1, rfl, rfl, .inl (.inl (s6 _ _ era)), atI_nat (j := 0) y0, ?_⟩
    refine ⟨.ref R, rfl, .int (i : Nat), rfl, (i : Int), rfl, R, xs, rfl, sqR s6, cut_part hi, fun p np => ?_⟩
    rw [cut_take]
    have s7 : Same H (upd H5 p (.tup (xs.take i))) := s6.trans (same_new np _)
    have hp : (upd H5 p (.tup (xs.take i))) p = some (.tup (xs.take i)) := upd_same
    generalize (upd H5 p (.tup (xs.take i))) = H7 at s7 hp ⊢
    refine ⟨p, rfl, ⟨_, .inl (.inl hp)⟩, fun D nD => ?_⟩
    refine lc_tup (K := K) (a := p) (xs := xs.take i) (fun j Hy => Same H7 Hy ∧ Hy D = some (.lst (((rs.take j).map (·.1)).map V.str))) ⟨same_new nD _, upd_same⟩ (fun j Hy _ q => .inl (.inl (q.1 _ _ hp))) ?_ ?_
    · rintro j x Hy hx ⟨s8, hD⟩
      have hx' : xs[j]? = some x := by
        rw [List.getElem?_take] at hx
        split at hx
        · exact hx
        · cases hx
      obtain ⟨r2, er2, dr2⟩ := ruleAt hx'
      obtain ⟨rb, zs, rfl, erb, _, z0⟩ := rule_name dr2
      refine ⟨rfl, yes_if ⟨_, rfl, rb, zs, 0, .str r2.1, rfl, rfl, .inl (.inl (s8 _ _ (s7 _ _ erb))), atI_nat (j := 0) z0, _, hD, small1000 (by rw [List.length_map, List.length_map, List.length_take]; omega), Same.put s8 nD, ?_⟩⟩
      rw [upd_same, List.take_add_one, er2, List.map_append, List.map_append]
      rfl
    · rintro Hy ⟨s8, hD⟩
      have el : (xs.take i).length = i := by rw [List.length_take]; omega
      rw [el] at hD
      refine ⟨D, _, rfl, .inl (.inl (.inl hD)), rfl, flat_strs' _, _, rfl, ff_if (inB_no (nodup_map_take ok.nd er)) ?_⟩
      exact ⟨s7.trans s8, _, _, rfl⟩
  rintro σ Hx ⟨s3, o3, o4, rfl⟩
  -- self._tables
  have dTx := (dT.noIns hs).same s3
  obtain ⟨_, kvs, e1, eT, nT, kT, ndT, fewT, dTs⟩ := dTx.dctI
  cases e1
  refine ⟨_, rfl, T, kvs, tabs.map (·.1), rfl, .inl eT, kT, fewT, fun ys p perm srt np => ?_⟩
  obtain rfl : ys = sortT (tabs.map (·.1)) := sort_eq perm srt
  have s4 : Same H (upd Hx p (.lst ((sortT (tabs.map (·.1))).map V.str))) := s3.trans (same_new np _)
  have hp : (upd Hx p (.lst ((sortT (tabs.map (·.1))).map V.str))) p = some (.lst ((sortT (tabs.map (·.1))).map V.str)) := upd_same
  have eT4 := same_new np (.lst ((sortT (tabs.map (·.1))).map V.str)) _ _ eT
  generalize (upd Hx p (.lst ((sortT (tabs.map (·.1))).map V.str))) = H4 at s4 hp eT4 ⊢
  refine ⟨p, rfl, ⟨_, .inl (.inl hp)⟩, fun D nD => ?_⟩
  have nD0 : H D = none := s4.free nD
  have nDs : s ≠ D := ne_of_none hs nD0
  refine dc_list (K := K) (a := p) (xs := (sortT (tabs.map (·.1))).map V.str) (fun i Hy => Same H4 Hy ∧ ∃ es : List (Str × V), Hy D = some (.dK (tkD es)) ∧ es.map (·.1) = (sortT (tabs.map (·.1))).take i ∧ DTs Hy (fun c => H c = none ∧ c ≠ D) (es.map (·.2)) (((sortT (tabs.map (·.1))).take i).map fun z => fieldsT (ordF (tabOf tabs z))))
    ⟨same_new nD _, [], upd_same, rfl, .nil⟩ (fun i Hy _ q => .inl (.inl (q.1 _ _ hp))) ?_ ?_
  · rintro i x Hy hx ⟨s5, es, hD, ek, dd⟩
    obtain ⟨z, hz, rfl⟩ := map_get hx
    have zk : z ∈ tabs.map (·.1) := sortT_mem.mp (List.mem_of_getElem? hz)
    have dTy := dT.same (s4.trans s5)
    obtain ⟨fa, fs, dg, et, mt', dfs⟩ := tables_get dTy zk
    refine ⟨rfl, yes_if ⟨.str z, rfl, _, rfl, .str z, rfl, T, .ref fa, rfl, dg, fa, fs, _, _, rfl, dfs, ok.tab.val _ mt', fun p' H' s' d' => ?_⟩⟩
    have hD' := s' _ _ hD
    have el : es.length ≤ 3 := by
      have h1 := congrArg List.length ek
      have h2 := ok.tab.few
      have h3 := sortT_len (tabs.map (·.1))
      rw [List.length_map, List.length_take, h3, List.length_map] at h1
      omega
    have zno : (Sum.inr z : Key) ∉ (tkD es).map (·.1) := fun m => by
      rw [tkD_keys, ek] at m
      obtain ⟨y, hy, e⟩ := List.mem_map.mp m
      rw [Sum.inr.inj e] at hy
      exact take_not_mem (sortT_nodup ok.tab.nd) hz hy
    have e0 : (sortT (tabs.map (·.1))).take (i + 1) = (sortT (tabs.map (·.1))).take i ++ [z] := by
      rw [List.take_add_one, hz]
      rfl
    refine ⟨tkD es, .inr z, rfl, hD', small1000 (by rw [List.length_map]; omega), Same.put (s5.trans s') nD, es ++ [(z, .ref p')], ?_, ?_, ?_⟩
    · rw [upd_same, L2.putK_new _ (valV_no zno)]
      show _ = some (HO.dK (List.map _ (es ++ [(z, V.ref p')])))
      rw [List.map_append]
      rfl
    · rw [e0, List.map_append, ek]
      rfl
    · rw [e0, List.map_append, List.map_append]
      refine DTs.mono (fun c u hc eu => by rw [upd_ne hc.2]; exact eu) ((dd.same s').snoc ?_)
      show DT H' _ (V.ref p') (fieldsT (ordF (tabOf tabs z)))
      rw [tabOf_at et]
      exact d'.sub fun c hc => ⟨(s4.trans s5).free hc, fun n => by rw [n, hD] at hc; cases hc⟩
  rintro Hy ⟨s5, es, hD, ek, dd⟩
  rw [List.length_map, List.take_length] at ek dd
  have s6 := s4.trans s5
  have dTt : DT Hy (fun c => H c = none) (.ref D) (tablesT (ordTabs tabs)) := by
    refine .dct hD nD0 (by rw [tkD_keys, ek, ordTabs_keys]) (by rw [ordTabs_keys]; exact sortT_nodup ok.tab.nd) (by rw [ordTabs_keys, sortT_len]; exact fewT) ?_
    rw [tkD_vals, ordTabs_vals]
    exact dd.sub fun c h => h.1
  refine ⟨_, rfl, s, C, dx, [], rfl, s6 _ _ hs, c.cls, c.n1, by show 0 < 1000; decide, ?_⟩

  have hs7 : (upd Hy s (.ins C dx (putF "_tables" (.ref D) []))) s = some (.ins C dx [("_tables", .ref D)]) := upd_same
  have k7 : ∀ c u, H c = some u → c ≠ s → (upd Hy s (.ins C dx (putF "_tables" (.ref D) []))) c = some u := fun c u h n => by rw [upd_ne n]; exact s6 _ _ h
  have f7 : ∀ c, (upd Hy s (.ins C dx (putF "_tables" (.ref D) []))) c = none → H c = none := fun c h => by
    by_cases n : c = s
    · rw [n, upd_same] at h; cases h
    · rw [upd_ne n] at h; exact s6.free h
  have dTt7 : DT (upd Hy s (.ins C dx (putF "_tables" (.ref D) []))) (fun c => H c = none) (.ref D) (tablesT (ordTabs tabs)) := dTt.mono fun c u hc eu => by
    rw [upd_ne (fun n => by rw [n, hs] at hc; cases hc)]
    exact eu
  generalize (upd Hy s (.ins C dx (putF "_tables" (.ref D) []))) = H7 at hs7 k7 f7 dTt7 ⊢
  have eR7 : SqT K H7 R xs := sqT_keep hs sq0 k7
  refine ⟨_, rfl, R, rfl, ⟨xs, eR7⟩, fun D2 nD2 => ?_⟩
  refine lc_tup (K := K) (a := R) (xs := xs) (fun i Hz => Same H7 Hz ∧ ∃ acc, Hz D2 = some (.lst acc) ∧ acc.length = i ∧ DTs Hz (fun c => H c = none ∧ c ≠ D2) acc ((rs.take i).map ruleT)) ⟨same_new nD2 _, [], upd_same, rfl, .nil⟩ (fun i Hz _ q => eR7.ext q.1) ?_ ?_
  · rintro i x Hz hx ⟨s8, acc, hD, la, dd⟩
    obtain ⟨r, er, dr⟩ := ruleAt hx
    have drz : DT Hz (fun a => B a ∧ a ≠ s) x (ruleT r) := ((dr.noIns hs).mono fun c u hc eu => k7 c u eu hc.2).same s8
    have okr := (ok.ok r (List.mem_of_getElem? er)).2
    refine ⟨rfl, yes_if ⟨_, rfl, x, ruleT r, _, rfl, drz, Nat.lt_of_le_of_lt (rule_depth okr) (by decide), rule_few okr, fun v' M H' s9 dl ndM new => ?_⟩⟩
    rw [rule_canon] at dl
    have il : i < rs.length := (List.getElem?_eq_some_iff.mp er).1
    refine ⟨acc, s9 _ _ hD, small1000 (by omega), Same.put (s8.trans s9) nD2, acc ++ [v'], upd_same, by rw [List.length_append, la]; rfl, ?_⟩
    rw [List.take_add_one, er, List.map_append]
    refine DTs.mono (fun c u hc eu => by rw [upd_ne hc.2]; exact eu) ((dd.same s9).snoc (t := ruleT r) (dl.dt fun a h => ⟨f7 a (s8.free (new a h)), fun n => ?_⟩))
    have h1 := new a h
    rw [n, hD] at h1
    cases h1
  rintro Hz ⟨s8, acc, hD, la, dd⟩
  rw [lxs, List.take_length] at dd
  refine ⟨_, rfl, s, C, dx, [("_tables", .ref D)], rfl, s8 _ _ hs7, c.cls, c.n2, by show 1 < 1000; decide, ?_⟩
  have nD2 : H D2 = none := f7 _ nD2
  refine q _ ⟨fun c u h n => by rw [upd_ne n]; exact s8 _ _ (k7 _ _ h n), D, D2, upd_same, ?_, ?_⟩
  · exact (dTt7.same s8).mono fun c u hc eu => by
      rw [upd_ne (fun n => by rw [n, hs] at hc; cases hc)]
      exact eu
  · refine .lst (by rw [upd_ne (fun n => by rw [n, hs] at nD2; cases nD2)]; exact hD) nD2 ?_
    exact (dd.sub (B := fun c => H c = none) fun c h => h.1).mono fun c u hc eu => by
      rw [upd_ne (fun n => by rw [n, hs] at hc; cases hc)]
      exact eu
end
end Lw

set_option Elab.async false
set_option linter.all false
set_option maxRecDepth 100000
set_option maxHeartbeats 4000000
namespace Lw
open PySem PySem.Spec PyProof.Rows L2
/-! ### what a schema's own tables tell -/
theorem sortT_idem (ks : List Str) : sortT (sortT ks) = sortT ks := (sort_eq (List.Perm.refl _) (sortT_sorted ks)).symm
theorem fldAt_map {α : Type} (f : Str → Fld) : ∀ {ks : List Str} {z : Str}, z ∈ ks → fldAt (ks.map fun z => (z, f z)) z = some (f z)
  | k :: r, z, m => by
    unfold fldAt
    rw [List.map_cons]
    by_cases q : k = z
    · rw [List.find?_cons_of_pos (by exact decide_eq_true q), q]
      rfl
    · rw [List.find?_cons_of_neg (by rw [decide_eq_true_eq]; exact q)]
      rcases List.mem_cons.mp m with h | h
      · exact absurd h.symm q
      · exact fldAt_map (α := α) f h
theorem ordF_at {fs : Flds} {z : Str} (m : z ∈ fs.map (·.1)) : fldAt (ordF fs) z = some (ordFld (atF fs z)) := fldAt_map (α := Unit) (fun z => ordFld (atF fs z)) (sortT_mem.mpr m)
theorem ordF_atF {fs : Flds} {z : Str} (m : z ∈ fs.map (·.1)) : atF (ordF fs) z = ordFld (atF fs z) := by
  unfold atF
  rw [ordF_at m]
  rfl
theorem ordF_canon (fs : Flds) : (fieldsT (ordF fs)).canon = fieldsT (ordF fs) := by
  rw [fields_canon, ordF_keys, sortT_idem]
  unfold fieldsT
  rw [ordF_keys]
  congr 1
  unfold ordF
  rw [List.map_map]
  exact List.map_congr_left fun z hz => by
    have h := ordF_atF (fs := fs) (sortT_mem.mp hz)
    unfold ordF at h
    show (atF _ z).tree = _
    rw [h]
    rfl
theorem tabAt_map (f : Str → Flds) : ∀ {ks : List Str} {z : Str}, z ∈ ks → tabAt (ks.map fun z => (z, f z)) z = some (f z)
  | k :: r, z, m => by
    unfold tabAt
    rw [List.map_cons]
    by_cases q : k = z
    · rw [List.find?_cons_of_pos (by exact decide_eq_true q), q]
      rfl
    · rw [List.find?_cons_of_neg (by rw [decide_eq_true_eq]; exact q)]
      rcases List.mem_cons.mp m with h | h
      · exact absurd h.symm q
      · exact tabAt_map f h
/-- a table of a schema -/
theorem sch_tab {H : Hp} {A : Addr → Prop} {T : Addr} {tabs : Tabs} {z : Str} {fs : Flds} (x : DT H A (.ref T) (tablesT (ordTabs tabs))) (nd : (tabs.map (·.1)).Nodup) (m : (z, fs) ∈ tabs) : ∃ f, DGet H T (.str z) (some (.ref f)) ∧ DT H A (.ref f) (fieldsT (ordF fs)) := by
  have zk : z ∈ tabs.map (·.1) := List.mem_map_of_mem (f := (·.1)) m
  obtain ⟨f, fs', dg, et, _, d⟩ := tables_get x (z := z) (by rw [ordTabs_keys]; exact sortT_mem.mpr zk)
  have e : tabAt (ordTabs tabs) z = some (ordF (tabOf tabs z)) := tabAt_map (fun z => ordF (tabOf tabs z)) (sortT_mem.mpr zk)
  rw [e] at et
  rw [tabOf_at (tabAt_of nd m)] at et
  cases et
  exact ⟨f, dg, d⟩
/-- a field of one -/
theorem sch_fld {H : Hp} {A : Addr → Prop} {f : Addr} {fs : Flds} {z : Str} {fl : Fld} (x : DT H A (.ref f) (fieldsT (ordF fs))) (nd : (fs.map (·.1)).Nodup) (m : (z, fl) ∈ fs) : ∃ v, DGet H f (.str z) (some v) ∧ DT H A v (ordFld fl).tree := by
  have zk : z ∈ fs.map (·.1) := List.mem_map_of_mem (f := (·.1)) m
  obtain ⟨v, fl', dg, et, d⟩ := fields_get x (z := z) (by rw [ordF_keys]; exact sortT_mem.mpr zk)
  rw [ordF_at zk] at et
  have e : atF fs z = fl := by unfold atF; rw [fldAt_of nd m]; rfl
  rw [e] at et
  cases et
  exact ⟨v, dg, d⟩
theorem sort_same (fl : Fld) : (ordFld fl).sort = fl.sort := by cases fl <;> rfl
theorem ordF_few {ns : List Str} {fs : Flds} (o : ∀ p ∈ fs, FldOk ns p.2) : (fieldsT (ordF fs)).few = true := by
  have h : Tr.fews ((ordF fs).map (·.2.tree)) = true := fews_all fun t ht => by
    obtain ⟨p, hp, rfl⟩ := List.mem_map.mp ht
    unfold ordF at hp
    obtain ⟨z, hz, rfl⟩ := List.mem_map.mp hp
    have zk := sortT_mem.mp hz
    obtain ⟨fl, e, m⟩ := fldAt_mem zk
    have e2 : atF fs z = fl := by unfold atF; rw [e]; rfl
    show (ordFld (atF fs z)).tree.few = true
    rw [e2]
    cases o _ m with
    | mk c d few nd => exact fld_few (ns := ns) (.mk (fun n => c (List.length_eq_zero_iff.mp (by rw [← sortT_len, n]; rfl))) (fun z hz => d z (sortT_mem.mp hz)) (by rw [sortT_len]; exact few) (sortT_nodup nd))
    | lk m => rfl
    | tg => rfl
  exact h
/-! ### the methods -/
/-- what the class has at these names -/
structure SchCls (K : PySem.W.Frag) (C : Addr) : Prop where
  ini : InitCls K C
theorem sch_fields {C : Addr} {H : Hp} {A : Addr → Prop} {s : Addr} {tabs : Tabs} {rs : List Rul} (x : SchAt C H A s tabs rs) : ∃ dx dT dR, H s = some (.ins C dx [("_tables", .ref dT), ("_rules", .ref dR)]) ∧ DT H A (.ref dT) (tablesT (ordTabs tabs)) ∧ DT H A (.ref dR) (rulesT rs) := by
  obtain ⟨dx, dT, dR, _, e, d1, d2⟩ := x.ex
  exact ⟨dx, dT, dR, e, d1, d2⟩
abbrev sMTables : Stmt := sMeth 2
abbrev sMFields : Stmt := sMeth 3
abbrev sMMarks : Stmt := sMeth 4
abbrev sMLinks : Stmt := sMeth 5
abbrev sMTags : Stmt := sMeth 6
abbrev sMSort : Stmt := sMeth 7
abbrev sMWords : Stmt := sMeth 8
abbrev sMLeads : Stmt := sMeth 9
abbrev sMRules : Stmt := sMeth 10
abbrev sMNames : Stmt := sMeth 11
abbrev sMRuleOf : Stmt := sMeth 12
abbrev sMRank : Stmt := sMeth 13
abbrev sMRows : Stmt := sMeth 15
section
variable {P : Program} {w : World} {K : PySem.W.Frag} {mg : Str → Option Value} {base : Heap} {C : Addr}
theorem scMTables : FnScope ["self"] ["self"] (C8.fnScope sMTables) := ⟨rfl, rfl, rfl, by decide +kernel, rfl, by decide +kernel, by decide +kernel⟩
theorem scMFields : FnScope ["self", "table"] ["self", "table"] (C8.fnScope sMFields) := ⟨rfl, rfl, rfl, by decide +kernel, rfl, by decide +kernel, by decide +kernel⟩
theorem scMSort : FnScope ["self", "table", "sort", "fields", "name"] ["self", "table", "sort"] (C8.fnScope sMSort) := ⟨rfl, rfl, rfl, by decide +kernel, rfl, by decide +kernel, by decide +kernel⟩
theorem scMWords : FnScope ["self", "table", "mark"] ["self", "table", "mark"] (C8.fnScope sMWords) := ⟨rfl, rfl, rfl, by decide +kernel, rfl, by decide +kernel, by decide +kernel⟩
theorem scMLeads : FnScope ["self", "table", "link"] ["self", "table", "link"] (C8.fnScope sMLeads) := ⟨rfl, rfl, rfl, by decide +kernel, rfl, by decide +kernel, by decide +kernel⟩
theorem scMRules : FnScope ["self"] ["self"] (C8.fnScope sMRules) := ⟨rfl, rfl, rfl, by decide +kernel, rfl, by decide +kernel, by decide +kernel⟩
theorem scMNames : FnScope ["self", "rule"] ["self"] (C8.fnScope sMNames) := ⟨rfl, rfl, rfl, by decide +kernel, rfl, by decide +kernel, by decide +kernel⟩
theorem scMRuleOf : FnScope ["self", "name"] ["self", "name"] (C8.fnScope sMRuleOf) := ⟨rfl, rfl, rfl, by decide +kernel, rfl, by decide +kernel, by decide +kernel⟩
theorem scMRank : FnScope ["self", "name"] ["self", "name"] (C8.fnScope sMRank) := ⟨rfl, rfl, rfl, by decide +kernel, rfl, by decide +kernel, by decide +kernel⟩
theorem scMRows : FnScope ["self", "table", "many", "mark"] ["self", "table"] (C8.fnScope sMRows) := ⟨rfl, rfl, rfl, by decide +kernel, rfl, by decide +kernel, by decide +kernel⟩
def spMTables (C : Addr) : Sp := fun vs H Q _ => ∃ (s : Addr) (tabs : Tabs) (rs : List Rul) (A : Addr → Prop), vs = [.ref s] ∧ SchAt C H A s tabs rs ∧ ∀ (p : Addr) (H' : Hp), Same H H' → H p = none → H' p = some (.lst ((sortT (tabs.map (·.1))).map V.str)) → Q (.ref p) H'
theorem ok_mtables {f : Addr} {fd : FuncData} (c : InitCls K C) (me : Meth K C "tables" f) (F : C8.Fun K "tables" "Schema.tables" sMTables f fd) (b : Binds K fd ["self"] []) (ml : mg "list" = none) : C8.Met P w K mg base 1 C "tables" (spMTables C) [] := by
  refine C8.met0 c.cls me F b scMTables (fun vs H Q E h => ?_) (fun cdv A0 outer s0 H vs Q E hr h => ?_)
  · obtain ⟨s, tabs, rs, A, rfl, _⟩ := h
    rfl
  obtain ⟨s, tabs, rs, A, rfl, x, q⟩ := h
  obtain ⟨dx, dT, dR, e, d1, d2⟩ := sch_fields x
  refine ⟨_, pss_one (ps_ret (pe_callTy (call_listD rfl) (by rfl) ml (by decide +kernel) (pa_cons (pe_fld (pv 0) (by rfl)) pa_nil))), ?_⟩
  obtain ⟨_, kvs, e1, eT, nT, kT, ndT, fewT, dd⟩ := d1.dctI
  cases e1
  refine ⟨_, rfl, s, C, dx, _, .ref dT, rfl, e, c.cls, c.n1, rfl, dT, kvs, rfl, .inl eT, fun p np => q p _ (same_new np _) np ?_⟩
  rw [upd_same]
  have h : (kvs.map fun kv => kV kv.1) = ((kvs.map (·.1)).map kV) := by rw [List.map_map]; rfl
  rw [h, kT, ordTabs_keys, List.map_map]
  rfl
def spMFields (C : Addr) : Sp := fun vs H Q _ => ∃ (s : Addr) (tabs : Tabs) (rs : List Rul) (z : Str) (fs : Flds) (A : Addr → Prop), vs = [.ref s, .str z] ∧ SchAt C H A s tabs rs ∧ TabsOk tabs ∧ (z, fs) ∈ tabs ∧ ∀ (v : V) (L : List Addr) (H' : Hp), Same H H' → DL H' L v (fieldsT (ordF fs)) → L.Nodup → (∀ a ∈ L, H a = none) → Q v H'
theorem ok_mfields {f f19 : Addr} {fd fd19 : FuncData} (c : InitCls K C) (me : Meth K C "fields" f) (F : C8.Fun K "fields" "Schema.fields" sMFields f fd) (b : Binds K fd ["self", "table"] [])
    (G19 : FnOk P w K mg base CX0 8 f19 fd19 ["thing"] (spCopy 8)) (m19 : mg "copy_of" = some (.ref f19)) (k19 : PySem.W.keepIn K (.ref f19) = true) (b19 : Binds K fd19 ["thing"] []) : C8.Met P w K mg base 9 C "fields" (spMFields C) [] := by
  refine C8.met0 c.cls me F b scMFields (fun vs H Q E h => ?_) (fun cdv A0 outer s0 H vs Q E hr h => ?_)
  · obtain ⟨s, tabs, rs, z, fs, A, rfl, _⟩ := h
    rfl
  obtain ⟨s, tabs, rs, z, fs, A, rfl, x, ok, m, q⟩ := h
  obtain ⟨dx, dT, dR, e, d1, d2⟩ := sch_fields x
  refine ⟨_, pss_one (ps_ret (pe_call G19 hr (by rfl) m19 k19 b19 .nil pass0 (pa_cons (pe_dget (hu_of hr) (pe_fld (pv 0) (by rfl)) (pv 1) (fun _ _ => rfl)) pa_nil))), ?_⟩
  obtain ⟨f2, dg, d3⟩ := sch_tab d1 ok.nd m
  refine ⟨_, rfl, s, C, dx, _, .ref dT, rfl, e, c.cls, c.n1, rfl, .str z, rfl, dT, .ref f2, rfl, dg, _, _, A, rfl, d3, Nat.lt_of_le_of_lt (fields_depth _) (by decide), ordF_few (ok.val _ m).val, fun v' L H' s' dl nd new => ?_⟩
  rw [ordF_canon] at dl
  exact q v' L H' s' dl nd new
end
end Lw

set_option Elab.async false
set_option linter.all false
set_option maxRecDepth 100000
set_option maxHeartbeats 4000000
namespace Lw
open PySem PySem.Spec PyProof.Rows L2
section
variable {P : Program} {w : World} {K : PySem.W.Frag} {mg : Str → Option Value} {base : Heap} {C : Addr}
def spMSort (C : Addr) : Sp := fun vs H Q _ => ∃ (s : Addr) (tabs : Tabs) (rs : List Rul) (z : Str) (fs : Flds) (so : Str) (A : Addr → Prop), vs = [.ref s, .str z, .str so] ∧ SchAt C H A s tabs rs ∧ TabsOk tabs ∧ (z, fs) ∈ tabs ∧ ∀ (p : Addr) (H' : Hp), Same H H' → H p = none → H' p = some (.lst ((likeT fs so).map V.str)) → Q (.ref p) H'
theorem ok_msort {f : Addr} {fd : FuncData} (c : InitCls K C) (me : Meth K C "_of_sort" f) (F : C8.Fun K "_of_sort" "Schema._of_sort" sMSort f fd) (b : Binds K fd ["self", "table", "sort"] []) : C8.Met P w K mg base 1 C "_of_sort" (spMSort C) [] := by
  refine C8.met0 c.cls me F b scMSort (fun vs H Q E h => ?_) (fun cdv A0 outer s0 H vs Q E hr h => ?_)
  · obtain ⟨s, tabs, rs, z, fs, so, A, rfl, _⟩ := h
    rfl
  obtain ⟨s, tabs, rs, z, fs, so, A, rfl, x, ok, m, q⟩ := h
  obtain ⟨dx, dT, dR, e, d1, d2⟩ := sch_fields x
  refine ⟨_, pss_cons (ps_set (i := 3) scMSort.nd rfl (.inr rfl) (pe_dget (hu_of hr) (pe_fld (pv 0) (by rfl)) (pv 1) (fun _ _ => rfl)))
    (pss_one (ps_ret (pe_lock (pe_lc (own := [("name", 4)]) (g := gName 4) rfl scMSort.nd (pi_keys (pv 3)) (blkOk_by (N := ["self", "table", "sort", "fields", "name"]) (sc := C8.fnScope sMSort) (by decide +kernel)) (fun _ _ _ _ _ => pg_name (i := 4) scMSort.nd rfl (Or.inl rfl))
      (fun _ _ _ _ _ => pts_one (pt_cmpR (r := rEq) op_eq (pe_ix (r := rIxT K) ix_tup (pe_dget (hu_of hr) (pv 3) (pv 4) (fun _ _ => rfl)) pe_int (fun _ _ => rfl)) (pv 2) (nomark _))) (fun _ _ _ _ _ => pv 4))))), ?_⟩
  obtain ⟨f2, dg, d3⟩ := sch_tab d1 ok.nd m
  refine ⟨_, rfl, s, C, dx, _, .ref dT, rfl, e, c.cls, c.n1, rfl, .str z, rfl, dT, .ref f2, rfl, dg, ?_⟩
  obtain ⟨_, kvs, e1, ef, nf, kf, ndf, fewf, dd⟩ := d3.dctI
  cases e1
  have okf := ok.val _ m
  refine ⟨f2, _, ef, trivial, fun od => ⟨_, rfl, f2, od, rfl, .inl ⟨kvs, upd_same, fun D nD => ?_⟩⟩⟩
  have dA : DTs H (fun c => A c ∧ c ≠ f2) (kvs.map (·.2)) ((ordF fs).map (·.2.tree)) := DTs.avoid d3 dd (Nat.lt_succ_self _)
  have kl : kvs.length = (sortT (fs.map (·.1))).length := by
    have h := congrArg List.length kf
    rw [List.length_map, List.length_map, ordF_keys] at h
    exact h
  refine lc_it walk_keys (fun i Hx => Same (upd H f2 (.frz od (.dK kvs))) Hx ∧ Hx D = some (.lst ((((sortT (fs.map (·.1))).take i).filter (sortIs fs so)).map V.str))) ⟨same_new nD _, upd_same⟩ (fun i Hx _ p => p.1 _ _ upd_same) ?_ ?_
  · rintro i y Hx H' hi ⟨s1, hD⟩ ⟨rfl, kk, vv, hkv, rfl⟩
    obtain ⟨n, t, h1, h2, rfl, h4, h5⟩ := DT.turn kf ndf dA hkv
    rw [ordF_keys] at h1
    have nk : n ∈ fs.map (·.1) := sortT_mem.mp (List.mem_of_getElem? h1)
    have hlk := DT.look kf dA (z := n) (by rw [ordF_keys]; exact List.mem_of_getElem? h1)
    obtain ⟨v', t', g1, g2, g3⟩ := hlk
    rw [fld_look, ordF_at nk] at g2
    cases g2
    have ev : vv = v' := by rw [h4] at g1; exact Option.some.inj g1
    subst ev
    have dv : DT H' (fun c => A c ∧ c ≠ f2) vv (ordFld (atF fs n)).tree := g3.mono fun c u hc eu => s1 _ _ (by rw [upd_ne hc.2]; exact eu)
    obtain ⟨ta, xs, rfl, hta, _⟩ := fld_sort dv
    obtain ⟨fl, efl, mfl⟩ := fldAt_mem nk
    have eat : atF fs n = fl := by unfold atF; rw [efl]; rfl
    refine ⟨rfl, _, rfl, .str n, rfl, f2, .ref ta, rfl, .inl ⟨kvs, .inr n, .inr ⟨od, s1 _ _ upd_same⟩, rfl, h4.symm⟩, ta, _, 0, .str (ordFld (atF fs n)).sort, rfl, rfl, .inl (.inl hta), atI_nat (j := 0) rfl, _, rfl, rfl, _, rfl, ?_⟩
    rw [sort_same, eat]
    have e2 : (sortT (fs.map (·.1))).take (i + 1) = (sortT (fs.map (·.1))).take i ++ [n] := by
      rw [List.take_add_one, h1]
      rfl
    have l6 := okf.few
    have lf := List.length_filter_le (sortIs fs so) ((sortT (fs.map (·.1))).take i)
    rw [List.length_take, ← kl] at lf
    have lk : kvs.length ≤ 6 := by rw [kl, sortT_len, List.length_map]; exact l6
    by_cases g : fl.sort = so
    · have gb : sortIs fs so n = true := by unfold sortIs; rw [efl]; exact decide_eq_true (by rw [← g]; rfl)
      refine tt_if (decide_eq_true (by rw [g])) ⟨_, rfl, _, hD, small1000 (by rw [List.length_map]; omega), Same.put s1 nD, ?_⟩
      rw [upd_same, e2, List.filter_append, List.map_append, List.filter_cons_of_pos gb]
      rfl
    · have gb : ¬ sortIs fs so n = true := by
        unfold sortIs
        rw [efl]
        exact fun h => g (Option.some.inj (of_decide_eq_true h))
      refine ff_if (decide_eq_false (fun h => g (V.str.inj h))) ⟨s1, ?_⟩
      rw [e2, List.filter_append, List.filter_cons_of_neg gb, List.filter_nil, List.append_nil]
      exact hD
  · rintro Hx ⟨s1, hD⟩
    have sH : Same H (upd Hx f2 (.dK kvs)) := unlock_same ef s1
    have nDf : D ≠ f2 := fun n => by rw [n, s1 _ _ upd_same] at hD; cases hD
    have nD0 : H D = none := by rw [upd_ne nDf] at nD; exact nD
    rw [kl, List.take_length] at hD
    refine ⟨s1 _ _ upd_same, q D _ sH nD0 ?_⟩
    rw [upd_ne nDf]
    exact hD
/-- marks, links, tags -/
def spMKind (C : Addr) (so : Str) : Sp := fun vs H Q _ => ∃ (s : Addr) (tabs : Tabs) (rs : List Rul) (z : Str) (fs : Flds) (A : Addr → Prop), vs = [.ref s, .str z] ∧ SchAt C H A s tabs rs ∧ TabsOk tabs ∧ (z, fs) ∈ tabs ∧ ∀ (p : Addr) (H' : Hp), Same H H' → H p = none → H' p = some (.lst ((likeT fs so).map V.str)) → Q (.ref p) H'
theorem scMMarks : FnScope ["self", "table"] ["self", "table"] (C8.fnScope sMMarks) := ⟨rfl, rfl, rfl, by decide +kernel, rfl, by decide +kernel, by decide +kernel⟩
theorem scMLinks : FnScope ["self", "table"] ["self", "table"] (C8.fnScope sMLinks) := ⟨rfl, rfl, rfl, by decide +kernel, rfl, by decide +kernel, by decide +kernel⟩
theorem scMTags : FnScope ["self", "table"] ["self", "table"] (C8.fnScope sMTags) := ⟨rfl, rfl, rfl, by decide +kernel, rfl, by decide +kernel, by decide +kernel⟩
theorem ok_mmarks {f : Addr} {fd : FuncData} (c : InitCls K C) (me : Meth K C "marks" f) (F : C8.Fun K "marks" "Schema.marks" sMMarks f fd) (b : Binds K fd ["self", "table"] []) (N : C8.Met P w K mg base 1 C "_of_sort" (spMSort C) []) : C8.Met P w K mg base 2 C "marks" (spMKind C "mark") [] := by
  refine C8.met0 c.cls me F b scMMarks (fun vs H Q E h => ?_) (fun cdv A0 outer s0 H vs Q E hr h => ?_)
  · obtain ⟨s, tabs, rs, z, fs, A, rfl, _⟩ := h
    rfl
  obtain ⟨s, tabs, rs, z, fs, A, rfl, x, ok, m, q⟩ := h
  obtain ⟨dx, dT, dR, e, d1, d2⟩ := sch_fields x
  refine ⟨_, pss_one (ps_ret (C8.pe_mt N hr (by decide) (pv 0) (pa_cons (pv 1) (pa_cons pe_str pa_nil)))), ?_⟩
  exact ⟨_, rfl, s, dx, _, rfl, e, rfl, _, rfl, s, tabs, rs, z, fs, "mark", A, rfl, x, ok, m, q⟩
theorem ok_mlinks {f : Addr} {fd : FuncData} (c : InitCls K C) (me : Meth K C "links" f) (F : C8.Fun K "links" "Schema.links" sMLinks f fd) (b : Binds K fd ["self", "table"] []) (N : C8.Met P w K mg base 1 C "_of_sort" (spMSort C) []) : C8.Met P w K mg base 2 C "links" (spMKind C "link") [] := by
  refine C8.met0 c.cls me F b scMLinks (fun vs H Q E h => ?_) (fun cdv A0 outer s0 H vs Q E hr h => ?_)
  · obtain ⟨s, tabs, rs, z, fs, A, rfl, _⟩ := h
    rfl
  obtain ⟨s, tabs, rs, z, fs, A, rfl, x, ok, m, q⟩ := h
  obtain ⟨dx, dT, dR, e, d1, d2⟩ := sch_fields x
  refine ⟨_, pss_one (ps_ret (C8.pe_mt N hr (by decide) (pv 0) (pa_cons (pv 1) (pa_cons pe_str pa_nil)))), ?_⟩
  exact ⟨_, rfl, s, dx, _, rfl, e, rfl, _, rfl, s, tabs, rs, z, fs, "link", A, rfl, x, ok, m, q⟩
theorem ok_mtags {f : Addr} {fd : FuncData} (c : InitCls K C) (me : Meth K C "tags" f) (F : C8.Fun K "tags" "Schema.tags" sMTags f fd) (b : Binds K fd ["self", "table"] []) (N : C8.Met P w K mg base 1 C "_of_sort" (spMSort C) []) : C8.Met P w K mg base 2 C "tags" (spMKind C "tag") [] := by
  refine C8.met0 c.cls me F b scMTags (fun vs H Q E h => ?_) (fun cdv A0 outer s0 H vs Q E hr h => ?_)
  · obtain ⟨s, tabs, rs, z, fs, A, rfl, _⟩ := h
    rfl
  obtain ⟨s, tabs, rs, z, fs, A, rfl, x, ok, m, q⟩ := h
  obtain ⟨dx, dT, dR, e, d1, d2⟩ := sch_fields x
  refine ⟨_, pss_one (ps_ret (C8.pe_mt N hr (by decide) (pv 0) (pa_cons (pv 1) (pa_cons pe_str pa_nil)))), ?_⟩
  exact ⟨_, rfl, s, dx, _, rfl, e, rfl, _, rfl, s, tabs, rs, z, fs, "tag", A, rfl, x, ok, m, q⟩
def spMWords (C : Addr) : Sp := fun vs H Q _ => ∃ (s : Addr) (tabs : Tabs) (rs : List Rul) (z m : Str) (fs : Flds) (ws : List Str) (A : Addr → Prop), vs = [.ref s, .str z, .str m] ∧ SchAt C H A s tabs rs ∧ TabsOk tabs ∧ (z, fs) ∈ tabs ∧ (m, .mk ws) ∈ fs ∧ ∀ (p : Addr) (H' : Hp), Same H H' → H p = none → H' p = some (.lst ((sortT ws).map V.str)) → Q (.ref p) H'
theorem ok_mwords {f : Addr} {fd : FuncData} (c : InitCls K C) (me : Meth K C "words" f) (F : C8.Fun K "words" "Schema.words" sMWords f fd) (b : Binds K fd ["self", "table", "mark"] []) (ml : mg "list" = none) : C8.Met P w K mg base 1 C "words" (spMWords C) [] := by
  refine C8.met0 c.cls me F b scMWords (fun vs H Q E h => ?_) (fun cdv A0 outer s0 H vs Q E hr h => ?_)
  · obtain ⟨s, tabs, rs, z, m, fs, ws, A, rfl, _⟩ := h
    rfl
  obtain ⟨s, tabs, rs, z, m, fs, ws, A, rfl, x, ok, mt, mf, q⟩ := h
  obtain ⟨dx, dT, dR, e, d1, d2⟩ := sch_fields x
  refine ⟨_, pss_one (ps_ret (pe_callTy call_list_of (by rfl) ml (by decide +kernel) (pa_cons (pe_ix ix_tup (pe_dget (hu_of hr) (pe_dget (hu_of hr) (pe_fld (pv 0) (by rfl)) (pv 1) (fun _ _ => rfl)) (pv 2) (fun _ _ => rfl)) pe_int (fun _ _ => rfl)) pa_nil))), ?_⟩
  obtain ⟨f2, dg, d3⟩ := sch_tab d1 ok.nd mt
  obtain ⟨v, dg2, d4⟩ := sch_fld d3 (ok.val _ mt).nd mf
  obtain ⟨ta, xs, rfl, hta, _, dd⟩ := d4.tupI
  cases dd with
  | cons p1 r1 =>
    cases r1 with
    | cons p2 r2 =>
      cases r2
      cases p1
      obtain ⟨l, ys, rfl, hl, _, zz⟩ := p2.lstI
      rw [DTs.strs zz] at hl
      exact ⟨_, rfl, s, C, dx, _, .ref dT, rfl, e, c.cls, c.n1, rfl, .str z, rfl, dT, .ref f2, rfl, dg, .str m, rfl, f2, .ref ta, rfl, dg2, ta, _, 1, .ref l, rfl, rfl, .inl (.inl hta), atI_nat (j := 1) rfl, l, _, rfl, .inl (.inl (.inl hl)), fun p np => q p _ (same_new np _) np upd_same⟩
def spMLeads (C : Addr) : Sp := fun vs H Q _ => ∃ (s : Addr) (tabs : Tabs) (rs : List Rul) (z m n : Str) (fs : Flds) (A : Addr → Prop), vs = [.ref s, .str z, .str m] ∧ SchAt C H A s tabs rs ∧ TabsOk tabs ∧ (z, fs) ∈ tabs ∧ (m, .lk n) ∈ fs ∧ Q (.str n) H
theorem ok_mleads {f : Addr} {fd : FuncData} (c : InitCls K C) (me : Meth K C "leads_to" f) (F : C8.Fun K "leads_to" "Schema.leads_to" sMLeads f fd) (b : Binds K fd ["self", "table", "link"] []) : C8.Met P w K mg base 1 C "leads_to" (spMLeads C) [] := by
  refine C8.met0 c.cls me F b scMLeads (fun vs H Q E h => ?_) (fun cdv A0 outer s0 H vs Q E hr h => ?_)
  · obtain ⟨s, tabs, rs, z, m, n, fs, A, rfl, _⟩ := h
    rfl
  obtain ⟨s, tabs, rs, z, m, n, fs, A, rfl, x, ok, mt, mf, q⟩ := h
  obtain ⟨dx, dT, dR, e, d1, d2⟩ := sch_fields x
  refine ⟨_, pss_one (ps_ret (pe_ix ix_tup (pe_dget (hu_of hr) (pe_dget (hu_of hr) (pe_fld (pv 0) (by rfl)) (pv 1) (fun _ _ => rfl)) (pv 2) (fun _ _ => rfl)) pe_int (fun _ _ => rfl))), ?_⟩
  obtain ⟨f2, dg, d3⟩ := sch_tab d1 ok.nd mt
  obtain ⟨v, dg2, d4⟩ := sch_fld d3 (ok.val _ mt).nd mf
  obtain ⟨ta, rfl, hta⟩ := lk_at d4
  exact ⟨_, rfl, s, C, dx, _, .ref dT, rfl, e, c.cls, c.n1, rfl, .str z, rfl, dT, .ref f2, rfl, dg, .str m, rfl, f2, .ref ta, rfl, dg2, ta, _, 1, .str n, rfl, rfl, .inl (.inl hta), atI_nat (j := 1) rfl, q⟩
def spMRules (C : Addr) : Sp := fun vs H Q _ => ∃ (s : Addr) (tabs : Tabs) (rs : List Rul) (A : Addr → Prop), vs = [.ref s] ∧ SchAt C H A s tabs rs ∧ PartsOk tabs rs ∧ ∀ (v : V) (L : List Addr) (H' : Hp), Same H H' → DL H' L v (rulesT rs) → L.Nodup → (∀ a ∈ L, H a = none) → Q v H'
theorem ok_mrules {f f19 : Addr} {fd fd19 : FuncData} (c : InitCls K C) (me : Meth K C "rules" f) (F : C8.Fun K "rules" "Schema.rules" sMRules f fd) (b : Binds K fd ["self"] [])
    (G19 : FnOk P w K mg base CX0 8 f19 fd19 ["thing"] (spCopy 8)) (m19 : mg "copy_of" = some (.ref f19)) (k19 : PySem.W.keepIn K (.ref f19) = true) (b19 : Binds K fd19 ["thing"] []) : C8.Met P w K mg base 9 C "rules" (spMRules C) [] := by
  refine C8.met0 c.cls me F b scMRules (fun vs H Q E h => ?_) (fun cdv A0 outer s0 H vs Q E hr h => ?_)
  · obtain ⟨s, tabs, rs, A, rfl, _⟩ := h
    rfl
  obtain ⟨s, tabs, rs, A, rfl, x, ok, q⟩ := h
  obtain ⟨dx, dT, dR, e, d1, d2⟩ := sch_fields x
  refine ⟨_, pss_one (ps_ret (pe_call G19 hr (by rfl) m19 k19 b19 .nil pass0 (pa_cons (pe_fld (pv 0) (by rfl)) pa_nil))), ?_⟩
  refine ⟨_, rfl, s, C, dx, _, .ref dR, rfl, e, c.cls, c.n2, rfl, _, _, A, rfl, d2, Nat.lt_of_le_of_lt (rules_depth ok) (by decide), rules_few ok, fun v' L H' s' dl nd new => ?_⟩
  rw [rules_canon] at dl
  exact q v' L H' s' dl nd new
def spMNames (C : Addr) : Sp := fun vs H Q _ => ∃ (s : Addr) (tabs : Tabs) (rs : List Rul) (A : Addr → Prop), vs = [.ref s] ∧ SchAt C H A s tabs rs ∧ rs.length ≤ 6 ∧ ∀ (p : Addr) (H' : Hp), Same H H' → H p = none → H' p = some (.lst ((rs.map (·.1)).map V.str)) → Q (.ref p) H'
theorem ok_mnames {f : Addr} {fd : FuncData} (c : InitCls K C) (me : Meth K C "names" f) (F : C8.Fun K "names" "Schema.names" sMNames f fd) (b : Binds K fd ["self"] []) : C8.Met P w K mg base 1 C "names" (spMNames C) [] := by
  refine C8.met0 c.cls me F b scMNames (fun vs H Q E h => ?_) (fun cdv A0 outer s0 H vs Q E hr h => ?_)
  · obtain ⟨s, tabs, rs, A, rfl, _⟩ := h
    rfl
  obtain ⟨s, tabs, rs, A, rfl, x, few, q⟩ := h
  obtain ⟨dx, dT, dR, e, d1, d2⟩ := sch_fields x
  refine ⟨_, pss_one (ps_ret (pe_lc (own := [("rule", 1)]) (g := gName 1) (tt := tYes) rfl scMNames.nd (pi_list (pe_fld (pv 0) (by rfl))) (blkOk_by (N := ["self", "rule"]) (sc := C8.fnScope sMNames) (by decide +kernel)) (fun _ _ _ _ _ => pg_name (i := 1) scMNames.nd rfl (Or.inl rfl)) (fun _ _ _ _ _ => pts_nil) (fun _ _ _ _ _ => pe_ix (r := rIxT K) ix_tup (pv 1) pe_int (fun _ _ => rfl)))), ?_⟩
  obtain ⟨_, xs, e1, eR, nR, dd⟩ := d2.lstI
  cases e1
  have lx : xs.length = rs.length := by rw [dd.len, List.length_map]
  refine ⟨_, rfl, s, C, dx, _, .ref dR, rfl, e, c.cls, c.n2, rfl, dR, rfl, ⟨xs, .inl (.inl eR)⟩, fun D nD => ?_⟩
  refine lc_list (K := K) (a := dR) (xs := xs) (fun i Hx => Same H Hx ∧ Hx D = some (.lst (((rs.take i).map (·.1)).map V.str))) ⟨same_new nD _, upd_same⟩ (fun i Hx _ p => .inl (.inl (p.1 _ _ eR))) ?_ ?_
  · rintro i y Hx hy ⟨s1, hD⟩
    obtain ⟨t, ht, d⟩ := dd.get hy
    rw [List.getElem?_map] at ht
    obtain ⟨r, er, rfl⟩ := Option.map_eq_some_iff.mp ht
    obtain ⟨ra, zs, rfl, era, _, z0⟩ := rule_name d
    refine ⟨rfl, yes_if ⟨_, rfl, ra, zs, 0, .str r.1, rfl, rfl, .inl (.inl (s1 _ _ era)), atI_nat (j := 0) z0, _, hD, small1000 (by rw [List.length_map, List.length_map, List.length_take]; omega), Same.put s1 nD, ?_⟩⟩
    rw [upd_same, List.take_add_one, er, List.map_append, List.map_append]
    rfl
  · rintro Hx ⟨s1, hD⟩
    rw [lx, List.take_length] at hD
    exact q D Hx s1 nD hD
def spMRank (C : Addr) : Sp := fun vs H Q _ => ∃ (s : Addr) (tabs : Tabs) (rs : List Rul) (n : Str) (i : Nat) (A : Addr → Prop), vs = [.ref s, .str n] ∧ SchAt C H A s tabs rs ∧ PartsOk tabs rs ∧ (rs.map (·.1))[i]? = some n ∧ ∀ H', Same H H' → Q (.int (i : Nat)) H'
theorem ok_mrank {f : Addr} {fd : FuncData} (c : InitCls K C) (me : Meth K C "rank_of" f) (F : C8.Fun K "rank_of" "Schema.rank_of" sMRank f fd) (b : Binds K fd ["self", "name"] []) (N : C8.Met P w K mg base 1 C "names" (spMNames C) []) : C8.Met P w K mg base 2 C "rank_of" (spMRank C) [] := by
  refine C8.met0 c.cls me F b scMRank (fun vs H Q E h => ?_) (fun cdv A0 outer s0 H vs Q E hr h => ?_)
  · obtain ⟨s, tabs, rs, n, i, A, rfl, _⟩ := h
    rfl
  obtain ⟨s, tabs, rs, n, i, A, rfl, x, ok, hi, q⟩ := h
  obtain ⟨dx, dT, dR, e, d1, d2⟩ := sch_fields x
  refine ⟨_, pss_one (ps_ret (pe_bm PySem.F.plainAttrs_list PySem.F.slot_list_index PySem.F.type_list_index mt_index (C8.pe_mt0 N hr (by decide) (pv 0)) (pa_cons (pv 1) pa_nil))), ?_⟩
  refine ⟨_, rfl, s, dx, _, rfl, e, rfl, s, tabs, rs, A, rfl, x, ok.few, fun p H' s' np hp => ?_⟩
  have inj : ∀ (m : Nat) (z' : V), m < i → ((rs.map (·.1)).map V.str)[m]? = some z' → eqV z' (.str n) = false := fun m z' lt h => by
    rw [List.getElem?_map] at h
    obtain ⟨y, hy, rfl⟩ := Option.map_eq_some_iff.mp h
    show (y == n) = false
    refine beq_eq_false_iff_ne.mpr fun ey => ?_
    subst ey
    have hn := (List.getElem?_inj (List.getElem?_eq_some_iff.mp hy).1 ok.nd).mp (hy.trans hi.symm)
    omega
  exact ⟨.inl ⟨rfl, _, .inl (.inl hp)⟩, _, rfl, p, _, .str n, i, .str n, rfl, rfl, .inl (.inl hp), rfl, flat_strs' _, by rw [List.getElem?_map, hi]; rfl, by show (n == n) = true; exact beq_self_eq_true n, inj, q H' s'⟩
def spMRuleOf (C : Addr) : Sp := fun vs H Q _ => ∃ (s : Addr) (tabs : Tabs) (rs : List Rul) (r : Rul) (i : Nat) (A : Addr → Prop), vs = [.ref s, .str r.1] ∧ SchAt C H A s tabs rs ∧ PartsOk tabs rs ∧ rs[i]? = some r ∧ ∀ (v : V) (L : List Addr) (H' : Hp), Same H H' → DL H' L v (ruleT r) → L.Nodup → (∀ a ∈ L, H a = none) → Q v H'
theorem ok_mruleof {f f19 : Addr} {fd fd19 : FuncData} (c : InitCls K C) (me : Meth K C "rule_of" f) (F : C8.Fun K "rule_of" "Schema.rule_of" sMRuleOf f fd) (b : Binds K fd ["self", "name"] [])
    (G19 : FnOk P w K mg base CX0 8 f19 fd19 ["thing"] (spCopy 8)) (m19 : mg "copy_of" = some (.ref f19)) (k19 : PySem.W.keepIn K (.ref f19) = true) (b19 : Binds K fd19 ["thing"] []) (N : C8.Met P w K mg base 2 C "rank_of" (spMRank C) []) : C8.Met P w K mg base 9 C "rule_of" (spMRuleOf C) [] := by
  refine C8.met0 c.cls me F b scMRuleOf (fun vs H Q E h => ?_) (fun cdv A0 outer s0 H vs Q E hr h => ?_)
  · obtain ⟨s, tabs, rs, r, i, A, rfl, _⟩ := h
    rfl
  obtain ⟨s, tabs, rs, r, i, A, rfl, x, ok, hi, q⟩ := h
  obtain ⟨dx, dT, dR, e, d1, d2⟩ := sch_fields x
  refine ⟨_, pss_one (ps_ret (pe_call G19 hr (by rfl) m19 k19 b19 .nil pass0 (pa_cons (pe_ix ix_list (pe_fld (pv 0) (by rfl)) (C8.pe_mt N hr (by decide) (pv 0) (pa_cons (pv 1) pa_nil)) (fun _ _ => rfl)) pa_nil))), ?_⟩
  obtain ⟨_, xs, e1, eR, nR, dd⟩ := d2.lstI
  cases e1
  have hr' : (rs.map ruleT)[i]? = some (ruleT r) := by rw [List.getElem?_map, hi]; rfl
  obtain ⟨v, hv, dv⟩ := dd.at hr'
  have okr := (ok.ok r (List.mem_of_getElem? hi)).2
  refine ⟨_, rfl, s, C, dx, _, .ref dR, rfl, e, c.cls, c.n2, rfl, _, rfl, s, dx, _, rfl, e, rfl, _, rfl, s, tabs, rs, r.1, i, A, rfl, x, ok, by rw [List.getElem?_map, hi]; rfl, fun H' s' => ?_⟩
  refine ⟨dR, xs, (i : Int), v, rfl, rfl, .inl (.inl (s' _ _ eR)), atI_nat hv, v, _, A, rfl, dv.same s', Nat.lt_of_le_of_lt (rule_depth okr) (by decide), rule_few okr, fun v' L H2 s2 dl nd new => ?_⟩
  rw [rule_canon] at dl
  exact q v' L H2 (s'.trans s2) dl nd fun a h => s'.free (new a h)
def spMRows (C : Addr) : Sp := fun vs H Q _ => ∃ (s : Addr) (tabs : Tabs) (rs : List Rul) (z : Str) (fs : Flds) (A : Addr → Prop), vs = [.ref s, .str z] ∧ SchAt C H A s tabs rs ∧ TabsOk tabs ∧ (z, fs) ∈ tabs ∧ ∀ H', Same H H' → Q (.int (manyF fs : Nat)) H'
theorem ok_mrows {f : Addr} {fd : FuncData} (c : InitCls K C) (me : Meth K C "rows_of" f) (F : C8.Fun K "rows_of" "Schema.rows_of" sMRows f fd) (b : Binds K fd ["self", "table"] []) (mlen : mg "len" = none) (N : C8.Met P w K mg base 2 C "marks" (spMKind C "mark") []) (W : C8.Met P w K mg base 1 C "words" (spMWords C) []) : C8.Met P w K mg base 3 C "rows_of" (spMRows C) [] := by
  refine C8.met0 c.cls me F b scMRows (fun vs H Q E h => ?_) (fun cdv A0 outer s0 H vs Q E hr h => ?_)
  · obtain ⟨s, tabs, rs, z, fs, A, rfl, _⟩ := h
    rfl
  obtain ⟨s, tabs, rs, z, fs, A, rfl, x, ok, m, q⟩ := h
  obtain ⟨dx, dT, dR, e, d1, d2⟩ := sch_fields x
  refine ⟨_, pss_cons (ps_set (i := 2) scMRows.nd rfl (.inl rfl) pe_int) (pss_cons (ps_for PassesOwn.never rfl (pi_list (C8.pe_mt N hr (by decide) (pv 0) (pa_cons (pv 1) pa_nil))) (pg_name (i := 3) scMRows.nd rfl (.inl rfl)) (pss_one (ps_set (i := 2) scMRows.nd rfl (.inl rfl) (pe_op op_mul (pv 2) (pe_callB call_len_seq (by rfl) mlen (by decide +kernel) (pa_cons (C8.pe_mt W hr (by decide) (pv 0) (pa_cons (pv 1) (pa_cons (pv 3) pa_nil))) pa_nil)))))) (pss_one (ps_ret (pv 2)))), ?_⟩
  refine ⟨_, rfl, s, dx, _, rfl, e, rfl, _, rfl, s, tabs, rs, z, fs, A, rfl, x, ok, m, fun p H1 s1 np hp => ?_⟩
  refine ⟨p, rfl, ⟨_, .inl (.inl hp)⟩, ?_⟩
  refine for_list (K := K) (a := p) (xs := (likeT fs "mark").map V.str) (fun i σ Hx => Same H1 Hx ∧ ∃ o3, σ = [some (.ref s), some (.str z), some (.int (manyL fs ((likeT fs "mark").take i) : Nat)), o3]) ⟨fun _ _ h => h, _, rfl⟩ (fun i σ Hx _ q => .inl (.inl (q.1 _ _ hp))) ?_ ?_
  · rintro i y σ Hx hy ⟨s2, o3, rfl⟩
    obtain ⟨n, hn, rfl⟩ := map_get hy
    obtain ⟨fl, efl, mfl, es⟩ := like_mem (List.mem_of_getElem? hn)
    cases fl with
    | lk n => exact absurd (show ("link" : Str) = "mark" from es) (by decide +kernel)
    | tg => exact absurd (show ("tag" : Str) = "mark" from es) (by decide +kernel)
    | mk ws =>
      have s12 : Same H Hx := s1.trans s2
      have fw : ws.length ≤ 4 := by
        cases (ok.val _ m).val _ mfl with
        | mk c dn few nd => exact few
      have eat : atF fs n = .mk ws := by unfold atF; rw [efl]; rfl
      have e1 : (likeT fs "mark").take (i + 1) = (likeT fs "mark").take i ++ [n] := by
        rw [List.take_add_one, hn]
        rfl
      refine ⟨_, rfl, _, rfl, s, dx, _, rfl, s12 _ _ e, rfl, _, rfl, _, rfl, s, tabs, rs, z, n, fs, ws, A, rfl, x.mono fun a o _ h => s12 a o h, ok, m, mfl, fun p2 H2 s3 np2 hp2 => ?_⟩
      refine ⟨p2, _, rfl, .inl (.inl (.inl hp2)), _, _, rfl, rfl, .inr ⟨by rw [List.length_map, sortT_len]; omega, by rw [List.length_map, sortT_len]; omega⟩, s2.trans s3, some (.str n), ?_⟩
      show [some (V.ref s), some (V.str z), some (V.int (((manyL fs ((likeT fs "mark").take i) : Nat) : Int) * ((((sortT ws).map V.str).length : Nat) : Int))), some (V.str n)] = _
      rw [e1, manyL_snoc, eat, List.length_map, sortT_len]
      show _ = [some (V.ref s), some (V.str z), some (V.int ((manyL fs ((likeT fs "mark").take i) * ws.length : Nat) : Int)), _]
      rw [Int.natCast_mul]
  · rintro σ Hx ⟨s2, o3, rfl⟩
    rw [List.length_map, List.take_length]
    exact ⟨_, rfl, q Hx (s1.trans s2)⟩
end
end Lw

set_option Elab.async false
set_option linter.all false
set_option maxRecDepth 100000
set_option maxHeartbeats 4000000
namespace Lw
open PySem PySem.Spec PyProof.Rows L2
/-- data that can be shown: at most n levels, of weight at most m -/
structure Shw (d : PyData) (n m : Nat) : Prop where
  sh : d.showable = true
  lf : d.leavesShort 13 = true
  dep : d.depth ≤ n
  wt : d.weight ≤ m
structure ShwAll (ds : List PyData) (n m : Nat) : Prop where
  sh : PyData.showableAll ds = true
  lf : PyData.leavesShortAll 13 ds = true
  dep : PyData.depthAll ds ≤ n
  wt : PyData.weightAll ds ≤ m
structure ShwKv (ds : List (PyData × PyData)) (n m : Nat) : Prop where
  sh : PyData.showableKv ds = true
  lf : PyData.leavesShortKv 13 ds = true
  dep : PyData.depthKv ds ≤ n
  wt : PyData.weightKv ds ≤ m
theorem Shw.le {d : PyData} {n m n' m' : Nat} (x : Shw d n m) (a : n ≤ n') (b : m ≤ m') : Shw d n' m' := ⟨x.sh, x.lf, Nat.le_trans x.dep a, Nat.le_trans x.wt b⟩
theorem Shw.non : Shw .none 0 0 := ⟨rfl, rfl, Nat.le_refl _, Nat.le_refl _⟩
theorem Shw.bl (b : Bool) : Shw (.bool b) 0 0 := ⟨rfl, rfl, Nat.le_refl _, Nat.le_refl _⟩
theorem Shw.str {z : Str} (h : NameOk z) : Shw (.str z) 0 8 := by
  refine ⟨rfl, ?_, Nat.le_refl _, h.most⟩
  show (z.cps.toList.all fun c => decide (c < 16 ^ 8)) = true
  rw [List.all_eq_true]
  intro c hc
  have := (h.low c hc).2
  exact decide_eq_true (Nat.lt_of_le_of_lt this (by decide))
theorem ShwAll.nil {n : Nat} : ShwAll [] n 0 := ⟨rfl, rfl, Nat.zero_le _, Nat.le_refl _⟩
theorem ShwAll.cons {d : PyData} {ds : List PyData} {n m k : Nat} (x : Shw d n m) (y : ShwAll ds n k) : ShwAll (d :: ds) n (m + 1 + k) := by
  refine ⟨?_, ?_, ?_, ?_⟩
  · show (PyData.showable d && PyData.showableAll ds) = true
    rw [x.sh, y.sh]; rfl
  · show (PyData.leavesShort 13 d && PyData.leavesShortAll 13 ds) = true
    rw [x.lf, y.lf]; rfl
  · have h1 := x.dep
    have h2 := y.dep
    rw [PyData.depthAll]
    exact Nat.max_le.mpr ⟨h1, h2⟩
  · have h1 := x.wt
    have h2 := y.wt
    rw [PyData.weightAll]
    omega
theorem ShwAll.lst {ds : List PyData} {n m : Nat} (x : ShwAll ds n m) : Shw (.list ds) (n + 1) m := ⟨x.sh, x.lf, by rw [PyData.depth]; exact Nat.succ_le_succ x.dep, x.wt⟩
theorem ShwAll.tup {ds : List PyData} {n m : Nat} (x : ShwAll ds n m) : Shw (.tuple ds) (n + 1) m := ⟨x.sh, x.lf, by rw [PyData.depth]; exact Nat.succ_le_succ x.dep, x.wt⟩
theorem ShwAll.of {ds : List PyData} {n m : Nat} (h : ∀ d ∈ ds, Shw d n m) : ShwAll ds n (ds.length * (m + 1)) := by
  induction ds with
  | nil => exact ⟨rfl, rfl, Nat.zero_le _, Nat.zero_le _⟩
  | cons d r ih =>
    have := ShwAll.cons (h d List.mem_cons_self) (ih fun e he => h e (List.mem_cons_of_mem _ he))
    exact ⟨this.sh, this.lf, this.dep, by have := this.wt; rw [List.length_cons, Nat.succ_mul]; omega⟩
theorem ShwKv.of {ds : List (PyData × PyData)} {n m : Nat} (h : ∀ d ∈ ds, Shw d.1 n m ∧ Shw d.2 n m) : ShwKv ds n (ds.length * (2 * m + 2)) := by
  induction ds with
  | nil => exact ⟨rfl, rfl, Nat.zero_le _, Nat.zero_le _⟩
  | cons d r ih =>
    obtain ⟨k, v⟩ := d
    obtain ⟨x, y⟩ := h _ List.mem_cons_self
    have z := ih fun e he => h e (List.mem_cons_of_mem _ he)
    refine ⟨?_, ?_, ?_, ?_⟩
    · show (PyData.showable k && PyData.showable v && PyData.showableKv r) = true
      rw [x.sh, y.sh, z.sh]; rfl
    · show (PyData.leavesShort 13 k && PyData.leavesShort 13 v && PyData.leavesShortKv 13 r) = true
      rw [x.lf, y.lf, z.lf]; rfl
    · have h1 := x.dep
      have h2 := y.dep
      have h3 := z.dep
      simp only [PyData.depthKv]
      simp only at h1 h2
      omega
    · have h1 := x.wt
      have h2 := y.wt
      have h3 := z.wt
      simp only at h1 h2
      rw [PyData.weightKv, List.length_cons, Nat.succ_mul]
      omega
theorem ShwKv.dct {ds : List (PyData × PyData)} {n m : Nat} (x : ShwKv ds n m) : Shw (.dict ds) (n + 1) m := ⟨x.sh, x.lf, by rw [PyData.depth]; exact Nat.succ_le_succ x.dep, x.wt⟩
theorem Shw.fits {d : PyData} {n m : Nat} (x : Shw d n m) (hn : n ≤ 40) (hm : m ≤ 1000000) : d.showable = true ∧ d.depth ≤ 40 ∧ d.shown.length ≤ sizeLine :=
  ⟨x.sh, Nat.le_trans x.dep hn, PyData.shown_fits (B := 13) (by decide) (by decide) x.lf (Nat.le_trans x.wt (Nat.le_trans hm (by decide)))⟩
end Lw

set_option Elab.async false
set_option linter.all false
set_option maxRecDepth 100000
set_option maxHeartbeats 4000000
namespace Lw
open PySem PySem.Spec PyProof.Rows L2
/-- a tree without dicts, of small texts: at most n levels, of weight at most m -/
structure Pl (t : Tr) (n m : Nat) : Prop where
  shw : Shw t.data n m
  lay : t.data.canLay0 = true
theorem Pl.le {t : Tr} {n m n' m' : Nat} (x : Pl t n m) (a : n ≤ n') (b : m ≤ m') : Pl t n' m' := ⟨x.shw.le a b, x.lay⟩
theorem Pl.str {z : Str} (h : NameOk z) : Pl (.str z) 0 8 := ⟨Shw.str h, by
  have l := strs_lay (ws := [z]) (fun y hy => by rw [List.mem_singleton.mp hy]; exact h)
  have l' : (PyData.canLay0 (.str z) && PyData.canLayAll0 []) = true := l
  rw [Bool.and_eq_true] at l'
  exact l'.1⟩
theorem lay_all : ∀ {ts : List Tr}, (∀ t ∈ ts, t.data.canLay0 = true) → PyData.canLayAll0 (Tr.datas ts) = true
  | [], _ => rfl
  | t :: r, h => by
    show (t.data.canLay0 && PyData.canLayAll0 (Tr.datas r)) = true
    rw [h t List.mem_cons_self, lay_all fun y hy => h y (List.mem_cons_of_mem _ hy)]
    rfl
theorem shw_all {ts : List Tr} {n m : Nat} (h : ∀ t ∈ ts, Shw t.data n m) : ShwAll (Tr.datas ts) n (ts.length * (m + 1)) := by
  have x := ShwAll.of (ds := Tr.datas ts) (n := n) (m := m) fun d hd => by
    rw [datas_map] at hd
    obtain ⟨t, ht, rfl⟩ := List.mem_map.mp hd
    exact h t ht
  rw [datas_map, List.length_map, ← datas_map] at x
  exact x
theorem Shw.lstT {ts : List Tr} {n m : Nat} (h : ∀ t ∈ ts, Shw t.data n m) : Shw (Tr.lst ts).data (n + 1) (ts.length * (m + 1)) := (shw_all h).lst
theorem Shw.tupT {ts : List Tr} {n m : Nat} (h : ∀ t ∈ ts, Shw t.data n m) : Shw (Tr.tup ts).data (n + 1) (ts.length * (m + 1)) := (shw_all h).tup
theorem Pl.lst {ts : List Tr} {n m : Nat} (h : ∀ t ∈ ts, Pl t n m) : Pl (.lst ts) (n + 1) (ts.length * (m + 1)) := ⟨Shw.lstT fun t ht => (h t ht).shw, lay_all fun t ht => (h t ht).lay⟩
theorem Pl.tup {ts : List Tr} {n m : Nat} (h : ∀ t ∈ ts, Pl t n m) : Pl (.tup ts) (n + 1) (ts.length * (m + 1)) := ⟨Shw.tupT fun t ht => (h t ht).shw, lay_all fun t ht => (h t ht).lay⟩
theorem Pl.shaped {t : Tr} {n m : Nat} (x : Pl t n m) (h : n ≤ 64) : SeqAt.shaped t.data = true := by
  unfold SeqAt.shaped
  rw [x.lay, Bool.true_and]
  exact decide_eq_true (Nat.le_trans x.shw.dep h)
theorem Pl.strs {ws : List Str} (h : ∀ z ∈ ws, NameOk z) : Pl (.lst (ws.map Tr.str)) 1 (ws.length * 9) := by
  have x := Pl.lst (ts := ws.map Tr.str) (n := 0) (m := 8) fun t ht => by
    obtain ⟨z, hz, rfl⟩ := List.mem_map.mp ht
    exact Pl.str (h z hz)
  rw [List.length_map] at x
  exact x
theorem ok_word : ∀ z ∈ (["is", "none", "not", "link", "unique", "some", "check", "mark", "tag"] : List Str), NameOk z := fun z hz => nameB_ok (List.all_eq_true.mp (by decide +kernel : (["is", "none", "not", "link", "unique", "some", "check", "mark", "tag"] : List Str).all nameB = true) z hz)
theorem of2 {P : Tr → Prop} {a b : Tr} (h1 : P a) (h2 : P b) : ∀ t ∈ [a, b], P t := fun t ht => by
  rcases List.mem_cons.mp ht with h | h
  · rw [h]; exact h1
  · rw [List.mem_singleton.mp h]; exact h2
theorem ofC {P : Tr → Prop} {a : Tr} {r : List Tr} (h1 : P a) (h2 : ∀ t ∈ r, P t) : ∀ t ∈ a :: r, P t := fun t ht => by
  rcases List.mem_cons.mp ht with h | h
  · rw [h]; exact h1
  · exact h2 t h
theorem ofN {P : Tr → Prop} : ∀ t ∈ ([] : List Tr), P t := fun _ h => nomatch h
theorem fld_pl {ns : List Str} (hn : ∀ n ∈ ns, NameOk n) : ∀ {fl : Fld}, FldOk ns fl → Pl fl.tree 2 200
  | .mk ws, .mk c d few nd => (Pl.tup (ts := [.str "mark", .lst (ws.map Tr.str)]) (n := 1) (m := 36) (of2 ((Pl.str (ok_word _ (by decide +kernel))).le (by decide) (by decide)) ((Pl.strs d).le (by decide) (by omega)))).le (by decide) (by simp only [List.length_cons, List.length_nil]; omega)
  | .lk n, .lk m => (Pl.tup (ts := [.str "link", .str n]) (n := 1) (m := 36) (of2 ((Pl.str (ok_word _ (by decide +kernel))).le (by decide) (by decide)) ((Pl.str (hn n m)).le (by decide) (by decide)))).le (by decide) (by simp only [List.length_cons, List.length_nil]; omega)
  | .tg, _ => (Pl.tup (ts := [.str "tag"]) (n := 1) (m := 36) (ofC ((Pl.str (ok_word _ (by decide +kernel))).le (by decide) (by decide)) ofN)).le (by decide) (by simp only [List.length_cons, List.length_nil]; omega)
theorem fldOk_ord {ns : List Str} : ∀ {fl : Fld}, FldOk ns fl → FldOk ns (ordFld fl)
  | .mk ws, .mk c d few nd => .mk (fun n => c (List.length_eq_zero_iff.mp (by rw [← sortT_len, n]; rfl))) (fun z hz => d z (sortT_mem.mp hz)) (by rw [sortT_len]; exact few) (sortT_nodup nd)
  | .lk n, .lk m => .lk m
  | .tg, _ => .tg
theorem core_pl {fs : Flds} (hf : ∀ p ∈ fs, NameOk p.1) : ∀ {t : Tst}, TstC fs 4 t → Pl t.tree 2 120
  | .is f ws, .is a b c d e => (Pl.tup (ts := [.str "is", .str f, .lst (ws.map Tr.str)]) (n := 1) (m := 36) (ofC ((Pl.str (ok_word _ (by decide +kernel))).le (by decide) (by decide)) (of2 ((Pl.str (hf _ a)).le (by decide) (by decide)) ((Pl.strs e).le (by decide) (by omega))))).le (by decide) (by simp only [List.length_cons, List.length_nil]; omega)
  | .non f, .lk a => (Pl.tup (ts := [.str "none", .str f]) (n := 1) (m := 36) (of2 ((Pl.str (ok_word _ (by decide +kernel))).le (by decide) (by decide)) ((Pl.str (hf _ a)).le (by decide) (by decide)))).le (by decide) (by simp only [List.length_cons, List.length_nil]; omega)
  | .non f, .tg a => (Pl.tup (ts := [.str "none", .str f]) (n := 1) (m := 36) (of2 ((Pl.str (ok_word _ (by decide +kernel))).le (by decide) (by decide)) ((Pl.str (hf _ a)).le (by decide) (by decide)))).le (by decide) (by simp only [List.length_cons, List.length_nil]; omega)
theorem sq120 : ∀ {n : Nat}, n ≤ 2 → 120 ≤ 120 * ((n + 1) * (n + 1)) := fun {n} h => by
  obtain rfl | rfl | rfl : n = 0 ∨ n = 1 ∨ n = 2 := by omega
  all_goals decide
theorem tst_pl {fs : Flds} (hf : ∀ p ∈ fs, NameOk p.1) : ∀ {t : Tst} {n : Nat}, t.depth ≤ n → n ≤ 2 → TstC fs 4 t.core → Pl t.tree (2 + n) (120 * ((n + 1) * (n + 1)))
  | .is f ws, n, _, h2, h => (core_pl hf (t := .is f ws) h).le (by omega) (sq120 h2)
  | .non f, n, _, h2, h => (core_pl hf (t := .non f) h).le (by omega) (sq120 h2)
  | .nt t, 0, h, _, _ => absurd h (Nat.not_succ_le_zero _)
  | .nt t, n + 1, h, h2, hc => by
    have x := tst_pl hf (t := t) (n := n) (Nat.le_of_succ_le_succ h) (by omega) hc
    refine (Pl.tup (ts := [.str "not", t.tree]) (n := 2 + n) (m := 120 * ((n + 1) * (n + 1))) (of2 ((Pl.str (ok_word _ (by decide +kernel))).le (by omega) ?_) x)).le (by omega) ?_
    · obtain rfl | rfl : n = 0 ∨ n = 1 := by omega
      all_goals decide
    · simp only [List.length_cons, List.length_nil]
      obtain rfl | rfl : n = 0 ∨ n = 1 := by omega
      all_goals decide
theorem tests_pl {fs : Flds} (hf : ∀ p ∈ fs, NameOk p.1) {ts : List Tst} (o : TstsOk fs ts) : Pl (testsT ts) 5 10000 := by
  have x := Pl.lst (ts := ts.map Tst.tree) (n := 4) (m := 1080) fun t ht => by
    obtain ⟨y, hy, rfl⟩ := List.mem_map.mp ht
    exact tst_pl hf (o.1 y hy).dep (Nat.le_refl _) (o.1 y hy).core
  rw [List.length_map] at x
  exact x.le (by decide) (by have := o.2; omega)
theorem rule_pl {tabs : Tabs} (ok : TabsOk tabs) : ∀ {r : Rul}, NameOk r.1 → RKOk tabs r.2 → Pl (ruleT r) 6 61000
  | (n, .link tb fd x y), hn, .link h l h2 tx ty => (Pl.tup (ts := [.str n, .str "link", .str tb, .str fd, testsT x, testsT y]) (n := 5) (m := 10000)
      (ofC ((Pl.str hn).le (by decide) (by decide)) (ofC ((Pl.str (ok_word _ (by decide +kernel))).le (by decide) (by decide)) (ofC ((Pl.str (ok.ok _ h)).le (by decide) (by decide)) (ofC ((Pl.str ((ok.val _ h).ok _ l)).le (by decide) (by decide)) (of2 (tests_pl (ok.val _ h).ok tx) (tests_pl (ok.val _ h2).ok ty))))))).le (by decide) (by simp only [List.length_cons, List.length_nil]; omega)
  | (n, .uniq tb fd), hn, .uniq h l => (Pl.tup (ts := [.str n, .str "unique", .str tb, .str fd]) (n := 5) (m := 10000)
      (ofC ((Pl.str hn).le (by decide) (by decide)) (ofC ((Pl.str (ok_word _ (by decide +kernel))).le (by decide) (by decide)) (of2 ((Pl.str (ok.ok _ h)).le (by decide) (by decide)) ((Pl.str ((ok.val _ h).ok _ l)).le (by decide) (by decide)))))).le (by decide) (by simp only [List.length_cons, List.length_nil]; omega)
  | (n, .one tb x), hn, .one h tx => (Pl.tup (ts := [.str n, .str "some", .str tb, testsT x]) (n := 5) (m := 10000)
      (ofC ((Pl.str hn).le (by decide) (by decide)) (ofC ((Pl.str (ok_word _ (by decide +kernel))).le (by decide) (by decide)) (of2 ((Pl.str (ok.ok _ h)).le (by decide) (by decide)) (tests_pl (ok.val _ h).ok tx))))).le (by decide) (by simp only [List.length_cons, List.length_nil]; omega)
  | (n, .chk tb x), hn, .chk h tx => (Pl.tup (ts := [.str n, .str "check", .str tb, testsT x]) (n := 5) (m := 10000)
      (ofC ((Pl.str hn).le (by decide) (by decide)) (ofC ((Pl.str (ok_word _ (by decide +kernel))).le (by decide) (by decide)) (of2 ((Pl.str (ok.ok _ h)).le (by decide) (by decide)) (tests_pl (ok.val _ h).ok tx))))).le (by decide) (by simp only [List.length_cons, List.length_nil]; omega)
theorem rules_pl {tabs : Tabs} {rs : List Rul} (o : PartsOk tabs rs) : Pl (rulesT rs) 7 370000 := by
  have x := Pl.lst (ts := rs.map ruleT) (n := 6) (m := 61000) fun t ht => by
    obtain ⟨r, hr, rfl⟩ := List.mem_map.mp ht
    exact rule_pl o.tab (o.ok r hr).1 (o.ok r hr).2
  rw [List.length_map] at x
  exact x.le (by decide) (by have := o.few; omega)
theorem dict1_of {ns : List Str} (hn : ∀ n ∈ ns, NameOk n) {fs : Flds} (o : ∀ p ∈ fs, FldOk ns p.2) : Dict1 (fieldsT fs) := .mk fun t ht => by
  obtain ⟨p, hp, rfl⟩ := List.mem_map.mp ht
  exact (fld_pl hn (o p hp)).shaped (by decide)
theorem ordF_val {ns : List Str} {fs : Flds} (o : ∀ p ∈ fs, FldOk ns p.2) : ∀ p ∈ ordF fs, FldOk ns p.2 := fun p hp => by
  unfold ordF at hp
  obtain ⟨z, hz, rfl⟩ := List.mem_map.mp hp
  obtain ⟨fl, e, m⟩ := fldAt_mem (sortT_mem.mp hz)
  have e2 : atF fs z = fl := by unfold atF; rw [e]; rfl
  show FldOk ns (ordFld (atF fs z))
  rw [e2]
  exact fldOk_ord (o _ m)
theorem TabsOk.names {tabs : Tabs} (ok : TabsOk tabs) : ∀ n ∈ tabs.map (·.1), NameOk n := fun n hn => by
  obtain ⟨p, hp, rfl⟩ := List.mem_map.mp hn
  exact ok.ok p hp
theorem ordTabs_mem {tabs : Tabs} (ok : TabsOk tabs) : ∀ p ∈ ordTabs tabs, ∃ fs, (p.1, fs) ∈ tabs ∧ p.2 = ordF fs := fun p hp => by
  unfold ordTabs at hp
  obtain ⟨z, hz, rfl⟩ := List.mem_map.mp hp
  obtain ⟨fs, e, m⟩ := tabAt_mem (sortT_mem.mp hz)
  exact ⟨fs, m, by show ordF (tabOf tabs z) = _; rw [tabOf_at e]⟩
theorem dict1_ord {tabs : Tabs} (ok : TabsOk tabs) : ∀ t ∈ (ordTabs tabs).map (fun p => fieldsT p.2), Dict1 t := fun t ht => by
  obtain ⟨p, hp, rfl⟩ := List.mem_map.mp ht
  obtain ⟨fs, m, e⟩ := ordTabs_mem ok p hp
  show Dict1 (fieldsT p.2)
  rw [e]
  exact dict1_of ok.names (ordF_val (ok.val _ m).val)
/-! ### == of schemas -/
def eqTabs (a b : Tabs) : Bool := eqDct eqD2 (a.map (·.1)) (a.map fun p => fieldsT p.2) (b.map (·.1)) (b.map fun p => fieldsT p.2)
def eqRules (a b : List Rul) : Bool := PyData.eqv (rulesT a).data (rulesT b).data
def eqSch (t : Tabs) (r : List Rul) (t' : Tabs) (r' : List Rul) : Bool := eqTabs (ordTabs t) (ordTabs t') && eqRules r r'
theorem eqTabs_self {tabs : Tabs} (ok : TabsOk tabs) : eqTabs (ordTabs tabs) (ordTabs tabs) = true := by
  have nd : ((ordTabs tabs).map (·.1)).Nodup := by rw [ordTabs_keys]; exact sortT_nodup ok.nd
  refine eqD2_self nd (by rw [List.length_map, List.length_map]) fun t ht => ?_
  have d1 := dict1_ord ok t ht
  obtain ⟨p, hp, rfl⟩ := List.mem_map.mp ht
  obtain ⟨fs, m, e⟩ := ordTabs_mem ok p hp
  show eqD2 (fieldsT p.2) (fieldsT p.2) = true
  rw [e]
  refine eqD2_self (by rw [ordF_keys]; exact sortT_nodup (ok.val _ m).nd) (by rw [List.length_map, List.length_map]) fun t ht => ?_
  obtain ⟨q, hq, rfl⟩ := List.mem_map.mp ht
  exact SeqAt.eqv_refl _ (fld_pl ok.names (ordF_val (ok.val _ m).val q hq)).lay
theorem eqSch_self {tabs : Tabs} {rs : List Rul} (o : PartsOk tabs rs) : eqSch tabs rs tabs rs = true := by
  unfold eqSch
  rw [eqTabs_self o.tab, Bool.true_and]
  exact SeqAt.eqv_refl _ (rules_pl o).lay
/-- what is asked of the class -/
structure SchK (K : PySem.W.Frag) (C fe : Addr) : Prop where
  ini : InitCls K C
  eq : EqCls K C fe
  cl : PySem.W.findIn K (.ref C) "__class__" = some (some (.builtin "object.__class__"))
  gs : PySem.W.specialIn K (.builtin "object.__class__") "__get__" = some (some (.builtin "getset_descriptor.__get__"))
  tk : PySem.W.takesIn K (.builtin "object.__class__") = some true
  ob : PySem.W.mroIn K C (.type "object") = some true
  kc : ∀ n ∈ ["NoneType", "tuple", "dict", "int", "str", "list"], PySem.W.kitOne K (.type n) (.ref C) = some false
  nf : ∀ n ∈ ["NoneType", "tuple", "dict", "int", "str", "list"], PySem.W.notFirst K C (.type n) = true
theorem SchK.tyI {K : PySem.W.Frag} {C fe a dx : Addr} {H : Hp} {fs : List (Str × V)} (c : SchK K C fe) (e : H a = some (.ins C dx fs)) : TyX K H (.ref a) (.ref C) := .base (.ins e c.ini.cls c.cl c.gs c.tk c.ob)
/-- what may stand beside a schema -/
def BesideOk (K : PySem.W.Frag) (C : Addr) (y : V) (H : Hp) : Prop := (∃ (b dx : Addr) (fs : List (Str × V)), y = .ref b ∧ H b = some (.ins C dx fs)) ∨ ∃ n ∈ ["NoneType", "tuple", "dict", "int", "str", "list"], TyX K H y (.type n)
abbrev sMEq : Stmt := sMeth 1
section
variable {P : Program} {w : World} {K : PySem.W.Frag} {mg : Str → Option Value} {base : Heap} {C fe : Addr}
theorem scMEq : FnScope ["self", "other"] ["self", "other"] (C8.fnScope sMEq) := ⟨rfl, rfl, rfl, by decide +kernel, rfl, by decide +kernel, by decide +kernel⟩
def spMEq (K : PySem.W.Frag) (C : Addr) : Sp := fun vs H Q _ => (∃ (s s2 : Addr) (t t2 : Tabs) (r r2 : List Rul) (A B : Addr → Prop), vs = [.ref s, .ref s2] ∧ SchAt C H A s t r ∧ SchAt C H B s2 t2 r2 ∧ PartsOk t r ∧ PartsOk t2 r2 ∧ Q (.bl (eqSch t r t2 r2)) H) ∨
  ∃ (s : Addr) (y : V) (n : String), vs = [.ref s, y] ∧ n ∈ ["NoneType", "tuple", "dict", "int", "str", "list"] ∧ TyX K H y (.type n) ∧ Q (.bl false) H
theorem ok_meq {fd : FuncData} (c : SchK K C fe) (F : C8.Fun K "__eq__" "Schema.__eq__" sMEq fe fd) (mi : mg "isinstance" = none) (mS : mg "Schema" = some (.ref C)) : FnOk P w K mg base CX0 1 fe fd ["self", "other"] (spMEq K C) := by
  refine C8.fn0 F scMEq (fun vs H Q E h => ?_) (fun cdv A0 outer s0 H vs Q E hr h => ?_)
  · rcases h with ⟨s, s2, t, t2, r, r2, A, B, rfl, _⟩ | ⟨s, y, n, rfl, _⟩ <;> rfl
  have hu : (cxOf C8.CX0 P w K mg base ["self", "other"] "Schema.__eq__" (C8.fnScope sMEq) fe cdv A0 outer s0 H E).nox.A.units + 68 < cLine := by
    have h := hr.un
    show (A0.deeper (envOfC "Schema.__eq__" (C8.fnScope sMEq) s0.heap.objs.size fe cdv)).units + 68 < cLine
    omega
  refine ⟨_, pss_one (ps_ret (pe_and (pe_callB call_isi (by rfl) mi (by decide +kernel) (pa_cons (pv 1) (pa_cons (pe_glob (v := .ref C) (by rfl) mS rfl) pa_nil))) (pe_and (pe_cmpR (op_eqDD hu) (pe_fld (pv 0) (by rfl)) (pe_fld (pv 1) (by rfl)) (nomark _)) (pe_one (pe_cmpR (op_eqPl (by omega)) (pe_fld (pv 0) (by rfl)) (pe_fld (pv 1) (by rfl)) (nomark _)))))), ?_⟩
  rcases h with ⟨s, s2, t, t2, r, r2, A, B, rfl, x, x2, o, o2, q⟩ | ⟨s, y, n, rfl, mn, ty, q⟩
  · obtain ⟨dx, dT, dR, e, d1, d2⟩ := sch_fields x
    obtain ⟨ex, eT, eR, e2, d3, d4⟩ := sch_fields x2
    refine ⟨_, rfl, _, .ref C, _, _, true, rfl, .own C, c.tyI e2, by unfold PySem.W.kitOne; rw [if_pos (by simp)], true, rfl, tt_if rfl ?_⟩
    refine ⟨_, rfl, s, C, dx, _, .ref dT, rfl, e, c.ini.cls, c.ini.n1, rfl, _, rfl, s2, C, ex, _, .ref eT, rfl, e2, c.ini.cls, c.ini.n1, rfl, _, _, _, _, A, B, d1, d3, dict1_ord o.tab, dict1_ord o2.tab, _, rfl, ?_⟩
    show if eqTabs (ordTabs t) (ordTabs t2) = true then _ else _
    by_cases g : eqTabs (ordTabs t) (ordTabs t2) = true
    · refine tt_if g ⟨_, rfl, s, C, dx, _, .ref dR, rfl, e, c.ini.cls, c.ini.n2, rfl, _, rfl, s2, C, ex, _, .ref eR, rfl, e2, c.ini.cls, c.ini.n2, rfl, rulesT r, rulesT r2, A, B, d2, d4, (rules_pl o).shaped (by decide), (rules_pl o2).shaped (by decide), ?_⟩
      have h : eqSch t r t2 r2 = PyData.eqv (rulesT r).data (rulesT r2).data := by
        unfold eqSch
        rw [g, Bool.true_and]
        rfl
      rw [← h]
      exact q
    · have g' : eqTabs (ordTabs t) (ordTabs t2) = false := by simpa using g
      refine ff_if g' ?_
      have h : eqSch t r t2 r2 = false := by
        unfold eqSch
        rw [g', Bool.false_and]
      rw [h] at q
      exact q
  · exact ⟨_, rfl, y, .ref C, _, _, false, rfl, .own C, ty, c.kc n mn, false, rfl, ff_if rfl q⟩
end
end Lw

set_option Elab.async false
set_option linter.all false
set_option maxRecDepth 1000000
namespace Lw
open PySem PySem.Spec PyProof.Rows L2
theorem short_ints : (List.range 4097).all (fun n => decide ((PyData.shown (.int (n : Nat))).length ≤ 13)) = true := by decide +kernel
end Lw

set_option Elab.async false
set_option linter.all false
set_option maxRecDepth 1000000
namespace Lw
open PySem PySem.Spec PyProof.Rows L2
theorem int_wt {n : Nat} (h : n ≤ 4096) : (PyData.int (n : Nat)).weight ≤ 14 := by
  simp only [PyData.weight]
  split
  · exact Nat.zero_le _
  · rw [Int.natAbs_natCast]
    by_cases z : n = 0
    · subst z; decide
    · have := (Nat.log2_lt z).mpr (Nat.lt_of_le_of_lt h (by decide : 4096 < 2 ^ 13))
      omega
theorem Shw.int {n : Nat} (h : n ≤ 4096) : Shw (.int (n : Nat)) 0 14 := by
  refine ⟨?_, ?_, Nat.le_refl _, int_wt h⟩
  · show decide ((n : Int).natAbs.log2 < 1920) = true
    refine decide_eq_true ?_
    rw [Int.natAbs_natCast]
    by_cases z : n = 0
    · subst z; decide
    · exact Nat.lt_of_le_of_lt ((Nat.log2_lt z).mpr (Nat.lt_of_le_of_lt h (by decide : 4096 < 2 ^ 13)) |> Nat.le_of_lt) (by decide)
  · have x := List.all_eq_true.mp short_ints n (List.mem_range.mpr (by omega))
    exact x
end Lw

set_option Elab.async false
set_option linter.all false
set_option maxRecDepth 100000
set_option maxHeartbeats 4000000
namespace Lw
open PySem PySem.Spec PyProof.Rows L2
theorem DLs.ofStrs {H : Hp} : ∀ ws : List Str, DLs H [] (ws.map V.str) (ws.map Tr.str)
  | [] => .nil
  | w :: r => .cons (L := []) (M := []) (.str w) (DLs.ofStrs r)
theorem DLs.app {H : Hp} {L M : List Addr} {v : V} {vs : List V} {t : Tr} {ts : List Tr} (x : DL H L v t) (y : DLs H M vs ts) : DLs H (L ++ M) (v :: vs) (t :: ts) := .cons x y
theorem CopL.go {H H1 H' : Hp} {D : Addr} {ts : List Tr} {i : Nat} {t : Tr} {v' : V} {M : List Addr} (nD : H D = none) (p : CopL H D ts i H1) (ht : ts[i]? = some t) (few : ts.length ≤ 1000) (s2 : Same H1 H') (dv' : DL H' M v' t) (nd' : M.Nodup) (new' : ∀ a ∈ M, H1 a = none) :
    ∃ acc, H' D = some (.lst acc) ∧ acc.length < sizeLine ∧ CopL H D ts (i + 1) (upd H' D (.lst (acc ++ [v']))) := by
  obtain ⟨acc, h1, h2, h3⟩ := p.step nD ht s2 dv' nd' new'
  have il := (List.getElem?_eq_some_iff.mp ht).1
  exact ⟨acc, h1, small1000 (by omega), h3⟩
/-- a list of trees on its way -/
def CopT (H : Hp) (D : Addr) (ts : List Tr) (i : Nat) (H1 : Hp) : Prop := Same H H1 ∧ ∃ acc, H1 D = some (.lst acc) ∧ acc.length = i ∧ DTs H1 (· ≠ D) acc (ts.take i)
theorem CopT.zero {H : Hp} {D : Addr} {ts : List Tr} (nD : H D = none) : CopT H D ts 0 (upd H D (.lst [])) := ⟨same_new nD _, [], upd_same, rfl, .nil⟩
theorem CopT.go {H H1 H' : Hp} {D : Addr} {ts : List Tr} {i : Nat} {t : Tr} {v' : V} (nD : H D = none) (p : CopT H D ts i H1) (ht : ts[i]? = some t) (few : ts.length ≤ 1000) (s2 : Same H1 H') (dv' : DT H' (· ≠ D) v' t) :
    ∃ acc, H' D = some (.lst acc) ∧ acc.length < sizeLine ∧ CopT H D ts (i + 1) (upd H' D (.lst (acc ++ [v']))) := by
  obtain ⟨s1, acc, hD, hi, dd⟩ := p
  have il := (List.getElem?_eq_some_iff.mp ht).1
  refine ⟨acc, s2 _ _ hD, small1000 (by omega), Same.put (s1.trans s2) nD, acc ++ [v'], upd_same, by rw [List.length_append, hi]; rfl, ?_⟩
  have e1 : ts.take (i + 1) = ts.take i ++ [t] := by
    rw [List.take_add_one, ht]
    rfl
  rw [e1]
  exact DTs.mono (fun c u hc eu => by rw [upd_ne hc]; exact eu) ((dd.same s2).snoc dv')
theorem CopT.last {H H1 : Hp} {D : Addr} {ts : List Tr} {n : Nat} (hn : ts.length ≤ n) (p : CopT H D ts n H1) : Same H H1 ∧ ∃ acc, H1 D = some (.lst acc) ∧ DTs H1 (· ≠ D) acc ts := by
  obtain ⟨s1, acc, hD, _, dd⟩ := p
  rw [List.take_of_length_le hn] at dd
  exact ⟨s1, acc, hD, dd⟩
/-- .. its trees among some places -/
def CopU (U : Addr → Prop) (H : Hp) (D : Addr) (ts : List Tr) (i : Nat) (H1 : Hp) : Prop := Same H H1 ∧ ∃ acc, H1 D = some (.lst acc) ∧ acc.length = i ∧ DTs H1 (fun c => c ≠ D ∧ U c) acc (ts.take i)
theorem CopU.zero {U : Addr → Prop} {H : Hp} {D : Addr} {ts : List Tr} (nD : H D = none) : CopU U H D ts 0 (upd H D (.lst [])) := ⟨same_new nD _, [], upd_same, rfl, .nil⟩
theorem CopU.go {U : Addr → Prop} {H H1 H' : Hp} {D : Addr} {ts : List Tr} {i : Nat} {t : Tr} {v' : V} (nD : H D = none) (p : CopU U H D ts i H1) (ht : ts[i]? = some t) (few : ts.length ≤ 1000) (s2 : Same H1 H') (dv' : DT H' (fun c => c ≠ D ∧ U c) v' t) :
    ∃ acc, H' D = some (.lst acc) ∧ acc.length < sizeLine ∧ CopU U H D ts (i + 1) (upd H' D (.lst (acc ++ [v']))) := by
  obtain ⟨s1, acc, hD, hi, dd⟩ := p
  have il := (List.getElem?_eq_some_iff.mp ht).1
  refine ⟨acc, s2 _ _ hD, small1000 (by omega), Same.put (s1.trans s2) nD, acc ++ [v'], upd_same, by rw [List.length_append, hi]; rfl, ?_⟩
  have e1 : ts.take (i + 1) = ts.take i ++ [t] := by
    rw [List.take_add_one, ht]
    rfl
  rw [e1]
  exact DTs.mono (fun c u hc eu => by rw [upd_ne hc.1]; exact eu) ((dd.same s2).snoc dv')
theorem CopU.last {U : Addr → Prop} {H H1 : Hp} {D : Addr} {ts : List Tr} {n : Nat} (hn : ts.length ≤ n) (p : CopU U H D ts n H1) : Same H H1 ∧ ∃ acc, H1 D = some (.lst acc) ∧ DTs H1 (fun c => c ≠ D ∧ U c) acc ts := by
  obtain ⟨s1, acc, hD, _, dd⟩ := p
  rw [List.take_of_length_le hn] at dd
  exact ⟨s1, acc, hD, dd⟩
/-- the place of a new list is none of a tree's -/
theorem DT.notNew {H : Hp} {A : Addr → Prop} {D : Addr} {v : V} {t : Tr} (x : DT H A v t) (n : H D = none) : DT H (· ≠ D) v t := x.exist.sub fun c h e => h.2 (by rw [e]; exact n)
/-- what an answer and its due are -/
structure AnsAt (H H' : Hp) (v u : V) : Prop where
  ex : ∃ (t : Tr) (L : List Addr) (a b : Addr) (A : Addr → Prop), v = .ref a ∧ u = .ref b ∧ DL H' L v t ∧ L.Nodup ∧ (∀ c ∈ L, H c = none) ∧ DT H' A u t ∧ Shw t.data 12 900000 ∧ t.depth ≤ 20 ∧ t.few = true
theorem manyL_le (fs : Flds) (h : ∀ z, wordsN (atF fs z) ≤ 4) : ∀ l : List Str, manyL fs l ≤ 4 ^ l.length := fun l => by
  have gen : ∀ (l : List Str) (a : Nat), l.foldl (fun a z => a * wordsN (atF fs z)) a ≤ a * 4 ^ l.length := fun l => by
    induction l with
    | nil => intro a; exact Nat.le_of_eq (Nat.mul_one a).symm
    | cons z r ih =>
      intro a
      refine Nat.le_trans (ih _) ?_
      rw [List.length_cons, Nat.pow_succ, Nat.mul_comm (4 ^ r.length) 4, ← Nat.mul_assoc]
      exact Nat.mul_le_mul_right _ (Nat.mul_le_mul_left _ (h z))
  have x := gen l 1
  rw [Nat.one_mul] at x
  exact x
theorem words_le {ns : List Str} {fs : Flds} (o : ∀ p ∈ fs, FldOk ns p.2) (z : Str) : wordsN (atF fs z) ≤ 4 := by
  unfold atF
  cases e : fldAt fs z with
  | none => exact Nat.zero_le _
  | some fl =>
    have m : z ∈ fs.map (·.1) := fldAt_name e
    obtain ⟨fl', e2, mm⟩ := fldAt_mem m
    rw [e] at e2
    cases e2
    cases o _ mm with
    | mk c d few nd => exact few
    | lk m => exact Nat.zero_le _
    | tg => exact Nat.zero_le _
theorem manyF_le {ns : List Str} {fs : Flds} (o : FldsOk ns fs) : manyF fs ≤ 4096 := by
  have h := manyL_le fs (words_le o.val) (likeT fs "mark")
  have l := like_len fs "mark"
  have f := o.few
  exact Nat.le_trans h (Nat.le_trans (Nat.pow_le_pow_right (by decide) (Nat.le_trans l f)) (by decide))
/-! ### fields, shown -/
theorem fields_shw {ns : List Str} (hn : ∀ n ∈ ns, NameOk n) {fs : Flds} (ok : ∀ p ∈ fs, NameOk p.1) (few : fs.length ≤ 6) (o : ∀ p ∈ fs, FldOk ns p.2) : Shw (fieldsT fs).data 3 2500 := by
  have h : ShwKv (((fs.map (·.1)).map PyData.str).zip (Tr.datas (fs.map (·.2.tree)))) 2 ((((fs.map (·.1)).map PyData.str).zip (Tr.datas (fs.map (·.2.tree)))).length * (2 * 200 + 2)) := ShwKv.of fun d hd => by
    obtain ⟨h1, h2⟩ := List.of_mem_zip (a := d.1) (b := d.2) hd
    constructor
    · obtain ⟨z, hz, e⟩ := List.mem_map.mp h1
      obtain ⟨p, hp, rfl⟩ := List.mem_map.mp hz
      rw [← e]
      exact (Shw.str (ok p hp)).le (by decide) (by decide)
    · rw [datas_map] at h2
      obtain ⟨t, ht, e⟩ := List.mem_map.mp h2
      obtain ⟨p, hp, rfl⟩ := List.mem_map.mp ht
      rw [← e]
      exact (fld_pl hn (o p hp)).shw
  refine h.dct.le (by decide) ?_
  have l : (((fs.map (·.1)).map PyData.str).zip (Tr.datas (fs.map (·.2.tree)))).length ≤ 6 := by
    rw [List.length_zip, List.length_map, List.length_map]
    omega
  omega
theorem ordF_names {ns : List Str} {fs : Flds} (o : FldsOk ns fs) : (∀ p ∈ ordF fs, NameOk p.1) ∧ (ordF fs).length ≤ 6 := by
  refine ⟨fun p hp => ?_, ?_⟩
  · unfold ordF at hp
    obtain ⟨z, hz, rfl⟩ := List.mem_map.mp hp
    obtain ⟨q, hq, rfl⟩ := List.mem_map.mp (sortT_mem.mp hz)
    exact o.ok q hq
  · unfold ordF
    rw [List.length_map, sortT_len, List.length_map]
    exact o.few
theorem like_names {ns : List Str} {fs : Flds} (o : FldsOk ns fs) (s : Str) : (∀ z ∈ likeT fs s, NameOk z) ∧ (likeT fs s).length ≤ 6 := by
  refine ⟨fun z hz => ?_, Nat.le_trans (like_len fs s) o.few⟩
  obtain ⟨fl, _, m, _⟩ := like_mem hz
  exact o.ok _ m
theorem few_strs (ws : List Str) (h : ws.length ≤ 1000) : (Tr.lst (ws.map Tr.str)).few = true := by
  show (decide ((ws.map Tr.str).length ≤ 1000) && Tr.fews (ws.map Tr.str)) = true
  rw [strs_fews, List.length_map, decide_eq_true h]
  rfl
theorem few_lst {ts : List Tr} (h : ts.length ≤ 1000) (f : ∀ t ∈ ts, t.few = true) : (Tr.lst ts).few = true := by
  show (decide (ts.length ≤ 1000) && Tr.fews ts) = true
  rw [decide_eq_true h, fews_all f]
  rfl
theorem depth_strs (ws : List Str) : (Tr.lst (ws.map Tr.str)).depth ≤ 1 := Nat.succ_le_succ (strs_depths ws)
theorem depth_lst {ts : List Tr} {n : Nat} (h : ∀ t ∈ ts, t.depth ≤ n) : (Tr.lst ts).depth ≤ n + 1 := Nat.succ_le_succ (depths_le h)
def sorts3 : List Str := ["mark", "link", "tag"]
def like3 (fs : Flds) : List Tr := sorts3.map fun so => .lst ((likeT fs so).map Tr.str)
def wordsF : Fld → List Str
  | .mk ws => ws
  | _ => []
def leadF : Fld → Str
  | .lk n => n
  | _ => Str.empty
def marksW (fs : Flds) : List Tr := (likeT fs "mark").map fun m => .lst ((sortT (wordsF (atF fs m))).map Tr.str)
def leadsF (fs : Flds) : List Str := (likeT fs "link").map fun l => leadF (atF fs l)
def rulesI (rs : List Rul) : List Tr := rs.mapIdx fun i r => .lst [ruleT r, .int (i : Nat)]
theorem rulesI_at {rs : List Rul} {i : Nat} {r : Rul} (h : rs[i]? = some r) : (rulesI rs)[i]? = some (.lst [ruleT r, .int (i : Nat)]) := by
  unfold rulesI
  rw [List.getElem?_mapIdx, h]
  rfl
theorem rulesI_len (rs : List Rul) : (rulesI rs).length = rs.length := by
  unfold rulesI
  rw [List.length_mapIdx]
theorem rulesI_mem {rs : List Rul} {t : Tr} (h : t ∈ rulesI rs) : ∃ i r, rs[i]? = some r ∧ t = .lst [ruleT r, .int (i : Nat)] := by
  obtain ⟨i, hi⟩ := List.mem_iff_getElem?.mp h
  unfold rulesI at hi
  rw [List.getElem?_mapIdx] at hi
  obtain ⟨r, hr, e⟩ := Option.map_eq_some_iff.mp hi
  exact ⟨i, r, hr, e.symm⟩
end Lw

set_option Elab.async false
set_option linter.all false
set_option maxRecDepth 100000
set_option maxHeartbeats 8000000
namespace Lw
open PySem PySem.Spec PyProof.Rows L2
abbrev sAsked : Stmt := topS 46
abbrev NAsked : List Str := ["_law_kind", "_law_schema", "_law_tables", "_law_rules", "_law_names_here", "_law_table", "_law_due", "_law_found", "_law_marks", "_law_links", "_law_sort", "_law_mark", "_law_link", "_law_rule", "_law_at"]
/-- the scope of the list within a list -/
abbrev scInn : Scope := ⟨.function, [(".0", .local), ("_law_table", .cell), ("_law_tables", .cell)], false, false, []⟩
section
variable {P : Program} {w : World} {K : PySem.W.Frag} {mg : Str → Option Value} {base : Heap} {C : Addr}
theorem scAsked : FnScope NAsked ["_law_kind", "_law_schema", "_law_tables", "_law_rules"] (defScope sAsked) := ⟨rfl, rfl, rfl, by decide +kernel, rfl, by decide +kernel, by decide +kernel⟩
def spAsked (C : Addr) : Sp := fun vs H Q _ => ∃ (k : Nat) (s T R : Addr) (tabs : Tabs) (rs : List Rul) (A B D : Addr → Prop), vs = [.int (k : Nat), .ref s, .ref T, .ref R] ∧ k ≤ 7 ∧ SchAt C H A s tabs rs ∧ DT H B (.ref T) (tablesT tabs) ∧ DT H D (.ref R) (rulesT rs) ∧ PartsOk tabs rs ∧
  ∀ (p : Addr) (v u : V) (H' : Hp), Same H H' → H' p = some (.tup [v, u]) → AnsAt H H' v u → Q (.ref p) H'
structure AskOk (P : Program) (w : World) (K : PySem.W.Frag) (mg : Str → Option Value) (base : Heap) (C : Addr) : Prop where
  MT : C8.Met P w K mg base 1 C "tables" (spMTables C) []
  MF : C8.Met P w K mg base 9 C "fields" (spMFields C) []
  MM : C8.Met P w K mg base 2 C "marks" (spMKind C "mark") []
  ML : C8.Met P w K mg base 2 C "links" (spMKind C "link") []
  MG : C8.Met P w K mg base 2 C "tags" (spMKind C "tag") []
  MW : C8.Met P w K mg base 1 C "words" (spMWords C) []
  MD : C8.Met P w K mg base 1 C "leads_to" (spMLeads C) []
  MR : C8.Met P w K mg base 9 C "rules" (spMRules C) []
  MN : C8.Met P w K mg base 1 C "names" (spMNames C) []
  MO : C8.Met P w K mg base 9 C "rule_of" (spMRuleOf C) []
  MK : C8.Met P w K mg base 2 C "rank_of" (spMRank C) []
  MZ : C8.Met P w K mg base 3 C "rows_of" (spMRows C) []
theorem ok_asked {f f38 f44 f45 : Addr} {fd fd38 fd44 fd45 : FuncData} (F : Fun K "_law_asked_of" "_law_asked_of" sAsked f fd) (M : AskOk P w K mg base C)
    (G38 : FnOk P w K mg base CX0 1 f38 fd38 ["_law_fields_here", "_law_sort"] spLike) (m38 : mg "_law_like" = some (.ref f38)) (k38 : PySem.W.keepIn K (.ref f38) = true) (b38 : Binds K fd38 ["_law_fields_here", "_law_sort"] [])
    (G44 : FnOk P w K mg base CX0 1 f44 fd44 ["_law_fields_here"] spPlain) (m44 : mg "_law_plain_fields" = some (.ref f44)) (k44 : PySem.W.keepIn K (.ref f44) = true) (b44 : Binds K fd44 ["_law_fields_here"] [])
    (G45 : FnOk P w K mg base CX0 2 f45 fd45 ["_law_fields_here"] spMany) (m45 : mg "_law_many" = some (.ref f45)) (k45 : PySem.W.keepIn K (.ref f45) = true) (b45 : Binds K fd45 ["_law_fields_here"] [])
    (mso : mg "sorted" = none) (men : mg "enumerate" = none) : FnOk P w K mg base CX0 10 f fd ["_law_kind", "_law_schema", "_law_tables", "_law_rules"] (spAsked C) := by
  obtain ⟨MT, MF, MM, ML, MG, MW, MD, MR, MN, MO, MK, MZ⟩ := M
  refine F.ok scAsked (fun vs H Q E h => ?_) (fun cdv A0 outer s0 H vs Q E hr h => ?_)
  · obtain ⟨k, s, T, R, tabs, rs, A, B, D, rfl, _⟩ := h
    rfl
  obtain ⟨k, s, T, R, tabs, rs, A, B, D, rfl, k7, x, dT, dR, ok, q⟩ := h
  refine ⟨_, (pss_cons (ps_set (i := 4) scAsked.nd rfl (.inl rfl) (pe_callB (call_sortedD rfl) (by rfl) mso (by decide +kernel) (pa_cons (pv 2) pa_nil))) (pss_cons (ps_if (pt_cmpR op_eq (pv 0) pe_int (nomark _)) (pss_one (ps_ret (pe_tup (pa_cons (C8.pe_mt0 MT hr (by decide) (pv 1)) (pa_cons (pv 4) pa_nil))))) pss_nil) (pss_cons (ps_if (pt_cmpR op_eq (pv 0) pe_int (nomark _)) (pss_one (ps_ret (pe_tup (pa_cons (pe_lc (own := [("_law_table", 5)]) (g := gName 5) (tt := tYes) rfl scAsked.nd (pi_list (pv 4)) (blkOk_by (N := NAsked) (sc := defScope sAsked) (by decide +kernel)) (fun _ _ _ _ _ => pg_name (i := 5) scAsked.nd rfl (Or.inl rfl)) (fun _ _ _ _ _ => pts_nil) (fun _ _ _ _ _ => (C8.pe_mt MF hr (by decide) (pv 1) (pa_cons (pv 5) pa_nil)))) (pa_cons (pe_lc (own := [("_law_table", 5)]) (g := gName 5) (tt := tYes) rfl scAsked.nd (pi_list (pv 4)) (blkOk_by (N := NAsked) (sc := defScope sAsked) (by decide +kernel)) (fun _ _ _ _ _ => pg_name (i := 5) scAsked.nd rfl (Or.inl rfl)) (fun _ _ _ _ _ => pts_nil) (fun _ _ _ _ _ => (pe_call G44 (hr.mono (by decide)) (by rfl) m44 k44 b44 .nil pass0 (pa_cons (pe_dget (hu_of hr) (pv 2) (pv 5) (fun _ _ => rfl)) pa_nil)))) pa_nil))))) pss_nil) (pss_cons (ps_if (pt_cmpR op_eq (pv 0) pe_int (nomark _)) (pss_cons (ps_setLc (i := 6) (own := [("_law_table", 5)]) (g := gName 5) (tt := tYes) rfl scAsked.nd rfl rfl (sw_true rfl rfl rfl (by decide +kernel)) (pi_list (pv 4)) (blkOk_by (N := NAsked) (sc := defScope sAsked) (by decide +kernel)) (fun _ _ _ _ _ => pg_name (i := 5) scAsked.nd rfl (Or.inr rfl)) (fun _ _ _ _ _ => pts_nil) (fun _ _ _ _ _ => (pe_lc (own := [("_law_sort", 10)]) (g := gName 10) (tt := tYes) (wi := iTup K (tTup (tCons (tC (V.str "mark")) (tCons (tC (V.str "link")) (tCons (tC (V.str "tag")) tNil))))) rfl scAsked.nd (pi_tup (pe_tup (pa_cons pe_str (pa_cons pe_str (pa_cons pe_str pa_nil))))) (show BlkOk NAsked scInn _ _ from blkOk_by (by decide +kernel)) (fun _ _ _ _ _ => pg_name (i := 10) scAsked.nd rfl (Or.inl rfl)) (fun _ _ _ _ _ => pts_nil) (fun _ _ _ _ _ => (pe_call G38 (hr.mono (by decide)) (by rfl) m38 k38 b38 .nil pass0 (pa_cons (pe_dget (hu_of hr) (pv 2) (pv 5) (fun _ _ => rfl)) (pa_cons (pv 10) pa_nil))))))) (pss_one (ps_ret (pe_tup (pa_cons (pe_lc (own := [("_law_table", 5)]) (g := gName 5) (tt := tYes) rfl scAsked.nd (pi_list (pv 4)) (blkOk_by (N := NAsked) (sc := defScope sAsked) (by decide +kernel)) (fun _ _ _ _ _ => pg_name (i := 5) scAsked.nd rfl (Or.inl rfl)) (fun _ _ _ _ _ => pts_nil) (fun _ _ _ _ _ => (pe_lst (pa_cons (C8.pe_mt MM hr (by decide) (pv 1) (pa_cons (pv 5) pa_nil)) (pa_cons (C8.pe_mt ML hr (by decide) (pv 1) (pa_cons (pv 5) pa_nil)) (pa_cons (C8.pe_mt MG hr (by decide) (pv 1) (pa_cons (pv 5) pa_nil)) pa_nil)))))) (pa_cons (pv 6) pa_nil)))))) pss_nil) (pss_cons (ps_par (i := 7) (j := 6) rfl scAsked.nd rfl rfl (by decide) rfl rfl (pa_cons (pe_lst pa_nil) (pa_cons (pe_lst pa_nil) pa_nil)) (by rfl)) (pss_cons (ps_if (pt_cmpR op_eq (pv 0) pe_int (nomark _)) (pss_cons (ps_for PassesOwn.never rfl (pi_list (pv 4)) (pg_name (i := 5) scAsked.nd rfl (.inr rfl)) (pss_cons (ps_set (i := 8) scAsked.nd rfl (.inl rfl) (pe_call G38 (hr.mono (by decide)) (by rfl) m38 k38 b38 .nil pass0 (pa_cons (pe_dget (hu_of hr) (pv 2) (pv 5) (fun _ _ => rfl)) (pa_cons pe_str pa_nil)))) (pss_cons (ps_expr (pe_bm PySem.F.plainAttrs_list PySem.F.slot_list_append PySem.F.type_list_append mt_append (pv 7) (pa_cons (pe_lc (own := [("_law_mark", 11)]) (g := gName 11) (tt := tYes) rfl scAsked.nd (pi_list (pv 8)) (blkOk_by (N := NAsked) (sc := defScope sAsked) (by decide +kernel)) (fun _ _ _ _ _ => pg_name (i := 11) scAsked.nd rfl (Or.inl rfl)) (fun _ _ _ _ _ => pts_nil) (fun _ _ _ _ _ => (C8.pe_mt MW hr (by decide) (pv 1) (pa_cons (pv 5) (pa_cons (pv 11) pa_nil))))) pa_nil))) (pss_one (ps_expr (pe_bm PySem.F.plainAttrs_list PySem.F.slot_list_append PySem.F.type_list_append mt_append (pv 6) (pa_cons (pe_lc (own := [("_law_mark", 11)]) (g := gName 11) (tt := tYes) rfl scAsked.nd (pi_list (pv 8)) (blkOk_by (N := NAsked) (sc := defScope sAsked) (by decide +kernel)) (fun _ _ _ _ _ => pg_name (i := 11) scAsked.nd rfl (Or.inl rfl)) (fun _ _ _ _ _ => pts_nil) (fun _ _ _ _ _ => (pe_callB (show CallR _ (.builtin "sorted") (rSortedS K) from cr_sortedS) (by rfl) mso (by decide +kernel) (pa_cons (pe_ix (r := rIxT K) ix_tup (pe_dget (hu_of hr) (pe_dget (hu_of hr) (pv 2) (pv 5) (fun _ _ => rfl)) (pv 11) (fun _ _ => rfl)) pe_int (fun _ _ => rfl)) pa_nil)))) pa_nil))))))) (pss_one (ps_ret (pe_tup (pa_cons (pv 7) (pa_cons (pv 6) pa_nil)))))) pss_nil) (pss_cons (ps_if (pt_cmpR op_eq (pv 0) pe_int (nomark _)) (pss_cons (ps_for PassesOwn.never rfl (pi_list (pv 4)) (pg_name (i := 5) scAsked.nd rfl (.inr rfl)) (pss_cons (ps_set (i := 9) scAsked.nd rfl (.inl rfl) (pe_call G38 (hr.mono (by decide)) (by rfl) m38 k38 b38 .nil pass0 (pa_cons (pe_dget (hu_of hr) (pv 2) (pv 5) (fun _ _ => rfl)) (pa_cons pe_str pa_nil)))) (pss_cons (ps_expr (pe_bm PySem.F.plainAttrs_list PySem.F.slot_list_extend PySem.F.type_list_extend mt_extend (pv 7) (pa_cons (pe_lc (own := [("_law_link", 12)]) (g := gName 12) (tt := tYes) rfl scAsked.nd (pi_list (pv 9)) (blkOk_by (N := NAsked) (sc := defScope sAsked) (by decide +kernel)) (fun _ _ _ _ _ => pg_name (i := 12) scAsked.nd rfl (Or.inl rfl)) (fun _ _ _ _ _ => pts_nil) (fun _ _ _ _ _ => (C8.pe_mt MD hr (by decide) (pv 1) (pa_cons (pv 5) (pa_cons (pv 12) pa_nil))))) pa_nil))) (pss_one (ps_expr (pe_bm PySem.F.plainAttrs_list PySem.F.slot_list_extend PySem.F.type_list_extend mt_extend (pv 6) (pa_cons (pe_lc (own := [("_law_link", 12)]) (g := gName 12) (tt := tYes) rfl scAsked.nd (pi_list (pv 9)) (blkOk_by (N := NAsked) (sc := defScope sAsked) (by decide +kernel)) (fun _ _ _ _ _ => pg_name (i := 12) scAsked.nd rfl (Or.inl rfl)) (fun _ _ _ _ _ => pts_nil) (fun _ _ _ _ _ => (pe_ix (r := rIxT K) ix_tup (pe_dget (hu_of hr) (pe_dget (hu_of hr) (pv 2) (pv 5) (fun _ _ => rfl)) (pv 12) (fun _ _ => rfl)) pe_int (fun _ _ => rfl)))) pa_nil))))))) (pss_one (ps_ret (pe_tup (pa_cons (pv 7) (pa_cons (pv 6) pa_nil)))))) pss_nil) (pss_cons (ps_if (pt_cmpR op_eq (pv 0) pe_int (nomark _)) (pss_one (ps_ret (pe_tup (pa_cons (pe_lst (pa_cons (C8.pe_mt0 MR hr (by decide) (pv 1)) (pa_cons (C8.pe_mt0 MN hr (by decide) (pv 1)) pa_nil))) (pa_cons (pe_lst (pa_cons (pv 3) (pa_cons (pe_lc (own := [("_law_rule", 13)]) (g := gName 13) (tt := tYes) rfl scAsked.nd (pi_list (pv 3)) (blkOk_by (N := NAsked) (sc := defScope sAsked) (by decide +kernel)) (fun _ _ _ _ _ => pg_name (i := 13) scAsked.nd rfl (Or.inl rfl)) (fun _ _ _ _ _ => pts_nil) (fun _ _ _ _ _ => (pe_ix (r := rIxT K) ix_tup (pv 13) pe_int (fun _ _ => rfl)))) pa_nil))) pa_nil))))) pss_nil) (pss_cons (ps_if (pt_cmpR op_eq (pv 0) pe_int (nomark _)) (pss_cons (ps_setLc (i := 7) (own := [("_law_rule", 13)]) (g := gName 13) (tt := tYes) rfl scAsked.nd rfl rfl (sw_true rfl rfl rfl (by decide +kernel)) (pi_list (pv 3)) (blkOk_by (N := NAsked) (sc := defScope sAsked) (by decide +kernel)) (fun _ _ _ _ _ => pg_name (i := 13) scAsked.nd rfl (Or.inl rfl)) (fun _ _ _ _ _ => pts_nil) (fun _ _ _ _ _ => (pe_lst (pa_cons (C8.pe_mt MO hr (by decide) (pv 1) (pa_cons (pe_ix (r := rIxT K) ix_tup (pv 13) pe_int (fun _ _ => rfl)) pa_nil)) (pa_cons (C8.pe_mt MK hr (by decide) (pv 1) (pa_cons (pe_ix (r := rIxT K) ix_tup (pv 13) pe_int (fun _ _ => rfl)) pa_nil)) pa_nil))))) (pss_one (ps_ret (pe_tup (pa_cons (pv 7) (pa_cons (pe_lc (own := [("_law_at", 14), ("_law_rule", 13)]) (g := gTup K 2 (gCons (gName 14) (gCons (gName 13) gNil))) (tt := tYes) rfl scAsked.nd (pi_enum (by rfl) men (pa_cons (pv 3) pa_nil)) (blkOk_by (N := NAsked) (sc := defScope sAsked) (by decide +kernel)) (fun _ _ _ _ _ => pg_tup rfl (pgs_cons (pg_name (i := 14) scAsked.nd rfl (.inl rfl)) (pgs_cons (pg_name (i := 13) scAsked.nd rfl (.inl rfl)) pgs_nil))) (fun _ _ _ _ _ => pts_nil) (fun _ _ _ _ _ => (pe_lst (pa_cons (pv 13) (pa_cons (pv 14) pa_nil))))) pa_nil)))))) pss_nil) (pss_one (ps_ret (pe_tup (pa_cons (pe_lc (own := [("_law_table", 5)]) (g := gName 5) (tt := tYes) rfl scAsked.nd (pi_list (pv 4)) (blkOk_by (N := NAsked) (sc := defScope sAsked) (by decide +kernel)) (fun _ _ _ _ _ => pg_name (i := 5) scAsked.nd rfl (Or.inl rfl)) (fun _ _ _ _ _ => pts_nil) (fun _ _ _ _ _ => (C8.pe_mt MZ hr (by decide) (pv 1) (pa_cons (pv 5) pa_nil)))) (pa_cons (pe_lc (own := [("_law_table", 5)]) (g := gName 5) (tt := tYes) rfl scAsked.nd (pi_list (pv 4)) (blkOk_by (N := NAsked) (sc := defScope sAsked) (by decide +kernel)) (fun _ _ _ _ _ => pg_name (i := 5) scAsked.nd rfl (Or.inl rfl)) (fun _ _ _ _ _ => pts_nil) (fun _ _ _ _ _ => (pe_call G45 (hr.mono (by decide)) (by rfl) m45 k45 b45 .nil pass0 (pa_cons (pe_dget (hu_of hr) (pv 2) (pv 5) (fun _ _ => rfl)) pa_nil)))) pa_nil)))))))))))))), ?_⟩
  have dTx := dT.exist
  obtain ⟨_, kvs, e1, eT, nT, kT, ndT, fewT, dTs⟩ := dTx.dctI
  cases e1
  refine ⟨_, rfl, T, kvs, tabs.map (·.1), rfl, .inl eT, kT, fewT, fun ys p4 perm srt np4 => ?_⟩
  obtain rfl : ys = sortT (tabs.map (·.1)) := sort_eq perm srt
  obtain ⟨names, enames⟩ : ∃ l, l = sortT (tabs.map (·.1)) := ⟨_, rfl⟩
  rw [← enames]
  have s1 : Same H (upd H p4 (.lst (names.map V.str))) := same_new np4 _
  have hp4 : (upd H p4 (.lst (names.map V.str))) p4 = some (.lst (names.map V.str)) := upd_same
  generalize (upd H p4 (.lst (names.map V.str))) = H1 at s1 hp4 ⊢
  have l3 : names.length ≤ 3 := by
    have h := ok.tab.few
    rw [enames, sortT_len, List.length_map]
    exact h
  have l6 := ok.few
  have nameOk : ∀ z ∈ names, NameOk z := fun z hz => by
    rw [enames] at hz
    exact ok.tab.names z (sortT_mem.mp hz)
  have tabIn : ∀ {i : Nat} {z : Str}, names[i]? = some z → ∃ fs, (z, fs) ∈ tabs ∧ tabOf tabs z = fs ∧ FldsOk (tabs.map (·.1)) fs := fun {i z} hz => by
    have m := List.mem_of_getElem? hz
    rw [enames] at m
    obtain ⟨fs, e, mm⟩ := tabAt_mem (sortT_mem.mp m)
    exact ⟨fs, mm, tabOf_at e, ok.tab.val _ mm⟩
  have xAt : ∀ {Hx : Hp}, Same H1 Hx → SchAt C Hx A s tabs rs := fun sx => x.mono fun a o _ h => sx _ _ (s1 _ _ h)
  obtain ⟨dx, sT, sR, es, _, _⟩ := sch_fields x
  have esAt : ∀ {Hx : Hp}, Same H1 Hx → Hx s = some (.ins C dx [("_tables", .ref sT), ("_rules", .ref sR)]) := fun sx => sx _ _ (s1 _ _ es)
  -- a table of those that are handed in
  have fldsAt : ∀ {Hx : Hp} {z : Str} {fs : Flds}, Same H1 Hx → (z, fs) ∈ tabs → ∃ fa, DGet Hx T (.str z) (some (.ref fa)) ∧ DT Hx (fun a => B a ∧ H a ≠ none) (.ref fa) (fieldsT fs) := fun sx m => tab_get ((dTx.same s1).same sx) ok.tab.nd m
  have newOk : ∀ {Hx : Hp} {L : List Addr}, Same H1 Hx → (∀ c ∈ L, H1 c = none) → ∀ c ∈ L, H c = none := fun _ h c hc => s1.free (h c hc)
  have sqP : ∀ {Hx : Hp}, Same H1 Hx → SqL K Hx p4 (names.map V.str) := fun sx => .inl (.inl (sx _ _ hp4))
  obtain rfl | rfl | rfl | rfl | rfl | rfl | rfl | rfl : k = 0 ∨ k = 1 ∨ k = 2 ∨ k = 3 ∨ k = 4 ∨ k = 5 ∨ k = 6 ∨ k = 7 := by omega
  · -- 0: the names
    refine ⟨_, rfl, rfl, _, rfl, tt_if (by decide +kernel) ?_⟩
    refine ⟨_, rfl, s, dx, _, rfl, esAt (fun _ _ h => h), rfl, s, tabs, rs, A, rfl, xAt (fun _ _ h => h), fun p5 H2 s2 np5 hp5 => ?_⟩
    rw [← enames] at hp5
    refine ⟨_, rfl, small (by show 2 ≤ 1000; decide), fun t nt => q t (.ref p5) (.ref p4) _ ((s1.trans s2).trans (same_new nt _)) upd_same ⟨.lst (names.map Tr.str), [p5], p5, p4, fun _ => True, rfl, rfl, ?_, List.nodup_cons.mpr ⟨(fun h => nomatch h), List.nodup_nil⟩, ?_, ?_, ?_, ?_, few_strs _ (by omega)⟩⟩
    · exact .lst (same_new nt _ _ _ hp5) (DLs.ofStrs _)
    · intro c hc
      rw [List.mem_singleton.mp hc]
      exact s1.free np5
    · exact .lst (same_new nt _ _ _ (s2 _ _ hp4)) trivial (DTs.ofStrs _)
    · exact (Pl.strs nameOk).shw.le (by decide) (by omega)
    · exact Nat.le_trans (depth_strs names) (by decide)
  · -- 1: the fields
    refine ⟨_, rfl, rfl, _, rfl, ff_if (by decide +kernel) ⟨_, rfl, rfl, _, rfl, tt_if (by decide +kernel) ?_⟩⟩
    obtain ⟨ts, ets⟩ : ∃ ts : List Tr, ts = names.map fun z => fieldsT (ordF (tabOf tabs z)) := ⟨_, rfl⟩
    have lts : ts.length = names.length := by rw [ets, List.length_map]
    refine ⟨_, rfl, p4, rfl, ⟨_, sqP (fun _ _ h => h)⟩, fun D1 nD1 => ?_⟩
    refine lc_list (K := K) (a := p4) (xs := names.map V.str) (CopL H1 D1 ts) (CopL.zero nD1) (fun i Hx _ p => sqP p.1) ?_ ?_
    · intro i y Hx hy p
      obtain ⟨z, hz, rfl⟩ := map_get hy
      obtain ⟨fs, m, et, okf⟩ := tabIn hz
      refine ⟨rfl, yes_if ⟨_, rfl, s, dx, _, rfl, esAt p.1, rfl, _, rfl, s, tabs, rs, z, fs, A, rfl, xAt p.1, ok.tab, m, fun v L H' s' dl nd new => ?_⟩⟩
      refine p.go nD1 (t := fieldsT (ordF fs)) (by rw [ets, List.getElem?_map, hz, ← et]; rfl) (by omega) s' dl nd new
    intro Hx p
    rw [List.length_map] at p
    obtain ⟨L1, acc1, s2, hD1, dl1, nd1, new1⟩ := p.last (Nat.le_of_eq lts) nD1
    refine ⟨_, rfl, p4, rfl, ⟨_, sqP s2⟩, fun D2 nD2 => ?_⟩
    refine lc_list (K := K) (a := p4) (xs := names.map V.str) (CopT Hx D2 ts) (CopT.zero nD2) (fun i Hy _ p => sqP (s2.trans p.1)) ?_ ?_
    · intro i y Hy hy p
      obtain ⟨z, hz, rfl⟩ := map_get hy
      obtain ⟨fs, m, et, okf⟩ := tabIn hz
      obtain ⟨fa, dg, df⟩ := fldsAt (s2.trans p.1) m
      have nD0 : H D2 = none := s1.free (s2.free nD2)
      refine ⟨rfl, yes_if ⟨_, rfl, .str z, rfl, T, .ref fa, rfl, dg, fa, fs, _, _, rfl, df, okf, fun p5 H' s' np5 d' => ?_⟩⟩
      refine p.go nD2 (t := fieldsT (ordF fs)) (by rw [ets, List.getElem?_map, hz, ← et]; rfl) (by omega) s' (d'.sub fun c hc n => ?_)
      rcases hc with hc | hc
      · exact hc.1.2 (by rw [n]; exact nD0)
      · obtain ⟨acc, hD, _⟩ := p.2
        rw [n, hD] at hc
        cases hc
    intro Hy p
    rw [List.length_map] at p
    obtain ⟨s3, acc2, hD2, dd2⟩ := p.last (Nat.le_of_eq lts)
    refine ⟨small (by show 2 ≤ 1000; decide), fun t nt => q t (.ref D1) (.ref D2) _ (((s1.trans s2).trans s3).trans (same_new nt _)) upd_same ⟨.lst ts, D1 :: L1, D1, D2, _, rfl, rfl, (DL.lst hD1 dl1).same (s3.trans (same_new nt _)), nd1, newOk s2 new1, .lst (A := fun _ => True) (same_new nt _ _ _ hD2) trivial ((dd2.sub fun _ _ => trivial).same (same_new nt _)), ?_, ?_, ?_⟩⟩
    · refine (Shw.lstT (n := 3) (m := 2500) fun t ht => ?_).le (by decide) (by omega)
      rw [ets] at ht
      obtain ⟨z, hz, rfl⟩ := List.mem_map.mp ht
      obtain ⟨i, hi⟩ := List.mem_iff_getElem?.mp hz
      obtain ⟨fs, m, et, okf⟩ := tabIn hi
      rw [et]
      exact fields_shw ok.tab.names (ordF_names okf).1 (ordF_names okf).2 (ordF_val okf.val)
    · refine Nat.le_trans (depth_lst (n := 3) fun t ht => ?_) (by decide)
      rw [ets] at ht
      obtain ⟨z, hz, rfl⟩ := List.mem_map.mp ht
      exact fields_depth _
    · refine few_lst (by omega) fun t ht => ?_
      rw [ets] at ht
      obtain ⟨z, hz, rfl⟩ := List.mem_map.mp ht
      obtain ⟨i, hi⟩ := List.mem_iff_getElem?.mp hz
      obtain ⟨fs, m, et, okf⟩ := tabIn hi
      rw [et]
      exact ordF_few okf.val
  · -- 2: marks, links, tags
    refine ⟨_, rfl, rfl, _, rfl, ff_if (by decide +kernel) ⟨_, rfl, rfl, _, rfl, ff_if (by decide +kernel) ⟨_, rfl, rfl, _, rfl, tt_if (by decide +kernel) ?_⟩⟩⟩
    obtain ⟨ts, ets⟩ : ∃ ts : List Tr, ts = names.map fun z => Tr.lst (like3 (tabOf tabs z)) := ⟨_, rfl⟩
    have lts : ts.length = names.length := by rw [ets, List.length_map]
    refine ⟨_, rfl, p4, rfl, ⟨_, sqP (fun _ _ h => h)⟩, fun D2 nD2 => ?_⟩
    refine lc_list (K := K) (a := p4) (xs := names.map V.str) (CopT H1 D2 ts) (CopT.zero nD2) (fun i Hy _ p => sqP p.1) ?_ ?_
    · intro i y Hy hy p
      obtain ⟨z, hz, rfl⟩ := map_get hy
      obtain ⟨fs, m, et, okf⟩ := tabIn hz
      refine ⟨rfl, yes_if ⟨small (by show 3 ≤ 1000; decide), fun tp ntp => ?_⟩⟩
      have s3 : Same Hy (upd Hy tp (.tup [.str "mark", .str "link", .str "tag"])) := same_new ntp _
      have htp : (upd Hy tp (.tup [.str "mark", .str "link", .str "tag"])) tp = some (.tup (sorts3.map V.str)) := upd_same
      generalize (upd Hy tp (.tup [.str "mark", .str "link", .str "tag"])) = H4 at s3 htp ⊢
      refine ⟨tp, rfl, ⟨_, .inl (.inl htp)⟩, fun D3 nD3 => ?_⟩
      have hD2 : ∃ acc, Hy D2 = some (.lst acc) := by obtain ⟨_, acc, h, _⟩ := p; exact ⟨acc, h⟩
      obtain ⟨acc0, hD2⟩ := hD2
      refine lc_tup (K := K) (a := tp) (xs := sorts3.map V.str) (CopU (· ≠ D2) H4 D3 (like3 fs)) (CopU.zero nD3) (fun j Hz _ p => .inl (.inl (p.1 _ _ htp))) ?_ ?_
      · intro j y2 Hz hy2 p2
        obtain ⟨so, hso, rfl⟩ := map_get hy2
        obtain ⟨fa, dg, df⟩ := fldsAt ((p.1.trans s3).trans p2.1) m
        refine ⟨rfl, yes_if ⟨_, rfl, .str z, rfl, T, .ref fa, rfl, dg, _, rfl, fa, fs, _, so, rfl, df, fun p5 H' s' np5 hp5 => ?_⟩⟩
        refine p2.go nD3 (t := .lst ((likeT fs so).map Tr.str)) (by unfold like3; rw [List.getElem?_map, hso]; rfl) (by unfold like3 sorts3; simp) s' (.lst hp5 ⟨fun n => ?_, fun n => ?_⟩ (DTs.ofStrs _))
        · obtain ⟨acc, hD, _⟩ := p2.2
          rw [n, hD] at np5
          cases np5
        · rw [n, p2.1 _ _ (s3 _ _ hD2)] at np5
          cases np5
      · intro Hz p2
        rw [List.length_map] at p2
        obtain ⟨s5, acc, hD3, dd⟩ := p2.last (by unfold like3; rw [List.length_map]; exact Nat.le_refl _)
        refine p.go nD2 (t := .lst (like3 fs)) (by rw [ets, List.getElem?_map, hz, ← et]; rfl) (by omega) (s3.trans s5) (.lst hD3 (fun n => ?_) (dd.sub fun c h => h.2))
        rw [n, s3 _ _ hD2] at nD3
        cases nD3
    intro Hx p
    rw [List.length_map] at p
    obtain ⟨s2, acc2, hD2, dd2⟩ := p.last (Nat.le_of_eq lts)
    refine ⟨_, rfl, p4, rfl, ⟨_, sqP s2⟩, fun D1 nD1 => ?_⟩
    refine lc_list (K := K) (a := p4) (xs := names.map V.str) (CopL Hx D1 ts) (CopL.zero nD1) (fun i Hy _ p => sqP (s2.trans p.1)) ?_ ?_
    · intro i y Hy hy p
      obtain ⟨z, hz, rfl⟩ := map_get hy
      obtain ⟨fs, m, et, okf⟩ := tabIn hz
      have sy := s2.trans p.1
      refine ⟨rfl, yes_if ⟨_, rfl, s, dx, _, rfl, esAt sy, rfl, _, rfl, s, tabs, rs, z, fs, A, rfl, xAt sy, ok.tab, m, fun pa Ha sa npa hpa => ?_⟩⟩
      refine ⟨_, rfl, s, dx, _, rfl, esAt (sy.trans sa), rfl, _, rfl, s, tabs, rs, z, fs, A, rfl, xAt (sy.trans sa), ok.tab, m, fun pb Hb sb npb hpb => ?_⟩
      refine ⟨_, rfl, s, dx, _, rfl, esAt ((sy.trans sa).trans sb), rfl, _, rfl, s, tabs, rs, z, fs, A, rfl, xAt ((sy.trans sa).trans sb), ok.tab, m, fun pc Hc sc npc hpc => ?_⟩
      refine ⟨small (by show 3 ≤ 1000; decide), fun l nl => ?_⟩
      have sl : Same Hc (upd Hc l (.lst [.ref pa, .ref pb, .ref pc])) := same_new nl _
      have n1 : pa ≠ pb := fun n => by rw [← n, hpa] at npb; cases npb
      have n2 : pa ≠ pc := fun n => by rw [← n, sb _ _ hpa] at npc; cases npc
      have n3 : pb ≠ pc := fun n => by rw [← n, hpb] at npc; cases npc
      have n4 : l ≠ pa := fun n => by rw [n, sc _ _ (sb _ _ hpa)] at nl; cases nl
      have n5 : l ≠ pb := fun n => by rw [n, sc _ _ hpb] at nl; cases nl
      have n6 : l ≠ pc := fun n => by rw [n, hpc] at nl; cases nl
      refine p.go nD1 (t := .lst (like3 fs)) (M := l :: ([pa] ++ ([pb] ++ ([pc] ++ [])))) (by rw [ets, List.getElem?_map, hz, ← et]; rfl) (by omega) (((sa.trans sb).trans sc).trans sl) (.lst upd_same (DLs.app (.lst (sl _ _ (sc _ _ (sb _ _ hpa))) (DLs.ofStrs _)) (DLs.app (.lst (sl _ _ (sc _ _ hpb)) (DLs.ofStrs _)) (DLs.app (.lst (sl _ _ hpc) (DLs.ofStrs _)) .nil)))) ?_ ?_
      · simp only [List.append_nil, List.singleton_append, List.nodup_cons, List.mem_cons, List.not_mem_nil, or_false, not_or, List.nodup_nil, and_true, not_false_eq_true]
        exact ⟨⟨n4, n5, n6⟩, ⟨n1, n2⟩, n3⟩
      · intro c hc
        have hc' : c = l ∨ c = pa ∨ c = pb ∨ c = pc := by simpa using hc
        rcases hc' with h | h | h | h
        · rw [h]; exact sa.free (sb.free (sc.free nl))
        · rw [h]; exact npa
        · rw [h]; exact sa.free npb
        · rw [h]; exact sa.free (sb.free npc)
    intro Hy p
    rw [List.length_map] at p
    obtain ⟨L1, acc1, s3, hD1, dl1, nd1, new1⟩ := p.last (Nat.le_of_eq lts) nD1
    refine ⟨_, rfl, small (by show 2 ≤ 1000; decide), fun t nt => q t (.ref D1) (.ref D2) _ (((s1.trans s2).trans s3).trans (same_new nt _)) upd_same ⟨.lst ts, D1 :: L1, D1, D2, _, rfl, rfl, (DL.lst hD1 dl1).same (same_new nt _), nd1, newOk s2 (fun c hc => s2.free (new1 c hc)), .lst (A := fun _ => True) (same_new nt _ _ _ (s3 _ _ hD2)) trivial ((dd2.sub fun _ _ => trivial).same (s3.trans (same_new nt _))), ?_, ?_, ?_⟩⟩
    · refine (Shw.lstT (n := 4) (m := 300) fun t ht => ?_).le (by decide) (by omega)
      rw [ets] at ht
      obtain ⟨z, hz, rfl⟩ := List.mem_map.mp ht
      obtain ⟨i, hi⟩ := List.mem_iff_getElem?.mp hz
      obtain ⟨fs, m, et, okf⟩ := tabIn hi
      rw [et]
      refine (Shw.lstT (ts := like3 fs) (n := 1) (m := 54) fun t ht => ?_).le (by decide) (by show 3 * 55 ≤ 300; decide)
      unfold like3 at ht
      obtain ⟨so, _, rfl⟩ := List.mem_map.mp ht
      have ln := like_names okf so
      exact (Pl.strs ln.1).shw.le (by decide) (by omega)
    · refine Nat.le_trans (depth_lst (n := 2) fun t ht => ?_) (by decide)
      rw [ets] at ht
      obtain ⟨z, hz, rfl⟩ := List.mem_map.mp ht
      refine depth_lst (n := 1) fun t ht => ?_
      unfold like3 at ht
      obtain ⟨so, _, rfl⟩ := List.mem_map.mp ht
      exact depth_strs _
    · refine few_lst (by omega) fun t ht => ?_
      rw [ets] at ht
      obtain ⟨z, hz, rfl⟩ := List.mem_map.mp ht
      obtain ⟨i, hi⟩ := List.mem_iff_getElem?.mp hz
      obtain ⟨fs, m, et, okf⟩ := tabIn hi
      rw [et]
      refine few_lst (by show 3 ≤ 1000; decide) fun t ht => ?_
      unfold like3 at ht
      obtain ⟨so, _, rfl⟩ := List.mem_map.mp ht
      have ln := like_names okf so
      exact few_strs _ (by omega)
  · -- 3: the words
    refine ⟨_, rfl, rfl, _, rfl, ff_if (by decide +kernel) ⟨_, rfl, rfl, _, rfl, ff_if (by decide +kernel) ⟨_, rfl, rfl, _, rfl, ff_if (by decide +kernel) ⟨small (by show 0 ≤ 1000; decide), fun F nF => ⟨small (by show 0 ≤ 1000; decide), fun G nG0 => ⟨_, _, rfl, ?_⟩⟩⟩⟩⟩⟩
    have s2 : Same H1 (upd (upd H1 F (.lst [])) G (.lst [])) := (same_new nF _).trans (same_new nG0 _)
    have hG : (upd (upd H1 F (.lst [])) G (.lst [])) G = some (.lst []) := upd_same
    have nFG : F ≠ G := ne_of_none upd_same nG0
    have hF : (upd (upd H1 F (.lst [])) G (.lst [])) F = some (.lst []) := by rw [upd_ne nFG]; exact upd_same
    have nG : H1 G = none := (same_new nF (.lst [])).free nG0
    generalize (upd (upd H1 F (.lst [])) G (.lst [])) = H2 at s2 hF hG ⊢
    clear nG0
    refine ⟨_, rfl, rfl, _, rfl, tt_if (by decide +kernel) ?_⟩
    obtain ⟨ts, ets⟩ : ∃ ts : List Tr, ts = names.map fun z => Tr.lst (marksW (tabOf tabs z)) := ⟨_, rfl⟩
    have lts : ts.length = names.length := by rw [ets, List.length_map]
    refine ⟨_, rfl, p4, rfl, ⟨_, sqP s2⟩, ?_⟩
    refine for_list (K := K) (a := p4) (xs := names.map V.str) (fun i σ Hx => (∃ o5 o8, σ = [some (.int (3 : Nat)), some (.ref s), some (.ref T), some (.ref R), some (.ref p4), o5, some (.ref G), some (.ref F), o8, none, none, none, none, none, none]) ∧ Same H1 Hx ∧
        (∃ L acc, Hx F = some (.lst acc) ∧ acc.length = i ∧ DLs Hx L acc (ts.take i) ∧ L.Nodup ∧ (∀ a ∈ L, H1 a = none) ∧ F ∉ L ∧ G ∉ L) ∧ ∃ acc2, Hx G = some (.lst acc2) ∧ acc2.length = i ∧ DTs Hx (fun c => c ≠ F ∧ c ≠ G) acc2 (ts.take i))
      ⟨⟨_, _, rfl⟩, s2, ⟨[], [], hF, rfl, .nil, List.nodup_nil, (fun _ h => nomatch h), (fun h => nomatch h), (fun h => nomatch h)⟩, [], hG, rfl, .nil⟩ (fun i σ Hx _ p => sqP p.2.1) ?_ ?_
    · rintro i y σ Hx hy ⟨⟨o5, o8, rfl⟩, s3, ⟨L, acc, hF3, la, dl, ndL, newL, nFL, nGL⟩, acc2, hG3, la2, dd⟩
      obtain ⟨z, hz, rfl⟩ := map_get hy
      obtain ⟨fs, m, et, okf⟩ := tabIn hz
      have il : i < ts.length := by rw [lts]; exact (List.getElem?_eq_some_iff.mp hz).1
      have tsi : ts[i]? = some (.lst (marksW fs)) := by rw [ets, List.getElem?_map, hz, ← et]; rfl
      have e1 : ts.take (i + 1) = ts.take i ++ [.lst (marksW fs)] := by
        rw [List.take_add_one, tsi]
        rfl
      obtain ⟨fa, dg, df⟩ := fldsAt s3 m
      refine ⟨_, rfl, .str z, rfl, T, .ref fa, rfl, dg, fa, fs, _, "mark", rfl, df, fun pm Hm sm npm hpm => ?_⟩
      have lm := (like_names okf "mark").2
      have s4 := s3.trans sm
      have wordsIn : ∀ {j : Nat} {mn : Str}, (likeT fs "mark")[j]? = some mn → ∃ ws, (mn, Fld.mk ws) ∈ fs ∧ atF fs mn = .mk ws ∧ ws.length ≤ 4 ∧ (marksW fs)[j]? = some (.lst ((sortT ws).map Tr.str)) := fun {j mn} hmn => by
        obtain ⟨fl, efl, mfl, esrt⟩ := like_mem (List.mem_of_getElem? hmn)
        cases fl with
        | lk n => exact absurd (show ("link" : Str) = "mark" from esrt) (by decide +kernel)
        | tg => exact absurd (show ("tag" : Str) = "mark" from esrt) (by decide +kernel)
        | mk ws =>
          have eat : atF fs mn = .mk ws := by unfold atF; rw [efl]; rfl
          refine ⟨ws, mfl, eat, ?_, ?_⟩
          · cases okf.val _ mfl with
            | mk c dn few nd => exact few
          · unfold marksW
            rw [List.getElem?_map, hmn]
            show some (Tr.lst ((sortT (wordsF (atF fs mn))).map Tr.str)) = _
            rw [eat]
            rfl
      have lmw : (marksW fs).length = (likeT fs "mark").length := by unfold marksW; rw [List.length_map]
      -- what is found
      refine ⟨_, rfl, .inl ⟨rfl, _, .inl (.inl (sm _ _ hF3))⟩, _, rfl, pm, rfl, ⟨_, .inl (.inl hpm)⟩, fun D3 nD3 => ?_⟩
      refine lc_list (K := K) (a := pm) (xs := (likeT fs "mark").map V.str) (CopL Hm D3 (marksW fs)) (CopL.zero nD3) (fun j Hz _ p => .inl (.inl (p.1 _ _ hpm))) ?_ ?_
      · intro j y2 Hz hy2 p2
        obtain ⟨mn, hmn, rfl⟩ := map_get hy2
        obtain ⟨ws, mfl, eat, fw, emw⟩ := wordsIn hmn
        have s5 := s4.trans p2.1
        refine ⟨rfl, yes_if ⟨_, rfl, s, dx, _, rfl, esAt s5, rfl, _, rfl, _, rfl, s, tabs, rs, z, mn, fs, ws, A, rfl, xAt s5, ok.tab, m, mfl, fun pw Hw sw npw hpw => ?_⟩⟩
        exact p2.go nD3 emw (by omega) sw (.lst hpw (DLs.ofStrs _)) (List.nodup_cons.mpr ⟨(fun h => nomatch h), List.nodup_nil⟩) (fun c hc => by rw [List.mem_singleton.mp hc]; exact npw)
      intro Hz p2
      rw [List.length_map] at p2
      obtain ⟨L3, acc3, s6, hD3, dl3, nd3, new3⟩ := p2.last (by rw [lmw]; exact Nat.le_refl _) nD3
      have s46 := s4.trans s6
      have hF6 := s6 _ _ (sm _ _ hF3)
      have hG6 := s6 _ _ (sm _ _ hG3)
      have nF3 : F ∉ D3 :: L3 := fun h => by
        have h1 := new3 _ h
        rw [sm _ _ hF3] at h1
        cases h1
      have nG3 : G ∉ D3 :: L3 := fun h => by
        have h1 := new3 _ h
        rw [sm _ _ hG3] at h1
        cases h1
      refine ⟨F, acc, .ref D3, rfl, rfl, hF6, small1000 (by omega), ?_⟩
      have dlN : DLs (upd Hz F (.lst (acc ++ [.ref D3]))) (L ++ (D3 :: L3)) (acc ++ [.ref D3]) (ts.take (i + 1)) := by
        rw [e1]
        refine DLs.keep ((dl.same (sm.trans s6)).snoc (.lst hD3 dl3)) fun c hc o e => ?_
        rw [upd_ne (fun n => ?_)]
        · exact e
        · rw [n] at hc
          rcases List.mem_append.mp hc with h | h
          · exact nFL h
          · exact nF3 h
      have ndN : (L ++ (D3 :: L3)).Nodup := nodup_new ndL nd3 (dl.same sm).there new3
      have newN : ∀ a ∈ L ++ (D3 :: L3), H1 a = none := fun a ha => (List.mem_append.mp ha).elim (newL a) fun h => s4.free (new3 a h)
      have nFN : F ∉ L ++ (D3 :: L3) := fun h => (List.mem_append.mp h).elim nFL nF3
      have nGN : G ∉ L ++ (D3 :: L3) := fun h => (List.mem_append.mp h).elim nGL nG3
      have s7 : Same H1 (upd Hz F (.lst (acc ++ [.ref D3]))) := Same.put s46 nF
      have hF7 : (upd Hz F (.lst (acc ++ [.ref D3]))) F = some (.lst (acc ++ [.ref D3])) := upd_same
      have hG7 : (upd Hz F (.lst (acc ++ [.ref D3]))) G = some (.lst acc2) := by rw [upd_ne nFG.symm]; exact hG6
      have hpm7 : (upd Hz F (.lst (acc ++ [.ref D3]))) pm = some (.lst ((likeT fs "mark").map V.str)) := by
        rw [upd_ne (fun n => by rw [n, hF3] at npm; cases npm)]
        exact s6 _ _ hpm
      have dd7 : DTs (upd Hz F (.lst (acc ++ [.ref D3]))) (fun c => c ≠ F ∧ c ≠ G) acc2 (ts.take i) := DTs.mono (fun c u hc eu => by rw [upd_ne hc.1]; exact eu) (dd.same (sm.trans s6))
      generalize (upd Hz F (.lst (acc ++ [.ref D3]))) = H7 at dlN s7 hF7 hG7 hpm7 dd7 ⊢
      -- what is due
      refine ⟨_, rfl, .inl ⟨rfl, _, .inl (.inl hG7)⟩, _, rfl, pm, rfl, ⟨_, .inl (.inl hpm7)⟩, fun D4 nD4 => ?_⟩
      refine lc_list (K := K) (a := pm) (xs := (likeT fs "mark").map V.str) (CopU (fun c => c ≠ F ∧ c ≠ G) H7 D4 (marksW fs)) (CopU.zero nD4) (fun j Hz _ p => .inl (.inl (p.1 _ _ hpm7))) ?_ ?_
      · intro j y2 Hz2 hy2 p2
        obtain ⟨mn, hmn, rfl⟩ := map_get hy2
        obtain ⟨ws, mfl, eat, fw, emw⟩ := wordsIn hmn
        have s8 := s7.trans p2.1
        obtain ⟨fa2, dg2, df2⟩ := fldsAt s8 m
        obtain ⟨vf, dg3, dvf⟩ := fld_get df2 okf.nd mfl
        obtain ⟨ta, xs, rfl, hta, _, ddd⟩ := dvf.tupI
        cases ddd with
        | cons q1 r1 =>
          cases r1 with
          | cons q2 r2 =>
            cases r2
            cases q1
            obtain ⟨lw, yw, rfl, hlw, _, zz⟩ := q2.lstI
            rw [DTs.strs zz] at hlw
            refine ⟨rfl, yes_if ⟨_, rfl, .str z, rfl, T, .ref fa2, rfl, dg2, .str mn, rfl, fa2, .ref ta, rfl, dg3, ta, _, 1, .ref lw, rfl, rfl, .inl (.inl hta), atI_nat (j := 1) rfl, lw, ws, rfl, .inl (.inl hlw), by omega, fun ys2 pw pm2 srt2 npw => ?_⟩⟩
            obtain rfl : ys2 = sortT ws := sort_eq pm2 srt2
            obtain ⟨accD, hDD, _⟩ := p2.2
            exact p2.go nD4 emw (by omega) (same_new npw _) (.lst upd_same ⟨(fun n => by rw [n, hDD] at npw; cases npw), (fun n => by rw [n, p2.1 _ _ hF7] at npw; cases npw), (fun n => by rw [n, p2.1 _ _ hG7] at npw; cases npw)⟩ (DTs.ofStrs _))
      intro Hz2 p2
      rw [List.length_map] at p2
      obtain ⟨s8, acc4, hD4, dd4⟩ := p2.last (by rw [lmw]; exact Nat.le_refl _)
      refine ⟨G, acc2, .ref D4, rfl, rfl, s8 _ _ hG7, small1000 (by omega), ⟨_, _, rfl⟩, Same.put (s7.trans s8) nG, ⟨L ++ (D3 :: L3), acc ++ [.ref D3], by rw [upd_ne nFG]; exact s8 _ _ hF7, by rw [List.length_append, la]; rfl, ?_, ndN, newN, nFN, nGN⟩, acc2 ++ [.ref D4], upd_same, by rw [List.length_append, la2]; rfl, ?_⟩
      · exact (dlN.same s8).keep fun c hc o e => by
          rw [upd_ne (fun n => nGN (by rw [← n]; exact hc))]
          exact e
      · rw [e1]
        refine DTs.mono (fun c u hc eu => by rw [upd_ne hc.2]; exact eu) ((dd7.same s8).snoc (.lst hD4 ⟨fun n => ?_, fun n => ?_⟩ (dd4.sub fun c h => h.2)))
        · rw [n, hF7] at nD4; cases nD4
        · rw [n, hG7] at nD4; cases nD4
    · rintro σ Hx ⟨⟨o5, o8, rfl⟩, s3, ⟨L, acc, hF3, la, dl, ndL, newL, nFL, nGL⟩, acc2, hG3, la2, dd⟩
      rw [List.length_map, ← lts, List.take_length] at dl dd
      refine ⟨_, rfl, _, rfl, small (by show 2 ≤ 1000; decide), fun t nt => q t (.ref F) (.ref G) _ ((s1.trans s3).trans (same_new nt _)) upd_same ⟨.lst ts, F :: L, F, G, _, rfl, rfl, (DL.lst hF3 dl).same (same_new nt _), List.nodup_cons.mpr ⟨nFL, ndL⟩, ?_, .lst (A := fun _ => True) (same_new nt _ _ _ hG3) trivial ((dd.sub fun _ _ => trivial).same (same_new nt _)), ?_, ?_, ?_⟩⟩
      · intro c hc
        rcases List.mem_cons.mp hc with h | h
        · rw [h]; exact s1.free nF
        · exact s1.free (newL c h)
      · refine (Shw.lstT (n := 4) (m := 300) fun t ht => ?_).le (by decide) (by omega)
        rw [ets] at ht
        obtain ⟨z, hz, rfl⟩ := List.mem_map.mp ht
        obtain ⟨i, hi⟩ := List.mem_iff_getElem?.mp hz
        obtain ⟨fs, m, et, okf⟩ := tabIn hi
        rw [et]
        have lm := (like_names okf "mark").2
        have lmw : (marksW fs).length = (likeT fs "mark").length := by unfold marksW; rw [List.length_map]
        refine (Shw.lstT (ts := marksW fs) (n := 1) (m := 36) fun t ht => ?_).le (by decide) (by omega)
        unfold marksW at ht
        obtain ⟨mn, hmn, rfl⟩ := List.mem_map.mp ht
        obtain ⟨fl, efl, mfl, _⟩ := like_mem hmn
        have eat : atF fs mn = fl := by unfold atF; rw [efl]; rfl
        rw [eat]
        cases okf.val _ mfl with
        | mk c d few nd => exact (Pl.strs (ws := sortT _) fun z hz => d z (sortT_mem.mp hz)).shw.le (by decide) (by show (sortT _).length * 9 ≤ 36; rw [sortT_len]; omega)
        | lk _ => exact (Pl.strs (ws := sortT []) fun z hz => by cases sortT_mem.mp hz).shw.le (by decide) (by rw [sortT_len]; decide)
        | tg => exact (Pl.strs (ws := sortT []) fun z hz => by cases sortT_mem.mp hz).shw.le (by decide) (by rw [sortT_len]; decide)
      · refine Nat.le_trans (depth_lst (n := 2) fun t ht => ?_) (by decide)
        rw [ets] at ht
        obtain ⟨z, hz, rfl⟩ := List.mem_map.mp ht
        refine depth_lst (n := 1) fun t ht => ?_
        unfold marksW at ht
        obtain ⟨mn, _, rfl⟩ := List.mem_map.mp ht
        exact depth_strs _
      · refine few_lst (by omega) fun t ht => ?_
        rw [ets] at ht
        obtain ⟨z, hz, rfl⟩ := List.mem_map.mp ht
        obtain ⟨i, hi⟩ := List.mem_iff_getElem?.mp hz
        obtain ⟨fs, m, et, okf⟩ := tabIn hi
        rw [et]
        have lm := (like_names okf "mark").2
        have lmw : (marksW fs).length = (likeT fs "mark").length := by unfold marksW; rw [List.length_map]
        refine few_lst (by omega) fun t ht => ?_
        unfold marksW at ht
        obtain ⟨mn, hmn, rfl⟩ := List.mem_map.mp ht
        obtain ⟨fl, efl, mfl, _⟩ := like_mem hmn
        have eat : atF fs mn = fl := by unfold atF; rw [efl]; rfl
        rw [eat]
        cases okf.val _ mfl with
        | mk c d few nd => exact few_strs _ (by rw [sortT_len]; exact Nat.le_trans few (by decide))
        | lk _ => exact few_strs _ (by rw [sortT_len]; exact Nat.zero_le _)
        | tg => exact few_strs _ (by rw [sortT_len]; exact Nat.zero_le _)
  · -- 4: where links lead
    refine ⟨_, rfl, rfl, _, rfl, ff_if (by decide +kernel) ⟨_, rfl, rfl, _, rfl, ff_if (by decide +kernel) ⟨_, rfl, rfl, _, rfl, ff_if (by decide +kernel) ⟨small (by show 0 ≤ 1000; decide), fun F nF => ⟨small (by show 0 ≤ 1000; decide), fun G nG0 => ⟨_, _, rfl, ?_⟩⟩⟩⟩⟩⟩
    have s2 : Same H1 (upd (upd H1 F (.lst [])) G (.lst [])) := (same_new nF _).trans (same_new nG0 _)
    have hG : (upd (upd H1 F (.lst [])) G (.lst [])) G = some (.lst []) := upd_same
    have nFG : F ≠ G := ne_of_none upd_same nG0
    have hF : (upd (upd H1 F (.lst [])) G (.lst [])) F = some (.lst []) := by rw [upd_ne nFG]; exact upd_same
    have nG : H1 G = none := (same_new nF (.lst [])).free nG0
    generalize (upd (upd H1 F (.lst [])) G (.lst [])) = H2 at s2 hF hG ⊢
    clear nG0
    refine ⟨_, rfl, rfl, _, rfl, ff_if (by decide +kernel) ⟨_, rfl, rfl, _, rfl, tt_if (by decide +kernel) ?_⟩⟩
    obtain ⟨ld, eld⟩ : ∃ ld : List (List Str), ld = names.map fun z => leadsF (tabOf tabs z) := ⟨_, rfl⟩
    have lld : ld.length = names.length := by rw [eld, List.length_map]
    have ldFew : ∀ i, ((ld.take i).flatten).length ≤ 6 * i := fun i => by
      induction i with
      | zero => rw [List.take_zero]; exact Nat.le_refl _
      | succ i ih =>
        rw [List.take_add_one, List.flatten_append, List.length_append]
        cases e : ld[i]? with
        | none => show _ + 0 ≤ _; omega
        | some w =>
          show _ + (w ++ []).length ≤ _
          rw [eld, List.getElem?_map] at e
          obtain ⟨z, hz, rfl⟩ := Option.map_eq_some_iff.mp e
          obtain ⟨fs, m, et, okf⟩ := tabIn hz
          have h := (like_names okf "link").2
          rw [et]
          rw [List.append_nil]
          unfold leadsF
          rw [List.length_map]
          omega
    refine ⟨_, rfl, p4, rfl, ⟨_, sqP s2⟩, ?_⟩
    refine for_list (K := K) (a := p4) (xs := names.map V.str) (fun i σ Hx => (∃ o5 o9, σ = [some (.int (4 : Nat)), some (.ref s), some (.ref T), some (.ref R), some (.ref p4), o5, some (.ref G), some (.ref F), none, o9, none, none, none, none, none]) ∧ Same H1 Hx ∧ Hx F = some (.lst (((ld.take i).flatten).map V.str)) ∧ Hx G = some (.lst (((ld.take i).flatten).map V.str)))
      ⟨⟨_, _, rfl⟩, s2, hF, hG⟩ (fun i σ Hx _ p => sqP p.2.1) ?_ ?_
    · rintro i y σ Hx hy ⟨⟨o5, o9, rfl⟩, s3, hF3, hG3⟩
      obtain ⟨z, hz, rfl⟩ := map_get hy
      obtain ⟨fs, m, et, okf⟩ := tabIn hz
      have il : i < names.length := (List.getElem?_eq_some_iff.mp hz).1
      have ldi : ld[i]? = some (leadsF fs) := by rw [eld, List.getElem?_map, hz, ← et]; rfl
      have e1 : (ld.take (i + 1)).flatten = (ld.take i).flatten ++ leadsF fs := by
        rw [List.take_add_one, ldi, List.flatten_append]
        show _ ++ (leadsF fs ++ []) = _
        rw [List.append_nil]
      obtain ⟨fa, dg, df⟩ := fldsAt s3 m
      refine ⟨_, rfl, .str z, rfl, T, .ref fa, rfl, dg, fa, fs, _, "link", rfl, df, fun pm Hm sm npm hpm => ?_⟩
      have lm := (like_names okf "link").2
      have s4 := s3.trans sm
      have lf := ldFew i
      have linkIn : ∀ {j : Nat} {mn : Str}, (likeT fs "link")[j]? = some mn → ∃ n, (mn, Fld.lk n) ∈ fs ∧ (leadsF fs).take (j + 1) = (leadsF fs).take j ++ [n] := fun {j mn} hmn => by
        obtain ⟨fl, efl, mfl, esrt⟩ := like_mem (List.mem_of_getElem? hmn)
        cases fl with
        | mk ws => exact absurd (show ("mark" : Str) = "link" from esrt) (by decide +kernel)
        | tg => exact absurd (show ("tag" : Str) = "link" from esrt) (by decide +kernel)
        | lk n =>
          have eat : atF fs mn = .lk n := by unfold atF; rw [efl]; rfl
          refine ⟨n, mfl, ?_⟩
          rw [List.take_add_one]
          congr 1
          unfold leadsF
          rw [List.getElem?_map, hmn]
          show (some (leadF (atF fs mn))).toList = [n]
          rw [eat]
          rfl
      have lml : (leadsF fs).length = (likeT fs "link").length := by unfold leadsF; rw [List.length_map]
      refine ⟨_, rfl, .inl ⟨rfl, _, .inl (.inl (sm _ _ hF3))⟩, _, rfl, pm, rfl, ⟨_, .inl (.inl hpm)⟩, fun D3 nD3 => ?_⟩
      refine lc_list (K := K) (a := pm) (xs := (likeT fs "link").map V.str) (fun j Hz => Same Hm Hz ∧ Hz D3 = some (.lst (((leadsF fs).take j).map V.str))) ⟨same_new nD3 _, upd_same⟩ (fun j Hz _ p => .inl (.inl (p.1 _ _ hpm))) ?_ ?_
      · rintro j y2 Hz hy2 ⟨sz, hD⟩
        obtain ⟨mn, hmn, rfl⟩ := map_get hy2
        obtain ⟨n, mfl, etk⟩ := linkIn hmn
        have jl : j < (likeT fs "link").length := (List.getElem?_eq_some_iff.mp hmn).1
        have s5 := s4.trans sz
        refine ⟨rfl, yes_if ⟨_, rfl, s, dx, _, rfl, esAt s5, rfl, _, rfl, _, rfl, s, tabs, rs, z, mn, n, fs, A, rfl, xAt s5, ok.tab, m, mfl, _, hD, small1000 (by rw [List.length_map, List.length_take]; omega), Same.put sz nD3, ?_⟩⟩
        rw [upd_same, etk, List.map_append]
        rfl
      rintro Hz ⟨s6, hD3⟩
      rw [List.length_map, ← lml, List.take_length] at hD3
      refine ⟨F, D3, _, _, rfl, rfl, s6 _ _ (sm _ _ hF3), hD3, small (by rw [List.length_map, List.length_map]; omega), ?_⟩
      rw [← List.map_append, ← e1]
      have s7 : Same H1 (upd Hz F (.lst (((ld.take (i + 1)).flatten).map V.str))) := Same.put (s4.trans s6) nF
      have hF7 : (upd Hz F (.lst (((ld.take (i + 1)).flatten).map V.str))) F = some (.lst (((ld.take (i + 1)).flatten).map V.str)) := upd_same
      have hG7 : (upd Hz F (.lst (((ld.take (i + 1)).flatten).map V.str))) G = some (.lst (((ld.take i).flatten).map V.str)) := by rw [upd_ne nFG.symm]; exact s6 _ _ (sm _ _ hG3)
      have hpm7 : (upd Hz F (.lst (((ld.take (i + 1)).flatten).map V.str))) pm = some (.lst ((likeT fs "link").map V.str)) := by
        rw [upd_ne (fun n => by rw [n, hF3] at npm; cases npm)]
        exact s6 _ _ hpm
      generalize (upd Hz F (.lst (((ld.take (i + 1)).flatten).map V.str))) = H7 at s7 hF7 hG7 hpm7 ⊢
      refine ⟨_, rfl, .inl ⟨rfl, _, .inl (.inl hG7)⟩, _, rfl, pm, rfl, ⟨_, .inl (.inl hpm7)⟩, fun D4 nD4 => ?_⟩
      refine lc_list (K := K) (a := pm) (xs := (likeT fs "link").map V.str) (fun j Hz => Same H7 Hz ∧ Hz D4 = some (.lst (((leadsF fs).take j).map V.str))) ⟨same_new nD4 _, upd_same⟩ (fun j Hz _ p => .inl (.inl (p.1 _ _ hpm7))) ?_ ?_
      · rintro j y2 Hz2 hy2 ⟨sz, hD⟩
        obtain ⟨mn, hmn, rfl⟩ := map_get hy2
        obtain ⟨n, mfl, etk⟩ := linkIn hmn
        have jl : j < (likeT fs "link").length := (List.getElem?_eq_some_iff.mp hmn).1
        obtain ⟨fa2, dg2, df2⟩ := fldsAt (s7.trans sz) m
        obtain ⟨vf, dg3, dvf⟩ := fld_get df2 okf.nd mfl
        obtain ⟨ta, rfl, hta⟩ := lk_at dvf
        refine ⟨rfl, yes_if ⟨_, rfl, .str z, rfl, T, .ref fa2, rfl, dg2, .str mn, rfl, fa2, .ref ta, rfl, dg3, ta, _, 1, .str n, rfl, rfl, .inl (.inl hta), atI_nat (j := 1) rfl, _, hD, small1000 (by rw [List.length_map, List.length_take]; omega), Same.put sz nD4, ?_⟩⟩
        rw [upd_same, etk, List.map_append]
        rfl
      rintro Hz2 ⟨s8, hD4⟩
      rw [List.length_map, ← lml, List.take_length] at hD4
      refine ⟨G, D4, _, _, rfl, rfl, s8 _ _ hG7, hD4, small (by rw [List.length_map, List.length_map]; omega), ⟨_, _, rfl⟩, Same.put (s7.trans s8) nG, by rw [upd_ne nFG]; exact s8 _ _ hF7, ?_⟩
      rw [upd_same, ← List.map_append, ← e1]
    · rintro σ Hx ⟨⟨o5, o9, rfl⟩, s3, hF3, hG3⟩
      rw [List.length_map, ← lld, List.take_length] at hF3 hG3
      have lfl := ldFew ld.length
      rw [List.take_length] at lfl
      refine ⟨_, rfl, _, rfl, small (by show 2 ≤ 1000; decide), fun t nt => q t (.ref F) (.ref G) _ ((s1.trans s3).trans (same_new nt _)) upd_same ⟨.lst (ld.flatten.map Tr.str), [F], F, G, fun _ => True, rfl, rfl, .lst (same_new nt _ _ _ hF3) (DLs.ofStrs _), List.nodup_cons.mpr ⟨(fun h => nomatch h), List.nodup_nil⟩, ?_, .lst (same_new nt _ _ _ hG3) trivial (DTs.ofStrs _), ?_, Nat.le_trans (depth_strs _) (by decide), few_strs _ (by omega)⟩⟩
      · intro c hc
        rw [List.mem_singleton.mp hc]
        exact s1.free nF
      · refine (Pl.strs fun n hn => ?_).shw.le (by decide) (by omega)
        obtain ⟨w, hw, hnw⟩ := List.mem_flatten.mp hn
        rw [eld] at hw
        obtain ⟨z, hz, rfl⟩ := List.mem_map.mp hw
        obtain ⟨i, hi⟩ := List.mem_iff_getElem?.mp hz
        obtain ⟨fs, m, et, okf⟩ := tabIn hi
        rw [et] at hnw
        unfold leadsF at hnw
        obtain ⟨mn, hmn, rfl⟩ := List.mem_map.mp hnw
        obtain ⟨fl, efl, mfl, esrt⟩ := like_mem hmn
        have eat : atF fs mn = fl := by unfold atF; rw [efl]; rfl
        rw [eat]
        cases okf.val _ mfl with
        | mk c d few nd => exact absurd (show ("mark" : Str) = "link" from esrt) (by decide +kernel)
        | tg => exact absurd (show ("tag" : Str) = "link" from esrt) (by decide +kernel)
        | lk mm => exact ok.tab.names _ mm
  · -- 5: the rules and their names
    refine ⟨_, rfl, rfl, _, rfl, ff_if (by decide +kernel) ⟨_, rfl, rfl, _, rfl, ff_if (by decide +kernel) ⟨_, rfl, rfl, _, rfl, ff_if (by decide +kernel) ⟨small (by show 0 ≤ 1000; decide), fun F nF => ⟨small (by show 0 ≤ 1000; decide), fun G nG0 => ⟨_, _, rfl, ?_⟩⟩⟩⟩⟩⟩
    have s2 : Same H1 (upd (upd H1 F (.lst [])) G (.lst [])) := (same_new nF _).trans (same_new nG0 _)
    have hG : (upd (upd H1 F (.lst [])) G (.lst [])) G = some (.lst []) := upd_same
    have nFG : F ≠ G := ne_of_none upd_same nG0
    have hF : (upd (upd H1 F (.lst [])) G (.lst [])) F = some (.lst []) := by rw [upd_ne nFG]; exact upd_same
    have nG : H1 G = none := (same_new nF (.lst [])).free nG0
    generalize (upd (upd H1 F (.lst [])) G (.lst [])) = H2 at s2 hF hG ⊢
    clear nG0
    refine ⟨_, rfl, rfl, _, rfl, ff_if (by decide +kernel) ⟨_, rfl, rfl, _, rfl, ff_if (by decide +kernel) ⟨_, rfl, rfl, _, rfl, tt_if (by decide +kernel) ?_⟩⟩⟩
    have dRx := dR.same s1
    obtain ⟨_, xs, eR1, eR, nR, dRs⟩ := dRx.lstI
    cases eR1
    have lxs : xs.length = rs.length := by rw [dRs.len, List.length_map]
    have ruleAt : ∀ {i : Nat} {x : V}, xs[i]? = some x → ∃ r, rs[i]? = some r ∧ DT H1 D x (ruleT r) := fun {i x} hx => by
      obtain ⟨t, ht, d⟩ := dRs.get hx
      rw [List.getElem?_map] at ht
      obtain ⟨r, hr', rfl⟩ := Option.map_eq_some_iff.mp ht
      exact ⟨r, hr', d⟩
    refine ⟨_, rfl, s, dx, _, rfl, esAt s2, rfl, s, tabs, rs, A, rfl, xAt s2, ok, fun v L H3 s3 dl nd new => ?_⟩
    have s23 := s2.trans s3
    refine ⟨_, rfl, s, dx, _, rfl, esAt s23, rfl, s, tabs, rs, A, rfl, xAt s23, l6, fun pn H4 s4 npn hpn => ?_⟩
    have s24 := s23.trans s4
    refine ⟨small (by show 2 ≤ 1000; decide), fun l1 nl1 => ?_⟩
    have s5 : Same H4 (upd H4 l1 (.lst [v, .ref pn])) := same_new nl1 _
    have hl1 : (upd H4 l1 (.lst [v, .ref pn])) l1 = some (.lst [v, .ref pn]) := upd_same
    generalize (upd H4 l1 (.lst [v, .ref pn])) = H5 at s5 hl1 ⊢
    have s25 := s24.trans s5
    refine ⟨_, rfl, _, rfl, R, rfl, ⟨xs, .inl (.inl (s25 _ _ eR))⟩, fun D2 nD2 => ?_⟩
    refine lc_list (K := K) (a := R) (xs := xs) (fun i Hx => Same H5 Hx ∧ Hx D2 = some (.lst (((rs.take i).map (·.1)).map V.str))) ⟨same_new nD2 _, upd_same⟩ (fun i Hx _ p => .inl (.inl (p.1 _ _ (s25 _ _ eR)))) ?_ ?_
    · rintro i y Hx hy ⟨s6, hD⟩
      obtain ⟨r, er, d⟩ := ruleAt hy
      obtain ⟨ra, zs, rfl, era, _, z0⟩ := rule_name d
      refine ⟨rfl, yes_if ⟨_, rfl, ra, zs, 0, .str r.1, rfl, rfl, .inl (.inl (s6 _ _ (s25 _ _ era))), atI_nat (j := 0) z0, _, hD, small1000 (by rw [List.length_map, List.length_map, List.length_take]; omega), Same.put s6 nD2, ?_⟩⟩
      rw [upd_same, List.take_add_one, er, List.map_append, List.map_append]
      rfl
    rintro Hx ⟨s6, hD2⟩
    rw [lxs, List.take_length] at hD2
    refine ⟨small (by show 2 ≤ 1000; decide), fun l2 nl2 => ?_⟩
    have s7 : Same Hx (upd Hx l2 (.lst [.ref R, .ref D2])) := same_new nl2 _
    have hl2 : (upd Hx l2 (.lst [.ref R, .ref D2])) l2 = some (.lst [.ref R, .ref D2]) := upd_same
    generalize (upd Hx l2 (.lst [.ref R, .ref D2])) = H7 at s7 hl2 ⊢
    have s57 := s6.trans s7
    have s27 := s25.trans s57
    refine ⟨small (by show 2 ≤ 1000; decide), fun t nt => ?_⟩
    have st := same_new nt (.tup [.ref l1, .ref l2])
    have nodupL : (l1 :: (L ++ ([pn] ++ []))).Nodup := by
      rw [List.append_nil]
      refine List.nodup_cons.mpr ⟨fun h => ?_, List.nodup_append.mpr ⟨nd, List.nodup_cons.mpr ⟨(fun h => nomatch h), List.nodup_nil⟩, fun a ha b hb e => ?_⟩⟩
      · rcases List.mem_append.mp h with h | h
        · obtain ⟨o, ho⟩ := (dl.same s4).there l1 h
          rw [nl1] at ho; cases ho
        · rw [List.mem_singleton.mp h, hpn] at nl1; cases nl1
      · rw [List.mem_singleton.mp hb] at e
        subst e
        obtain ⟨o, ho⟩ := dl.there a ha
        rw [npn] at ho; cases ho
    refine q t (.ref l1) (.ref l2) _ ((s1.trans s27).trans st) upd_same ⟨.lst [rulesT rs, .lst ((rs.map (·.1)).map Tr.str)], l1 :: (L ++ ([pn] ++ [])), l1, l2, fun _ => True, rfl, rfl, .lst (st _ _ (s57 _ _ hl1)) (DLs.app (dl.same ((((s4.trans s5).trans s57)).trans st)) (DLs.app (.lst (st _ _ (s57 _ _ (s5 _ _ hpn))) (DLs.ofStrs _)) .nil)), nodupL, ?_, .lst (st _ _ hl2) trivial (.cons ((dRx.sub fun _ _ => trivial).same (s27.trans st)) (.cons (.lst (st _ _ (s7 _ _ hD2)) trivial (DTs.ofStrs _)) .nil)), ?_, ?_, ?_⟩
    · intro c hc
      rw [List.append_nil] at hc
      rcases List.mem_cons.mp hc with h | h
      · rw [h]; exact s1.free (s24.free nl1)
      · rcases List.mem_append.mp h with h | h
        · exact s1.free (s2.free (new c h))
        · rw [List.mem_singleton.mp h]; exact s1.free (s23.free npn)
    · refine (Shw.lstT (ts := [rulesT rs, .lst ((rs.map (·.1)).map Tr.str)]) (n := 7) (m := 370000) (of2 (rules_pl ok).shw ((Pl.strs fun z hz => ?_).shw.le (show 1 ≤ 7 by decide) (by rw [List.length_map]; omega)))).le (show 7 + 1 ≤ 12 by decide) (by show 2 * 370001 ≤ 900000; decide)
      obtain ⟨r, hr', rfl⟩ := List.mem_map.mp hz
      exact (ok.ok r hr').1
    · exact Nat.le_trans (depth_lst (n := 7) (of2 (rules_depth ok) (Nat.le_trans (depth_strs _) (by decide)))) (show 7 + 1 ≤ 20 by decide)
    · exact few_lst (by show 2 ≤ 1000; decide) (of2 (rules_few ok) (few_strs _ (by rw [List.length_map]; omega)))
  · -- 6: each rule and its place
    refine ⟨_, rfl, rfl, _, rfl, ff_if (by decide +kernel) ⟨_, rfl, rfl, _, rfl, ff_if (by decide +kernel) ⟨_, rfl, rfl, _, rfl, ff_if (by decide +kernel) ⟨small (by show 0 ≤ 1000; decide), fun F nF => ⟨small (by show 0 ≤ 1000; decide), fun G nG0 => ⟨_, _, rfl, ?_⟩⟩⟩⟩⟩⟩
    have s2 : Same H1 (upd (upd H1 F (.lst [])) G (.lst [])) := (same_new nF _).trans (same_new nG0 _)
    have hG : (upd (upd H1 F (.lst [])) G (.lst [])) G = some (.lst []) := upd_same
    have nFG : F ≠ G := ne_of_none upd_same nG0
    have hF : (upd (upd H1 F (.lst [])) G (.lst [])) F = some (.lst []) := by rw [upd_ne nFG]; exact upd_same
    have nG : H1 G = none := (same_new nF (.lst [])).free nG0
    generalize (upd (upd H1 F (.lst [])) G (.lst [])) = H2 at s2 hF hG ⊢
    clear nG0
    refine ⟨_, rfl, rfl, _, rfl, ff_if (by decide +kernel) ⟨_, rfl, rfl, _, rfl, ff_if (by decide +kernel) ⟨_, rfl, rfl, _, rfl, ff_if (by decide +kernel) ⟨_, rfl, rfl, _, rfl, tt_if (by decide +kernel) ?_⟩⟩⟩⟩
    have dRx := dR.same s1
    obtain ⟨_, xs, eR1, eR, nR, dRs⟩ := dRx.lstI
    cases eR1
    have lxs : xs.length = rs.length := by rw [dRs.len, List.length_map]
    have ruleAt : ∀ {i : Nat} {x : V}, xs[i]? = some x → ∃ r, rs[i]? = some r ∧ DT H1 D x (ruleT r) := fun {i x} hx => by
      obtain ⟨t, ht, d⟩ := dRs.get hx
      rw [List.getElem?_map] at ht
      obtain ⟨r, hr', rfl⟩ := Option.map_eq_some_iff.mp ht
      exact ⟨r, hr', d⟩
    refine ⟨_, rfl, R, rfl, ⟨xs, .inl (.inl (s2 _ _ eR))⟩, fun D1 nD1 => ?_⟩
    refine lc_list (K := K) (a := R) (xs := xs) (CopL H2 D1 (rulesI rs)) (CopL.zero nD1) (fun i Hx _ p => .inl (.inl (p.1 _ _ (s2 _ _ eR)))) ?_ ?_
    · intro i y Hx hy p
      obtain ⟨r, er, d⟩ := ruleAt hy
      obtain ⟨ra, zs, rfl, era, _, z0⟩ := rule_name d
      have s3 := s2.trans p.1
      refine ⟨rfl, yes_if ⟨_, rfl, s, dx, _, rfl, esAt s3, rfl, _, rfl, ra, zs, 0, .str r.1, rfl, rfl, .inl (.inl (s3 _ _ era)), atI_nat (j := 0) z0, s, tabs, rs, r, i, A, rfl, xAt s3, ok, er, fun v L H4 s4 dl nd new => ?_⟩⟩
      have s34 := s3.trans s4
      refine ⟨_, rfl, s, dx, _, rfl, esAt s34, rfl, _, rfl, ra, zs, 0, .str r.1, rfl, rfl, .inl (.inl (s34 _ _ era)), atI_nat (j := 0) z0, s, tabs, rs, r.1, i, A, rfl, xAt s34, ok, by rw [List.getElem?_map, er]; rfl, fun H5 s5 => ?_⟩
      refine ⟨small (by show 2 ≤ 1000; decide), fun l nl => ?_⟩
      refine p.go nD1 (rulesI_at er) (by rw [rulesI_len]; omega) ((s4.trans s5).trans (same_new nl _)) (M := l :: (L ++ ([] ++ []))) (.lst upd_same (DLs.app (dl.same (s5.trans (same_new nl _))) (DLs.app (.int _) .nil))) ?_ ?_
      · rw [List.append_nil, List.append_nil]
        refine List.nodup_cons.mpr ⟨fun h => ?_, nd⟩
        obtain ⟨o, ho⟩ := (dl.same s5).there l h
        rw [nl] at ho; cases ho
      · intro c hc
        rw [List.append_nil, List.append_nil] at hc
        rcases List.mem_cons.mp hc with h | h
        · rw [h]; exact s4.free (s5.free nl)
        · exact new c h
    intro Hx p
    rw [lxs] at p
    obtain ⟨L1, acc1, s3, hD1, dl1, nd1, new1⟩ := p.last (Nat.le_of_eq (rulesI_len rs)) nD1
    have s23 := s2.trans s3
    refine ⟨_, rfl, _, rfl, R, xs, rfl, .inl (.inl (s23 _ _ eR)), fun D2 nD2 => ?_⟩
    refine lc_it walk_enum (CopT Hx D2 (rulesI rs)) (CopT.zero nD2) (fun i Hy _ p => .inl (.inl (p.1 _ _ (s23 _ _ eR)))) ?_ ?_
    · rintro i y Hy H' hi p2 ⟨pr, x1, x2, rfl, npr, rfl, g1, g2⟩
      have g1' : V.int (i : Nat) = x1 := Option.some.inj g1
      subst g1'
      obtain ⟨r, er, d⟩ := ruleAt g2
      have s4 : Same Hy (upd Hy pr (.tup [.int (i : Nat), x2])) := same_new npr _
      refine ⟨pr, [.int (i : Nat), x2], rfl, .inl (.inl upd_same), rfl, .int (i : Nat), [x2], rfl, x2, [], rfl, rfl, rfl, yes_if ⟨_, rfl, _, rfl, small (by show 2 ≤ 1000; decide), fun l nl => ?_⟩⟩
      have nD0 : H1 D2 = none := s23.free nD2
      refine p2.go nD2 (rulesI_at er) (by rw [rulesI_len]; omega) (s4.trans (same_new nl _)) (.lst upd_same (fun n => ?_) (.cons (((d.notNew nD0).same ((s23.trans p2.1).trans s4)).same (same_new nl _)) (.cons (.int _) .nil)))
      obtain ⟨acc, hD, _⟩ := p2.2
      rw [n, s4 _ _ hD] at nl
      cases nl
    intro Hy p2
    rw [lxs] at p2
    obtain ⟨s4, acc2, hD2, dd2⟩ := p2.last (Nat.le_of_eq (rulesI_len rs))
    refine ⟨small (by show 2 ≤ 1000; decide), fun t nt => q t (.ref D1) (.ref D2) _ (((s1.trans s23).trans s4).trans (same_new nt _)) upd_same ⟨.lst (rulesI rs), D1 :: L1, D1, D2, _, rfl, rfl, (DL.lst hD1 dl1).same (s4.trans (same_new nt _)), nd1, fun c hc => s1.free (s2.free (new1 c hc)), .lst (A := fun _ => True) (same_new nt _ _ _ hD2) trivial ((dd2.sub fun _ _ => trivial).same (same_new nt _)), ?_, ?_, ?_⟩⟩
    · refine (Shw.lstT (n := 7) (m := 122002) fun t ht => ?_).le (by decide) (by rw [rulesI_len]; omega)
      obtain ⟨i, r, er, rfl⟩ := rulesI_mem ht
      have il : i < rs.length := (List.getElem?_eq_some_iff.mp er).1
      have okr := ok.ok r (List.mem_of_getElem? er)
      exact (Shw.lstT (ts := [ruleT r, .int (i : Nat)]) (n := 6) (m := 61000) (of2 (rule_pl ok.tab okr.1 okr.2).shw ((Shw.int (n := i) (by omega)).le (by decide) (by decide)))).le (by decide) (by show 2 * 61001 ≤ 122002; decide)
    · refine Nat.le_trans (depth_lst (n := 7) fun t ht => ?_) (by decide)
      obtain ⟨i, r, er, rfl⟩ := rulesI_mem ht
      exact depth_lst (n := 6) (of2 (rule_depth (ok.ok r (List.mem_of_getElem? er)).2) (Nat.zero_le _))
    · refine few_lst (by rw [rulesI_len]; omega) fun t ht => ?_
      obtain ⟨i, r, er, rfl⟩ := rulesI_mem ht
      exact few_lst (by show 2 ≤ 1000; decide) (of2 (rule_few (ok.ok r (List.mem_of_getElem? er)).2) rfl)
  · -- 7: how many rows of a table differ by marks
    refine ⟨_, rfl, rfl, _, rfl, ff_if (by decide +kernel) ⟨_, rfl, rfl, _, rfl, ff_if (by decide +kernel) ⟨_, rfl, rfl, _, rfl, ff_if (by decide +kernel) ⟨small (by show 0 ≤ 1000; decide), fun F nF => ⟨small (by show 0 ≤ 1000; decide), fun G nG0 => ⟨_, _, rfl, ?_⟩⟩⟩⟩⟩⟩
    have s2 : Same H1 (upd (upd H1 F (.lst [])) G (.lst [])) := (same_new nF _).trans (same_new nG0 _)
    have hG : (upd (upd H1 F (.lst [])) G (.lst [])) G = some (.lst []) := upd_same
    have nFG : F ≠ G := ne_of_none upd_same nG0
    have hF : (upd (upd H1 F (.lst [])) G (.lst [])) F = some (.lst []) := by rw [upd_ne nFG]; exact upd_same
    have nG : H1 G = none := (same_new nF (.lst [])).free nG0
    generalize (upd (upd H1 F (.lst [])) G (.lst [])) = H2 at s2 hF hG ⊢
    clear nG0
    refine ⟨_, rfl, rfl, _, rfl, ff_if (by decide +kernel) ⟨_, rfl, rfl, _, rfl, ff_if (by decide +kernel) ⟨_, rfl, rfl, _, rfl, ff_if (by decide +kernel) ⟨_, rfl, rfl, _, rfl, ff_if (by decide +kernel) ?_⟩⟩⟩⟩
    obtain ⟨ts, ets⟩ : ∃ ts : List Tr, ts = names.map fun z => Tr.int (manyF (tabOf tabs z) : Nat) := ⟨_, rfl⟩
    have lts : ts.length = names.length := by rw [ets, List.length_map]
    refine ⟨_, rfl, p4, rfl, ⟨_, sqP s2⟩, fun D1 nD1 => ?_⟩
    refine lc_list (K := K) (a := p4) (xs := names.map V.str) (CopL H2 D1 ts) (CopL.zero nD1) (fun i Hx _ p => sqP (s2.trans p.1)) ?_ ?_
    · intro i y Hx hy p
      obtain ⟨z, hz, rfl⟩ := map_get hy
      obtain ⟨fs, m, et, okf⟩ := tabIn hz
      have s3 := s2.trans p.1
      refine ⟨rfl, yes_if ⟨_, rfl, s, dx, _, rfl, esAt s3, rfl, _, rfl, s, tabs, rs, z, fs, A, rfl, xAt s3, ok.tab, m, fun H' s' => ?_⟩⟩
      exact p.go nD1 (t := .int (manyF fs : Nat)) (M := []) (by rw [ets, List.getElem?_map, hz, ← et]; rfl) (by omega) s' (.int _) List.nodup_nil (fun _ h => nomatch h)
    intro Hx p
    rw [List.length_map] at p
    obtain ⟨L1, acc1, s3, hD1, dl1, nd1, new1⟩ := p.last (Nat.le_of_eq lts) nD1
    have s23 := s2.trans s3
    refine ⟨_, rfl, p4, rfl, ⟨_, sqP s23⟩, fun D2 nD2 => ?_⟩
    refine lc_list (K := K) (a := p4) (xs := names.map V.str) (CopT Hx D2 ts) (CopT.zero nD2) (fun i Hy _ p => sqP (s23.trans p.1)) ?_ ?_
    · intro i y Hy hy p2
      obtain ⟨z, hz, rfl⟩ := map_get hy
      obtain ⟨fs, m, et, okf⟩ := tabIn hz
      obtain ⟨fa, dg, df⟩ := fldsAt (s23.trans p2.1) m
      refine ⟨rfl, yes_if ⟨_, rfl, .str z, rfl, T, .ref fa, rfl, dg, fa, fs, _, _, rfl, df, okf, fun H' s' => ?_⟩⟩
      exact p2.go nD2 (t := .int (manyF fs : Nat)) (by rw [ets, List.getElem?_map, hz, ← et]; rfl) (by omega) s' (.int _)
    intro Hy p2
    rw [List.length_map] at p2
    obtain ⟨s4, acc2, hD2, dd2⟩ := p2.last (Nat.le_of_eq lts)
    refine ⟨small (by show 2 ≤ 1000; decide), fun t nt => q t (.ref D1) (.ref D2) _ (((s1.trans s23).trans s4).trans (same_new nt _)) upd_same ⟨.lst ts, D1 :: L1, D1, D2, _, rfl, rfl, (DL.lst hD1 dl1).same (s4.trans (same_new nt _)), nd1, fun c hc => s1.free (s2.free (new1 c hc)), .lst (A := fun _ => True) (same_new nt _ _ _ hD2) trivial ((dd2.sub fun _ _ => trivial).same (same_new nt _)), ?_, ?_, ?_⟩⟩
    · refine (Shw.lstT (n := 0) (m := 14) fun t ht => ?_).le (by decide) (by omega)
      rw [ets] at ht
      obtain ⟨z, hz, rfl⟩ := List.mem_map.mp ht
      obtain ⟨i, hi⟩ := List.mem_iff_getElem?.mp hz
      obtain ⟨fs, m, et, okf⟩ := tabIn hi
      rw [et]
      exact Shw.int (manyF_le okf)
    · refine Nat.le_trans (depth_lst (n := 0) fun t ht => ?_) (by decide)
      rw [ets] at ht
      obtain ⟨z, hz, rfl⟩ := List.mem_map.mp ht
      exact Nat.le_refl _
    · refine few_lst (by omega) fun t ht => ?_
      rw [ets] at ht
      obtain ⟨z, hz, rfl⟩ := List.mem_map.mp ht
      rfl
end
end Lw

set_option Elab.async false
set_option linter.all false
set_option maxRecDepth 100000
set_option maxHeartbeats 4000000
namespace Lw
open PySem PySem.Spec PyProof.Rows L2
abbrev sAlike : Stmt := topS 35
abbrev sRight : Stmt := topS 47
abbrev NRight : List Str := ["_law_schema", "_law_parts_here", "_law_first", "_law_order", "_law_kind", "_law_told", "_law_due"]
section
variable {P : Program} {w : World} {K : PySem.W.Frag} {mg : Str → Option Value} {base : Heap} {C : Addr}
theorem scAlike : FnScope ["_law_found", "_law_due"] ["_law_found", "_law_due"] (defScope sAlike) := ⟨rfl, rfl, rfl, by decide +kernel, rfl, by decide +kernel, by decide +kernel⟩
theorem scRight : FnScope NRight ["_law_schema", "_law_parts_here", "_law_first"] (defScope sRight) := ⟨rfl, rfl, rfl, by decide +kernel, rfl, by decide +kernel, by decide +kernel⟩
def spAlike : Sp := fun vs H Q _ => ∃ (a b : Addr) (t : Tr) (A B : Addr → Prop), vs = [.ref a, .ref b] ∧ DT H A (.ref a) t ∧ DT H B (.ref b) t ∧ Shw t.data 40 1000000 ∧ t.depth ≤ 60 ∧ Q (.bl true) H
theorem ok_alike {f : Addr} {fd : FuncData} (F : Fun K "_law_alike" "_law_alike" sAlike f fd) (mrepr : mg "repr" = none) (hs : ∃ o, base.get? sysModules = some o) : FnG P w K mg base 1 f fd ["_law_found", "_law_due"] spAlike := by
  refine fun_okG F scAlike (fun vs H Q E h => ?_) (fun cdv A0 outer s H vs Q E hr hg h => ?_)
  · obtain ⟨a, b, t, A, B, rfl, _⟩ := h
    rfl
  obtain ⟨a, b, t, A, B, rfl, da, db, sh, dp, q⟩ := h
  have hu : (cxOf CX0 P w K mg base ["_law_found", "_law_due"] "_law_alike" (defScope sAlike) f cdv A0 outer s H E).nox.A.units + 64 < cLine := hr.units
  refine ⟨_, pss_one (ps_ret (pe_and (pe_cmpR (op_eqSame hu) (pv 0) (pv 1) (nomark _)) (pe_one (pe_cmpR (r := rEq) op_eq (pe_callB (call_reprT hg hu hs) (by rfl) mrepr (by decide +kernel) (pa_cons (pv 0) pa_nil)) (pe_callB (call_reprT hg hu hs) (by rfl) mrepr (by decide +kernel) (pa_cons (pv 1) pa_nil)) (nomark _))))), ?_⟩
  obtain ⟨s1, s2, s3⟩ := sh.fits (by decide) (by decide)
  refine ⟨_, rfl, _, rfl, a, b, t, A, B, rfl, rfl, da, db, dp, true, rfl, ?_⟩
  refine tt_if rfl ⟨_, rfl, a, t, A, rfl, da, s1, s2, s3, _, rfl, b, t, B, rfl, db, s1, s2, s3, rfl, ?_⟩
  rw [decide_eq_true rfl]
  exact q
def spRight (C : Addr) : Sp := fun vs H Q _ => ∃ (k0 : Nat) (s p : Addr) (tabs : Tabs) (rs : List Rul) (A B : Addr → Prop), vs = [.ref s, .ref p, .int (k0 : Nat)] ∧ k0 ≤ 7 ∧ SchAt C H A s tabs rs ∧ DT H B (.ref p) (partsT tabs rs) ∧ PartsOk tabs rs ∧ ∀ H', Same H H' → Q (.bl true) H'
theorem parts_in {H : Hp} {B : Addr → Prop} {p : Addr} {tabs : Tabs} {rs : List Rul} (x : DT H B (.ref p) (partsT tabs rs)) : ∃ T R, H p = some (.tup [.ref T, .ref R]) ∧ DT H B (.ref T) (tablesT tabs) ∧ DT H B (.ref R) (rulesT rs) := by
  obtain ⟨_, xs, e1, e, n, d⟩ := x.tupI
  cases e1
  cases d with
  | cons a b =>
    cases b with
    | cons c d =>
      cases d
      obtain ⟨T, kvs, rfl, _⟩ := a.dctI
      obtain ⟨R, ys, rfl, _⟩ := c.lstI
      exact ⟨T, R, e, a, c⟩
theorem rgV8 : rgV 0 8 = (List.range 8).map fun i => V.int (i : Nat) := by decide +kernel
theorem ok_right {f f35 f43 f46 : Addr} {fd fd35 fd43 fd46 : FuncData} (F : Fun K "_law_schema_right" "_law_schema_right" sRight f fd)
    (G46 : FnOk P w K mg base CX0 10 f46 fd46 ["_law_kind", "_law_schema", "_law_tables", "_law_rules"] (spAsked C)) (m46 : mg "_law_asked_of" = some (.ref f46)) (k46 : PySem.W.keepIn K (.ref f46) = true) (b46 : Binds K fd46 ["_law_kind", "_law_schema", "_law_tables", "_law_rules"] [])
    (G35 : FnG P w K mg base 1 f35 fd35 ["_law_found", "_law_due"] spAlike) (m35 : mg "_law_alike" = some (.ref f35)) (k35 : PySem.W.keepIn K (.ref f35) = true) (b35 : Binds K fd35 ["_law_found", "_law_due"] [])
    (G43 : FnOk P w K mg base CX0 21 f43 fd43 ["_law_thing"] (spRuined 21)) (m43 : mg "_law_ruined" = some (.ref f43)) (k43 : PySem.W.keepIn K (.ref f43) = true) (b43 : Binds K fd43 ["_law_thing"] [])
    (ml : mg "list" = none) (mr : mg "range" = none) : FnG P w K mg base 22 f fd ["_law_schema", "_law_parts_here", "_law_first"] (spRight C) := by
  refine fun_okG F scRight (fun vs H Q E h => ?_) (fun cdv A0 outer s0 H vs Q E hr hg h => ?_)
  · obtain ⟨k0, s, p, tabs, rs, A, B, rfl, _⟩ := h
    rfl
  obtain ⟨k0, s, p, tabs, rs, A, B, rfl, k7, x, dp, ok, q⟩ := h
  refine ⟨_, pss_cons (ps_set (i := 3) scRight.nd rfl (.inl rfl) (pe_op op_cat (pe_lst (pa_cons (pv 2) pa_nil)) (pe_listRg rfl (by rfl) ml (prg_1 (by rfl) mr pe_int))))
    (pss_cons (ps_for PassesOwn.never rfl (pi_list (pe_op op_cat (pe_op op_cat (pv 3) (pv 3)) (pv 3))) (pg_name (i := 4) scRight.nd rfl (.inl rfl))
      (pss_cons (ps_asg (pe_call G46 (hr.mono (by decide)) (by rfl) m46 k46 b46 .nil pass0 (pa_cons (pv 4) (pa_cons (pv 0) (pa_cons (pe_ix ix_tup (pv 1) pe_int (fun _ _ => rfl)) (pa_cons (pe_ix ix_tup (pv 1) pe_int (fun _ _ => rfl)) pa_nil))))) (pg_tup rfl (pgs_cons (pg_name (i := 5) scRight.nd rfl (.inl rfl)) (pgs_cons (pg_name (i := 6) scRight.nd rfl (.inl rfl)) pgs_nil))))
      (pss_cons (ps_if (pt_not (pt_val (pe_callG G35 (hr.mono (by decide)) hg (by rfl) m35 k35 b35 pass0 (pa_cons (pv 5) (pa_cons (pv 6) pa_nil))))) (pss_one (ps_ret pe_bl)) pss_nil)
      (pss_one (ps_expr (pe_call G43 (hr.mono (by decide)) (by rfl) m43 k43 b43 .nil pass0 (pa_cons (pv 5) pa_nil)))))))
    (pss_one (ps_ret pe_bl))), ?_⟩
  refine ⟨_, rfl, small (by show 1 ≤ 1000; decide), fun l1 nl1 => ?_⟩
  have s1 : Same H (upd H l1 (.lst [.int (k0 : Nat)])) := same_new nl1 _
  have h1 : (upd H l1 (.lst [.int (k0 : Nat)])) l1 = some (.lst [.int (k0 : Nat)]) := upd_same
  generalize (upd H l1 (.lst [.int (k0 : Nat)])) = H1 at s1 h1 ⊢
  refine ⟨8, rfl, RgOk.of_le (by decide) (by decide) (by decide) (by decide), fun l2 nl2 => ?_⟩
  rw [rgV8]
  have s2 : Same H1 (upd H1 l2 (.lst ((List.range 8).map fun i => V.int (i : Nat)))) := same_new nl2 _
  have h2 : (upd H1 l2 (.lst ((List.range 8).map fun i => V.int (i : Nat)))) l2 = some (.lst ((List.range 8).map fun i => V.int (i : Nat))) := upd_same
  generalize (upd H1 l2 (.lst ((List.range 8).map fun i => V.int (i : Nat)))) = H2 at s2 h2 ⊢
  refine ⟨l1, l2, _, _, rfl, rfl, s2 _ _ h1, h2, small (by simp), fun o nO => ?_⟩
  obtain ⟨ks, eks, ksok⟩ : ∃ ks : List Nat, [V.int (k0 : Nat)] ++ ((List.range 8).map fun i => V.int (i : Nat)) = ks.map (fun i => V.int (i : Nat)) ∧ ks.length = 9 ∧ ∀ k ∈ ks, k ≤ 7 := ⟨k0 :: List.range 8, rfl, rfl, fun k hk => by
    rcases List.mem_cons.mp hk with h | h
    · rw [h]; exact k7
    · have := List.mem_range.mp h; omega⟩
  rw [eks]
  have s3 : Same H2 (upd H2 o (.lst (ks.map fun i => V.int (i : Nat)))) := same_new nO _
  have h3 : (upd H2 o (.lst (ks.map fun i => V.int (i : Nat)))) o = some (.lst (ks.map fun i => V.int (i : Nat))) := upd_same
  generalize (upd H2 o (.lst (ks.map fun i => V.int (i : Nat)))) = H3 at s3 h3 ⊢
  refine ⟨_, rfl, _, rfl, o, o, _, _, rfl, rfl, h3, h3, small (by simp [ksok.1]), fun o2 nO2 => ?_⟩
  rw [← List.map_append]
  have s4 : Same H3 (upd H3 o2 (.lst ((ks ++ ks).map fun i => V.int (i : Nat)))) := same_new nO2 _
  have h4 : (upd H3 o2 (.lst ((ks ++ ks).map fun i => V.int (i : Nat)))) o2 = some (.lst ((ks ++ ks).map fun i => V.int (i : Nat))) := upd_same
  generalize (upd H3 o2 (.lst ((ks ++ ks).map fun i => V.int (i : Nat)))) = H4 at s4 h4 ⊢
  refine ⟨_, rfl, o2, o, _, _, rfl, rfl, h4, s4 _ _ h3, small (by simp [ksok.1]), fun o3 nO3 => ?_⟩
  rw [← List.map_append]
  have s5 : Same H4 (upd H4 o3 (.lst ((ks ++ ks ++ ks).map fun i => V.int (i : Nat)))) := same_new nO3 _
  have h5 : (upd H4 o3 (.lst ((ks ++ ks ++ ks).map fun i => V.int (i : Nat)))) o3 = some (.lst ((ks ++ ks ++ ks).map fun i => V.int (i : Nat))) := upd_same
  generalize (upd H4 o3 (.lst ((ks ++ ks ++ ks).map fun i => V.int (i : Nat)))) = H5 at s5 h5 ⊢
  have sAll : Same H H5 := (((s1.trans s2).trans s3).trans s4).trans s5
  refine ⟨o3, rfl, ⟨_, .inl (.inl h5)⟩, ?_⟩
  refine for_list (K := K) (a := o3) (xs := (ks ++ ks ++ ks).map fun i => V.int (i : Nat)) (fun i σ Hx => (∃ o4 o5 o6, σ = [some (.ref s), some (.ref p), some (.int (k0 : Nat)), some (.ref o), o4, o5, o6]) ∧ Same H5 Hx) ⟨⟨_, _, _, rfl⟩, fun _ _ h => h⟩ (fun i σ Hx _ q => .inl (.inl (q.2 _ _ h5))) ?_ ?_
  · rintro i y σ Hx hy ⟨⟨o4, o5, o6, rfl⟩, sx⟩
    obtain ⟨k, hk, rfl⟩ := map_get hy
    have kk : k ≤ 7 := by
      have m := List.mem_of_getElem? hk
      rw [List.mem_append, List.mem_append] at m
      exact ksok.2 k (m.elim (fun m => m.elim id id) id)
    have sA := sAll.trans sx
    obtain ⟨T, R, ep, dT, dR⟩ := parts_in (dp.same sA)
    refine ⟨_, rfl, _, rfl, _, rfl, p, _, 0, .ref T, rfl, rfl, .inl (.inl ep), atI_nat (j := 0) rfl, _, rfl, p, _, 1, .ref R, rfl, rfl, .inl (.inl ep), atI_nat (j := 1) rfl, k, s, T, R, tabs, rs, A, B, B, rfl, kk, x.mono fun a o _ h => sA _ _ h, dT, dR, ok, fun pr v u H6 s6 hpr an => ?_⟩
    obtain ⟨t, L, a, b, A2, rfl, rfl, dl, nd, new, du, sh, dep, few⟩ := an.ex
    refine ⟨pr, [.ref a, .ref b], rfl, .inl (.inl hpr), rfl, .ref a, [.ref b], rfl, .ref b, [], rfl, rfl, ?_⟩
    refine ⟨_, rfl, _, rfl, a, b, t, (· ∈ L), A2, rfl, dl.dt (fun c h => h), du, sh.le (by decide) (by decide), Nat.le_trans dep (by decide), _, rfl, ff_if rfl ?_⟩
    refine ⟨_, rfl, .ref a, t, L, rfl, dl, nd, Nat.lt_succ_of_le dep, few, fun H7 off => ⟨⟨_, _, _, rfl⟩, fun c o' e => ?_⟩⟩
    refine off.keep c o' (fun m => ?_) (s6 _ _ (sx _ _ e))
    have h := new c m
    rw [sx _ _ e] at h
    cases h
  · rintro σ Hx ⟨⟨o4, o5, o6, rfl⟩, sx⟩
    exact q Hx (sAll.trans sx)
end
end Lw

set_option Elab.async false
set_option linter.all false
set_option maxRecDepth 100000
set_option maxHeartbeats 4000000
namespace Lw
open PySem PySem.Spec PyProof.Rows L2
/-! ### lists of trees changed at a place; rules that stay rules -/
theorem DTs.set {H : Hp} {A : Addr → Prop} : ∀ {xs : List V} {ts : List Tr} {i : Nat} {v : V} {t : Tr}, DTs H A xs ts → DT H A v t → DTs H A (xs.set i v) (ts.set i t)
  | _, _, _, _, _, .nil, _ => .nil
  | _, _, 0, _, _, .cons _ y, d => .cons d y
  | _, _, i + 1, _, _, .cons x y, d => .cons x (DTs.set y d)
theorem DTs.erase {H : Hp} {A : Addr → Prop} : ∀ {xs : List V} {ts : List Tr} {i : Nat}, DTs H A xs ts → DTs H A (xs.eraseIdx i) (ts.eraseIdx i)
  | _, _, _, .nil => .nil
  | _, _, 0, .cons _ y => y
  | _, _, i + 1, .cons x y => .cons x (DTs.erase y)
theorem DTs.rev {H : Hp} {A : Addr → Prop} : ∀ {xs : List V} {ts : List Tr}, DTs H A xs ts → DTs H A xs.reverse ts.reverse
  | _, _, .nil => .nil
  | _, _, .cons x y => by
    rw [List.reverse_cons, List.reverse_cons]
    exact (DTs.rev y).snoc x
def rNePl : R2 := fun x y H Q => ∃ (t u : Tr) (A B : Addr → Prop), DT H A x t ∧ DT H B y u ∧ SeqAt.shaped t.data = true ∧ SeqAt.shaped u.data = true ∧ Q (.bl (!PyData.eqv t.data u.data)) H
theorem op_nePl {X : Cx} (hu : X.A.units + 64 < cLine) : OpR X (compareOp .NotEq) rNePl := by
  intro pins s σ H x y v u Q I rx ry h
  obtain ⟨t, t', A, B, dx, dy, sd, se, q⟩ := h
  obtain ⟨as, r1, _⟩ := DT.reads I dx rx
  obtain ⟨bs, r2, _⟩ := DT.reads I dy ry
  exact SeqAt.compareNe_shaped r1 r2 sd se hu ⟨.bl _, H, I, rfl, q⟩
theorem rules_ne (rs : List Rul) : (!PyData.eqv (rulesT rs).data (Tr.lst []).data) = !rs.isEmpty := by cases rs <;> rfl
theorem seq_nat {n k : Nat} (h : k < n) : seqIndex? (k : Int) n = some k := by
  unfold seqIndex?
  have h1 : ¬ ((k : Int) < 0) := by omega
  rw [if_neg h1]
  have h2 : (decide (0 ≤ (k : Int)) && decide ((k : Int) < (n : Int))) = true := by
    rw [Bool.and_eq_true, decide_eq_true_eq, decide_eq_true_eq]
    omega
  show (if (decide (0 ≤ (k : Int)) && decide ((k : Int) < (n : Int))) = true then some (k : Int).toNat else none) = some k
  rw [if_pos h2]
  rfl
theorem ix_last {n : Nat} (h : 0 < n) : ixN n (-1) = some (n - 1) := by
  unfold ixN
  rw [if_neg (by decide), if_pos (by omega)]
  congr 1
  omega
theorem at_last {α : Type} {xs : List α} {v : α} (h : xs[xs.length - 1]? = some v) : atI xs (-1) = some v := by
  have l : 0 < xs.length := by
    have := (List.getElem?_eq_some_iff.mp h).1
    omega
  unfold atI
  rw [ix_last l]
  exact h
theorem ix_nat {n k : Nat} (h : k < n) : ixN n (k : Int) = some k := by
  unfold ixN
  rw [if_pos (by omega), if_pos (by omega)]
  rfl
def revRK : RK → RK
  | .link tb fd x y => .link tb fd x.reverse y.reverse
  | .uniq tb fd => .uniq tb fd
  | .one tb x => .one tb x.reverse
  | .chk tb x => .chk tb x.reverse
theorem TstsOk.rev {fs : Flds} {ts : List Tst} (o : TstsOk fs ts) : TstsOk fs ts.reverse := ⟨fun t h => o.1 t (List.mem_reverse.mp h), by rw [List.length_reverse]; exact o.2⟩
theorem RKOk.rev {tabs : Tabs} {r : RK} (o : RKOk tabs r) : RKOk tabs (revRK r) := by
  cases o with
  | link h l h2 tx ty => exact .link h l h2 tx.rev ty.rev
  | uniq h l => exact .uniq h l
  | one h tx => exact .one h tx.rev
  | chk h tx => exact .chk h tx.rev
theorem PartsOk.erase {tabs : Tabs} {rs : List Rul} (o : PartsOk tabs rs) (i : Nat) : PartsOk tabs (rs.eraseIdx i) := by
  have sl := List.eraseIdx_sublist rs i
  exact ⟨o.tab, (sl.map (·.1)).nodup o.nd, fun r hr => o.ok r (sl.subset hr), Nat.le_trans sl.length_le o.few⟩
theorem PartsOk.turn {tabs : Tabs} {r : Rul} {rs : List Rul} (o : PartsOk tabs (r :: rs)) : PartsOk tabs (rs ++ [r]) := by
  have pm : (rs ++ [r]).Perm (r :: rs) := List.perm_append_comm
  exact ⟨o.tab, (pm.map (·.1)).nodup_iff.mpr o.nd, fun x hx => o.ok x (pm.mem_iff.mp hx), by rw [pm.length_eq]; exact o.few⟩
theorem map_set_fst : ∀ {rs : List Rul} {i : Nat} {r q : Rul}, rs[i]? = some r → (rs.set i q).map (·.1) = (rs.map (·.1)).set i q.1 := fun {rs i r q} _ => by rw [List.map_set]
theorem PartsOk.put {tabs : Tabs} {rs : List Rul} (o : PartsOk tabs rs) {i : Nat} {r : Rul} (h : rs[i]? = some r) {n : Str} {k : RK} (hn : NameOk n) (hk : RKOk tabs k) (fresh : n = r.1 ∨ n ∉ rs.map (·.1)) : PartsOk tabs (rs.set i (n, k)) := by
  refine ⟨o.tab, ?_, fun x hx => ?_, by rw [List.length_set]; exact o.few⟩
  · rw [List.map_set]
    show ((rs.map (·.1)).set i n).Nodup
    have hi : i < (rs.map (·.1)).length := by rw [List.length_map]; exact (List.getElem?_eq_some_iff.mp h).1
    have hat : (rs.map (·.1))[i]? = some r.1 := by rw [List.getElem?_map, h]; rfl
    rcases fresh with e | e
    · have h2 : (rs.map (·.1)).set i n = rs.map (·.1) := by
        rw [e]
        obtain ⟨_, g⟩ := List.getElem?_eq_some_iff.mp hat
        rw [← g]
        exact List.set_getElem_self _
      rw [h2]
      exact o.nd
    · exact nodup_set o.nd e
  · rcases List.mem_or_eq_of_mem_set hx with h | h
    · exact o.ok x h
    · rw [h]; exact ⟨hn, hk⟩
where
  nodup_set : ∀ {l : List Str} {i : Nat} {n : Str}, l.Nodup → n ∉ l → (l.set i n).Nodup
    | [], _, _, _, _ => List.nodup_nil
    | x :: r, 0, n, h, e => List.nodup_cons.mpr ⟨fun m => e (List.mem_cons_of_mem _ m), (List.nodup_cons.mp h).2⟩
    | x :: r, i + 1, n, h, e => by
      rw [List.set_cons_succ]
      obtain ⟨h1, h2⟩ := List.nodup_cons.mp h
      refine List.nodup_cons.mpr ⟨fun m => ?_, nodup_set h2 fun m => e (List.mem_cons_of_mem _ m)⟩
      rcases List.mem_or_eq_of_mem_set m with g | g
      · exact h1 g
      · exact e (by rw [← g]; exact List.mem_cons_self)
theorem cut_from (xs : List V) (i : Nat) : cutV xs (some (i : Int)) none = xs.drop i := by
  have e : HT.sIx xs.length 0 (some ((i : Nat) : Int)) = min i xs.length := HT.sIx_nat _ _ i
  unfold cutV
  rw [e, HT.sIx_none]
  rcases Nat.le_total i xs.length with h | h
  · rw [Nat.min_eq_left h]
    exact List.take_of_length_le (by rw [List.length_drop]; exact Nat.le_refl _)
  · rw [Nat.min_eq_right h, List.drop_of_length_le h, List.drop_of_length_le (Nat.le_refl _)]
    exact List.take_nil
theorem cut_late {xs : List V} {i : Nat} (h : i < xs.length) (h0 : 0 < i) : ¬ (HT.sIx xs.length 0 (some ((i : Nat) : Int)) = 0 ∧ HT.sIx xs.length xs.length none = xs.length) := fun n => by
  have e : HT.sIx xs.length 0 (some ((i : Nat) : Int)) = min i xs.length := HT.sIx_nat _ _ i
  rw [e] at n
  omega
/-- a rule's tuple: its name, and what stands behind -/
theorem rule_tup {H : Hp} {A : Addr → Prop} {v : V} {n : Str} {r : RK} (d : DT H A v (ruleT (n, r))) : ∃ (a : Addr) (xs : List V) (ts : List Tr), v = .ref a ∧ H a = some (.tup (.str n :: xs)) ∧ A a ∧ DTs H A xs ts ∧ 3 ≤ xs.length ∧ xs.length ≤ 5 ∧ ∀ z, ruleT (z, r) = .tup (.str z :: ts) := by
  cases r with
  | link tb fd x y =>
    obtain ⟨a, xs, rfl, e, na, dd⟩ := d.tupI
    cases dd with
    | cons p q =>
      cases p
      have l := q.len
      exact ⟨a, _, _, rfl, e, na, q, by rw [l]; simp, by rw [l]; simp, fun z => rfl⟩
  | uniq tb fd =>
    obtain ⟨a, xs, rfl, e, na, dd⟩ := d.tupI
    cases dd with
    | cons p q =>
      cases p
      have l := q.len
      exact ⟨a, _, _, rfl, e, na, q, by rw [l]; simp, by rw [l]; simp, fun z => rfl⟩
  | one tb x =>
    obtain ⟨a, xs, rfl, e, na, dd⟩ := d.tupI
    cases dd with
    | cons p q =>
      cases p
      have l := q.len
      exact ⟨a, _, _, rfl, e, na, q, by rw [l]; simp, by rw [l]; simp, fun z => rfl⟩
  | chk tb x =>
    obtain ⟨a, xs, rfl, e, na, dd⟩ := d.tupI
    cases dd with
    | cons p q =>
      cases p
      have l := q.len
      exact ⟨a, _, _, rfl, e, na, q, by rw [l]; simp, by rw [l]; simp, fun z => rfl⟩
/-- what is turned round: lists alone -/
def revTr : Tr → Tr
  | .lst ts => .lst ts.reverse
  | t => t
theorem rule_rev (n : Str) (r : RK) : ∃ h ts, h.length = 3 ∧ ruleT (n, r) = .tup (h ++ ts) ∧ ruleT (n, revRK r) = .tup (h ++ ts.map revTr) ∧ 0 < ts.length ∧ ts.length ≤ 3 ∧ ∀ t ∈ ts, (∃ z, t = .str z) ∨ ∃ us, t = .lst us := by
  cases r with
  | link tb fd x y => exact ⟨[.str n, .str "link", .str tb], [.str fd, testsT x, testsT y], rfl, rfl, by simp only [revRK, ruleT, List.map_cons, List.map_nil, revTr, testsT, List.map_reverse]; rfl, by simp, by simp, ofC (.inl ⟨_, rfl⟩) (of2 (.inr ⟨_, rfl⟩) (.inr ⟨_, rfl⟩))⟩
  | uniq tb fd => exact ⟨[.str n, .str "unique", .str tb], [.str fd], rfl, rfl, rfl, by simp, by simp, ofC (.inl ⟨_, rfl⟩) ofN⟩
  | one tb x => exact ⟨[.str n, .str "some", .str tb], [testsT x], rfl, rfl, by simp only [revRK, ruleT, List.map_cons, List.map_nil, revTr, testsT, List.map_reverse]; rfl, by show 0 < 1; decide, by show 1 ≤ 3; decide, ofC (.inr ⟨_, rfl⟩) ofN⟩
  | chk tb x => exact ⟨[.str n, .str "check", .str tb], [testsT x], rfl, rfl, by simp only [revRK, ruleT, List.map_cons, List.map_nil, revTr, testsT, List.map_reverse]; rfl, by show 0 < 1; decide, by show 1 ≤ 3; decide, ofC (.inr ⟨_, rfl⟩) ofN⟩
theorem DTs.split {H : Hp} {A : Addr → Prop} : ∀ {h ts : List Tr} {xs : List V}, DTs H A xs (h ++ ts) → DTs H A (xs.take h.length) h ∧ DTs H A (xs.drop h.length) ts
  | [], _, _, d => ⟨by rw [List.length_nil, List.take_zero]; exact .nil, d⟩
  | t :: h, ts, _, .cons x y => by
    obtain ⟨a, b⟩ := DTs.split y
    exact ⟨.cons x a, b⟩
theorem DTs.glue {H : Hp} {A : Addr → Prop} : ∀ {h ts : List Tr} {xs ys : List V}, DTs H A xs h → DTs H A ys ts → DTs H A (xs ++ ys) (h ++ ts)
  | _, _, _, _, .nil, y => y
  | _, _, _, _, .cons a b, y => .cons a (DTs.glue b y)
theorem cut_early {xs : List V} {i : Nat} (h : i < xs.length) : ¬ (HT.sIx xs.length 0 none = 0 ∧ HT.sIx xs.length xs.length (some ((i : Nat) : Int)) = xs.length) := cut_part h
/-- the places of trees that stand are none of these -/
theorem DTs.there {H : Hp} {A B : Addr → Prop} {vs : List V} {ts : List Tr} (x : DTs H A vs ts) (h : ∀ {a : Addr} {o : HO}, H a = some o → B a) : DTs H (fun a => B a ∧ A a) vs ts :=
  x.plain.sub fun a ha => by
    obtain ⟨hA, o, e, _⟩ := ha
    exact ⟨h e, hA⟩
theorem eraseIdx_map' {α β : Type} (f : α → β) : ∀ (l : List α) (i : Nat), (l.map f).eraseIdx i = (l.eraseIdx i).map f
  | [], _ => rfl
  | x :: r, 0 => rfl
  | x :: r, i + 1 => by
    rw [List.map_cons, List.eraseIdx_cons_succ, List.eraseIdx_cons_succ, List.map_cons, eraseIdx_map' f r i]
/-- a list of rules is one of references -/
theorem refs_of {H : Hp} {A : Addr → Prop} : ∀ {xs : List V} {rs : List Rul}, DTs H A xs (rs.map ruleT) → ∃ ps : List Addr, xs = ps.map V.ref
  | _, [], .nil => ⟨[], rfl⟩
  | _, r :: rs, .cons x y => by
    obtain ⟨a, rfl⟩ := list_ref x
    obtain ⟨ps, e⟩ := refs_of y
    exact ⟨a :: ps, by rw [e]; rfl⟩
end Lw

set_option Elab.async false
set_option linter.all false
set_option maxRecDepth 100000
set_option maxHeartbeats 8000000
namespace Lw
open PySem PySem.Spec PyProof.Rows L2
abbrev sORules : Stmt := topS 49
abbrev NORules : List Str := ["_law_bag_here", "_law_tables", "_law_rules", "_law_kind", "_law_at", "_law_rule", "_law_some"]
section
variable {P : Program} {w : World} {K : PySem.W.Frag} {mg : Str → Option Value} {base : Heap}
theorem scORules : FnScope NORules ["_law_bag_here", "_law_tables", "_law_rules", "_law_kind"] (defScope sORules) := ⟨rfl, rfl, rfl, by decide +kernel, rfl, by decide +kernel, by decide +kernel⟩
/-- all stands but the bag and one list -/
def But2 (b R : Addr) (H H' : Hp) : Prop := ∀ a o, H a = some o → a ≠ b → a ≠ R → H' a = some o
def spORules : Sp := fun vs H Q _ => ∃ (b c T R : Addr) (k : Nat) (tabs : Tabs) (rs : List Rul) (xs : List V), vs = [.ref b, .ref T, .ref R, .int (k : Nat)] ∧ k ≤ 4 ∧ BagAt H b c ∧ R ≠ b ∧ R ≠ c ∧ DT H (fun a => a ≠ b ∧ a ≠ R) (.ref T) (tablesT tabs) ∧ PartsOk tabs rs ∧ H R = some (.lst xs) ∧ DTs H (fun a => a ≠ b ∧ a ≠ R) xs (rs.map ruleT) ∧
  ∀ (H' : Hp) (rs' : List Rul) (xs' : List V), PartsOk tabs rs' → H' R = some (.lst xs') → DTs H' (fun a => a ≠ b ∧ a ≠ R) xs' (rs'.map ruleT) → BagAt H' b c → But2 b R H H' → Q .non H'
theorem ok_orules {f f34 f40 f48 : Addr} {fd fd34 fd40 fd48 : FuncData} (F : Fun K "_law_other_rules" "_law_other_rules" sORules f fd)
    (G34 : FnOk P w K mg base CX0 1 f34 fd34 ["_law_bag_here", "_law_many_here"] spTake) (m34 : mg "_law_take" = some (.ref f34)) (k34 : PySem.W.keepIn K (.ref f34) = true) (b34 : Binds K fd34 ["_law_bag_here", "_law_many_here"] [])
    (G40 : FnOk P w K mg base CX0 4 f40 fd40 ["_law_bag_here", "_law_tables", "_law_name"] spRule) (m40 : mg "_law_one_rule" = some (.ref f40)) (k40 : PySem.W.keepIn K (.ref f40) = true) (b40 : Binds K fd40 ["_law_bag_here", "_law_tables", "_law_name"] [])
    (G48 : FnOk P w K mg base CX0 3 f48 fd48 ["_law_bag_here", "_law_known"] spStrange) (m48 : mg "_law_strange" = some (.ref f48)) (k48 : PySem.W.keepIn K (.ref f48) = true) (b48 : Binds K fd48 ["_law_bag_here", "_law_known"] [])
    (mlen : mg "len" = none) (mi : mg "isinstance" = none) (ml : mg "list" = none) (mt : mg "tuple" = none) : FnOk P w K mg base CX0 5 f fd ["_law_bag_here", "_law_tables", "_law_rules", "_law_kind"] spORules := by
  refine F.ok scORules (fun vs H Q E h => ?_) (fun cdv A0 outer s0 H vs Q E hr h => ?_)
  · obtain ⟨b, c, T, R, k, tabs, rs, xs, rfl, _⟩ := h
    rfl
  obtain ⟨b, c, T, R, k, tabs, rs, xs, rfl, k4, hb, nRb, nRc, dT, ok, eR, dd, q⟩ := h
  have hu : (cxOf CX0 P w K mg base NORules "_law_other_rules" (defScope sORules) f cdv A0 outer s0 H E).nox.A.units + 64 < cLine := hr.units
  refine ⟨_, (pss_cons (ps_if (PW.pt (pw_and (pt_cmpR op_eq (pv 3) pe_int (nomark _)) (pw_and1 (pt_cmpR (op_nePl hu) (pv 2) (pe_lst pa_nil) (nomark _))))) (pss_one (ps_expr (pe_bm PySem.F.plainAttrs_list PySem.F.slot_list_pop PySem.F.type_list_pop mt_popAt (pv 2) (pa_cons (pe_call G34 (hr.mono (by decide)) (by rfl) m34 k34 b34 .nil pass0 (pa_cons (pv 0) (pa_cons (pe_callB call_len_seq (by rfl) mlen (by decide +kernel) (pa_cons (pv 2) pa_nil)) pa_nil))) pa_nil)))) pss_nil) (pss_cons (ps_if (PW.pt (pw_and (pt_cmpR op_eq (pv 3) pe_int (nomark _)) (pw_and1 (pt_cmpR (op_nePl hu) (pv 2) (pe_lst pa_nil) (nomark _))))) (pss_one (ps_expr (pe_bm PySem.F.plainAttrs_list PySem.F.slot_list_append PySem.F.type_list_append mt_append (pv 2) (pa_cons (pe_bm PySem.F.plainAttrs_list PySem.F.slot_list_pop PySem.F.type_list_pop mt_popAt (pv 2) (pa_cons pe_int pa_nil)) pa_nil)))) pss_nil) (pss_cons (ps_if (PW.pt (pw_and (pt_cmpR op_eq (pv 3) pe_int (nomark _)) (pw_and1 (pt_cmpR (op_nePl hu) (pv 2) (pe_lst pa_nil) (nomark _))))) (pss_one (ps_asg (pe_op op_catT (pe_tup (pa_cons (pe_call G48 (hr.mono (by decide)) (by rfl) m48 k48 b48 .nil pass0 (pa_cons (pv 0) (pa_cons (pe_lc (own := [("_law_rule", 5)]) (g := gName 5) (tt := tYes) rfl scORules.nd (pi_list (pv 2)) (blkOk_by (N := NORules) (sc := defScope sORules) (by decide +kernel)) (fun _ _ _ _ _ => pg_name (i := 5) scORules.nd rfl (Or.inl rfl)) (fun _ _ _ _ _ => pts_nil) (fun _ _ _ _ _ => (pe_ix (r := rIxT K) ix_tup (pv 5) pe_int (fun _ _ => rfl)))) pa_nil))) pa_nil)) (pe_slice sl_tup (pe_ix ix_list (pv 2) (pe_un un_neg pe_int) (fun _ _ => rfl)) (po_some pe_int) po_none)) (pg_sub (pv 2) (pe_un un_neg pe_int) set_list))) pss_nil) (pss_cons (ps_if (PW.pt (pw_and (pt_cmpR op_eq (pv 3) pe_int (nomark _)) (pw_and1 (pt_cmpR (op_nePl hu) (pv 2) (pe_lst pa_nil) (nomark _))))) (pss_cons (ps_set (i := 4) scORules.nd rfl (.inl rfl) (pe_call G34 (hr.mono (by decide)) (by rfl) m34 k34 b34 .nil pass0 (pa_cons (pv 0) (pa_cons (pe_callB call_len_seq (by rfl) mlen (by decide +kernel) (pa_cons (pv 2) pa_nil)) pa_nil)))) (pss_one (ps_asg (pe_call G40 (hr.mono (by decide)) (by rfl) m40 k40 b40 .nil pass0 (pa_cons (pv 0) (pa_cons (pv 1) (pa_cons (pe_ix ix_tup (pe_ix ix_list (pv 2) (pv 4) (fun _ _ => rfl)) pe_int (fun _ _ => rfl)) pa_nil)))) (pg_sub (pv 2) (pv 4) set_list)))) pss_nil) (pss_one (ps_if (PW.pt (pw_and (pt_cmpR op_eq (pv 3) pe_int (nomark _)) (pw_and1 (pt_cmpR (op_nePl hu) (pv 2) (pe_lst pa_nil) (nomark _))))) (pss_cons (ps_set (i := 4) scORules.nd rfl (.inl rfl) (pe_call G34 (hr.mono (by decide)) (by rfl) m34 k34 b34 .nil pass0 (pa_cons (pv 0) (pa_cons (pe_callB call_len_seq (by rfl) mlen (by decide +kernel) (pa_cons (pv 2) pa_nil)) pa_nil)))) (pss_one (ps_asg (pe_op op_catT (pe_slice sl_tup (pe_ix ix_list (pv 2) (pv 4) (fun _ _ => rfl)) po_none (po_some pe_int)) (pe_callTy call_tuple_of (by rfl) mt (by decide +kernel) (pa_cons (pe_lc (own := [("_law_some", 6)]) (g := gName 6) (tt := tYes) rfl scORules.nd (pi_tup (pe_slice sl_tup (pe_ix ix_list (pv 2) (pv 4) (fun _ _ => rfl)) (po_some pe_int) po_none)) (blkOk_by (N := NORules) (sc := defScope sORules) (by decide +kernel)) (fun _ _ _ _ _ => pg_name (i := 6) scORules.nd rfl (Or.inl rfl)) (fun _ _ _ _ _ => pts_nil) (fun _ _ _ _ _ => (pe_ifExp (pt_val (pe_callB (show CallR _ (.builtin "isinstance") (rIsi K) from call_isi) (by rfl) mi (by decide +kernel) (pa_cons (pv 6) (pa_cons (pe_bltn (v := .ty "list") (by rfl) ml (by decide +kernel) rfl) pa_nil)))) (show PE _ _ (tRevL K (tVar 6)) from pe_revL (pv 6)) (pv 6)))) pa_nil))) (pg_sub (pv 2) (pv 4) set_list)))) pss_nil)))))), ?_⟩
  have shR : SeqAt.shaped (rulesT rs).data = true := (rules_pl ok).shaped (by decide)
  have l6 := ok.few
  have lxs : xs.length = rs.length := by rw [dd.len, List.length_map]
  have ruleAt : ∀ {i : Nat} {x : V}, xs[i]? = some x → ∃ r, rs[i]? = some r ∧ DT H (fun a => a ≠ b ∧ a ≠ R) x (ruleT r) := fun {i x} hx => by
    obtain ⟨t, ht, d⟩ := dd.get hx
    rw [List.getElem?_map] at ht
    obtain ⟨r, hr', rfl⟩ := Option.map_eq_some_iff.mp ht
    exact ⟨r, hr', d⟩
  have fin0 : ∀ {Hx : Hp}, Same H Hx → Q .non Hx := fun sx => q _ rs xs ok (sx _ _ eR) (dd.same sx) (hb.same sx) fun a o e _ _ => sx _ _ e
  obtain rfl | rfl | rfl | rfl | rfl : k = 0 ∨ k = 1 ∨ k = 2 ∨ k = 3 ∨ k = 4 := by omega
  · -- 0
    refine ⟨_, rfl, rfl, _, rfl, tt_if (by decide +kernel) ⟨_, rfl, small (by show 0 ≤ 1000; decide), fun e ne => ⟨rulesT rs, .lst [], fun _ => True, fun _ => True, .lst (same_new ne _ _ _ eR) trivial ((dd.sub fun _ _ => trivial).same (same_new ne _)), .lst upd_same trivial .nil, shR, by decide, _, rfl, ?_⟩⟩⟩
    rw [rules_ne]
    have s1 : Same H (upd H e (.lst [])) := same_new ne _
    generalize (upd H e (.lst [])) = H1 at s1 ⊢
    clear ne
    have hb1 := hb.same s1
    have eR1 := s1 _ _ eR
    cases rs with
    | nil =>
      refine ff_if rfl ?_
      refine ⟨_, rfl, rfl, _, rfl, ff_if (by decide +kernel) (ff_if rfl ?_)⟩
      refine ⟨_, rfl, rfl, _, rfl, ff_if (by decide +kernel) (ff_if rfl ?_)⟩
      refine ⟨_, rfl, rfl, _, rfl, ff_if (by decide +kernel) (ff_if rfl ?_)⟩
      refine ⟨_, rfl, rfl, _, rfl, ff_if (by decide +kernel) (ff_if rfl ?_)⟩
      exact fin0 s1
    | cons r0 rest =>
      refine tt_if rfl ?_
      have l1 : xs.length = (r0 :: rest).length := lxs
      have lp : (0 : Int) < (xs.length : Nat) := by rw [l1, List.length_cons]; omega
      refine ⟨_, rfl, .inl ⟨rfl, _, .inl (.inl eR1)⟩, _, rfl, _, rfl, R, xs, rfl, .inl (.inl (.inl eR1)), b, c, _, rfl, hb1, lp, by omega, fun i H2 i0 i1 hb2 B2 => ?_⟩
      obtain ⟨n, rfl⟩ : ∃ n : Nat, i = (n : Int) := ⟨i.toNat, by omega⟩
      have nl : n < xs.length := by omega
      refine ⟨R, xs, n, n, xs[n], rfl, rfl, B2 _ _ eR1 nRb, by omega, by omega, seq_nat nl, List.getElem?_eq_getElem nl, ?_⟩
      refine ⟨_, rfl, rfl, _, rfl, ff_if (by decide +kernel) (ff_if rfl ?_)⟩
      refine ⟨_, rfl, rfl, _, rfl, ff_if (by decide +kernel) (ff_if rfl ?_)⟩
      refine ⟨_, rfl, rfl, _, rfl, ff_if (by decide +kernel) (ff_if rfl ?_)⟩
      refine ⟨_, rfl, rfl, _, rfl, ff_if (by decide +kernel) (ff_if rfl ?_)⟩
      refine q _ ((r0 :: rest).eraseIdx n) (xs.eraseIdx n) (ok.erase n) upd_same ?_ (hb2.set nRb nRc) fun a o e ab aR => by rw [upd_ne aR]; exact B2 _ _ (s1 _ _ e) ab
      have d2 : DTs H2 (fun a => a ≠ b ∧ a ≠ R) xs ((r0 :: rest).map ruleT) := (dd.same s1).mono fun a o h e => B2 _ _ e h.1
      have d3 := (DTs.mono (fun a o h e => by rw [upd_ne h.2]; exact e) d2 : DTs (upd H2 R (.lst (xs.eraseIdx n))) _ _ _).erase (i := n)
      have em : ((r0 :: rest).map ruleT).eraseIdx n = ((r0 :: rest).eraseIdx n).map ruleT := eraseIdx_map' ruleT _ n
      rw [em] at d3
      exact d3
  · -- 1
    refine ⟨_, rfl, rfl, _, rfl, ff_if (by decide +kernel) (ff_if rfl ?_)⟩
    refine ⟨_, rfl, rfl, _, rfl, tt_if (by decide +kernel) ⟨_, rfl, small (by show 0 ≤ 1000; decide), fun e ne => ⟨rulesT rs, .lst [], fun _ => True, fun _ => True, .lst (same_new ne _ _ _ eR) trivial ((dd.sub fun _ _ => trivial).same (same_new ne _)), .lst upd_same trivial .nil, shR, by decide, _, rfl, ?_⟩⟩⟩
    rw [rules_ne]
    have s1 : Same H (upd H e (.lst [])) := same_new ne _
    generalize (upd H e (.lst [])) = H1 at s1 ⊢
    clear ne
    have hb1 := hb.same s1
    have eR1 := s1 _ _ eR
    cases rs with
    | nil =>
      refine ff_if rfl ?_
      refine ⟨_, rfl, rfl, _, rfl, ff_if (by decide +kernel) (ff_if rfl ?_)⟩
      refine ⟨_, rfl, rfl, _, rfl, ff_if (by decide +kernel) (ff_if rfl ?_)⟩
      refine ⟨_, rfl, rfl, _, rfl, ff_if (by decide +kernel) (ff_if rfl ?_)⟩
      exact fin0 s1
    | cons r0 rest =>
      refine tt_if rfl ?_
      cases dd with
      | @cons v vs _ _ dv dvs =>
        refine ⟨_, rfl, .inl ⟨rfl, _, .inl (.inl eR1)⟩, _, rfl, .inl ⟨rfl, _, .inl (.inl eR1)⟩, R, v :: vs, 0, 0, v, rfl, rfl, eR1, by decide, by decide, seq_nat (n := (v :: vs).length) (k := 0) (by simp), rfl, ?_⟩
        refine ⟨R, vs, v, rfl, rfl, upd_same, small1000 (by have h1 := dvs.len; rw [List.length_map] at h1; rw [List.length_cons] at l6; omega), ?_⟩
        refine ⟨_, rfl, rfl, _, rfl, ff_if (by decide +kernel) (ff_if rfl ?_)⟩
        refine ⟨_, rfl, rfl, _, rfl, ff_if (by decide +kernel) (ff_if rfl ?_)⟩
        refine ⟨_, rfl, rfl, _, rfl, ff_if (by decide +kernel) (ff_if rfl ?_)⟩
        refine q _ (rest ++ [r0]) (vs ++ [v]) ok.turn upd_same ?_ ((hb1.set nRb nRc).set nRb nRc) fun a o e ab aR => by rw [upd_ne aR, upd_ne aR]; exact s1 _ _ e
        rw [List.map_append]
        exact DTs.mono (fun a o h e => by rw [upd_ne h.2, upd_ne h.2]; exact s1 _ _ e) (dvs.snoc dv)
  · -- 2
    refine ⟨_, rfl, rfl, _, rfl, ff_if (by decide +kernel) (ff_if rfl ?_)⟩
    refine ⟨_, rfl, rfl, _, rfl, ff_if (by decide +kernel) (ff_if rfl ?_)⟩
    refine ⟨_, rfl, rfl, _, rfl, tt_if (by decide +kernel) ⟨_, rfl, small (by show 0 ≤ 1000; decide), fun e ne => ⟨rulesT rs, .lst [], fun _ => True, fun _ => True, .lst (same_new ne _ _ _ eR) trivial ((dd.sub fun _ _ => trivial).same (same_new ne _)), .lst upd_same trivial .nil, shR, by decide, _, rfl, ?_⟩⟩⟩
    rw [rules_ne]
    have s1 : Same H (upd H e (.lst [])) := same_new ne _
    generalize (upd H e (.lst [])) = H1 at s1 ⊢
    clear ne
    have hb1 := hb.same s1
    have eR1 := s1 _ _ eR
    cases rs with
    | nil =>
      refine ff_if rfl ?_
      refine ⟨_, rfl, rfl, _, rfl, ff_if (by decide +kernel) (ff_if rfl ?_)⟩
      refine ⟨_, rfl, rfl, _, rfl, ff_if (by decide +kernel) (ff_if rfl ?_)⟩
      exact fin0 s1
    | cons r0 rest =>
      refine tt_if rfl ?_
      have l1 : xs.length = (r0 :: rest).length := lxs
      have lp : (0 : Int) < (xs.length : Nat) := by rw [l1, List.length_cons]; omega
      have nl : xs.length - 1 < xs.length := by omega
      obtain ⟨rl, erl, drl⟩ := ruleAt (List.getElem?_eq_getElem nl)
      obtain ⟨ra, ys, ts, erav, era, _, dys, l3, l5, shp⟩ := rule_tup (n := rl.1) (r := rl.2) drl
      refine ⟨_, rfl, _, rfl, R, rfl, ⟨xs, .inl (.inl eR1)⟩, fun D nD => ?_⟩
      refine lc_list (K := K) (a := R) (xs := xs) (fun i Hx => Same H1 Hx ∧ Hx D = some (.lst ((((r0 :: rest).take i).map (·.1)).map V.str))) ⟨same_new nD _, upd_same⟩ (fun i Hx _ p => .inl (.inl (p.1 _ _ eR1))) ?_ ?_
      · rintro i y Hx hy ⟨s6, hD⟩
        obtain ⟨r, er, d⟩ := ruleAt hy
        obtain ⟨rb, zs, rfl, erb, _, z0⟩ := rule_name d
        refine ⟨rfl, yes_if ⟨_, rfl, rb, zs, 0, .str r.1, rfl, rfl, .inl (.inl (s6 _ _ (s1 _ _ erb))), atI_nat (j := 0) z0, _, hD, small1000 (by rw [List.length_map, List.length_map, List.length_take]; omega), Same.put s6 nD, ?_⟩⟩
        rw [upd_same, List.take_add_one, er, List.map_append, List.map_append]
        rfl
      rintro Hx ⟨s6, hD⟩
      rw [l1, List.take_length] at hD
      refine ⟨b, c, D, (r0 :: rest).map (·.1), rfl, hb1.same s6, hD, by rw [List.length_map]; omega, fun z H3 okz nz hb3 B3 => ?_⟩
      refine ⟨small (by show 1 ≤ 1000; decide), fun t1 nt1 => ?_⟩
      have K3 : ∀ a o, H a = some o → a ≠ b → H3 a = some o := fun a o e n => B3 _ _ (s6 _ _ (s1 _ _ e)) n
      have s7 : Same H3 (upd H3 t1 (.tup [.str z])) := same_new nt1 _
      have ht1 : (upd H3 t1 (.tup [.str z])) t1 = some (.tup [.str z]) := upd_same
      generalize (upd H3 t1 (.tup [.str z])) = H4 at s7 ht1 ⊢
      have eR4 : H4 R = some (.lst xs) := s7 _ _ (K3 _ _ eR nRb)
      have nrab : ra ≠ b := fun n => by
        obtain ⟨_, _, _, _, h1, _⟩ := hb.ex
        rw [n, h1] at era
        cases era
      have era4 : H4 ra = some (.tup (.str rl.1 :: ys)) := s7 _ _ (K3 _ _ era nrab)
      rw [erav] at drl
      have hxl : xs[xs.length - 1]? = some (.ref ra) := by rw [List.getElem?_eq_getElem nl, erav]
      refine ⟨_, rfl, 1, rfl, R, xs, -1, .ref ra, rfl, rfl, .inl (.inl eR4), at_last hxl, 1, rfl, ra, _, rfl, .inl (.inl era4), cut_late (i := 1) (by simp; omega) (by decide), fun t2 nt2 => ?_⟩
      rw [show cutV (V.str rl.1 :: ys) (some (1 : Int)) none = ys from cut_from (V.str rl.1 :: ys) 1]
      have s8 : Same H4 (upd H4 t2 (.tup ys)) := same_new nt2 _
      have ht2 : (upd H4 t2 (.tup ys)) t2 = some (.tup ys) := upd_same
      generalize (upd H4 t2 (.tup ys)) = H5 at s8 ht2 ⊢
      refine ⟨t1, t2, [.str z], ys, rfl, rfl, .inl (.inl (s8 _ _ ht1)), .inl (.inl ht2), (by simp), small (by simp; omega), (fun n => by rw [n] at l3; simp at l3), fun _ t3 nt3 => ?_⟩
      have s9 : Same H5 (upd H5 t3 (.tup ([.str z] ++ ys))) := same_new nt3 _
      have ht3 : (upd H5 t3 (.tup ([.str z] ++ ys))) t3 = some (.tup (.str z :: ys)) := upd_same
      generalize (upd H5 t3 (.tup ([.str z] ++ ys))) = H6 at s9 ht3 ⊢
      have s79 := (s7.trans s8).trans s9
      refine ⟨_, rfl, 1, rfl, R, xs, -1, xs.length - 1, rfl, rfl, s9 _ _ (s8 _ _ eR4), ix_last (by omega), ?_⟩
      refine ⟨_, rfl, rfl, _, rfl, ff_if (by decide +kernel) (ff_if rfl ?_)⟩
      refine ⟨_, rfl, rfl, _, rfl, ff_if (by decide +kernel) (ff_if rfl ?_)⟩
      have erl' : (r0 :: rest)[xs.length - 1]? = some rl := erl
      have okl := ok.ok rl (List.mem_of_getElem? erl')
      have nt3R : t3 ≠ R := fun n => by rw [n, s8 _ _ eR4] at nt3; cases nt3
      have nt3b : t3 ≠ b := ((hb3.same (s7.trans s8)).nb nt3)
      refine q _ ((r0 :: rest).set (xs.length - 1) (z, rl.2)) _ (ok.put erl' okz okl.2 (.inr nz)) upd_same ?_ (((hb3.same s79)).set nRb nRc) fun a o e ab aR => by rw [upd_ne aR]; exact s79 _ _ (K3 _ _ e ab)
      rw [List.map_set]
      refine DTs.set (DTs.mono (fun a o h e => by rw [upd_ne h.2]; exact s79 _ _ (K3 _ _ e h.1)) dd) ?_
      rw [shp z]
      exact .tup (by rw [upd_ne nt3R]; exact ht3) ⟨nt3b, nt3R⟩ (.cons (.str _) (DTs.mono (fun a o h e => by rw [upd_ne h.2]; exact s79 _ _ (K3 _ _ e h.1)) dys))
  · -- 3
    refine ⟨_, rfl, rfl, _, rfl, ff_if (by decide +kernel) (ff_if rfl ?_)⟩
    refine ⟨_, rfl, rfl, _, rfl, ff_if (by decide +kernel) (ff_if rfl ?_)⟩
    refine ⟨_, rfl, rfl, _, rfl, ff_if (by decide +kernel) (ff_if rfl ?_)⟩
    refine ⟨_, rfl, rfl, _, rfl, tt_if (by decide +kernel) ⟨_, rfl, small (by show 0 ≤ 1000; decide), fun e ne => ⟨rulesT rs, .lst [], fun _ => True, fun _ => True, .lst (same_new ne _ _ _ eR) trivial ((dd.sub fun _ _ => trivial).same (same_new ne _)), .lst upd_same trivial .nil, shR, by decide, _, rfl, ?_⟩⟩⟩
    rw [rules_ne]
    have s1 : Same H (upd H e (.lst [])) := same_new ne _
    generalize (upd H e (.lst [])) = H1 at s1 ⊢
    clear ne
    have hb1 := hb.same s1
    have eR1 := s1 _ _ eR
    cases rs with
    | nil =>
      refine ff_if rfl ?_
      refine ⟨_, rfl, rfl, _, rfl, ff_if (by decide +kernel) (ff_if rfl ?_)⟩
      exact fin0 s1
    | cons r0 rest =>
      refine tt_if rfl ?_
      have l1 : xs.length = (r0 :: rest).length := lxs
      have lp : (0 : Int) < (xs.length : Nat) := by rw [l1, List.length_cons]; omega
      refine ⟨_, rfl, _, rfl, R, xs, rfl, .inl (.inl (.inl eR1)), b, c, _, rfl, hb1, lp, by omega, fun i H2 i0 i1 hb2 B2 => ?_⟩
      obtain ⟨n, rfl⟩ : ∃ n : Nat, i = (n : Int) := ⟨i.toNat, by omega⟩
      have nl : n < xs.length := by omega
      have eR2 : H2 R = some (.lst xs) := B2 _ _ eR1 nRb
      have K2 : ∀ a o, H a = some o → a ≠ b → H2 a = some o := fun a o e ab => B2 _ _ (s1 _ _ e) ab
      obtain ⟨rl, erl, drl⟩ := ruleAt (List.getElem?_eq_getElem nl)
      obtain ⟨v, ev⟩ : ∃ v, v = xs[n] := ⟨_, rfl⟩
      rw [← ev] at drl
      have hxn : xs[n]? = some v := by rw [List.getElem?_eq_getElem nl, ev]
      have erl' : (r0 :: rest)[n]? = some rl := erl
      have okl := ok.ok rl (List.mem_of_getElem? erl')
      have dd2 : DTs H2 (fun a => a ≠ b ∧ a ≠ R) xs ((r0 :: rest).map ruleT) := DTs.mono (fun a o h e => K2 _ _ e h.1) dd
      have dv2 : DT H2 (fun a => a ≠ b ∧ a ≠ R) v (ruleT rl) := drl.mono fun a o h e => K2 _ _ e h.1
      obtain ⟨ra, zs, rfl, era, _, z0⟩ := rule_name dv2
      have dT2 : DT H2 (fun a => a ≠ b ∧ a ≠ R) (.ref T) (tablesT tabs) := dT.mono fun a o h e => K2 _ _ e h.1
      refine ⟨_, rfl, _, rfl, _, rfl, _, rfl, R, xs, n, .ref ra, rfl, rfl, .inl (.inl eR2), atI_nat hxn, ra, zs, 0, .str rl.1, rfl, rfl, .inl (.inl era), atI_nat (j := 0) z0, b, c, T, tabs, rl.1, rfl, hb2, dT2.sub fun a h => h.1, ok.tab, fun p r H3 dr okr np hb3 B3 => ?_⟩
      refine ⟨_, rfl, _, rfl, R, xs, n, n, rfl, rfl, B3 _ _ eR2 nRb, ix_nat nl, ?_⟩
      refine ⟨_, rfl, rfl, _, rfl, ff_if (by decide +kernel) (ff_if rfl ?_)⟩
      refine q _ ((r0 :: rest).set n (rl.1, r)) _ (ok.put erl' okl.1 okr (.inl rfl)) upd_same ?_ (hb3.set nRb nRc) fun a o e ab aR => by rw [upd_ne aR]; exact B3 _ _ (K2 _ _ e ab) ab
      rw [List.map_set]
      obtain ⟨ps, eps⟩ := refs_of dd2
      refine DTs.set (DTs.mono (fun a o h e => by rw [upd_ne h.2]; exact B3 _ _ e h.1) dd2) ((dr.sub fun a h => ⟨h.1, fun m => ?_⟩).mono fun a o h e => by rw [upd_ne h.2]; exact e)
      exact h.2 ps (by rw [m, eR2, eps])
  · -- 4
    refine ⟨_, rfl, rfl, _, rfl, ff_if (by decide +kernel) (ff_if rfl ?_)⟩
    refine ⟨_, rfl, rfl, _, rfl, ff_if (by decide +kernel) (ff_if rfl ?_)⟩
    refine ⟨_, rfl, rfl, _, rfl, ff_if (by decide +kernel) (ff_if rfl ?_)⟩
    refine ⟨_, rfl, rfl, _, rfl, ff_if (by decide +kernel) (ff_if rfl ?_)⟩
    refine ⟨_, rfl, rfl, _, rfl, tt_if (by decide +kernel) ⟨_, rfl, small (by show 0 ≤ 1000; decide), fun e ne => ⟨rulesT rs, .lst [], fun _ => True, fun _ => True, .lst (same_new ne _ _ _ eR) trivial ((dd.sub fun _ _ => trivial).same (same_new ne _)), .lst upd_same trivial .nil, shR, by decide, _, rfl, ?_⟩⟩⟩
    rw [rules_ne]
    have s1 : Same H (upd H e (.lst [])) := same_new ne _
    generalize (upd H e (.lst [])) = H1 at s1 ⊢
    clear ne
    have hb1 := hb.same s1
    have eR1 := s1 _ _ eR
    cases rs with
    | nil =>
      refine ff_if rfl ?_
      exact fin0 s1
    | cons r0 rest =>
      refine tt_if rfl ?_
      have l1 : xs.length = (r0 :: rest).length := lxs
      have lp : (0 : Int) < (xs.length : Nat) := by rw [l1, List.length_cons]; omega
      refine ⟨_, rfl, _, rfl, R, xs, rfl, .inl (.inl (.inl eR1)), b, c, _, rfl, hb1, lp, by omega, fun i H2 i0 i1 hb2 B2 => ?_⟩
      obtain ⟨n, rfl⟩ : ∃ n : Nat, i = (n : Int) := ⟨i.toNat, by omega⟩
      have nl : n < xs.length := by omega
      have eR2 : H2 R = some (.lst xs) := B2 _ _ eR1 nRb
      have K2 : ∀ a o, H a = some o → a ≠ b → H2 a = some o := fun a o e ab => B2 _ _ (s1 _ _ e) ab
      obtain ⟨rl, erl, drl⟩ := ruleAt (List.getElem?_eq_getElem nl)
      obtain ⟨v, ev⟩ : ∃ v, v = xs[n] := ⟨_, rfl⟩
      rw [← ev] at drl
      have hxn : xs[n]? = some v := by rw [List.getElem?_eq_getElem nl, ev]
      have erl' : (r0 :: rest)[n]? = some rl := erl
      have okl := ok.ok rl (List.mem_of_getElem? erl')
      have dd2 : DTs H2 (fun a => a ≠ b ∧ a ≠ R) xs ((r0 :: rest).map ruleT) := DTs.mono (fun a o h e => K2 _ _ e h.1) dd
      have dv2 : DT H2 (fun a => a ≠ b ∧ a ≠ R) v (ruleT rl) := drl.mono fun a o h e => K2 _ _ e h.1
      obtain ⟨hd, ts, lh, et, etr, l0, l3, knd⟩ := rule_rev rl.1 rl.2
      have dv3 : DT H2 (fun a => a ≠ b ∧ a ≠ R) v (.tup (hd ++ ts)) := by rw [← et]; exact dv2
      obtain ⟨ra, ys, rfl, era, _, dys⟩ := dv3.tupI
      obtain ⟨dh, dt⟩ := dys.split
      rw [lh] at dh dt
      have ly : ys.length = 3 + ts.length := by rw [dys.len, List.length_append, lh]
      have ldr : (ys.drop 3).length = ts.length := by rw [List.length_drop]; omega
      refine ⟨_, rfl, _, rfl, R, xs, n, .ref ra, rfl, rfl, .inl (.inl eR2), atI_nat hxn, 3, rfl, ra, ys, rfl, .inl (.inl era), cut_early (i := 3) (by omega), fun t1 nt1 => ?_⟩
      rw [show cutV ys none (some (3 : Int)) = ys.take 3 from cut_take ys 3]
      have s7 : Same H2 (upd H2 t1 (.tup (ys.take 3))) := same_new nt1 _
      have ht1 : (upd H2 t1 (.tup (ys.take 3))) t1 = some (.tup (ys.take 3)) := upd_same
      generalize (upd H2 t1 (.tup (ys.take 3))) = H3 at s7 ht1 ⊢
      refine ⟨_, rfl, _, rfl, R, xs, n, .ref ra, rfl, rfl, .inl (.inl (s7 _ _ eR2)), atI_nat hxn, 3, rfl, ra, ys, rfl, .inl (.inl (s7 _ _ era)), cut_late (i := 3) (by omega) (by decide), fun t2 nt2 => ?_⟩
      rw [show cutV ys (some (3 : Int)) none = ys.drop 3 from cut_from ys 3]
      have s8 : Same H3 (upd H3 t2 (.tup (ys.drop 3))) := same_new nt2 _
      have ht2 : (upd H3 t2 (.tup (ys.drop 3))) t2 = some (.tup (ys.drop 3)) := upd_same
      generalize (upd H3 t2 (.tup (ys.drop 3))) = H4 at s8 ht2 ⊢
      have s28 := s7.trans s8
      refine ⟨t2, rfl, ⟨_, .inl (.inl ht2)⟩, fun D nD => ?_⟩
      have bAt2 : ∀ {Hx : Hp} {a : Addr}, Same H2 Hx → Hx a = none → a ≠ b ∧ a ≠ R := fun sx na => ⟨(hb2.same sx).nb na, fun m => by rw [m, sx _ _ eR2] at na; cases na⟩
      refine lc_tup (K := K) (a := t2) (xs := ys.drop 3) (CopU (fun a => a ≠ b ∧ a ≠ R) H4 D (ts.map revTr)) (CopU.zero nD) (fun i Hx _ p => .inl (.inl (p.1 _ _ ht2))) ?_ ?_
      · intro i y Hx hy p
        obtain ⟨t, ht, dty⟩ := dt.get hy
        have mt' := List.mem_of_getElem? ht
        have s9 := s28.trans p.1
        have nDx : ∀ {a : Addr} {o : HO}, H2 a = some o → a ≠ D := fun {a o} e n => by
          rw [n] at e
          rw [s28 _ _ e] at nD
          cases nD
        have hrv : (ts.map revTr)[i]? = some (revTr t) := by rw [List.getElem?_map, ht]; rfl
        obtain ⟨accD, hDD, _⟩ := p.2
        rcases knd t mt' with ⟨z, rfl⟩ | ⟨us, rfl⟩
        · cases dty
          refine ⟨rfl, yes_if ⟨_, rfl, _, .ty "list", _, _, false, rfl, .ty "list", .base (.str z), rfl, _, rfl, ff_if rfl ⟨_, rfl, ?_⟩⟩⟩
          exact p.go nD (t := .str z) hrv (by rw [List.length_map]; omega) (fun _ _ h => h) (.str z)
        · obtain ⟨la, vs, rfl, ela, nla, dvs⟩ := dty.lstI
          refine ⟨rfl, yes_if ⟨_, rfl, _, .ty "list", _, _, true, rfl, .ty "list", .base (.lst (s9 _ _ ela)), rfl, _, rfl, tt_if rfl ⟨_, rfl, la, vs, rfl, .inl (.inl (s9 _ _ ela)), fun lr nlr => ?_⟩⟩⟩
          have nlr' := bAt2 s9 nlr
          refine p.go nD (t := .lst us.reverse) hrv (by rw [List.length_map]; omega) (same_new nlr _) (.lst upd_same ⟨(fun n => by rw [n, hDD] at nlr; cases nlr), nlr'⟩ ?_)
          exact DTs.mono (fun a o h e => by rw [upd_ne (fun n => by rw [← n, s9 _ _ e] at nlr; cases nlr)]; exact s9 _ _ e) (dvs.rev.there nDx)
      intro Hx p
      rw [ldr] at p
      obtain ⟨s9, acc, hD, dacc⟩ := p.last (by rw [List.length_map]; exact Nat.le_refl _)
      have s29 := s28.trans s9
      refine ⟨D, acc, rfl, .inl ⟨.inl (.inl hD), fun t3 nt3 => ?_⟩⟩
      have s10 : Same Hx (upd Hx t3 (.tup acc)) := same_new nt3 _
      have ht3 : (upd Hx t3 (.tup acc)) t3 = some (.tup acc) := upd_same
      generalize (upd Hx t3 (.tup acc)) = H6 at s10 ht3 ⊢
      have la : acc.length = ts.length := by rw [dacc.len, List.length_map]
      refine ⟨t1, t3, ys.take 3, acc, rfl, rfl, .inl (.inl (s10 _ _ (s9 _ _ (s8 _ _ ht1)))), .inl (.inl ht3), (fun m => by have h1 := congrArg List.length m; rw [List.length_take, List.length_nil] at h1; omega), small (by rw [List.length_take]; omega), (fun m => by rw [m, List.length_nil] at la; omega), fun _ t4 nt4 => ?_⟩
      have s11 : Same H6 (upd H6 t4 (.tup (ys.take 3 ++ acc))) := same_new nt4 _
      have ht4 : (upd H6 t4 (.tup (ys.take 3 ++ acc))) t4 = some (.tup (ys.take 3 ++ acc)) := upd_same
      have n4 := bAt2 (s29.trans s10) nt4
      generalize (upd H6 t4 (.tup (ys.take 3 ++ acc))) = H7 at s11 ht4 ⊢
      have sA := (s29.trans s10).trans s11
      refine ⟨_, rfl, _, rfl, R, xs, n, n, rfl, rfl, sA _ _ eR2, ix_nat nl, ?_⟩
      refine q _ ((r0 :: rest).set n (rl.1, revRK rl.2)) _ (ok.put erl' okl.1 okl.2.rev (.inl rfl)) upd_same ?_ ((hb2.same sA).set nRb nRc) fun a o e ab aR => by rw [upd_ne aR]; exact sA _ _ (K2 _ _ e ab)
      rw [List.map_set]
      refine DTs.set (DTs.mono (fun a o h e => by rw [upd_ne h.2]; exact sA _ _ e) dd2) ?_
      rw [etr]
      refine .tup (by rw [upd_ne n4.2]; exact ht4) n4 (DTs.glue (DTs.mono (fun a o h e => by rw [upd_ne h.2]; exact sA _ _ e) dh) ?_)
      exact DTs.mono (fun a o h e => by rw [upd_ne h.2.2]; exact s11 _ _ (s10 _ _ e)) dacc |>.sub fun a h => h.2
end
end Lw

set_option Elab.async false
set_option linter.all false
set_option maxRecDepth 100000
set_option maxHeartbeats 4000000
/-! a text within another one; what a repr holds of the texts in it -/
namespace Lw
open PySem PySem.Spec PyProof.Rows L2
def Inf (y x : Str) : Prop := ∃ P Q : List Nat, x.cps.toList = P ++ (y.cps.toList ++ Q)
theorem Inf.refl (x : Str) : Inf x x := ⟨[], [], by simp⟩
theorem Inf.trans {x y z : Str} (h : Inf x y) (g : Inf y z) : Inf x z := by
  obtain ⟨P, Q, e⟩ := h
  obtain ⟨P', Q', e'⟩ := g
  exact ⟨P' ++ P, Q ++ Q', by rw [e', e]; simp⟩
theorem tl_app (a b : Str) : (a ++ b).cps.toList = a.cps.toList ++ b.cps.toList := by
  show (a.cps ++ b.cps).toList = _
  rw [Array.toList_append]
theorem Inf.left {x y : Str} (h : Inf x y) (z : Str) : Inf x (y ++ z) := by
  obtain ⟨P, Q, e⟩ := h
  exact ⟨P, Q ++ z.cps.toList, by rw [tl_app, e]; simp⟩
theorem Inf.right {x y : Str} (h : Inf x y) (z : Str) : Inf x (z ++ y) := by
  obtain ⟨P, Q, e⟩ := h
  exact ⟨z.cps.toList ++ P, Q, by rw [tl_app, e]; simp⟩
theorem inf_from : ∀ (ts : List Str) (k : Nat) (acc : Str), Inf acc (textFrom k acc ts) ∧ ∀ t ∈ ts, Inf t (textFrom k acc ts)
  | [], k, acc => ⟨Inf.refl acc, fun _ h => nomatch h⟩
  | t :: r, k, acc => by
    obtain ⟨h1, h2⟩ := inf_from r (k + 1) (acc ++ (if k > 0 then ", " else "" : String) ++ t)
    refine ⟨Inf.trans (((Inf.refl acc).left _).left _) h1, fun s hs => ?_⟩
    rcases List.mem_cons.mp hs with e | e
    · rw [e]
      exact Inf.trans ((Inf.refl t).right _) h1
    · exact h2 s e
theorem inf_join : ∀ (ts : List Str), ∀ t ∈ ts, Inf t (Str.join ", " ts)
  | [x], t, h => by rw [List.mem_singleton.mp h]; exact Inf.refl x
  | x :: y :: r, t, h => by
    show Inf t (x ++ ", " ++ Str.join ", " (y :: r))
    rcases List.mem_cons.mp h with e | e
    · rw [e]
      exact ((Inf.refl x).left _).left _
    · exact (inf_join (y :: r) t e).right _
theorem inf_list {ts : List Str} {t : Str} (h : t ∈ ts) : Inf t (listText ts) := ((inf_from ts 0 "[").2 t h).left _
theorem inf_tuple {ts : List Str} {t : Str} (h : t ∈ ts) : Inf t (tupleText ts) := ((inf_join ts t h).right _).left _
mutual
/-- a text stands somewhere in a tree without dicts -/
inductive Leaf (z : Str) : Tr → Prop
  | str : Leaf z (.str z)
  | lst {ts : List Tr} (h : LeafS z ts) : Leaf z (.lst ts)
  | tup {ts : List Tr} (h : LeafS z ts) : Leaf z (.tup ts)
inductive LeafS (z : Str) : List Tr → Prop
  | here {t : Tr} {ts : List Tr} (h : Leaf z t) : LeafS z (t :: ts)
  | there {t : Tr} {ts : List Tr} (h : LeafS z ts) : LeafS z (t :: ts)
end
theorem LeafS.of {z : Str} : ∀ {ts : List Tr} {t : Tr}, t ∈ ts → Leaf z t → LeafS z ts
  | x :: r, t, m, h => by
    rcases List.mem_cons.mp m with e | e
    · rw [← e]; exact .here h
    · exact .there (LeafS.of e h)
mutual
theorem Leaf.inf {z : Str} : ∀ {t : Tr}, Leaf z t → Inf (reprText z) t.data.shown
  | _, .str => Inf.refl _
  | _, .lst h => by
    obtain ⟨s, hs, i⟩ := LeafS.inf h
    exact i.trans (inf_list hs)
  | _, .tup h => by
    obtain ⟨s, hs, i⟩ := LeafS.inf h
    exact i.trans (inf_tuple hs)
theorem LeafS.inf {z : Str} : ∀ {ts : List Tr}, LeafS z ts → ∃ s ∈ PyData.shownAll (Tr.datas ts), Inf (reprText z) s
  | t :: r, .here h => ⟨t.data.shown, List.mem_cons_self, Leaf.inf h⟩
  | t :: r, .there h => by
    obtain ⟨s, hs, i⟩ := LeafS.inf h
    exact ⟨s, List.mem_cons_of_mem _ hs, i⟩
end
theorem Inf.found {x y : Str} (h : Inf y x) : (!(Builtin.Str.occurrences x y 0 x.length 1).isEmpty) = true := by
  obtain ⟨P, Q, e⟩ := h
  have lx : x.length = P.length + (y.length + Q.length) := by
    have h1 := congrArg List.length e
    rw [List.length_append, List.length_append, Array.length_toList, Array.length_toList] at h1
    exact h1
  refine (StrLaws.found_iff x y).mpr ⟨P.length, by omega, ?_⟩
  rw [StrLaws.subAt_eq, e, List.drop_left' rfl, List.take_left' (by rw [Array.length_toList]; rfl)]
  exact beq_self_eq_true _
/-- a name that no rule has -/
def FreeK (z : Str) : RK → Prop
  | .link tb fd x y => fd ≠ z ∧ (∀ t ∈ x, t.field ≠ z) ∧ ∀ t ∈ y, t.field ≠ z
  | .uniq tb fd => fd ≠ z
  | .one tb x => ∀ t ∈ x, t.field ≠ z
  | .chk tb x => ∀ t ∈ x, t.field ≠ z
theorem tst_leaf : ∀ t : Tst, Leaf t.field t.tree
  | .is f ws => .tup (.there (.here .str))
  | .non f => .tup (.there (.here .str))
  | .nt t => .tup (.there (.here (tst_leaf t)))
theorem tests_leaf {ts : List Tst} {t : Tst} (h : t ∈ ts) : Leaf t.field (testsT ts) := .lst (LeafS.of (List.mem_map_of_mem h) (tst_leaf t))
theorem free_of {z : Str} {r : Rul} (h : ¬ Leaf z (ruleT r)) : FreeK z r.2 := by
  obtain ⟨n, k⟩ := r
  cases k with
  | link tb fd x y => exact ⟨fun e => h (.tup (.there (.there (.there (.here (e ▸ .str)))))), fun t ht e => h (.tup (.there (.there (.there (.there (.here (e ▸ tests_leaf ht))))))), fun t ht e => h (.tup (.there (.there (.there (.there (.there (.here (e ▸ tests_leaf ht)))))))) ⟩
  | uniq tb fd => exact fun e => h (.tup (.there (.there (.there (.here (e ▸ .str))))))
  | one tb x => exact fun t ht e => h (.tup (.there (.there (.there (.here (e ▸ tests_leaf ht))))))
  | chk tb x => exact fun t ht e => h (.tup (.there (.there (.there (.here (e ▸ tests_leaf ht))))))
/-- where a name's repr is not in that of the rules, none of them has it -/
theorem free_rules {z : Str} {rs : List Rul} (h : (!(Builtin.Str.occurrences (rulesT rs).data.shown (reprText z) 0 (rulesT rs).data.shown.length 1).isEmpty) = false) : ∀ r ∈ rs, FreeK z r.2 := fun r hr => free_of fun l => by
  have i := Inf.found (Leaf.inf (z := z) (t := rulesT rs) (.lst (LeafS.of (List.mem_map_of_mem hr) l)))
  rw [i] at h
  cases h
/-! ### rules that stay rules where tables change -/
theorem TstC.mono {fs fs' : Flds} {m : Nat} : ∀ {t : Tst}, TstC fs m t → (∀ fl, (t.field, fl) ∈ fs → (t.field, fl) ∈ fs') → TstC fs' m t
  | .is f ws, .is a b c d e, h => .is (h _ a) b c d e
  | .non f, .lk a, h => .lk (h _ a)
  | .non f, .tg a, h => .tg (h _ a)
theorem core_field : ∀ t : Tst, t.core.field = t.field
  | .is _ _ => rfl
  | .non _ => rfl
  | .nt t => core_field t
theorem TstsOk.mono {fs fs' : Flds} {ts : List Tst} (o : TstsOk fs ts) (h : ∀ t ∈ ts, ∀ fl, (t.field, fl) ∈ fs → (t.field, fl) ∈ fs') : TstsOk fs' ts :=
  ⟨fun t ht => ⟨(o.1 t ht).dep, (o.1 t ht).core.mono fun fl m => by
    rw [core_field] at m ⊢
    exact h t ht fl m⟩, o.2⟩
/-- the tables changed at one of them: fields of other names than z stay -/
theorem RKOk.change {tabs tabs' : Tabs} {z : Str} {k : RK} (o : RKOk tabs k) (fr : FreeK z k) (h : ∀ tb fs, (tb, fs) ∈ tabs → ∃ fs', (tb, fs') ∈ tabs' ∧ ∀ f fl, f ≠ z → (f, fl) ∈ fs → (f, fl) ∈ fs') : RKOk tabs' k := by
  cases o with
  | link a l a2 tx ty =>
    obtain ⟨fs', m, k1⟩ := h _ _ a
    obtain ⟨fs2', m2, k2⟩ := h _ _ a2
    exact .link m (k1 _ _ fr.1 l) m2 (tx.mono fun t ht fl g => k1 _ _ (fr.2.1 t ht) g) (ty.mono fun t ht fl g => k2 _ _ (fr.2.2 t ht) g)
  | uniq a l =>
    obtain ⟨fs', m, k1⟩ := h _ _ a
    exact .uniq m (k1 _ _ fr l)
  | one a tx =>
    obtain ⟨fs', m, k1⟩ := h _ _ a
    exact .one m (tx.mono fun t ht fl g => k1 _ _ (fr t ht) g)
  | chk a tx =>
    obtain ⟨fs', m, k1⟩ := h _ _ a
    exact .chk m (tx.mono fun t ht fl g => k1 _ _ (fr t ht) g)
/-- .. where all fields stay -/
theorem RKOk.grow {tabs tabs' : Tabs} {k : RK} (o : RKOk tabs k) (h : ∀ tb fs, (tb, fs) ∈ tabs → ∃ fs', (tb, fs') ∈ tabs' ∧ ∀ f fl, (f, fl) ∈ fs → (f, fl) ∈ fs') : RKOk tabs' k := by
  cases o with
  | link a l a2 tx ty =>
    obtain ⟨fs', m, k1⟩ := h _ _ a
    obtain ⟨fs2', m2, k2⟩ := h _ _ a2
    exact .link m (k1 _ _ l) m2 (tx.mono fun t ht fl g => k1 _ _ g) (ty.mono fun t ht fl g => k2 _ _ g)
  | uniq a l =>
    obtain ⟨fs', m, k1⟩ := h _ _ a
    exact .uniq m (k1 _ _ l)
  | one a tx =>
    obtain ⟨fs', m, k1⟩ := h _ _ a
    exact .one m (tx.mono fun t ht fl g => k1 _ _ g)
  | chk a tx =>
    obtain ⟨fs', m, k1⟩ := h _ _ a
    exact .chk m (tx.mono fun t ht fl g => k1 _ _ g)
/-- repr of a text -/
theorem call_reprS {X : Cx} : CallR X (.builtin "repr") (fun xs H Q => ∃ z : Str, xs = [.str z] ∧ (reprText z).length ≤ sizeLine ∧ Q (.str (reprText z)) H) := by
  intro pl s σ H vs us Q J r h
  obtain ⟨z, rfl, sz, q⟩ := h
  cases r with
  | cons a b =>
    cases b
    obtain ⟨t, rfl⟩ := a
    exact PySem.P.repr_of_str ⟨.str (reprText z), H, J.tok _, ⟨_, rfl⟩, q⟩ sz
end Lw

set_option Elab.async false
set_option linter.all false
set_option maxRecDepth 100000
set_option maxHeartbeats 4000000
/-! one place of a tree is changed: the tree with that part otherwise -/
namespace Lw
open PySem PySem.Spec PyProof.Rows L2
theorem set_self {α : Type} : ∀ {l : List α} {i : Nat} {x : α}, l[i]? = some x → l.set i x = l
  | [], _, _, h => by simp at h
  | a :: r, 0, x, h => by cases h; rfl
  | a :: r, i + 1, x, h => by rw [List.set_cons_succ, set_self (by simpa using h)]
theorem DLs.pick {H : Hp} : ∀ {L : List Addr} {vs : List V} {ts : List Tr} {i : Nat} {v : V}, DLs H L vs ts → vs[i]? = some v → ∃ t M, ts[i]? = some t ∧ DL H M v t ∧ (∀ a ∈ M, a ∈ L) ∧ (L.Nodup → M.Nodup) ∧
    ∀ (H' : Hp) (A : Addr → Prop) (v' : V) (t' : Tr), L.Nodup → (∀ a ∈ L, a ∉ M → A a ∧ ∀ o, H a = some o → H' a = some o) → DT H' A v' t' → DTs H' A (vs.set i v') (ts.set i t')
  | _, _, _, _, _, .nil, e => by simp at e
  | _, _, _, 0, _, .cons (L := L) (M := M) x y, e => by
    cases e
    refine ⟨_, L, rfl, x, fun a h => List.mem_append_left _ h, fun n => (List.nodup_append.mp n).1, fun H' A v' t' n k d => ?_⟩
    have k' : ∀ a ∈ M, A a ∧ ∀ o, H a = some o → H' a = some o := fun a h => k a (List.mem_append_right _ h) fun h' => (List.nodup_append.mp n).2.2 a h' a h rfl
    exact .cons d ((y.keep fun a h => (k' a h).2).dts fun a h => (k' a h).1)
  | _, _, _, i + 1, _, .cons (L := L) (M := M) x y, e => by
    obtain ⟨t, N, ht, d, sub, nd, f⟩ := DLs.pick (i := i) y (by simpa using e)
    refine ⟨t, N, by simpa using ht, d, fun a h => List.mem_append_right _ (sub a h), fun n => nd (List.nodup_append.mp n).2.1, fun H' A v' t' n k d' => ?_⟩
    have kx : ∀ a ∈ L, A a ∧ ∀ o, H a = some o → H' a = some o := fun a h => k a (List.mem_append_left _ h) fun h' => (List.nodup_append.mp n).2.2 a h a (sub a h') rfl
    exact .cons ((x.keep fun a h => (kx a h).2).dt fun a h => (kx a h).1) (f H' A v' t' (List.nodup_append.mp n).2.1 (fun a h h' => k a (List.mem_append_right _ h) h') d')
theorem tk_of : ∀ {kvs : List (Key × V)} {ks : List Str}, kvs.map (·.1) = ks.map Sum.inr → ∃ es : List (Str × V), kvs = tkD es ∧ es.map (·.1) = ks
  | [], [], _ => ⟨[], rfl, rfl⟩
  | [], _ :: _, h => by cases h
  | _ :: _, [], h => by cases h
  | (k, v) :: r, z :: q, h => by
    obtain ⟨h1, h2⟩ := List.cons.inj h
    obtain ⟨es, rfl, rfl⟩ := tk_of h2
    have h1 : k = Sum.inr z := h1
    exact ⟨(z, v) :: es, by rw [h1]; rfl, rfl⟩
theorem DL.dctI {H : Hp} {L : List Addr} {v : V} {ks : List Str} {ts : List Tr} (x : DL H L v (.dct ks ts)) : ∃ a M es, v = .ref a ∧ L = a :: M ∧ H a = some (.dK (tkD es)) ∧ es.map (·.1) = ks ∧ ks.Nodup ∧ ks.length < 64 ∧ DLs H M (es.map (·.2)) ts := by
  cases x with
  | dct e k nd few d =>
    obtain ⟨es, rfl, rfl⟩ := tk_of k
    rw [tkD_vals] at d
    exact ⟨_, _, es, rfl, rfl, e, rfl, nd, few, d⟩
theorem DL.tupI {H : Hp} {L : List Addr} {v : V} {ts : List Tr} (x : DL H L v (.tup ts)) : ∃ a M xs, v = .ref a ∧ L = a :: M ∧ H a = some (.tup xs) ∧ DLs H M xs ts := by
  cases x with
  | tup e d => exact ⟨_, _, _, rfl, rfl, e, d⟩
theorem DL.lstI {H : Hp} {L : List Addr} {v : V} {ts : List Tr} (x : DL H L v (.lst ts)) : ∃ a M xs, v = .ref a ∧ L = a :: M ∧ H a = some (.lst xs) ∧ DLs H M xs ts := by
  cases x with
  | lst e d => exact ⟨_, _, _, rfl, rfl, e, d⟩
theorem DL.strI {H : Hp} {L : List Addr} {v : V} {z : Str} (x : DL H L v (.str z)) : v = .str z ∧ L = [] := by
  cases x with
  | str => exact ⟨rfl, rfl⟩
theorem DLs.strsI {H : Hp} : ∀ {L : List Addr} {vs : List V} {ws : List Str}, DLs H L vs (ws.map Tr.str) → vs = ws.map V.str ∧ L = []
  | _, _, [], .nil => ⟨rfl, rfl⟩
  | _, _, w :: ws, .cons x y => by
    obtain ⟨rfl, rfl⟩ := x.strI
    obtain ⟨rfl, rfl⟩ := DLs.strsI y
    exact ⟨rfl, rfl⟩
/-! ### dicts of texts: by index -/
theorem tk_val : ∀ {es : List (Str × V)} {i : Nat} {z : Str} {v : V}, (es.map (·.1)).Nodup → es[i]? = some (z, v) → valV (tkD es) (.inr z) = some v
  | [], _, _, _, _, h => by simp at h
  | p :: r, 0, z, v, nd, h => by
    cases h
    exact valV_pos rfl
  | p :: r, i + 1, z, v, nd, h => by
    have h' : r[i]? = some (z, v) := by simpa using h
    have nd' := List.nodup_cons.mp nd
    have ne : p.1 ≠ z := fun e => nd'.1 (by show p.1 ∈ _; rw [e]; exact List.mem_map_of_mem (f := (·.1)) (List.mem_of_getElem? h'))
    show valV ((Sum.inr p.1, p.2) :: tkD r) _ = _
    rw [valV_neg (by exact fun e => ne (Sum.inr.inj e))]
    exact tk_val nd'.2 h'
theorem tk_drop : ∀ {es : List (Str × V)} {i : Nat} {z : Str} {v : V}, (es.map (·.1)).Nodup → es[i]? = some (z, v) → dropK (tkD es) (.inr z) = tkD (es.eraseIdx i)
  | [], _, _, _, _, h => by simp at h
  | p :: r, 0, z, v, nd, h => by
    cases h
    show dropK ((Sum.inr z, v) :: tkD r) _ = _
    rw [dropK_pos rfl, dropK_no (fun m => by
      rw [tkD_keys] at m
      obtain ⟨y, hy, e⟩ := List.mem_map.mp m
      rw [Sum.inr.inj e] at hy
      exact (List.nodup_cons.mp nd).1 hy)]
    rfl
  | p :: r, i + 1, z, v, nd, h => by
    have h' : r[i]? = some (z, v) := by simpa using h
    have nd' := List.nodup_cons.mp nd
    have ne : p.1 ≠ z := fun e => nd'.1 (by show p.1 ∈ _; rw [e]; exact List.mem_map_of_mem (f := (·.1)) (List.mem_of_getElem? h'))
    show dropK ((Sum.inr p.1, p.2) :: tkD r) _ = _
    rw [dropK_neg (by exact fun e => ne (Sum.inr.inj e)), tk_drop nd'.2 h']
    rfl
theorem tk_put : ∀ {es : List (Str × V)} {i : Nat} {z : Str} {v v' : V}, (es.map (·.1)).Nodup → es[i]? = some (z, v) → putK (tkD es) (.inr z) v' = tkD (es.set i (z, v'))
  | es, i, z, v, v', nd, h => by
    have hs : ((tkD es).any fun kv => decide (kv.1 = Sum.inr z)) = true := by rw [valV_any, tk_val nd h]; rfl
    unfold putK
    rw [if_pos hs]
    clear hs
    induction es generalizing i with
    | nil => simp at h
    | cons p r ih =>
      have nd' := List.nodup_cons.mp nd
      cases i with
      | zero =>
        cases h
        show (if (Sum.inr z : Key) = Sum.inr z then _ else _) :: List.map _ (tkD r) = tkD ((z, v') :: r)
        rw [if_pos rfl]
        refine congrArg ((Sum.inr z, v') :: ·) ?_
        have h1 : ∀ kv ∈ tkD r, (if kv.1 = (Sum.inr z : Key) then (kv.1, v') else kv) = kv := fun kv m => by
          rw [if_neg]
          intro e
          have m2 : kv.1 ∈ (tkD r).map (·.1) := List.mem_map_of_mem m
          rw [tkD_keys, e] at m2
          obtain ⟨y, hy, e2⟩ := List.mem_map.mp m2
          rw [Sum.inr.inj e2] at hy
          exact nd'.1 hy
        rw [List.map_congr_left h1]
        exact List.map_id' _
      | succ i =>
        have h' : r[i]? = some (z, v) := by simpa using h
        have ne : p.1 ≠ z := fun e => nd'.1 (by show p.1 ∈ _; rw [e]; exact List.mem_map_of_mem (f := (·.1)) (List.mem_of_getElem? h'))
        show (if (Sum.inr p.1 : Key) = Sum.inr z then _ else _) :: _ = _
        rw [if_neg (fun e => ne (Sum.inr.inj e))]
        show _ = (Sum.inr p.1, p.2) :: tkD (r.set i (z, v'))
        rw [← ih _ nd'.2 h']
/-! ### fields less, more, otherwise -/
theorem cnt_cons (p : Str × Fld) (fs : Flds) (k : Nat) : cntF (p :: fs) k = (if p.2.num = k then 1 else 0) + cntF fs k := by
  unfold cntF
  by_cases q : p.2.num = k
  · rw [if_pos q, List.filter_cons_of_pos (by exact decide_eq_true q), List.length_cons, Nat.add_comm]
  · rw [if_neg q, List.filter_cons_of_neg (by rw [decide_eq_true_eq]; exact q), Nat.zero_add]
theorem cnt_erase : ∀ {fs : Flds} {j : Nat} {z : Str} {fl : Fld} (k : Nat), fs[j]? = some (z, fl) → cntF (fs.eraseIdx j) k + (if fl.num = k then 1 else 0) = cntF fs k
  | [], _, _, _, _, h => by simp at h
  | p :: r, 0, z, fl, k, h => by
    cases h
    rw [cnt_cons]
    exact Nat.add_comm _ _
  | p :: r, j + 1, z, fl, k, h => by
    have h1 := cnt_erase (j := j) k (by simpa using h)
    rw [List.eraseIdx_cons_succ, cnt_cons, cnt_cons]
    omega
theorem cnt_set : ∀ {fs : Flds} {j : Nat} {z : Str} {fl fl' : Fld} (k : Nat), fs[j]? = some (z, fl) → fl'.num = fl.num → cntF (fs.set j (z, fl')) k = cntF fs k
  | [], _, _, _, _, _, h, _ => by simp at h
  | p :: r, 0, z, fl, fl', k, h, e => by
    cases h
    rw [List.set_cons_zero, cnt_cons, cnt_cons, e]
  | p :: r, j + 1, z, fl, fl', k, h, e => by
    have h1 := cnt_set (j := j) (fl' := fl') k (by simpa using h) e
    rw [List.set_cons_succ, cnt_cons, cnt_cons, h1]
theorem cnt_len : ∀ fs : Flds, fs.length = cntF fs 0 + cntF fs 1 + cntF fs 2
  | [] => rfl
  | p :: r => by
    have h := cnt_len r
    rw [List.length_cons, cnt_cons, cnt_cons, cnt_cons, h]
    cases p.2 with
    | mk ws =>
      show _ = (1 + _) + (0 + _) + (0 + _)
      omega
    | lk n =>
      show _ = (0 + _) + (1 + _) + (0 + _)
      omega
    | tg =>
      show _ = (0 + _) + (0 + _) + (1 + _)
      omega
theorem FldsOk.erase {ns : List Str} {fs : Flds} (o : FldsOk ns fs) {j : Nat} {z : Str} {fl : Fld} (h : fs[j]? = some (z, fl)) : FldsOk ns (fs.eraseIdx j) := by
  have sl := List.eraseIdx_sublist fs j
  refine ⟨(sl.map (·.1)).nodup o.nd, Nat.le_trans sl.length_le o.few, fun p hp => o.ok p (sl.subset hp), fun k k3 => ?_, fun p hp => o.val p (sl.subset hp)⟩
  have h1 := cnt_erase k h
  have h2 := o.two k k3
  omega
theorem fld_num3 (fl : Fld) : fl.num < 3 := by cases fl <;> simp [Fld.num]
theorem FldsOk.add {ns : List Str} {fs : Flds} (o : FldsOk ns fs) {z : Str} {fl : Fld} (nz : z ∉ fs.map (·.1)) (okz : NameOk z) (okf : FldOk ns fl) (c : cntF fs fl.num < 2) : FldsOk ns (fs ++ [(z, fl)]) := by
  have two : ∀ k, k < 3 → cntF (fs ++ [(z, fl)]) k ≤ 2 := fun k k3 => by
    rw [cntF_one]
    have := o.two k k3
    by_cases q : fl.num = k
    · rw [if_pos q]
      rw [q] at c
      omega
    · rw [if_neg q]
      omega
  refine ⟨?_, ?_, fun p hp => ?_, two, fun p hp => ?_⟩
  · rw [List.map_append]
    exact nd_snoc o.nd nz
  · rw [cnt_len]
    have := two 0 (by decide)
    have := two 1 (by decide)
    have := two 2 (by decide)
    omega
  · rcases List.mem_append.mp hp with h | h
    · exact o.ok p h
    · rw [List.mem_singleton.mp h]; exact okz
  · rcases List.mem_append.mp hp with h | h
    · exact o.val p h
    · rw [List.mem_singleton.mp h]; exact okf
theorem FldsOk.set {ns : List Str} {fs : Flds} (o : FldsOk ns fs) {j : Nat} {z : Str} {fl fl' : Fld} (h : fs[j]? = some (z, fl)) (e : fl'.num = fl.num) (okf : FldOk ns fl') : FldsOk ns (fs.set j (z, fl')) := by
  refine ⟨?_, by rw [List.length_set]; exact o.few, fun p hp => ?_, fun k k3 => by rw [cnt_set k h e]; exact o.two k k3, fun p hp => ?_⟩
  · rw [List.map_set, set_self (by rw [List.getElem?_map, h]; rfl)]
    exact o.nd
  · rcases List.mem_or_eq_of_mem_set hp with m | m
    · exact o.ok p m
    · rw [m]; exact (o.ok (z, fl) (List.mem_of_getElem? h) : NameOk z)
  · rcases List.mem_or_eq_of_mem_set hp with m | m
    · exact o.val p m
    · rw [m]; exact okf
theorem FldOk.more {ns ns' : List Str} {fl : Fld} (o : FldOk ns fl) (h : ∀ z ∈ ns, z ∈ ns') : FldOk ns' fl := by
  cases o with
  | mk c d few nd => exact .mk c d few nd
  | lk m => exact .lk (h _ m)
  | tg => exact .tg
theorem FldsOk.more {ns ns' : List Str} {fs : Flds} (o : FldsOk ns fs) (h : ∀ z ∈ ns, z ∈ ns') : FldsOk ns' fs := ⟨o.nd, o.few, o.ok, o.two, fun p hp => (o.val p hp).more h⟩
/-- a table with other fields -/
theorem tabs_keys {tabs : Tabs} {i : Nat} {tb : Str} {fs fs' : Flds} (h : tabs[i]? = some (tb, fs)) : (tabs.set i (tb, fs')).map (·.1) = tabs.map (·.1) := by
  rw [List.map_set, set_self (by rw [List.getElem?_map, h]; rfl)]
theorem TabsOk.set {tabs : Tabs} (o : TabsOk tabs) {i : Nat} {tb : Str} {fs fs' : Flds} (h : tabs[i]? = some (tb, fs)) (okf : FldsOk (tabs.map (·.1)) fs') : TabsOk (tabs.set i (tb, fs')) := by
  refine ⟨by rw [tabs_keys h]; exact o.nd, fun n => ?_, by rw [List.length_set]; exact o.few, fun p hp => ?_, fun p hp => ?_⟩
  · have l := congrArg List.length n
    rw [List.length_set] at l
    exact o.one (List.length_eq_zero_iff.mp l)
  · rcases List.mem_or_eq_of_mem_set hp with m | m
    · exact o.ok p m
    · rw [m]; exact (o.ok (tb, fs) (List.mem_of_getElem? h) : NameOk tb)
  · rw [tabs_keys h]
    rcases List.mem_or_eq_of_mem_set hp with m | m
    · exact o.val p m
    · rw [m]; exact okf
theorem tabs_set_mem {tabs : Tabs} (nd : (tabs.map (·.1)).Nodup) {i : Nat} {tb : Str} {fs fs' : Flds} (h : tabs[i]? = some (tb, fs)) {R : Flds → Flds → Prop} (self : ∀ f, R f f) (one : R fs fs') : ∀ t f, (t, f) ∈ tabs → ∃ f', (t, f') ∈ tabs.set i (tb, fs') ∧ R f f' := by
  intro t f m
  obtain ⟨j, hj⟩ := List.getElem?_of_mem m
  by_cases q : i = j
  · subst q
    rw [h] at hj
    cases hj
    exact ⟨fs', List.mem_of_getElem? (i := i) (by rw [List.getElem?_set_self ((List.getElem?_eq_some_iff.mp h).1)]), one⟩
  · exact ⟨f, List.mem_of_getElem? (i := j) (by rw [List.getElem?_set_ne q]; exact hj), self f⟩
/-- .. of free names -/
theorem PartsOk.change {tabs : Tabs} {rs : List Rul} (o : PartsOk tabs rs) {i : Nat} {tb z : Str} {fs fs' : Flds} (h : tabs[i]? = some (tb, fs)) (okf : FldsOk (tabs.map (·.1)) fs') (fr : ∀ r ∈ rs, FreeK z r.2) (k : ∀ f fl, f ≠ z → (f, fl) ∈ fs → (f, fl) ∈ fs') : PartsOk (tabs.set i (tb, fs')) rs :=
  ⟨o.tab.set h okf, o.nd, fun r hr => ⟨(o.ok r hr).1, (o.ok r hr).2.change (fr r hr) (tabs_set_mem o.tab.nd h (R := fun a b => ∀ f fl, f ≠ z → (f, fl) ∈ a → (f, fl) ∈ b) (fun _ _ _ _ m => m) k)⟩, o.few⟩
theorem PartsOk.grow {tabs : Tabs} {rs : List Rul} (o : PartsOk tabs rs) {i : Nat} {tb : Str} {fs fs' : Flds} (h : tabs[i]? = some (tb, fs)) (okf : FldsOk (tabs.map (·.1)) fs') (k : ∀ f fl, (f, fl) ∈ fs → (f, fl) ∈ fs') : PartsOk (tabs.set i (tb, fs')) rs :=
  ⟨o.tab.set h okf, o.nd, fun r hr => ⟨(o.ok r hr).1, (o.ok r hr).2.grow (tabs_set_mem o.tab.nd h (R := fun a b => ∀ f fl, (f, fl) ∈ a → (f, fl) ∈ b) (fun _ _ _ m => m) k)⟩, o.few⟩
theorem PartsOk.table {tabs : Tabs} {rs : List Rul} (o : PartsOk tabs rs) {z : Str} (nz : z ∉ tabs.map (·.1)) (okz : NameOk z) (l : tabs.length < 3) : PartsOk (tabs ++ [(z, [])]) rs := by
  have e : (tabs ++ [(z, ([] : Flds))]).map (·.1) = tabs.map (·.1) ++ [z] := by rw [List.map_append]; rfl
  refine ⟨⟨by rw [e]; exact nd_snoc o.tab.nd nz, by simp, by rw [List.length_append]; exact l, fun p hp => ?_, fun p hp => ?_⟩, o.nd, fun r hr => ⟨(o.ok r hr).1, (o.ok r hr).2.grow fun t f m => ⟨f, List.mem_append_left _ m, fun _ _ x => x⟩⟩, o.few⟩
  · rcases List.mem_append.mp hp with m | m
    · exact o.tab.ok p m
    · rw [List.mem_singleton.mp m]; exact okz
  · rw [e]
    rcases List.mem_append.mp hp with m | m
    · exact (o.tab.val p m).more fun z m => List.mem_append_left _ m
    · rw [List.mem_singleton.mp m]
      exact ⟨List.nodup_nil, Nat.zero_le _, (fun p h => nomatch h), (fun k _ => Nat.zero_le _), (fun p h => nomatch h)⟩
/-! ### in the heap -/
/-- a table of the tables: its place, and the tables with other fields in it -/
theorem tables_pick {H : Hp} {L : List Addr} {T : Addr} {tabs : Tabs} (x : DL H L (.ref T) (tablesT tabs)) (n : L.Nodup) {i : Nat} {tb : Str} {fs : Flds} (h : tabs[i]? = some (tb, fs)) :
    T ∈ L ∧ ∃ (f : Addr) (M : List Addr), (∀ H2 : Hp, (∀ o, H T = some o → H2 T = some o) → DGet H2 T (.str tb) (some (.ref f))) ∧ DL H (f :: M) (.ref f) (fieldsT fs) ∧ (f :: M).Nodup ∧ (∀ a ∈ f :: M, a ∈ L ∧ a ≠ T) ∧
    ∀ (H' : Hp) (A : Addr → Prop) (fs' : Flds), (∀ a ∈ L, a ∉ f :: M → A a ∧ ∀ o, H a = some o → H' a = some o) → DT H' A (.ref f) (fieldsT fs') → DT H' A (.ref T) (tablesT (tabs.set i (tb, fs'))) := by
  obtain ⟨_, M0, es, e1, rfl, e, ek, nd, few, d⟩ := DL.dctI x
  cases e1
  have le : es.length = tabs.length := by
    have := congrArg List.length ek
    rw [List.length_map, List.length_map] at this
    exact this
  have il : i < es.length := by rw [le]; exact (List.getElem?_eq_some_iff.mp h).1
  obtain ⟨p, hp⟩ : ∃ p, es[i]? = some p := ⟨_, List.getElem?_eq_getElem il⟩
  have p1 : p.1 = tb := by
    have h1 : (es.map (·.1))[i]? = some p.1 := by rw [List.getElem?_map, hp]; rfl
    rw [ek, List.getElem?_map, h] at h1
    exact (Option.some.inj h1).symm
  obtain ⟨z, v⟩ := p
  have p1 : z = tb := p1
  subst p1
  have hv : (es.map (·.2))[i]? = some v := by rw [List.getElem?_map, hp]; rfl
  obtain ⟨t, M, ht, dv, sub, ndM, put⟩ := d.pick hv
  rw [List.getElem?_map, h] at ht
  cases ht
  obtain ⟨f, M1, es1, rfl, rfl, _⟩ := dv.dctI
  have n' := List.nodup_cons.mp n
  refine ⟨List.mem_cons_self, f, M1, fun H2 k2 => ?_, dv, ndM n'.2, fun a m => ⟨List.mem_cons_of_mem _ (sub a m), fun q => n'.1 (q ▸ sub a m)⟩, fun H' A fs' k d' => ?_⟩
  · have h1 := DGet.k (k := .inr z) (k2 _ e)
    rw [tk_val (by rw [ek]; exact nd) hp] at h1
    exact h1
  · obtain ⟨a1, a2⟩ := k T List.mem_cons_self fun m => n'.1 (sub _ m)
    have d2 := put H' A _ _ n'.2 (fun a m q => k a (List.mem_cons_of_mem _ m) q) d'
    rw [set_self hv] at d2
    refine .dct (a2 _ e) a1 (by rw [tkD_keys, ek, ← tabs_keys (fs' := fs') h]) (by rw [tabs_keys h]; exact nd) (by rw [List.length_map, List.length_set, ← List.length_map (f := (·.1))]; exact few) ?_
    rw [tkD_vals, List.map_set]
    exact d2
/-- a field of a table: its place, and all values of the fields -/
theorem fields_pick {H : Hp} {f : Addr} {M : List Addr} {fs : Flds} (x : DL H (f :: M) (.ref f) (fieldsT fs)) (n : (f :: M).Nodup) :
    ∃ es : List (Str × V), H f = some (.dK (tkD es)) ∧ es.map (·.1) = fs.map (·.1) ∧ (es.map (·.1)).Nodup ∧ DLs H M (es.map (·.2)) (fs.map fun p => p.2.tree) := by
  obtain ⟨_, M0, es, e1, e2, e, ek, nd, few, d⟩ := DL.dctI x
  cases e1
  cases e2
  exact ⟨es, e, ek, by rw [ek]; exact nd, d⟩
theorem fields_ofT {H : Hp} {A : Addr → Prop} {f : Addr} {fs : Flds} {es : List (Str × V)} (e : H f = some (.dK (tkD es))) (a : A f) (k : es.map (·.1) = fs.map (·.1)) (nd : (fs.map (·.1)).Nodup) (few : fs.length < 64) (d : DTs H A (es.map (·.2)) (fs.map fun p => p.2.tree)) : DT H A (.ref f) (fieldsT fs) :=
  .dct e a (by rw [tkD_keys, k]) nd (by rw [List.length_map]; exact few) (by rw [tkD_vals]; exact d)
/-- the words of a mark -/
theorem words_pick {H : Hp} {f : Addr} {M : List Addr} {fs : Flds} (x : DL H (f :: M) (.ref f) (fieldsT fs)) (n : (f :: M).Nodup) {j : Nat} {z : Str} {ws : List Str} (h : fs[j]? = some (z, .mk ws)) (few : fs.length < 64) :
    ∃ t l es, H f = some (.dK (tkD es)) ∧ (es.map (·.1)).Nodup ∧ es[j]? = some (z, .ref t) ∧ t ∈ M ∧ l ∈ M ∧ H t = some (.tup [.str "mark", .ref l]) ∧ H l = some (.lst (ws.map V.str)) ∧
    ∀ (H' : Hp) (A : Addr → Prop) (ws' : List Str), (∀ a ∈ f :: M, a ≠ l → A a ∧ ∀ o, H a = some o → H' a = some o) → A l → H' l = some (.lst (ws'.map V.str)) → DT H' A (.ref f) (fieldsT (fs.set j (z, .mk ws'))) := by
  obtain ⟨es, e, ek, nd, d⟩ := fields_pick x n
  have le : es.length = fs.length := by
    have := congrArg List.length ek
    rw [List.length_map, List.length_map] at this
    exact this
  have jl : j < es.length := by rw [le]; exact (List.getElem?_eq_some_iff.mp h).1
  obtain ⟨p, hp⟩ : ∃ p, es[j]? = some p := ⟨_, List.getElem?_eq_getElem jl⟩
  have p1 : p.1 = z := by
    have h1 : (es.map (·.1))[j]? = some p.1 := by rw [List.getElem?_map, hp]; rfl
    rw [ek, List.getElem?_map, h] at h1
    exact (Option.some.inj h1).symm
  obtain ⟨z', v⟩ := p
  have p1 : z' = z := p1
  subst p1
  have hv : (es.map (·.2))[j]? = some v := by rw [List.getElem?_map, hp]; rfl
  obtain ⟨t, N, ht, dv, sub, ndN, put⟩ := d.pick hv
  rw [List.getElem?_map, h] at ht
  cases ht
  have n' := List.nodup_cons.mp n
  obtain ⟨t, N1, xs, rfl, rfl, et, dx⟩ := DL.tupI dv
  cases dx with
  | cons a y =>
    obtain ⟨rfl, rfl⟩ := a.strI
    cases y with
    | cons a2 y2 =>
      cases y2
      obtain ⟨l, N2, ys, rfl, rfl, el, dl⟩ := DL.lstI a2
      obtain ⟨rfl, rfl⟩ := dl.strsI
      have ndN' := List.nodup_cons.mp (ndN n'.2)
      have tM : t ∈ M := sub t List.mem_cons_self
      have lM : l ∈ M := sub l (by simp)
      have tl : t ≠ l := fun q => ndN'.1 (by rw [q]; simp)
      refine ⟨t, l, es, e, nd, hp, tM, lM, et, el, fun H' A ws' k al hl => ?_⟩
      have lf : f ≠ l := fun q => n'.1 (q ▸ lM)
      obtain ⟨a1, a2⟩ := k f List.mem_cons_self lf
      obtain ⟨b1, b2⟩ := k t (List.mem_cons_of_mem _ tM) tl
      have dn : DT H' A (.ref t) (Fld.mk ws').tree := .tup (b2 _ et) b1 (.cons (.str _) (.cons (.lst hl al (DTs.ofStrs _)) .nil))
      have d2 := put H' A _ _ n'.2 (fun a m q => k a (List.mem_cons_of_mem _ m) fun q2 => q (by rw [q2]; simp)) dn
      rw [set_self hv] at d2
      refine fields_ofT (a2 _ e) a1 (by rw [ek, List.map_set, set_self (by rw [List.getElem?_map, h]; rfl)]) (by rw [List.map_set, set_self (by rw [List.getElem?_map, h]; rfl), ← ek]; exact nd) (by rw [List.length_set]; exact few) ?_
      rw [List.map_set]
      exact d2
theorem sort_tag2 {fl : Fld} : fl.sort = "tag" ↔ fl.num = 2 := by
  cases fl with
  | mk ws => exact ⟨fun h => absurd (show ("mark" : Str) = "tag" from h) (by decide +kernel), fun h => absurd h (by show ¬ 0 = 2; decide)⟩
  | lk n => exact ⟨fun h => absurd (show ("link" : Str) = "tag" from h) (by decide +kernel), fun h => absurd h (by show ¬ 1 = 2; decide)⟩
  | tg => exact ⟨fun _ => rfl, fun _ => rfl⟩
theorem like_tags {fs : Flds} (nd : (fs.map (·.1)).Nodup) : (likeT fs "tag").length = cntF fs 2 := by
  unfold likeT cntF
  rw [((sortT_perm (fs.map (·.1))).filter _).length_eq, List.filter_map, List.length_map]
  refine congrArg List.length (List.filter_congr fun p hp => ?_)
  show decide ((fldAt fs p.1).map Fld.sort = some ("tag" : Str)) = _
  rw [fldAt_of nd (fl := p.2) hp]
  refine decide_eq_decide.mpr ⟨fun h => sort_tag2.mp (Option.some.inj h), fun h => congrArg some (sort_tag2.mpr h)⟩
end Lw

set_option Elab.async false
set_option linter.all false
set_option maxRecDepth 100000
set_option maxHeartbeats 8000000
namespace Lw
open PySem PySem.Spec PyProof.Rows L2
abbrev sOField : Stmt := topS 50
abbrev NOField : List Str := ["_law_bag_here", "_law_tables", "_law_rules", "_law_kind", "_law_table", "_law_fields_here", "_law_shown", "_law_free", "_law_name", "_law_words"]
theorem at_key {es : List (Str × V)} {fs : Flds} {j : Nat} {z : Str} {fl : Fld} (ek : es.map (·.1) = fs.map (·.1)) (hj : fs[j]? = some (z, fl)) : es[j]? = some (z, (es[j]?.map (·.2)).getD .non) := by
  have h1 : (es.map (·.1))[j]? = some z := by rw [ek, List.getElem?_map, hj]; rfl
  rw [List.getElem?_map] at h1
  cases e : es[j]? with
  | none => rw [e] at h1; cases h1
  | some p => rw [e] at h1; cases h1; rfl
theorem mk_ok {ns ws : List Str} : FldOk ns (.mk ws) → ws ≠ [] ∧ (∀ z ∈ ws, NameOk z) ∧ ws.length ≤ 4 ∧ ws.Nodup
  | .mk c d few nd => ⟨c, d, few, nd⟩
theorem mem_erase {fs : Flds} {j : Nat} {z g : Str} {fl gl : Fld} (m : (g, gl) ∈ fs) (hj : fs[j]? = some (z, fl)) (ne : g ≠ z) : (g, gl) ∈ fs.eraseIdx j := by
  obtain ⟨i, hi⟩ := List.getElem?_of_mem m
  exact List.mem_eraseIdx_iff_getElem?.mpr ⟨i, fun n => by rw [n, hj] at hi; cases hi; exact ne rfl, hi⟩
theorem mem_set {fs : Flds} {j : Nat} {z g : Str} {fl gl fl' : Fld} (m : (g, gl) ∈ fs) (hj : fs[j]? = some (z, fl)) (ne : g ≠ z) : (g, gl) ∈ fs.set j (z, fl') := by
  obtain ⟨i, hi⟩ := List.getElem?_of_mem m
  exact List.mem_of_getElem? (i := i) (by rw [List.getElem?_set_ne (fun n => by rw [← n, hj] at hi; cases hi; exact ne rfl)]; exact hi)
section
variable {P : Program} {w : World} {K : PySem.W.Frag} {mg : Str → Option Value} {base : Heap}
theorem scOField : FnScope NOField ["_law_bag_here", "_law_tables", "_law_rules", "_law_kind"] (defScope sOField) := ⟨rfl, rfl, rfl, by decide +kernel, rfl, by decide +kernel, by decide +kernel⟩
def spOField : Sp := fun vs H Q _ => ∃ (b c T R : Addr) (k : Nat) (tabs : Tabs) (rs : List Rul) (L : List Addr), vs = [.ref b, .ref T, .ref R, .int (k : Nat)] ∧ k ≤ 6 ∧ BagAt H b c ∧ b ∉ L ∧ c ∉ L ∧ DL H L (.ref T) (tablesT tabs) ∧ L.Nodup ∧ DT H (fun a => a ≠ b ∧ a ∉ L) (.ref R) (rulesT rs) ∧ PartsOk tabs rs ∧ (∀ p ∈ tabs, ∀ q ∈ p.2, q.2.w3) ∧
  ∀ (H' : Hp) (tabs' : Tabs), PartsOk tabs' rs → DT H' (· ≠ b) (.ref T) (tablesT tabs') → BagAt H' b c → (∀ a o, H a = some o → a ≠ b → a ∉ L → H' a = some o) → Q .non H'
theorem ok_ofield {f f34 f38 f48 : Addr} {fd fd34 fd38 fd48 : FuncData} (F : Fun K "_law_other_field" "_law_other_field" sOField f fd)
    (G34 : FnOk P w K mg base CX0 1 f34 fd34 ["_law_bag_here", "_law_many_here"] spTake) (m34 : mg "_law_take" = some (.ref f34)) (k34 : PySem.W.keepIn K (.ref f34) = true) (b34 : Binds K fd34 ["_law_bag_here", "_law_many_here"] [])
    (G38 : FnOk P w K mg base CX0 1 f38 fd38 ["_law_fields_here", "_law_sort"] spLike) (m38 : mg "_law_like" = some (.ref f38)) (k38 : PySem.W.keepIn K (.ref f38) = true) (b38 : Binds K fd38 ["_law_fields_here", "_law_sort"] [])
    (G48 : FnOk P w K mg base CX0 3 f48 fd48 ["_law_bag_here", "_law_known"] spStrange) (m48 : mg "_law_strange" = some (.ref f48)) (k48 : PySem.W.keepIn K (.ref f48) = true) (b48 : Binds K fd48 ["_law_bag_here", "_law_known"] [])
    (mlen : mg "len" = none) (mrepr : mg "repr" = none) (mso : mg "sorted" = none) (hs : ∃ o, base.get? sysModules = some o) : FnG P w K mg base 4 f fd ["_law_bag_here", "_law_tables", "_law_rules", "_law_kind"] spOField := by
  refine fun_okG F scOField (fun vs H Q E h => ?_) (fun cdv A0 outer s0 H vs Q E hr hg h => ?_)
  · obtain ⟨b, c, T, R, k, tabs, rs, L, rfl, _⟩ := h
    rfl
  obtain ⟨b, c, T, R, k, tabs, rs, L, rfl, k6, hb, bL, cL, dT, nd, dR, ok, w3, q⟩ := h
  have hu : (cxOf CX0 P w K mg base NOField "_law_other_field" (defScope sOField) f cdv A0 outer s0 H E).nox.A.units + 64 < cLine := hr.units
  have tail : ∃ u, PSs (cxOf CX0 P w K mg base NOField "_law_other_field" (defScope sOField) f cdv A0 outer s0 H E).nox ((defBody sOField).drop 4) u ∧ ∀ (nm : V) (tb sh : Str) (fa fr : Addr) (i : Nat) (fs : Flds) (M : List Addr) (H5 : Hp),
      (nm = .non ∨ ∃ (z : Str) (j : Nat) (fl : Fld), nm = .str z ∧ fs[j]? = some (z, fl) ∧ ∀ r ∈ rs, FreeK z r.2) → tabs[i]? = some (tb, fs) → BagAt H5 b c → But b H H5 →
      (∀ H2 : Hp, (∀ o, H T = some o → H2 T = some o) → DGet H2 T (.str tb) (some (.ref fa))) →
      DL H (fa :: M) (.ref fa) (fieldsT fs) → (fa :: M).Nodup → (∀ a ∈ fa :: M, a ∈ L ∧ a ≠ T) →
      (∀ (H' : Hp) (A : Addr → Prop) (fs' : Flds), (∀ a ∈ L, a ∉ fa :: M → A a ∧ ∀ o, H a = some o → H' a = some o) → DT H' A (.ref fa) (fieldsT fs') → DT H' A (.ref T) (tablesT (tabs.set i (tb, fs')))) →
      u { nx := fun _ H' => Q .non H', rt := Q } [some (.ref b), some (.ref T), some (.ref R), some (.int (k : Nat)), some (.str tb), some (.ref fa), some (.str sh), some (.ref fr), some nm, none] H5 := by
    refine ⟨_, (pss_cons (ps_if (PW.pt (pw_and (pt_cmpR op_eq (pv 3) pe_int (nomark _)) (pw_and1 (pt_cmpR op_notN (pv 8) pe_non (nomark _))))) (pss_one (ps_expr (pe_dpop1 (pv 5) (pv 8) ⟨rfl, rfl, rfl, rfl⟩))) pss_nil)
    (pss_cons (ps_if (PW.pt (pw_and (pt_cmpR op_eq (pv 3) pe_int (nomark _)) (pw_and1 (pt_cmpR op_lt (pe_callB call_len_seq (by rfl) mlen (by decide +kernel) (pa_cons (pe_call G38 (hr.mono (by decide)) (by rfl) m38 k38 b38 .nil pass0 (pa_cons (pv 5) (pa_cons pe_str pa_nil))) pa_nil)) pe_int (nomark _))))) (pss_one (ps_dput (hu_of hr) (pv 5) (pe_call G48 (hr.mono (by decide)) (by rfl) m48 k48 b48 .nil pass0 (pa_cons (pv 0) (pa_cons (pe_callB (call_sortedD rfl) (by rfl) mso (by decide +kernel) (pa_cons (pv 5) pa_nil)) pa_nil))) (pe_tup (pa_cons pe_str pa_nil)) (by rfl))) pss_nil)
    (pss_cons (ps_if (PW.pt (pw_and (pt_cmpR op_eq (pv 3) pe_int (nomark _)) (pw_and1 (pt_cmpR op_notN (pv 8) pe_non (nomark _))))) (pss_one (ps_dput (hu_of hr) (pv 5) (pe_call G48 (hr.mono (by decide)) (by rfl) m48 k48 b48 .nil pass0 (pa_cons (pv 0) (pa_cons (pe_callB (call_sortedD rfl) (by rfl) mso (by decide +kernel) (pa_cons (pv 5) pa_nil)) pa_nil))) (pe_dpop1 (pv 5) (pv 8) ⟨rfl, rfl, rfl, rfl⟩) (by rfl))) pss_nil)
    (pss_cons (ps_if (PW.pt (pw_and (pt_cmpR op_eq (pv 3) pe_int (nomark _)) (pw_and (pt_cmpR op_notN (pv 8) pe_non (nomark _)) (pw_and1 (pt_cmpR op_eq (pe_ix ix_tup (pe_dget (hu_of hr) (pv 5) (pv 8) (fun _ _ => rfl)) pe_int (fun _ _ => rfl)) pe_str (nomark _)))))) (pss_one (ps_dput (hu_of hr) (pv 5) (pv 8) (pe_tup (pa_cons pe_str (pa_cons (pe_ix ix_list (pe_callB (call_sortedD rfl) (by rfl) mso (by decide +kernel) (pa_cons (pv 1) pa_nil)) (pe_call G34 (hr.mono (by decide)) (by rfl) m34 k34 b34 .nil pass0 (pa_cons (pv 0) (pa_cons (pe_callB call_lenD (by rfl) mlen (by decide +kernel) (pa_cons (pv 1) pa_nil)) pa_nil))) (fun _ _ => rfl)) pa_nil))) (by rfl))) pss_nil)
    (pss_cons (ps_if (PW.pt (pw_and (pt_cmpR op_eq (pv 3) pe_int (nomark _)) (pw_and1 (pt_cmpR op_lt (pe_callB call_lenD (by rfl) mlen (by decide +kernel) (pa_cons (pv 1) pa_nil)) pe_int (nomark _))))) (pss_one (ps_dput (hu_of hr) (pv 1) (pe_call G48 (hr.mono (by decide)) (by rfl) m48 k48 b48 .nil pass0 (pa_cons (pv 0) (pa_cons (pe_callB (call_sortedD rfl) (by rfl) mso (by decide +kernel) (pa_cons (pv 1) pa_nil)) pa_nil))) pe_dnewK (by rfl))) pss_nil)
    (pss_cons (ps_if (PW.pt (pw_and (pt_cmpR op_eq (pv 3) pe_int (nomark _)) (pw_and (pt_cmpR op_notN (pv 8) pe_non (nomark _)) (pw_and1 (pt_cmpR op_eq (pe_ix ix_tup (pe_dget (hu_of hr) (pv 5) (pv 8) (fun _ _ => rfl)) pe_int (fun _ _ => rfl)) pe_str (nomark _)))))) (pss_cons (ps_set (i := 9) scOField.nd rfl (by first | exact .inl rfl | exact .inr rfl) (pe_ix ix_tup (pe_dget (hu_of hr) (pv 5) (pv 8) (fun _ _ => rfl)) pe_int (fun _ _ => rfl)))
    (pss_one (ps_asg (pe_call G48 (hr.mono (by decide)) (by rfl) m48 k48 b48 .nil pass0 (pa_cons (pv 0) (pa_cons (pv 9) pa_nil))) (pg_sub (pv 9) (pe_call G34 (hr.mono (by decide)) (by rfl) m34 k34 b34 .nil pass0 (pa_cons (pv 0) (pa_cons (pe_callB call_len_seq (by rfl) mlen (by decide +kernel) (pa_cons (pv 9) pa_nil)) pa_nil))) set_list)))) pss_nil)
    (pss_one (ps_if (PW.pt (pw_and (pt_cmpR op_eq (pv 3) pe_int (nomark _)) (pw_and (pt_cmpR op_notN (pv 8) pe_non (nomark _)) (pw_and1 (pt_cmpR op_eq (pe_ix ix_tup (pe_dget (hu_of hr) (pv 5) (pv 8) (fun _ _ => rfl)) pe_int (fun _ _ => rfl)) pe_str (nomark _)))))) (pss_one (ps_expr (pe_bm PySem.F.plainAttrs_list PySem.F.slot_list_append PySem.F.type_list_append mt_append (pe_ix ix_tup (pe_dget (hu_of hr) (pv 5) (pv 8) (fun _ _ => rfl)) pe_int (fun _ _ => rfl)) (pa_cons (pe_call G48 (hr.mono (by decide)) (by rfl) m48 k48 b48 .nil pass0 (pa_cons (pv 0) (pa_cons (pe_ix ix_tup (pe_dget (hu_of hr) (pv 5) (pv 8) (fun _ _ => rfl)) pe_int (fun _ _ => rfl)) pa_nil))) pa_nil)))) pss_nil)))))))), ?_⟩
    intro nm tb sh fa fr i fs M H5 hnm hi hb5 B5 dg dF0 ndF sub put
    have nb : ∀ {a : Addr}, a ∈ L → a ≠ b := fun m n => bL (n ▸ m)
    have nc : ∀ {a : Addr}, a ∈ L → a ≠ c := fun m n => cL (n ▸ m)
    have mF : ∀ {a : Addr}, a ∈ fa :: M → a ∈ L := fun m => (sub _ m).1
    have fin0 : ∀ {Hx : Hp}, BagAt Hx b c → But b H Hx → Q .non Hx := fun hbx Bx => q _ tabs ok ((dT.keep fun a m o e => Bx _ _ e (nb m)).dt fun a m => nb m) hbx fun a o e ab _ => Bx _ _ e ab
    have okF : FldsOk (tabs.map (·.1)) fs := ok.tab.val _ (List.mem_of_getElem? hi)
    obtain ⟨es, eF, ekF, nkF, dvF⟩ := fields_pick dF0 ndF
    have lf6 := okF.few
    have les : es.length = fs.length := by
      have := congrArg List.length ekF
      rw [List.length_map, List.length_map] at this
      exact this
    have mfa : fa ∈ L := mF List.mem_cons_self
    have eF5 : H5 fa = some (.dK (tkD es)) := B5 _ _ eF (nb mfa)
    have nM : ∀ a ∈ M, a ≠ fa := fun a m n => (List.nodup_cons.mp ndF).1 (n ▸ m)
    -- the fields are others: what is left to be shown
    have finF : ∀ {Hx Hy : Hp} {fs' : Flds} {es' : List (Str × V)}, But b H Hx → BagAt Hx b c → (∀ a o, Hx a = some o → a ≠ fa → Hy a = some o) → BagAt Hy b c → Hy fa = some (.dK (tkD es')) → es'.map (·.1) = fs'.map (·.1) → FldsOk (tabs.map (·.1)) fs' →
        PartsOk (tabs.set i (tb, fs')) rs → DTs Hy (· ≠ b) (es'.map (·.2)) (fs'.map fun p => p.2.tree) → Q .non Hy := fun {Hx Hy fs' es'} Bx hbx kp hby e' k' o' p' d' => by
      have l6 := o'.few
      refine q _ _ p' (put Hy (· ≠ b) fs' (fun a m n => ⟨nb m, fun o e => kp _ _ (Bx _ _ e (nb m)) fun z => n (by rw [z]; exact List.mem_cons_self)⟩) (fields_ofT e' (nb mfa) k' o'.nd (by omega) d')) hby fun a o e ab aL => kp _ _ (Bx _ _ e ab) fun z => aL (z ▸ mfa)
    have dvAt : ∀ {Hx : Hp}, (∀ a o, H a = some o → a ≠ b → a ≠ fa → Hx a = some o) → DTs Hx (· ≠ b) (es.map (·.2)) (fs.map fun p => p.2.tree) := fun {Hx} kp => (dvF.keep fun a m o e => kp _ _ e (nb (mF (List.mem_cons_of_mem _ m))) (nM a m)).dts fun a m => nb (mF (List.mem_cons_of_mem _ m))
    obtain rfl | rfl | rfl | rfl | rfl | rfl | rfl : k = 0 ∨ k = 1 ∨ k = 2 ∨ k = 3 ∨ k = 4 ∨ k = 5 ∨ k = 6 := by omega
    · -- 0
      rcases hnm with rfl | ⟨z, j, fl, rfl, hj, fr⟩
      · refine ⟨_, rfl, rfl, _, rfl, tt_if (by decide +kernel) ⟨_, rfl, rfl, _, rfl, ff_if rfl ?_⟩⟩
        iterate 6 refine ⟨_, rfl, rfl, _, rfl, ff_if (by decide +kernel) (ff_if rfl ?_)⟩
        exact fin0 hb5 B5
      · refine ⟨_, rfl, rfl, _, rfl, tt_if (by decide +kernel) ⟨_, rfl, rfl, _, rfl, tt_if rfl ?_⟩⟩
        obtain ⟨v, ev⟩ : ∃ v, es[j]? = some (z, v) := ⟨_, at_key ekF hj⟩
        refine ⟨_, rfl, fa, rfl, .inl ⟨_, .inl eF5⟩, _, rfl, tkD es, .inr z, v, eF5, rfl, tk_val nkF ev, ?_⟩
        rw [tk_drop nkF ev]
        iterate 6 refine ⟨_, rfl, rfl, _, rfl, ff_if (by decide +kernel) (ff_if rfl ?_)⟩
        refine finF (fs' := fs.eraseIdx j) B5 hb5 (fun a o e n => by rw [upd_ne n]; exact e) (hb5.set (nb mfa) (nc mfa)) upd_same (by rw [← eraseIdx_map', ekF, eraseIdx_map']) (okF.erase hj) (ok.change hi (okF.erase hj) fr fun g gl ne m => mem_erase m hj ne) ?_
        rw [← eraseIdx_map', ← eraseIdx_map']
        exact (dvAt fun a o e ab af => by rw [upd_ne af]; exact B5 _ _ e ab).erase
    · -- 1
      refine ⟨_, rfl, rfl, _, rfl, ff_if (by decide +kernel) (ff_if rfl ?_)⟩
      refine ⟨_, rfl, rfl, _, rfl, tt_if (by decide +kernel) ⟨_, rfl, fa, fs, _, "tag", rfl, (dF0.keep fun a m o e => B5 _ _ e (nb (mF m))).dt (A := fun _ => True) (fun _ _ => trivial), fun p H6 s6 np hp => ⟨p, _, rfl, .inl (.inl (.inl hp)), _, _, rfl, rfl, _, rfl, ?_⟩⟩⟩
      rw [List.length_map, like_tags okF.nd]
      have hb6 := hb5.same s6
      have B6 := B5.trans (Same.but s6 b)
      by_cases g : cntF fs 2 < 2
      · refine tt_if (decide_eq_true (by omega)) ?_
        refine ⟨small (by show 1 ≤ 1000; decide), fun t nt => ⟨_, rfl, _, rfl, _, rfl, ?_⟩⟩
        have s7 : Same H6 (upd H6 t (.tup [.str "tag"])) := same_new nt _
        have ht : (upd H6 t (.tup [.str "tag"])) t = some (.tup [.str "tag"]) := upd_same
        generalize (upd H6 t (.tup [.str "tag"])) = H7 at s7 ht ⊢
        have eF7 := s7 _ _ (s6 _ _ eF5)
        refine ⟨fa, tkD es, fs.map (·.1), rfl, .inl eF7, by rw [tkD_keys, ekF], by rw [List.length_map]; omega, fun ys p2 pm srt np2 => ?_⟩
        have s8 : Same H7 (upd H7 p2 (.lst (ys.map V.str))) := same_new np2 _
        have hp2 : (upd H7 p2 (.lst (ys.map V.str))) p2 = some (.lst (ys.map V.str)) := upd_same
        generalize (upd H7 p2 (.lst (ys.map V.str))) = H8 at s8 hp2 ⊢
        have s68 := s7.trans s8
        refine ⟨b, c, p2, ys, rfl, hb6.same s68, hp2, by rw [pm.length_eq, List.length_map]; omega, fun z H9 okz nz hb9 B9 => ?_⟩
        have nz' : z ∉ fs.map (·.1) := fun m => nz (pm.mem_iff.mpr m)
        have eF9 : H9 fa = some (.dK (tkD es)) := B9 _ _ (s8 _ _ eF7) (nb mfa)
        have ntb : t ≠ b := hb6.nb nt
        have htf : t ≠ fa := fun n => by rw [n, eF7] at ht; cases ht
        refine ⟨fa, _, rfl, .inl ⟨tkD es, .inr z, eF9, rfl, small1000 (by rw [List.length_map]; omega), rfl⟩, ?_⟩
        rw [putK_new (by rw [ekF]; exact nz')]
        iterate 5 refine ⟨_, rfl, rfl, _, rfl, ff_if (by decide +kernel) (ff_if rfl ?_)⟩
        have B09 : But b H H9 := ((B6.trans (Same.but s68 b)).trans B9)
        have okN := okF.add nz' okz (.tg) g
        refine finF (fs' := fs ++ [(z, .tg)]) B09 hb9 (fun a o e n => by rw [upd_ne n]; exact e) (hb9.set (nb mfa) (nc mfa)) upd_same (by rw [List.map_append, List.map_append, ekF]; rfl) okN (ok.grow hi okN fun g gl m => List.mem_append_left _ m) ?_
        rw [List.map_append, List.map_append]
        refine (dvAt fun a o e ab af => by rw [upd_ne af]; exact B09 _ _ e ab).snoc (.tup ?_ ntb (.cons (.str _) .nil))
        rw [upd_ne htf]
        exact B9 _ _ (s8 _ _ ht) ntb
      · refine ff_if (decide_eq_false (by omega)) ?_
        iterate 5 refine ⟨_, rfl, rfl, _, rfl, ff_if (by decide +kernel) (ff_if rfl ?_)⟩
        exact fin0 hb6 B6
    · -- 2
      iterate 2 refine ⟨_, rfl, rfl, _, rfl, ff_if (by decide +kernel) (ff_if rfl ?_)⟩
      rcases hnm with rfl | ⟨z, j, fl, rfl, hj, fr⟩
      · refine ⟨_, rfl, rfl, _, rfl, tt_if (by decide +kernel) ⟨_, rfl, rfl, _, rfl, ff_if rfl ?_⟩⟩
        iterate 4 refine ⟨_, rfl, rfl, _, rfl, ff_if (by decide +kernel) (ff_if rfl ?_)⟩
        exact fin0 hb5 B5
      · refine ⟨_, rfl, rfl, _, rfl, tt_if (by decide +kernel) ⟨_, rfl, rfl, _, rfl, tt_if rfl ?_⟩⟩
        obtain ⟨v, ev⟩ : ∃ v, es[j]? = some (z, v) := ⟨_, at_key ekF hj⟩
        refine ⟨_, rfl, fa, rfl, .inl ⟨_, .inl eF5⟩, _, rfl, tkD es, .inr z, v, eF5, rfl, tk_val nkF ev, ?_⟩
        rw [tk_drop nkF ev]
        have eFe : (upd H5 fa (.dK (tkD (es.eraseIdx j)))) fa = some (.dK (tkD (es.eraseIdx j))) := upd_same
        have k6 : ∀ a o, H a = some o → a ≠ b → a ≠ fa → (upd H5 fa (.dK (tkD (es.eraseIdx j)))) a = some o := fun a o e ab af => by rw [upd_ne af]; exact B5 _ _ e ab
        have hb6 : BagAt (upd H5 fa (.dK (tkD (es.eraseIdx j)))) b c := hb5.set (nb mfa) (nc mfa)
        generalize (upd H5 fa (.dK (tkD (es.eraseIdx j)))) = H6 at eFe k6 hb6 ⊢
        have eke : (es.eraseIdx j).map (·.1) = (fs.eraseIdx j).map (·.1) := by rw [← eraseIdx_map', ekF, eraseIdx_map']
        have lee : (es.eraseIdx j).length ≤ 6 := by
          have h1 := List.length_eraseIdx_le es j
          omega
        refine ⟨_, rfl, _, rfl, _, rfl, fa, tkD (es.eraseIdx j), (fs.eraseIdx j).map (·.1), rfl, .inl eFe, by rw [tkD_keys, eke], ?_, fun ys p2 pm srt np2 => ?_⟩
        · rw [← eke, List.length_map]; omega
        have s8 : Same H6 (upd H6 p2 (.lst (ys.map V.str))) := same_new np2 _
        have hp2 : (upd H6 p2 (.lst (ys.map V.str))) p2 = some (.lst (ys.map V.str)) := upd_same
        generalize (upd H6 p2 (.lst (ys.map V.str))) = H8 at s8 hp2 ⊢
        refine ⟨b, c, p2, ys, rfl, hb6.same s8, hp2, by rw [pm.length_eq, ← eke, List.length_map]; omega, fun z2 H9 okz nz hb9 B9 => ?_⟩
        have nz' : z2 ∉ (fs.eraseIdx j).map (·.1) := fun m => nz (pm.mem_iff.mpr m)
        have eF9 : H9 fa = some (.dK (tkD (es.eraseIdx j))) := B9 _ _ (s8 _ _ eFe) (nb mfa)
        refine ⟨fa, _, rfl, .inl ⟨tkD (es.eraseIdx j), .inr z2, eF9, rfl, small1000 (by rw [List.length_map]; omega), rfl⟩, ?_⟩
        rw [putK_new (by rw [eke]; exact nz')]
        iterate 4 refine ⟨_, rfl, rfl, _, rfl, ff_if (by decide +kernel) (ff_if rfl ?_)⟩
        have okfl : FldOk (tabs.map (·.1)) fl := okF.val _ (List.mem_of_getElem? hj)
        have okN := (okF.erase hj).add nz' okz okfl (by
          have h1 := cnt_erase fl.num hj
          have h2 := okF.two fl.num (fld_num3 fl)
          rw [if_pos rfl] at h1
          omega)
        have k9 : ∀ a o, H a = some o → a ≠ b → a ≠ fa → (upd H9 fa (.dK (txD (es.eraseIdx j ++ [(z2, v)])))) a = some o := fun a o e ab af => by rw [upd_ne af]; exact B9 _ _ (s8 _ _ (k6 _ _ e ab af)) ab
        have dd := dvAt k9
        obtain ⟨t0, ht0, dv0⟩ := dd.get (i := j) (v := v) (by rw [List.getElem?_map, ev]; rfl)
        rw [List.getElem?_map, hj] at ht0
        cases ht0
        refine finF (fs' := fs.eraseIdx j ++ [(z2, fl)]) (Hx := upd H9 fa (.dK (tkD es))) ?_ (hb9.set (nb mfa) (nc mfa)) (fun a o e n => by rw [upd_ne n] at e ⊢; exact e) (hb9.set (nb mfa) (nc mfa)) upd_same (by rw [List.map_append, List.map_append, eke]; rfl) okN (ok.change hi okN fr fun g gl ne m => List.mem_append_left _ (mem_erase m hj ne)) ?_
        · intro a o e ab
          by_cases af : a = fa
          · rw [af] at e ⊢
            rw [upd_same, ← eF]; exact e
          · rw [upd_ne af]; exact B9 _ _ (s8 _ _ (k6 _ _ e ab af)) ab
        rw [List.map_append, List.map_append, ← eraseIdx_map', ← eraseIdx_map']
        exact dd.erase.snoc dv0
    · -- 3
      iterate 3 refine ⟨_, rfl, rfl, _, rfl, ff_if (by decide +kernel) (ff_if rfl ?_)⟩
      rcases hnm with rfl | ⟨z, j, fl, rfl, hj, fr⟩
      · refine ⟨_, rfl, rfl, _, rfl, tt_if (by decide +kernel) ⟨_, rfl, rfl, _, rfl, ff_if rfl (ff_if rfl ?_)⟩⟩
        iterate 3 refine ⟨_, rfl, rfl, _, rfl, ff_if (by decide +kernel) (ff_if rfl ?_)⟩
        exact fin0 hb5 B5
      · refine ⟨_, rfl, rfl, _, rfl, tt_if (by decide +kernel) ⟨_, rfl, rfl, _, rfl, tt_if rfl ?_⟩⟩
        obtain ⟨v, ev⟩ : ∃ v, es[j]? = some (z, v) := ⟨_, at_key ekF hj⟩
        have dg5 : DGet H5 fa (.str z) (some v) := by
          have h1 := DGet.k (k := .inr z) eF5
          rw [tk_val nkF ev] at h1
          exact h1
        obtain ⟨t0, ht0, dv0⟩ := (dvAt fun a o e ab _ => B5 _ _ e ab).get (i := j) (v := v) (by rw [List.getElem?_map, ev]; rfl)
        rw [List.getElem?_map, hj] at ht0
        cases ht0
        obtain ⟨ta, txs, rfl, eta, _⟩ := fld_sort dv0
        refine ⟨_, rfl, _, rfl, fa, .ref ta, rfl, dg5, ta, _, 0, .str fl.sort, rfl, rfl, .inl (.inl eta), atI_nat (j := 0) rfl, rfl, _, rfl, ?_⟩
        cases fl with
        | mk ws =>
          refine ff_if (by show decide (V.str ("mark" : Str) = V.str ("link" : Str)) = false; decide +kernel) ?_
          iterate 3 refine ⟨_, rfl, rfl, _, rfl, ff_if (by decide +kernel) (ff_if rfl ?_)⟩
          exact fin0 hb5 B5
        | tg =>
          refine ff_if (by show decide (V.str ("tag" : Str) = V.str ("link" : Str)) = false; decide +kernel) ?_
          iterate 3 refine ⟨_, rfl, rfl, _, rfl, ff_if (by decide +kernel) (ff_if rfl ?_)⟩
          exact fin0 hb5 B5
        | lk n0 =>
          refine tt_if (by show decide (V.str ("link" : Str) = V.str ("link" : Str)) = true; decide +kernel) ?_
          obtain ⟨_, M0, es0, e1, eL, eT, ekT, _, _, _⟩ := dT.dctI
          cases e1
          have les0 : es0.length = tabs.length := by
            have := congrArg List.length ekT
            rw [List.length_map, List.length_map] at this
            exact this
          have l3 := ok.tab.few
          have l1 : 0 < tabs.length := List.length_pos_iff.mpr ok.tab.one
          have mT : T ∈ L := by rw [eL]; exact List.mem_cons_self
          have eT5 : H5 T = some (.dK (tkD es0)) := B5 _ _ eT (nb mT)
          refine ⟨_, rfl, T, tkD es0, tabs.map (·.1), rfl, .inl eT5, by rw [tkD_keys, ekT], by rw [List.length_map]; omega, fun ys p pm srt np => ⟨_, rfl, _, rfl, T, tkD es0, rfl, same_new np _ _ _ eT5, ?_⟩⟩
          have s6 : Same H5 (upd H5 p (.lst (ys.map V.str))) := same_new np _
          have hp6 : (upd H5 p (.lst (ys.map V.str))) p = some (.lst (ys.map V.str)) := upd_same
          have npb : p ≠ b := hb5.nb np
          generalize (upd H5 p (.lst (ys.map V.str))) = H6 at s6 hp6 ⊢
          refine ⟨b, c, ((tkD es0).length : Nat), rfl, hb5.same s6, by rw [List.length_map]; omega, by rw [List.length_map]; omega, fun r H7 r0 r1 hb7 B7 => ?_⟩
          obtain ⟨jn, rfl⟩ := Int.eq_ofNat_of_zero_le r0
          have hjn : jn < ys.length := by
            rw [List.length_map] at r1
            rw [pm.length_eq, List.length_map]; omega
          have ejn : ys[jn]? = some ys[jn] := List.getElem?_eq_getElem hjn
          have mjn : ys[jn] ∈ tabs.map (·.1) := pm.mem_iff.mp (List.getElem_mem hjn)
          generalize ys[jn] = tb2 at ejn mjn
          refine ⟨p, _, (jn : Nat), .str tb2, rfl, rfl, .inl (.inl (B7 _ _ hp6 npb)), atI_nat (by rw [List.getElem?_map, ejn]; rfl), small (by show 2 ≤ 1000; decide), fun t nt => ?_⟩
          have s8 : Same H7 (upd H7 t (.tup [.str "link", .str tb2])) := same_new nt _
          have ht : (upd H7 t (.tup [.str "link", .str tb2])) t = some (.tup [.str "link", .str tb2]) := upd_same
          have ntb : t ≠ b := hb7.nb nt
          generalize (upd H7 t (.tup [.str "link", .str tb2])) = H8 at s8 ht ⊢
          have B8 : But b H H8 := ((B5.trans (Same.but s6 b)).trans B7).trans (Same.but s8 b)
          have hb8 := hb7.same s8
          have eF8 := B8 _ _ eF (nb mfa)
          have ntf : t ≠ fa := fun n => by rw [n, eF8] at ht; cases ht
          refine ⟨_, rfl, _, rfl, fa, _, rfl, .inl ⟨tkD es, .inr z, eF8, rfl, small1000 (by rw [List.length_map]; omega), rfl⟩, ?_⟩
          rw [tk_put nkF ev]
          iterate 3 refine ⟨_, rfl, rfl, _, rfl, ff_if (by decide +kernel) (ff_if rfl ?_)⟩
          have okN := okF.set (fl' := .lk tb2) hj rfl (.lk mjn)
          refine finF (fs' := fs.set j (z, .lk tb2)) B8 hb8 (fun a o e n => by rw [upd_ne n]; exact e) (hb8.set (nb mfa) (nc mfa)) upd_same (by rw [List.map_set, List.map_set, ekF]) okN (ok.change hi okN fr fun g gl ne m => mem_set m hj ne) ?_
          rw [List.map_set, List.map_set]
          exact (dvAt fun a o e ab af => by rw [upd_ne af]; exact B8 _ _ e ab).set (t := (Fld.lk tb2).tree) (.tup (by rw [upd_ne ntf]; exact ht) ntb (.cons (.str _) (.cons (.str _) .nil)))
    · -- 4
      iterate 4 refine ⟨_, rfl, rfl, _, rfl, ff_if (by decide +kernel) (ff_if rfl ?_)⟩
      obtain ⟨_, M0, es0, e1, eL, eT, ekT, _, _, dvT⟩ := dT.dctI
      cases e1
      have les0 : es0.length = tabs.length := by
        have := congrArg List.length ekT
        rw [List.length_map, List.length_map] at this
        exact this
      have l3 := ok.tab.few
      have mT : T ∈ L := by rw [eL]; exact List.mem_cons_self
      have nT0 : ∀ a ∈ M0, a ≠ T := fun a m n => by
        rw [eL] at nd
        exact (List.nodup_cons.mp nd).1 (n ▸ m)
      have mM0 : ∀ a ∈ M0, a ∈ L := fun a m => by rw [eL]; exact List.mem_cons_of_mem _ m
      have eT5 : H5 T = some (.dK (tkD es0)) := B5 _ _ eT (nb mT)
      refine ⟨_, rfl, rfl, _, rfl, tt_if (by decide +kernel) ⟨_, rfl, T, tkD es0, rfl, eT5, _, _, rfl, rfl, _, rfl, ?_⟩⟩
      rw [List.length_map, les0]
      by_cases g : tabs.length < 3
      · refine tt_if (decide_eq_true (by omega)) fun D nD => ⟨_, rfl, _, rfl, _, rfl, ?_⟩
        have s6 : Same H5 (upd H5 D (.dK [])) := same_new nD _
        have hD6 : (upd H5 D (.dK [])) D = some (.dK []) := upd_same
        have nDb : D ≠ b := hb5.nb nD
        have nDT : D ≠ T := fun n => by rw [n, eT5] at nD; cases nD
        generalize (upd H5 D (.dK [])) = H6 at s6 hD6 ⊢
        refine ⟨T, tkD es0, tabs.map (·.1), rfl, .inl (s6 _ _ eT5), by rw [tkD_keys, ekT], by rw [List.length_map]; omega, fun ys p pm srt np => ?_⟩
        have s7 : Same H6 (upd H6 p (.lst (ys.map V.str))) := same_new np _
        have hp7 : (upd H6 p (.lst (ys.map V.str))) p = some (.lst (ys.map V.str)) := upd_same
        generalize (upd H6 p (.lst (ys.map V.str))) = H7 at s7 hp7 ⊢
        refine ⟨b, c, p, ys, rfl, hb5.same (s6.trans s7), hp7, by rw [pm.length_eq, List.length_map]; omega, fun z H8 okz nz hb8 B8 => ?_⟩
        have nz' : z ∉ tabs.map (·.1) := fun m => nz (pm.mem_iff.mpr m)
        have eT8 : H8 T = some (.dK (tkD es0)) := B8 _ _ (s7 _ _ (s6 _ _ eT5)) (nb mT)
        refine ⟨T, _, rfl, .inl ⟨tkD es0, .inr z, eT8, rfl, small1000 (by rw [List.length_map]; omega), rfl⟩, ?_⟩
        rw [putK_new (by rw [ekT]; exact nz')]
        iterate 2 refine ⟨_, rfl, rfl, _, rfl, ff_if (by decide +kernel) (ff_if rfl ?_)⟩
        have B08 : But b H H8 := ((B5.trans (Same.but (s6.trans s7) b)).trans B8)
        have okN := ok.table nz' okz g
        have fewN := okN.tab.few
        refine q _ _ okN (.dct upd_same (nb mT) ?_ okN.tab.nd (by rw [List.length_map]; omega) ?_) (hb8.set (nb mT) (nc mT)) fun a o e ab aL => by rw [upd_ne (fun n : a = T => aL (by rw [n]; exact mT))]; exact B08 _ _ e ab
        · show (tkD (es0 ++ [(z, V.ref D)])).map (·.1) = _
          rw [tkD_keys]
          congr 1
          rw [List.map_append, List.map_append, ekT]
          rfl
        · have h1 := tkD_vals (es0 ++ [(z, V.ref D)])
          show DTs _ _ ((tkD (es0 ++ [(z, V.ref D)])).map (·.2)) _
          rw [h1, List.map_append, List.map_append]
          refine ((dvT.keep fun a m o e => by rw [upd_ne (nT0 a m)]; exact B08 _ _ e (nb (mM0 a m))).dts fun a m => nb (mM0 a m)).snoc (.dct (ks := []) (kvs := []) ?_ nDb rfl List.nodup_nil (by decide) .nil)
          rw [upd_ne nDT]
          exact B8 _ _ (s7 _ _ hD6) nDb
      · refine ff_if (decide_eq_false (by omega)) ?_
        iterate 2 refine ⟨_, rfl, rfl, _, rfl, ff_if (by decide +kernel) (ff_if rfl ?_)⟩
        exact fin0 hb5 B5
    · -- 5
      iterate 5 refine ⟨_, rfl, rfl, _, rfl, ff_if (by decide +kernel) (ff_if rfl ?_)⟩
      rcases hnm with rfl | ⟨z, j, fl, rfl, hj, fr⟩
      · refine ⟨_, rfl, rfl, _, rfl, tt_if (by decide +kernel) ⟨_, rfl, rfl, _, rfl, ff_if rfl (ff_if rfl ?_)⟩⟩
        iterate 1 refine ⟨_, rfl, rfl, _, rfl, ff_if (by decide +kernel) (ff_if rfl ?_)⟩
        exact fin0 hb5 B5
      · refine ⟨_, rfl, rfl, _, rfl, tt_if (by decide +kernel) ⟨_, rfl, rfl, _, rfl, tt_if rfl ?_⟩⟩
        obtain ⟨v, ev⟩ : ∃ v, es[j]? = some (z, v) := ⟨_, at_key ekF hj⟩
        have dg5 : DGet H5 fa (.str z) (some v) := by
          have h1 := DGet.k (k := .inr z) eF5
          rw [tk_val nkF ev] at h1
          exact h1
        obtain ⟨t0, ht0, dv0⟩ := (dvAt fun a o e ab _ => B5 _ _ e ab).get (i := j) (v := v) (by rw [List.getElem?_map, ev]; rfl)
        rw [List.getElem?_map, hj] at ht0
        cases ht0
        obtain ⟨ta, txs, rfl, eta, _⟩ := fld_sort dv0
        refine ⟨_, rfl, _, rfl, fa, .ref ta, rfl, dg5, ta, _, 0, .str fl.sort, rfl, rfl, .inl (.inl eta), atI_nat (j := 0) rfl, rfl, _, rfl, ?_⟩
        cases fl with
        | lk n0 =>
          refine ff_if (by show decide (V.str ("link" : Str) = V.str ("mark" : Str)) = false; decide +kernel) ?_
          iterate 1 refine ⟨_, rfl, rfl, _, rfl, ff_if (by decide +kernel) (ff_if rfl ?_)⟩
          exact fin0 hb5 B5
        | tg =>
          refine ff_if (by show decide (V.str ("tag" : Str) = V.str ("mark" : Str)) = false; decide +kernel) ?_
          iterate 1 refine ⟨_, rfl, rfl, _, rfl, ff_if (by decide +kernel) (ff_if rfl ?_)⟩
          exact fin0 hb5 B5
        | mk ws =>
          refine tt_if (by show decide (V.str ("mark" : Str) = V.str ("mark" : Str)) = true; decide +kernel) ?_
          obtain ⟨tm, l, es2, eF2, nk2, ev2, mt, ml, et, el, wput⟩ := words_pick dF0 ndF hj (by omega)
          have hv : V.ref ta = V.ref tm := by
            have e2 : tkD es = tkD es2 := by
              rw [eF] at eF2
              exact HO.dK.inj (Option.some.inj eF2)
            have h2 := tk_val nkF ev
            rw [e2, tk_val nk2 ev2] at h2
            exact (Option.some.inj h2).symm
          cases hv
          have mlL := mF (List.mem_cons_of_mem _ ml)
          have mtL := mF (List.mem_cons_of_mem _ mt)
          have et5 := B5 _ _ et (nb mtL)
          have el5 := B5 _ _ el (nb mlL)
          obtain ⟨okc, okd, okf, okn⟩ := mk_ok (okF.val (z, Fld.mk ws) (List.mem_of_getElem? hj))
          have lwp : 0 < ws.length := List.length_pos_iff.mpr okc
          refine ⟨_, rfl, _, rfl, fa, .ref ta, rfl, dg5, ta, _, 1, .ref l, rfl, rfl, .inl (.inl et5), atI_nat (j := 1) rfl, ?_⟩
          refine ⟨_, rfl, _, rfl, b, c, l, ws, rfl, hb5, el5, by omega, fun z2 H6 okz nz hb6 B6 => ?_⟩
          have el6 := B6 _ _ el5 (nb mlL)
          refine ⟨_, rfl, _, rfl, _, rfl, l, _, rfl, .inl (.inl (.inl el6)), b, c, _, rfl, hb6, by rw [List.length_map]; omega, by rw [List.length_map]; omega, fun r H7 r0 r1 hb7 B7 => ?_⟩
          obtain ⟨jn, rfl⟩ := Int.eq_ofNat_of_zero_le r0
          have hjn : jn < ws.length := by rw [List.length_map] at r1; omega
          have el7 := B7 _ _ el6 (nb mlL)
          refine ⟨l, _, (jn : Nat), jn, rfl, rfl, el7, ix_nat (by rw [List.length_map]; exact hjn), ?_⟩
          iterate 1 refine ⟨_, rfl, rfl, _, rfl, ff_if (by decide +kernel) (ff_if rfl ?_)⟩
          have B07 := (B5.trans B6).trans B7
          have okw : FldOk (tabs.map (·.1)) (.mk (ws.set jn z2)) := .mk (fun n => okc (List.length_eq_zero_iff.mp (by rw [← List.length_set (i := jn) (a := z2), n]; rfl))) (fun y hy => by
            rcases List.mem_or_eq_of_mem_set hy with h | h
            · exact okd y h
            · rw [h]; exact okz) (by rw [List.length_set]; exact okf) (PartsOk.put.nodup_set okn nz)
          have okN := okF.set (fl' := .mk (ws.set jn z2)) hj rfl okw
          have h8 : (upd H7 l (.lst ((ws.map V.str).set jn (.str z2)))) l = some (.lst ((ws.set jn z2).map V.str)) := by rw [upd_same, List.map_set]
          have k8 : ∀ a o, H a = some o → a ≠ b → a ≠ l → (upd H7 l (.lst ((ws.map V.str).set jn (.str z2)))) a = some o := fun a o e ab al => by rw [upd_ne al]; exact B07 _ _ e ab
          exact q _ _ (ok.change hi okN fr fun g gl ne m => mem_set m hj ne) (put _ (· ≠ b) _ (fun a m n => ⟨nb m, fun o e => k8 _ _ e (nb m) fun z => n (by rw [z]; exact List.mem_cons_of_mem _ ml)⟩) (wput _ (· ≠ b) (ws.set jn z2) (fun a m al => ⟨nb (mF m), fun o e => k8 _ _ e (nb (mF m)) al⟩) (nb mlL) h8)) (hb7.set (nb mlL) (nc mlL)) fun a o e ab aL => k8 _ _ e ab fun z => aL (z ▸ mlL)
    · -- 6
      iterate 6 refine ⟨_, rfl, rfl, _, rfl, ff_if (by decide +kernel) (ff_if rfl ?_)⟩
      rcases hnm with rfl | ⟨z, j, fl, rfl, hj, fr⟩
      · refine ⟨_, rfl, rfl, _, rfl, tt_if (by decide +kernel) ⟨_, rfl, rfl, _, rfl, ff_if rfl (ff_if rfl ?_)⟩⟩
        exact fin0 hb5 B5
      · refine ⟨_, rfl, rfl, _, rfl, tt_if (by decide +kernel) ⟨_, rfl, rfl, _, rfl, tt_if rfl ?_⟩⟩
        obtain ⟨v, ev⟩ : ∃ v, es[j]? = some (z, v) := ⟨_, at_key ekF hj⟩
        have dg5 : DGet H5 fa (.str z) (some v) := by
          have h1 := DGet.k (k := .inr z) eF5
          rw [tk_val nkF ev] at h1
          exact h1
        obtain ⟨t0, ht0, dv0⟩ := (dvAt fun a o e ab _ => B5 _ _ e ab).get (i := j) (v := v) (by rw [List.getElem?_map, ev]; rfl)
        rw [List.getElem?_map, hj] at ht0
        cases ht0
        obtain ⟨ta, txs, rfl, eta, _⟩ := fld_sort dv0
        refine ⟨_, rfl, _, rfl, fa, .ref ta, rfl, dg5, ta, _, 0, .str fl.sort, rfl, rfl, .inl (.inl eta), atI_nat (j := 0) rfl, rfl, _, rfl, ?_⟩
        cases fl with
        | lk n0 =>
          refine ff_if (by show decide (V.str ("link" : Str) = V.str ("mark" : Str)) = false; decide +kernel) ?_
          exact fin0 hb5 B5
        | tg =>
          refine ff_if (by show decide (V.str ("tag" : Str) = V.str ("mark" : Str)) = false; decide +kernel) ?_
          exact fin0 hb5 B5
        | mk ws =>
          refine tt_if (by show decide (V.str ("mark" : Str) = V.str ("mark" : Str)) = true; decide +kernel) ?_
          obtain ⟨tm, l, es2, eF2, nk2, ev2, mt, ml, et, el, wput⟩ := words_pick dF0 ndF hj (by omega)
          have hv : V.ref ta = V.ref tm := by
            have e2 : tkD es = tkD es2 := by
              rw [eF] at eF2
              exact HO.dK.inj (Option.some.inj eF2)
            have h2 := tk_val nkF ev
            rw [e2, tk_val nk2 ev2] at h2
            exact (Option.some.inj h2).symm
          cases hv
          have mlL := mF (List.mem_cons_of_mem _ ml)
          have mtL := mF (List.mem_cons_of_mem _ mt)
          have et5 := B5 _ _ et (nb mtL)
          have el5 := B5 _ _ el (nb mlL)
          obtain ⟨okc, okd, okf, okn⟩ := mk_ok (okF.val (z, Fld.mk ws) (List.mem_of_getElem? hj))
          have lw3 : ws.length ≤ 3 := w3 _ (List.mem_of_getElem? hi) _ (List.mem_of_getElem? hj)
          refine ⟨_, rfl, _, rfl, fa, .ref ta, rfl, dg5, ta, _, 1, .ref l, rfl, rfl, .inl (.inl et5), atI_nat (j := 1) rfl, .inl ⟨rfl, _, .inl (.inl el5)⟩, ?_⟩
          refine ⟨_, rfl, _, rfl, _, rfl, fa, .ref ta, rfl, dg5, ta, _, 1, .ref l, rfl, rfl, .inl (.inl et5), atI_nat (j := 1) rfl, ?_⟩
          refine ⟨b, c, l, ws, rfl, hb5, el5, by omega, fun z2 H6 okz nz hb6 B6 => ?_⟩
          have el6 := B6 _ _ el5 (nb mlL)
          refine ⟨l, _, .str z2, rfl, rfl, el6, small1000 (by rw [List.length_map]; omega), ?_⟩
          have B06 := B5.trans B6
          have okw : FldOk (tabs.map (·.1)) (.mk (ws ++ [z2])) := .mk (by simp) (fun y hy => by
            rcases List.mem_append.mp hy with h | h
            · exact okd y h
            · rw [List.mem_singleton.mp h]; exact okz) (by rw [List.length_append]; exact Nat.succ_le_succ lw3) (nd_snoc okn nz)
          have okN := okF.set (fl' := .mk (ws ++ [z2])) hj rfl okw
          have h8 : (upd H6 l (.lst (ws.map V.str ++ [.str z2]))) l = some (.lst ((ws ++ [z2]).map V.str)) := by rw [upd_same, List.map_append]; rfl
          have k8 : ∀ a o, H a = some o → a ≠ b → a ≠ l → (upd H6 l (.lst (ws.map V.str ++ [.str z2]))) a = some o := fun a o e ab al => by rw [upd_ne al]; exact B06 _ _ e ab
          exact q _ _ (ok.change hi okN fr fun g gl ne m => mem_set m hj ne) (put _ (· ≠ b) _ (fun a m n => ⟨nb m, fun o e => k8 _ _ e (nb m) fun z => n (by rw [z]; exact List.mem_cons_of_mem _ ml)⟩) (wput _ (· ≠ b) (ws ++ [z2]) (fun a m al => ⟨nb (mF m), fun o e => k8 _ _ e (nb (mF m)) al⟩) (nb mlL) h8)) (hb6.set (nb mlL) (nc mlL)) fun a o e ab aL => k8 _ _ e ab fun z => aL (z ▸ mlL)
  obtain ⟨u, tl, rest⟩ := tail
  refine ⟨_, (pss_cons (ps_set (i := 4) scOField.nd rfl (by first | exact .inl rfl | exact .inr rfl) (pe_ix ix_list (pe_callB (call_sortedD rfl) (by rfl) mso (by decide +kernel) (pa_cons (pv 1) pa_nil)) (pe_call G34 (hr.mono (by decide)) (by rfl) m34 k34 b34 .nil pass0 (pa_cons (pv 0) (pa_cons (pe_callB call_lenD (by rfl) mlen (by decide +kernel) (pa_cons (pv 1) pa_nil)) pa_nil))) (fun _ _ => rfl)))
    (pss_cons (ps_asg (pe_tup (pa_cons (pe_dget (hu_of hr) (pv 1) (pv 4) (fun _ _ => rfl)) (pa_cons (pe_callB (call_reprT hg hu hs) (by rfl) mrepr (by decide +kernel) (pa_cons (pv 2) pa_nil)) pa_nil))) (pg_tup rfl (pgs_cons (pg_name (i := 5) scOField.nd rfl (by first | exact .inl rfl | exact .inr rfl)) (pgs_cons (pg_name (i := 6) scOField.nd rfl (by first | exact .inl rfl | exact .inr rfl)) pgs_nil))))
    (pss_cons (ps_setLc (i := 7) (own := [("_law_name", 8)]) (g := gName 8) rfl scOField.nd rfl rfl (sw_true rfl rfl rfl (by decide +kernel)) (pi_list (pe_callB (call_sortedD rfl) (by rfl) mso (by decide +kernel) (pa_cons (pv 5) pa_nil))) (blkOk_by (N := NOField) (sc := defScope sOField) (by decide +kernel)) (fun _ _ _ _ _ => pg_name (i := 8) scOField.nd rfl (Or.inl rfl)) (fun _ _ _ _ _ => (pts_one (pt_cmpR op_notIn_str (pe_callB call_reprS (by rfl) mrepr (by decide +kernel) (pa_cons (pv 8) pa_nil)) (pv 6) (by rfl)))) (fun _ _ _ _ _ => (pv 8)))
    (pss_cons (ps_set (i := 8) scOField.nd rfl (by first | exact .inl rfl | exact .inr rfl) (pe_ifExp (pt_cmpR (op_nePl hu) (pv 7) (pe_lst pa_nil) (nomark _)) (pe_ix ix_list (pv 7) (pe_call G34 (hr.mono (by decide)) (by rfl) m34 k34 b34 .nil pass0 (pa_cons (pv 0) (pa_cons (pe_callB call_len_seq (by rfl) mlen (by decide +kernel) (pa_cons (pv 7) pa_nil)) pa_nil))) (fun _ _ => rfl)) pe_non))
    tl)))), ?_⟩
  have l3 := ok.tab.few
  have l1 : 0 < tabs.length := List.length_pos_iff.mpr ok.tab.one
  obtain ⟨_, M0, es0, e1, eL, eT, ekT, _, _, _⟩ := dT.dctI
  cases e1
  have les : es0.length = tabs.length := by
    have := congrArg List.length ekT
    rw [List.length_map, List.length_map] at this
    exact this
  have nb : ∀ {a : Addr}, a ∈ L → a ≠ b := fun m n => bL (n ▸ m)
  refine ⟨_, rfl, T, tkD es0, tabs.map (·.1), rfl, .inl eT, by rw [tkD_keys, ekT], by rw [List.length_map]; omega, fun ys p pm srt np => ⟨_, rfl, _, rfl, T, tkD es0, rfl, same_new np _ _ _ eT, ?_⟩⟩
  refine ⟨b, c, ((tkD es0).length : Nat), rfl, hb.new np, by rw [List.length_map]; omega, by rw [List.length_map]; omega, fun r H2 r0 r1 hb2 B2 => ?_⟩
  have npb : p ≠ b := hb.nb np
  have hp2 := B2 p _ (upd_same (o := HO.lst (ys.map V.str))) npb
  have B02 : But b H H2 := ((But.refl b H).new np).trans B2
  obtain ⟨j, rfl⟩ := Int.eq_ofNat_of_zero_le r0
  have hj : j < ys.length := by
    rw [List.length_map] at r1
    rw [pm.length_eq, List.length_map]; omega
  have ej : ys[j]? = some ys[j] := List.getElem?_eq_getElem hj
  have mz : ys[j] ∈ tabs.map (·.1) := pm.mem_iff.mp (List.getElem_mem hj)
  generalize ys[j] = tb at ej mz
  refine ⟨p, _, (j : Nat), .str tb, rfl, rfl, .inl (.inl hp2), atI_nat (by rw [List.getElem?_map, ej]; rfl), ?_⟩
  obtain ⟨⟨tb', fs⟩, mem, rfl⟩ := List.mem_map.mp mz
  obtain ⟨i, hi⟩ := List.getElem?_of_mem mem
  obtain ⟨mT, f, M, dg, dF0, ndF, sub, put⟩ := tables_pick dT nd hi
  have dF : DL H2 (f :: M) (.ref f) (fieldsT fs) := dF0.keep fun a m o e => B02 _ _ e (nb (sub a m).1)
  have okF : FldsOk (tabs.map (·.1)) fs := ok.tab.val _ mem
  have dR2 : DT H2 (fun a => a ≠ b ∧ a ∉ L) (.ref R) (rulesT rs) := dR.mono fun a o h e => B02 _ _ e h.1
  obtain ⟨g1, g2, g3⟩ := (rules_pl ok).shw.fits (by decide) (by decide)
  obtain ⟨sh, esh⟩ : ∃ sh, sh = (rulesT rs).data.shown := ⟨_, rfl⟩
  refine ⟨_, rfl, _, rfl, T, .ref f, rfl, dg H2 (fun _ h => B02 _ _ h (nb mT)), _, rfl, R, rulesT rs, _, rfl, dR2, g1, g2, g3, ?_⟩
  rw [← esh]
  refine ⟨small (by show 2 ≤ 1000; decide), fun t nt => ?_⟩
  have st : Same H2 (upd H2 t (.tup [.ref f, .str sh])) := same_new nt _
  have ht : (upd H2 t (.tup [.ref f, .str sh])) t = some (.tup [.ref f, .str sh]) := upd_same
  generalize (upd H2 t (.tup [.ref f, .str sh])) = H3 at st ht ⊢
  refine ⟨t, [.ref f, .str sh], rfl, .inl (.inl ht), rfl, .ref f, [.str sh], rfl, .str sh, [], rfl, rfl, ?_⟩
  have B03 : But b H H3 := B02.trans (Same.but st b)
  have hb3 := hb2.same st
  have dF3 : DL H3 (f :: M) (.ref f) (fieldsT fs) := dF.same st
  obtain ⟨fes, eF, ekF, nkF, _⟩ := fields_pick dF3 ndF
  have lf6 := okF.few
  refine ⟨_, rfl, f, tkD fes, fs.map (·.1), rfl, .inl eF, by rw [tkD_keys, ekF], by rw [List.length_map]; omega, fun ys2 p2 pm2 srt2 np2 => ?_⟩
  obtain rfl : ys2 = sortT (fs.map (·.1)) := sort_eq pm2 srt2
  have s4 : Same H3 (upd H3 p2 (.lst ((sortT (fs.map (·.1))).map V.str))) := same_new np2 _
  have hp4 : (upd H3 p2 (.lst ((sortT (fs.map (·.1))).map V.str))) p2 = some (.lst ((sortT (fs.map (·.1))).map V.str)) := upd_same
  generalize (upd H3 p2 (.lst ((sortT (fs.map (·.1))).map V.str))) = H4 at s4 hp4 ⊢
  refine ⟨p2, rfl, ⟨_, .inl (.inl hp4)⟩, fun D nD => ?_⟩
  obtain ⟨gz, egz⟩ : ∃ gz : Str → Bool, gz = fun z => !(!(Builtin.Str.occurrences sh (reprText z) 0 sh.length 1).isEmpty) := ⟨_, rfl⟩
  refine lc_list (K := K) (a := p2) (xs := (sortT (fs.map (·.1))).map V.str) (fun i Hx => Same H4 Hx ∧ Hx D = some (.lst ((((sortT (fs.map (·.1))).take i).filter gz).map V.str))) ⟨same_new nD _, upd_same⟩ (fun i Hx _ q => .inl (.inl (q.1 _ _ hp4))) ?_ ?_
  · rintro i x Hx hx ⟨s5, hD⟩
    obtain ⟨z, hz, rfl⟩ := map_get hx
    have mz2 : z ∈ fs.map (·.1) := sortT_mem.mp (List.mem_of_getElem? hz)
    obtain ⟨pz, mp, epz⟩ := List.mem_map.mp mz2
    have okz : NameOk z := by rw [← epz]; exact okF.ok _ mp
    have lz : (reprText z).length ≤ sizeLine := ((Shw.str okz).fits (by decide) (by decide)).2.2
    have e2 : (sortT (fs.map (·.1))).take (i + 1) = (sortT (fs.map (·.1))).take i ++ [z] := by
      rw [List.take_add_one, hz]
      rfl
    refine ⟨rfl, _, rfl, z, rfl, lz, _, rfl, _, _, rfl, rfl, _, rfl, ?_⟩
    have eg : (!(!(Builtin.Str.occurrences sh (reprText z) 0 sh.length 1).isEmpty)) = gz z := by rw [egz]
    rw [eg]
    by_cases g : gz z = true
    · refine tt_if g ⟨_, rfl, _, hD, ?_, Same.put s5 nD, ?_⟩
      · have h1 := List.length_filter_le gz ((sortT (fs.map (·.1))).take i)
        rw [List.length_take, sortT_len, List.length_map] at h1
        exact small1000 (by rw [List.length_map]; omega)
      · rw [upd_same, e2, List.filter_append, List.map_append, List.filter_cons_of_pos g]
        rfl
    · refine ff_if (by simpa using g) ⟨s5, ?_⟩
      rw [e2, List.filter_append, List.filter_cons_of_neg g, List.filter_nil, List.append_nil]
      exact hD
  rintro H5 ⟨s5, hD⟩
  rw [List.length_map, List.take_length] at hD
  have s35 := s4.trans s5
  have B05 : But b H H5 := B03.trans (Same.but s35 b)
  have hb5 := hb3.same s35
  have nDb : D ≠ b := hb3.nb (s4.free nD)
  obtain ⟨free, efree⟩ : ∃ free, free = (sortT (fs.map (·.1))).filter gz := ⟨_, rfl⟩
  rw [← efree] at hD
  have memF : ∀ z ∈ free, ∃ (j : Nat) (fl : Fld), fs[j]? = some (z, fl) ∧ ∀ r ∈ rs, FreeK z r.2 := fun z hz => by
    rw [efree] at hz
    obtain ⟨h1, h2⟩ := List.mem_filter.mp hz
    obtain ⟨pz, mp, epz⟩ := List.mem_map.mp (sortT_mem.mp h1)
    obtain ⟨j, hj⟩ := List.getElem?_of_mem mp
    refine ⟨j, pz.2, by rw [← epz]; exact hj, free_rules ?_⟩
    rw [egz] at h2
    rw [← esh]
    simpa using h2
  have lfree : free.length ≤ 6 := by
    have h1 := List.length_filter_le gz (sortT (fs.map (·.1)))
    rw [sortT_len, List.length_map, ← efree] at h1
    omega
  have okfree : ∀ z ∈ free, NameOk z := fun z hz => by
    obtain ⟨j, fl, hj, _⟩ := memF z hz
    exact (okF.ok (z, fl) (List.mem_of_getElem? hj) : NameOk z)
  refine ⟨_, rfl, small (by show 0 ≤ 1000; decide), fun e ne => ⟨.lst (free.map Tr.str), .lst [], fun _ => True, fun _ => True, .lst (same_new ne _ _ _ hD) trivial (DTs.ofStrs _), .lst upd_same trivial .nil, (Pl.strs okfree).shaped (by decide), by decide, _, rfl, ?_⟩⟩
  have s6 : Same H5 (upd H5 e (.lst [])) := same_new ne _
  generalize (upd H5 e (.lst [])) = H6 at s6 ⊢
  clear ne
  have eF : (!PyData.eqv (Tr.lst (free.map Tr.str)).data (Tr.lst []).data) = !free.isEmpty := by cases free <;> rfl
  rw [eF]
  cases free with
  | nil =>
    refine ff_if rfl ?_
    exact rest .non tb' sh f D i fs M H6 (.inl rfl) hi (hb5.same s6) (B05.trans (Same.but s6 b)) dg dF0 ndF sub put
  | cons z0 zr =>
    refine tt_if rfl ?_
    refine ⟨_, rfl, _, rfl, _, rfl, D, _, rfl, .inl (.inl (.inl (s6 _ _ hD))), b, c, _, rfl, hb5.same s6, (by rw [List.length_map, List.length_cons]; omega), (by rw [List.length_map]; omega), fun r7 H7 r0' r1' hb7 B7 => ?_⟩
    obtain ⟨jn, rfl⟩ := Int.eq_ofNat_of_zero_le r0'
    have hjn : jn < (z0 :: zr).length := by rw [List.length_map] at r1'; omega
    have ejn : (z0 :: zr)[jn]? = some (z0 :: zr)[jn] := List.getElem?_eq_getElem hjn
    have mjn := List.getElem_mem hjn
    generalize (z0 :: zr)[jn] = z at ejn mjn
    refine ⟨D, _, (jn : Nat), .str z, rfl, rfl, .inl (.inl (B7 _ _ (s6 _ _ hD) nDb)), atI_nat (by rw [List.getElem?_map, ejn]; rfl), ?_⟩
    obtain ⟨j2, fl, hj2, fr⟩ := memF z mjn
    exact rest (.str z) tb' sh f D i fs M H7 (.inr ⟨z, j2, fl, rfl, hj2, fr⟩) hi hb7 ((B05.trans (Same.but s6 b)).trans B7) dg dF0 ndF sub put

end
end Lw

set_option Elab.async false
set_option linter.all false
set_option maxRecDepth 100000
set_option maxHeartbeats 4000000
/-! near parts: keys and words in another order -/
namespace Lw
open PySem PySem.Spec PyProof.Rows L2
theorem nd_rev {α : Type} {l : List α} (h : l.Nodup) : l.reverse.Nodup := (List.reverse_perm l).nodup_iff.mpr h
def revFld : Fld → Fld
  | .mk ws => .mk ws.reverse
  | f => f
def revQ (q : Str × Fld) : Str × Fld := (q.1, revFld q.2)
def revTab (p : Str × Flds) : Str × Flds := (p.1, p.2.map revQ)
theorem revFld_num (f : Fld) : (revFld f).num = f.num := by cases f <;> rfl
theorem revFld_tag {f : Fld} (h : f.num ≠ 0) : revFld f = f := by
  cases f with
  | mk ws => exact absurd rfl h
  | lk n => rfl
  | tg => rfl
theorem cnt_rev (fs : Flds) (k : Nat) : cntF (fs.map revQ) k = cntF fs k := by
  unfold cntF
  rw [List.filter_map, List.length_map]
  refine congrArg List.length (List.filter_congr fun p _ => ?_)
  show decide ((revFld p.2).num = k) = _
  rw [revFld_num]
theorem cnt_back (fs : Flds) (k : Nat) : cntF fs.reverse k = cntF fs k := by
  unfold cntF
  rw [List.filter_reverse, List.length_reverse]
theorem revFld_ok {ns : List Str} {f : Fld} (o : FldOk ns f) : FldOk ns (revFld f) := by
  cases o with
  | mk c d few nd => exact .mk (fun n => c (List.reverse_eq_nil_iff.mp n)) (fun z hz => d z (List.mem_reverse.mp hz)) (by rw [List.length_reverse]; exact few) (nd_rev nd)
  | lk m => exact .lk m
  | tg => exact .tg
theorem FldsOk.back {ns : List Str} {fs : Flds} (o : FldsOk ns fs) : FldsOk ns fs.reverse :=
  ⟨by rw [List.map_reverse]; exact nd_rev o.nd, by rw [List.length_reverse]; exact o.few, fun p hp => o.ok p (List.mem_reverse.mp hp), fun k k3 => by rw [cnt_back]; exact o.two k k3, fun p hp => o.val p (List.mem_reverse.mp hp)⟩
theorem revQ_keys (fs : Flds) : (fs.map revQ).map (·.1) = fs.map (·.1) := by
  rw [List.map_map]
  rfl
theorem FldsOk.revd {ns : List Str} {fs : Flds} (o : FldsOk ns fs) : FldsOk ns (fs.map revQ) := by
  refine ⟨by rw [revQ_keys]; exact o.nd, by rw [List.length_map]; exact o.few, fun p hp => ?_, fun k k3 => by rw [cnt_rev]; exact o.two k k3, fun p hp => ?_⟩
  · obtain ⟨q, hq, rfl⟩ := List.mem_map.mp hp
    exact o.ok q hq
  · obtain ⟨q, hq, rfl⟩ := List.mem_map.mp hp
    exact revFld_ok (o.val q hq)
/-- the tables, in another order -/
def turnTabs (tabs : Tabs) : Tabs := tabs.reverse.map fun p => (p.1, (p.2.map revQ).reverse)
theorem turn_keys (tabs : Tabs) : (turnTabs tabs).map (·.1) = (tabs.map (·.1)).reverse := by
  unfold turnTabs
  rw [List.map_map, List.map_reverse]
  rfl
theorem turn_mem {tabs : Tabs} {t : Str} {fs : Flds} (m : (t, fs) ∈ tabs) : (t, (fs.map revQ).reverse) ∈ turnTabs tabs := List.mem_map.mpr ⟨(t, fs), List.mem_reverse.mpr m, rfl⟩
theorem TabsOk.turn {tabs : Tabs} (o : TabsOk tabs) : TabsOk (turnTabs tabs) := by
  refine ⟨by rw [turn_keys]; exact nd_rev o.nd, fun n => ?_, ?_, fun p hp => ?_, fun p hp => ?_⟩
  · have h := congrArg List.length n
    unfold turnTabs at h
    rw [List.length_map, List.length_reverse] at h
    exact o.one (List.length_eq_zero_iff.mp h)
  · unfold turnTabs
    rw [List.length_map, List.length_reverse]
    exact o.few
  · obtain ⟨q, hq, rfl⟩ := List.mem_map.mp hp
    exact o.ok q (List.mem_reverse.mp hq)
  · obtain ⟨q, hq, rfl⟩ := List.mem_map.mp hp
    rw [turn_keys]
    exact ((o.val q (List.mem_reverse.mp hq)).revd.back).more fun z hz => List.mem_reverse.mpr hz
theorem TstC.revd {fs fs' : Flds} {m : Nat} : ∀ {t : Tst}, TstC fs m t → (∀ fl, (t.field, fl) ∈ fs → (t.field, revFld fl) ∈ fs') → TstC fs' m t
  | .is f ws, .is (vs := vs) a b c d e, h => .is (h _ a : (f, Fld.mk vs.reverse) ∈ fs') b c (fun z hz => List.mem_reverse.mpr (d z hz)) e
  | .non f, .lk a, h => .lk (h _ a)
  | .non f, .tg a, h => .tg (h _ a)
theorem TstsOk.revd {fs fs' : Flds} {ts : List Tst} (o : TstsOk fs ts) (h : ∀ f fl, (f, fl) ∈ fs → (f, revFld fl) ∈ fs') : TstsOk fs' ts :=
  ⟨fun t ht => ⟨(o.1 t ht).dep, (o.1 t ht).core.revd fun fl m => h _ _ m⟩, o.2⟩
theorem RKOk.turn {tabs : Tabs} {k : RK} (o : RKOk tabs k) : RKOk (turnTabs tabs) k := by
  have g : ∀ {fs : Flds} (f : Str) (fl : Fld), (f, fl) ∈ fs → (f, revFld fl) ∈ (fs.map revQ).reverse := fun f fl m => List.mem_reverse.mpr (List.mem_map.mpr ⟨(f, fl), m, rfl⟩)
  cases o with
  | link a l a2 tx ty => exact .link (turn_mem a) (g _ _ l) (turn_mem a2) (tx.revd g) (ty.revd g)
  | uniq a l => exact .uniq (turn_mem a) (g _ _ l)
  | one a tx => exact .one (turn_mem a) (tx.revd g)
  | chk a tx => exact .chk (turn_mem a) (tx.revd g)
theorem PartsOk.turnT {tabs : Tabs} {rs : List Rul} (o : PartsOk tabs rs) : PartsOk (turnTabs tabs) rs := ⟨o.tab.turn, o.nd, fun r hr => ⟨(o.ok r hr).1, (o.ok r hr).2.turn⟩, o.few⟩
/-! ### some marks of a table turned -/
def revSome (done : List Str) (fs : Flds) : Flds := fs.map fun q => if q.1 ∈ done then revQ q else q
theorem revSome_nil (fs : Flds) : revSome [] fs = fs := by
  unfold revSome
  have h : (fun q : Str × Fld => if q.1 ∈ ([] : List Str) then revQ q else q) = id := funext fun q => by rw [if_neg (by simp)]; rfl
  rw [h, List.map_id]
theorem revSome_keys (done : List Str) (fs : Flds) : (revSome done fs).map (·.1) = fs.map (·.1) := by
  unfold revSome
  rw [List.map_map]
  refine List.map_congr_left fun q _ => ?_
  show (if q.1 ∈ done then revQ q else q).1 = q.1
  by_cases m : q.1 ∈ done
  · rw [if_pos m]; rfl
  · rw [if_neg m]
theorem revSome_all {fs : Flds} {done : List Str} (h : ∀ q ∈ fs, q.2.num = 0 → q.1 ∈ done) : revSome done fs = fs.map revQ := by
  unfold revSome
  refine List.map_congr_left fun q hq => ?_
  by_cases m : q.1 ∈ done
  · rw [if_pos m]
  · rw [if_neg m]
    have h2 : revFld q.2 = q.2 := revFld_tag fun e => m (h q hq e)
    show q = (q.1, revFld q.2)
    rw [h2]
theorem revSome_at {fs : Flds} {done : List Str} {j : Nat} {z : Str} {fl : Fld} (h : fs[j]? = some (z, fl)) (n : z ∉ done) : (revSome done fs)[j]? = some (z, fl) := by
  unfold revSome
  rw [List.getElem?_map, h]
  show some (if z ∈ done then revQ (z, fl) else (z, fl)) = _
  rw [if_neg n]
theorem revSome_step {fs : Flds} {done : List Str} {j : Nat} {z : Str} {ws : List Str} (nd : (fs.map (·.1)).Nodup) (h : fs[j]? = some (z, .mk ws)) (n : z ∉ done) : (revSome done fs).set j (z, .mk ws.reverse) = revSome (done ++ [z]) fs := by
  apply List.ext_getElem?
  intro i
  by_cases q : j = i
  · subst q
    have l : j < (revSome done fs).length := by
      unfold revSome
      rw [List.length_map]
      exact (List.getElem?_eq_some_iff.mp h).1
    rw [List.getElem?_set_self l]
    unfold revSome
    rw [List.getElem?_map, h]
    show _ = some (if z ∈ done ++ [z] then revQ (z, .mk ws) else (z, .mk ws))
    rw [if_pos (by simp)]
    rfl
  · rw [List.getElem?_set_ne q]
    unfold revSome
    rw [List.getElem?_map, List.getElem?_map]
    cases e : fs[i]? with
    | none => rfl
    | some p =>
      show some (if p.1 ∈ done then revQ p else p) = some (if p.1 ∈ done ++ [z] then revQ p else p)
      have nz : p.1 ≠ z := fun ez => q (by
        have h1 : (fs.map (·.1))[j]? = some z := by rw [List.getElem?_map, h]; rfl
        have h2 : (fs.map (·.1))[i]? = some z := by rw [List.getElem?_map, e, ← ez]; rfl
        exact (List.getElem?_inj (List.getElem?_eq_some_iff.mp h1).1 nd).mp (h1.trans h2.symm))
      by_cases m : p.1 ∈ done
      · rw [if_pos m, if_pos (List.mem_append_left _ m)]
      · rw [if_neg m, if_neg (fun g => by
          rcases List.mem_append.mp g with g | g
          · exact m g
          · exact nz (List.mem_singleton.mp g))]
/-- the last k tables turned -/
def curT (tabs : Tabs) (k : Nat) : Tabs := tabs.mapIdx fun i p => if tabs.length ≤ i + k then revTab p else p
theorem curT_len (tabs : Tabs) (k : Nat) : (curT tabs k).length = tabs.length := List.length_mapIdx
theorem curT_at {tabs : Tabs} {k i : Nat} {p : Str × Flds} (h : tabs[i]? = some p) : (curT tabs k)[i]? = some (if tabs.length ≤ i + k then revTab p else p) := by
  unfold curT
  rw [List.getElem?_mapIdx, h]
  rfl
theorem curT_zero (tabs : Tabs) : curT tabs 0 = tabs := by
  apply List.ext_getElem?
  intro i
  cases e : tabs[i]? with
  | none =>
    rw [List.getElem?_eq_none_iff] at e ⊢
    rw [curT_len]
    exact e
  | some p =>
    rw [curT_at e, if_neg (by have := (List.getElem?_eq_some_iff.mp e).1; omega)]
theorem curT_all (tabs : Tabs) : curT tabs tabs.length = tabs.map revTab := by
  apply List.ext_getElem?
  intro i
  rw [List.getElem?_map]
  cases e : tabs[i]? with
  | none =>
    show _ = none
    rw [List.getElem?_eq_none_iff] at e ⊢
    rw [curT_len]
    exact e
  | some p =>
    rw [curT_at e, if_pos (by omega)]
    rfl
theorem curT_step {tabs : Tabs} {k i : Nat} {p : Str × Flds} (h : tabs[i]? = some p) (e : i + k + 1 = tabs.length) : (curT tabs k).set i (revTab p) = curT tabs (k + 1) := by
  apply List.ext_getElem?
  intro j
  by_cases q : i = j
  · subst q
    rw [List.getElem?_set_self (by rw [curT_len]; omega), curT_at h, if_pos (by omega)]
  · rw [List.getElem?_set_ne q]
    cases ej : tabs[j]? with
    | none =>
      rw [List.getElem?_eq_none_iff] at ej
      rw [List.getElem?_eq_none (by rw [curT_len]; exact ej), List.getElem?_eq_none (by rw [curT_len]; exact ej)]
    | some p' =>
      rw [curT_at ej, curT_at ej]
      by_cases g : tabs.length ≤ j + k
      · rw [if_pos g, if_pos (by omega)]
      · rw [if_neg g, if_neg (by omega)]
theorem curT_self {tabs : Tabs} {k i : Nat} {p : Str × Flds} (h : tabs[i]? = some p) (e : i + k + 1 = tabs.length) : (curT tabs k)[i]? = some p := by
  rw [curT_at h, if_neg (by omega)]
/-! ### in the heap: one of a list's trees is another one, in the same places -/
theorem DLs.swap {H : Hp} : ∀ {L : List Addr} {vs : List V} {ts : List Tr} {i : Nat} {v : V}, DLs H L vs ts → vs[i]? = some v → ∃ t M, ts[i]? = some t ∧ DL H M v t ∧ (∀ a ∈ M, a ∈ L) ∧ (L.Nodup → M.Nodup) ∧
    ∀ (H' : Hp) (t' : Tr), L.Nodup → (∀ a ∈ L, a ∉ M → ∀ o, H a = some o → H' a = some o) → DL H' M v t' → DLs H' L vs (ts.set i t')
  | _, _, _, _, _, .nil, e => by simp at e
  | _, _, _, 0, _, .cons (L := L) (M := M) x y, e => by
    cases e
    refine ⟨_, L, rfl, x, fun a h => List.mem_append_left _ h, fun n => (List.nodup_append.mp n).1, fun H' t' n k d => ?_⟩
    exact .cons d (y.keep fun a h => k a (List.mem_append_right _ h) fun h' => (List.nodup_append.mp n).2.2 a h' a h rfl)
  | _, _, _, i + 1, _, .cons (L := L) (M := M) x y, e => by
    obtain ⟨t, N, ht, d, sub, nd, f⟩ := DLs.swap (i := i) y (by simpa using e)
    refine ⟨t, N, by simpa using ht, d, fun a h => List.mem_append_right _ (sub a h), fun n => nd (List.nodup_append.mp n).2.1, fun H' t' n k d' => ?_⟩
    have kx : ∀ a ∈ L, ∀ o, H a = some o → H' a = some o := fun a h => k a (List.mem_append_left _ h) fun h' => (List.nodup_append.mp n).2.2 a h a (sub a h') rfl
    exact .cons (x.keep kx) (f H' t' (List.nodup_append.mp n).2.1 (fun a h h' => k a (List.mem_append_right _ h) h') d')
theorem map_fst_at {α β : Type} {es : List (Str × V)} {l : List (Str × β)} {i : Nat} {z : Str} {x : β} (ek : es.map (·.1) = l.map (·.1)) (h : l[i]? = some (z, x)) : ∃ v, es[i]? = some (z, v) := by
  have h1 : (es.map (·.1))[i]? = some z := by rw [ek, List.getElem?_map, h]; rfl
  rw [List.getElem?_map] at h1
  cases e : es[i]? with
  | none => rw [e] at h1; cases h1
  | some p => rw [e] at h1; cases h1; exact ⟨p.2, rfl⟩
/-- the words of a mark of a table: where they stand, and the tables with other words there -/
theorem words_swap {H : Hp} {L : List Addr} {T : Addr} {tabs : Tabs} (x : DL H L (.ref T) (tablesT tabs)) (n : L.Nodup) {i j : Nat} {tb z : Str} {fs : Flds} {ws : List Str} (h : tabs[i]? = some (tb, fs)) (hj : fs[j]? = some (z, .mk ws)) :
    ∃ (f t l : Addr) (es0 es : List (Str × V)), H T = some (.dK (tkD es0)) ∧ es0[i]? = some (tb, .ref f) ∧ H f = some (.dK (tkD es)) ∧ (es.map (·.1)).Nodup ∧ es[j]? = some (z, .ref t) ∧ H t = some (.tup [.str "mark", .ref l]) ∧ H l = some (.lst (ws.map V.str)) ∧ l ∈ L ∧
    ∀ ws' : List Str, DL (upd H l (.lst (ws'.map V.str))) L (.ref T) (tablesT (tabs.set i (tb, fs.set j (z, .mk ws')))) := by
  obtain ⟨_, M0, es0, e1, rfl, e, ek, nd, few, d⟩ := DL.dctI x
  cases e1
  obtain ⟨v, hv⟩ := map_fst_at (α := Unit) ek h
  obtain ⟨t0, M, ht, dv, sub, ndM, put⟩ := d.swap (i := i) (v := v) (by rw [List.getElem?_map, hv]; rfl)
  rw [List.getElem?_map, h] at ht
  cases ht
  obtain ⟨f, M1, es, rfl, rfl, ef, efk, nf, fewf, df⟩ := dv.dctI
  have n0 := List.nodup_cons.mp n
  have nM := ndM n0.2
  have n1 := List.nodup_cons.mp nM
  obtain ⟨w, hw⟩ := map_fst_at (α := Unit) efk hj
  obtain ⟨t1, M2, ht1, dw, sub2, ndM2, put2⟩ := df.swap (i := j) (v := w) (by rw [List.getElem?_map, hw]; rfl)
  rw [List.getElem?_map, hj] at ht1
  cases ht1
  have nM2 := ndM2 n1.2
  obtain ⟨t, M3, xs, rfl, rfl, et, dx⟩ := DL.tupI dw
  have n2 := List.nodup_cons.mp nM2
  cases dx with
  | cons a y =>
    obtain ⟨rfl, rfl⟩ := a.strI
    cases y with
    | cons a2 y2 =>
      cases y2
      obtain ⟨l, M4, ys, rfl, rfl, el, dl⟩ := DL.lstI a2
      obtain ⟨rfl, rfl⟩ := dl.strsI
      have tl : t ≠ l := fun q => n2.1 (by rw [q]; simp)
      have l2 : l ∈ t :: ([] ++ ([l] ++ [])) := by simp
      have lM : l ∈ f :: M1 := List.mem_cons_of_mem _ (sub2 l l2)
      have lf : f ≠ l := fun q => n1.1 (by rw [q]; exact sub2 l l2)
      have lT : T ≠ l := fun q => n0.1 (by rw [q]; exact sub l lM)
      refine ⟨f, t, l, es0, es, e, hv, ef, by rw [efk]; exact nf, hw, et, el, List.mem_cons_of_mem _ (sub l lM), fun ws' => ?_⟩
      have keep : ∀ a, a ≠ l → ∀ o, H a = some o → upd H l (.lst (ws'.map V.str)) a = some o := fun a na o eo => by rw [upd_ne na]; exact eo
      have dn : DL (upd H l (.lst (ws'.map V.str))) (t :: ([] ++ ([l] ++ []))) (.ref t) (Fld.mk ws').tree := .tup (by rw [upd_ne tl]; exact et) (.cons (.str _) (.cons (.lst upd_same (DLs.ofStrs ws')) .nil))
      have d3 := put2 _ _ n1.2 (fun a m q => keep a fun e => q (e ▸ l2)) dn
      have ekf : (fs.set j (z, Fld.mk ws')).map (·.1) = fs.map (·.1) := by rw [List.map_set, set_self (by rw [List.getElem?_map, hj]; rfl)]
      have df' : DL (upd H l (.lst (ws'.map V.str))) (f :: M1) (.ref f) (fieldsT (fs.set j (z, Fld.mk ws'))) := by
        refine .dct (by rw [upd_ne lf]; exact ef) (by rw [tkD_keys, efk, ekf]) (by rw [ekf]; exact nf) (by rw [ekf]; exact fewf) ?_
        rw [tkD_vals, List.map_set]
        exact d3
      have d4 := put _ _ n0.2 (fun a m q => keep a fun e => q (e ▸ lM)) df'
      have ekt : (tabs.set i (tb, fs.set j (z, Fld.mk ws'))).map (·.1) = tabs.map (·.1) := tabs_keys h
      refine .dct (by rw [upd_ne lT]; exact e) (by rw [tkD_keys, ek, ekt]) (by rw [ekt]; exact nd) (by rw [ekt]; exact few) ?_
      rw [tkD_vals, List.map_set]
      exact d4
/-! ### dicts turned round, of the same values -/
/-- at d the dict of f, turned; d is new -/
def NewD (Hc H : Hp) (e e0 : Str × V) : Prop := e.1 = e0.1 ∧ ∃ (d f : Addr) (es : List (Str × V)), e.2 = .ref d ∧ e0.2 = .ref f ∧ Hc f = some (.dK (tkD es)) ∧ H d = some (.dK (tkD es.reverse)) ∧ Hc d = none
theorem tk_rev {es : List (Str × V)} : (tkD es).reverse = tkD es.reverse := (List.map_reverse ..).symm
theorem turn_dict {H : Hp} {A : Addr → Prop} {f d : Addr} {fs : Flds} {es : List (Str × V)} (x : DT H A (.ref f) (fieldsT fs)) (ef : H f = some (.dK (tkD es))) (ed : H d = some (.dK (tkD es.reverse))) (ad : A d) : DT H A (.ref d) (fieldsT fs.reverse) := by
  obtain ⟨_, kvs, e1, e, nA, k, nd, few, dd⟩ := x.dctI
  cases e1
  rw [ef] at e
  cases e
  rw [tkD_keys] at k
  have ek := inr_inj k
  rw [tkD_vals] at dd
  refine .dct ed ad (by rw [tkD_keys, List.map_reverse, ek, ← List.map_reverse (l := fs)]) (by rw [List.map_reverse]; exact nd_rev nd) (by rw [List.map_reverse, List.length_reverse]; exact few) ?_
  rw [tkD_vals, List.map_reverse, List.map_reverse]
  exact dd.rev
theorem turn_all {Hc H : Hp} {A : Addr → Prop} (kp : ∀ a o, Hc a = some (.dK o) → H a = some (.dK o)) (hA : ∀ a, Hc a = none → A a) : ∀ {es e0 : List (Str × V)} {tabs : Tabs}, Paired (NewD Hc H) es e0 → DTs H A (e0.map (·.2)) (tabs.map fun p => fieldsT p.2) → DTs H A (es.map (·.2)) (tabs.map fun p => fieldsT p.2.reverse)
  | _, _, [], .nil, _ => .nil
  | _, _, [], .cons _ _, d => by cases d
  | _, _, p :: ps, .nil, d => by cases d
  | _, _, p :: ps, .cons (a := e) (b := e0) x y, d => by
    cases d with
    | cons dx dy =>
      obtain ⟨_, d, f, es, h1, h2, h3, h4, h5⟩ := x
      refine .cons ?_ (turn_all kp hA y dy)
      show DT H A e.2 _
      rw [h1]
      have dx : DT H A e0.2 (fieldsT p.2) := dx
      rw [h2] at dx
      exact turn_dict dx (kp _ _ h3) h4 (hA d h5)
theorem turn_names {Hc H : Hp} : ∀ {es e0 : List (Str × V)}, Paired (NewD Hc H) es e0 → es.map (·.1) = e0.map (·.1)
  | _, _, .nil => rfl
  | _, _, .cons x y => by rw [List.map_cons, List.map_cons, x.1, turn_names y]
end Lw
namespace Lw
open PySem PySem.Spec PyProof.Rows L2
theorem paired_rev {α β : Type} {F : α → β → Prop} : ∀ {as : List α} {bs : List β}, Paired F as bs → Paired F as.reverse bs.reverse
  | _, _, .nil => .nil
  | _, _, .cons x y => by
    rw [List.reverse_cons, List.reverse_cons]
    exact (paired_rev y).snoc x
theorem paired_left {α β : Type} {F : α → β → Prop} : ∀ {as : List α} {bs : List β} {i : Nat} {a : α}, Paired F as bs → as[i]? = some a → ∃ b, bs[i]? = some b ∧ F a b
  | _, _, _, _, .nil, h => by simp at h
  | _, _, 0, _, .cons x _, h => by cases h; exact ⟨_, rfl, x⟩
  | _, _, i + 1, _, .cons _ y, h => by
    obtain ⟨b, e, r⟩ := paired_left (i := i) y (by simpa using h)
    exact ⟨b, by simpa using e, r⟩
theorem tk_inj : ∀ {a b : List (Str × V)}, tkD a = tkD b → a = b
  | [], [], _ => rfl
  | [], _ :: _, h => by cases h
  | _ :: _, [], h => by cases h
  | (x, v) :: r, (y, w) :: q, h => by
    obtain ⟨h1, h2⟩ := List.cons.inj h
    obtain ⟨h3, h4⟩ := Prod.mk.inj h1
    rw [(show x = y from Sum.inr.inj h3), (show v = w from h4), tk_inj h2]
theorem tk_at {es : List (Str × V)} {i : Nat} {k : Key} {v : V} (h : (tkD es)[i]? = some (k, v)) : ∃ z, es[i]? = some (z, v) ∧ k = .inr z := by
  rw [List.getElem?_map] at h
  obtain ⟨p, e, q⟩ := Option.map_eq_some_iff.mp h
  obtain ⟨z, w⟩ := p
  cases q
  exact ⟨z, e, rfl⟩
theorem tk_mem {es : List (Str × V)} {z : Str} {v : V} (nd : (es.map (·.1)).Nodup) (m : (z, v) ∈ es) : valV (tkD es) (.inr z) = some v := by
  obtain ⟨i, hi⟩ := List.getElem?_of_mem m
  exact tk_val nd hi
theorem DL.child {H : Hp} {L : List Addr} {T : Addr} {tabs : Tabs} {es : List (Str × V)} (x : DL H L (.ref T) (tablesT tabs)) (e : H T = some (.dK (tkD es))) : es.map (·.1) = tabs.map (·.1) ∧ ∃ M, L = T :: M ∧ DLs H M (es.map (·.2)) (tabs.map fun p => fieldsT p.2) := by
  obtain ⟨_, M0, es0, e1, rfl, e0, ek, _, _, d⟩ := DL.dctI x
  cases e1
  rw [e] at e0
  have := tk_inj (HO.dK.inj (Option.some.inj e0))
  subst this
  exact ⟨ek, M0, rfl, d⟩
theorem like_of {fs : Flds} (nd : (fs.map (·.1)).Nodup) {q : Str × Fld} (m : q ∈ fs) (h : q.2.num = 0) : q.1 ∈ likeT fs "mark" := by
  refine List.mem_filter.mpr ⟨sortT_mem.mpr (List.mem_map_of_mem m), ?_⟩
  unfold sortIs
  rw [fldAt_of nd (z := q.1) (fl := q.2) m]
  obtain ⟨z, fl⟩ := q
  cases fl with
  | mk ws => exact decide_eq_true rfl
  | lk n => cases h
  | tg => cases h
theorem like_mk {fs : Flds} {z : Str} (m : z ∈ likeT fs "mark") : ∃ ws, (z, Fld.mk ws) ∈ fs := by
  obtain ⟨fl, _, mm, e⟩ := like_mem m
  cases fl with
  | mk ws => exact ⟨ws, mm⟩
  | lk n => exact absurd (show ("link" : Str) = "mark" from e) (by decide +kernel)
  | tg => exact absurd (show ("tag" : Str) = "mark" from e) (by decide +kernel)
theorem like_nd {fs : Flds} (nd : (fs.map (·.1)).Nodup) (s : Str) : (likeT fs s).Nodup := (sortT_nodup nd).filter _
end Lw

set_option Elab.async false
set_option linter.all false
set_option maxRecDepth 100000
set_option maxHeartbeats 8000000
namespace Lw
open PySem PySem.Spec PyProof.Rows L2 LiI
abbrev sNear : Stmt := topS 51
abbrev NNear : List Str := ["_law_bag_here", "_law_parts_here", "_law_tables", "_law_rules", "_law_manner", "_law_table", "_law_mark"]
def ifBody : Stmt → List Stmt
  | .If _ b _ _ => b
  | _ => []
def rDictP (K : PySem.W.Frag) : List V → Hp → VK → Prop := fun xs H Q => ∃ (a : Addr) (ps : List Addr) (kvs : List (Key × V)), xs = [.ref a] ∧ SqL K H a (ps.map V.ref) ∧ Paired (fun p kv => SqT K H p [kV kv.1, kv.2]) ps kvs ∧
    ∀ p, H p = none → Q (.ref p) (upd H p (.dK (mergeK [] kvs)))
open LiI in
theorem tables_depth (tabs : Tabs) : (tablesT tabs).depth ≤ 4 := by
  have h : Tr.depths (tabs.map fun p => fieldsT p.2) ≤ 3 := depths_le fun t ht => by
    obtain ⟨p, hp, rfl⟩ := List.mem_map.mp ht
    exact fields_depth p.2
  show Tr.depths (tabs.map fun p => fieldsT p.2) + 1 ≤ 4
  omega
theorem tables_few {tabs : Tabs} (o : TabsOk tabs) : (tablesT tabs).few = true := by
  show Tr.fews (tabs.map fun p => fieldsT p.2) = true
  exact fews_all fun t ht => by
    obtain ⟨p, hp, rfl⟩ := List.mem_map.mp ht
    exact fields_few (o.val p hp).val
section
variable {P : Program} {w : World} {K : PySem.W.Frag} {mg : Str → Option Value} {base : Heap}
theorem scNear : FnScope NNear ["_law_bag_here", "_law_parts_here"] (defScope sNear) := ⟨rfl, rfl, rfl, by decide +kernel, rfl, by decide +kernel, by decide +kernel⟩
def spNear : Sp := fun vs H Q _ => ∃ (b c p : Addr) (tabs : Tabs) (rs : List Rul), vs = [.ref b, .ref p] ∧ BagAt H b c ∧ DT H (· ≠ b) (.ref p) (partsT tabs rs) ∧ PartsOk tabs rs ∧ (∀ p ∈ tabs, ∀ q ∈ p.2, q.2.w3) ∧
  ∀ (p' : Addr) (tabs' : Tabs) (rs' : List Rul) (H' : Hp), PartsOk tabs' rs' → DT H' (· ≠ b) (.ref p') (partsT tabs' rs') → BagAt H' b c → But b H H' → Q (.ref p') H'
theorem ok_near {f f34 f38 f42 f49 f50 : Addr} {fd fd34 fd38 fd42 fd49 fd50 : FuncData} (F : Fun K "_law_near" "_law_near" sNear f fd)
    (G34 : FnOk P w K mg base CX0 1 f34 fd34 ["_law_bag_here", "_law_many_here"] spTake) (m34 : mg "_law_take" = some (.ref f34)) (k34 : PySem.W.keepIn K (.ref f34) = true) (b34 : Binds K fd34 ["_law_bag_here", "_law_many_here"] [])
    (G38 : FnOk P w K mg base CX0 1 f38 fd38 ["_law_fields_here", "_law_sort"] spLike) (m38 : mg "_law_like" = some (.ref f38)) (k38 : PySem.W.keepIn K (.ref f38) = true) (b38 : Binds K fd38 ["_law_fields_here", "_law_sort"] [])
    (G42 : FnOk P w K mg base CX0 8 f42 fd42 ["_law_thing"] (spCopied 8)) (m42 : mg "_law_copied" = some (.ref f42)) (k42 : PySem.W.keepIn K (.ref f42) = true) (b42 : Binds K fd42 ["_law_thing"] [])
    (G49 : FnOk P w K mg base CX0 5 f49 fd49 ["_law_bag_here", "_law_tables", "_law_rules", "_law_kind"] spORules) (m49 : mg "_law_other_rules" = some (.ref f49)) (k49 : PySem.W.keepIn K (.ref f49) = true) (b49 : Binds K fd49 ["_law_bag_here", "_law_tables", "_law_rules", "_law_kind"] [])
    (G50 : FnG P w K mg base 4 f50 fd50 ["_law_bag_here", "_law_tables", "_law_rules", "_law_kind"] spOField) (m50 : mg "_law_other_field" = some (.ref f50)) (k50 : PySem.W.keepIn K (.ref f50) = true) (b50 : Binds K fd50 ["_law_bag_here", "_law_tables", "_law_rules", "_law_kind"] [])
    (ml : mg "list" = none) (md : mg "dict" = none) : FnG P w K mg base 9 f fd ["_law_bag_here", "_law_parts_here"] spNear := by
  refine fun_okG F scNear (fun vs H Q E h => ?_) (fun cdv A0 outer s0 H vs Q E hr hg h => ?_)
  · obtain ⟨b, c, p, tabs, rs, rfl, _⟩ := h
    rfl
  obtain ⟨b, c, p, tabs, rs, rfl, hb, dp, ok, w3, q⟩ := h
  have turn : ∃ u, PSs (cxOf CX0 P w K mg base NNear "_law_near" (defScope sNear) f cdv A0 outer s0 H E).nox (ifBody ((defBody sNear).getD 2 (.Pass ⟨0, 0, 0, 0⟩))) u ∧ ∀ (D : Ends) (v0 v1 v3 v4 : Option V) (T1 : Addr) (L1 : List Addr) (H1 : Hp), DL H1 L1 (.ref T1) (tablesT tabs) → L1.Nodup →
      (∀ (T2 : Addr) (H2 : Hp) (o5 o6 : Option V), DT H2 (fun a => a ∈ L1 ∨ H1 a = none) (.ref T2) (tablesT (turnTabs tabs)) → (∀ a o, H1 a = some o → a ∉ L1 → H2 a = some o) → D.nx [v0, v1, some (.ref T2), v3, v4, o5, o6] H2) → u D [v0, v1, some (.ref T1), v3, v4, none, none] H1 := by
    refine ⟨_, (pss_cons (ps_set (i := 2) scNear.nd rfl (by first | exact .inl rfl | exact .inr rfl) (pe_callTy (call_dictP rfl) (by rfl) md (by decide +kernel) (pa_cons (pe_lc (own := [("_law_table", 5)]) (g := gName 5) (tt := tYes) rfl scNear.nd (pi_list (pe_revL (pe_callTy (call_listD rfl) (by rfl) ml (by decide +kernel) (pa_cons (pv 2) pa_nil)))) (blkOk_by (N := NNear) (sc := defScope sNear) (by decide +kernel)) (fun _ _ _ _ _ => pg_name (i := 5) scNear.nd rfl (by first | exact .inl rfl | exact .inr rfl)) (fun _ _ _ _ _ => pts_nil) (fun _ _ _ _ _ => (pe_tup (pa_cons (pv 5) (pa_cons (pe_callTy (show CallR _ (.type "dict") (rDictP K) from call_dictP rfl) (by rfl) md (by decide +kernel) (pa_cons (show PE _ _ (tRevL K (tListItems (tDGet (tVar 2) (tVar 5)))) from pe_revL (LiI.pe_listItems rfl (pe_dget (hu_of hr) (pv 2) (pv 5) (fun _ _ => rfl)) (by rfl) ml (by decide +kernel))) pa_nil)) pa_nil))))) pa_nil)))
    (pss_one (ps_lock (ps_for PassesOwn.never rfl (pi_keys (pv 2)) (pg_name (i := 5) scNear.nd rfl (by first | exact .inl rfl | exact .inr rfl)) (pss_one (ps_for PassesOwn.never rfl (pi_list (pe_call G38 (hr.mono (by decide)) (by rfl) m38 k38 b38 .nil pass0 (pa_cons (pe_dget (hu_of hr) (pv 2) (pv 5) (fun _ _ => rfl)) (pa_cons pe_str pa_nil)))) (pg_name (i := 6) scNear.nd rfl (by first | exact .inl rfl | exact .inr rfl)) (pss_one (ps_expr (pe_bm0 PySem.F.plainAttrs_list PySem.F.slot_list_reverse PySem.F.type_list_reverse mt_reverse (pe_ix ix_tup (pe_dget (hu_of hr) (pe_dget (hu_of hr) (pv 2) (pv 5) (fun _ _ => rfl)) (pv 6) (fun _ _ => rfl)) pe_int (fun _ _ => rfl))))))))))), ?_⟩
    intro D v0 v1 v3 v4 T1 L1 H1 dT nd fin
    obtain ⟨_, M0, es0, e1, eL, eT, ekT, ndT, _, dvT⟩ := dT.dctI
    cases e1
    have okn := ok.tab
    have l3 := okn.few
    have les : es0.length = tabs.length := by
      have := congrArg List.length ekT
      rw [List.length_map, List.length_map] at this
      exact this
    have mT : T1 ∈ L1 := by rw [eL]; exact List.mem_cons_self
    have nkR : (es0.reverse.map (·.1)).Nodup := by
      rw [List.map_reverse, ekT]
      exact nd_rev ndT
    refine ⟨_, rfl, T1, tkD es0, rfl, .inl eT, fun p1 np1 => ?_⟩
    have s2 : Same H1 (upd H1 p1 (.lst ((tkD es0).map fun kv => kV kv.1))) := same_new np1 _
    have hp1 : (upd H1 p1 (.lst ((tkD es0).map fun kv => kV kv.1))) p1 = some (.lst ((es0.map (·.1)).map V.str)) := by
      rw [upd_same, List.map_map, List.map_map]
      rfl
    generalize (upd H1 p1 (.lst ((tkD es0).map fun kv => kV kv.1))) = H2 at s2 hp1 ⊢
    refine ⟨p1, _, rfl, .inl (.inl hp1), fun p2 np2 => ?_⟩
    rw [← List.map_reverse, ← List.map_reverse]
    have s3 : Same H2 (upd H2 p2 (.lst ((es0.reverse.map (·.1)).map V.str))) := same_new np2 _
    have hp2 : (upd H2 p2 (.lst ((es0.reverse.map (·.1)).map V.str))) p2 = some (.lst ((es0.reverse.map (·.1)).map V.str)) := upd_same
    generalize (upd H2 p2 (.lst ((es0.reverse.map (·.1)).map V.str))) = H3 at s3 hp2 ⊢
    have s13 := s2.trans s3
    -- where a table stands
    have fieldsAt : ∀ {i : Nat} {z : Str} {v : V}, es0[i]? = some (z, v) → ∃ (f : Addr) (fs : Flds) (esf : List (Str × V)), v = .ref f ∧ tabs[i]? = some (z, fs) ∧ H1 f = some (.dK (tkD esf)) ∧ esf.map (·.1) = fs.map (·.1) := fun {i z v} hi => by
      obtain ⟨t0, M, ht, dv, _, _, _⟩ := dvT.swap (i := i) (v := v) (by rw [List.getElem?_map, hi]; rfl)
      rw [List.getElem?_map] at ht
      obtain ⟨pt, h1, h2⟩ := Option.map_eq_some_iff.mp ht
      have h3 : pt.1 = z := by
        have h4 : (es0.map (·.1))[i]? = some z := by rw [List.getElem?_map, hi]; rfl
        rw [ekT, List.getElem?_map, h1] at h4
        exact Option.some.inj h4
      subst h2
      obtain ⟨f, M1, esf, rfl, _, ef, efk, _⟩ := dv.dctI
      obtain ⟨z2, fs⟩ := pt
      cases h3
      exact ⟨f, fs, esf, rfl, h1, ef, efk⟩
    refine ⟨p2, rfl, ⟨_, .inl (.inl hp2)⟩, fun D2 nD2 => ?_⟩
    refine lc_list (K := K) (a := p2) (xs := (es0.reverse.map (·.1)).map V.str) (fun i Hx => ∃ (ps : List Addr) (es : List (Str × V)), Same H3 Hx ∧ Hx D2 = some (.lst (ps.map V.ref)) ∧ Paired (fun p (e : Str × V) => Hx p = some (.tup [.str e.1, e.2])) ps es ∧ Paired (NewD H1 Hx) es (es0.reverse.take i)) ⟨[], [], same_new nD2 _, upd_same, .nil, .nil⟩ (fun i Hx _ q => .inl (.inl (by obtain ⟨_, _, s, _⟩ := q; exact s _ _ hp2))) ?_ ?_
    · rintro i y Hx hy ⟨ps, es, sx, hD, pr, nw⟩
      obtain ⟨z, hz, rfl⟩ := map_get hy
      rw [List.getElem?_map] at hz
      obtain ⟨⟨z', v⟩, hr, rfl⟩ := Option.map_eq_some_iff.mp hz
      obtain ⟨i0, hi0⟩ := List.getElem?_of_mem (List.mem_reverse.mp (List.mem_of_getElem? hr))
      obtain ⟨f, fs, esf, rfl, htb, ef, efk⟩ := fieldsAt hi0
      have okF := okn.val _ (List.mem_of_getElem? htb)
      have sAx := s13.trans sx
      have lpe := pr.length
      have lpn := nw.length
      rw [List.length_take, List.length_reverse] at lpn
      refine ⟨rfl, yes_if ⟨_, rfl, _, rfl, _, rfl, T1, .ref f, rfl, .inl ⟨tkD es0, .inr z', .inl (sAx _ _ eT), rfl, (tk_val (by rw [ekT]; exact ndT) hi0).symm⟩, f, tkD esf, rfl, sAx _ _ ef, fun H4 pl ts s4 npl nts npt hpl prt => ⟨pl, _, rfl, .inl (.inl hpl), fun p5 np5 => ?_⟩⟩⟩
      rw [← List.map_reverse]
      have s5 : Same H4 (upd H4 p5 (.lst (ts.reverse.map V.ref))) := same_new np5 _
      have hp5 : (upd H4 p5 (.lst (ts.reverse.map V.ref))) p5 = some (.lst (ts.reverse.map V.ref)) := upd_same
      generalize (upd H4 p5 (.lst (ts.reverse.map V.ref))) = H5 at s5 hp5 ⊢
      refine ⟨p5, ts.reverse, tkD esf.reverse, rfl, .inl (.inl hp5), ?_, fun d ndd => ?_⟩
      · rw [← tk_rev]
        exact paired_rev (Paired.mono (fun t q h => .inl (.inl (s5 _ _ h))) prt)
      have ndf : (esf.reverse.map (·.1)).Nodup := by
        rw [List.map_reverse, efk]
        exact nd_rev okF.nd
      rw [tk_dict ndf]
      have s45 : Same Hx H5 := fun a o e => s5 _ _ (s4 _ _ e)
      have s6 : Same H5 (upd H5 d (.dK (tkD esf.reverse))) := same_new ndd _
      have hd6 : (upd H5 d (.dK (tkD esf.reverse))) d = some (.dK (tkD esf.reverse)) := upd_same
      have nd1 : H1 d = none := (sAx.trans s45).free ndd
      generalize (upd H5 d (.dK (tkD esf.reverse))) = H6 at s6 hd6 ⊢
      refine ⟨small (by show 2 ≤ 1000; decide), fun t nt => ?_⟩
      have s7 : Same H6 (upd H6 t (.tup [.str z', .ref d])) := same_new nt _
      have ht7 : (upd H6 t (.tup [.str z', .ref d])) t = some (.tup [.str z', .ref d]) := upd_same
      generalize (upd H6 t (.tup [.str z', .ref d])) = H7 at s7 ht7 ⊢
      have s47 : Same Hx H7 := (s45.trans s6).trans s7
      have hD7 := s47 _ _ hD
      refine ⟨_, hD7, small1000 (by rw [List.length_map]; omega), ps ++ [t], es ++ [(z', .ref d)], Same.put (sx.trans s47) nD2, by rw [upd_same, List.map_append]; rfl, ?_, ?_⟩
      · refine Paired.mono (fun p e h => ?_) ((Paired.mono (fun p e h => s47 _ _ h) pr).snoc (b := (z', V.ref d)) ht7)
        rw [upd_ne (fun q => by rw [q, hD7] at h; cases h)]
        exact h
      · rw [List.take_add_one, hr]
        have hd6' := s7 _ _ hd6
        refine Paired.snoc (Paired.mono (fun e e0 h => ?_) nw) ⟨rfl, d, f, esf, rfl, rfl, ef, by rw [upd_ne (fun q => by rw [q, hD7] at hd6'; cases hd6')]; exact hd6', nd1⟩
        obtain ⟨g1, d', f', es', g2, g3, g4, g5, g6⟩ := h
        exact ⟨g1, d', f', es', g2, g3, g4, by rw [upd_ne (fun q => by rw [q, hD] at g5; cases g5)]; exact s47 _ _ g5, g6⟩
    rintro HC ⟨ps, es, sx, hD, pr, nw⟩
    rw [List.length_map, List.length_map, List.take_length] at nw
    have sC : Same H1 HC := s13.trans sx
    have ek : es.map (·.1) = es0.reverse.map (·.1) := turn_names nw
    have nkE : (es.map (·.1)).Nodup := by rw [ek]; exact nkR
    have lE : es.length = tabs.length := by
      have := nw.length
      rw [List.length_reverse] at this
      omega
    refine ⟨D2, ps, tkD es, rfl, .inl (.inl hD), ?_, fun T2 nT2 => ?_⟩
    · clear nw ek nkE lE hD
      induction pr with
      | nil => exact .nil
      | cons h _ ih => exact .cons (.inl (.inl h)) ih
    rw [tk_dict nkE]
    have eT2 : (upd HC T2 (.dK (tkD es))) T2 = some (.dK (tkD es)) := upd_same
    have kT2 : ∀ a o, HC a = some o → a ≠ T2 → (upd HC T2 (.dK (tkD es))) a = some o := fun a o e n => by rw [upd_ne n]; exact e
    have nT1 : H1 T2 = none := sC.free nT2
    have neT : ∀ {a : Addr} {o : HO}, HC a = some o → a ≠ T2 := fun e n => by rw [n, nT2] at e; cases e
    have neL : ∀ a ∈ L1, a ≠ T2 := fun a m n => by
      obtain ⟨o, e⟩ := dT.there a m
      rw [n, nT1] at e
      cases e
    generalize (upd HC T2 (.dK (tkD es))) = H5 at eT2 kT2 ⊢
    refine ⟨T2, _, eT2, trivial, fun od => ⟨_, rfl, T2, od, rfl, .inl ⟨tkD es, upd_same, ?_⟩⟩⟩
    have eTF : (upd H5 T2 (.frz od (.dK (tkD es)))) T2 = some (.frz od (.dK (tkD es))) := upd_same
    have kF : ∀ a o, HC a = some o → (upd H5 T2 (.frz od (.dK (tkD es)))) a = some o := fun a o e => by rw [upd_ne (neT e)]; exact kT2 _ _ e (neT e)
    generalize (upd H5 T2 (.frz od (.dK (tkD es)))) = HF at eTF kF ⊢
    -- what has changed: lists of words of the copy alone
    obtain ⟨KP, eKP⟩ : ∃ KP : Hp → Prop, KP = fun Hx => Hx T2 = some (.frz od (.dK (tkD es))) ∧ ∀ a o, HC a = some o → (a ∈ L1 ∧ ∃ ws : List Str, o = .lst (ws.map V.str)) ∨ Hx a = some o := ⟨_, rfl⟩
    have kpD : ∀ {Hx : Hp} {a : Addr} {e : List (Key × V)}, KP Hx → HC a = some (.dK e) → Hx a = some (.dK e) := fun {Hx a e} k h => by
      rw [eKP] at k
      rcases k.2 _ _ h with ⟨_, ws, z⟩ | g
      · cases z
      · exact g
    have kpT : ∀ {Hx : Hp}, KP Hx → Hx T2 = some (.frz od (.dK (tkD es))) := fun {Hx} k => by
      rw [eKP] at k
      exact k.1
    have kpS : ∀ {Hx Hy : Hp}, KP Hx → Same Hx Hy → KP Hy := fun {Hx Hy} k s => by
      rw [eKP] at k ⊢
      exact ⟨s _ _ k.1, fun a o e => (k.2 _ _ e).elim .inl fun h => .inr (s _ _ h)⟩
    have dTF : DL HF L1 (.ref T1) (tablesT tabs) := dT.keep fun a m o e => kF _ _ (sC _ _ e)
    refine for_it walk_keys (fun k σ Hx => (∃ o5 o6, σ = [v0, v1, some (.ref T2), v3, v4, o5, o6]) ∧ DL Hx L1 (.ref T1) (tablesT (curT tabs k)) ∧ KP Hx)
      ⟨⟨_, _, rfl⟩, by rw [curT_zero]; exact dTF, by rw [eKP]; exact ⟨eTF, fun a o e => .inr (kF _ _ e)⟩⟩ (fun i σ Hx _ q => kpT q.2.2) ?_ ?_
    · rintro k y σ Ho Hx hk ⟨⟨o5, o6, rfl⟩, dl, kp⟩ ⟨rfl, kk, vv, hkv, rfl⟩
      obtain ⟨z, hez, rfl⟩ := tk_at hkv
      obtain ⟨⟨z0, v00⟩, he0, g1, d, f, esf, g2, g3, ef, hd, hd1⟩ := paired_left nw hez
      have g1 : z = z0 := g1
      subst g1
      have g2 : vv = .ref d := g2
      have g3 : v00 = .ref f := g3
      subst g2 g3
      have hkl : k < es0.length := by
        have := (List.getElem?_eq_some_iff.mp he0).1
        rw [List.length_reverse] at this
        exact this
      rw [List.getElem?_reverse hkl] at he0
      obtain ⟨i0, ei0⟩ : ∃ i0, i0 = es0.length - 1 - k := ⟨_, rfl⟩
      rw [← ei0] at he0
      have sum : i0 + k + 1 = tabs.length := by omega
      obtain ⟨f', fs, esf', h1, htb, ef', efk⟩ := fieldsAt he0
      cases h1
      rw [ef] at ef'
      have q1 := tk_inj (HO.dK.inj (Option.some.inj ef'))
      subst q1
      clear ef'
      have okF := okn.val _ (List.mem_of_getElem? htb)
      have hcur := curT_self (tabs := tabs) (k := k) htb sum
      have nkf : (esf.map (·.1)).Nodup := by rw [efk]; exact okF.nd
      have nkfr : (esf.reverse.map (·.1)).Nodup := by rw [List.map_reverse]; exact nd_rev nkf
      have dgz : ∀ {Hy : Hp}, KP Hy → DGet Hy T2 (.str z) (some (.ref d)) := fun {Hy} kp => .inl ⟨tkD es, .inr z, .inr ⟨od, kpT kp⟩, rfl, (tk_val nkE hez).symm⟩
      have dfd : DT Hx (fun _ => True) (.ref d) (fieldsT fs.reverse) := by
        obtain ⟨_, M, _, dM⟩ := dl.child (kpD kp (sC _ _ eT))
        obtain ⟨t0, N, ht, dv, _, _, _⟩ := dM.swap (i := i0) (v := .ref f) (by rw [List.getElem?_map, he0]; rfl)
        rw [List.getElem?_map, hcur] at ht
        cases ht
        exact turn_dict (dv.dt fun _ _ => trivial) (kpD kp (sC _ _ ef)) (kpD kp hd) trivial
      refine ⟨_, rfl, _, rfl, T2, .ref d, rfl, dgz kp, d, fs.reverse, _, "mark", rfl, dfd, fun p Hy sy np hp => ⟨p, rfl, ⟨_, .inl (.inl hp)⟩, ?_⟩⟩
      obtain ⟨ms, ems⟩ : ∃ ms, ms = likeT fs.reverse "mark" := ⟨_, rfl⟩
      rw [← ems] at hp
      have ndms : ms.Nodup := by rw [ems]; exact like_nd okF.back.nd _
      have pL : p ∉ L1 := fun m => by
        obtain ⟨o, e⟩ := dl.there p m
        rw [np] at e
        cases e
      refine for_list (K := K) (a := p) (xs := ms.map V.str) (fun j σ Hz => (∃ o6, σ = [v0, v1, some (.ref T2), v3, v4, some (.str z), o6]) ∧ DL Hz L1 (.ref T1) (tablesT ((curT tabs k).set i0 (z, revSome (ms.take j) fs))) ∧ KP Hz ∧ Hz p = some (.lst (ms.map V.str)))
        ⟨⟨_, rfl⟩, by rw [List.take_zero, revSome_nil, set_self hcur]; exact dl.same sy, kpS kp sy, hp⟩ (fun j σ Hz _ q => .inl (.inl q.2.2.2)) ?_ ?_
      · rintro j y σ Hz hy ⟨⟨o6', rfl⟩, dlz, kpz, hpz⟩
        obtain ⟨m, hm, rfl⟩ := map_get hy
        have mm : m ∈ likeT fs.reverse "mark" := by rw [← ems]; exact List.mem_of_getElem? hm
        obtain ⟨ws, mw⟩ := like_mk mm
        obtain ⟨jj, hjj⟩ := List.getElem?_of_mem (List.mem_reverse.mp mw)
        have ntk : m ∉ ms.take j := take_not_mem ndms hm
        have hset : ((curT tabs k).set i0 (z, revSome (ms.take j) fs))[i0]? = some (z, revSome (ms.take j) fs) := List.getElem?_set_self (List.getElem?_eq_some_iff.mp hcur).1
        obtain ⟨f2, t, l, es2, esf2, gT, gz, gf, gn, gj, gt, gl, ml, gput⟩ := words_swap dlz nd hset (revSome_at hjj ntk)
        have hT := kpD kpz (sC _ _ eT)
        rw [hT] at gT
        have q2 := tk_inj (HO.dK.inj (Option.some.inj gT))
        subst q2
        rw [he0] at gz
        cases gz
        have hf := kpD kpz (sC _ _ ef)
        rw [hf] at gf
        have q3 := tk_inj (HO.dK.inj (Option.some.inj gf))
        subst q3
        have dgm : DGet Hz d (.str m) (some (.ref t)) := by
          have h1 := DGet.k (k := .inr m) (kpD kpz hd)
          rw [tk_mem nkfr (List.mem_reverse.mpr (List.mem_of_getElem? gj))] at h1
          exact h1
        refine ⟨_, rfl, _, rfl, T2, .ref d, rfl, dgz kpz, _, rfl, d, .ref t, rfl, dgm, t, _, 1, .ref l, rfl, rfl, .inl (.inl gt), atI_nat (j := 1) rfl, .inl ⟨rfl, _, .inl (.inl gl)⟩, l, _, rfl, rfl, gl, ?_⟩
        rw [← List.map_reverse]
        have lp : p ≠ l := fun n => pL (n ▸ ml)
        have lT2 : T2 ≠ l := fun n => neL l ml n.symm
        refine ⟨⟨_, rfl⟩, ?_, ?_, by rw [upd_ne lp]; exact hpz⟩
        · have h1 := gput ws.reverse
          rw [List.set_set, revSome_step okF.nd hjj ntk] at h1
          rw [List.take_add_one, hm]
          exact h1
        · rw [eKP] at kpz ⊢
          refine ⟨by rw [upd_ne lT2]; exact kpz.1, fun a o e => ?_⟩
          by_cases na : a = l
          · subst na
            rcases kpz.2 _ _ e with h1 | h1
            · exact .inl h1
            · rw [gl] at h1
              exact .inl ⟨ml, ws, (Option.some.inj h1).symm⟩
          · rw [upd_ne na]
            exact kpz.2 _ _ e
      · rintro σ Hz ⟨⟨o6', rfl⟩, dlz, kpz, hpz⟩
        refine ⟨⟨_, _, rfl⟩, ?_, kpz⟩
        rw [List.length_map, List.take_length, revSome_all (fun q hq h0 => by rw [ems]; exact like_of okF.back.nd (List.mem_reverse.mpr hq) h0)] at dlz
        rw [← curT_step (p := (z, fs)) htb sum]
        exact dlz
    · rintro σ Hx ⟨⟨o5, o6, rfl⟩, dl, kp⟩
      rw [List.length_map, lE, curT_all] at dl
      have hTx := kpT kp
      refine ⟨hTx, ?_⟩
      have kN : ∀ a, a ≠ T2 → (upd Hx T2 (.dK (tkD es))) a = Hx a := fun a n => upd_ne n
      have hTN : (upd Hx T2 (.dK (tkD es))) T2 = some (.dK (tkD es)) := upd_same
      generalize (upd Hx T2 (.dK (tkD es))) = HN at kN hTN ⊢
      refine fin T2 HN o5 o6 ?_ fun a o e aL => ?_
      · obtain ⟨_, M, eM, dM⟩ := dl.child (kpD kp (sC _ _ eT))
        have mM : ∀ a ∈ M, a ∈ L1 := fun a m => by rw [eM]; exact List.mem_cons_of_mem _ m
        have d1 : DTs HN (fun a => a ∈ L1 ∨ H1 a = none) (es0.map (·.2)) ((tabs.map revTab).map fun p => fieldsT p.2) := (dM.keep fun a m o e => by rw [kN a (neL a (mM a m))]; exact e).dts fun a m => .inl (mM a m)
        have d2 := d1.rev
        rw [← List.map_reverse, ← List.map_reverse] at d2
        have nw2 : Paired (NewD H1 HN) es es0.reverse := Paired.mono (fun e e0 h => by
          obtain ⟨g1, d, f, es', g2, g3, g4, g5, g6⟩ := h
          exact ⟨g1, d, f, es', g2, g3, g4, by rw [kN d (neT g5)]; exact kpD kp g5, g6⟩) nw
        have d3 := turn_all (A := fun a => a ∈ L1 ∨ H1 a = none) (fun a o e => by rw [kN a (neT (sC _ _ e))]; exact kpD kp (sC _ _ e)) (fun a n => .inr n) nw2 d2
        have okt := okn.turn
        refine .dct hTN (.inr nT1) (by rw [tkD_keys, ek, turn_keys, List.map_reverse, ekT]) okt.nd (by rw [List.length_map]; have := okt.few; omega) ?_
        rw [tkD_vals]
        have e3 : ((tabs.map revTab).reverse.map fun p => fieldsT p.2.reverse) = (turnTabs tabs).map fun p => fieldsT p.2 := by
          unfold turnTabs
          rw [← List.map_reverse, List.map_map, List.map_map]
          rfl
        rw [e3] at d3
        exact d3
      · rw [kN a (neT (sC _ _ e))]
        rw [eKP] at kp
        rcases kp.2 _ _ (sC _ _ e) with ⟨h1, _⟩ | h1
        · exact absurd h1 aL
        · exact h1
  obtain ⟨u, turnP, turnQ⟩ := turn
  refine ⟨_, (pss_cons (ps_asg (pe_tup (pa_cons (pe_call G42 (hr.mono (by decide)) (by rfl) m42 k42 b42 .nil pass0 (pa_cons (pe_ix ix_tup (pv 1) pe_int (fun _ _ => rfl)) pa_nil)) (pa_cons (pe_call G42 (hr.mono (by decide)) (by rfl) m42 k42 b42 .nil pass0 (pa_cons (pe_ix ix_tup (pv 1) pe_int (fun _ _ => rfl)) pa_nil)) pa_nil))) (pg_tup rfl (pgs_cons (pg_name (i := 2) scNear.nd rfl (by first | exact .inl rfl | exact .inr rfl)) (pgs_cons (pg_name (i := 3) scNear.nd rfl (by first | exact .inl rfl | exact .inr rfl)) pgs_nil))))
    (pss_cons (ps_set (i := 4) scNear.nd rfl (by first | exact .inl rfl | exact .inr rfl) (pe_call G34 (hr.mono (by decide)) (by rfl) m34 k34 b34 .nil pass0 (pa_cons (pv 0) (pa_cons pe_int pa_nil))))
    (pss_cons (ps_if (pt_cmpR op_eq (pv 4) pe_int (nomark _)) turnP pss_nil)
    (pss_cons (ps_if (PW.pt (pw_or (pt_cmpR op_eq (pv 4) pe_int (nomark _)) (pw_or1 (pt_cmpR op_eq (pv 4) pe_int (nomark _))))) (pss_one (ps_expr (pe_call G49 (hr.mono (by decide)) (by rfl) m49 k49 b49 .nil pass0 (pa_cons (pv 0) (pa_cons (pv 2) (pa_cons (pv 3) (pa_cons (pe_call G34 (hr.mono (by decide)) (by rfl) m34 k34 b34 .nil pass0 (pa_cons (pv 0) (pa_cons pe_int pa_nil))) pa_nil))))))) pss_nil)
    (pss_cons (ps_if (pt_cmpR op_gt (pv 4) pe_int (nomark _)) (pss_one (ps_expr (pe_callG G50 (hr.mono (by decide)) hg (by rfl) m50 k50 b50 pass0 (pa_cons (pv 0) (pa_cons (pv 2) (pa_cons (pv 3) (pa_cons (pe_call G34 (hr.mono (by decide)) (by rfl) m34 k34 b34 .nil pass0 (pa_cons (pv 0) (pa_cons pe_int pa_nil))) pa_nil))))))) pss_nil)
    (pss_one (ps_ret (pe_tup (pa_cons (pv 2) (pa_cons (pv 3) pa_nil)))))))))), ?_⟩
  obtain ⟨T, R, ep, dT, dR⟩ := parts_in dp
  have okn := ok.tab
  refine ⟨_, rfl, p, _, 0, .ref T, rfl, rfl, .inl (.inl ep), atI_nat (j := 0) rfl, .ref T, tablesT tabs, _, rfl, dT, Nat.lt_of_le_of_lt (tables_depth tabs) (by decide), tables_few okn, fun v1 L1 H1 s1 dT1 nd1 new1 => ?_⟩
  obtain ⟨T1, M1, es1, rfl, eL1, eT1, _⟩ := dT1.dctI
  refine ⟨_, rfl, p, _, 1, .ref R, rfl, rfl, .inl (.inl (s1 _ _ ep)), atI_nat (j := 1) rfl, .ref R, rulesT rs, _, rfl, dR.same s1, Nat.lt_of_le_of_lt (rules_depth ok) (by decide), rules_few ok, fun v2 L2 H2 s2 dR2 nd2 new2 => ?_⟩
  obtain ⟨R1, M2, xs2, rfl, eL2, eR1, dxs⟩ := dR2.lstI
  refine ⟨small (by show 2 ≤ 1000; decide), fun t nt => ?_⟩
  have st : Same H2 (upd H2 t (.tup [.ref T1, .ref R1])) := same_new nt _
  have ht : (upd H2 t (.tup [.ref T1, .ref R1])) t = some (.tup [.ref T1, .ref R1]) := upd_same
  generalize (upd H2 t (.tup [.ref T1, .ref R1])) = H3 at st ht ⊢
  refine ⟨t, [.ref T1, .ref R1], rfl, .inl (.inl ht), rfl, .ref T1, [.ref R1], rfl, .ref R1, [], rfl, rfl, ?_⟩
  have s3 : Same H H3 := (s1.trans s2).trans st
  refine ⟨_, rfl, b, c, 5, rfl, hb.same s3, by decide, by decide, fun r H4 r0 r1 hb4 B4 => ?_⟩
  have nb1 : ∀ a ∈ L1, a ≠ b := fun a m => hb.nb (new1 a m)
  have nc1 : ∀ a ∈ L1, a ≠ c := fun a m => hb.nc (new1 a m)
  have nb2 : ∀ a ∈ L2, a ≠ b := fun a m => hb.nb (s1.free (new2 a m))
  have nc2 : ∀ a ∈ L2, a ≠ c := fun a m => hb.nc (s1.free (new2 a m))
  have n12 : ∀ a ∈ L2, a ∉ L1 := fun a m m1 => by
    obtain ⟨o, e⟩ := dT1.there a m1
    rw [new2 a m] at e
    cases e
  have dT4 : DL H4 L1 (.ref T1) (tablesT tabs) := dT1.keep fun a m o e => B4 _ _ (st _ _ (s2 _ _ e)) (nb1 a m)
  have dR4 : DL H4 L2 (.ref R1) (rulesT rs) := dR2.keep fun a m o e => B4 _ _ (st _ _ e) (nb2 a m)
  have B04 : But b H H4 := fun a o e n => B4 _ _ (s3 _ _ e) n
  obtain ⟨man, rfl⟩ := Int.eq_ofNat_of_zero_le r0
  have mR1 : R1 ∈ L2 := by rw [eL2]; exact List.mem_cons_self
  have new4 : ∀ a ∈ L1, H a = none := new1
  have fin : ∀ {T2 : Addr} {H5 : Hp} {tabs' : Tabs} {rs' : List Rul}, PartsOk tabs' rs' → DT H5 (· ≠ b) (.ref T2) (tablesT tabs') → DT H5 (· ≠ b) (.ref R1) (rulesT rs') → BagAt H5 b c → But b H H5 → ∀ t, H5 t = none → Q (.ref t) (upd H5 t (.tup [.ref T2, .ref R1])) := fun {T2 H5 tabs' rs'} ok' d1 d2 hb5 B5 t nt =>
    q t tabs' rs' _ ok' (.tup upd_same (hb5.nb nt) (.cons (d1.same (same_new nt _)) (.cons (d2.same (same_new nt _)) .nil))) (hb5.new nt) (B5.trans (Same.but (same_new nt _) b))
  obtain rfl | rfl | rfl | rfl | rfl : man = 0 ∨ man = 1 ∨ man = 2 ∨ man = 3 ∨ man = 4 := by omega
  · -- 0
    refine ⟨_, rfl, rfl, _, rfl, tt_if (by decide +kernel) ?_⟩
    refine turnQ _ _ _ _ _ T1 L1 H4 dT4 nd1 fun T2 H5 o5 o6 dT5 k5 => ?_
    refine ⟨_, rfl, rfl, _, rfl, ff_if (by decide +kernel) ⟨_, rfl, rfl, _, rfl, ff_if (by decide +kernel) ?_⟩⟩
    refine ⟨_, rfl, _, _, rfl, rfl, _, rfl, ff_if (by decide +kernel) ?_⟩
    have b1 : b ∉ L1 := fun m => nb1 b m rfl
    have c1 : c ∉ L1 := fun m => nc1 c m rfl
    have hb5 : BagAt H5 b c := by
      obtain ⟨x, y, z, ns, h1, h2, h3⟩ := hb4.ex
      exact ⟨x, y, z, ns, k5 _ _ h1 b1, k5 _ _ h2 c1, h3⟩
    refine ⟨_, rfl, _, rfl, small (by show 2 ≤ 1000; decide), fin ok.turnT (dT5.sub fun a h => h.elim (nb1 a) fun n => hb4.nb n) ((dR4.keep fun a m o e => k5 _ _ e (n12 a m)).dt nb2) hb5 fun a o e n => k5 _ _ (B04 _ _ e n) fun m => ?_⟩
    rw [new1 a m] at e
    cases e
  · -- 1
    refine ⟨_, rfl, rfl, _, rfl, ff_if (by decide +kernel) ?_⟩
    refine ⟨_, rfl, rfl, _, rfl, tt_if (by decide +kernel) (tt_if rfl ?_)⟩
    refine ⟨_, rfl, _, rfl, _, rfl, _, rfl, b, c, 5, rfl, hb4, by decide, by decide, fun r5 H5 r50 r51 hb5 B5 => ?_⟩
    obtain ⟨k5, rfl⟩ := Int.eq_ofNat_of_zero_le r50
    have B05 := B04.trans B5
    have nR1 : ∀ a ∈ L1, a ≠ R1 := fun a m n => n12 R1 mR1 (n ▸ m)
    obtain ⟨_, M3, xs3, e3, eL3, eR3, dxs3⟩ := dR4.lstI
    cases e3
    have nM3 : ∀ a ∈ M3, a ≠ R1 := fun a m n => by
      rw [eL3] at nd2
      exact (List.nodup_cons.mp nd2).1 (n ▸ m)
    have mM3 : ∀ a ∈ M3, a ∈ L2 := fun a m => by rw [eL3]; exact List.mem_cons_of_mem _ m
    refine ⟨b, c, T1, R1, k5, tabs, rs, xs3, rfl, by omega, hb5, nb2 R1 mR1, nc2 R1 mR1, (dT4.keep fun a m o e => B5 _ _ e (nb1 a m)).dt fun a m => ⟨nb1 a m, nR1 a m⟩, ok, B5 _ _ eR3 (nb2 R1 mR1), (dxs3.keep fun a m o e => B5 _ _ e (nb2 a (mM3 a m))).dts fun a m => ⟨nb2 a (mM3 a m), nM3 a m⟩, fun H6 rs' xs' ok' eR' dxs' hb6 B6 => ?_⟩
    refine ⟨_, rfl, _, _, rfl, rfl, _, rfl, ff_if (by decide +kernel) ?_⟩
    have B06 : But b H H6 := fun a o e n => B6 _ _ (B05 _ _ e n) n fun z => by
      rw [z, s1.free (new2 R1 mR1)] at e
      cases e
    exact ⟨_, rfl, _, rfl, small (by show 2 ≤ 1000; decide), fin ok' ((dT4.keep fun a m o e => B6 _ _ (B5 _ _ e (nb1 a m)) (nb1 a m) (nR1 a m)).dt nb1) (.lst eR' (nb2 R1 mR1) (dxs'.sub fun a h => h.1)) hb6 B06⟩
  · -- 2
    refine ⟨_, rfl, rfl, _, rfl, ff_if (by decide +kernel) ?_⟩
    refine ⟨_, rfl, rfl, _, rfl, ff_if (by decide +kernel) ⟨_, rfl, rfl, _, rfl, tt_if (by decide +kernel) ?_⟩⟩
    refine ⟨_, rfl, _, rfl, _, rfl, _, rfl, b, c, 5, rfl, hb4, by decide, by decide, fun r5 H5 r50 r51 hb5 B5 => ?_⟩
    obtain ⟨k5, rfl⟩ := Int.eq_ofNat_of_zero_le r50
    have B05 := B04.trans B5
    have nR1 : ∀ a ∈ L1, a ≠ R1 := fun a m n => n12 R1 mR1 (n ▸ m)
    obtain ⟨_, M3, xs3, e3, eL3, eR3, dxs3⟩ := dR4.lstI
    cases e3
    have nM3 : ∀ a ∈ M3, a ≠ R1 := fun a m n => by
      rw [eL3] at nd2
      exact (List.nodup_cons.mp nd2).1 (n ▸ m)
    have mM3 : ∀ a ∈ M3, a ∈ L2 := fun a m => by rw [eL3]; exact List.mem_cons_of_mem _ m
    refine ⟨b, c, T1, R1, k5, tabs, rs, xs3, rfl, by omega, hb5, nb2 R1 mR1, nc2 R1 mR1, (dT4.keep fun a m o e => B5 _ _ e (nb1 a m)).dt fun a m => ⟨nb1 a m, nR1 a m⟩, ok, B5 _ _ eR3 (nb2 R1 mR1), (dxs3.keep fun a m o e => B5 _ _ e (nb2 a (mM3 a m))).dts fun a m => ⟨nb2 a (mM3 a m), nM3 a m⟩, fun H6 rs' xs' ok' eR' dxs' hb6 B6 => ?_⟩
    refine ⟨_, rfl, _, _, rfl, rfl, _, rfl, ff_if (by decide +kernel) ?_⟩
    have B06 : But b H H6 := fun a o e n => B6 _ _ (B05 _ _ e n) n fun z => by
      rw [z, s1.free (new2 R1 mR1)] at e
      cases e
    exact ⟨_, rfl, _, rfl, small (by show 2 ≤ 1000; decide), fin ok' ((dT4.keep fun a m o e => B6 _ _ (B5 _ _ e (nb1 a m)) (nb1 a m) (nR1 a m)).dt nb1) (.lst eR' (nb2 R1 mR1) (dxs'.sub fun a h => h.1)) hb6 B06⟩
  · -- 3
    refine ⟨_, rfl, rfl, _, rfl, ff_if (by decide +kernel) ?_⟩
    refine ⟨_, rfl, rfl, _, rfl, ff_if (by decide +kernel) ⟨_, rfl, rfl, _, rfl, ff_if (by decide +kernel) ?_⟩⟩
    refine ⟨_, rfl, _, _, rfl, rfl, _, rfl, tt_if (by decide +kernel) ?_⟩
    refine ⟨_, rfl, _, rfl, _, rfl, _, rfl, b, c, 7, rfl, hb4, by decide, by decide, fun r5 H5 r50 r51 hb5 B5 => ?_⟩
    obtain ⟨k5, rfl⟩ := Int.eq_ofNat_of_zero_le r50
    have B05 := B04.trans B5
    refine ⟨b, c, T1, R1, k5, tabs, rs, L1, rfl, by omega, hb5, fun m => nb1 b m rfl, fun m => nc1 c m rfl, dT4.keep fun a m o e => B5 _ _ e (nb1 a m), nd1, (dR4.keep fun a m o e => B5 _ _ e (nb2 a m)).dt fun a m => ⟨nb2 a m, n12 a m⟩, ok, w3, fun H6 tabs' ok' dT' hb6 B6 => ?_⟩
    have B06 : But b H H6 := fun a o e n => B6 _ _ (B05 _ _ e n) n fun m => by
      rw [new1 a m] at e
      cases e
    exact ⟨_, rfl, _, rfl, small (by show 2 ≤ 1000; decide), fin ok' dT' ((dR4.keep fun a m o e => B6 _ _ (B5 _ _ e (nb2 a m)) (nb2 a m) (n12 a m)).dt nb2) hb6 B06⟩
  · -- 4
    refine ⟨_, rfl, rfl, _, rfl, ff_if (by decide +kernel) ?_⟩
    refine ⟨_, rfl, rfl, _, rfl, ff_if (by decide +kernel) ⟨_, rfl, rfl, _, rfl, ff_if (by decide +kernel) ?_⟩⟩
    refine ⟨_, rfl, _, _, rfl, rfl, _, rfl, tt_if (by decide +kernel) ?_⟩
    refine ⟨_, rfl, _, rfl, _, rfl, _, rfl, b, c, 7, rfl, hb4, by decide, by decide, fun r5 H5 r50 r51 hb5 B5 => ?_⟩
    obtain ⟨k5, rfl⟩ := Int.eq_ofNat_of_zero_le r50
    have B05 := B04.trans B5
    refine ⟨b, c, T1, R1, k5, tabs, rs, L1, rfl, by omega, hb5, fun m => nb1 b m rfl, fun m => nc1 c m rfl, dT4.keep fun a m o e => B5 _ _ e (nb1 a m), nd1, (dR4.keep fun a m o e => B5 _ _ e (nb2 a m)).dt fun a m => ⟨nb2 a m, n12 a m⟩, ok, w3, fun H6 tabs' ok' dT' hb6 B6 => ?_⟩
    have B06 : But b H H6 := fun a o e n => B6 _ _ (B05 _ _ e n) n fun m => by
      rw [new1 a m] at e
      cases e
    exact ⟨_, rfl, _, rfl, small (by show 2 ≤ 1000; decide), fin ok' dT' ((dR4.keep fun a m o e => B6 _ _ (B5 _ _ e (nb2 a m)) (nb2 a m) (n12 a m)).dt nb2) hb6 B06⟩

end
end Lw

set_option Elab.async false
set_option linter.all false
set_option maxRecDepth 100000
set_option maxHeartbeats 8000000
namespace Lw
open PySem PySem.Spec PyProof.Rows L2
/-! ### == of tables in any order -/
theorem tabAt_some {tabs : Tabs} {z : Str} {fs : Flds} (h : tabAt tabs z = some fs) : (z, fs) ∈ tabs := by
  unfold tabAt at h
  obtain ⟨p, hp, rfl⟩ := Option.map_eq_some_iff.mp h
  have h0 := List.find?_some (p := fun p : Str × Flds => decide (p.1 = z)) hp
  have h1 : p.1 = z := of_decide_eq_true h0
  have h2 := List.mem_of_find?_eq_some hp
  rw [← h1]
  exact h2
def plainTabs (tabs : Tabs) : Tabs := tabs.map fun p => (p.1, ordF p.2)
theorem plain_keys (tabs : Tabs) : (plainTabs tabs).map (·.1) = tabs.map (·.1) := by
  unfold plainTabs
  rw [List.map_map]
  rfl
theorem mem_plain {tabs : Tabs} {z : Str} {fs : Flds} : (z, fs) ∈ plainTabs tabs ↔ ∃ f0, (z, f0) ∈ tabs ∧ fs = ordF f0 := by
  unfold plainTabs
  rw [List.mem_map]
  constructor
  · rintro ⟨⟨y, f0⟩, m, e⟩
    cases e
    exact ⟨f0, m, rfl⟩
  · rintro ⟨f0, m, rfl⟩
    exact ⟨(z, f0), m, rfl⟩
theorem mem_ord {tabs : Tabs} (nd : (tabs.map (·.1)).Nodup) {z : Str} {fs : Flds} : (z, fs) ∈ ordTabs tabs ↔ ∃ f0, (z, f0) ∈ tabs ∧ fs = ordF f0 := by
  unfold ordTabs
  rw [List.mem_map]
  constructor
  · rintro ⟨y, m, e⟩
    obtain ⟨f0, e0, m0⟩ := tabAt_mem (sortT_mem.mp m)
    obtain ⟨rfl, rfl⟩ := Prod.mk.inj e
    exact ⟨f0, m0, by rw [tabOf_at e0]⟩
  · rintro ⟨f0, m, rfl⟩
    exact ⟨z, sortT_mem.mpr (List.mem_map_of_mem (f := (·.1)) m), by rw [tabOf_at (tabAt_of nd m)]⟩
theorem tabAt_same {a b : Tabs} (na : (a.map (·.1)).Nodup) (nb : (b.map (·.1)).Nodup) (h : ∀ z fs, (z, fs) ∈ a ↔ (z, fs) ∈ b) (z : Str) : tabAt a z = tabAt b z := by
  cases e : tabAt a z with
  | some fs => exact (tabAt_of nb ((h _ _).mp (tabAt_some e))).symm
  | none =>
    cases e2 : tabAt b z with
    | none => rfl
    | some fs =>
      rw [tabAt_of na ((h _ _).mpr (tabAt_some e2))] at e
      cases e
theorem eqTabs_un (x y : Tabs) : eqTabs x y = ((x.length == y.length) && x.all fun p => match (tabAt y p.1).map fieldsT with | none => false | some u => eqD2 (fieldsT p.2) u) := by
  unfold eqTabs eqDct eqItems
  have e1 : (x.map (·.1)).zip (x.map fun p => fieldsT p.2) = x.map fun p => (p.1, fieldsT p.2) := by
    rw [List.zip_map']
  rw [e1, List.length_map, List.length_map, List.all_map]
  refine congrArg _ (congrArg (List.all x) (funext fun p => ?_))
  show (match lookT (y.map (·.1)) (y.map fun p => fieldsT p.2) p.1 with | none => false | some u => eqD2 (fieldsT p.2) u) = _
  rw [tab_look]
theorem eqTabs_plain {a b : Tabs} (oa : TabsOk a) (ob : TabsOk b) : eqTabs (plainTabs a) (plainTabs b) = eqTabs (ordTabs a) (ordTabs b) := by
  rw [eqTabs_un, eqTabs_un]
  have l : ∀ t : Tabs, (plainTabs t).length = (ordTabs t).length := fun t => by
    unfold plainTabs ordTabs
    rw [List.length_map, List.length_map, sortT_len, List.length_map]
  rw [l a, l b]
  refine congrArg _ ?_
  have hz : ∀ z, tabAt (plainTabs b) z = tabAt (ordTabs b) z := tabAt_same (by rw [plain_keys]; exact ob.nd) (by rw [ordTabs_keys]; exact sortT_nodup ob.nd) fun z fs => by rw [mem_plain, mem_ord ob.nd]
  have hm : ∀ p, p ∈ plainTabs a ↔ p ∈ ordTabs a := fun p => by
    obtain ⟨z, fs⟩ := p
    rw [mem_plain, mem_ord oa.nd]
  refine Bool.eq_iff_iff.mpr ?_
  rw [List.all_eq_true, List.all_eq_true]
  constructor
  · intro h p hp
    have := h p ((hm p).mpr hp)
    rw [hz] at this
    exact this
  · intro h p hp
    rw [hz]
    exact h p ((hm p).mp hp)
theorem dict1_plain {tabs : Tabs} (ok : TabsOk tabs) : ∀ t ∈ (plainTabs tabs).map (fun p => fieldsT p.2), Dict1 t := fun t ht => by
  obtain ⟨⟨z, fs⟩, hp, rfl⟩ := List.mem_map.mp ht
  obtain ⟨f0, m, e⟩ := mem_plain.mp hp
  show Dict1 (fieldsT fs)
  rw [e]
  exact dict1_of ok.names (ordF_val (ok.val _ m).val)
abbrev sSame : Stmt := topS 52
abbrev NSame : List Str := ["_law_one", "_law_other", "_law_some", "_law_parts_here", "_law_table"]
abbrev scInS : Scope := ⟨.function, [(".0", .local), ("_law_parts_here", .cell), ("dict", .globalImplicit)], false, false, []⟩
section
variable {P : Program} {w : World} {K : PySem.W.Frag} {mg : Str → Option Value} {base : Heap}
theorem scSame : FnScope NSame ["_law_one", "_law_other"] (defScope sSame) := ⟨rfl, rfl, rfl, by decide +kernel, rfl, by decide +kernel, by decide +kernel⟩
def spSame : Sp := fun vs H Q _ => ∃ (p p' : Addr) (t t' : Tabs) (r r' : List Rul) (A B : Addr → Prop), vs = [.ref p, .ref p'] ∧ DT H A (.ref p) (partsT t r) ∧ DT H B (.ref p') (partsT t' r') ∧ PartsOk t r ∧ PartsOk t' r' ∧ ∀ H', Same H H' → Q (.bl (eqSch t r t' r')) H'
theorem ok_same {f f44 : Addr} {fd fd44 : FuncData} (F : Fun K "_law_same" "_law_same" sSame f fd)
    (G44 : FnOk P w K mg base CX0 1 f44 fd44 ["_law_fields_here"] spPlain) (m44 : mg "_law_plain_fields" = some (.ref f44)) (k44 : PySem.W.keepIn K (.ref f44) = true) (b44 : Binds K fd44 ["_law_fields_here"] [])
    (md : mg "dict" = none) : FnOk P w K mg base CX0 2 f fd ["_law_one", "_law_other"] spSame := by
  refine F.ok scSame (fun vs H Q E h => ?_) (fun cdv A0 outer s0 H vs Q E hr h => ?_)
  · obtain ⟨p, p', t, t', r, r', A, B, rfl, _⟩ := h
    rfl
  obtain ⟨p, p', t, t', r, r', A, B, rfl, dp, dp', ok, ok', q⟩ := h
  have hu : (cxOf CX0 P w K mg base NSame "_law_same" (defScope sSame) f cdv A0 outer s0 H E).nox.A.units + 68 < cLine := by
    have h := hr.un
    show (A0.deeper (envOfC "_law_same" (defScope sSame) s0.heap.objs.size f cdv)).units + 68 < cLine
    omega
  have hu2 : (cxOf CX0 P w K mg base NSame "_law_same" (defScope sSame) f cdv A0 outer s0 H E).nox.A.units + 64 < cLine := by omega
  refine ⟨_, (pss_cons (ps_setLc (i := 2) (own := [("_law_parts_here", 3)]) (g := gName 3) (tt := tYes) rfl scSame.nd rfl rfl (sw_true rfl rfl rfl (by decide +kernel)) (pi_tup (pe_tup (pa_cons (pv 0) (pa_cons (pv 1) pa_nil)))) (blkOk_by (N := NSame) (sc := defScope sSame) (by decide +kernel)) (fun _ _ _ _ _ => pg_name (i := 3) scSame.nd rfl (by first | exact .inl rfl | exact .inr rfl)) (fun _ _ _ _ _ => pts_nil) (fun _ _ _ _ _ => (pe_callTy (show CallR _ (.type "dict") (rDictP K) from call_dictP rfl) (by rfl) md (by decide +kernel) (pa_cons (pe_lock (pe_lc (own := [("_law_table", 4)]) (g := gName 4) (tt := tYes) rfl scSame.nd (pi_keys (pe_ix (r := rIxT K) ix_tup (pv 3) pe_int (fun _ _ => rfl))) (show BlkOk NSame scInS _ _ from blkOk_by (by decide +kernel)) (fun _ _ _ _ _ => pg_name (i := 4) scSame.nd rfl (by first | exact .inl rfl | exact .inr rfl)) (fun _ _ _ _ _ => pts_nil) (fun _ _ _ _ _ => (pe_tup (pa_cons (pv 4) (pa_cons (pe_call G44 (hr.mono (by decide)) (by rfl) m44 k44 b44 .nil pass0 (pa_cons (pe_dget (hu_of hr) (pe_ix (r := rIxT K) ix_tup (pv 3) pe_int (fun _ _ => rfl)) (pv 4) (fun _ _ => rfl)) pa_nil)) pa_nil)))))) pa_nil))))
    (pss_one (ps_ret (pe_and (pe_cmpR (op_eqDD hu) (pe_ix ix_list (pv 2) pe_int (fun _ _ => rfl)) (pe_ix ix_list (pv 2) pe_int (fun _ _ => rfl)) (nomark _)) (pe_one (pe_cmpR (op_eqPl hu2) (pe_ix ix_tup (pv 0) pe_int (fun _ _ => rfl)) (pe_ix ix_tup (pv 1) pe_int (fun _ _ => rfl)) (nomark _))))))), ?_⟩
  obtain ⟨T, R, ep, dT, dR⟩ := parts_in dp
  obtain ⟨T', R', ep', dT', dR'⟩ := parts_in dp'
  refine ⟨_, rfl, _, rfl, small (by show 2 ≤ 1000; decide), fun tp ntp => ?_⟩
  have s1 : Same H (upd H tp (.tup [.ref p, .ref p'])) := same_new ntp _
  have htp : (upd H tp (.tup [.ref p, .ref p'])) tp = some (.tup [.ref p, .ref p']) := upd_same
  generalize (upd H tp (.tup [.ref p, .ref p'])) = H1 at s1 htp ⊢
  refine ⟨tp, rfl, ⟨_, .inl (.inl htp)⟩, fun D nD => ?_⟩
  obtain ⟨trs, etr⟩ : ∃ trs : List Tr, trs = [tablesT (plainTabs t), tablesT (plainTabs t')] := ⟨_, rfl⟩
  refine lc_tup (K := K) (a := tp) (xs := [.ref p, .ref p']) (CopU (fun _ => True) H1 D trs) (CopU.zero nD) (fun i Hx _ q => .inl (.inl (q.1 _ _ htp))) ?_ ?_
  · intro i x Hx hx cp
    have sx : Same H Hx := s1.trans cp.1
    obtain ⟨pi, ti, ri, rfl, dpi, oki, hti⟩ : ∃ (pi : Addr) (ti : Tabs) (ri : List Rul), x = .ref pi ∧ DT Hx (· ≠ D) (.ref pi) (partsT ti ri) ∧ TabsOk ti ∧ trs[i]? = some (tablesT (plainTabs ti)) := by
      match i, hx with
      | 0, hx => cases hx; exact ⟨p, t, r, rfl, (dp.notNew (s1.free nD)).same sx, ok.tab, by rw [etr]; rfl⟩
      | 1, hx => cases hx; exact ⟨p', t', r', rfl, (dp'.notNew (s1.free nD)).same sx, ok'.tab, by rw [etr]; rfl⟩
      | i + 2, hx => simp at hx
    obtain ⟨Ti, Ri, epi, dTi, _⟩ := parts_in dpi
    obtain ⟨_, kvs, e1, eT, nT, kT, ndT, fewT, dvs⟩ := dTi.exist.dctI
    cases e1
    obtain ⟨accD, hDD, _⟩ := cp.2
    have npT : pi ≠ Ti := fun n => by rw [n, eT] at epi; cases epi
    refine ⟨rfl, yes_if ⟨Ti, _, eT, trivial, fun od => ?_⟩⟩
    have h1a : (upd Hx Ti (.frz od (.dK kvs))) Ti = some (.frz od (.dK kvs)) := upd_same
    have k1 : ∀ c, c ≠ Ti → (upd Hx Ti (.frz od (.dK kvs))) c = Hx c := fun c nc => upd_ne nc
    have f1 : ∀ c, (upd Hx Ti (.frz od (.dK kvs))) c = none → Hx c = none := fun c h => by
      by_cases n : c = Ti
      · rw [n, h1a] at h; cases h
      · rw [k1 c n] at h; exact h
    generalize (upd Hx Ti (.frz od (.dK kvs))) = HF at h1a k1 f1 ⊢
    have dA : DTs HF (fun c => c ≠ Ti ∧ HF c ≠ none ∧ c ≠ D) (kvs.map (·.2)) (ti.map fun p => fieldsT p.2) := ((DTs.avoid (DT.dct eT nT kT ndT fewT dvs) dvs (Nat.lt_succ_self _)).mono fun c o hc eo => by rw [k1 c hc.2]; exact eo).sub fun c hc => ⟨hc.2, by rw [k1 c hc.2]; exact hc.1.2, hc.1.1⟩
    refine ⟨_, rfl, pi, _, 0, .ref Ti, rfl, rfl, .inl (.inl (by rw [k1 pi npT]; exact epi)), atI_nat (j := 0) rfl, Ti, od, rfl, .inl ⟨kvs, h1a, fun D2 nD2 => ?_⟩⟩
    have lk : kvs.length = ti.length := by
      have h := congrArg List.length kT
      rw [List.length_map, List.length_map, List.length_map] at h
      exact h
    have l3 := oki.few
    refine lc_it walk_keys (fun j Hy => Same HF Hy ∧ ∃ (ps : List Addr) (es : List (Str × V)), Hy D2 = some (.lst (ps.map V.ref)) ∧ es.map (·.1) = (ti.map (·.1)).take j ∧ Paired (fun p (r : Str × V) => Hy p = some (.tup [.str r.1, r.2])) ps es ∧
        DTs Hy (fun c => c ≠ Ti ∧ c ≠ D2 ∧ c ≠ D) (es.map (·.2)) ((ti.take j).map fun p => fieldsT (ordF p.2)))
      ⟨same_new nD2 _, [], [], upd_same, rfl, .nil, .nil⟩ (fun i Hx _ p => p.1 _ _ h1a) ?_ ?_
    · rintro j y Hy H' hj ⟨sy, ps, es, hD2, ek, pr, dd⟩ ⟨rfl, kk, vv, hkv, rfl⟩
      obtain ⟨z, hz, rfl⟩ : ∃ z, (ti.map (·.1))[j]? = some z ∧ kk = Sum.inr z := by
        have h : (kvs.map (·.1))[j]? = some kk := by rw [List.getElem?_map, hkv]; rfl
        rw [kT, List.getElem?_map] at h
        obtain ⟨z, h1, h2⟩ := Option.map_eq_some_iff.mp h
        exact ⟨z, h1, h2.symm⟩
      obtain ⟨⟨z', fs⟩, htj, hz'⟩ := Option.map_eq_some_iff.mp (by rw [List.getElem?_map] at hz; exact hz)
      have hz' : z' = z := hz'
      subst hz'
      have hd : DGet H' Ti (.str z') (some vv) := .inl ⟨kvs, .inr z', .inr ⟨od, sy _ _ h1a⟩, rfl, by
        have h := valV_at (by rw [kT]; exact inr_nodup ndT) hkv
        exact h.symm⟩
      obtain ⟨tf, htf, dv⟩ := dA.get (i := j) (v := vv) (by rw [List.getElem?_map, hkv]; rfl)
      rw [List.getElem?_map, htj] at htf
      cases htf
      obtain ⟨fa, kf, rfl, _⟩ := dv.dctI
      have okF := oki.val _ (List.mem_of_getElem? htj)
      refine ⟨rfl, yes_if ⟨_, rfl, _, rfl, pi, _, 0, .ref Ti, rfl, rfl, .inl (.inl (sy _ _ (by rw [k1 pi npT]; exact epi))), atI_nat (j := 0) rfl, _, rfl, Ti, .ref fa, rfl, hd, ?_⟩⟩
      refine ⟨fa, fs, _, _, rfl, dv.same sy, okF, fun pn H4 s4 npn dn => ⟨small (by show 2 ≤ 1000; decide), fun tt nt => ?_⟩⟩
      have sT : Same H4 (upd H4 tt (.tup [kV (Sum.inr z'), .ref pn])) := same_new nt _
      have hT : (upd H4 tt (.tup [kV (Sum.inr z'), .ref pn])) tt = some (.tup [.str z', .ref pn]) := upd_same
      generalize (upd H4 tt (.tup [kV (Sum.inr z'), .ref pn])) = H5 at sT hT ⊢
      have s45 := s4.trans sT
      have hD5 := s45 _ _ hD2
      have lpe := pr.length
      have lee : es.length ≤ j := by
        have h := congrArg List.length ek
        rw [List.length_map, List.length_take] at h
        omega
      refine ⟨_, hD5, small1000 (by rw [List.length_map]; omega), Same.put (sy.trans s45) nD2, ps ++ [tt], es ++ [(z', .ref pn)], by rw [upd_same, List.map_append]; rfl, ?_, ?_, ?_⟩
      · rw [List.take_add_one, hz, List.map_append, ek]
        rfl
      · refine Paired.mono (fun p r h => ?_) ((Paired.mono (fun p r h => s45 _ _ h) pr).snoc (b := (z', V.ref pn)) hT)
        rw [upd_ne (fun q => by rw [q, hD5] at h; cases h)]
        exact h
      · rw [List.take_add_one, htj, List.map_append, List.map_append]
        have hTy := sy _ _ h1a
        have hDy : H' D ≠ none := fun n => by
          have h2 := f1 D (sy.free n)
          rw [hDD] at h2
          cases h2
        have dn2 : DT H5 (fun c => c ≠ Ti ∧ c ≠ D2 ∧ c ≠ D) (.ref pn) (fieldsT (ordF fs)) := (dn.same sT).sub fun c hc => by
          rcases hc with ⟨⟨h1, h2, h4⟩, h3⟩ | h3
          · exact ⟨h1, fun n => h2 (by rw [n]; exact nD2), h4⟩
          · exact ⟨fun n => (by rw [n, hTy] at h3; cases h3), fun n => (by rw [n, hD2] at h3; cases h3), fun n => hDy (by rw [← n]; exact h3)⟩
        exact DTs.mono (fun c o hc eo => by rw [upd_ne hc.2.1]; exact eo) ((dd.same s45).snoc dn2)
    · rintro Hy ⟨sy, ps, es, hD2, ek, pr, dd⟩
      rw [lk, List.take_length] at dd
      rw [lk, show ti.length = (ti.map (·.1)).length from (List.length_map ..).symm, List.take_length] at ek
      have ha := sy _ _ h1a
      have nDa : D2 ≠ Ti := fun q => by rw [q, ha] at hD2; cases hD2
      have keep : ∀ c, c ≠ Ti → (upd Hy Ti (.dK kvs)) c = Hy c := fun c nc => upd_ne nc
      have at' : (upd Hy Ti (.dK kvs)) Ti = some (.dK kvs) := upd_same
      generalize (upd Hy Ti (.dK kvs)) = HN at keep at' ⊢
      have sH : Same Hx HN := fun c o eo => by
        by_cases qc : c = Ti
        · subst qc
          rw [at', ← eo]
          exact eT.symm
        · rw [keep c qc]
          exact sy _ _ (by rw [k1 c qc]; exact eo)
      refine ⟨ha, D2, ps, tkD es, rfl, .inl (.inl (by rw [keep D2 nDa]; exact hD2)), ?_, fun pd npd => ?_⟩
      · have go : ∀ {ps : List Addr} {es : List (Str × V)}, Paired (fun p (r : Str × V) => Hy p = some (.tup [.str r.1, r.2])) ps es → Paired (fun p (kv : Key × V) => SqT K HN p [kV kv.1, kv.2]) ps (tkD es) := by
          intro ps es pr
          induction pr with
          | nil => exact .nil
          | cons h _ ih =>
            refine .cons (.inl (.inl ?_)) ih
            rw [keep _ (fun q => by rw [q, ha] at h; cases h)]
            exact h
        exact go pr
      · rw [tk_dict (by rw [ek]; exact ndT)]
        have npD : pd ≠ D := fun n => by rw [n, sH _ _ hDD] at npd; cases npd
        refine cp.go nD hti (by rw [etr]; exact (by decide : 2 ≤ 1000)) (sH.trans (same_new npd _)) (.dct upd_same ⟨npD, trivial⟩ (by rw [tkD_keys, ek, plain_keys]) (by rw [plain_keys]; exact ndT) (by rw [plain_keys]; exact fewT) ?_)
        rw [tkD_vals]
        have e3 : ((plainTabs ti).map fun p => fieldsT p.2) = ti.map fun p => fieldsT (ordF p.2) := by
          unfold plainTabs
          rw [List.map_map]
          rfl
        rw [e3]
        refine (dd.mono fun c o hc eo => ?_).sub (B := fun c => c ≠ D ∧ True) fun c hc => ⟨hc.2.2, trivial⟩
        have h2 : HN c = some o := by rw [keep c hc.1]; exact eo
        rw [upd_ne (ne_of_none h2 npd)]
        exact h2
  rintro Hx cp
  obtain ⟨sx0, acc, hD, dd⟩ := cp.last (by rw [etr]; exact Nat.le_refl 2)
  rw [etr] at dd
  have sx := s1.trans sx0
  cases dd with
  | @cons v0 vs _ _ d0 ds =>
    cases ds with
    | @cons v1 vs _ _ d1 dn =>
      cases dn
      refine ⟨_, rfl, D, _, 0, v0, rfl, rfl, .inl (.inl hD), atI_nat (j := 0) rfl, _, rfl, D, _, 1, v1, rfl, rfl, .inl (.inl hD), atI_nat (j := 1) rfl, _, _, _, _, _, _, d0, d1, dict1_plain ok.tab, dict1_plain ok'.tab, _, rfl, ?_⟩
      show if eqTabs (plainTabs t) (plainTabs t') = true then _ else _
      rw [eqTabs_plain ok.tab ok'.tab]
      by_cases g : eqTabs (ordTabs t) (ordTabs t') = true
      · refine tt_if g ⟨_, rfl, p, _, 1, .ref R, rfl, rfl, .inl (.inl (sx _ _ ep)), atI_nat (j := 1) rfl, _, rfl, p', _, 1, .ref R', rfl, rfl, .inl (.inl (sx _ _ ep')), atI_nat (j := 1) rfl, rulesT r, rulesT r', _, _, dR.same sx, dR'.same sx, (rules_pl ok).shaped (by decide), (rules_pl ok').shaped (by decide), ?_⟩
        have h : eqSch t r t' r' = PyData.eqv (rulesT r).data (rulesT r').data := by
          unfold eqSch
          rw [g, Bool.true_and]
          rfl
        rw [← h]
        exact q _ sx
      · have g' : eqTabs (ordTabs t) (ordTabs t') = false := by simpa using g
        refine ff_if g' ?_
        have h : eqSch t r t' r' = false := by
          unfold eqSch
          rw [g', Bool.false_and]
        have q' := q _ sx
        rw [h] at q'
        exact q'

end
end Lw

set_option Elab.async false
set_option linter.all false
set_option maxRecDepth 100000
set_option maxHeartbeats 4000000
/-! == of schemas, from the other side; what may stand beside one -/
namespace Lw
open PySem PySem.Spec PyProof.Rows L2
theorem sub_back {ks ls : List Str} (nd : ks.Nodup) (sub : ∀ z ∈ ks, z ∈ ls) (l : ks.length = ls.length) : ∀ z ∈ ls, z ∈ ks := fun z hz => by
  refine Classical.byContradiction fun n => ?_
  have h := PySem.length_le_of_nodup_of_subset (z :: ks) ls (List.nodup_cons.mpr ⟨n, nd⟩) fun y hy => (List.mem_cons.mp hy).elim (fun e => e ▸ hz) (sub y)
  rw [List.length_cons] at h
  omega
theorem zip_at {ks : List Str} {ts : List Tr} {p : Str × Tr} (h : p ∈ ks.zip ts) : ∃ i : Nat, ks[i]? = some p.1 ∧ ts[i]? = some p.2 := by
  obtain ⟨i, hi⟩ := List.getElem?_of_mem h
  rw [List.getElem?_zip_eq_some] at hi
  exact ⟨i, hi.1, hi.2⟩
theorem eqDct_back {f g : Tr → Tr → Bool} {ks ls : List Str} {ts us : List Tr} (nk : ks.Nodup) (nl : ls.Nodup) (l1 : ks.length = ts.length) (h : ∀ t ∈ ts, ∀ u ∈ us, f t u = true → g u t = true) (e : eqDct f ks ts ls us = true) : eqDct g ls us ks ts = true := by
  unfold eqDct eqItems at e ⊢
  obtain ⟨e1, e2⟩ := Bool.and_eq_true_iff.mp e
  have el : ks.length = ls.length := beq_iff_eq.mp e1
  have each := List.all_eq_true.mp e2
  have at_ : ∀ z ∈ ks, ∃ (i : Nat) (t u : Tr), ks[i]? = some z ∧ ts[i]? = some t ∧ lookT ls us z = some u ∧ f t u = true := fun z hz => by
    obtain ⟨i, hi⟩ := List.getElem?_of_mem hz
    have it : i < ts.length := by rw [← l1]; exact (List.getElem?_eq_some_iff.mp hi).1
    have ht : ts[i]? = some ts[i] := List.getElem?_eq_getElem it
    have m : (z, ts[i]) ∈ ks.zip ts := List.mem_of_getElem? (i := i) (by rw [List.getElem?_zip_eq_some]; exact ⟨hi, ht⟩)
    have h1 := each _ m
    cases eu : lookT ls us z with
    | none => simp only [eu] at h1; cases h1
    | some u => simp only [eu] at h1; exact ⟨i, ts[i], u, hi, ht, rfl, h1⟩
  have subL : ∀ z ∈ ks, z ∈ ls := fun z hz => by
    obtain ⟨i, t, u, _, _, lu, _⟩ := at_ z hz
    unfold lookT at lu
    obtain ⟨p, hp, _⟩ := Option.map_eq_some_iff.mp lu
    have h1 := List.of_mem_zip (List.mem_of_find?_eq_some hp)
    have h0 := List.find?_some (p := fun p : Str × Tr => decide (p.1 = z)) hp
    have h2 : p.1 = z := of_decide_eq_true h0
    rw [← h2]
    exact h1.1
  have subK := sub_back nk subL el
  refine Bool.and_eq_true_iff.mpr ⟨beq_iff_eq.mpr el.symm, List.all_eq_true.mpr fun p hp => ?_⟩
  obtain ⟨j, hj1, hj2⟩ := zip_at hp
  obtain ⟨i, t, u, hi, ht, lu, hf⟩ := at_ p.1 (subK _ (List.mem_of_getElem? hj1))
  have h3 := look_at nl hj1 hj2
  rw [h3] at lu
  cases lu
  show (match lookT ks ts p.1 with | none => false | some u => g p.2 u) = true
  rw [look_at nk hi ht]
  exact h _ (List.mem_of_getElem? ht) _ (List.mem_of_getElem? hj2) hf
theorem eqTabs_back {a b : Tabs} (oa : TabsOk a) (ob : TabsOk b) (e : eqTabs (ordTabs a) (ordTabs b) = true) : eqTabs (ordTabs b) (ordTabs a) = true := by
  have inner : ∀ {t : Tabs}, TabsOk t → ∀ u ∈ (ordTabs t).map (fun p => fieldsT p.2), ∃ fs : Flds, u = fieldsT fs ∧ (fs.map (·.1)).Nodup := fun {t} ot u hu => by
    obtain ⟨p, hp, rfl⟩ := List.mem_map.mp hu
    obtain ⟨f0, m, e⟩ := ordTabs_mem ot p hp
    exact ⟨p.2, rfl, by rw [e, ordF_keys]; exact sortT_nodup (ot.val _ m).nd⟩
  refine eqDct_back (by rw [ordTabs_keys]; exact sortT_nodup oa.nd) (by rw [ordTabs_keys]; exact sortT_nodup ob.nd) (by rw [List.length_map, List.length_map]) (fun t ht u hu hf => ?_) e
  obtain ⟨f1, rfl, n1⟩ := inner oa t ht
  obtain ⟨f2, rfl, n2⟩ := inner ob u hu
  refine eqDct_back (f := eqD1) (g := eqD1) n1 n2 (by rw [List.length_map, List.length_map]) (fun t _ u _ h => ?_) hf
  show PyData.eqv u.data t.data = true
  rw [PySem.W.eqv_comm]
  exact h
theorem eqSch_symm {t t' : Tabs} {r r' : List Rul} (o : PartsOk t r) (o' : PartsOk t' r') : eqSch t' r' t r = eqSch t r t' r' := by
  unfold eqSch eqRules
  rw [PySem.W.eqv_comm]
  refine congrArg (· && _) (Bool.eq_iff_iff.mpr ⟨eqTabs_back o'.tab o.tab, eqTabs_back o.tab o'.tab⟩)
theorem beside_ok {X : Cx} {C fe : Addr} (c : SchK X.K C fe) : ∀ pl σ H s y v, Inv X pl σ H s → RelV y v → BesideOk X.K C y H → RightOk X C s.heap v := fun pl σ H s y v J r b => by
  rcases b with ⟨b, dx, fs, rfl, e⟩ | ⟨n, mn, ty⟩
  · exact right_of J r (c.tyI e) (by unfold PySem.W.notFirst; simp)
  · exact right_of J r ty (c.nf n mn)
end Lw

set_option Elab.async false
set_option linter.all false
set_option maxRecDepth 100000
set_option maxHeartbeats 8000000
namespace Lw
open PySem PySem.Spec PyProof.Rows L2
structure Nmd (K : PySem.W.Frag) (mg : Str → Option Value) (x : Str) (f : Addr) (fd : FuncData) (ps : List Str) : Prop where
  m : mg x = some (.ref f)
  k : PySem.W.keepIn K (.ref f) = true
  b : Binds K fd ps []
abbrev sLaw : Stmt := topS 53
abbrev NLaw : List Str := ["_law_script","_law_bag_here","_law_turn","_law_parts_here","_law_handed","_law_schema","_law_k","_law_near_here","_law_other","_law_same_here","_law_one","_law_some","_law_told","_law_thing"]
def spLaw (K : PySem.W.Frag) : Sp := fun vs H Q _ => ∃ (a : Addr) (ns : List Int), vs = [.ref a] ∧ SqL K H a (ns.map V.int) ∧ ns.length ≤ 63 ∧ ∀ H', Q (.bl true) H'
def forBody : Stmt → List Stmt
  | .For (body := b) .. => b
  | _ => []
section
variable {P : Program} {w : World} {K : PySem.W.Frag} {mg : Str → Option Value} {base : Heap}
theorem scLaw : FnScope NLaw ["_law_script"] (defScope sLaw) := ⟨rfl, rfl, rfl, by decide +kernel, rfl, by decide +kernel, by decide +kernel⟩
/-- the tuple that stands for no rules -/
structure NoRules (K : PySem.W.Frag) (e : Addr) : Prop where
  ex : ∃ (o : Obj) (n : Nat), K.lookup e = some o ∧ o.cls = .type "tuple" ∧ o.data = .seq #[] n
theorem NoRules.sq {K : PySem.W.Frag} {e : Addr} (x : NoRules K e) (H : Hp) : SqT K H e [] := by
  obtain ⟨o, n, h1, h2, h3⟩ := x.ex
  exact .inr ⟨o, #[], n, h1, h2, h3, Nat.zero_le _, .nil⟩
theorem NoRules.ty {K : PySem.W.Frag} {e : Addr} (x : NoRules K e) (H : Hp) : TyX K H (.ref e) (.type "tuple") := by
  obtain ⟨o, n, h1, h2, h3⟩ := x.ex
  exact .kTuple h1 h2
/-- a schema is made -/
theorem MadeAt.at {C : Addr} {H1 H' : Hp} {s dx : Addr} {tabs : Tabs} {rs : List Rul} (ns : H1 s = none) (nd : H1 dx = none) (m : MadeAt C (upd (upd H1 dx (.own s)) s (.ins C dx [])) s dx tabs rs H') : SchAt C H' (fun a => H1 a = none) s tabs rs ∧ Same H1 H' := by
  obtain ⟨k, dT, dR, e, d1, d2⟩ := m
  have fr : ∀ c, (upd (upd H1 dx (.own s)) s (.ins C dx [])) c = none → H1 c = none := fun c h => by
    by_cases q : c = s
    · rw [q]; exact ns
    · rw [upd_ne q] at h
      by_cases q2 : c = dx
      · rw [q2]; exact nd
      · rw [upd_ne q2] at h; exact h
  exact ⟨⟨dx, dT, dR, ns, e, d1.sub fr, d2.sub fr⟩, fun a o ea => k a o (by rw [upd_ne (ne_of_none ea ns), upd_ne (ne_of_none ea nd)]; exact ea) (ne_of_none ea ns)⟩
theorem parts_depth {tabs : Tabs} {rs : List Rul} (o : PartsOk tabs rs) : (partsT tabs rs).depth ≤ 8 := by
  show max (tablesT tabs).depth (max (rulesT rs).depth 0) + 1 ≤ 8
  have := tables_depth tabs
  have := rules_depth o
  omega
theorem parts_few {tabs : Tabs} {rs : List Rul} (o : PartsOk tabs rs) : (partsT tabs rs).few = true := by
  show (decide (2 ≤ 1000) && ((tablesT tabs).few && ((rulesT rs).few && true))) = true
  rw [tables_few o.tab, rules_few o]
  rfl
theorem ok_law {f C fe e0 : Addr} {fd fde : FuncData} (F : Fun K "law" "law" sLaw f fd)
    (c : SchK K C fe) (Fe : FnOk P w K mg base CX0 1 fe fde ["self", "other"] (spMEq K C)) (be : Binds K fde ["self", "other"] []) (ML : C8.Mak P w K mg base 9 "Schema" C (spInitL C) []) (MT : C8.Mak P w K mg base 9 "Schema" C (spInitT K C) []) (MD : C8.Mak P w K mg base 9 "Schema" C (spInitT K C) [.ref e0]) (ne0 : NoRules K e0)
    {f33 : Addr} {fd33 : FuncData} (F33 : FnOk P w K mg base CX0 1 f33 fd33 ["_law_script"] (spBag K)) (n33 : Nmd K mg "_law_bag" f33 fd33 ["_law_script"])
    {f34 : Addr} {fd34 : FuncData} (F34 : FnOk P w K mg base CX0 1 f34 fd34 ["_law_bag_here", "_law_many_here"] spTake) (n34 : Nmd K mg "_law_take" f34 fd34 ["_law_bag_here", "_law_many_here"])
    {f35 : Addr} {fd35 : FuncData} (F35 : FnG P w K mg base 1 f35 fd35 ["_law_found", "_law_due"] spAlike) (n35 : Nmd K mg "_law_alike" f35 fd35 ["_law_found", "_law_due"])
    {f41 : Addr} {fd41 : FuncData} (F41 : FnOk P w K mg base CX0 5 f41 fd41 ["_law_bag_here", "_law_many_here", "_law_rare", "_law_rules"] spParts) (n41 : Nmd K mg "_law_parts" f41 fd41 ["_law_bag_here", "_law_many_here", "_law_rare", "_law_rules"])
    {f42 : Addr} {fd42 : FuncData} (F42 : FnOk P w K mg base CX0 9 f42 fd42 ["_law_thing"] (spCopied 9)) (n42 : Nmd K mg "_law_copied" f42 fd42 ["_law_thing"])
    {f43 : Addr} {fd43 : FuncData} (F43 : FnOk P w K mg base CX0 9 f43 fd43 ["_law_thing"] (spRuined 9)) (n43 : Nmd K mg "_law_ruined" f43 fd43 ["_law_thing"])
    {f47 : Addr} {fd47 : FuncData} (F47 : FnG P w K mg base 22 f47 fd47 ["_law_schema", "_law_parts_here", "_law_first"] (spRight C)) (n47 : Nmd K mg "_law_schema_right" f47 fd47 ["_law_schema", "_law_parts_here", "_law_first"])
    {f51 : Addr} {fd51 : FuncData} (F51 : FnG P w K mg base 9 f51 fd51 ["_law_bag_here", "_law_parts_here"] spNear) (n51 : Nmd K mg "_law_near" f51 fd51 ["_law_bag_here", "_law_parts_here"])
    {f52 : Addr} {fd52 : FuncData} (F52 : FnOk P w K mg base CX0 2 f52 fd52 ["_law_one", "_law_other"] spSame) (n52 : Nmd K mg "_law_same" f52 fd52 ["_law_one", "_law_other"])
    (mrange : mg "range" = none) (mint : mg "int" = none) (mtu : mg "tuple" = none) : FnG P w K mg base 23 f fd ["_law_script"] (spLaw K) := by
  refine fun_okG F scLaw (fun vs H Q E h => ?_) (fun cdv A0 outer s0 H vs Q E hr hg h => ?_)
  · obtain ⟨a, ns, rfl, _⟩ := h
    rfl
  obtain ⟨a, ns, rfl, hS, h63, q⟩ := h
  have hu : (cxOf CX0 P w K mg base NLaw "law" (defScope sLaw) f cdv A0 outer s0 H E).nox.A.units + 64 < cLine := hr.units
  have tail : ∃ u, PSs (cxOf CX0 P w K mg base NLaw "law" (defScope sLaw) f cdv A0 outer s0 H E).nox ((forBody ((defBody sLaw).getD 1 (.Pass ⟨0, 0, 0, 0⟩))).drop 3) u ∧ ∀ (D : Ends) (b c0 p hd s : Addr) (v2 v6 v7 v8 v9 v10 v11 v12 : Option V) (tabs : Tabs) (rs : List Rul) (L : List Addr) (H5 : Hp), BagAt H5 b c0 → DT H5 (fun a => a ≠ b ∧ a ∉ L) (.ref p) (partsT tabs rs) → DL H5 L (.ref hd) (partsT tabs rs) → L.Nodup → b ∉ L → c0 ∉ L → SchAt C H5 (fun a => a ≠ b ∧ a ∉ L) s tabs rs → PartsOk tabs rs → (∀ p ∈ tabs, ∀ q ∈ p.2, q.2.w3) →
      (∀ (Hx : Hp) (v6 v7 v8 v9 v10 v11 v12 : Option V), BagAt Hx b c0 → D.nx [some (.ref a), some (.ref b), v2, some (.ref p), some (.ref hd), some (.ref s), v6, v7, v8, v9, v10, v11, v12, none] Hx) →
      u D [some (.ref a), some (.ref b), v2, some (.ref p), some (.ref hd), some (.ref s), v6, v7, v8, v9, v10, v11, v12, none] H5 := by
    refine ⟨_, (pss_cons (ps_if (pt_cmpR (op_neSame hu) (pv 4) (pv 3) (nomark _)) (pss_one (ps_ret pe_bl)) pss_nil)
    (pss_cons (ps_expr (pe_call F43 (hr.mono (by decide)) (by rfl) n43.m n43.k n43.b .nil pass0 (pa_cons (pv 4) pa_nil)))
    (pss_cons (ps_for PassesOwn.never rfl (pi_range1 (by rfl) mrange (pa_cons pe_int pa_nil)) (pg_name (i := 6) scLaw.nd rfl (by first | exact .inl rfl | exact .inr rfl)) (pss_cons (ps_set (i := 7) scLaw.nd rfl (by first | exact .inl rfl | exact .inr rfl) (pe_callG F51 (hr.mono (by decide)) hg (by rfl) n51.m n51.k n51.b pass0 (pa_cons (pv 1) (pa_cons (pv 3) pa_nil))))
    (pss_cons (ps_par (i := 8) (j := 9) rfl scLaw.nd rfl rfl (by decide) rfl rfl (pa_cons (C8.pe_mk MT hr (by decide) (by rfl) (pa_cons (pe_ix ix_tup (pv 7) pe_int (fun _ _ => rfl)) (pa_cons (pe_callTy call_tuple_of (by rfl) mtu (by decide +kernel) (pa_cons (pe_ix ix_tup (pv 7) pe_int (fun _ _ => rfl)) pa_nil)) pa_nil))) (pa_cons (pe_call F52 (hr.mono (by decide)) (by rfl) n52.m n52.k n52.b .nil pass0 (pa_cons (pv 3) (pa_cons (pv 7) pa_nil))) pa_nil)) (by rfl))
    (pss_cons (ps_for PassesOwn.never rfl (pi_list (pe_slice sl_list (pe_lst (pa_cons (pe_tup (pa_cons (pv 5) (pa_cons (pv 3) pa_nil))) (pa_cons (pe_tup (pa_cons (pv 8) (pa_cons (pv 7) pa_nil))) (pa_cons (pe_tup (pa_cons (pv 5) (pa_cons (pv 3) pa_nil))) pa_nil)))) (po_some (pe_callTy call_int1 (by rfl) mint (by decide +kernel) (pa_cons (pe_cmpR op_gt (pv 6) pe_int (nomark _)) pa_nil))) po_none)) (pg_tup rfl (pgs_cons (pg_name (i := 10) scLaw.nd rfl (by first | exact .inl rfl | exact .inr rfl)) (pgs_cons (pg_name (i := 11) scLaw.nd rfl (by first | exact .inl rfl | exact .inr rfl)) pgs_nil))) (pss_one (ps_if (pt_not (pt_val (pe_callG F47 (hr.mono (by decide)) hg (by rfl) n47.m n47.k n47.b pass0 (pa_cons (pv 10) (pa_cons (pv 11) (pa_cons (pe_call F34 (hr.mono (by decide)) (by rfl) n34.m n34.k n34.b .nil pass0 (pa_cons (pv 1) (pa_cons pe_int pa_nil))) pa_nil)))))) (pss_one (ps_ret pe_bl)) pss_nil)))
    (pss_cons (ps_set (i := 12) scLaw.nd rfl (by first | exact .inl rfl | exact .inr rfl) (pe_lst (pa_cons (pe_cmpR (show OpR _ (compareOp .Eq) (rEqOwn C (spMEq K C) E0 (BesideOk K C)) from op_eqOwn Fe be pass0 c.eq (hr.mono (by decide)) (beside_ok c)) (pv 5) (pv 8) (nomark _)) (pa_cons (pe_cmpR (op_neOwn Fe be pass0 c.eq (hr.mono (by decide)) (ok := BesideOk K C) (beside_ok c)) (pv 8) (pv 5) (nomark _)) (pa_cons (pe_cmpR (show OpR _ (compareOp .Eq) (rEqOwn C (spMEq K C) E0 (BesideOk K C)) from op_eqOwn Fe be pass0 c.eq (hr.mono (by decide)) (beside_ok c)) (pv 5) (C8.pe_mk ML hr (by decide) (by rfl) (pa_cons (pe_ix ix_tup (pv 3) pe_int (fun _ _ => rfl)) (pa_cons (pe_ix ix_tup (pv 3) pe_int (fun _ _ => rfl)) pa_nil))) (nomark _)) pa_nil)))))
    (pss_one (ps_if (pt_not (pt_val (pe_callG F35 (hr.mono (by decide)) hg (by rfl) n35.m n35.k n35.b pass0 (pa_cons (pv 12) (pa_cons (pe_lst (pa_cons (pv 9) (pa_cons (pe_not (pv 9)) (pa_cons pe_bl pa_nil)))) pa_nil))))) (pss_one (ps_ret pe_bl)) pss_nil)))))))
    (pss_one (ps_if (pt_cmpR op_in_seq pe_bl (pe_lc (own := [("_law_thing", 13)]) (g := gName 13) (tt := tYes) rfl scLaw.nd (pi_list (pe_lst (pa_cons pe_non (pa_cons (pv 3) (pa_cons (pe_ix ix_tup (pv 3) pe_int (fun _ _ => rfl)) (pa_cons pe_int (pa_cons pe_str (pa_cons (pe_lst (pa_cons (pv 5) pa_nil)) pa_nil)))))))) (blkOk_by (N := NLaw) (sc := defScope sLaw) (by decide +kernel)) (fun _ _ _ _ _ => pg_name (i := 13) scLaw.nd rfl (by first | exact .inl rfl | exact .inr rfl)) (fun _ _ _ _ _ => pts_nil) (fun _ _ _ _ _ => (pe_cmpR (show OpR _ (compareOp .Eq) (rEqOwn C (spMEq K C) E0 (BesideOk K C)) from op_eqOwn Fe be pass0 c.eq (hr.mono (by decide)) (beside_ok c)) (pv 5) (pv 13) (nomark _)))) (by rfl)) (pss_one (ps_ret pe_bl)) pss_nil))))), ?_⟩
    intro D b c0 p hd s v2 v6 v7 v8 v9 v10 v11 v12 tabs rs L H5 hb5 dp dL ndL bL cL x ok w3 fin
    have dpl := dp.sub (B := fun a => a ≠ b) fun a h => h.1
    refine ⟨_, rfl, _, rfl, hd, p, [tablesT tabs, rulesT rs], (· ∈ L), _, rfl, rfl, dL.dt fun a h => h, dp, ?_, _, rfl, ff_if rfl ?_⟩
    · have := parts_depth ok
      have e : (partsT tabs rs).depth = Tr.depths [tablesT tabs, rulesT rs] + 1 := rfl
      omega
    refine ⟨_, rfl, .ref hd, partsT tabs rs, L, rfl, dL, ndL, Nat.lt_succ_of_le (parts_depth ok), parts_few ok, fun H6 off => ?_⟩
    have hb6 : BagAt H6 b c0 := by
      obtain ⟨x, y, z, ns, h1, h2, h3⟩ := hb5.ex
      exact ⟨x, y, z, ns, off.keep _ _ bL h1, off.keep _ _ cL h2, h3⟩
    have dp6 : DT H6 (· ≠ b) (.ref p) (partsT tabs rs) := (dp.mono fun a o h e => off.keep _ _ h.2 e).sub fun a h => h.1
    have x6 : SchAt C H6 (· ≠ b) s tabs rs := (x.mono fun a o h e => off.keep _ _ h.2 e).sub fun a h => h.1
    refine ⟨3, rfl, by decide, by decide, for_range (lo := 0) (n := 3) (fun i σ H' => (∃ v6 v7 v8 v9 v10 v11 v12 : Option V, σ = [some (.ref a), some (.ref b), v2, some (.ref p), some (.ref hd), some (.ref s), v6, v7, v8, v9, v10, v11, v12, none]) ∧ BagAt H' b c0 ∧ DT H' (· ≠ b) (.ref p) (partsT tabs rs) ∧ SchAt C H' (· ≠ b) s tabs rs)
      ⟨⟨v6, v7, v8, v9, v10, v11, v12, rfl⟩, hb6, dp6, x6⟩ ?_ ?_⟩
    · rintro k σ Hx hk ⟨⟨v6, v7, v8, v9, v10, v11, v12, rfl⟩, hbx, dpx, xx⟩
      refine ⟨_, rfl, _, rfl, b, c0, p, tabs, rs, rfl, hbx, dpx, ok, w3, fun p' tabs' rs' H7 ok' dp' hb7 B7 => ?_⟩
      have dp7 : DT H7 (· ≠ b) (.ref p) (partsT tabs rs) := dpx.but B7
      have x7 : SchAt C H7 (· ≠ b) s tabs rs := xx.mono fun a o h e => B7 _ _ e h
      obtain ⟨T', R', ep', dT', dR'⟩ := parts_in dp'
      obtain ⟨_, ys, eR0, eR', _, dys⟩ := dR'.lstI
      cases eR0
      refine ⟨_, rfl, p', _, 0, .ref T', rfl, rfl, .inl (.inl ep'), atI_nat (j := 0) rfl, _, rfl, p', _, 1, .ref R', rfl, rfl, .inl (.inl ep'), atI_nat (j := 1) rfl, R', ys, rfl, .inl ⟨.inl (.inl eR'), fun t nt => ?_⟩⟩
      have s78 : Same H7 (upd H7 t (.tup ys)) := same_new nt _
      have ht : (upd H7 t (.tup ys)) t = some (.tup ys) := upd_same
      generalize (upd H7 t (.tup ys)) = H8 at s78 ht ⊢
      refine fun s2 dx ns ndx nsd => ?_
      have sN : Same H8 (upd (upd H8 dx (.own s2)) s2 (.ins C dx [])) := (same_new ndx _).trans (same_new (by rw [upd_ne nsd.symm]; exact ns) _)
      refine ⟨s2, dx, T', t, ys, tabs', rs', _, _, rfl, upd_same, (dT'.same s78).same sN, .inl (.inl (sN _ _ ht)), fun H' sH => .base (.tup (sH _ _ (sN _ _ ht))), (dys.same s78).same sN, ok', fun H9 m => ⟨rfl, ?_⟩⟩
      obtain ⟨x2, s89⟩ := m.at ns ndx
      have s79 := s78.trans s89
      refine ⟨_, rfl, _, rfl, p, p', tabs, tabs', rs, rs', _, _, rfl, dp7.same s79, dp'.same s79, ok, ok', fun H10 s910 => ⟨_, _, rfl, ?_⟩⟩
      have s710 := s79.trans s910
      have x10 : SchAt C H10 (· ≠ b) s tabs rs := x7.mono fun a o h e => s710 _ _ e
      have x210 : SchAt C H10 (· ≠ b) s2 tabs' rs' := (x2.mono fun a o h e => s910 _ _ e).sub fun a h => (hb7.same s78).nb h
      have dp10 := dp7.same s710
      have dp'10 := dp'.same s710
      have hb10 := hb7.same s710
      clear x2 x7 xx dpx dp7 dp' dT' dR' dys m
      refine ⟨_, rfl, _, rfl, small (by show 2 ≤ 1000; decide), fun t1 nt1 => ?_⟩
      have s11 : Same H10 (upd H10 t1 (.tup [.ref s, .ref p])) := same_new nt1 _
      have ht1 : (upd H10 t1 (.tup [.ref s, .ref p])) t1 = some (.tup [.ref s, .ref p]) := upd_same
      generalize (upd H10 t1 (.tup [.ref s, .ref p])) = H11 at s11 ht1 ⊢
      refine ⟨_, rfl, _, rfl, small (by show 2 ≤ 1000; decide), fun t2 nt2 => ?_⟩
      have s12 : Same H11 (upd H11 t2 (.tup [.ref s2, .ref p'])) := same_new nt2 _
      have ht2 : (upd H11 t2 (.tup [.ref s2, .ref p'])) t2 = some (.tup [.ref s2, .ref p']) := upd_same
      generalize (upd H11 t2 (.tup [.ref s2, .ref p'])) = H12 at s12 ht2 ⊢
      refine ⟨_, rfl, _, rfl, small (by show 2 ≤ 1000; decide), fun t3 nt3 => ?_⟩
      have s13 : Same H12 (upd H12 t3 (.tup [.ref s, .ref p])) := same_new nt3 _
      have ht3 : (upd H12 t3 (.tup [.ref s, .ref p])) t3 = some (.tup [.ref s, .ref p]) := upd_same
      generalize (upd H12 t3 (.tup [.ref s, .ref p])) = H13 at s13 ht3 ⊢
      refine ⟨small (by show 3 ≤ 1000; decide), fun l nl => ?_⟩
      have s14 : Same H13 (upd H13 l (.lst [.ref t1, .ref t2, .ref t3])) := same_new nl _
      have hl : (upd H13 l (.lst [.ref t1, .ref t2, .ref t3])) l = some (.lst [.ref t1, .ref t2, .ref t3]) := upd_same
      generalize (upd H13 l (.lst [.ref t1, .ref t2, .ref t3])) = H14 at s14 hl ⊢
      have s1014 : Same H10 H14 := ((s11.trans s12).trans s13).trans s14
      have x14 : SchAt C H14 (· ≠ b) s tabs rs := x10.mono fun a o h e => s1014 _ _ e
      have x214 : SchAt C H14 (· ≠ b) s2 tabs' rs' := x210.mono fun a o h e => s1014 _ _ e
      have dp14 := dp10.same s1014
      have dp'14 := dp'10.same s1014
      have hb14 := hb10.same s1014
      have ht1' := s14 _ _ (s13 _ _ (s12 _ _ ht1))
      have ht2' := s14 _ _ (s13 _ _ ht2)
      have ht3' := s14 _ _ ht3
      have nbt : ∀ {a : Addr} {xs : List V}, H14 a = some (.tup xs) → a ≠ b := fun e n => by
        obtain ⟨_, _, _, _, h1, _, _⟩ := hb14.ex
        rw [n, h1] at e
        cases e
      have item : ∀ y ∈ [V.ref t1, V.ref t2, V.ref t3], ∃ (t o q' : Addr) (tb : Tabs) (rl : List Rul), y = .ref t ∧ H14 t = some (.tup [.ref o, .ref q']) ∧ SchAt C H14 (· ≠ b) o tb rl ∧ DT H14 (· ≠ b) (.ref q') (partsT tb rl) ∧ PartsOk tb rl := fun y hy => by
        rcases List.mem_cons.mp hy with h | hy
        · exact ⟨t1, s, p, tabs, rs, h, ht1', x14, dp14, ok⟩
        rcases List.mem_cons.mp hy with h | hy
        · exact ⟨t2, s2, p', tabs', rs', h, ht2', x214, dp'14, ok'⟩
        · exact ⟨t3, s, p, tabs, rs, List.mem_singleton.mp hy, ht3', x14, dp14, ok⟩
      obtain ⟨j, ej, hj⟩ : ∃ j : Nat, (if decide ((0 : Int) < 0 + (k : Nat)) = true then (1 : Int) else 0) = (j : Nat) ∧ j ≤ 1 := by
        by_cases g : decide ((0 : Int) < 0 + (k : Nat)) = true
        · exact ⟨1, by rw [if_pos g]; rfl, Nat.le_refl _⟩
        · exact ⟨0, by rw [if_neg g]; rfl, by decide⟩
      refine ⟨_, rfl, _, _, rfl, rfl, .inr ⟨_, rfl, _, rfl, l, _, rfl, .inl (.inl hl), fun p5 np5 => ?_⟩⟩
      rw [ej, cut_from]
      obtain ⟨its, eits⟩ : ∃ its, its = [V.ref t1, V.ref t2, V.ref t3].drop j := ⟨_, rfl⟩
      rw [← eits]
      have s15 : Same H14 (upd H14 p5 (.lst its)) := same_new np5 _
      have hp5 : (upd H14 p5 (.lst its)) p5 = some (.lst its) := upd_same
      have np5b : p5 ≠ b := hb14.nb np5
      generalize (upd H14 p5 (.lst its)) = H15 at s15 hp5 ⊢
      refine ⟨p5, rfl, ⟨_, .inl (.inl hp5)⟩, ?_⟩
      refine for_list (K := K) (a := p5) (xs := its) (fun j σ Hy => (∃ v10 v11 : Option V, σ = [some (.ref a), some (.ref b), v2, some (.ref p), some (.ref hd), some (.ref s), some (.int (0 + (k : Nat))), some (.ref p'), some (.ref s2), some (.bl (eqSch tabs rs tabs' rs')), v10, v11, v12, none]) ∧ BagAt Hy b c0 ∧ But b H15 Hy) ⟨⟨_, _, rfl⟩, hb14.same s15, But.refl b _⟩ (fun i σ Hy _ q => .inl (.inl (q.2.2 _ _ hp5 np5b))) ?_ ?_
      · rintro m y σ Hy hy ⟨⟨v10, v11, rfl⟩, hby, By⟩
        obtain ⟨t', o, q', tb, rl, rfl, et, xo, dq, oko⟩ := item y (by
          have h1 := List.mem_of_getElem? hy
          rw [eits] at h1
          exact List.mem_of_mem_drop h1)
        have By14 : ∀ a u, H14 a = some u → a ≠ b → Hy a = some u := fun a u e n => By _ _ (s15 _ _ e) n
        refine ⟨t', [.ref o, .ref q'], rfl, .inl (.inl (By14 _ _ et (nbt et))), rfl, .ref o, [.ref q'], rfl, .ref q', [], rfl, rfl, ?_⟩
        refine ⟨_, rfl, _, rfl, _, rfl, b, c0, 8, rfl, hby, by decide, by decide, fun r Hz r0 r1 hbz Bz => ?_⟩
        obtain ⟨kn, rfl⟩ := Int.eq_ofNat_of_zero_le r0
        refine ⟨kn, o, q', tb, rl, _, _, rfl, by omega, xo.mono fun a u h e => Bz _ _ (By14 _ _ e h) h, dq.mono fun a u h e => Bz _ _ (By14 _ _ e h) h, oko, fun Hw sw => ⟨_, rfl, ff_if rfl ?_⟩⟩
        exact ⟨⟨_, _, rfl⟩, hbz.same sw, (By.trans Bz).trans (Same.but sw b)⟩
      · rintro σ Hy ⟨⟨v10, v11, rfl⟩, hby, By⟩
        have k15 : ∀ a u, a ≠ b → H14 a = some u → Hy a = some u := fun a u n e => By _ _ (s15 _ _ e) n
        have xy : SchAt C Hy (· ≠ b) s tabs rs := x14.mono k15
        have x2y : SchAt C Hy (· ≠ b) s2 tabs' rs' := x214.mono k15
        have dpy : DT Hy (· ≠ b) (.ref p) (partsT tabs rs) := dp14.mono k15
        obtain ⟨dx1, dT1, dR1, _, es, _⟩ := xy.ex
        obtain ⟨dx2, dT2, dR2, _, es2, _⟩ := x2y.ex
        obtain ⟨T, R, ep, dT, dR⟩ := parts_in dpy
        refine ⟨_, rfl, _, rfl, s, dx1, _, rfl, es, .inl ⟨s2, dx2, _, rfl, es2⟩, .inl ⟨s, s2, tabs, tabs', rs, rs', _, _, rfl, xy, x2y, ok, ok', _, rfl, ?_⟩⟩
        refine ⟨_, rfl, _, rfl, s2, dx2, _, rfl, es2, .inl ⟨s, dx1, _, rfl, es⟩, .inl ⟨s2, s, tabs', tabs, rs', rs, _, _, rfl, x2y, xy, ok', ok, _, rfl, ?_⟩⟩
        rw [eqSch_symm ok ok']
        refine ⟨_, rfl, _, rfl, p, _, 0, .ref T, rfl, rfl, .inl (.inl ep), atI_nat (j := 0) rfl, _, rfl, p, _, 1, .ref R, rfl, rfl, .inl (.inl ep), atI_nat (j := 1) rfl, fun s3 dx3 ns3 ndx3 nsd3 => ?_⟩
        have sM : Same Hy (upd (upd Hy dx3 (.own s3)) s3 (.ins C dx3 [])) := (same_new ndx3 _).trans (same_new (by rw [upd_ne nsd3.symm]; exact ns3) _)
        refine ⟨s3, dx3, T, R, tabs, rs, _, _, rfl, upd_same, dT.same sM, dR.same sM, ok, fun Hm m => ⟨rfl, ?_⟩⟩
        obtain ⟨x3, sym⟩ := m.at ns3 ndx3
        obtain ⟨dx3', dT3, dR3, _, es3, _⟩ := x3.ex
        refine ⟨s, dx1, _, rfl, sym _ _ es, .inl ⟨s3, dx3', _, rfl, es3⟩, .inl ⟨s, s3, tabs, tabs, rs, rs, _, _, rfl, xy.mono fun a o h e => sym _ _ e, x3, ok, ok, _, rfl, ?_⟩⟩
        rw [eqSch_self ok]
        refine ⟨small (by show 3 ≤ 1000; decide), fun l1 nl1 => ?_⟩
        generalize eqSch tabs rs tabs' rs' = e0
        have s17 : Same Hm (upd Hm l1 (.lst [.bl e0, .bl (!e0), .bl true])) := same_new nl1 _
        have hl1 : (upd Hm l1 (.lst [.bl e0, .bl (!e0), .bl true])) l1 = some (.lst [.bl e0, .bl (!e0), .bl true]) := upd_same
        generalize (upd Hm l1 (.lst [.bl e0, .bl (!e0), .bl true])) = H17 at s17 hl1 ⊢
        refine ⟨_, rfl, _, rfl, _, rfl, _, rfl, small (by show 3 ≤ 1000; decide), fun l2 nl2 => ?_⟩
        have s18 : Same H17 (upd H17 l2 (.lst [.bl e0, .bl (!e0), .bl true])) := same_new nl2 _
        have hl2 : (upd H17 l2 (.lst [.bl e0, .bl (!e0), .bl true])) l2 = some (.lst [.bl e0, .bl (!e0), .bl true]) := upd_same
        generalize (upd H17 l2 (.lst [.bl e0, .bl (!e0), .bl true])) = H18 at s18 hl2 ⊢
        have dbl : ∀ {l : Addr}, H18 l = some (.lst [.bl e0, .bl (!e0), .bl true]) → DT H18 (fun _ => True) (.ref l) (.lst [.bl e0, .bl (!e0), .bl true]) := fun e => .lst e trivial (.cons (.bl _) (.cons (.bl _) (.cons (.bl _) .nil)))
        refine ⟨l1, l2, .lst [.bl e0, .bl (!e0), .bl true], _, _, rfl, dbl (s18 _ _ hl1), dbl hl2, (Shw.lstT (n := 0) (m := 0) (ofC (P := fun t => Shw t.data 0 0) (a := .bl e0) (Shw.bl _) (of2 (P := fun t => Shw t.data 0 0) (a := .bl (!e0)) (b := .bl true) (Shw.bl _) (Shw.bl _)))).le (by decide) (by simp only [List.length_cons, List.length_nil]; omega), by show max 0 (max 0 (max 0 0)) + 1 ≤ 60; decide, _, rfl, ff_if rfl ?_⟩
        have sYZ := (sym.trans s17).trans s18
        exact ⟨⟨_, _, _, _, _, _, _, rfl⟩, hby.same sYZ, dpy.same sYZ, xy.mono fun a o h e => sYZ _ _ e⟩
    · rintro σ Hx ⟨⟨v6, v7, v8, v9, v10, v11, v12, rfl⟩, hbx, dpx, xx⟩
      obtain ⟨T, R, ep, dT, dR⟩ := parts_in dpx
      obtain ⟨_, kvs, eT0, eT, _⟩ := dT.dctI
      cases eT0
      refine ⟨_, rfl, _, rfl, p, _, 0, .ref T, rfl, rfl, .inl (.inl ep), atI_nat (j := 0) rfl, _, rfl, small (by show 1 ≤ 1000; decide), fun l1 nl1 => ?_⟩
      have s1 : Same Hx (upd Hx l1 (.lst [.ref s])) := same_new nl1 _
      have hl1 : (upd Hx l1 (.lst [.ref s])) l1 = some (.lst [.ref s]) := upd_same
      generalize (upd Hx l1 (.lst [.ref s])) = H1 at s1 hl1 ⊢
      refine ⟨small (by show 6 ≤ 1000; decide), fun l2 nl2 => ?_⟩
      obtain ⟨its, eits⟩ : ∃ its, its = [V.non, V.ref p, V.ref T, V.int 0, V.str "schema", V.ref l1] := ⟨_, rfl⟩
      rw [← eits]
      have s2 : Same H1 (upd H1 l2 (.lst its)) := same_new nl2 _
      have hl2 : (upd H1 l2 (.lst its)) l2 = some (.lst its) := upd_same
      generalize (upd H1 l2 (.lst its)) = H2 at s2 hl2 ⊢
      have s12 := s1.trans s2
      refine ⟨l2, rfl, ⟨_, .inl (.inl hl2)⟩, fun D2 nD2 => ?_⟩
      have x2 : SchAt C H2 (· ≠ b) s tabs rs := xx.mono fun a o h e => s12 _ _ e
      have tys : ∀ y ∈ its, ∃ n ∈ ["NoneType", "tuple", "dict", "int", "str", "list"], ∀ Hy, Same H2 Hy → TyX K Hy y (.type n) := fun y hy => by
        rw [eits] at hy
        rcases List.mem_cons.mp hy with h | hy
        · exact ⟨"NoneType", by simp, fun Hy sy => by rw [h]; exact .base .non⟩
        rcases List.mem_cons.mp hy with h | hy
        · exact ⟨"tuple", by simp, fun Hy sy => by rw [h]; exact .base (.tup (sy _ _ (s12 _ _ ep)))⟩
        rcases List.mem_cons.mp hy with h | hy
        · exact ⟨"dict", by simp, fun Hy sy => by rw [h]; exact .base (.dK (sy _ _ (s12 _ _ eT)))⟩
        rcases List.mem_cons.mp hy with h | hy
        · exact ⟨"int", by simp, fun Hy sy => by rw [h]; exact .base (.int 0)⟩
        rcases List.mem_cons.mp hy with h | hy
        · exact ⟨"str", by simp, fun Hy sy => by rw [h]; exact .base (.str _)⟩
        · exact ⟨"list", by simp, fun Hy sy => by rw [List.mem_singleton.mp hy]; exact .base (.lst (sy _ _ (s2 _ _ hl1)))⟩
      have l6 : its.length = 6 := by rw [eits]; rfl
      refine lc_list (K := K) (a := l2) (xs := its) (fun i Hy => Same H2 Hy ∧ Hy D2 = some (.lst (List.replicate i (V.bl false)))) ⟨same_new nD2 _, upd_same⟩ (fun i Hy _ q => .inl (.inl (q.1 _ _ hl2))) ?_ ?_
      · rintro i y Hy hy ⟨sy, hD⟩
        have il := (List.getElem?_eq_some_iff.mp hy).1
        obtain ⟨n, mn, ty⟩ := tys y (List.mem_of_getElem? hy)
        have xy : SchAt C Hy (· ≠ b) s tabs rs := x2.mono fun a o h e => sy _ _ e
        obtain ⟨dx1, dT1, dR1, _, es, _⟩ := xy.ex
        refine ⟨rfl, yes_if ⟨_, rfl, _, rfl, s, dx1, _, rfl, es, .inr ⟨n, mn, ty Hy sy⟩, .inr ⟨s, y, n, rfl, mn, ty Hy sy, _, rfl, ?_⟩⟩⟩
        refine ⟨_, hD, small1000 (by rw [List.length_replicate]; omega), Same.put sy nD2, ?_⟩
        rw [upd_same, List.replicate_succ']
      · rintro Hy ⟨sy, hD⟩
        rw [l6] at hD
        refine ⟨D2, _, rfl, .inl (.inl (.inl hD)), rfl, rfl, _, rfl, ff_if rfl ?_⟩
        exact fin Hy _ _ _ _ _ _ _ (hbx.same (s12.trans sy))
  obtain ⟨u, tailP, tailQ⟩ := tail
  refine ⟨_, (pss_cons (ps_set (i := 1) scLaw.nd rfl (by first | exact .inl rfl | exact .inr rfl) (pe_call F33 (hr.mono (by decide)) (by rfl) n33.m n33.k n33.b .nil pass0 (pa_cons (pv 0) pa_nil)))
    (pss_cons (ps_for PassesOwn.never rfl (pi_range1 (by rfl) mrange (pa_cons pe_int pa_nil)) (pg_name (i := 2) scLaw.nd rfl (by first | exact .inl rfl | exact .inr rfl)) (pss_cons (ps_set (i := 3) scLaw.nd rfl (by first | exact .inl rfl | exact .inr rfl) (pe_call F41 (hr.mono (by decide)) (by rfl) n41.m n41.k n41.b .nil pass0 (pa_cons (pv 1) (pa_cons pe_int (pa_cons pe_int (pa_cons pe_int pa_nil))))))
    (pss_cons (ps_set (i := 4) scLaw.nd rfl (by first | exact .inl rfl | exact .inr rfl) (pe_call F42 (hr.mono (by decide)) (by rfl) n42.m n42.k n42.b .nil pass0 (pa_cons (pv 3) pa_nil)))
    (pss_cons (ps_set (i := 5) scLaw.nd rfl (by first | exact .inl rfl | exact .inr rfl) (pe_ifExp (pt_cmpR (op_nePl hu) (pe_ix ix_tup (pv 3) pe_int (fun _ _ => rfl)) (pe_lst pa_nil) (nomark _)) (C8.pe_mk ML hr (by decide) (by rfl) (pa_cons (pe_ix ix_tup (pv 4) pe_int (fun _ _ => rfl)) (pa_cons (pe_ix ix_tup (pv 4) pe_int (fun _ _ => rfl)) pa_nil))) (C8.pe_mk MD hr (by decide) (by rfl) (pa_cons (pe_ix ix_tup (pv 4) pe_int (fun _ _ => rfl)) pa_nil))))
    tailP))))
    (pss_one (ps_ret pe_bl)))), ?_⟩
  refine ⟨.ref a, rfl, a, ns, rfl, hS, h63, fun b c0 H1 nb nc hb s1 => ?_⟩
  refine ⟨4, rfl, by decide, by decide, for_range (lo := 0) (n := 4) (fun i σ H' => ∃ v2 v3 v4 v5 v6 v7 v8 v9 v10 v11 v12 : Option V, σ = [some (.ref a), some (.ref b), v2, v3, v4, v5, v6, v7, v8, v9, v10, v11, v12, none] ∧ BagAt H' b c0)
    ⟨none, none, none, none, none, none, none, none, none, none, none, rfl, hb⟩ ?_ ?_⟩
  · rintro i σ H2 hi ⟨v2, v3, v4, v5, v6, v7, v8, v9, v10, v11, v12, rfl, hb2⟩
    refine ⟨_, rfl, b, c0, 3, 2, 6, rfl, hb2, by decide, by decide, by decide, by decide, by decide, by decide, fun p tabs rs H3 dp ok w3 np hb3 B3 => ?_⟩
    refine ⟨_, rfl, .ref p, partsT tabs rs, _, rfl, dp, Nat.lt_of_le_of_lt (parts_depth ok) (by decide), parts_few ok, fun v4' L H4 s4 dL nd new => ?_⟩
    have hb4 := hb3.same s4
    have bL : b ∉ L := fun m => by
      obtain ⟨x, y, z, ns, h1, _, _⟩ := hb3.ex
      rw [new b m] at h1
      cases h1
    have cL : c0 ∉ L := fun m => by
      obtain ⟨x, y, z, ns, _, h1, _⟩ := hb3.ex
      rw [new c0 m] at h1
      cases h1
    have dpe : DT H4 (fun a => a ≠ b ∧ a ∉ L) (.ref p) (partsT tabs rs) := (dp.exist.sub fun a h => ⟨h.1, fun m => h.2 (new a m)⟩).same s4
    obtain ⟨T, R, ep, dT, dR⟩ := parts_in dpe
    have dh := dL.dt (A := fun _ => True) fun _ _ => trivial
    obtain ⟨hd, xs, rfl, _⟩ := dh.tupI
    obtain ⟨T2, R2, eh, dT2, dR2⟩ := parts_in dh
    have shR : SeqAt.shaped (rulesT rs).data = true := (rules_pl ok).shaped (by decide)
    have goOn : ∀ {D : Ends} {s dx : Addr} {H5 H6 : Hp}, Same H4 H5 → H5 s = none → H5 dx = none → MadeAt C (upd (upd H5 dx (.own s)) s (.ins C dx [])) s dx tabs rs H6 →
        (∀ (Hx : Hp) (v6 v7 v8 v9 v10 v11 v12 : Option V), BagAt Hx b c0 → D.nx [some (.ref a), some (.ref b), some (.int (0 + (i : Nat))), some (.ref p), some (.ref hd), some (.ref s), v6, v7, v8, v9, v10, v11, v12, none] Hx) →
        u D [some (.ref a), some (.ref b), some (.int (0 + (i : Nat))), some (.ref p), some (.ref hd), some (.ref s), v6, v7, v8, v9, v10, v11, v12, none] H6 := fun {D s dx H5 H6} s45 ns ndx m fin => by
      obtain ⟨x, s56⟩ := m.at ns ndx
      have s46 := s45.trans s56
      refine tailQ D b c0 p hd s _ v6 v7 v8 v9 v10 v11 v12 tabs rs L H6 (hb4.same s46) (dpe.same s46) (dL.same s46) nd bL cL (x.sub fun a h => ⟨(hb4.same s45).nb h, fun m => ?_⟩) ok w3 fin
      obtain ⟨o, e⟩ := dL.there a m
      rw [s45 _ _ e] at h
      cases h
    refine ⟨_, rfl, p, _, 1, .ref R, rfl, rfl, .inl (.inl ep), atI_nat (j := 1) rfl, small (by show 0 ≤ 1000; decide), fun e ne => ⟨rulesT rs, .lst [], _, fun _ => True, dR.same (same_new ne _), .lst upd_same trivial .nil, shR, by decide, _, rfl, ?_⟩⟩
    rw [rules_ne]
    have s45 : Same H4 (upd H4 e (.lst [])) := same_new ne _
    generalize (upd H4 e (.lst [])) = H5 at s45 ⊢
    cases rs with
    | nil =>
      refine ff_if rfl ?_
      refine ⟨_, rfl, hd, _, 0, .ref T2, rfl, rfl, .inl (.inl (s45 _ _ eh)), atI_nat (j := 0) rfl, fun s dx ns ndx nsd => ?_⟩
      have sN : Same H4 (upd (upd H5 dx (.own s)) s (.ins C dx [])) := (s45.trans (same_new ndx _)).trans (same_new (by rw [upd_ne nsd.symm]; exact ns) _)
      exact ⟨s, dx, T2, e0, [], tabs, [], _, fun _ => True, rfl, upd_same, dT2.same sN, ne0.sq _, fun H' _ => ne0.ty _, .nil, ok, fun H6 m => ⟨rfl, goOn s45 ns ndx m fun Hx v6 v7 v8 v9 v10 v11 v12 hx => ⟨_, _, _, _, _, _, _, _, _, _, _, rfl, hx⟩⟩⟩
    | cons r0 rest =>
      refine tt_if rfl ?_
      refine ⟨_, rfl, hd, _, 0, .ref T2, rfl, rfl, .inl (.inl (s45 _ _ eh)), atI_nat (j := 0) rfl, _, rfl, hd, _, 1, .ref R2, rfl, rfl, .inl (.inl (s45 _ _ eh)), atI_nat (j := 1) rfl, fun s dx ns ndx nsd => ?_⟩
      have sN : Same H4 (upd (upd H5 dx (.own s)) s (.ins C dx [])) := (s45.trans (same_new ndx _)).trans (same_new (by rw [upd_ne nsd.symm]; exact ns) _)
      exact ⟨s, dx, T2, R2, tabs, r0 :: rest, _, _, rfl, upd_same, dT2.same sN, dR2.same sN, ok, fun H6 m => ⟨rfl, goOn s45 ns ndx m fun Hx v6 v7 v8 v9 v10 v11 v12 hx => ⟨_, _, _, _, _, _, _, _, _, _, _, rfl, hx⟩⟩⟩
  · rintro σ Hx ⟨v2, v3, v4, v5, v6, v7, v8, v9, v10, v11, v12, rfl, hbx⟩
    exact q Hx

end
end Lw

set_option Elab.async false
set_option linter.all false
set_option maxRecDepth 100000
set_option maxHeartbeats 4000000
namespace Lw
open PySem PySem.Spec PyProof.Rows L2
/-- a def: where it stands, and its text -/
structure DefT (K : PySem.W.Frag) (x : Str) (dst : Stmt) (f : Addr) (fd : FuncData) : Prop where
  a : PySem.W.nsIn K mainGlobals x = some (some (.ref f))
  F : Fun K x x dst f fd
/-- a method -/
structure MetT (K : PySem.W.Frag) (C : Addr) (m q : Str) (dst : Stmt) (f : Addr) (fd : FuncData) : Prop where
  i : PySem.W.findIn K (.ref C) m = some (some (.ref f))
  t : PySem.W.typeIn K (.ref f) = some (.type "function")
  F : Fun K m q dst f fd
theorem c8_fn {K : PySem.W.Frag} {x q : Str} {st : Stmt} {f : Addr} {fd : FuncData} (F : Fun K x q st f fd) : C8.Fun K x q st f fd := by
  obtain ⟨oc, od, kV, doc, pm, an, cdv, ct, osl, e, lk, hcd⟩ := F.ex
  have e1 : defArgs st = C8.fnArgs st := by cases st <;> rfl
  have e2 : defBody st = C8.fnBody st := by cases st <;> rfl
  have e3 : defScope st = C8.fnScope st := by cases st <;> rfl
  rw [e1, e2, e3] at e
  exact ⟨oc, od, .none, kV, doc, pm, an, cdv, ct, osl, e, lk, hcd⟩
theorem MetT.me {K : PySem.W.Frag} {C : Addr} {m q : Str} {dst : Stmt} {f : Addr} {fd : FuncData} (x : MetT K C m q dst f fd) : Meth K C m f := ⟨x.i, by unfold PySem.W.isFn; rw [x.t]; rfl, x.F.kp⟩
/-- __init__, with the tuple that stands for no rules -/
structure IniT (K : PySem.W.Frag) (C f e : Addr) (fd : FuncData) : Prop where
  i : PySem.W.findIn K (.ref C) "__init__" = some (some (.ref f))
  t : PySem.W.typeIn K (.ref f) = some (.type "function")
  F : FunD K "__init__" "Schema.__init__" (C8.fnArgs sInit) (C8.fnBody sInit) (C8.fnScope sInit) [.ref e] [] f fd
  e : NoRules K e
theorem ini_mk {K : PySem.W.Frag} {f e T : Addr} {oc : Value} {od an : Option Addr} {osl : Array (Option Value)} {kV doc pm cdv ct : Value} {oT : Obj} {n : Nat} (l : K.lookup f = some ⟨oc, od, .func (PySem.W.fnOf "__init__" "Schema.__init__" (C8.fnArgs sInit) (C8.fnBody sInit) (C8.fnScope sInit) (.ref T) kV doc pm an cdv ct), osl⟩) (c : PySem.W.codeIn K cdv "Schema.__init__" = true) (k : PySem.W.keepIn K (.ref f) = true) (lT : K.lookup T = some oT) (dT : oT.data = .seq #[.ref e] n) :
    FunD K "__init__" "Schema.__init__" (C8.fnArgs sInit) (C8.fnBody sInit) (C8.fnScope sInit) [.ref e] [] f (PySem.W.fnOf "__init__" "Schema.__init__" (C8.fnArgs sInit) (C8.fnBody sInit) (C8.fnScope sInit) (.ref T) kV doc pm an cdv ct) :=
  ⟨⟨oc, od, .ref T, kV, doc, pm, an, cdv, ct, osl, rfl, l, c, .inr ⟨by simp, T, oT, [.ref e], n, rfl, lT, dT, .cons rfl .nil⟩, .inl rfl⟩, k⟩
theorem IniT.c8 {K : PySem.W.Frag} {C f e : Addr} {fd : FuncData} (x : IniT K C f e fd) : C8.Fun K "__init__" "Schema.__init__" sInit f fd := by
  obtain ⟨oc, od, dV, kV, doc, pm, an, cdv, ct, osl, h, lk, hcd, _, _⟩ := x.F.ex
  exact ⟨oc, od, dV, kV, doc, pm, an, cdv, ct, osl, h, lk, hcd⟩
theorem IniT.b2 {K : PySem.W.Frag} {C f e : Addr} {fd : FuncData} (x : IniT K C f e fd) : ∃ ds, Vals [V.ref e] ds ∧ Binds K fd ["self", "tables", "rules"] ds :=
  x.F.binds1 2 0 (by simp) rfl fun T kV doc pm an cdv ct us its hu hi => match us, its, hu, hi with | [_, _], [_], _, _ => ⟨_, rfl, rfl⟩
theorem IniT.b3 {K : PySem.W.Frag} {C f e : Addr} {fd : FuncData} (x : IniT K C f e fd) : Binds K fd ["self", "tables", "rules"] [] := by
  obtain ⟨ds, v, b⟩ := x.F.binds1 (ps := ["self", "tables", "rules"]) 3 1 (by simp) rfl fun T kV doc pm an cdv ct us its hu hi => match us, its, hu, hi with | [_, _, _], [_], _, _ => ⟨_, rfl, rfl⟩
  cases v
  exact b
/-- what else is asked of the class, by looking -/
def okSch (K : PySem.W.Frag) (C fe : Addr) : Bool :=
  PySem.W.plainGet K C Str.empty && (PySem.W.hasDictIn K C && (PySem.W.plainOver K C && (decide (PySem.W.findIn K (.ref C) "__setattr__" = some (some (.builtin "object.__setattr__"))) &&
  (decide (PySem.W.findIn K (.ref C) "_tables" = some none) && (decide (PySem.W.findIn K (.ref C) "_rules" = some none) && (decide (PySem.W.findIn K (.ref C) "__eq__" = some (some (.ref fe))) && (decide (PySem.W.findIn K (.ref C) "__ne__" = some (some (.builtin "object.__ne__"))) &&
  (PySem.W.isFn K (.ref fe) && (decide (PySem.W.subIn K (.ref C) (.type "object") = some true) && (decide (PySem.W.findIn K (.ref C) "__class__" = some (some (.builtin "object.__class__"))) && (decide (PySem.W.specialIn K (.builtin "object.__class__") "__get__" = some (some (.builtin "getset_descriptor.__get__"))) &&
  (decide (PySem.W.takesIn K (.builtin "object.__class__") = some true) && (decide (PySem.W.mroIn K C (.type "object") = some true) && (["NoneType", "tuple", "dict", "int", "str", "list"].all (fun n => decide (PySem.W.kitOne K (.type n) (.ref C) = some false)) && (["NoneType", "tuple", "dict", "int", "str", "list"].all (fun n => PySem.W.notFirst K C (.type n)) &&
  (PySem.W.makesIn K C && PySem.W.keepIn K (.ref C)))))))))))))))))
theorem okSch_ok {K : PySem.W.Frag} {C fe : Addr} (h : okSch K C fe = true) : SchK K C fe ∧ PySem.W.makesIn K C = true ∧ PySem.W.keepIn K (.ref C) = true := by
  unfold okSch at h
  simp only [Bool.and_eq_true, decide_eq_true_eq, List.all_eq_true] at h
  obtain ⟨h1, h2, h3, h4, h5, h6, h7, h8, h9, h10, h11, h12, h13, h14, h15, h16, h17, h18⟩ := h
  exact ⟨⟨⟨⟨h1, h2, h3, h4⟩, h5, h6⟩, ⟨h7, h8, h9, h10⟩, h11, h12, h13, h14, h15, h16⟩, h17, h18⟩

theorem all14 {l : PySem.W.OpenLaw} {w : World} {K : PySem.W.Frag} {h : Heap} {mg : Str → Option Value} {fa C fI e0 pS : Addr} {gI : FuncData} {tk0 tk1 tk2 tk3 tk4 tk5 tk6 : Tok} (kin : K.In h) (G : h.Ns mainGlobals mg) (hfa : mg "law" = some (.ref fa))
    {f4 : Addr} {fd4 : FuncData}
    {f5 : Addr} {fd5 : FuncData}
    {f11 : Addr} {fd11 : FuncData}
    {f12 : Addr} {fd12 : FuncData}
    {f13 : Addr} {fd13 : FuncData}
    {f14 : Addr} {fd14 : FuncData}
    {f15 : Addr} {fd15 : FuncData}
    {f16 : Addr} {fd16 : FuncData}
    {f17 : Addr} {fd17 : FuncData}
    {f19 : Addr} {fd19 : FuncData}
    {f27 : Addr} {fd27 : FuncData}
    {f28 : Addr} {fd28 : FuncData}
    {f29 : Addr} {fd29 : FuncData}
    {f30 : Addr} {fd30 : FuncData}
    {f33 : Addr} {fd33 : FuncData}
    {f34 : Addr} {fd34 : FuncData}
    {f35 : Addr} {fd35 : FuncData}
    {f36 : Addr} {fd36 : FuncData}
    {f37 : Addr} {fd37 : FuncData}
    {f38 : Addr} {fd38 : FuncData}
    {f39 : Addr} {fd39 : FuncData}
    {f40 : Addr} {fd40 : FuncData}
    {f41 : Addr} {fd41 : FuncData}
    {f42 : Addr} {fd42 : FuncData}
    {f43 : Addr} {fd43 : FuncData}
    {f44 : Addr} {fd44 : FuncData}
    {f45 : Addr} {fd45 : FuncData}
    {f46 : Addr} {fd46 : FuncData}
    {f47 : Addr} {fd47 : FuncData}
    {f48 : Addr} {fd48 : FuncData}
    {f49 : Addr} {fd49 : FuncData}
    {f50 : Addr} {fd50 : FuncData}
    {f51 : Addr} {fd51 : FuncData}
    {f52 : Addr} {fd52 : FuncData}
    {f53 : Addr} {fd53 : FuncData}
    {e1 : Addr} {ed1 : FuncData}
    {e2 : Addr} {ed2 : FuncData}
    {e3 : Addr} {ed3 : FuncData}
    {e4 : Addr} {ed4 : FuncData}
    {e5 : Addr} {ed5 : FuncData}
    {e6 : Addr} {ed6 : FuncData}
    {e7 : Addr} {ed7 : FuncData}
    {e8 : Addr} {ed8 : FuncData}
    {e9 : Addr} {ed9 : FuncData}
    {e10 : Addr} {ed10 : FuncData}
    {e11 : Addr} {ed11 : FuncData}
    {e12 : Addr} {ed12 : FuncData}
    {e13 : Addr} {ed13 : FuncData}
    {e14 : Addr} {ed14 : FuncData}
    (d4 : DefT K "is_name" sIsName f4 fd4)
    (d5 : DefT K "are_names" sAreNames f5 fd5)
    (d11 : DefT K "fields_of" sFieldsOf f11 fd11)
    (d12 : DefT K "_is_field" sIsField f12 fd12)
    (d13 : DefT K "sort_of" sSortOf f13 fd13)
    (d14 : DefT K "inside_nots" sInside f14 fd14)
    (d15 : DefT K "_is_not" sIsNot f15 fd15)
    (d16 : DefT K "is_tests" sTs f16 fd16)
    (d17 : DefT K "_is_inner_test" sInner f17 fd17)
    (d19 : DefT K "copy_of" sCopy f19 fd19)
    (d27 : DefT K "_are_tables" sTabs f27 fd27)
    (d28 : DefT K "_ordered" sOrd f28 fd28)
    (d29 : DefT K "_is_rule" sRule1 f29 fd29)
    (d30 : DefT K "_is_link_rule" sLinkRule f30 fd30)
    (d33 : DefT K "_law_bag" sBag f33 fd33)
    (d34 : DefT K "_law_take" sTake f34 fd34)
    (d35 : DefT K "_law_alike" sAlike f35 fd35)
    (d36 : DefT K "_law_names" sNames f36 fd36)
    (d37 : DefT K "_law_fields" sFields f37 fd37)
    (d38 : DefT K "_law_like" sLike f38 fd38)
    (d39 : DefT K "_law_tests" sTests f39 fd39)
    (d40 : DefT K "_law_one_rule" sRule f40 fd40)
    (d41 : DefT K "_law_parts" sParts f41 fd41)
    (d42 : DefT K "_law_copied" sLCopied f42 fd42)
    (d43 : DefT K "_law_ruined" sRuined f43 fd43)
    (d44 : DefT K "_law_plain_fields" sPlain f44 fd44)
    (d45 : DefT K "_law_many" sMany f45 fd45)
    (d46 : DefT K "_law_asked_of" sAsked f46 fd46)
    (d47 : DefT K "_law_schema_right" sRight f47 fd47)
    (d48 : DefT K "_law_strange" sStrange f48 fd48)
    (d49 : DefT K "_law_other_rules" sORules f49 fd49)
    (d50 : DefT K "_law_other_field" sOField f50 fd50)
    (d51 : DefT K "_law_near" sNear f51 fd51)
    (d52 : DefT K "_law_same" sSame f52 fd52)
    (d53 : DefT K "law" sLaw f53 fd53)
    (m1 : MetT K C "tables" "Schema.tables" sMTables e1 ed1)
    (m2 : MetT K C "fields" "Schema.fields" sMFields e2 ed2)
    (m3 : MetT K C "marks" "Schema.marks" sMMarks e3 ed3)
    (m4 : MetT K C "links" "Schema.links" sMLinks e4 ed4)
    (m5 : MetT K C "tags" "Schema.tags" sMTags e5 ed5)
    (m6 : MetT K C "_of_sort" "Schema._of_sort" sMSort e6 ed6)
    (m7 : MetT K C "words" "Schema.words" sMWords e7 ed7)
    (m8 : MetT K C "leads_to" "Schema.leads_to" sMLeads e8 ed8)
    (m9 : MetT K C "rules" "Schema.rules" sMRules e9 ed9)
    (m10 : MetT K C "names" "Schema.names" sMNames e10 ed10)
    (m11 : MetT K C "rule_of" "Schema.rule_of" sMRuleOf e11 ed11)
    (m12 : MetT K C "rank_of" "Schema.rank_of" sMRank e12 ed12)
    (m13 : MetT K C "rows_of" "Schema.rows_of" sMRows e13 ed13)
    (m14 : MetT K C "__eq__" "Schema.__eq__" sMEq e14 ed14)
    (ini : IniT K C fI e0 gI) (aC : PySem.W.nsIn K mainGlobals "Schema" = some (some (.ref C))) (cC : okSch K C e14 = true)
    (aS : PySem.W.nsIn K mainGlobals "SORTS" = some (some (.ref pS))) (lS : ∃ (ta tb tc : Tok) (n : Nat) (sl : Array (Option Value)), K.lookup pS = some ⟨.type "tuple", none, .seq #[.str "mark" ta, .str "link" tb, .str "tag" tc] n, sl⟩)
    (c0 : PySem.W.nsIn K mainGlobals "LETTERS" = some (some (.str LET tk0)))
    (c1 : PySem.W.nsIn K mainGlobals "LONGEST" = some (some (.int 8 tk1)))
    (c2 : PySem.W.nsIn K mainGlobals "MOST_WORDS" = some (some (.int 4 tk2)))
    (c3 : PySem.W.nsIn K mainGlobals "MOST_OF_A_SORT" = some (some (.int 2 tk3)))
    (c4 : PySem.W.nsIn K mainGlobals "MOST_NOTS" = some (some (.int 4 tk4)))
    (c5 : PySem.W.nsIn K mainGlobals "MOST_TABLES" = some (some (.int 3 tk5)))
    (c6 : PySem.W.nsIn K mainGlobals "MOST_RULES" = some (some (.int 6 tk6)))
    (z1 : PySem.W.nsIn K mainGlobals "abs" = some none) (z2 : PySem.W.nsIn K mainGlobals "int" = some none) (z3 : PySem.W.nsIn K mainGlobals "range" = some none) (z4 : PySem.W.nsIn K mainGlobals "len" = some none) (z5 : PySem.W.nsIn K mainGlobals "sorted" = some none) (z6 : PySem.W.nsIn K mainGlobals "set" = some none) (z7 : PySem.W.nsIn K mainGlobals "dict" = some none) (z8 : PySem.W.nsIn K mainGlobals "list" = some none) (z9 : PySem.W.nsIn K mainGlobals "repr" = some none) (z10 : PySem.W.nsIn K mainGlobals "isinstance" = some none) (z11 : PySem.W.nsIn K mainGlobals "tuple" = some none) (z12 : PySem.W.nsIn K mainGlobals "all" = some none) (z13 : PySem.W.nsIn K mainGlobals "str" = some none) (z14 : PySem.W.nsIn K mainGlobals "enumerate" = some none) :
    ∃ fd : FuncData, (∀ (s : Shared) (v : Value), BindsTo s fd ⟨[v], []⟩ [("_law_script", v)]) ∧ ∀ base : Heap, K.In base → base.Ns mainGlobals mg → (∃ o, base.get? sysModules = some o) → FnG l.prog w K mg base 23 fa fd ["_law_script"] (spLaw K) := by
  have e := hfa.symm.trans (PySem.W.mg_of kin G d53.a)
  cases e
  have at_ : ∀ {x : Str} {v : Value}, PySem.W.nsIn K mainGlobals x = some (some v) → mg x = some v := fun z => PySem.W.mg_of kin G z
  have no_ : ∀ {x : Str}, PySem.W.nsIn K mainGlobals x = some none → mg x = none := fun z => PySem.W.mg_none_of kin G z
  obtain ⟨sch, mk1, mk2⟩ := okSch_ok cC
  have n4 : Nmd K mg "is_name" f4 fd4 ["thing"] := ⟨at_ d4.a, d4.F.kp, d4.F.binds fun _ _ _ _ _ _ us hl => match us, hl with | [_], _ => rfl⟩
  have n5 : Nmd K mg "are_names" f5 fd5 ["thing"] := ⟨at_ d5.a, d5.F.kp, d5.F.binds fun _ _ _ _ _ _ us hl => match us, hl with | [_], _ => rfl⟩
  have n11 : Nmd K mg "fields_of" f11 fd11 ["thing"] := ⟨at_ d11.a, d11.F.kp, d11.F.binds fun _ _ _ _ _ _ us hl => match us, hl with | [_], _ => rfl⟩
  have n12 : Nmd K mg "_is_field" f12 fd12 ["thing"] := ⟨at_ d12.a, d12.F.kp, d12.F.binds fun _ _ _ _ _ _ us hl => match us, hl with | [_], _ => rfl⟩
  have n13 : Nmd K mg "sort_of" f13 fd13 ["fields", "name"] := ⟨at_ d13.a, d13.F.kp, d13.F.binds fun _ _ _ _ _ _ us hl => match us, hl with | [_, _], _ => rfl⟩
  have n14 : Nmd K mg "inside_nots" f14 fd14 ["test"] := ⟨at_ d14.a, d14.F.kp, d14.F.binds fun _ _ _ _ _ _ us hl => match us, hl with | [_], _ => rfl⟩
  have n15 : Nmd K mg "_is_not" f15 fd15 ["thing"] := ⟨at_ d15.a, d15.F.kp, d15.F.binds fun _ _ _ _ _ _ us hl => match us, hl with | [_], _ => rfl⟩
  have n16 : Nmd K mg "is_tests" f16 fd16 ["fields", "thing"] := ⟨at_ d16.a, d16.F.kp, d16.F.binds fun _ _ _ _ _ _ us hl => match us, hl with | [_, _], _ => rfl⟩
  have n17 : Nmd K mg "_is_inner_test" f17 fd17 ["fields", "thing"] := ⟨at_ d17.a, d17.F.kp, d17.F.binds fun _ _ _ _ _ _ us hl => match us, hl with | [_, _], _ => rfl⟩
  have n19 : Nmd K mg "copy_of" f19 fd19 ["thing"] := ⟨at_ d19.a, d19.F.kp, d19.F.binds fun _ _ _ _ _ _ us hl => match us, hl with | [_], _ => rfl⟩
  have n27 : Nmd K mg "_are_tables" f27 fd27 ["thing"] := ⟨at_ d27.a, d27.F.kp, d27.F.binds fun _ _ _ _ _ _ us hl => match us, hl with | [_], _ => rfl⟩
  have n28 : Nmd K mg "_ordered" f28 fd28 ["fields"] := ⟨at_ d28.a, d28.F.kp, d28.F.binds fun _ _ _ _ _ _ us hl => match us, hl with | [_], _ => rfl⟩
  have n29 : Nmd K mg "_is_rule" f29 fd29 ["tables", "thing"] := ⟨at_ d29.a, d29.F.kp, d29.F.binds fun _ _ _ _ _ _ us hl => match us, hl with | [_, _], _ => rfl⟩
  have n30 : Nmd K mg "_is_link_rule" f30 fd30 ["tables", "fields", "thing"] := ⟨at_ d30.a, d30.F.kp, d30.F.binds fun _ _ _ _ _ _ us hl => match us, hl with | [_, _, _], _ => rfl⟩
  have n33 : Nmd K mg "_law_bag" f33 fd33 ["_law_script"] := ⟨at_ d33.a, d33.F.kp, d33.F.binds fun _ _ _ _ _ _ us hl => match us, hl with | [_], _ => rfl⟩
  have n34 : Nmd K mg "_law_take" f34 fd34 ["_law_bag_here", "_law_many_here"] := ⟨at_ d34.a, d34.F.kp, d34.F.binds fun _ _ _ _ _ _ us hl => match us, hl with | [_, _], _ => rfl⟩
  have n35 : Nmd K mg "_law_alike" f35 fd35 ["_law_found", "_law_due"] := ⟨at_ d35.a, d35.F.kp, d35.F.binds fun _ _ _ _ _ _ us hl => match us, hl with | [_, _], _ => rfl⟩
  have n36 : Nmd K mg "_law_names" f36 fd36 ["_law_bag_here", "_law_many_here"] := ⟨at_ d36.a, d36.F.kp, d36.F.binds fun _ _ _ _ _ _ us hl => match us, hl with | [_, _], _ => rfl⟩
  have n37 : Nmd K mg "_law_fields" f37 fd37 ["_law_bag_here", "_law_tables", "_law_rare"] := ⟨at_ d37.a, d37.F.kp, d37.F.binds fun _ _ _ _ _ _ us hl => match us, hl with | [_, _, _], _ => rfl⟩
  have n38 : Nmd K mg "_law_like" f38 fd38 ["_law_fields_here", "_law_sort"] := ⟨at_ d38.a, d38.F.kp, d38.F.binds fun _ _ _ _ _ _ us hl => match us, hl with | [_, _], _ => rfl⟩
  have n39 : Nmd K mg "_law_tests" f39 fd39 ["_law_bag_here", "_law_fields_here", "_law_top"] := ⟨at_ d39.a, d39.F.kp, d39.F.binds fun _ _ _ _ _ _ us hl => match us, hl with | [_, _, _], _ => rfl⟩
  have n40 : Nmd K mg "_law_one_rule" f40 fd40 ["_law_bag_here", "_law_tables", "_law_name"] := ⟨at_ d40.a, d40.F.kp, d40.F.binds fun _ _ _ _ _ _ us hl => match us, hl with | [_, _, _], _ => rfl⟩
  have n41 : Nmd K mg "_law_parts" f41 fd41 ["_law_bag_here", "_law_many_here", "_law_rare", "_law_rules"] := ⟨at_ d41.a, d41.F.kp, d41.F.binds fun _ _ _ _ _ _ us hl => match us, hl with | [_, _, _, _], _ => rfl⟩
  have n42 : Nmd K mg "_law_copied" f42 fd42 ["_law_thing"] := ⟨at_ d42.a, d42.F.kp, d42.F.binds fun _ _ _ _ _ _ us hl => match us, hl with | [_], _ => rfl⟩
  have n43 : Nmd K mg "_law_ruined" f43 fd43 ["_law_thing"] := ⟨at_ d43.a, d43.F.kp, d43.F.binds fun _ _ _ _ _ _ us hl => match us, hl with | [_], _ => rfl⟩
  have n44 : Nmd K mg "_law_plain_fields" f44 fd44 ["_law_fields_here"] := ⟨at_ d44.a, d44.F.kp, d44.F.binds fun _ _ _ _ _ _ us hl => match us, hl with | [_], _ => rfl⟩
  have n45 : Nmd K mg "_law_many" f45 fd45 ["_law_fields_here"] := ⟨at_ d45.a, d45.F.kp, d45.F.binds fun _ _ _ _ _ _ us hl => match us, hl with | [_], _ => rfl⟩
  have n46 : Nmd K mg "_law_asked_of" f46 fd46 ["_law_kind", "_law_schema", "_law_tables", "_law_rules"] := ⟨at_ d46.a, d46.F.kp, d46.F.binds fun _ _ _ _ _ _ us hl => match us, hl with | [_, _, _, _], _ => rfl⟩
  have n47 : Nmd K mg "_law_schema_right" f47 fd47 ["_law_schema", "_law_parts_here", "_law_first"] := ⟨at_ d47.a, d47.F.kp, d47.F.binds fun _ _ _ _ _ _ us hl => match us, hl with | [_, _, _], _ => rfl⟩
  have n48 : Nmd K mg "_law_strange" f48 fd48 ["_law_bag_here", "_law_known"] := ⟨at_ d48.a, d48.F.kp, d48.F.binds fun _ _ _ _ _ _ us hl => match us, hl with | [_, _], _ => rfl⟩
  have n49 : Nmd K mg "_law_other_rules" f49 fd49 ["_law_bag_here", "_law_tables", "_law_rules", "_law_kind"] := ⟨at_ d49.a, d49.F.kp, d49.F.binds fun _ _ _ _ _ _ us hl => match us, hl with | [_, _, _, _], _ => rfl⟩
  have n50 : Nmd K mg "_law_other_field" f50 fd50 ["_law_bag_here", "_law_tables", "_law_rules", "_law_kind"] := ⟨at_ d50.a, d50.F.kp, d50.F.binds fun _ _ _ _ _ _ us hl => match us, hl with | [_, _, _, _], _ => rfl⟩
  have n51 : Nmd K mg "_law_near" f51 fd51 ["_law_bag_here", "_law_parts_here"] := ⟨at_ d51.a, d51.F.kp, d51.F.binds fun _ _ _ _ _ _ us hl => match us, hl with | [_, _], _ => rfl⟩
  have n52 : Nmd K mg "_law_same" f52 fd52 ["_law_one", "_law_other"] := ⟨at_ d52.a, d52.F.kp, d52.F.binds fun _ _ _ _ _ _ us hl => match us, hl with | [_, _], _ => rfl⟩
  have b1 : Binds K ed1 ["self"] [] := m1.F.binds fun _ _ _ _ _ _ us hl => match us, hl with | [_], _ => rfl
  have b2 : Binds K ed2 ["self", "table"] [] := m2.F.binds fun _ _ _ _ _ _ us hl => match us, hl with | [_, _], _ => rfl
  have b3 : Binds K ed3 ["self", "table"] [] := m3.F.binds fun _ _ _ _ _ _ us hl => match us, hl with | [_, _], _ => rfl
  have b4 : Binds K ed4 ["self", "table"] [] := m4.F.binds fun _ _ _ _ _ _ us hl => match us, hl with | [_, _], _ => rfl
  have b5 : Binds K ed5 ["self", "table"] [] := m5.F.binds fun _ _ _ _ _ _ us hl => match us, hl with | [_, _], _ => rfl
  have b6 : Binds K ed6 ["self", "table", "sort"] [] := m6.F.binds fun _ _ _ _ _ _ us hl => match us, hl with | [_, _, _], _ => rfl
  have b7 : Binds K ed7 ["self", "table", "mark"] [] := m7.F.binds fun _ _ _ _ _ _ us hl => match us, hl with | [_, _, _], _ => rfl
  have b8 : Binds K ed8 ["self", "table", "link"] [] := m8.F.binds fun _ _ _ _ _ _ us hl => match us, hl with | [_, _, _], _ => rfl
  have b9 : Binds K ed9 ["self"] [] := m9.F.binds fun _ _ _ _ _ _ us hl => match us, hl with | [_], _ => rfl
  have b10 : Binds K ed10 ["self"] [] := m10.F.binds fun _ _ _ _ _ _ us hl => match us, hl with | [_], _ => rfl
  have b11 : Binds K ed11 ["self", "name"] [] := m11.F.binds fun _ _ _ _ _ _ us hl => match us, hl with | [_, _], _ => rfl
  have b12 : Binds K ed12 ["self", "name"] [] := m12.F.binds fun _ _ _ _ _ _ us hl => match us, hl with | [_, _], _ => rfl
  have b13 : Binds K ed13 ["self", "table"] [] := m13.F.binds fun _ _ _ _ _ _ us hl => match us, hl with | [_, _], _ => rfl
  have b14 : Binds K ed14 ["self", "other"] [] := m14.F.binds fun _ _ _ _ _ _ us hl => match us, hl with | [_, _], _ => rfl
  obtain ⟨oc, od, kV, doc, pm, an, cdv, ct, osl, efd, _, _⟩ := id d53.F.ex
  refine ⟨fd53, fun s v => ?_, fun base kb gb sy => ?_⟩
  · have q := efd ▸ (show BindsTo s (PySem.W.fnOf "law" "law" (defArgs sLaw) (defBody sLaw) (defScope sLaw) .none kV doc pm an cdv ct) ⟨[v], []⟩ [("_law_script", v)] from .of_eq rfl)
    exact q
  have G33 := ok_bag (P := l.prog) (w := w) (base := base) d33.F (no_ z1)
  have G34 := ok_take (P := l.prog) (w := w) (base := base) d34.F (no_ z2)
  have G36 := ok_names (P := l.prog) (w := w) (base := base) d36.F G34 n34.m n34.k n34.b (no_ z3) (no_ z2)
  have G19 := ok_copy (P := l.prog) (w := w) (base := base) d19.F n19.m n19.b (no_ z10) (no_ z8) (no_ z11) (no_ z7) (no_ z5)
  have G42 := ok_copied (P := l.prog) (w := w) (base := base) d42.F n42.m n42.b (no_ z10) (no_ z8) (no_ z11) (no_ z7)
  have G43 := ok_ruined (P := l.prog) (w := w) (base := base) d43.F n43.m n43.b (no_ z10) (no_ z8) (no_ z11) (no_ z7)
  have G37 := ok_fields (P := l.prog) (w := w) (base := base) d37.F G34 n34.m n34.k n34.b G36 n36.m n36.k n36.b (no_ z3) (no_ z4)
  have G39 := ok_tests (P := l.prog) (w := w) (base := base) d39.F G34 n34.m n34.k n34.b (no_ z3) (no_ z4) (no_ z2) (no_ z5)
  have G38 := ok_like (P := l.prog) (w := w) (base := base) d38.F (no_ z5)
  have G40 := ok_rule (P := l.prog) (w := w) (base := base) d40.F G34 n34.m n34.k n34.b G38 n38.m n38.k n38.b G39 n39.m n39.k n39.b (no_ z4) (no_ z5)
  have G41 := ok_parts (P := l.prog) (w := w) (base := base) d41.F G34 n34.m n34.k n34.b G36 n36.m n36.k n36.b G37 n37.m n37.k n37.b G40 n40.m n40.k n40.b (no_ z7)
  have G4 := ok_isname (P := l.prog) (w := w) (base := base) d4.F (no_ z10) (no_ z13) (no_ z4) (no_ z12) (at_ c0) (at_ c1)
  have G5 := ok_are (P := l.prog) (w := w) (base := base) d5.F G4 n4.m n4.k n4.b (no_ z10) (no_ z8) (no_ z4) (no_ z12) (no_ z6)
  have G12 := ok_isfield (P := l.prog) (w := w) (base := base) d12.F G4 n4.m n4.k n4.b G5 n5.m n5.k n5.b (no_ z10) (no_ z11) (no_ z4) (at_ c2)
  have MS : SortsAt K mg pS := ⟨at_ aS, lS⟩
  have G11 := ok_fieldsof (P := l.prog) (w := w) (base := base) d11.F G4 n4.m n4.k n4.b G12 n12.m n12.k n12.b (no_ z10) (no_ z7) (no_ z12) (at_ c3) MS
  have G15 := ok_isnot (P := l.prog) (w := w) (base := base) d15.F (no_ z10) (no_ z11) (no_ z4)
  have G14 := ok_inside (P := l.prog) (w := w) (base := base) d14.F G15 n15.m n15.k n15.b (at_ c4) (no_ z3)
  have G13 := ok_sortof (P := l.prog) (w := w) (base := base) d13.F G4 n4.m n4.k n4.b
  have G17 := ok_inner (P := l.prog) (w := w) (base := base) d17.F G13 n13.m n13.k n13.b (no_ z10) (no_ z11) (no_ z8) (no_ z4) (no_ z12)
  have G16 := ok_ts (P := l.prog) (w := w) (base := base) d16.F G17 n17.m n17.k n17.b G14 n14.m n14.k n14.b (no_ z10) (no_ z8) (no_ z12)
  have G30 := ok_linkrule (P := l.prog) (w := w) (base := base) d30.F G13 n13.m n13.k n13.b G16 n16.m n16.k n16.b
  have G29 := ok_rule1 (P := l.prog) (w := w) (base := base) d29.F G4 n4.m n4.k n4.b G13 n13.m n13.k n13.b G16 n16.m n16.k n16.b G30 n30.m n30.k n30.b (no_ z10) (no_ z11) (no_ z4)
  have G27 := ok_tabs (P := l.prog) (w := w) (base := base) d27.F G4 n4.m n4.k n4.b G11 n11.m n11.k n11.b (no_ z10) (no_ z7) (no_ z4) (no_ z12) (at_ c5)
  have G28 := ok_ord (P := l.prog) (w := w) (base := base) d28.F (G19 4) n19.m n19.k n19.b (no_ z5)
  have G44 := ok_plain (P := l.prog) (w := w) (base := base) d44.F (no_ z5)
  have G45 := ok_many (P := l.prog) (w := w) (base := base) d45.F G38 n38.m n38.k n38.b (no_ z4)
  have G48 := ok_strange (P := l.prog) (w := w) (base := base) d48.F G36 n36.m n36.k n36.b (no_ z4)
  have iL := ok_initL (P := l.prog) (w := w) (base := base) ini.c8 sch.ini G27 n27.m n27.k n27.b G29 n29.m n29.k n29.b G28 n28.m n28.k n28.b (G19 8) n19.m n19.k n19.b (no_ z10) (no_ z8) (no_ z11) (no_ z4) (no_ z14) (no_ z5) (at_ c6)
  have iT := ok_initT (P := l.prog) (w := w) (base := base) ini.c8 sch.ini G27 n27.m n27.k n27.b G29 n29.m n29.k n29.b G28 n28.m n28.k n28.b (G19 8) n19.m n19.k n19.b (no_ z10) (no_ z8) (no_ z11) (no_ z4) (no_ z14) (no_ z5) (at_ c6)
  have mK : Mk K C fI := ⟨mk1, ini.i, by unfold PySem.W.isFn; rw [ini.t]; rfl, mk2⟩
  have ML : C8.Mak l.prog w K mg base 9 "Schema" C (spInitL C) [] := ⟨fI, gI, _, _, mK, iL, at_ aC, ini.b3, .nil⟩
  have MT : C8.Mak l.prog w K mg base 9 "Schema" C (spInitT K C) [] := ⟨fI, gI, _, _, mK, iT, at_ aC, ini.b3, .nil⟩
  obtain ⟨ds, vds, bds⟩ := ini.b2
  have MD : C8.Mak l.prog w K mg base 9 "Schema" C (spInitT K C) [.ref e0] := ⟨fI, gI, _, ds, mK, iT, at_ aC, bds, vds⟩
  have q1 := ok_mtables (mg := mg) (P := l.prog) (w := w) (base := base) sch.ini m1.me (c8_fn m1.F) b1 (no_ z8)
  have q2 := ok_mfields (mg := mg) (P := l.prog) (w := w) (base := base) sch.ini m2.me (c8_fn m2.F) b2 (G19 8) n19.m n19.k n19.b
  have qs := ok_msort (mg := mg) (P := l.prog) (w := w) (base := base) sch.ini m6.me (c8_fn m6.F) b6 
  have q3 := ok_mmarks (mg := mg) (P := l.prog) (w := w) (base := base) sch.ini m3.me (c8_fn m3.F) b3 qs
  have q4 := ok_mlinks (mg := mg) (P := l.prog) (w := w) (base := base) sch.ini m4.me (c8_fn m4.F) b4 qs
  have q5 := ok_mtags (mg := mg) (P := l.prog) (w := w) (base := base) sch.ini m5.me (c8_fn m5.F) b5 qs
  have q6 := ok_mwords (mg := mg) (P := l.prog) (w := w) (base := base) sch.ini m7.me (c8_fn m7.F) b7 (no_ z8)
  have q7 := ok_mleads (mg := mg) (P := l.prog) (w := w) (base := base) sch.ini m8.me (c8_fn m8.F) b8 
  have q8 := ok_mrules (mg := mg) (P := l.prog) (w := w) (base := base) sch.ini m9.me (c8_fn m9.F) b9 (G19 8) n19.m n19.k n19.b
  have q9 := ok_mnames (mg := mg) (P := l.prog) (w := w) (base := base) sch.ini m10.me (c8_fn m10.F) b10 
  have q10 := ok_mrank (mg := mg) (P := l.prog) (w := w) (base := base) sch.ini m12.me (c8_fn m12.F) b12 q9
  have q11 := ok_mruleof (mg := mg) (P := l.prog) (w := w) (base := base) sch.ini m11.me (c8_fn m11.F) b11 (G19 8) n19.m n19.k n19.b q10
  have q12 := ok_mrows (mg := mg) (P := l.prog) (w := w) (base := base) sch.ini m13.me (c8_fn m13.F) b13 (no_ z4) q3 q6
  have ask : AskOk l.prog w K mg base C := ⟨q1, q2, q3, q4, q5, q6, q7, q8, q9, q11, q10, q12⟩
  have qe := ok_meq (P := l.prog) (w := w) (base := base) sch (c8_fn m14.F) (no_ z10) (at_ aC)
  have G46 := ok_asked (P := l.prog) (w := w) (base := base) d46.F ask G38 n38.m n38.k n38.b G44 n44.m n44.k n44.b G45 n45.m n45.k n45.b (no_ z5) (no_ z14)
  have G35 := ok_alike (P := l.prog) (w := w) (base := base) d35.F (no_ z9) sy
  have G47 := ok_right (P := l.prog) (w := w) (base := base) d47.F G46 n46.m n46.k n46.b G35 n35.m n35.k n35.b (G43 21) n43.m n43.k n43.b (no_ z8) (no_ z3)
  have G49 := ok_orules (P := l.prog) (w := w) (base := base) d49.F G34 n34.m n34.k n34.b G40 n40.m n40.k n40.b G48 n48.m n48.k n48.b (no_ z4) (no_ z10) (no_ z8) (no_ z11)
  have G50 := ok_ofield (P := l.prog) (w := w) (base := base) d50.F G34 n34.m n34.k n34.b G38 n38.m n38.k n38.b G48 n48.m n48.k n48.b (no_ z4) (no_ z9) (no_ z5) sy
  have G51 := ok_near (P := l.prog) (w := w) (base := base) d51.F G34 n34.m n34.k n34.b G38 n38.m n38.k n38.b (G42 8) n42.m n42.k n42.b G49 n49.m n49.k n49.b G50 n50.m n50.k n50.b (no_ z8) (no_ z7)
  have G52 := ok_same (P := l.prog) (w := w) (base := base) d52.F G44 n44.m n44.k n44.b (no_ z7)
  exact ok_law (P := l.prog) (w := w) (base := base) d53.F sch qe b14 ML MT MD ini.e G33 n33 G34 n34 G35 n35 G41 n41 (G42 9) n42 (G43 9) n43 G47 n47 G51 n51 G52 n52 (no_ z3) (no_ z2) (no_ z11)
theorem walk14 {l : PySem.W.OpenLaw} {q : Program} {loose : List Str} {XP : (Str → Option Value) → Heap → Prop} {YP : World → Heap → Prop} {d : DefRec} {K : Params → PySem.W.Frag} (hn : l.most = some 63) (hdf : d.params.defaults = []) (hin : PyProof.Rows.importsNone q = true) (inK : ∀ (w : World) (h : Heap), YP w h → (K w.params).In h)
    (made : ∀ (w : World) (mg : Str → Option Value) (fa : Addr) (h : Heap), (K w.params).In h → h.Ns mainGlobals mg → mg d.name = some (.ref fa) →
      ∃ fd : FuncData, (∀ (s : Shared) (u : Value), BindsTo s fd ⟨[u], []⟩ [("_law_script", u)]) ∧ ∀ base : Heap, (K w.params).In base → base.Ns mainGlobals mg → (∃ o, base.get? sysModules = some o) → FnG l.prog w (K w.params) mg base 23 fa fd ["_law_script"] (spLaw (K w.params))) :
    PySem.W.WalkO q loose XP YP l.row.toRowW d [] (fun f vs => PySem.call f vs) :=
  walkG (n := 63) (k := 23) (x := "_law_script") (sp := spLaw) hn (by decide) hdf hin ⟨rfl, by decide, by decide⟩ inK made fun _ _ a ns hl _ hS => ⟨a, ns, rfl, hS, hl, fun _ => rfl⟩
end Lw

open PySem PySem.W PyProof.Rows
set_option Elab.async false
set_option maxRecDepth 100000 in
set_option maxHeartbeats 0 in
theorem PySem.Challenge.cw_endchecks_k14_schemas_told_holds : PySem.Challenge.rw_endchecks_k14_schemas_told.Holds := by
  w_on; o_law; k_head; (case hw => w_witness2)
  k_fill
  refine Lw.walk14 (l := PySem.Challenge.rw_endchecks_k14_schemas_told) rfl rfl ?hin (fun w h Y => PySem.W.kIn_of Y) ?F
  case hin => kernel_rfl
  case F =>
    intro w mg fa h KX G hmg
    refine' Lw.all14 KX G hmg ?d4 ?d5 ?d11 ?d12 ?d13 ?d14 ?d15 ?d16 ?d17 ?d19 ?d27 ?d28 ?d29 ?d30 ?d33 ?d34 ?d35 ?d36 ?d37 ?d38 ?d39 ?d40 ?d41 ?d42 ?d43 ?d44 ?d45 ?d46 ?d47 ?d48 ?d49 ?d50 ?d51 ?d52 ?d53 ?m1 ?m2 ?m3 ?m4 ?m5 ?m6 ?m7 ?m8 ?m9 ?m10 ?m11 ?m12 ?m13 ?m14 ?ini ?aC ?cC ?aS ?lS ?c0 ?c1 ?c2 ?c3 ?c4 ?c5 ?c6 ?z1 ?z2 ?z3 ?z4 ?z5 ?z6 ?z7 ?z8 ?z9 ?z10 ?z11 ?z12 ?z13 ?z14
    (case aC => k_is)
    (case d4 => refine' ⟨?a, L2.fun_mk ?l ?c ?k⟩; (case a => k_is); (case l => k_is); (case c => k_is); (case k => k_is))
    (case d5 => refine' ⟨?a, L2.fun_mk ?l ?c ?k⟩; (case a => k_is); (case l => k_is); (case c => k_is); (case k => k_is))
    (case d11 => refine' ⟨?a, L2.fun_mk ?l ?c ?k⟩; (case a => k_is); (case l => k_is); (case c => k_is); (case k => k_is))
    (case d12 => refine' ⟨?a, L2.fun_mk ?l ?c ?k⟩; (case a => k_is); (case l => k_is); (case c => k_is); (case k => k_is))
    (case d13 => refine' ⟨?a, L2.fun_mk ?l ?c ?k⟩; (case a => k_is); (case l => k_is); (case c => k_is); (case k => k_is))
    (case d14 => refine' ⟨?a, L2.fun_mk ?l ?c ?k⟩; (case a => k_is); (case l => k_is); (case c => k_is); (case k => k_is))
    (case d15 => refine' ⟨?a, L2.fun_mk ?l ?c ?k⟩; (case a => k_is); (case l => k_is); (case c => k_is); (case k => k_is))
    (case d16 => refine' ⟨?a, L2.fun_mk ?l ?c ?k⟩; (case a => k_is); (case l => k_is); (case c => k_is); (case k => k_is))
    (case d17 => refine' ⟨?a, L2.fun_mk ?l ?c ?k⟩; (case a => k_is); (case l => k_is); (case c => k_is); (case k => k_is))
    (case d19 => refine' ⟨?a, L2.fun_mk ?l ?c ?k⟩; (case a => k_is); (case l => k_is); (case c => k_is); (case k => k_is))
    (case d27 => refine' ⟨?a, L2.fun_mk ?l ?c ?k⟩; (case a => k_is); (case l => k_is); (case c => k_is); (case k => k_is))
    (case d28 => refine' ⟨?a, L2.fun_mk ?l ?c ?k⟩; (case a => k_is); (case l => k_is); (case c => k_is); (case k => k_is))
    (case d29 => refine' ⟨?a, L2.fun_mk ?l ?c ?k⟩; (case a => k_is); (case l => k_is); (case c => k_is); (case k => k_is))
    (case d30 => refine' ⟨?a, L2.fun_mk ?l ?c ?k⟩; (case a => k_is); (case l => k_is); (case c => k_is); (case k => k_is))
    (case d33 => refine' ⟨?a, L2.fun_mk ?l ?c ?k⟩; (case a => k_is); (case l => k_is); (case c => k_is); (case k => k_is))
    (case d34 => refine' ⟨?a, L2.fun_mk ?l ?c ?k⟩; (case a => k_is); (case l => k_is); (case c => k_is); (case k => k_is))
    (case d35 => refine' ⟨?a, L2.fun_mk ?l ?c ?k⟩; (case a => k_is); (case l => k_is); (case c => k_is); (case k => k_is))
    (case d36 => refine' ⟨?a, L2.fun_mk ?l ?c ?k⟩; (case a => k_is); (case l => k_is); (case c => k_is); (case k => k_is))
    (case d37 => refine' ⟨?a, L2.fun_mk ?l ?c ?k⟩; (case a => k_is); (case l => k_is); (case c => k_is); (case k => k_is))
    (case d38 => refine' ⟨?a, L2.fun_mk ?l ?c ?k⟩; (case a => k_is); (case l => k_is); (case c => k_is); (case k => k_is))
    (case d39 => refine' ⟨?a, L2.fun_mk ?l ?c ?k⟩; (case a => k_is); (case l => k_is); (case c => k_is); (case k => k_is))
    (case d40 => refine' ⟨?a, L2.fun_mk ?l ?c ?k⟩; (case a => k_is); (case l => k_is); (case c => k_is); (case k => k_is))
    (case d41 => refine' ⟨?a, L2.fun_mk ?l ?c ?k⟩; (case a => k_is); (case l => k_is); (case c => k_is); (case k => k_is))
    (case d42 => refine' ⟨?a, L2.fun_mk ?l ?c ?k⟩; (case a => k_is); (case l => k_is); (case c => k_is); (case k => k_is))
    (case d43 => refine' ⟨?a, L2.fun_mk ?l ?c ?k⟩; (case a => k_is); (case l => k_is); (case c => k_is); (case k => k_is))
    (case d44 => refine' ⟨?a, L2.fun_mk ?l ?c ?k⟩; (case a => k_is); (case l => k_is); (case c => k_is); (case k => k_is))
    (case d45 => refine' ⟨?a, L2.fun_mk ?l ?c ?k⟩; (case a => k_is); (case l => k_is); (case c => k_is); (case k => k_is))
    (case d46 => refine' ⟨?a, L2.fun_mk ?l ?c ?k⟩; (case a => k_is); (case l => k_is); (case c => k_is); (case k => k_is))
    (case d47 => refine' ⟨?a, L2.fun_mk ?l ?c ?k⟩; (case a => k_is); (case l => k_is); (case c => k_is); (case k => k_is))
    (case d48 => refine' ⟨?a, L2.fun_mk ?l ?c ?k⟩; (case a => k_is); (case l => k_is); (case c => k_is); (case k => k_is))
    (case d49 => refine' ⟨?a, L2.fun_mk ?l ?c ?k⟩; (case a => k_is); (case l => k_is); (case c => k_is); (case k => k_is))
    (case d50 => refine' ⟨?a, L2.fun_mk ?l ?c ?k⟩; (case a => k_is); (case l => k_is); (case c => k_is); (case k => k_is))
    (case d51 => refine' ⟨?a, L2.fun_mk ?l ?c ?k⟩; (case a => k_is); (case l => k_is); (case c => k_is); (case k => k_is))
    (case d52 => refine' ⟨?a, L2.fun_mk ?l ?c ?k⟩; (case a => k_is); (case l => k_is); (case c => k_is); (case k => k_is))
    (case d53 => refine' ⟨?a, L2.fun_mk ?l ?c ?k⟩; (case a => k_is); (case l => k_is); (case c => k_is); (case k => k_is))
    (case m1 => refine' ⟨?i, ?t, L2.fun_mk ?l ?c ?k⟩; (case i => k_is); (case t => k_is); (case l => k_is); (case c => k_is); (case k => k_is))
    (case m2 => refine' ⟨?i, ?t, L2.fun_mk ?l ?c ?k⟩; (case i => k_is); (case t => k_is); (case l => k_is); (case c => k_is); (case k => k_is))
    (case m3 => refine' ⟨?i, ?t, L2.fun_mk ?l ?c ?k⟩; (case i => k_is); (case t => k_is); (case l => k_is); (case c => k_is); (case k => k_is))
    (case m4 => refine' ⟨?i, ?t, L2.fun_mk ?l ?c ?k⟩; (case i => k_is); (case t => k_is); (case l => k_is); (case c => k_is); (case k => k_is))
    (case m5 => refine' ⟨?i, ?t, L2.fun_mk ?l ?c ?k⟩; (case i => k_is); (case t => k_is); (case l => k_is); (case c => k_is); (case k => k_is))
    (case m6 => refine' ⟨?i, ?t, L2.fun_mk ?l ?c ?k⟩; (case i => k_is); (case t => k_is); (case l => k_is); (case c => k_is); (case k => k_is))
    (case m7 => refine' ⟨?i, ?t, L2.fun_mk ?l ?c ?k⟩; (case i => k_is); (case t => k_is); (case l => k_is); (case c => k_is); (case k => k_is))
    (case m8 => refine' ⟨?i, ?t, L2.fun_mk ?l ?c ?k⟩; (case i => k_is); (case t => k_is); (case l => k_is); (case c => k_is); (case k => k_is))
    (case m9 => refine' ⟨?i, ?t, L2.fun_mk ?l ?c ?k⟩; (case i => k_is); (case t => k_is); (case l => k_is); (case c => k_is); (case k => k_is))
    (case m10 => refine' ⟨?i, ?t, L2.fun_mk ?l ?c ?k⟩; (case i => k_is); (case t => k_is); (case l => k_is); (case c => k_is); (case k => k_is))
    (case m11 => refine' ⟨?i, ?t, L2.fun_mk ?l ?c ?k⟩; (case i => k_is); (case t => k_is); (case l => k_is); (case c => k_is); (case k => k_is))
    (case m12 => refine' ⟨?i, ?t, L2.fun_mk ?l ?c ?k⟩; (case i => k_is); (case t => k_is); (case l => k_is); (case c => k_is); (case k => k_is))
    (case m13 => refine' ⟨?i, ?t, L2.fun_mk ?l ?c ?k⟩; (case i => k_is); (case t => k_is); (case l => k_is); (case c => k_is); (case k => k_is))
    (case m14 => refine' ⟨?i, ?t, L2.fun_mk ?l ?c ?k⟩; (case i => k_is); (case t => k_is); (case l => k_is); (case c => k_is); (case k => k_is))
    (case ini => refine' ⟨?i, ?t, Lw.ini_mk ?l ?c ?k ?lT ?dT, ⟨_, _, ?o, ?oc, ?od⟩⟩; (case i => k_is); (case t => k_is); (case l => exact rfl); (case c => k_is); (case k => k_is); (case lT => exact rfl); (case dT => exact rfl); (case o => exact rfl); (case oc => exact rfl); (case od => exact rfl))
    (case cC => kernel_rfl)
    (case aS => k_is); (case lS => exact ⟨_, _, _, _, _, rfl⟩)
    (case c0 => k_is); (case c1 => k_is); (case c2 => k_is); (case c3 => k_is); (case c4 => k_is); (case c5 => k_is); (case c6 => k_is)
    (case z1 => k_is); (case z2 => k_is); (case z3 => k_is); (case z4 => k_is); (case z5 => k_is); (case z6 => k_is); (case z7 => k_is); (case z8 => k_is); (case z9 => k_is); (case z10 => k_is); (case z11 => k_is); (case z12 => k_is); (case z13 => k_is); (case z14 => k_is)
