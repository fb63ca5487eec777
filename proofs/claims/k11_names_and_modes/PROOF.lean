import PyProof.Rows.All
import Wide.All
import OpenK.AllK
import Wide.FinOn
import HandS.ForMost
import HandS.Codes
import PySem.Challenge.RW_endchecks_k11_names_and_modes
import HandS.Replace
import KE.KeyNested
import KE.KDictCopyH
import PyProof.DictMoreH
import PyProof.DictUpdate
import KE.KDictOf
import HandS.IsInst
import HandS.Conv
import HandS.DeepEq
import PyProof.ReprRoads
import PyProof.StrLawsRepr
import PyProof.EqKinds
import KE.KIsAll
import PyProof.StrOps2
import HandS.Strs
set_option Elab.async false
set_option linter.all false
set_option maxRecDepth 100000
namespace Lw
open PySem PySem.Spec PyProof.Rows L2
/-! ### small words -/
theorem small {n : Nat} (h : n ≤ 1000) : n ≤ sizeLine := Nat.le_of_lt (small1000 h)
theorem same_new {H : Hp} {p : Addr} (h : H p = none) (o : HO) : Same H (upd H p o) := fun b u q => by rw [upd_ne (ne_of_none q h)]; exact q
/-- all that was tracked is as it was, but what stands at b -/
def But (b : Addr) (H H' : Hp) : Prop := ∀ a o, H a = some o → a ≠ b → H' a = some o
theorem But.refl (b : Addr) (H : Hp) : But b H H := fun _ _ h _ => h
theorem But.trans {b : Addr} {H H1 H2 : Hp} (x : But b H H1) (y : But b H1 H2) : But b H H2 := fun a o h n => y a o (x a o h n) n
theorem But.of {b : Addr} {H H' : Hp} (x : Same H H') : But b H H' := fun a o h _ => x a o h
theorem But.new {b p : Addr} {H H' : Hp} {o : HO} (x : But b H H') (h : H' p = none) : But b H (upd H' p o) := fun a u q n => by
  have q' := x a u q n
  rw [upd_ne (ne_of_none q' h)]
  exact q'
theorem But.set {b : Addr} {H H' : Hp} {o : HO} (x : But b H H') : But b H (upd H' b o) := fun a u q n => by
  rw [upd_ne n]
  exact x a u q n
/-- xs[i] read for xs[i] op= e -/
def rGetL (K : PySem.W.Frag) : V → V → Hp → VK → Prop := fun x y H Q => ∃ p xs i v, x = .ref p ∧ y = .int i ∧ 0 ≤ i ∧ SqL K H p xs ∧ xs[i.toNat]? = some v ∧ Q v H
theorem get_list {X : Cx} : PGet X (rGetL X.K) := by
  intro pins s σ H x y v u Q I rx ry h
  obtain ⟨p, xs, i, z, rfl, rfl, h0, hq, he, q⟩ := h
  cases rx
  obtain ⟨t, rfl⟩ := ry
  obtain ⟨its, r, pl, hz⟩ := I.list hq
  obtain ⟨w, ew, rw'⟩ := r.get he
  have hl := r.length
  have hn := line63
  have hlt : i.toNat < xs.length := (List.getElem?_eq_some_iff.mp he).1
  exact wpAny_getItem_list pl.isList h0 (by omega) (by simpa using ew) ⟨z, H, I, rw', q⟩
theorem map_get {α : Type} {f : α → V} {l : List α} {i : Nat} {x : V} (h : (l.map f)[i]? = some x) : ∃ z, l[i]? = some z ∧ x = f z := by
  rw [List.getElem?_map] at h
  cases e : l[i]? with
  | none => rw [e] at h; cases h
  | some z => rw [e] at h; exact ⟨z, rfl, (Option.some.inj h).symm⟩
theorem cut_ints (ns : List Int) (h : ns.length ≤ 63) : ∃ ms : List Int, cutV (ns.map V.int) none (some 63) = ms.map V.int ∧ ms.length ≤ 63 := by
  unfold cutV
  refine ⟨((ns.drop (HT.sIx (ns.map V.int).length 0 none)).take (HT.sIx (ns.map V.int).length (ns.map V.int).length (some 63) - HT.sIx (ns.map V.int).length 0 none)), ?_, ?_⟩
  · rw [List.map_take, List.map_drop]
  · rw [List.length_take, List.length_drop]
    omega
theorem cut_ints' (ns : List Int) (lo hi : Option Int) : ∃ ms : List Int, cutV (ns.map V.int) lo hi = ms.map V.int := by
  unfold cutV
  exact ⟨_, by rw [← List.map_drop, ← List.map_take]⟩
theorem yes_if {σ : L2.St} {H : Hp} {F G : Hp → Prop} (h : F H) : tYes σ H (fun b H3 => if b = true then F H3 else G H3) := by
  show if true = true then F H else G H
  exact iteT h
theorem BagNe {H : Hp} {b p : Addr} {o : HO} (h : H b = some o) (n : H p = none) : p ≠ b := (ne_of_none h n).symm
/-- a comprehension over a text's signs -/
theorem lc_strI {z : Str} {g : TG} {tt : TT} {te : TE} {vs : List Nat} {σ : L2.St} {H1 : Hp} {D : Addr} {Qd : Hp → Prop} (Pv : Nat → Hp → Prop) (h0 : Pv 0 (upd H1 D (.lst [])))
    (hs : ∀ i c H, z.cps.toList[i]? = some c → Pv i H → g (.str ⟨#[c]⟩) (wipe σ vs) H fun σ2 H2 => wipe σ2 vs = wipe σ vs ∧ tt σ2 H2 fun b H3 =>
      if b = true then te σ2 H3 fun y H4 => ∃ acc, H4 D = some (.lst acc) ∧ acc.length < sizeLine ∧ Pv (i + 1) (upd H4 D (.lst (acc ++ [y]))) else Pv (i + 1) H3) (hd : ∀ H, Pv z.cps.toList.length H → Qd H) :
    ∃ W : Nat → Nat → Hp → Prop, (∃ m, W 0 m (upd H1 D (.lst []))) ∧ ∀ i m H, W i m H →
      ((Its z).stop i H ∧ Qd H) ∨ ((Its z).go i H ∧ ∃ Nx : Hp → Prop, (∀ H', Nx H' → ∃ m', m' < m ∧ W (i + 1) m' H') ∧ ∀ x H', (Its z).yld i H x H' → g x (wipe σ vs) H' fun σ2 H2 => wipe σ2 vs = wipe σ vs ∧ tt σ2 H2 fun b H3 =>
        if b = true then te σ2 H3 fun y H4 => ∃ acc, H4 D = some (.lst acc) ∧ acc.length < sizeLine ∧ Nx (upd H4 D (.lst (acc ++ [y]))) else Nx H3) := by
  have en : z.cps.toList.length = z.cps.size := Array.length_toList
  refine ⟨fun i m H => m = z.cps.size - i ∧ i ≤ z.cps.size ∧ Pv i H, ⟨z.cps.size, by simp, Nat.zero_le _, h0⟩, fun i m H hw => ?_⟩
  obtain ⟨rfl, hi, p⟩ := hw
  by_cases hlt : i < z.cps.size
  · refine .inr ⟨hlt, Pv (i + 1), fun H' p' => ⟨z.cps.size - (i + 1), by omega, rfl, hlt, p'⟩, fun x H' y => ?_⟩
    obtain ⟨e, c, hc, e2⟩ := y
    subst e
    subst e2
    exact hs i c _ (by rw [Array.getElem?_toList]; exact hc) p
  · have e : i = z.cps.size := by omega
    subst e
    exact .inl ⟨Nat.le_refl _, hd H (by rw [en]; exact p)⟩
/-! ### the bag of draws -/
/-- at b the bag, at c the numbers of the script -/
structure BagAt (H : Hp) (b c : Addr) : Prop where
  ex : ∃ (x y z : Int) (ns : List Int), H b = some (.lst [.int x, .int y, .int z, .ref c]) ∧ H c = some (.lst (ns.map V.int)) ∧ ns.length ≤ 63
theorem BagAt.mono {H H' : Hp} {b c : Addr} (x : BagAt H b c) (e : Same H H') : BagAt H' b c := by
  obtain ⟨x, y, z, ns, h1, h2, h3⟩ := x
  exact ⟨x, y, z, ns, e _ _ h1, e _ _ h2, h3⟩
theorem BagAt.nb {H : Hp} {b c p : Addr} (x : BagAt H b c) (n : H p = none) : p ≠ b := by
  obtain ⟨x, y, z, ns, h1, h2, h3⟩ := x
  exact (ne_of_none h1 n).symm
theorem BagAt.nc {H : Hp} {b c p : Addr} (x : BagAt H b c) (n : H p = none) : p ≠ c := by
  obtain ⟨x, y, z, ns, h1, h2, h3⟩ := x
  exact (ne_of_none h2 n).symm
theorem BagAt.new {H : Hp} {b c p : Addr} {o : HO} (x : BagAt H b c) (n : H p = none) : BagAt (upd H p o) b c := x.mono (same_new n o)
theorem BagAt.set {H : Hp} {b c p : Addr} {o : HO} (x : BagAt H b c) (n1 : p ≠ b) (n2 : p ≠ c) : BagAt (upd H p o) b c := by
  obtain ⟨x, y, z, ns, h1, h2, h3⟩ := x
  exact ⟨x, y, z, ns, by rw [upd_ne n1.symm]; exact h1, by rw [upd_ne n2.symm]; exact h2, h3⟩
theorem bag_ne {H : Hp} {b c : Addr} {x y z : Int} {ns : List Int} (h1 : H b = some (.lst [.int x, .int y, .int z, .ref c])) (h2 : H c = some (.lst (ns.map V.int))) : c ≠ b := by
  intro e
  rw [e, h1] at h2
  injection h2 with h2
  injection h2 with h2
  match ns with
  | [] => simp at h2
  | [_] => simp at h2
  | [_, _] => simp at h2
  | [_, _, _] => simp at h2
  | [_, _, _, _] => simp at h2
  | _ :: _ :: _ :: _ :: _ :: _ => simp at h2
/-- what is new behind a But is new ahead of it -/
theorem But.free {b p : Addr} {H H' : Hp} (x : But b H H') (n : H' p = none) (ne : p ≠ b) : H p = none := by
  cases q : H p with
  | none => rfl
  | some u => rw [x p u q ne] at n; cases n
/-- a change of a thing that is new -/
theorem But.put {b p : Addr} {H H' : Hp} {o : HO} (x : But b H H') (n : H p = none) : But b H (upd H' p o) := fun a u q ne => by
  rw [upd_ne (ne_of_none q n)]
  exact x a u q ne
/-- _law_bag(script) -/
def spBag (K : PySem.W.Frag) : Sp := fun vs H Q _ => ∃ (a : Addr) (ns : List Int), vs = [.ref a] ∧ SqL K H a (ns.map V.int) ∧ ns.length ≤ 63 ∧ ∀ (b c : Addr) (H' : Hp), H b = none → H c = none → BagAt H' b c → Same H H' → Q (.ref b) H'
/-- _law_take(bag, many) -/
def spTake : Sp := fun vs H Q _ => ∃ (b c : Addr) (m : Int), vs = [.ref b, .int m] ∧ BagAt H b c ∧ 0 < m ∧ m < 1000000 ∧
  ∀ (r : Int) (H' : Hp), 0 ≤ r → r < m → BagAt H' b c → But b H H' → Q (.int r) H'
end Lw

set_option Elab.async false
set_option linter.all false
set_option maxRecDepth 100000
set_option maxHeartbeats 4000000
namespace Lw
open PySem PySem.Spec PyProof.Rows L2
def topS (i : Nat) : Stmt := PySem.Challenge.pw_endchecks_k11_names_and_modes.main.body.getD i (.Pass ⟨0, 0, 0, 0⟩)
abbrev sBag : Stmt := topS 14
abbrev sTake : Stmt := topS 15
section
variable {P : Program} {w : World} {K : PySem.W.Frag} {mg : Str → Option Value} {base : Heap}
theorem scBag : FnScope ["_law_script", "_law_cell"] ["_law_script"] (defScope sBag) := ⟨rfl, rfl, rfl, by decide +kernel, rfl, by decide +kernel, by decide +kernel⟩
theorem ok_bag {f : Addr} {fd : FuncData} (F : Fun K "_law_bag" "_law_bag" sBag f fd) (mabs : mg "abs" = none) : FnOk P w K mg base CX0 1 f fd ["_law_script"] (spBag K) := by
  refine F.ok scBag (fun vs H Q E h => ?_) (fun cdv A outer s H vs Q E hr h => ?_)
  · obtain ⟨a, ns, rfl, _⟩ := h
    rfl
  obtain ⟨a, ns, rfl, hS, h63, k⟩ := h
  refine ⟨_, pss_one (ps_ret (pe_lst (pa_cons pe_int (pa_cons pe_int (pa_cons pe_int (pa_cons
    (pe_lc (own := [("_law_cell", 1)]) (g := gName 1) (tt := tYes) rfl scBag.nd (pi_list (pe_slice sl_list (pv 0) po_none (po_some pe_int))) (blkOk_by (N := ["_law_script", "_law_cell"]) (sc := defScope sBag) (by decide +kernel))
      (fun _ _ _ _ _ => pg_name (i := 1) scBag.nd rfl (Or.inl rfl)) (fun _ _ _ _ _ => pts_nil) (fun _ _ _ _ _ => pe_callB call_abs (by rfl) mabs (by decide +kernel) (pa_cons (pv 1) pa_nil))) pa_nil)))))), ?_⟩
  refine ⟨.ref a, rfl, 63, rfl, a, ns.map V.int, rfl, hS, fun p hp => ?_⟩
  have s1 : Same H (upd H p (.lst (cutV (ns.map V.int) none (some 63)))) := same_new hp _
  obtain ⟨ms, hms, hml⟩ : ∃ ms : List Int, cutV (ns.map V.int) none (some 63) = ms.map V.int ∧ ms.length ≤ 63 := cut_ints ns h63
  rw [hms] at s1 ⊢
  refine ⟨p, rfl, ⟨_, .inl (.inl upd_same)⟩, fun D nD => ?_⟩
  have nDp : p ≠ D := ne_of_none (upd_same (H := H)) nD
  refine lc_list (K := K) (a := p) (xs := ms.map V.int) (fun i H1 => Same H H1 ∧ H1 p = some (.lst (ms.map V.int)) ∧ ∃ cs : List Int, H1 D = some (.lst (cs.map V.int)) ∧ cs.length ≤ i)
    ⟨fun c o q => by rw [upd_ne (ne_of_none (s1 c o q) nD)]; exact s1 c o q, by rw [upd_ne nDp]; exact upd_same, [], upd_same, Nat.le_refl _⟩ (fun i H1 _ q => .inl (.inl q.2.1)) ?_ ?_
  · rintro i x H1 hx ⟨s2, h2, cs, h3, h4⟩
    obtain ⟨z, hz, rfl⟩ := map_get hx
    have hil : i < ms.length := (List.getElem?_eq_some_iff.mp hz).1
    refine ⟨rfl, yes_if ?_⟩
    refine ⟨.int z, rfl, z, rfl, cs.map V.int, h3, by rw [List.length_map]; exact small1000 (by omega), fun c o q => ?_, ?_, cs ++ [if z < 0 then -z else z], ?_, ?_⟩
    · have n1 : c ≠ D := ne_of_none q (s1.free nD)
      rw [upd_ne n1]
      exact s2 c o q
    · rw [upd_ne nDp]
      exact h2
    · rw [upd_same, List.map_append]
      rfl
    · rw [List.length_append]
      exact Nat.add_le_add_right h4 1
  · rintro H1 ⟨s2, h2, cs, h3, h4⟩
    rw [List.length_map] at h4
    refine ⟨small (by show 4 ≤ 1000; decide), fun b nb => ?_⟩
    refine k b D _ (s2.free nb) (s1.free nD) ⟨0, 1234567891, 0, cs, upd_same, ?_, by omega⟩ ?_
    · rw [upd_ne (ne_of_none h3 nb)]
      exact h3
    · exact s2.trans (same_new nb _)
abbrev NTake : List Str := ["_law_bag_here", "_law_many", "_law_cell", "_law_mixed", "_law_drawn", "_law_early", "_law_second"]
theorem scTake : FnScope NTake ["_law_bag_here", "_law_many"] (defScope sTake) := ⟨rfl, rfl, rfl, by decide +kernel, rfl, by decide +kernel, by decide +kernel⟩
theorem ok_take {f : Addr} {fd : FuncData} (F : Fun K "_law_take" "_law_take" sTake f fd) (mint : mg "int" = none) : FnOk P w K mg base CX0 1 f fd ["_law_bag_here", "_law_many"] spTake := by
  refine F.ok scTake (fun vs H Q E h => ?_) (fun cdv A outer s H vs Q E hr h => ?_)
  · obtain ⟨a, c, ns, rfl, _⟩ := h
    rfl
  obtain ⟨b, c, m, rfl, ⟨x, y, z, ns, hb, hc, h63⟩, m0, m1, k⟩ := h
  have ncb : c ≠ b := bag_ne hb hc
  refine ⟨_, C8.pss_cut (ps_if (pt_cmpR op_eq (pe_ix ix_list (pv 0) pe_int (fun _ _ => rfl)) pe_int (nomark _))
      (pss_cons (ps_set (i := 2) scTake.nd rfl (Or.inl rfl) (pe_ix ix_list (pe_op op_cat (pe_slice sl_list (pe_ix ix_list (pv 0) pe_int (fun _ _ => rfl)) (po_some (pe_ix ix_list (pv 0) pe_int (fun _ _ => rfl))) po_none) (pe_lst (pa_cons pe_int pa_nil))) pe_int (fun _ _ => rfl)))
      (pss_cons (ps_augS (pv 0) pe_int get_list pe_int ip_add set_list)
      (pss_cons (ps_asg (pe_op op_mul (pv 2) (pe_callTy call_int1 (by rfl) mint (by decide +kernel) (pa_cons (pe_cmpR op_ge (pv 2) (pe_op op_pow pe_int pe_int) (nomark _)) pa_nil))) (pg_sub (pv 0) pe_int set_list))
      (pss_cons (ps_set (i := 3) scTake.nd rfl (Or.inl rfl) (pe_op op_add (pe_op op_add (pe_op op_mul (pe_ix ix_list (pv 0) pe_int (fun _ _ => rfl)) pe_int) (pe_op op_mod (pe_callTy call_int1 (by rfl) mint (by decide +kernel) (pa_cons (pv 2) pa_nil)) pe_int)) (pe_op op_mul pe_int (pe_ix ix_list (pv 0) pe_int (fun _ _ => rfl)))))
      (pss_one (ps_asg (pe_op op_mod (pe_callTy call_int1 (by rfl) mint (by decide +kernel) (pa_cons (pv 3) pa_nil)) pe_int) (pg_sub (pv 0) pe_int set_list))))))) pss_nil)
    (pss_cons (ps_if (pt_cmpR op_gt (pe_ix ix_list (pv 0) pe_int (fun _ _ => rfl)) pe_int (nomark _))
      (pss_cons (ps_asg (pe_tup (pa_cons (pe_op op_mod (pe_callTy call_int1 (by rfl) mint (by decide +kernel) (pa_cons (pe_ix ix_list (pv 0) pe_int (fun _ _ => rfl)) pa_nil)) (pv 1)) (pa_cons (pe_op op_fdiv (pe_callTy call_int1 (by rfl) mint (by decide +kernel) (pa_cons (pe_ix ix_list (pv 0) pe_int (fun _ _ => rfl)) pa_nil)) (pv 1)) pa_nil)))
          (pg_tup rfl (pgs_cons (pg_name (i := 4) scTake.nd rfl (.inl rfl)) (pgs_cons (pg_sub (pv 0) pe_int set_list) pgs_nil))))
      (pss_one (ps_ret (pv 4)))) pss_nil)
    (pss_cons (ps_set (i := 5) scTake.nd rfl (Or.inl rfl) (pe_op op_mod (pe_callTy call_int1 (by rfl) mint (by decide +kernel) (pa_cons (pe_op op_mul (pe_op op_add (pe_ix ix_list (pv 0) pe_int (fun _ _ => rfl)) pe_int) pe_int) pa_nil)) pe_int))
    (pss_cons (ps_set (i := 6) scTake.nd rfl (Or.inl rfl) (pe_op op_mod (pe_callTy call_int1 (by rfl) mint (by decide +kernel) (pa_cons (pe_op op_mul (pe_op op_mod (pe_callTy call_int1 (by rfl) mint (by decide +kernel) (pa_cons (pe_op op_mul (pv 5) (pv 5)) pa_nil)) pe_int) pe_int) pa_nil)) pe_int))
    (pss_one (ps_ret (pe_op op_mod (pe_callTy call_int1 (by rfl) mint (by decide +kernel) (pa_cons (pe_op op_fdiv (pv 6) pe_int) pa_nil)) (pv 1))))))), ?_⟩
  have atL : ∀ {H' : Hp} {x y z : Int}, H' b = some (.lst [.int x, .int y, .int z, .ref c]) → SqL K H' b [.int x, .int y, .int z, .ref c] := fun e => .inl (.inl e)
  refine ⟨fun σ H' => ∃ (x' y' z' : Int) (u v w2 : Option V), σ = [some (.ref b), some (.int m), u, v, none, none, none] ∧ H' b = some (.lst [.int x', .int y', .int z', .ref c]) ∧ But b H H', ?_, ?_⟩
  · refine ⟨.ref b, rfl, b, _, 0, _, rfl, rfl, atL hb, rfl, rfl, _, rfl, ?_⟩
    refine ite2 (fun _ => ?_) (fun _ => ?_)
    · refine ⟨.ref b, rfl, b, _, 3, _, rfl, rfl, atL hb, rfl, .ref b, rfl, b, _, 2, _, rfl, rfl, atL hb, rfl, z, rfl, c, _, rfl, .inl (.inl hc), fun p hp => ?_⟩
      refine ⟨small (by show 1 ≤ 1000; decide), fun q hq => ?_⟩
      have npq : p ≠ q := ne_of_none upd_same hq
      have ncut : (cutV (ns.map V.int) (some z) none).length ≤ 63 := Nat.le_trans (cutV_length _ _ _) (by rw [List.length_map]; exact h63)
      refine ⟨p, q, _, _, rfl, rfl, by rw [upd_ne npq, upd_same], upd_same, small (by rw [List.length_singleton]; omega), fun r hr' => ?_⟩
      obtain ⟨ce, hce⟩ : ∃ ce : Int, atI (cutV (ns.map V.int) (some z) none ++ [V.int 0]) (0 : Int) = some (.int ce) := by
        obtain ⟨ms, hms⟩ := cut_ints' ns (some z) none
        rw [hms]
        cases ms with
        | nil => exact ⟨0, rfl⟩
        | cons t ts => exact ⟨t, atI_nat (j := 0) rfl⟩
      refine ⟨r, _, 0, .int ce, rfl, rfl, .inl (.inl upd_same), hce, ?_⟩
      have nb1 := ne_of_none hb hp
      have hb1 : (upd H p (HO.lst (cutV (ns.map V.int) (some z) none))) b = some (.lst [.int x, .int y, .int z, .ref c]) := by rw [upd_ne nb1]; exact hb
      have nb2 := ne_of_none hb1 hq
      have hb2 := (upd_ne (o := HO.lst [V.int 0]) nb2).trans hb1
      have nb3 := ne_of_none hb2 hr'
      have hb3 := (upd_ne (o := HO.lst (cutV (ns.map V.int) (some z) none ++ [V.int 0])) nb3).trans hb2
      have B3 : But b H (upd (upd (upd H p (HO.lst (cutV (ns.map V.int) (some z) none))) q (HO.lst [V.int 0])) r (HO.lst (cutV (ns.map V.int) (some z) none ++ [V.int 0]))) := (((But.refl b H).new hp).new hq).new hr'
      -- bag[2] += 1
      refine ⟨.ref b, rfl, b, _, 2, .int z, rfl, rfl, by decide, atL hb3, rfl, z, 1, rfl, rfl, b, _, 2, 2, rfl, rfl, hb3, rfl, ?_⟩
      have hb4 : (upd (upd (upd (upd H p (HO.lst (cutV (ns.map V.int) (some z) none))) q (HO.lst [V.int 0])) r (HO.lst (cutV (ns.map V.int) (some z) none ++ [V.int 0]))) b (HO.lst ([V.int x, V.int y, V.int z, V.ref c].set 2 (V.int (z + 1))))) b = some (.lst [.int x, .int y, .int (z + 1), .ref c]) := upd_same
      have B4 := B3.set (o := HO.lst ([V.int x, V.int y, V.int z, V.ref c].set 2 (V.int (z + 1))))
      generalize (upd (upd (upd (upd H p (HO.lst (cutV (ns.map V.int) (some z) none))) q (HO.lst [V.int 0])) r (HO.lst (cutV (ns.map V.int) (some z) none ++ [V.int 0]))) b (HO.lst ([V.int x, V.int y, V.int z, V.ref c].set 2 (V.int (z + 1))))) = H4 at hb4 B4 ⊢
      -- bag[0] = cell * int(cell >= 10 ** 18)
      have small2 : ∀ k : Bool, -(2 ^ 64 : Int) < (if k = true then 1 else 0) ∧ (if k = true then (1 : Int) else 0) < 2 ^ 64 := by intro k; cases k <;> decide
      refine ⟨.int ce, rfl, .int ce, rfl, 10, 18, rfl, rfl, ⟨by decide, by decide, by decide⟩, ce, _, rfl, rfl, .inr ⟨_, rfl, ce, _, rfl, rfl, .inr (small2 _), .ref b, rfl, b, _, 0, 0, rfl, rfl, hb4, rfl, ?_⟩⟩
      dsimp only
      generalize (ce * if decide ((10 : Int) ^ (18 : Int).toNat ≤ ce) = true then 1 else 0) = x5
      have hb5 : (upd H4 b (HO.lst ([V.int x, V.int y, V.int (z + 1), V.ref c].set 0 (V.int x5)))) b = some (.lst [.int x5, .int y, .int (z + 1), .ref c]) := upd_same
      have B5 := B4.set (o := HO.lst ([V.int x, V.int y, V.int (z + 1), V.ref c].set 0 (V.int x5)))
      generalize (upd H4 b (HO.lst ([V.int x, V.int y, V.int (z + 1), V.ref c].set 0 (V.int x5)))) = H5 at hb5 B5 ⊢
      -- mixed = ..
      refine ⟨.ref b, rfl, b, _, 1, _, rfl, rfl, atL hb5, rfl, y, 48271, rfl, rfl, .inr ⟨by decide, by decide⟩, .int ce, rfl, .inl ⟨ce, rfl, ce, 2147483647, rfl, rfl, (by show (0 : Int) < 2147483647; decide), _, _, rfl, rfl, .ref b, rfl, b, _, 2, _, rfl, rfl, atL hb5, rfl, 7919, z + 1, rfl, rfl, .inl ⟨by decide, by decide⟩, _, _, rfl, rfl, ?_⟩⟩
      dsimp only
      generalize (y * 48271 + ce % 2147483647 + 7919 * (z + 1)) = mx
      -- bag[1] = int(mixed) % 2147483647
      refine ⟨.int mx, rfl, .inl ⟨mx, rfl, mx, 2147483647, rfl, rfl, (by show (0 : Int) < 2147483647; decide), .ref b, rfl, b, _, 1, 1, rfl, rfl, hb5, rfl, ?_⟩⟩
      exact ⟨x5, mx % 2147483647, z + 1, some (.int ce), some (.int mx), none, rfl, upd_same, B5.set⟩
    · exact ⟨x, y, z, none, none, none, rfl, hb, But.refl b H⟩
  · rintro σ H1 ⟨x', y', z', u, v, w2, rfl, hb1, B1⟩
    have hc1 : H1 c = some (.lst (ns.map V.int)) := B1 c _ hc ncb
    refine ⟨.ref b, rfl, b, _, 0, _, rfl, rfl, atL hb1, rfl, x', 0, rfl, rfl, _, rfl, ?_⟩
    refine ite2 (fun _ => ?_) (fun _ => ?_)
    · refine ⟨.ref b, rfl, b, _, 0, _, rfl, rfl, atL hb1, rfl, .inl ⟨x', rfl, .int m, rfl, x', m, rfl, rfl, m0, ?_⟩⟩
      refine ⟨.ref b, rfl, b, _, 0, _, rfl, rfl, atL hb1, rfl, .inl ⟨x', rfl, .int m, rfl, x', m, rfl, rfl, ⟨m0, by omega⟩, small (by show 2 ≤ 1000; decide), fun t nt => ?_⟩⟩
      have nbt : b ≠ t := ne_of_none hb1 nt
      have hb2 := (upd_ne (o := HO.tup [V.int (x' % m), V.int (x' / m)]) nbt).trans hb1
      refine ⟨t, _, rfl, .inl (.inl upd_same), rfl, .int (x' % m), [.int (x' / m)], rfl, .int (x' / m), [], rfl, .ref b, rfl, b, _, 0, 0, rfl, rfl, hb2, rfl, ⟨rfl, ?_⟩⟩
      refine ⟨.int (x' % m), rfl, k _ _ (Int.emod_nonneg _ (by omega)) (Int.emod_lt_of_pos _ m0) ⟨x' / m, y', z', ns, upd_same, ?_, h63⟩ (B1.new nt).set⟩
      rw [upd_ne ncb, upd_ne (ne_of_none hc1 nt)]
      exact hc1
    · refine ⟨.ref b, rfl, b, _, 1, _, rfl, rfl, atL hb1, rfl, y', 1, rfl, rfl, _, 39373, rfl, rfl, .inr ⟨by decide, by decide⟩, .inl ⟨_, rfl, _, 1000000007, rfl, rfl, (by show (0 : Int) < 1000000007; decide), ?_⟩⟩
      have e1 : 0 ≤ (y' + 1) * 39373 % 1000000007 := Int.emod_nonneg _ (by decide)
      have e2 : (y' + 1) * 39373 % 1000000007 < 1000000007 := Int.emod_lt_of_pos _ (by decide)
      dsimp only
      generalize (y' + 1) * 39373 % 1000000007 = ea at e1 e2 ⊢
      refine ⟨.int ea, rfl, .int ea, rfl, ea, ea, rfl, rfl, .inl ⟨by omega, by omega⟩, .inl ⟨_, rfl, _, 998244353, rfl, rfl, (by show (0 : Int) < 998244353; decide), _, 30011, rfl, rfl, .inr ⟨by decide, by decide⟩, .inl ⟨_, rfl, _, 998244353, rfl, rfl, (by show (0 : Int) < 998244353; decide), ?_⟩⟩⟩
      dsimp only
      generalize ea * ea % 998244353 * 30011 % 998244353 = sc
      refine ⟨.int sc, rfl, sc, 7, rfl, rfl, ⟨by decide, by decide⟩, .inl ⟨_, rfl, .int m, rfl, _, m, rfl, rfl, m0, ?_⟩⟩
      exact k _ _ (Int.emod_nonneg _ (by omega)) (Int.emod_lt_of_pos _ m0) ⟨x', y', z', ns, hb1, hc1, h63⟩ B1
end
end Lw

set_option Elab.async false
set_option linter.all false
set_option maxRecDepth 100000
namespace Lw
open PySem PySem.Spec PyProof.Rows L2
/-! ### names -/
abbrev LET : Str := "abcdefghijklmnopqrstuvwxyz"
abbrev WORDS : Str := "own not none some late now each done mark link tag row new self gone other"
def wordsL : List Str := ["own", "not", "none", "some", "late", "now", "each", "done", "mark", "link", "tag", "row", "new", "self", "gone", "other"]
theorem split_words : Txt.split WORDS " " = wordsL := by decide +kernel
def Low (c : Nat) : Prop := 97 ≤ c ∧ c ≤ 122
instance (c : Nat) : Decidable (Low c) := inferInstanceAs (Decidable (_ ∧ _))
structure NameOk (z : Str) : Prop where
  pos : 1 ≤ z.length
  most : z.length ≤ 8
  low : ∀ c ∈ z.cps.toList, Low c
abbrev one (c : Nat) : Str := ⟨#[c]⟩
def lowB (c : Nat) : Bool := decide (97 ≤ c) && decide (c ≤ 122)
theorem lowB_iff {c : Nat} : lowB c = true ↔ Low c := by unfold lowB Low; simp
def nameB (z : Str) : Bool := decide (1 ≤ z.length) && decide (z.length ≤ 8) && z.cps.toList.all lowB
theorem nameB_ok {z : Str} (h : nameB z = true) : NameOk z := by
  unfold nameB at h
  simp only [Bool.and_eq_true, decide_eq_true_eq, List.all_eq_true] at h
  exact ⟨h.1.1, h.1.2, fun c hc => lowB_iff.mp (h.2 c hc)⟩
theorem words_ok : ∀ z ∈ wordsL, NameOk z := fun z hz => nameB_ok (List.all_eq_true.mp (by decide +kernel : wordsL.all nameB = true) z hz)
theorem let_list : LET.cps.toList = List.range' 97 26 := by decide +kernel
theorem let_at {r : Int} (h0 : 0 ≤ r) (h1 : r < 26) : ∃ c : Nat, atI LET.cps.toList r = some c ∧ Low c ∧ (c : Int) = 97 + r := by
  obtain ⟨j, rfl⟩ : ∃ j : Nat, r = (j : Int) := ⟨r.toNat, by omega⟩
  have hj : j < 26 := by omega
  refine ⟨97 + j, atI_nat ?_, ⟨by omega, by omega⟩, by omega⟩
  rw [let_list, List.getElem?_range' hj]
  simp
theorem let_index {c : Nat} (h : Low c) : ∃ rest, Builtin.Str.occurrences LET (one c) 0 LET.length 1 = (c - 97) :: rest := by
  have key : ∀ j ∈ List.range 26, ∃ rest, Builtin.Str.occurrences LET (one (97 + j)) 0 LET.length 1 = j :: rest := by
    intro j hj
    have e : (List.range 26).all (fun j => (Builtin.Str.occurrences LET (one (97 + j)) 0 LET.length 1).head? == some j) = true := by decide +kernel
    have e2 := List.all_eq_true.mp e j hj
    cases q : Builtin.Str.occurrences LET (one (97 + j)) 0 LET.length 1 with
    | nil => rw [q] at e2; cases e2
    | cons a r =>
      rw [q] at e2
      have e3 : a = j := by simpa using e2
      exact ⟨r, by rw [e3]⟩
  obtain ⟨h1, h2⟩ := h
  obtain ⟨rest, e⟩ := key (c - 97) (List.mem_range.mpr (by omega))
  rw [show 97 + (c - 97) = c by omega] at e
  exact ⟨rest, e⟩
/-- the letters from one on, all round -/
def rot (at_ : Nat) : Str := cutS LET (some (at_ : Int)) none ++ cutS LET none (some (at_ : Int))
theorem rot_ok {j : Nat} (h : j < 26) : (rot j).cps.toList.length = 26 ∧ (rot j).cps.toList.Nodup ∧ ∀ c ∈ (rot j).cps.toList, Low c := by
  have e : (List.range 26).all (fun j => decide ((rot j).cps.toList.length = 26) && decide ((rot j).cps.toList.Nodup) && (rot j).cps.toList.all lowB) = true := by decide +kernel
  have e2 := List.all_eq_true.mp e j (List.mem_range.mpr h)
  simp only [Bool.and_eq_true, decide_eq_true_eq, List.all_eq_true] at e2
  exact ⟨e2.1.1, e2.1.2, fun c hc => lowB_iff.mp (e2.2 c hc)⟩
theorem str_ext {a b : Str} (h : a.cps.toList = b.cps.toList) : a = b := by
  obtain ⟨⟨l⟩⟩ := a
  obtain ⟨⟨m⟩⟩ := b
  have e : l = m := h
  rw [e]
theorem app_list (a b : Str) : (a ++ b).cps.toList = a.cps.toList ++ b.cps.toList := by
  show (a.cps ++ b.cps).toList = _
  exact Array.toList_append ..
theorem len_list (a : Str) : a.length = a.cps.toList.length := by
  show a.cps.size = _
  simp
theorem one_inj {a b : Nat} {r : Str} (h : one a ++ r = one b ++ r) : a = b := by
  have e := congrArg (fun z : Str => z.cps.toList) h
  rw [app_list, app_list] at e
  exact (List.cons.inj e).1
theorem cand_ok {c : Nat} {r : Str} (hc : Low c) (hl : r.length ≤ 7) (hr : ∀ c ∈ r.cps.toList, Low c) : NameOk (one c ++ r) := by
  have e : (one c ++ r).length = 1 + r.length := by rw [len_list, app_list, List.length_append, ← len_list r]; rfl
  refine ⟨by omega, by omega, fun d hd => ?_⟩
  rw [app_list] at hd
  rcases List.mem_append.mp hd with h | h
  · have : d = c := by simpa using h
    rw [this]; exact hc
  · exact hr d h
theorem nodup_le {α : Type} [DecidableEq α] : ∀ {l m : List α}, l.Nodup → (∀ x ∈ l, x ∈ m) → l.length ≤ m.length
  | [], _, _, _ => Nat.zero_le _
  | a :: l, m, hn, hs => by
    obtain ⟨h1, h2⟩ := List.nodup_cons.mp hn
    have ha : a ∈ m := hs a List.mem_cons_self
    have ih := nodup_le (l := l) (m := m.erase a) h2 fun x hx => (List.mem_erase_of_ne fun e => h1 (by rw [← e]; exact hx)).mpr (hs x (List.mem_cons_of_mem _ hx))
    have e := List.length_erase_of_mem ha
    have p : 0 < m.length := List.length_pos_of_mem ha
    show l.length + 1 ≤ m.length
    omega
theorem cand_free {j : Nat} (hj : j < 26) (r : Str) {zs : List Str} (hz : zs.length ≤ 25) : ∃ x ∈ (rot j).cps.toList.map (fun c => one c ++ r), x ∉ zs := by
  obtain ⟨e1, e2, e3⟩ := rot_ok hj
  by_cases h : ∃ x ∈ (rot j).cps.toList.map (fun c => one c ++ r), x ∉ zs
  · exact h
  · have nd : ((rot j).cps.toList.map (fun c => one c ++ r)).Nodup := by
      refine List.Pairwise.map _ (fun a b ne => fun e => ne (one_inj e)) e2
    have le := nodup_le nd fun x hx => Decidable.byContradiction fun q => h ⟨x, hx, q⟩
    rw [List.length_map, e1] at le
    omega
theorem inV_str (z : Str) (zs : List Str) : inV (.str z) (zs.map V.str) = decide (z ∈ zs) := by
  unfold inV
  induction zs with
  | nil => rfl
  | cons a r ih =>
    rw [List.map_cons, List.any_cons, ih]
    show ((a == z) || decide (z ∈ r)) = decide (z ∈ a :: r)
    by_cases e : a = z
    · subst e
      simp
    · have e' : (a == z) = false := beq_eq_false_iff_ne.mpr e
      rw [e', Bool.false_or]
      simp [List.mem_cons, Ne.symm e]
theorem flat_strs (zs : List Str) : (zs.map V.str).all flatV = true := by
  induction zs with
  | nil => rfl
  | cons a r ih => rw [List.map_cons, List.all_cons, ih]; rfl
/-- what is joined of single signs -/
theorem join_ones : ∀ cs : List Nat, Txt.join (Str.ofString "") (cs.map one) = ⟨cs.toArray⟩ := by
  intro cs
  rw [TL.join_eq]
  refine str_ext ?_
  show _ = cs
  induction cs with
  | nil => rfl
  | cons c r ih =>
    cases r with
    | nil => rfl
    | cons d r =>
      show (one c ++ Str.ofString "" ++ Str.join (Str.ofString "") ((d :: r).map one)).cps.toList = _
      rw [app_list, app_list, ih]
      rfl
theorem cut_drop1 (xs : List V) : cutV xs (some 1) none = xs.drop 1 := by
  have e : HT.sIx xs.length 0 (some ((1 : Nat) : Int)) = min 1 xs.length := HT.sIx_nat xs.length 0 1
  unfold cutV
  rw [show HT.sIx xs.length 0 (some (1 : Int)) = min 1 xs.length from e, HT.sIx_none]
  cases xs with
  | nil => rfl
  | cons a r =>
    have m : min 1 (a :: r).length = 1 := by rw [List.length_cons]; omega
    rw [m]
    exact List.take_of_length_le (by rw [List.length_drop]; exact Nat.le_refl _)
theorem cut_strs (zs : List Str) (lo hi : Option Int) : ∃ ys : List Str, cutV (zs.map V.str) lo hi = ys.map V.str ∧ ∀ y ∈ ys, y ∈ zs := by
  unfold cutV
  refine ⟨(zs.drop (HT.sIx (zs.map V.str).length 0 lo)).take (HT.sIx (zs.map V.str).length (zs.map V.str).length hi - HT.sIx (zs.map V.str).length 0 lo), ?_, fun y hy => List.mem_of_mem_drop (List.mem_of_mem_take hy)⟩
  rw [List.map_take, List.map_drop]
theorem ones_len (cs : List Nat) : ((cs.map one).map (·.length)).sum = cs.length := by
  induction cs with
  | nil => rfl
  | cons c r ih =>
    rw [List.map_cons, List.map_cons, List.sum_cons, ih, List.length_cons]
    show 1 + r.length = r.length + 1
    omega
theorem rep_strs (ws : List Str) (k : Bool) : ∃ ys : List Str, (List.replicate (if k = true then (1 : Int) else 0).toNat (ws.map V.str)).flatten = ys.map V.str ∧ ∀ y ∈ ys, y ∈ ws := by
  cases k with
  | false => exact ⟨[], rfl, fun y h => absurd h List.not_mem_nil⟩
  | true => exact ⟨ws, List.append_nil _, fun y h => h⟩
theorem take_more {α : Type} {l : List α} {i : Nat} {x : α} (h : l[i]? = some x) : l.take (i + 1) = l.take i ++ [x] := by
  rw [List.take_add_one, h]
  rfl
theorem rot_len (j : Nat) : (cutS LET (some (j : Int)) none).length + (cutS LET none (some (j : Int))).length ≤ sizeLine := by
  have h1 := cutS_length LET (some (j : Int)) none
  have h2 := cutS_length LET none (some (j : Int))
  have h3 : LET.length = 26 := by decide +kernel
  exact small (by omega)
theorem pick4 {r : Int} (h0 : 0 ≤ r) (h1 : r < 4) : ∃ ln : Int, atI [V.int 1, V.int 2, V.int 8, V.int 4] r = some (.int ln) ∧ 1 ≤ ln ∧ ln ≤ 8 := by
  obtain h | h | h | h : r = 0 ∨ r = 1 ∨ r = 2 ∨ r = 3 := by omega
  · exact ⟨1, by rw [h]; rfl, by decide, by decide⟩
  · exact ⟨2, by rw [h]; rfl, by decide, by decide⟩
  · exact ⟨8, by rw [h]; rfl, by decide, by decide⟩
  · exact ⟨4, by rw [h]; rfl, by decide, by decide⟩
end Lw

set_option Elab.async false
set_option linter.all false
set_option maxRecDepth 100000
set_option maxHeartbeats 4000000
namespace Lw
open PySem PySem.Spec PyProof.Rows L2
abbrev sNames : Stmt := topS 17
abbrev NNames : List Str := ["_law_bag_here", "_law_many", "_law_letters", "_law_found", "_law_words", "_law_k", "_law_signs", "_law_at", "_law_rest", "_law_some", "_law_turn", "_law_one"]
section
variable {P : Program} {w : World} {K : PySem.W.Frag} {mg : Str → Option Value} {base : Heap}
theorem scNames : FnScope NNames ["_law_bag_here", "_law_many"] (defScope sNames) := ⟨rfl, rfl, rfl, by decide +kernel, rfl, by decide +kernel, by decide +kernel⟩
def spNames : Sp := fun vs H Q _ => ∃ (b c : Addr) (n : Int), vs = [.ref b, .int n] ∧ BagAt H b c ∧ 0 ≤ n ∧ n ≤ 20 ∧
  ∀ (p : Addr) (zs : List Str) (H' : Hp), (zs.length : Int) = n → zs.Nodup → (∀ z ∈ zs, NameOk z) → H' p = some (.lst (zs.map V.str)) → H p = none → BagAt H' b c → But b H H' → Q (.ref p) H'
theorem ok_names {f fT : Addr} {fd fdT : FuncData} (F : Fun K "_law_names" "_law_names" sNames f fd) (G : FnOk P w K mg base CX0 1 fT fdT ["_law_bag_here", "_law_many"] spTake) (mT : mg "_law_take" = some (.ref fT)) (kT : PySem.W.keepIn K (.ref fT) = true)
    (bT : Binds K fdT ["_law_bag_here", "_law_many"] []) (mrange : mg "range" = none) (mint : mg "int" = none) : FnOk P w K mg base CX0 2 f fd ["_law_bag_here", "_law_many"] spNames := by
  refine F.ok scNames (fun vs H Q E h => ?_) (fun cdv A outer s H vs Q E hr h => ?_)
  · obtain ⟨a, c, ns, rfl, _⟩ := h
    rfl
  obtain ⟨b, c, n, rfl, hb, n0, n1, k⟩ := h
  refine ⟨_, pss_cons (ps_asg (pe_tup (pa_cons pe_str (pa_cons (pe_lst pa_nil) pa_nil))) (pg_tup rfl (pgs_cons (pg_name (i := 2) scNames.nd rfl (.inr rfl)) (pgs_cons (pg_name (i := 3) scNames.nd rfl (.inr rfl)) pgs_nil))))
    (pss_cons (ps_set (i := 4) scNames.nd rfl (.inl rfl) (pe_split pe_str pe_str))
    (pss_cons (ps_for PassesOwn.never rfl (pi_range1 (by rfl) mrange (pa_cons (pv 1) pa_nil)) (pg_name (i := 5) scNames.nd rfl (.inl rfl))
      (pss_cons (ps_setLc (i := 6) (own := [("_law_turn", 10)]) (g := gName 10) (tt := tYes) rfl scNames.nd rfl rfl (sw_true rfl rfl rfl (by decide +kernel))
          (pi_range1 (by rfl) mrange (pa_cons (pe_ix ix_list (pe_lst (pa_cons pe_int (pa_cons pe_int (pa_cons pe_int (pa_cons pe_int pa_nil))))) (pe_call G hr (by rfl) mT kT bT .nil pass0 (pa_cons (pv 0) (pa_cons pe_int pa_nil))) (fun _ _ => rfl)) pa_nil))
          (blkOk_by (N := NNames) (sc := defScope sNames) (by decide +kernel)) (fun _ _ _ _ _ => pg_name (i := 10) scNames.nd rfl (Or.inl rfl)) (fun _ _ _ _ _ => pts_nil)
          (fun _ _ _ _ _ => pe_ix ix_str (pv 2) (pe_call G hr (by rfl) mT kT bT .nil pass0 (pa_cons (pv 0) (pa_cons pe_int pa_nil))) (fun _ _ => rfl)))
      (pss_cons (ps_asg (pe_tup (pa_cons (pe_m1 PySem.F.slot_str_index PySem.F.type_str_index mt_sindex (pv 2) (pe_ix ix_list (pv 6) pe_int (fun _ _ => rfl))) (pa_cons (pe_join pe_str (pe_slice sl_list (pv 6) (po_some pe_int) po_none)) pa_nil)))
          (pg_tup rfl (pgs_cons (pg_name (i := 7) scNames.nd rfl (.inl rfl)) (pgs_cons (pg_name (i := 8) scNames.nd rfl (.inr rfl)) pgs_nil))))
      (pss_cons (ps_set (i := 9) scNames.nd rfl (.inl rfl) (pe_op op_cat (pe_op op_rep (pe_slice sl_list (pv 4) (po_some (pv 7)) po_none) (pe_callTy call_int1 (by rfl) mint (by decide +kernel) (pa_cons (pe_cmpR op_eq (pe_call G hr (by rfl) mT kT bT .nil pass0 (pa_cons (pv 0) (pa_cons pe_int pa_nil))) pe_int (nomark _)) pa_nil)))
          (pe_lc (own := [("_law_one", 11)]) (g := gName 11) (tt := tYes) rfl scNames.nd (pi_str (pe_op op_add_str (pe_slice sl_str (pv 2) (po_some (pv 7)) po_none) (pe_slice sl_str (pv 2) po_none (po_some (pv 7))))) (blkOk_by (N := NNames) (sc := defScope sNames) (by decide +kernel))
            (fun _ _ _ _ _ => pg_name (i := 11) scNames.nd rfl (Or.inl rfl)) (fun _ _ _ _ _ => pts_nil) (fun _ _ _ _ _ => pe_op op_add_str (pv 11) (pv 8)))))
      (pss_one (ps_expr (pe_bm PySem.F.plainAttrs_list PySem.F.slot_list_append PySem.F.type_list_append mt_append (pv 3) (pa_cons
          (pe_ix ix_list (pe_lc (own := [("_law_one", 11)]) (g := gName 11) rfl scNames.nd (pi_list (pv 9)) (blkOk_by (N := NNames) (sc := defScope sNames) (by decide +kernel))
            (fun _ _ _ _ _ => pg_name (i := 11) scNames.nd rfl (Or.inl rfl)) (fun _ _ _ _ _ => pts_one (pt_cmpR (r := rIn K true) op_notIn_seq (pv 11) (pv 3) (by rfl))) (fun _ _ _ _ _ => pv 11)) pe_int (fun _ _ => rfl)) pa_nil))))))))
    (pss_one (ps_ret (pv 3))))), ?_⟩
  refine ⟨Nat.zero_le _, fun o no => ⟨small (by show 2 ≤ 1000; decide), fun t nt => ?_⟩⟩
  have no' : o ≠ t := ne_of_none upd_same nt
  refine ⟨t, _, rfl, .inl (.inl upd_same), rfl, .str LET, [.ref o], rfl, .ref o, [], rfl, ⟨rfl, ?_⟩⟩
  have ho1 : (upd (upd H o (.lst [])) t (.tup [.str LET, .ref o])) o = some (.lst []) := by rw [upd_ne no']; exact upd_same
  have s1 : Same H (upd (upd H o (.lst [])) t (.tup [.str LET, .ref o])) := (same_new no _).trans (same_new nt _)
  generalize (upd (upd H o (.lst [])) t (.tup [.str LET, .ref o])) = H1 at ho1 s1 ⊢
  refine ⟨⟨_, rfl⟩, WORDS, " ", rfl, rfl, by decide +kernel, by decide +kernel, fun wp nw => ?_⟩
  rw [split_words]
  have hw2 : (upd H1 wp (.lst (wordsL.map V.str))) wp = some (.lst (wordsL.map V.str)) := upd_same
  have now : o ≠ wp := ne_of_none ho1 nw
  have ho2 : (upd H1 wp (.lst (wordsL.map V.str))) o = some (.lst []) := by rw [upd_ne now]; exact ho1
  have s2 : Same H (upd H1 wp (.lst (wordsL.map V.str))) := s1.trans (same_new nw _)
  generalize (upd H1 wp (.lst (wordsL.map V.str))) = H2 at hw2 ho2 s2 ⊢
  have nob : o ≠ b := hb.nb no
  have noc : o ≠ c := hb.nc no
  have nwb : wp ≠ b := (hb.mono s1).nb nw
  refine ⟨.int n, rfl, n, rfl, by omega, by omega, for_range (lo := 0) (n := n.toNat) (fun i σ H3 => ∃ (zs : List Str) (v5 v6 v7 v8 v9 : Option V), σ = [some (.ref b), some (.int n), some (.str LET), some (.ref o), some (.ref wp), v5, v6, v7, v8, v9, none, none] ∧
      zs.length = i ∧ zs.Nodup ∧ (∀ z ∈ zs, NameOk z) ∧ H3 o = some (.lst (zs.map V.str)) ∧ H3 wp = some (.lst (wordsL.map V.str)) ∧ BagAt H3 b c ∧ But b H H3)
    ⟨[], none, none, none, none, none, rfl, rfl, List.nodup_nil, fun z hz => absurd hz List.not_mem_nil, ho2, hw2, hb.mono s2, But.of s2⟩ ?_ ?_⟩
  · rintro i σ H3 hi ⟨zs, v5, v6, v7, v8, v9, rfl, el, nd, ok, ho3, hw3, hb3, B3⟩
    refine ⟨small (by show 4 ≤ 1000; decide), fun l nl => ?_⟩
    have nlb : l ≠ b := hb3.nb nl
    have B4 : But b H3 (upd H3 l (.lst [.int 1, .int 2, .int 8, .int 4])) := (But.refl b H3).new nl
    refine ⟨.ref b, rfl, b, c, 4, rfl, hb3.new nl, by decide, by decide, fun r H4 r0 r1 hb4 B5 => ?_⟩
    obtain ⟨ln, hln, l1, l8⟩ := pick4 r0 r1
    refine ⟨l, _, r, .int ln, rfl, rfl, .inl (.inl (B5 l _ upd_same nlb)), hln, ln, rfl, by omega, by omega, fun D nD => ?_⟩
    have B6 : But b H3 H4 := B4.trans B5
    have nDb : D ≠ b := hb4.nb nD
    have nDc : D ≠ c := hb4.nc nD
    have nD3 : H3 D = none := B6.free nD nDb
    refine lc_range (lo := 0) (n := ln.toNat) (fun i H' => ∃ cs : List Nat, cs.length = i ∧ (∀ c ∈ cs, Low c) ∧ H' D = some (.lst (cs.map fun c => V.str (one c))) ∧ BagAt H' b c ∧ But b H3 H')
      ⟨[], rfl, fun c hc => absurd hc List.not_mem_nil, upd_same, hb4.new nD, B6.new nD⟩ ?_ ?_
    · rintro j H5 hj ⟨cs, ec, lo, hD, hb5, B7⟩
      refine ⟨rfl, yes_if ?_⟩
      refine ⟨.str LET, rfl, .ref b, rfl, b, c, 26, rfl, hb5, by decide, by decide, fun r2 H6 r3 r4 hb6 B8 => ?_⟩
      obtain ⟨d, hd, ld, _⟩ := let_at r3 r4
      have hD6 := B8 D _ hD nDb
      refine ⟨LET, r2, d, rfl, rfl, by decide +kernel, hd, _, hD6, by rw [List.length_map]; exact small1000 (by omega), cs ++ [d], by rw [List.length_append, ec]; rfl, fun d' hd' => ?_, by rw [upd_same, List.map_append]; rfl, hb6.set nDb nDc, (B7.trans B8).put nD3⟩
      rcases List.mem_append.mp hd' with h | h
      · exact lo d' h
      · rw [List.mem_singleton.mp h]; exact ld
    · rintro H5 ⟨cs, ec, lo, hD, hb5, B7⟩
      obtain ⟨c0, cr, rfl⟩ : ∃ c0 cr, cs = c0 :: cr := by
        cases cs with
        | nil => rw [List.length_nil] at ec; omega
        | cons c0 cr => exact ⟨c0, cr, rfl⟩
      have lc0 : Low c0 := lo c0 List.mem_cons_self
      have lcr : ∀ d ∈ cr, Low d := fun d hd => lo d (List.mem_cons_of_mem _ hd)
      rw [List.length_cons] at ec
      obtain ⟨orest, hocc⟩ := let_index lc0
      have hj26 : c0 - 97 < 26 := by have := lc0.1; have := lc0.2; omega
      generalize c0 - 97 = j at hocc hj26
      -- at, rest
      refine ⟨.str LET, rfl, ⟨_, rfl⟩, .ref D, rfl, D, _, 0, .str (one c0), rfl, rfl, .inl (.inl hD), atI_nat (j := 0) rfl, LET, one c0, j, orest, rfl, rfl, hocc, ⟨_, rfl⟩, .ref D, rfl, 1, rfl, D, _, rfl, .inl (.inl hD), fun p np => ?_⟩
      rw [cut_drop1]
      have np3 : H3 p = none := B7.free np (hb5.nb np)
      refine ⟨_, p, cr.map one, rfl, rfl, .inl (.inl (.inl (by rw [upd_same, List.map_cons, List.map_map]; rfl))), ?_, small (by show 2 ≤ 1000; decide), fun t2 nt2 => ?_⟩
      · rw [ones_len, List.length_map]
        show cr.length + cr.length * 0 ≤ _
        omega
      rw [join_ones]
      generalize hrest : (⟨cr.toArray⟩ : Str) = rest
      have rl : rest.length ≤ 7 := by rw [← hrest]; show cr.toArray.size ≤ 7; rw [List.size_toArray]; omega
      have rlow : ∀ d ∈ rest.cps.toList, Low d := by rw [← hrest]; exact lcr
      refine ⟨t2, _, rfl, .inl (.inl upd_same), rfl, .int j, [.str rest], rfl, .str rest, [], rfl, ⟨rfl, ?_⟩⟩
      have hb6 := (hb5.new (o := HO.lst (((c0 :: cr).map fun c => V.str (one c)).drop 1)) np).new (o := HO.tup [V.int j, V.str rest]) nt2
      have B8 := (B7.new (o := HO.lst (((c0 :: cr).map fun c => V.str (one c)).drop 1)) np).new (o := HO.tup [V.int j, V.str rest]) nt2
      generalize (upd (upd H5 p (HO.lst (((c0 :: cr).map fun c => V.str (one c)).drop 1))) t2 (HO.tup [V.int j, V.str rest])) = H6 at hb6 B8 ⊢
      have hw6 := B8 wp _ hw3 nwb
      -- some
      refine ⟨.ref wp, rfl, .int j, rfl, j, rfl, wp, _, rfl, .inl (.inl hw6), fun p3 np3 => ?_⟩
      obtain ⟨ws, ews, hws⟩ := cut_strs wordsL (some (j : Int)) none
      rw [ews]
      refine ⟨.ref b, rfl, b, c, 8, rfl, hb6.new np3, by decide, by decide, fun r5 H7 _ _ hb7 B9 => ?_⟩
      have wl16 : ws.length ≤ 16 := by
        have e := congrArg List.length ews
        rw [List.length_map] at e
        have l1 := cutV_length (wordsL.map V.str) (some (j : Int)) none
        rw [List.length_map] at l1
        have l2 : wordsL.length = 16 := rfl
        omega
      have hp3 : H7 p3 = some (.lst (ws.map V.str)) := B9 p3 _ upd_same (hb6.nb np3)
      have B10 : But b H3 H7 := (B8.new np3).trans B9
      refine ⟨rfl, .inr ⟨_, rfl, p3, _, _, rfl, rfl, hp3, ?_, ?_, ?_, fun p4 np4 => ?_⟩⟩
      · cases decide (V.int r5 = V.int 0) <;> decide
      · cases decide (V.int r5 = V.int 0) <;> decide
      · rw [List.length_map]
        cases decide (V.int r5 = V.int 0)
        · exact small (by show ws.length * 0 ≤ 1000; omega)
        · exact small (by show ws.length * 1 ≤ 1000; omega)
      obtain ⟨w2, ew2, hw2'⟩ := rep_strs ws (decide (V.int r5 = V.int 0))
      rw [ew2]
      have wl2 : w2.length ≤ 16 := by
        have e := congrArg List.length ew2
        rw [List.length_map] at e
        have l2 : ((List.replicate (if decide (V.int r5 = V.int 0) = true then (1 : Int) else 0).toNat (ws.map V.str)).flatten).length ≤ 16 := by
          cases decide (V.int r5 = V.int 0)
          · show 0 ≤ 16; omega
          · show ((ws.map V.str) ++ []).length ≤ 16
            rw [List.append_nil, List.length_map]; exact wl16
        omega
      have hb8 := hb7.new (o := HO.lst (w2.map V.str)) np4
      have B11 := B10.new (o := HO.lst (w2.map V.str)) np4
      have hp4 : (upd H7 p4 (HO.lst (w2.map V.str))) p4 = some (.lst (w2.map V.str)) := upd_same
      have n4b : p4 ≠ b := hb7.nb np4
      generalize (upd H7 p4 (HO.lst (w2.map V.str))) = H8 at hb8 B11 hp4 ⊢
      refine ⟨.str LET, rfl, .int j, rfl, j, rfl, LET, rfl, by decide +kernel, .str LET, rfl, .int j, rfl, j, rfl, LET, rfl, by decide +kernel, _, _, rfl, rfl, rot_len j, rot j, rfl, fun D2 nD2 => ?_⟩
      obtain ⟨rot26, rotN, rotL⟩ := rot_ok hj26
      have nD2b : D2 ≠ b := hb8.nb nD2
      have nD2c : D2 ≠ c := hb8.nc nD2
      have nD23 : H3 D2 = none := B11.free nD2 nD2b
      have nD24 : p4 ≠ D2 := ne_of_none hp4 nD2
      refine lc_strI (fun i H' => H' D2 = some (.lst ((((rot j).cps.toList.take i).map fun d => one d ++ rest).map V.str)) ∧ H' p4 = some (.lst (w2.map V.str)) ∧ BagAt H' b c ∧ But b H3 H')
        ⟨upd_same, by rw [upd_ne nD24]; exact hp4, hb8.new nD2, B11.new nD2⟩ ?_ ?_
      · rintro i d H9 hd ⟨hD2, hp49, hb9, B12⟩
        have hlt : i < 26 := by rw [← rot26]; exact (List.getElem?_eq_some_iff.mp hd).1
        refine ⟨rfl, yes_if ⟨.str (one d), rfl, .str rest, rfl, _, _, rfl, rfl, small (by show 1 + rest.length ≤ 1000; omega), _, hD2, ?_, ?_, by rw [upd_ne nD24]; exact hp49, hb9.set nD2b nD2c, B12.put nD23⟩⟩
        · rw [List.length_map, List.length_map, List.length_take]; exact small1000 (by omega)
        · rw [upd_same, take_more hd, List.map_append, List.map_append]; rfl
      · rintro H9 ⟨hD2, hp49, hb9, B12⟩
        rw [List.take_length] at hD2
        refine ⟨p4, D2, _, _, rfl, rfl, hp49, hD2, small (by rw [List.length_map, List.length_map, List.length_map]; omega), fun S nS => ?_⟩
        rw [← List.map_append]
        generalize hsome : w2 ++ (rot j).cps.toList.map (fun d => one d ++ rest) = somes
        have hsomes : ∀ z ∈ somes, NameOk z := by
          intro z hz
          rw [← hsome] at hz
          rcases List.mem_append.mp hz with h | h
          · exact words_ok z (hws z (hw2' z h))
          · obtain ⟨d, hd, rfl⟩ := List.mem_map.mp h
            exact cand_ok (rotL d hd) rl rlow
        have slen : somes.length ≤ 42 := by rw [← hsome, List.length_append, List.length_map]; omega
        obtain ⟨fx, hfx, nfx⟩ : ∃ x ∈ somes, x ∉ zs := by
          obtain ⟨x, hx, nx⟩ := cand_free hj26 rest (zs := zs) (by omega)
          exact ⟨x, by rw [← hsome]; exact List.mem_append_right _ hx, nx⟩
        have hb10 := hb9.new (o := HO.lst (somes.map V.str)) nS
        have B13 := B12.new (o := HO.lst (somes.map V.str)) nS
        have hS : (upd H9 S (HO.lst (somes.map V.str))) S = some (.lst (somes.map V.str)) := upd_same
        have nSb : S ≠ b := hb9.nb nS
        have nS3 : H3 S = none := B12.free nS nSb
        generalize (upd H9 S (HO.lst (somes.map V.str))) = H10 at hb10 B13 hS ⊢
        have ho10 := B13 o _ ho3 nob
        -- found.append([..][0])
        refine ⟨.ref o, rfl, .inl ⟨rfl, _, .inl (.inl ho10)⟩, .ref S, rfl, S, rfl, ⟨_, .inl (.inl hS)⟩, fun D3 nD3' => ?_⟩
        have nD3b : D3 ≠ b := hb10.nb nD3'
        have nD3c : D3 ≠ c := hb10.nc nD3'
        have nD33 : H3 D3 = none := B13.free nD3' nD3b
        have nSD : S ≠ D3 := ne_of_none hS nD3'
        have noD : o ≠ D3 := ne_of_none ho10 nD3'
        refine lc_list (K := K) (a := S) (xs := somes.map V.str) (fun i H' => H' D3 = some (.lst (((somes.take i).filter fun z => !decide (z ∈ zs)).map V.str)) ∧ H' S = some (.lst (somes.map V.str)) ∧ H' o = some (.lst (zs.map V.str)) ∧ BagAt H' b c ∧ But b H3 H')
          ⟨upd_same, by rw [upd_ne nSD]; exact hS, by rw [upd_ne noD]; exact ho10, hb10.new nD3', B13.new nD3'⟩ (fun i H' _ q => .inl (.inl q.2.1)) ?_ ?_
        · rintro i x H11 hx ⟨hD3, hS11, ho11, hb11, B14⟩
          obtain ⟨z, hz, rfl⟩ := map_get hx
          have hlt : i < somes.length := (List.getElem?_eq_some_iff.mp hz).1
          refine ⟨rfl, .str z, rfl, .ref o, rfl, o, _, rfl, .inl (.inl (.inl ho11)), rfl, flat_strs zs, _, rfl, ?_⟩
          show if (!inV (.str z) (zs.map V.str)) = true then _ else _
          rw [inV_str]
          have ef : ((somes.take (i + 1)).filter fun z => !decide (z ∈ zs)) = ((somes.take i).filter fun z => !decide (z ∈ zs)) ++ (if z ∈ zs then [] else [z]) := by
            rw [take_more hz, List.filter_append]
            by_cases q : z ∈ zs
            · simp [q]
            · simp [q]
          by_cases q : z ∈ zs
          · rw [decide_eq_true q]
            rw [if_pos q, List.append_nil] at ef
            refine iteF ⟨by rw [ef]; exact hD3, hS11, ho11, hb11, B14⟩
          · rw [decide_eq_false q]
            rw [if_neg q] at ef
            refine iteT ⟨.str z, rfl, _, hD3, ?_, ?_, by rw [upd_ne nSD]; exact hS11, by rw [upd_ne noD]; exact ho11, hb11.set nD3b nD3c, B14.put nD33⟩
            · rw [List.length_map]
              have l1 := List.length_filter_le (fun z => !decide (z ∈ zs)) (somes.take i)
              rw [List.length_take] at l1
              exact small1000 (by omega)
            · rw [upd_same, ef, List.map_append]; rfl
        · rintro H11 ⟨hD3, hS11, ho11, hb11, B14⟩
          rw [List.length_map, List.take_length] at hD3
          obtain ⟨g, gr, hg⟩ : ∃ g gr, (somes.filter fun z => !decide (z ∈ zs)) = g :: gr := by
            have m : fx ∈ (somes.filter fun z => !decide (z ∈ zs)) := List.mem_filter.mpr ⟨hfx, by simp [nfx]⟩
            cases e : (somes.filter fun z => !decide (z ∈ zs)) with
            | nil => rw [e] at m; cases m
            | cons g gr => exact ⟨g, gr, rfl⟩
          have hgm : g ∈ somes ∧ g ∉ zs := by
            have m : g ∈ (somes.filter fun z => !decide (z ∈ zs)) := by rw [hg]; exact List.mem_cons_self
            have m2 := List.mem_filter.mp m
            exact ⟨m2.1, by simpa using m2.2⟩
          rw [hg] at hD3
          refine ⟨D3, _, 0, .str g, rfl, rfl, .inl (.inl hD3), atI_nat (j := 0) rfl, o, _, .str g, rfl, rfl, ho11, by rw [List.length_map]; exact small1000 (by omega), ?_⟩
          refine ⟨zs ++ [g], _, _, _, _, _, rfl, by rw [List.length_append, el]; rfl, nd_snoc nd hgm.2, fun z hz => ?_, by rw [upd_same, List.map_append]; rfl, ?_, hb11.set nob noc, (B3.trans B14).put no⟩
          · rcases List.mem_append.mp hz with h | h
            · exact ok z h
            · rw [List.mem_singleton.mp h]; exact hsomes g hgm.1
          · rw [upd_ne now.symm]
            exact B14 wp _ hw3 nwb
  · rintro σ H3 ⟨zs, v5, v6, v7, v8, v9, rfl, el, nd, ok, ho3, hw3, hb3, B3⟩
    exact ⟨.ref o, rfl, k o zs H3 (by omega) nd ok ho3 no hb3 B3⟩
end
end Lw

set_option Elab.async false
set_option linter.all false
set_option maxRecDepth 100000
set_option maxHeartbeats 4000000
/-! dicts whose keys are of any plain kinds together: numbers, bools, texts, None, tuples of such -/
namespace Lw
open PySem
open PySem.Sem (wp)
abbrev Ent := NestedKey × Value × Value
def entM (w : World) (x : Ent) : DictEntry := ⟨x.1.hash w, x.2.1, x.2.2⟩
/-- the entries of the dict at d -/
def MixD (w : World) (h : Heap) (d : Addr) (xs : List Ent) : Prop :=
  ∃ o es ep, h.get? d = some o ∧ o.ExactDict ∧ o.data = .dict es ep ∧ es.toList = xs.map (entM w) ∧ (∀ x ∈ xs, NestedIs h x.1 x.2.1 ∧ x.1.depth ≤ 8) ∧ (xs.map (·.1)).Nodup
def FoundAt (xs : List Ent) (k : NestedKey) : Option Nat → Prop
  | none => k ∉ xs.map (·.1)
  | some j => ∃ kv v, xs[j]? = some (k, kv, v)
theorem ent_at {w : World} {es : Array DictEntry} {xs : List Ent} (he : es.toList = xs.map (entM w)) (i : Nat) : es[i]? = (xs[i]?).map (entM w) := by
  rw [← Array.getElem?_toList, he, List.getElem?_map]
theorem ent_size {w : World} {es : Array DictEntry} {xs : List Ent} (he : es.toList = xs.map (entM w)) : es.size = xs.length := by
  have := congrArg List.length he
  rw [Array.length_toList, List.length_map] at this
  exact this
theorem uniq_at {xs : List Ent} (hn : (xs.map (·.1)).Nodup) {i j : Nat} {k : NestedKey} {a b : Value × Value} (hi : xs[i]? = some (k, a)) (hj : xs[j]? = some (k, b)) : i = j := by
  have li : i < xs.length := (List.getElem?_eq_some_iff.mp hi).1
  have lj : j < xs.length := (List.getElem?_eq_some_iff.mp hj).1
  have e : (xs.map (·.1))[i]? = (xs.map (·.1))[j]? := by rw [List.getElem?_map, List.getElem?_map, hi, hj]; rfl
  exact (List.getElem?_inj (by rw [List.length_map]; exact li) hn).mp e
section
variable {prog : Program} {w : World} {A : Around} {E : Value → Shared → Prop} {s : Shared} {d : Addr} {o : Obj} {es : Array DictEntry} {ep : Nat} {xs : List Ent} {k : NestedKey} {key : Value}
theorem eq_mix {x : NestedKey} {u : Value} {Q : Bool → Shared → Prop} (hu : A.units + 8 < cLine) (hx : NestedIs s.heap x u) (dx : x.depth ≤ 8) (hk : NestedIs s.heap k key) (h : Q (decide (x = k)) s) : wpAny (model prog w) A (eqBool u key) Q E s :=
  eqAt_key x k A s u key hx hk (by omega) _ _ _ _ (by rw [← NestedKey.decide_eq]; exact h)
theorem tell_mix {stored : List Value} {Q : Bool → Shared → Prop} (hk : NestedIs s.heap k key) (dk : k.depth ≤ 8) (hs : ∀ v ∈ stored, ∃ x, NestedIs s.heap x v ∧ x.depth ≤ 8) (h : Q false s) : wpAny (model prog w) A (tableMayTell key stored) Q E s := by
  unfold tableMayTell
  refine wpAny_ite_split (fun _ => wpAny_pure h) fun _ => ?_
  refine wpAny_bind (quiet_key k key 8 s hk dk _ _ _ ?_)
  rw [Bool.not_true, if_neg Bool.false_ne_true]
  refine wpAny_bind (wpAny_forIn_list _ (fun rest r z => z = s ∧ r = (none, ()) ∧ ∀ v ∈ rest, ∃ x, NestedIs s.heap x v ∧ x.depth ≤ 8) _ ?_ ?_ _ _ ⟨rfl, rfl, hs⟩)
  · rintro v rest r z ⟨rfl, rfl, hr⟩
    obtain ⟨x, hx, dx⟩ := hr v List.mem_cons_self
    refine wpAny_bind (quiet_key x v 8 _ hx dx _ _ _ ?_)
    rw [Bool.not_true, if_neg Bool.false_ne_true]
    exact wpAny_pure ⟨rfl, rfl, fun y hy => hr y (List.mem_cons_of_mem _ hy)⟩
  · rintro r z ⟨rfl, rfl, _⟩
    exact wpAny_pure h
/-- the places with the key's hash are walked from the left -/
def Seen (xs : List Ent) (k : NestedKey) (was : List Nat) : Option Nat → Prop
  | none => ∀ i ∈ was, ∀ a, xs[i]? ≠ some (k, a)
  | some j => ∃ a, xs[j]? = some (k, a) ∧ j ∈ was
theorem places_mem {n : Nat} {f : Nat → Option Int} {h : Int} {i : Nat} : i ∈ placesWithHash n f h ↔ i < n ∧ (f i == some h) = true := by
  unfold placesWithHash
  rw [List.mem_filter, List.mem_range]
theorem found_of {es : Array DictEntry} (he : es.toList = xs.map (entM w)) {r : Option Nat} (h : Seen xs k (placesWithHash es.size (fun i => es[i]?.map (·.hash)) (k.hash w)) r) : FoundAt xs k r := by
  cases r with
  | none =>
    intro hin
    obtain ⟨x, hx, ex⟩ := List.mem_map.mp hin
    obtain ⟨i, li, ei⟩ := List.getElem_of_mem hx
    have eg : xs[i]? = some x := by rw [List.getElem?_eq_getElem li, ei]
    refine h i (places_mem.mpr ⟨by rw [ent_size he]; exact li, ?_⟩) x.2 ?_
    · rw [ent_at he, eg]
      show (some (x.1.hash w) == some (k.hash w)) = true
      rw [ex]; exact beq_self_eq_true _
    · rw [eg, ← ex]
  | some j =>
    obtain ⟨⟨kv, v⟩, e, _⟩ := h
    exact ⟨kv, v, e⟩
theorem place_at (he : es.toList = xs.map (entM w)) {i : Nat} (hi : i ∈ placesWithHash es.size (fun i => es[i]?.map (·.hash)) (k.hash w)) : ∃ x, xs[i]? = some x ∧ es[i]? = some (entM w x) ∧ x.1.hash w = k.hash w := by
  obtain ⟨li, hh⟩ := places_mem.mp hi
  have lx : i < xs.length := by rw [← ent_size he]; exact li
  refine ⟨xs[i], List.getElem?_eq_getElem lx, ?_⟩
  rw [ent_at he, List.getElem?_eq_getElem lx] at hh ⊢
  exact ⟨rfl, Option.some.inj (beq_iff_eq.mp hh)⟩
theorem found_walk (hu : A.units + 8 < cLine) (hk : NestedIs s.heap k key) (ho : s.heap.get? d = some o) (hd : o.data = .dict es ep) (he : es.toList = xs.map (entM w)) (hx : ∀ x ∈ xs, NestedIs s.heap x.1 x.2.1 ∧ x.1.depth ≤ 8) {Q : Option Nat → Shared → Prop}
    (h : ∀ r, FoundAt xs k r → Q r s) : wpAny (model prog w) A (dictWalkPlain d key (k.hash w) es (placesWithHash es.size (fun i => es[i]?.map (·.hash)) (k.hash w))) Q E s := by
  unfold dictWalkPlain
  refine wpAny_bind (wpAny_forIn_list _ (fun rest r z => z = s ∧ r = (none, ()) ∧ ∃ was, placesWithHash es.size (fun i => es[i]?.map (·.hash)) (k.hash w) = was ++ rest ∧ Seen xs k was none) _ ?_ ?_ _ _ ⟨rfl, rfl, [], rfl, fun i hi => absurd hi List.not_mem_nil⟩)
  · rintro i rest r z ⟨rfl, rfl, was, ew, hs⟩
    obtain ⟨x, ex, ee, eh⟩ := place_at (k := k) he (i := i) (by rw [ew]; exact List.mem_append_right _ List.mem_cons_self)
    obtain ⟨ix, dx⟩ := hx x (List.mem_of_getElem? ex)
    rw [ee]
    show wpAny _ _ (ite ((x.1.hash w == k.hash w) = true) _ _) _ _ _
    rw [if_pos (beq_iff_eq.mpr eh)]
    refine wpAny_bind (wpAny_dictEpoch ho hd (wpAny_bind (eq_mix hu ix dx hk (wpAny_bind (wpAny_dictEpoch ho hd ?_)))))
    rw [if_neg (by simp)]
    by_cases q : x.1 = k
    · rw [decide_eq_true q]
      obtain ⟨kx, kv, v⟩ := x
      cases (show kx = k from q)
      refine wpAny_bind (wpAny_rule (wpAny_pure (wpAny_pure (h (some i) ⟨kv, v, ex⟩))))
    · rw [decide_eq_false q]
      refine wpAny_bind (wpAny_rule (wpAny_pure ⟨rfl, rfl, was ++ [i], by rw [ew, List.append_assoc]; rfl, fun j hj a ej => ?_⟩))
      rcases List.mem_append.mp hj with g | g
      · exact hs j g a ej
      · cases List.mem_singleton.mp g
        rw [ex] at ej
        exact q (by rw [Option.some.inj ej])
  · rintro r z ⟨rfl, rfl, was, ew, hs⟩
    rw [List.append_nil] at ew
    exact wpAny_pure (h _ (found_of he (ew ▸ hs)))
theorem is_text {h : Heap} {x : NestedKey} {u : Value} {z : Str} (hx : NestedIs h x u) (e : u.isStr z = true) : x = .text z := by
  cases hx with
  | text y t =>
    have : y = z := by simpa [Value.isStr] using e
    rw [this]
  | _ => simp [Value.isStr] at e
theorem found_text {z : Str} {t : Tok} (hu : A.units + 8 < cLine) (ho : s.heap.get? d = some o) (hd : o.data = .dict es ep) (he : es.toList = xs.map (entM w)) (hx : ∀ x ∈ xs, NestedIs s.heap x.1 x.2.1 ∧ x.1.depth ≤ 8) {Q : Option Nat → Shared → Prop}
    (h : ∀ r, FoundAt xs (.text z) r → Q r s) : wpAny (model prog w) A (foundByValue d (.str z t) es z) Q E s := by
  unfold foundByValue
  cases ef : es.findIdx? (·.key.isStr z) with
  | none =>
    refine wpAny_pure (h none fun hin => ?_)
    obtain ⟨x, hm, ex⟩ := List.mem_map.mp hin
    obtain ⟨ix, _⟩ := hx x hm
    rw [ex] at ix
    have : x.2.1.isStr z = true := by
      generalize x.2.1 = u at ix
      cases ix with
      | text y t => simp [Value.isStr]
    rw [Array.findIdx?_eq_none_iff] at ef
    have := ef (entM w x) (Array.mem_toList_iff.mp (he ▸ List.mem_map_of_mem hm))
    simp_all [entM]
  | some i =>
    obtain ⟨li, hi, _⟩ := Array.findIdx?_eq_some_iff_getElem.mp ef
    have lx : i < xs.length := by rw [← ent_size he]; exact li
    have ex : xs[i]? = some xs[i] := List.getElem?_eq_getElem lx
    have ee := ent_at he i
    rw [ex] at ee
    generalize xs[i] = x at ex ee
    obtain ⟨ix, dx⟩ := hx x (List.mem_of_getElem? ex)
    have ei : es[i] = entM w x := by
      rw [Array.getElem?_eq_getElem li] at ee
      exact Option.some.inj ee
    rw [ei] at hi
    have ek := is_text ix hi
    dsimp only
    rw [ee]
    refine wpAny_bind (wpAny_dictEpoch ho hd (wpAny_bind (eq_mix (k := .text z) (key := .str z t) hu ix dx (.text z t) (wpAny_bind (wpAny_dictEpoch ho hd ?_)))))
    rw [if_neg (by simp), decide_eq_true ek]
    obtain ⟨kx, kv, v⟩ := x
    cases (show kx = .text z from ek)
    exact wpAny_bind (wpAny_rule (wpAny_pure (h (some i) ⟨kv, v, ex⟩)))
theorem found_mix (hu : A.units + 8 < cLine) (hk : NestedIs s.heap k key) (dk : k.depth ≤ 8) (ho : s.heap.get? d = some o) (hd : o.data = .dict es ep) (he : es.toList = xs.map (entM w)) (hx : ∀ x ∈ xs, NestedIs s.heap x.1 x.2.1 ∧ x.1.depth ≤ 8) (hn : (xs.map (·.1)).Nodup)
    {Q : Option Nat → Shared → Prop} (h : ∀ r, FoundAt xs k r → Q r s) : wpAny (model prog w) A (dictFind d key (k.hash w)) Q E s := by
  have plain := found_walk (prog := prog) (E := E) hu hk ho hd he hx h
  have stay : ∀ {v : Value}, v ∈ (placesWithHash es.size (fun i => es[i]?.map (·.hash)) (k.hash w)).filterMap (fun i => es[i]?.map (·.key)) → ∃ x, NestedIs s.heap x v ∧ x.depth ≤ 8 := by
    intro v hv
    obtain ⟨i, hi, e⟩ := List.mem_filterMap.mp hv
    obtain ⟨x, ex, ee, _⟩ := place_at (k := k) he hi
    rw [ee] at e
    obtain rfl : x.2.1 = v := Option.some.inj e
    exact ⟨x.1, hx x (List.mem_of_getElem? ex)⟩
  unfold dictFind
  (try with_reducible refine wpAny_holding ?_)
  refine wpAny_bind (wpAny_dictEntries ho hd ?_)
  have nokey : ¬ ((es.any fun e => e.key == key && e.hash != k.hash w) = true) := by
    rw [← Array.any_toList, List.any_eq_true]
    rintro ⟨e, hin, hc⟩
    rw [he] at hin
    obtain ⟨x, hm, rfl⟩ := List.mem_map.mp hin
    simp only [entM, Bool.and_eq_true, beq_iff_eq, bne_iff_ne, ne_eq] at hc
    have ix := (hx x hm).1
    rw [hc.1] at ix
    exact hc.2 (by rw [NestedIs.inj _ _ _ ix hk])
  have hk' := hk
  obtain ⟨k0, ek, hk⟩ : ∃ k0, k = k0 ∧ NestedIs s.heap k0 key := ⟨k, rfl, hk⟩
  cases hk <;> dsimp only
  all_goals (try refine wpAny_ite_split (fun _ => by subst ek; exact found_text hu ho hd he hx h) fun _ => ?_)
  all_goals refine wpAny_ite_split (fun _ => plain) fun _ => ?_
  all_goals (try rw [if_neg nokey])
  all_goals refine wpAny_ite_split (fun _ => wpAny_bind (wpAny_pure ?_)) (fun _ => wpAny_bind (tell_mix hk' dk (fun _ => stay) ?_))
  all_goals (
    rw [if_neg (by simp)]
    refine wpAny_bind (wpAny_forIn_list _ (fun rest r z => z = s ∧ ∃ hit was, r = (none, hit) ∧ placesWithHash es.size (fun i => es[i]?.map (·.hash)) (NestedKey.hash w k) = was ++ rest ∧ Seen xs k was hit) _ ?_ ?_ _ _ ⟨rfl, none, [], rfl, rfl, fun i hi => absurd hi List.not_mem_nil⟩)
    · rintro i rest r z ⟨rfl, hit, was, rfl, ew, hs⟩
      obtain ⟨x, ex, ee, eh⟩ := place_at (k := k) he (i := i) (by rw [ew]; exact List.mem_append_right _ List.mem_cons_self)
      obtain ⟨ix, dx⟩ := hx x (List.mem_of_getElem? ex)
      rw [ee]
      show wpAny _ _ (ite ((x.1.hash w == NestedKey.hash w k) = true) _ _) _ _ _
      rw [if_pos (beq_iff_eq.mpr eh)]
      refine wpAny_bind (wpAny_dictEpoch ho hd (wpAny_bind (eq_mix hu ix dx hk' (wpAny_bind (wpAny_dictEpoch ho hd ?_)))))
      rw [if_neg (by simp)]
      refine wpAny_ite_split (fun q => ?_) (fun q => ?_)
      · have q := of_decide_eq_true q
        obtain ⟨kx, kv, v⟩ := x
        obtain rfl := (show kx = k from q)
        cases hit with
        | some j =>
          obtain ⟨a, ea, hj⟩ := hs
          obtain rfl := uniq_at hn ea ex
          have nd : (placesWithHash es.size (fun i => es[i]?.map (·.hash)) (NestedKey.hash w kx)).Nodup := List.Pairwise.filter _ List.nodup_range
          rw [ew] at nd
          exact absurd rfl ((List.nodup_append.mp nd).2.2 _ hj _ List.mem_cons_self)
        | none =>
          rw [if_neg (by simp)]
          refine wpAny_bind (wpAny_rule ?_)
          exact wpAny_ite_split (fun _ => wpAny_pure (wpAny_pure (h (some i) ⟨kv, v, ex⟩))) fun _ => wpAny_pure ⟨rfl, some i, was ++ [i], rfl, by rw [ew, List.append_assoc]; rfl, ⟨(kv, v), ex, by simp⟩⟩
      · have q : ¬ x.1 = k := fun e => q (decide_eq_true e)
        refine wpAny_bind (wpAny_rule ?_)
        rw [if_neg (by simp)]
        refine wpAny_pure ⟨rfl, hit, was ++ [i], rfl, by rw [ew, List.append_assoc]; rfl, ?_⟩
        cases hit with
        | some j =>
          obtain ⟨a, ea, hj⟩ := hs
          exact ⟨a, ea, List.mem_append_left _ hj⟩
        | none =>
          intro j hj a ej
          rcases List.mem_append.mp hj with g | g
          · exact hs j g a ej
          · cases List.mem_singleton.mp g
            rw [ex] at ej
            exact q (by rw [Option.some.inj ej])
    · rintro r z ⟨rfl, hit, was, rfl, ew, hs⟩
      rw [List.append_nil] at ew
      exact wpAny_pure (h _ (found_of he (ew ▸ hs))))
theorem mix_stays {h : Heap} {f : Array DictEntry → Array DictEntry} {o' : Obj} (ho : h.get? d = some o) (hd : o.data = .dict es ep) {h' : Heap} (hs : Heap.SameBut d h h') {x : NestedKey} {u : Value} (hx : NestedIs h x u) : NestedIs h' x u :=
  NestedIs.at (fun b ob vs n hb hc => by
    refine Eq.trans (hs.2 b fun e => ?_) hb
    rw [e, ho] at hb
    cases Option.some.inj hb
    exact nomatch hd.symm.trans hc) x u hx
/-- what d[k] = v leaves -/
def SetTo (xs : List Ent) (k : NestedKey) (key v : Value) (ys : List Ent) : Prop :=
  (k ∉ xs.map (·.1) ∧ ys = xs ++ [(k, key, v)]) ∨ ∃ j kv old, xs[j]? = some (k, kv, old) ∧ ys = xs.set j (k, kv, v)
theorem set_mix (hu : A.units + 8 < cLine) (hk : NestedIs s.heap k key) (dk : k.depth ≤ 8) (hm : MixD w s.heap d xs) (hz : xs.length ≤ sizeLine) {v : Value} {Q : Unit → Shared → Prop}
    (h : ∀ h' ys, MixD w h' d ys → Heap.SameBut d s.heap h' → SetTo xs k key v ys → Q () { s with heap := h', toks := s.toks + k.draws }) : wpAny (model prog w) A (dictSet d key v) Q E s := by
  obtain ⟨o, es, ep, ho, hc, hd, he, hx, hn⟩ := hm
  unfold dictSet
  (try with_reducible refine wpAny_holding ?_)
  refine wpAny_bind (pyHash_key _ _ _ _ _ hk (by omega) ?_)
  unfold dictSetHashed
  (try with_reducible refine wpAny_holding ?_)
  refine wpAny_bind (found_mix (s := { s with toks := s.toks + k.draws }) hu hk dk ho hd he hx hn fun r hr => ?_)
  cases r with
  | none =>
    have hr : k ∉ xs.map (·.1) := hr
    refine wpAny_bind (wpAny_rule (wpAny_updateDictKeys (hz := by have := ent_size he; omega) (s := { s with toks := s.toks + k.draws }) ho hd ?_))
    have sb : Heap.SameBut d s.heap (s.heap.update d (Obj.mapDictKeys (·.push ⟨k.hash w, key, v⟩))) := Heap.SameBut.update ..
    refine h _ (xs ++ [(k, key, v)]) ⟨_, _, ep + 1, Heap.get?_update_self _ ho (Obj.isFreed_of_dict (Obj.data_mapDictKeys hd _)), hc.mapDictKeys _, Obj.data_mapDictKeys hd _, ?_, fun x hin => ?_, ?_⟩ sb (.inl ⟨hr, rfl⟩)
    · rw [Array.toList_push, he, List.map_append]; rfl
    · rcases List.mem_append.mp hin with g | g
      · exact ⟨mix_stays (f := id) (o' := o) ho hd sb (hx x g).1, (hx x g).2⟩
      · cases List.mem_singleton.mp g
        exact ⟨mix_stays (f := id) (o' := o) ho hd sb hk, dk⟩
    · rw [List.map_append, List.nodup_append]
      refine ⟨hn, by simp, fun a ha b hb e => ?_⟩
      cases List.mem_singleton.mp hb
      subst e
      exact hr ha
  | some j =>
    obtain ⟨kv, old, ej⟩ := hr
    refine wpAny_bind (wpAny_rule (wpAny_bind (wpAny_updateDict (s := { s with toks := s.toks + k.draws }) ho hd (wpAny_point ?_))))
    have sb : Heap.SameBut d s.heap (s.heap.update d (Obj.mapDict (·.modify j fun e => { e with val := v }))) := Heap.SameBut.update ..
    have ek : (xs.set j (k, kv, v)).map (·.1) = xs.map (·.1) := by
      rw [List.map_set]
      refine List.ext_getElem? fun i => ?_
      rw [List.getElem?_set]
      split
      · rename_i q; subst q
        rw [List.getElem?_map, ej, List.length_map]
        rw [if_pos (List.getElem?_eq_some_iff.mp ej).1]; rfl
      · rfl
    refine h _ (xs.set j (k, kv, v)) ⟨_, _, ep, Heap.get?_update_self _ ho (Obj.isFreed_of_dict (Obj.data_mapDict hd _)), hc.mapDict _, Obj.data_mapDict hd _, ?_, fun x hin => ?_, ek ▸ hn⟩ sb (.inr ⟨j, kv, old, ej, rfl⟩)
    · rw [Array.toList_modify, he]
      refine List.ext_getElem? fun i => ?_
      rw [List.getElem?_modify, List.map_set, List.getElem?_set, List.getElem?_map]
      by_cases q : j = i
      · subst q
        rw [if_pos rfl, ej, List.length_map, if_pos (List.getElem?_eq_some_iff.mp ej).1]
        simp [entM]
      · rw [if_neg q]
        simp [q]
    · rcases List.mem_or_eq_of_mem_set hin with g | g
      · exact ⟨mix_stays (f := id) (o' := o) ho hd sb (hx x g).1, (hx x g).2⟩
      · subst g
        obtain ⟨a, b⟩ := hx _ (List.mem_of_getElem? ej)
        exact ⟨mix_stays (f := id) (o' := o) ho hd sb a, b⟩
end
end Lw

set_option Elab.async false
set_option linter.all false
set_option maxRecDepth 100000
set_option maxHeartbeats 4000000
namespace Lw
open PySem
open PySem.Sem (wp)
section
variable {prog : Program} {w : World} {A : Around} {E : Value → Shared → Prop} {s : Shared} {d : Addr} {xs : List Ent} {k : NestedKey} {key : Value}
theorem MixD.typeIs (x : MixD w s.heap d xs) : s.TypeIs (.ref d) "dict" := let ⟨o, _, _, ho, hc, _⟩ := x; ⟨o, ho, hc.1⟩
theorem there_of {r : Option Nat} (hin : k ∈ xs.map (·.1)) (h : FoundAt xs k r) : ∃ j kv v, r = some j ∧ xs[j]? = some (k, kv, v) := by
  cases r with
  | none => exact absurd hin h
  | some j => obtain ⟨kv, v, e⟩ := h; exact ⟨j, kv, v, rfl, e⟩
theorem getitem_mix (hu : A.units + 9 < cLine) (hk : NestedIs s.heap k key) (dk : k.depth ≤ 8) (hm : MixD w s.heap d xs) (hin : k ∈ xs.map (·.1)) {Q : Value → Shared → Prop}
    (h : ∀ (j : Nat) (kv v : Value), xs[j]? = some (k, kv, v) → Q v { s with toks := s.toks + k.draws }) : wpAny (model prog w) A (getItem (.ref d) key) Q E s := by
  obtain ⟨o, es, ep, ho, hc, hd, he, hx, hn⟩ := id hm
  unfold getItem
  (try with_reducible refine wpAny_holding ?_)
  refine wpAny_bind (wpAny_sequenceKey hm.typeIs (by decide) (wpAny_bind (wpAny_callSpecial?_slot (name := Str.ofString "__getitem__") hm.typeIs slot_dict_getitem (wpAny_call_entry slot_dict_getitem hm.typeIs entry_dict_getitem ?_ (args_dict_getitem _ _)))))
  show wpAny _ _ (dictGet d key >>= _) _ _ s
  refine wpAny_bind ?_
  unfold dictGet
  (try with_reducible refine wpAny_holding ?_)
  refine wpAny_bind (pyHash_key k key A.in1 _ _ hk (by rw [Around.in1_units]; omega) (wpAny_bind (found_mix (s := { s with toks := s.toks + k.draws }) (by rw [Around.in1_units]; omega) hk dk ho hd he hx hn fun r hr => ?_)))
  obtain ⟨j, kv, v, rfl, ej⟩ := there_of hin hr
  refine wpAny_bind (wpAny_dictEntries (s := { s with toks := s.toks + k.draws }) ho hd ?_)
  rw [ent_at he, ej]
  exact wpAny_pure (wpAny_pure ⟨v, rfl, wpAny_pure (h j kv v ej)⟩)
theorem setitem_mix (hu : A.units + 9 < cLine) (hk : NestedIs s.heap k key) (dk : k.depth ≤ 8) (hm : MixD w s.heap d xs) (hz : xs.length ≤ sizeLine) {v : Value} {Q : Unit → Shared → Prop}
    (h : ∀ h' ys, MixD w h' d ys → Heap.SameBut d s.heap h' → SetTo xs k key v ys → Q () { s with heap := h', toks := s.toks + k.draws }) : wpAny (model prog w) A (setItem (.ref d) key v) Q E s := by
  unfold setItem
  (try with_reducible refine wpAny_holding ?_)
  refine wpAny_bind (wpAny_sequenceKey hm.typeIs (by decide) (wpAny_bind (wpAny_callSpecial?_slot (name := Str.ofString "__setitem__") hm.typeIs slot_dict_setitem (wpAny_call_entry slot_dict_setitem hm.typeIs entry_dict_setitem ?_ (args_dict_setitem _ _ _)))))
  show wpAny _ _ (Builtin.Dict.notOrdered "__setitem__" ⟨[.ref d, key, v], []⟩ >>= _) _ _ s
  refine wpAny_bind (wpAny_notOrdered_dict hm.typeIs ?_)
  show wpAny _ _ (dictSet d key v >>= _) _ _ s
  exact wpAny_bind (set_mix (by rw [Around.in1_units]; omega) hk dk hm hz fun h' ys m sb st => wpAny_pure ⟨.none, rfl, wpAny_pure (h h' ys m sb st)⟩)
theorem take_mix (hu : A.units + 8 < cLine) (hk : NestedIs s.heap k key) (dk : k.depth ≤ 8) (hm : MixD w s.heap d xs) (hz : xs.length ≤ sizeLine) (hin : k ∈ xs.map (·.1)) {Q : Option DictEntry → Shared → Prop}
    (h : ∀ h' (j : Nat) (kv v : Value), xs[j]? = some (k, kv, v) → MixD w h' d (xs.eraseIdx j) → Heap.SameBut d s.heap h' → Q (some (entM w (k, kv, v))) { s with heap := h', toks := s.toks + k.draws }) : wpAny (model prog w) A (Builtin.Dict.takeOut d key) Q E s := by
  obtain ⟨o, es, ep, ho, hc, hd, he, hx, hn⟩ := id hm
  unfold Builtin.Dict.takeOut
  (try with_reducible refine wpAny_holding ?_)
  refine wpAny_bind (pyHash_key k key A _ _ hk (by omega) (wpAny_bind (found_mix (s := { s with toks := s.toks + k.draws }) hu hk dk ho hd he hx hn fun r hr => ?_)))
  obtain ⟨j, kv, v, rfl, ej⟩ := there_of hin hr
  refine wpAny_bind (wpAny_dictEntries (s := { s with toks := s.toks + k.draws }) ho hd ?_)
  rw [ent_at he, ej]
  have sb : Heap.SameBut d s.heap (s.heap.update d (Obj.mapDictKeys (·.eraseIdxIfInBounds j))) := Heap.SameBut.update ..
  refine wpAny_bind (wpAny_updateDictKeys (hz := by have := ent_size he; omega) (s := { s with toks := s.toks + k.draws }) ho hd (wpAny_pure (h _ j kv v ej ⟨_, _, ep + 1, Heap.get?_update_self _ ho (Obj.isFreed_of_dict (Obj.data_mapDictKeys hd _)), hc.mapDictKeys _, Obj.data_mapDictKeys hd _, ?_, fun x hin => ?_, ?_⟩ sb)))
  · obtain ⟨l⟩ := es
    have he : l = xs.map (entM w) := he
    subst he
    rw [List.eraseIdxIfInBounds_toArray, map_eraseIdx]
  · have g := List.mem_of_mem_eraseIdx hin
    exact ⟨mix_stays (f := id) (o' := o) ho hd sb (hx x g).1, (hx x g).2⟩
  · rw [map_eraseIdx]
    exact List.Nodup.eraseIdx _ hn
end
end Lw

set_option Elab.async false
set_option linter.all false
set_option maxRecDepth 100000
set_option maxHeartbeats 4000000
namespace Lw
open PySem
open PySem.Sem (wp)
def lf : NestedKey → Leaf
  | .none => .none
  | .num i => .num i
  | .text z => .text z
  | .tup _ => .none
theorem lf_key {h : Heap} {k : NestedKey} {u : Value} (x : NestedIs h k u) (b : carriedByValue u = true) : (lf k).key = k ∧ Leaf.isOf (lf k) u = true := by
  cases x with
  | none => exact ⟨rfl, rfl⟩
  | bool e => exact ⟨rfl, decide_eq_true e.symm⟩
  | int i t => exact ⟨rfl, decide_eq_true rfl⟩
  | text z t => exact ⟨rfl, by show Value.isStrOf z (.str z t) = true; simp [Value.isStrOf]⟩
  | tup p q r t => exact absurd (show false = true from b) (by decide)
theorem is_leaf {h : Heap} {l : Leaf} {u : Value} (x : Leaf.isOf l u = true) : NestedIs h l.key u ∧ l.key.depth ≤ 8 := ⟨Leaf.nested x, by cases l <;> exact Nat.zero_le _⟩
section
variable {prog : Program} {w : World} {A : Around} {E : Value → Shared → Prop} {s : Shared} {d o : Addr} {xs : List Ent} {h : Heap}
theorem leaf_nodup {xs : List Ent} (hx : ∀ x ∈ xs, (lf x.1).key = x.1) (hn : (xs.map (·.1)).Nodup) : (xs.map fun x => lf x.1).Nodup := by
  have e : xs.map (·.1) = (xs.map fun x => lf x.1).map Leaf.key := by
    rw [List.map_map]
    exact List.map_congr_left fun x m => (hx x m).symm
  rw [e] at hn
  exact List.Pairwise.of_map Leaf.key (fun a b n q => n (by rw [q])) hn
/-- all keys carried by value: the library's dict of leaves -/
theorem MixD.leaves (x : MixD w h d xs) (hv : ∀ x ∈ xs, carriedByValue x.2.1 = true) : h.DictOf (leafKind prog w) d (xs.map fun x => (lf x.1, x.2.2)) := by
  obtain ⟨o, es, ep, ho, hc, hd, he, hx, hn⟩ := x
  refine ⟨o, es, ep, ho, hc, hd, fun e hm => ?_, ?_, ?_⟩
  · rw [← Array.mem_toList_iff, he] at hm
    obtain ⟨x, hxm, rfl⟩ := List.mem_map.mp hm
    obtain ⟨a, b⟩ := lf_key (hx x hxm).1 (hv x hxm)
    exact ⟨lf x.1, b, by show x.1.hash w = (lf x.1).key.hash w; rw [a]⟩
  · rw [he]
    clear he hn
    induction xs with
    | nil => exact .nil
    | cons x r ih => exact .cons (lf_key (hx x List.mem_cons_self).1 (hv x List.mem_cons_self)).2 rfl (ih (fun y m => hv y (List.mem_cons_of_mem _ m)) (fun y m => hx y (List.mem_cons_of_mem _ m)))
  · rw [List.map_map]
    exact leaf_nodup (fun x m => (lf_key (hx x m).1 (hv x m)).1) hn
/-- and back: the keys are some values that are these keys -/
theorem mix_of {kvs : List (Leaf × Value)} (x : h.DictOf (leafKind prog w) d kvs) : ∃ xs, MixD w h d xs ∧ xs.map (fun x => (x.1, x.2.2)) = kvs.map (fun p => (p.1.key, p.2)) ∧ ∀ x ∈ xs, carriedByValue x.2.1 = true := by
  obtain ⟨o, es, ep, ho, hc, hd, hk, hp, hn⟩ := x
  have go : ∀ {l : List DictEntry} {kvs : List (Leaf × Value)}, (∀ e ∈ l, ∃ k, (leafKind prog w).is k e.key = true ∧ e.hash = (leafKind prog w).hash k) → PySem.Pairs (leafKind prog w) l kvs →
      ∃ xs : List Ent, l = xs.map (entM w) ∧ (∀ x ∈ xs, (NestedIs h x.1 x.2.1 ∧ x.1.depth ≤ 8) ∧ carriedByValue x.2.1 = true) ∧ xs.map (fun x => (x.1, x.2.2)) = kvs.map (fun p => (p.1.key, p.2)) := by
    intro l kvs hk hp
    induction hp with
    | nil => exact ⟨[], rfl, fun x m => absurd m List.not_mem_nil, rfl⟩
    | @cons e kv l kvs a b _ ih =>
      obtain ⟨xs, e1, e2, e3⟩ := ih fun e m => hk e (List.mem_cons_of_mem _ m)
      obtain ⟨k, k1, k2⟩ := hk e List.mem_cons_self
      have ek := (leafKind prog w).inj _ _ _ k1 a
      subst ek
      refine ⟨(kv.1.key, e.key, e.val) :: xs, ?_, fun x m => ?_, ?_⟩
      · rw [List.map_cons, ← e1]
        obtain ⟨eh, ek, ev⟩ := e
        exact congrArg (· :: l) (by show DictEntry.mk eh ek ev = ⟨kv.1.key.hash w, ek, ev⟩; rw [show eh = kv.1.key.hash w from k2])
      · rcases List.mem_cons.mp m with g | g
        · subst g
          exact ⟨is_leaf a, Leaf.byValue a⟩
        · exact e2 x g
      · rw [List.map_cons, List.map_cons, e3, b]
  obtain ⟨xs, e1, e2, e3⟩ := go (fun e m => hk e (Array.mem_toList_iff.mp m)) hp
  refine ⟨xs, ⟨o, es, ep, ho, hc, hd, e1, fun x m => (e2 x m).1, ?_⟩, e3, fun x m => (e2 x m).2⟩
  have e : xs.map (·.1) = (kvs.map (·.1)).map Leaf.key := by
    have := congrArg (List.map Prod.fst) e3
    rw [List.map_map, List.map_map] at this
    rw [List.map_map]
    exact this
  rw [e]
  exact List.Pairwise.map _ (fun a b n q => n (Leaf.key_inj q)) hn
/-- keys that may be copied: carried by value, or a tuple that no other key hashes like -/
def Apart (w : World) (s : Shared) (xs : List Ent) : Prop := ∀ x ∈ xs, carriedByValue x.2.1 = true ∨ ∃ a, x.2.1 = .ref a ∧ s.TypeIs (.ref a) "tuple" ∧ (xs.filter fun y => y.1.hash w == x.1.hash w).length ≤ 1
theorem apart_key {es : Array DictEntry} (he : es.toList = xs.map (entM w)) (ap : Apart w s xs) : ∀ e ∈ es.toList, KeyApart s es e := by
  intro e m
  have m' := m
  rw [he] at m'
  obtain ⟨x, hx, rfl⟩ := List.mem_map.mp m'
  rcases ap x hx with g | ⟨a, g1, g2, g3⟩
  · exact .inl g
  · refine .inr ⟨a, g1, g2, ?_⟩
    have e1 : (es.filter (·.hash == (entM w x).hash)).toList = (xs.filter fun y => y.1.hash w == x.1.hash w).map (entM w) := by
      rw [Array.toList_filter, he, List.filter_map]
      rfl
    have e2 := congrArg List.length e1
    rw [Array.length_toList, List.length_map] at e2
    omega
theorem merge_mix {nm : String} (hdo : d ≠ o) (hoS : (o == sysModules) = false) (hd : MixD w s.heap d []) (ho : MixD w s.heap o xs) (ap : Apart w s xs) (hz : xs.length ≤ sizeLine) {Q : Unit → Shared → Prop}
    (hQ : ∀ h' ys, MixD w h' d ys → ys.map (fun x => (x.1, x.2.2)) = xs.map (fun x => (x.1, x.2.2)) → (ys = xs ∨ ∀ y ∈ ys, carriedByValue y.2.1 = true) → Heap.SameBut d s.heap h' → Q () { s with heap := h' }) : wpAny (model prog w) A (Builtin.Dict.mergeDict nm d o) Q E s := by
  by_cases hv : ∀ x ∈ xs, carriedByValue x.2.1 = true
  · refine wpAny_mergeDict (knd := leafKind prog w) (kvs := []) hdo hoS (hd.leaves fun x m => absurd m List.not_mem_nil) (ho.leaves hv) (fun h' a b sb => ?_) (by rw [List.length_map]; simpa using hz)
    rw [merged_nil_of_nodup _ (let ⟨_, _, _, _, _, _, _, _, n⟩ := b; n)] at a
    obtain ⟨ys, m1, m2, m3⟩ := mix_of a
    refine hQ h' ys m1 ?_ (.inr m3) sb
    rw [m2, List.map_map]
    obtain ⟨_, _, _, _, _, _, _, hx, _⟩ := ho
    exact List.map_congr_left fun x m => Prod.ext (lf_key (hx x m).1 (hv x m)).1 rfl
  · obtain ⟨od, esd, epd, hod, hcd, hdd, hed, hxd, hnd⟩ := id hd
    obtain ⟨oo, eso, epo, hoo, hco, hdo', heo, hxo, hno⟩ := id ho
    have few : ¬ ((decide (eso.size ≤ 8) && eso.all fun e => (keyPart e.key).isSome) = true) := by
      intro q
      rw [Bool.and_eq_true] at q
      refine hv fun x m => ?_
      have q2 := q.2
      rw [← Array.all_toList, List.all_eq_true, heo] at q2
      have := q2 _ (List.mem_map_of_mem m)
      cases hk : x.2.1 with
      | ref a => rw [show (entM w x).key = x.2.1 from rfl, hk] at this; exact absurd (show false = true from this) (by decide)
      | _ => rfl
    unfold Builtin.Dict.mergeDict
    rw [if_neg (by simpa using hdo)]
    unfold Builtin.Dict.showsAll
    rw [if_neg (by rw [hoS]; exact Bool.false_ne_true)]
    refine wpAny_bind (wpAny_pure (wpAny_bind (wpAny_dictEntries hoo hdo' ?_)))
    dsimp only
    rw [if_pos (by rw [Bool.not_eq_true] at few; rw [few]; rfl)]
    refine wpAny_bind (wpAny_dictEntries hod hdd ?_)
    have e0 : esd = #[] := Array.toList_inj.mp hed
    rw [if_pos (by rw [e0]; rfl)]
    refine wpAny_bind (wpAny_entriesForEmpty_raw hoo hdo' (apart_key heo ap) ?_)
    have ne : eso.isEmpty = false := by
      cases q : eso.isEmpty with
      | false => rfl
      | true =>
        exfalso
        rw [Array.isEmpty_iff.mp q] at heo
        cases xs with
        | nil => exact hv fun x m => absurd m List.not_mem_nil
        | cons _ _ => exact nomatch heo
    rw [ne, if_pos (by rfl)]
    have sb : Heap.SameBut d s.heap (s.heap.update d (Obj.mapDictKeys fun _ => eso)) := Heap.SameBut.update ..
    refine wpAny_bind (wpAny_updateDictKeysTo hod hdd (wpAny_pure (hQ _ xs ⟨_, _, epd + 1, Heap.get?_update_self _ hod (Obj.isFreed_of_dict (Obj.data_mapDictKeys hdd _)), hcd.mapDictKeys _, Obj.data_mapDictKeys hdd _, heo, fun x m => ⟨mix_stays (f := id) (o' := od) hod hdd sb (hxo x m).1, (hxo x m).2⟩, hno⟩ rfl (.inl rfl) sb)) (by rw [ent_size heo]; omega))
end
end Lw

set_option Elab.async false
set_option linter.all false
set_option maxRecDepth 100000
set_option maxHeartbeats 4000000
namespace Lw
open PySem
open PySem.Sem (wp)
section
variable {prog : Program} {w : World} {A : Around} {E : Value → Shared → Prop} {s : Shared} {d o : Addr} {xs : List Ent} {h : Heap}
theorem MixD.lt (x : MixD w h d xs) : d < h.objs.size := let ⟨_, _, _, e, _⟩ := x; Heap.lt_size e
theorem MixD.kept {h' : Heap} (x : MixD w h d xs) (k : ∀ b o, h.get? b = some o → h'.get? b = some o) : MixD w h' d xs := by
  obtain ⟨o, es, ep, ho, hc, hd, he, hx, hn⟩ := x
  exact ⟨o, es, ep, k _ _ ho, hc, hd, he, fun x m => ⟨NestedIs.at (fun b ob _ _ e _ => k b ob e) _ _ (hx x m).1, (hx x m).2⟩, hn⟩
theorem MixD.new (h : Heap) : MixD w (h.push { cls := .type "dict", data := .dict #[] }) h.objs.size [] := ⟨_, #[], _, Heap.get?_push_size _ rfl, ⟨rfl, rfl, rfl⟩, rfl, rfl, fun x m => absurd m List.not_mem_nil, List.nodup_nil⟩
theorem call_dict_mix (hoS : (o == sysModules) = false) (ho : MixD w s.heap o xs) (ap : Apart w s xs) (hz : xs.length ≤ sizeLine) {Q : Value → Shared → Prop}
    (hQ : ∀ h' ys, MixD w h' s.heap.objs.size ys → ys.map (fun x => (x.1, x.2.2)) = xs.map (fun x => (x.1, x.2.2)) → (ys = xs ∨ ∀ y ∈ ys, carriedByValue y.2.1 = true) → (∀ b q, s.heap.get? b = some q → h'.get? b = some q) → Q (.ref s.heap.objs.size) { s with heap := h' }) :
    wpAny (model prog w) A (call (.type "dict") [.ref o]) Q E s := by
  refine callType_codes (Q₁ := fun p z => p = .ref s.heap.objs.size ∧ z = { s with heap := s.heap.push { cls := .type "dict", data := .dict #[] } }) F.kt_called_dict (F.kt_typeCall_dict_1 _) F.entry_dict_init (kt_code_dict_new _ ⟨rfl, rfl⟩) ?_
  rintro p z ⟨rfl, rfl⟩
  have nw : MixD w (s.heap.push { cls := .type "dict", data := .dict #[] }) s.heap.objs.size [] := .new s.heap
  have kp : ∀ b q, s.heap.get? b = some q → (s.heap.push { cls := .type "dict", data := .dict #[] }).get? b = some q := fun b q e => Heap.get?_push_of_some _ e
  have o1 : MixD w (s.heap.push { cls := .type "dict", data := .dict #[] }) o xs := ho.kept kp
  have ne : s.heap.objs.size ≠ o := Nat.ne_of_gt ho.lt
  refine ⟨nw.typeIs, F.args_dict_init_2 _ _, ?_⟩
  (unfold Builtin.«dict.__init__»); refine wpAny_bind ?_
  (unfold Builtin.Dict.selfAndRest); refine wpAny_bind (wpAny_notOrdered_dict nw.typeIs ?_)
  show wpAny _ _ (pure (s.heap.objs.size, [Value.ref o])) _ _ _
  refine wpAny_pure ?_
  show wpAny _ _ (Builtin.Dict.updateFrom "dict.__init__" s.heap.objs.size (.ref o) [] .none) _ _ _
  (unfold Builtin.Dict.updateFrom); refine wpAny_bind (wpAny_typeOf o1.typeIs ?_)
  rw [if_neg (by decide)]
  refine wpAny_bind ?_
  (unfold Builtin.Dict.merge); refine wpAny_bind ?_
  (unfold Builtin.Dict.readDirectly); refine wpAny_bind (wpAny_isInstance o1.typeIs isSubtype_dict_dict ?_)
  rw [Bool.not_true, if_neg Bool.false_ne_true]
  refine wpAny_bind (wpAny_specialOf o1.typeIs F.slot_dict_iter.lookup (wpAny_pure ?_))
  rw [beq_self_eq_true, if_pos rfl]
  refine wpAny_bind (wpAny_pure (merge_mix (s := { s with heap := s.heap.push { cls := .type "dict", data := .dict #[] } }) ne hoS nw o1 ?_ hz fun h' ys m1 m2 m3 sb => ?_))
  · intro x m
    rcases ap x m with g | ⟨a, g1, g2, g3⟩
    · exact .inl g
    · obtain ⟨oa, e1, e2⟩ := g2
      exact .inr ⟨a, g1, ⟨oa, kp _ _ e1, e2⟩, g3⟩
  · show wpAny _ _ (Builtin.Dict.addKeywords _ [] >>= _) _ _ _
    refine wpAny_bind (wpAny_pure (wpAny_pure ?_))
    exact ⟨rfl, hQ h' ys m1 m2 m3 fun b q e => (sb.2 b (Nat.ne_of_lt (Heap.lt_size e))).trans (kp _ _ e)⟩
/-- d.pop(k), there -/
theorem pop_mix {k : NestedKey} {key : Value} (hd : (d == sysModules) = false) (hu : A.units + 9 < cLine) (hk : NestedIs s.heap k key) (dk : k.depth ≤ 8) (hm : MixD w s.heap d xs) (hz : xs.length ≤ sizeLine) (hin : k ∈ xs.map (·.1)) {Q : Value → Shared → Prop}
    (h : ∀ h' (j : Nat) (kv v : Value), xs[j]? = some (k, kv, v) → MixD w h' d (xs.eraseIdx j) → Heap.SameBut d s.heap h' → Q v { s with heap := h', toks := s.toks + k.draws }) : wpAny (model prog w) A (call (.builtin "dict.pop") [.ref d, key]) Q E s := by
  refine call_meetsIn F.slot_dict_pop hm.typeIs F.entry_dict_pop (F.args_dict_pop_2 _ _) (S := fun A' R z => A' = A ∧ z = s ∧ ∀ h' (j : Nat) (kv v : Value), xs[j]? = some (k, kv, v) → MixD w h' d (xs.eraseIdx j) → Heap.SameBut d s.heap h' → R (.ok (.ret v)) { s with heap := h', toks := s.toks + k.draws }) (.of_wp fun A' R z hS => ?_) ⟨rfl, rfl, h⟩
  obtain ⟨rfl, rfl, hR⟩ := hS
  obtain ⟨ob, es, ep, ho, hc, hdat, he, hx, hn⟩ := id hm
  (unfold Builtin.«dict.pop»); refine wpAny_bind ?_
  (unfold Builtin.Dict.keyAndDefault); refine wpAny_bind (wpAny_notOrdered_dict hm.typeIs ?_)
  show wpAny _ _ (pure (d, key, none)) _ _ _
  refine wpAny_pure ?_
  have ne : es.isEmpty = false := by
    cases q : es.isEmpty with
    | false => rfl
    | true =>
      exfalso
      rw [Array.isEmpty_iff.mp q] at he
      cases xs with
      | nil => exact absurd hin List.not_mem_nil
      | cons _ _ => exact nomatch he
  have fin : wpAny (model prog w) A'.in1 (Builtin.Dict.takeOut d key) (fun r z' => ∃ h' j kv v, r = some (entM w (k, kv, v)) ∧ xs[j]? = some (k, kv, v) ∧ MixD w h' d (xs.eraseIdx j) ∧ Heap.SameBut d z.heap h' ∧ z' = { z with heap := h', toks := z.toks + k.draws }) (fun e s' => R (.error e) s') z :=
    take_mix (by rw [Around.in1_units]; omega) hk dk hm hz hin fun h' j kv v e1 e2 e3 => ⟨h', j, kv, v, rfl, e1, e2, e3, rfl⟩
  dsimp only
  refine wpAny_ite_split (fun _ => wpAny_bind (wpAny_pure ?_)) (fun _ => wpAny_bind (wpAny_dictEntries ho hdat (wpAny_bind (wpAny_pure ?_))))
  · rw [if_neg Bool.false_ne_true]
    refine wpAny_bind (wpAny_mono fin (fun r z' hr => ?_) fun _ _ e => e)
    obtain ⟨h', j, kv, v, rfl, e1, e2, e3, rfl⟩ := hr
    rw [if_neg (by simp)]
    exact wpAny_bind (wpAny_letGo (wpAny_pure ⟨v, rfl, hR h' j kv v e1 e2 e3⟩))
  · rw [ne, if_neg Bool.false_ne_true]
    refine wpAny_bind (wpAny_mono fin (fun r z' hr => ?_) fun _ _ e => e)
    obtain ⟨h', j, kv, v, rfl, e1, e2, e3, rfl⟩ := hr
    rw [if_neg (by simp)]
    exact wpAny_bind (wpAny_letGo (wpAny_pure ⟨v, rfl, hR h' j kv v e1 e2 e3⟩))
end
end Lw

set_option Elab.async false
set_option linter.all false
set_option maxRecDepth 100000
set_option maxHeartbeats 4000000
/-! dicts of mixed keys within the heap of a proof -/
namespace Lw
open PySem PySem.Spec PyProof.Rows L2
/-- a key as it is written -/
inductive MK where
  | non
  | bl (b : Bool)
  | int (i : Int)
  | str (z : Str)
  | unit (a : Addr)
def MK.v : MK → V
  | .non => .non
  | .bl b => .bl b
  | .int i => .int i
  | .str z => .str z
  | .unit a => .ref a
def MK.nk : MK → NestedKey
  | .non => .none
  | .bl b => .num (if b = true then 1 else 0)
  | .int i => .num i
  | .str z => .text z
  | .unit _ => .tup []
def MK.byV : MK → Bool
  | .unit _ => false
  | _ => true
/-- where a key is (), it stands there -/
def KOk (H : Hp) (k : MK) : Prop := ∀ e, k = .unit e → H e = some (.tup [])
abbrev Mkv := MK × V
def UOk (H : Hp) (kvs : List Mkv) : Prop := ∀ p ∈ kvs, KOk H p.1
def MRel (p : Mkv) (x : Ent) : Prop := x.1 = p.1.nk ∧ RelV p.1.v x.2.1 ∧ RelV p.2 x.2.2
def MEnt (w : World) (p : Mkv) (e : DictEntry) : Prop := e.hash = p.1.nk.hash w ∧ RelV p.1.v e.key ∧ RelV p.2 e.val
def DObj (w : World) (a : Addr) (kvs : List Mkv) (h : Heap) : Prop :=
  kvs.length ≤ sizeLine ∧ (a == sysModules) = false ∧ (kvs.map fun p => p.1.nk).Nodup ∧ ∃ o es ep, h.get? a = some o ∧ o.ExactDict ∧ o.data = .dict es ep ∧ Paired (MEnt w) kvs es.toList
def MixO (w : World) (a : Addr) (kvs : List Mkv) : HO := .ext (DObj w a kvs)
theorem nk_depth (k : MK) : k.nk.depth ≤ 8 := by cases k <;> first | exact Nat.zero_le _ | exact (by decide : (NestedKey.tup []).depth ≤ 8)
theorem nk_is {P : Program} {w : World} {H : Hp} {h : Heap} {k : MK} {u : Value} (ok : HOk P w H h) (ko : KOk H k) (r : RelV k.v u) : NestedIs h k.nk u := by
  cases k with
  | non => cases (show u = Value.none from r); exact .none
  | bl b => cases (show u = Value.bool b from r); exact .bool rfl
  | int i => obtain ⟨t, rfl⟩ := (show ∃ t, u = Value.int i t from r); exact .int i t
  | str z => obtain ⟨t, rfl⟩ := (show ∃ t, u = Value.str z t from r); exact .text z t
  | unit a =>
    cases (show u = Value.ref a from r)
    obtain ⟨_, its, rv, o, h1, h2, n, h3⟩ := (show ObjOk P w H h a (.tup []) from ok a _ (ko a rfl))
    cases rv
    exact .tup h1 h2 h3 .nil
theorem byV_is {k : MK} {u : Value} (r : RelV k.v u) : carriedByValue u = k.byV := by
  cases k with
  | non => cases (show u = Value.none from r); rfl
  | bl b => cases (show u = Value.bool b from r); rfl
  | int i => obtain ⟨t, rfl⟩ := (show ∃ t, u = Value.int i t from r); rfl
  | str z => obtain ⟨t, rfl⟩ := (show ∃ t, u = Value.str z t from r); rfl
  | unit a => cases (show u = Value.ref a from r); rfl
theorem paired_nk {kvs : List Mkv} {xs : List Ent} (p : Paired MRel kvs xs) : xs.map (·.1) = kvs.map fun p => p.1.nk := by
  induction p with
  | nil => rfl
  | cons a _ ih => rw [List.map_cons, List.map_cons, ih, a.1]
theorem paired_at {α β : Type} {F : α → β → Prop} {as : List α} {bs : List β} (p : Paired F as bs) : ∀ {i : Nat} {b : β}, bs[i]? = some b → ∃ a, as[i]? = some a ∧ F a b := by
  induction p with
  | nil => intro i b e; simp at e
  | cons r _ ih =>
    intro i b e
    cases i with
    | zero => cases e; exact ⟨_, rfl, r⟩
    | succ i => exact ih e
theorem paired_mem {α β : Type} {F : α → β → Prop} {as : List α} {bs : List β} (p : Paired F as bs) {b : β} (m : b ∈ bs) : ∃ a ∈ as, F a b := by
  obtain ⟨i, li, ei⟩ := List.getElem_of_mem m
  obtain ⟨a, ea, r⟩ := paired_at p (i := i) (b := b) (by rw [List.getElem?_eq_getElem li, ei])
  exact ⟨a, List.mem_of_getElem? ea, r⟩
theorem paired_len {α β : Type} {F : α → β → Prop} {as : List α} {bs : List β} (p : Paired F as bs) : as.length = bs.length := Paired.length p
theorem paired_erase {α β : Type} {F : α → β → Prop} {as : List α} {bs : List β} (p : Paired F as bs) : ∀ j, Paired F (as.eraseIdx j) (bs.eraseIdx j) := by
  induction p with
  | nil => intro j; exact .nil
  | cons r t ih =>
    intro j
    cases j with
    | zero => exact t
    | succ j => exact .cons r (ih j)
theorem paired_set {α β : Type} {F : α → β → Prop} {as : List α} {bs : List β} (p : Paired F as bs) {a : α} {b : β} (r : F a b) : ∀ j, Paired F (as.set j a) (bs.set j b) := by
  induction p with
  | nil => intro j; exact .nil
  | cons q t ih =>
    intro j
    cases j with
    | zero => exact .cons r t
    | succ j => exact .cons q (ih j)
theorem paired_snoc {α β : Type} {F : α → β → Prop} {as : List α} {bs : List β} (p : Paired F as bs) {a : α} {b : β} (r : F a b) : Paired F (as ++ [a]) (bs ++ [b]) := by
  induction p with
  | nil => exact .cons r .nil
  | cons q t ih => exact .cons q ih
section
variable {P : Program} {w : World} {H : Hp} {h : Heap} {a : Addr} {kvs : List Mkv}
theorem mix_open (ok : HOk P w H h) (e : H a = some (MixO w a kvs)) (u : UOk H kvs) : kvs.length ≤ sizeLine ∧ (a == sysModules) = false ∧ ∃ xs, MixD w h a xs ∧ Paired MRel kvs xs := by
  obtain ⟨⟨l, ns, nd, o, es, ep, ho, hc, hd, pr⟩, _⟩ := (show ObjOk P w H h a (MixO w a kvs) from ok a _ e)
  refine ⟨l, ns, ?_⟩
  have go : ∀ {kvs : List Mkv} {es : List DictEntry}, UOk H kvs → Paired (MEnt w) kvs es → ∃ xs : List Ent, es = xs.map (entM w) ∧ Paired MRel kvs xs ∧ ∀ x ∈ xs, NestedIs h x.1 x.2.1 ∧ x.1.depth ≤ 8 := by
    intro kvs es u pr
    induction pr with
    | nil => exact ⟨[], rfl, .nil, fun x m => absurd m List.not_mem_nil⟩
    | @cons p e ps es r _ ih =>
      obtain ⟨xs, e1, e2, e3⟩ := ih fun q m => u q (List.mem_cons_of_mem _ m)
      obtain ⟨eh, ek, ev⟩ := e
      obtain ⟨r1, r2, r3⟩ := r
      refine ⟨(p.1.nk, ek, ev) :: xs, ?_, .cons ⟨rfl, r2, r3⟩ e2, fun x m => ?_⟩
      · rw [List.map_cons, ← e1]
        exact congrArg (· :: es) (by show DictEntry.mk eh ek ev = ⟨p.1.nk.hash w, ek, ev⟩; rw [show eh = p.1.nk.hash w from r1])
      · rcases List.mem_cons.mp m with g | g
        · subst g
          exact ⟨nk_is ok (u p List.mem_cons_self) r2, nk_depth p.1⟩
        · exact e3 x g
  obtain ⟨xs, e1, e2, e3⟩ := go u pr
  exact ⟨xs, ⟨o, es, ep, ho, hc, hd, e1, e3, by rw [paired_nk e2]; exact nd⟩, e2⟩
theorem mix_close {P' : Program} {H' : Hp} {xs : List Ent} (l : kvs.length ≤ sizeLine) (ns : (a == sysModules) = false) (m : MixD w h a xs) (pr : Paired MRel kvs xs) : ObjOk P' w H' h a (MixO w a kvs) := by
  obtain ⟨o, es, ep, ho, hc, hd, he, hx, hn⟩ := m
  have pe : Paired (MEnt w) kvs es.toList := by
    rw [he]
    clear he hx hn
    induction pr with
    | nil => exact .nil
    | cons r _ ih => exact .cons ⟨by show NestedKey.hash w _ = _; rw [r.1], r.2.1, r.2.2⟩ (ih (by rw [List.length_cons] at l; omega))
  refine ⟨⟨l, ns, by rw [← paired_nk pr]; exact hn, o, es, ep, ho, hc, hd, pe⟩, ⟨o, ho⟩, fun h1 h2 p k => ?_⟩
  obtain ⟨q1, q2, q3, o2, es2, ep2, g1, g2⟩ := p
  exact ⟨q1, q2, q3, o2, es2, ep2, k _ g1, g2⟩
end
end Lw

set_option Elab.async false
set_option linter.all false
set_option maxRecDepth 100000
set_option maxHeartbeats 4000000
namespace Lw
open PySem PySem.Spec PyProof.Rows L2
section
variable {X : Cx} {pl : List (Addr × Obj)} {σ : L2.St} {H : Hp} {s : Shared} {a : Addr} {kvs : List Mkv}
/-- what is tracked may be told otherwise -/
def Ghost (X : Cx) (H H' : Hp) : Prop := ∀ (pl : List (Addr × Obj)) (σ : L2.St) (s : Shared), Inv X pl σ H s → Inv X pl σ H' s
theorem mix_write {h' : Heap} {t' : Nat} {kvs' : List Mkv} {xs' : List Ent} (J : Inv X pl σ H s) (e : H a = some (MixO X.w a kvs)) (l : kvs'.length ≤ sizeLine) (ns : (a == sysModules) = false) (m : MixD X.w h' a xs') (pr : Paired MRel kvs' xs') (sb : Heap.SameBut a s.heap h') :
    Inv X pl σ (upd H a (MixO X.w a kvs')) { s with heap := h', toks := t' } := by
  obtain ⟨o, _, _, eo, _⟩ := id m
  exact J.write (x := a) (e := a) (by rw [e]; exact True.intro) (.inl rfl) (fun b u hb hu => (sb.2 b hb).trans hu) ⟨o, eo⟩ (mix_close l ns m pr)
/-- len(d) -/
def rLenM (w : World) : List V → Hp → VK → Prop := fun vs H Q => ∃ (a : Addr) (kvs : List Mkv), vs = [.ref a] ∧ H a = some (MixO w a kvs) ∧ Q (.int kvs.length) H
theorem call_lenM : CallR X (.builtin "len") (rLenM X.w) := by
  intro pl s σ H vs us Q J r h
  obtain ⟨a, kvs, rfl, e, q⟩ := h
  rw [Vals.ref1 r]
  obtain ⟨⟨l, ns, _, o, es, ep, ho, hc, hd, pr⟩, _⟩ := (show ObjOk X.prog X.w H s.heap a (MixO X.w a kvs) from J.hok a _ e)
  have el : kvs.length = es.size := by rw [paired_len pr, Array.length_toList]
  refine PyProof.Rows.call_len_slot (n := es.size) (T := "dict") ⟨o, ho, hc.1⟩ F.slot_dict_len (fun Q' hq => PySem.call_len_raw ns ⟨o, ho, hc, hd⟩ hq) (by omega) (by rw [sizeLine_eq] at l; omega) ?_
  rw [← el]
  exact ⟨.int kvs.length, H, J.tok _, ⟨_, rfl⟩, q⟩
/-- list(d): the keys -/
def rListM (w : World) : List V → Hp → VK → Prop := fun vs H Q => ∃ (a : Addr) (kvs : List Mkv), vs = [.ref a] ∧ H a = some (MixO w a kvs) ∧ ∀ p, H p = none → Q (.ref p) (upd H p (.lst (kvs.map fun q => q.1.v)))
theorem call_listM (hc : X.calm = true) : CallR X (.type "list") (rListM X.w) := by
  intro pl s σ H vs us Q J r h
  obtain ⟨a, kvs, rfl, e, q⟩ := h
  rw [Vals.ref1 r]
  obtain ⟨⟨l, ns, _, o, es, ep, ho, hx, hd, pr⟩, _⟩ := (show ObjOk X.prog X.w H s.heap a (MixO X.w a kvs) from J.hok a _ e)
  have el : kvs.length = es.size := by rw [paired_len pr, Array.length_toList]
  refine PySem.W.kdl_call (PySem.KdlSrc.rawDict ns) (J.ok.hd hc) ⟨o, ho, hx, hd⟩ (by omega) fun h' tk out c' kp eS it => ?_
  refine ⟨.ref s.heap.objs.size, upd H s.heap.objs.size (.lst (kvs.map fun q => q.1.v)), J.laid kp (Nat.le_refl _) (show ObjOk X.prog X.w _ _ _ (.lst _) from ⟨by rw [List.length_map]; exact l, out.toList, c', ?_, by rw [Array.toArray_toList]; exact eS⟩), rfl, q _ (J.hok.fresh (Nat.le_refl _))⟩
  have lo : out.toList.length = out.size := by simp
  refine vals_of_at (by rw [List.length_map, lo, it.1, el]) fun j x u h1 h2 => ?_
  obtain ⟨lt, hv⟩ := it.2 j u (by rw [← Array.getElem?_toList]; exact h2)
  obtain ⟨p, ej, r⟩ := paired_at pr (i := j) (b := es[j]) (by rw [Array.getElem?_toList]; exact Array.getElem?_eq_getElem lt)
  rw [List.getElem?_map, ej] at h1
  cases h1
  rw [hv]
  exact r.2.1
/-- keys whose copy asks no == -/
def ApartM (w : World) (kvs : List Mkv) : Prop := ∀ p ∈ kvs, p.1.byV = true ∨ (kvs.filter fun q => q.1.nk.hash w == p.1.nk.hash w).length ≤ 1
/-- dict(d) -/
def rDictM (w : World) : List V → Hp → VK → Prop := fun vs H Q => ∃ (a : Addr) (kvs : List Mkv), vs = [.ref a] ∧ H a = some (MixO w a kvs) ∧ UOk H kvs ∧ ApartM w kvs ∧
  ∀ (p : Addr) (kvs' : List Mkv), H p = none → kvs'.map (fun q => (q.1.nk, q.2)) = kvs.map (fun q => (q.1.nk, q.2)) → (∀ q ∈ kvs', ∀ e, q.1 = .unit e → ∃ q0 ∈ kvs, q0.1 = .unit e) → Q (.ref p) (upd H p (MixO w p kvs'))
theorem mk_of {h : Heap} {x : NestedKey} {u : Value} (i : NestedIs h x u) (b : carriedByValue u = true) : ∃ k : MK, k.byV = true ∧ k.nk = x ∧ RelV k.v u := by
  cases i with
  | none => exact ⟨.non, rfl, rfl, rfl⟩
  | @bool c m e => exact ⟨.bl c, rfl, by show NestedKey.num _ = NestedKey.num m; rw [e], rfl⟩
  | int m t => exact ⟨.int m, rfl, rfl, ⟨t, rfl⟩⟩
  | text z t => exact ⟨.str z, rfl, rfl, ⟨t, rfl⟩⟩
  | tup p q r t => exact absurd (show false = true from b) (by decide)
theorem rekeyed {h : Heap} : ∀ {kvs : List Mkv} {xs ys : List Ent}, Paired MRel kvs xs → (∀ y ∈ ys, NestedIs h y.1 y.2.1) → (∀ y ∈ ys, carriedByValue y.2.1 = true) → ys.map (fun x => (x.1, x.2.2)) = xs.map (fun x => (x.1, x.2.2)) →
    ∃ kvs' : List Mkv, Paired MRel kvs' ys ∧ kvs'.map (fun q => (q.1.nk, q.2)) = kvs.map (fun q => (q.1.nk, q.2)) ∧ ∀ p ∈ kvs', p.1.byV = true
  | _, _, ys, .nil, _, _, e => by
    cases ys with
    | nil => exact ⟨[], .nil, rfl, fun p m => absurd m List.not_mem_nil⟩
    | cons _ _ => exact nomatch e
  | _, _, ys, .cons (a := p) r t, hi, hv, e => by
    cases ys with
    | nil => exact nomatch e
    | cons y ys =>
      obtain ⟨e1, e2⟩ := List.cons.inj e
      obtain ⟨ks, k1, k2, k3⟩ := rekeyed t (fun z m => hi z (List.mem_cons_of_mem _ m)) (fun z m => hv z (List.mem_cons_of_mem _ m)) e2
      obtain ⟨k, b1, b2, b3⟩ := mk_of (hi y List.mem_cons_self) (hv y List.mem_cons_self)
      injection e1 with e3 e4
      refine ⟨(k, p.2) :: ks, .cons ⟨b2.symm, b3, by rw [e4]; exact r.2.2⟩ k1, ?_, fun q m => ?_⟩
      · rw [List.map_cons, List.map_cons, k2, b2, e3, r.1]
      · rcases List.mem_cons.mp m with g | g
        · rw [g]; exact b1
        · exact k3 q g
theorem byV_uok {H : Hp} {kvs : List Mkv} (h : ∀ p ∈ kvs, p.1.byV = true) : UOk H kvs := fun p m e ee => by
  have := h p m
  rw [ee] at this
  exact absurd (show false = true from this) (by decide)
theorem call_dictM : CallR X (.type "dict") (rDictM X.w) := by
  intro pl s σ H vs us Q J r h
  obtain ⟨a, kvs, rfl, e, u, ap, q⟩ := h
  rw [Vals.ref1 r]
  obtain ⟨l, ns, xs, m, pr⟩ := mix_open J.hok e u
  have lx : xs.length ≤ sizeLine := by rw [← paired_len pr]; exact l
  obtain ⟨_, _, _, _, _, _, _, hx, _⟩ := id m
  have apx : Apart X.w s xs := by
    intro x mx
    obtain ⟨p, mp, r1, r2, r3⟩ := paired_mem pr mx
    rcases ap p mp with g | g
    · exact .inl (by rw [byV_is r2]; exact g)
    · cases hv : carriedByValue x.2.1 with
      | true => exact .inl rfl
      | false =>
        refine .inr ?_
        have hi := (hx x mx).1
        generalize ez : x.2.1 = z at hi hv
        generalize ek : x.1 = k at hi
        cases hi with
        | @tup ta to tv tn tks g1 g2 g3 g4 =>
          refine ⟨_, rfl, ⟨_, g1, g2⟩, ?_⟩
          have e1 : (xs.filter fun y => y.1.hash X.w == NestedKey.hash X.w (.tup tks)).length = (kvs.filter fun q => q.1.nk.hash X.w == p.1.nk.hash X.w).length := by
            have : ∀ {kvs : List Mkv} {xs : List Ent}, Paired MRel kvs xs → (xs.filter fun y => y.1.hash X.w == x.1.hash X.w).length = (kvs.filter fun q => q.1.nk.hash X.w == p.1.nk.hash X.w).length := by
              intro kvs xs pr
              induction pr with
              | nil => rfl
              | cons b _ ih =>
                rw [List.filter_cons, List.filter_cons, b.1, r1]
                split
                · rw [List.length_cons, List.length_cons, ← r1, ih, r1]
                · rw [← r1, ih, r1]
            rw [← ek]
            exact this pr
          rw [e1]
          exact g
        | _ => exact absurd hv (by simp [carriedByValue])
  refine call_dict_mix ns m apx lx fun h' ys my e1 e2 kp => ?_
  have nb : (s.heap.objs.size == sysModules) = false := beq_eq_false_iff_ne.mpr (Nat.ne_of_gt J.big)
  have fr := J.hok.fresh (Nat.le_refl _)
  have ly : ys.length = xs.length := by
    have := congrArg List.length e1
    rw [List.length_map, List.length_map] at this
    exact this
  obtain ⟨kvs', p1, p2, p3⟩ : ∃ kvs' : List Mkv, Paired MRel kvs' ys ∧ kvs'.map (fun q => (q.1.nk, q.2)) = kvs.map (fun q => (q.1.nk, q.2)) ∧ (∀ q ∈ kvs', ∀ e, q.1 = .unit e → ∃ q0 ∈ kvs, q0.1 = .unit e) := by
    rcases e2 with g | g
    · rw [g]; exact ⟨kvs, pr, rfl, fun q m e ee => ⟨q, m, ee⟩⟩
    · obtain ⟨_, _, _, _, _, _, _, hy, _⟩ := id my
      obtain ⟨kvs', k1, k2, k3⟩ := rekeyed pr (fun y m => (hy y m).1) g e1
      exact ⟨kvs', k1, k2, fun q m e ee => by have h := k3 q m; rw [ee] at h; exact absurd (show false = true from h) (by decide)⟩
  exact ⟨.ref s.heap.objs.size, _, J.laid kp (Nat.le_refl _) (mix_close (by rw [paired_len p1, ly]; exact lx) nb my p1), rfl, q _ kvs' fr p2 p3⟩
end
end Lw

set_option Elab.async false
set_option linter.all false
set_option maxRecDepth 100000
/-! a def's promise where nothing is being shown (no guard of repr stands around): for laws that call repr -/
namespace Lw
open PySem PySem.Spec PyProof.Rows L2
structure FnG (P : Program) (w : World) (K : PySem.W.Frag) (mg : Str → Option Value) (base : Heap) (k : Nat) (f : Addr) (fd : FuncData) (ps : List Str) (sp : Sp) : Prop where
  few : ∀ vs H Q E, sp vs H Q E → vs.length = ps.length
  go : ∀ (A : Around) (outs : List Env) (st : Shared) (H : Hp) (ar : Args) (us : List Value) (vs : List V) (Q : VK) (E : XK), Room k A → A.guards = some [] → Env0 P w K mg base A outs st H → BindsTo st fd ar (ps.zip us) → Vals vs us →
    sp vs H Q E → codeAny (model P w) A (.call (.ref f) ar) (CR CX0 outs P w H st Q E) st
theorem FnG.of {P : Program} {w : World} {K : PySem.W.Frag} {mg : Str → Option Value} {base : Heap} {k : Nat} {f : Addr} {fd : FuncData} {ps : List Str} {sp : Sp} (F : FnOk P w K mg base CX0 k f fd ps sp) : FnG P w K mg base k f fd ps sp :=
  ⟨F.len, fun A outs st H ar us vs Q E hr _ he hb hv hs => F.run A outs st H ar us vs Q E hr he hb hv hs⟩
section
variable {P : Program} {w : World} {K : PySem.W.Frag} {mg : Str → Option Value} {base : Heap}
theorem fun_okG {x qual : Str} {dst : Stmt} {f : Addr} {fd : FuncData} {N ps : List Str} {k : Nat} {sp : Sp} (F : Fun K x qual dst f fd) (S : FnScope N ps (defScope dst)) (few : ∀ vs H Q E, sp vs H Q E → vs.length = ps.length)
    (body : ∀ (cdv : Value) (A : Around) (outs : List Env) (st : Shared) (H : Hp) (vs : List V) (Q : VK) (E : XK), Room k (A.deeper (envOfC qual (defScope dst) st.heap.objs.size f cdv)) → A.guards = some [] → sp vs H Q E →
      ∃ t, PSs (cxOf CX0 P w K mg base N qual (defScope dst) f cdv A outs st H E).nox (defBody dst) t ∧ t { nx := fun _ H' => Q .non H', rt := Q } (L2.start N vs) H) : FnG P w K mg base (k + 1) f fd ps sp := by
  obtain ⟨oc, od, kV, doc, pm, an, cdv, ct, osl, rfl, lk, hcd⟩ := F.ex
  refine ⟨few, fun A outs st H ar us vs Q E room hg ev hb hv hsp => ?_⟩
  have lenV := few _ _ _ _ hsp
  have kin : K.In st.heap := ev.mod.kin.keeps fun c o e => (ev.bs c o e).1
  have nl : st.heap.NoLimit := ev.mod.nolimit.keeps fun c o e => (ev.bs c o e).1
  have kinds : ∀ y ∈ ps.zip us, (defScope dst).names.lookup y.1 = some .local ∨ ((defScope dst).names.lookup y.1 = some .cell ∧ ((cellsFrom (st.heap.objs.size + 1) (defScope dst).names []).lookup y.1).isSome = true) := by
    rintro ⟨n, v⟩ hy
    rcases S.par n (List.of_mem_zip hy).1 with z | z
    · exact .inl z
    · exact .inr ⟨z, PySem.W.cellsFrom_some _ _ _ (.inl z)⟩
  refine codeAny_call_function room.depth (kin _ _ lk) rfl S.co S.gen rfl (PySem.W.codeRec_of kin hcd) (hb _ _ _ _ ?_)
  refine wpAny_newFunctionEnv_cells S.kind kinds fun ev1 he st1 ic => ?_
  subst he
  refine ⟨nl.keeps ic.toInCall.keep, codeAny_func ?_⟩
  obtain ⟨t, ht, hq⟩ := body cdv A outs st H vs Q E (room.deeper _) hg hsp
  have I : Inv (cxOf CX0 P w K mg base N qual (defScope dst) f cdv A outs st H E) [] (L2.start N vs) H st1 := inv_start S room.hd ev lenV hv ic
  refine wpAny_mono (ht.nox.run [] st1 (L2.start N vs) H _ I hq) (fun fl st' hs => ?_) fun e st' hs => hs
  have back : ∀ {σ' : L2.St} {H' : Hp} {v : V} {u : Value}, Inv (cxOf CX0 P w K mg base N qual (defScope dst) f cdv A outs st H E) [] σ' H' st' → RelV v u → Q v H' → CE outs P w H st Q u st' := by
    intro σ' H' v u J rv q
    exact ⟨v, H', J.os, J.bare, J.base, J.hok, rv, q⟩
  cases fl with
  | ret u =>
    obtain ⟨v, σ', H', J, rv, q⟩ := hs
    exact back J rv q
  | next =>
    obtain ⟨σ', H', J, q⟩ := hs
    exact back (v := V.non) (u := Value.none) J rfl q
  | brk => exact hs.elim fun _ h => h.elim fun _ h => False.elim h.2
  | cont => exact hs.elim fun _ h => h.elim fun _ h => False.elim h.2
end
section
variable {X : Cx} {k : Nat} {f : Addr} {fd : FuncData} {ps : List Str} {sp : Sp} {E : XK} {x : Str} {p pos : Pos} {e : Expr} {es : List Expr} {t : TA}
theorem pe_callG (F : FnG X.prog X.w X.K X.mg X.base k f fd ps sp) (hr : Room k X.A) (hgd : X.A.guards = some []) (hg : Gl X x) (hm : X.mg x = some (.ref f)) (hk : PySem.W.keepIn X.K (.ref f) = true) (hb : Binds X.K fd ps []) (hx : Passes CX0 X E) (ha : PA X (e :: es) t)
    (hdb : (x == ("__debug__" : Str)) = false := by decide) (he : starEach (e :: es) X.env = (false, eval e X.env) :: starEach es X.env := by rfl) (hpl : (backTo pos (starEach es X.env)).any (·.1) = false := by rfl) :
    PE X (.Call (.Name x p) (e :: es) [] pos) (tCall sp [] E t) := by
  refine ⟨fun pins st σ H Q I h => wpAny_Call_Name_kw (ld_glob I hg hm ?_ hdb)⟩
  refine PySem.W.callWith_K (h₀ := X.base) I.ok.mod.kin hk (thn (ha.run pos pins st σ H _ I h) fun us st1 got => ?_) he hpl
  obtain ⟨vs, H1, I1, r, q⟩ := got
  refine ⟨I1.kIn, ?_⟩
  have q' : sp vs H1 Q E := by rw [List.append_nil] at q; exact q
  have le : us.length = ps.length := by rw [← r.length]; exact F.few _ _ _ _ q'
  have bi := hb st1 us I1.kIn (by rw [List.append_nil]; exact le)
  rw [List.append_nil] at bi
  refine wpAny_call (codeAny_mono (F.go X.A X.stack st1 H1 ⟨us, []⟩ us vs Q E hr hgd I1.env0 bi r q') fun res st2 hq => ?_)
  cases res with
  | error er => exact hx pins σ H1 st1 er st2 I1 hq
  | ok fl =>
    cases fl with
    | ret u => exact I1.after hq
    | next => exact hq.elim
    | brk => exact hq.elim
    | cont => exact hq.elim
end

/-! ### the law's own call -/
section
variable {P : Program} {w : World} {K : PySem.W.Frag} {mg mb : Str → Option Value} {k : Nat} {fa a : Addr} {fd : FuncData} {x : Str} {sp : Sp} {st : Shared} {vs : List Value} {ns : List Int}
/-- the script's own object -/
abbrev scriptObj (vs : List Value) : Obj := { cls := .type "list", data := .seq vs.toArray }
abbrev LawEnd (st : Shared) (r : Result) (st' : Shared) : Prop := r = .ok (.ret (.bool true)) ∧ OldK st.heap st'.heap ∧ st'.os = st.os ∧ AllBare st'.gens
theorem law_from (kin : K.In st.heap) (gns : st.heap.Ns mainGlobals mg) (bns : st.heap.Ns builtinsNs mb) (bbs : ∀ y : Str, y ≠ "__name__" → mb y = bootBuiltins y) (nl : st.heap.NoLimit) (gn : st.gens = #[])
    (so : st.heap.get? a = some (scriptObj vs)) (room : Room k callerA) (sm : ∃ mm, st.heap.Ns sysModules mm) (F : ∀ base : Heap, K.In base → base.Ns mainGlobals mg → (∃ o, base.get? sysModules = some o) → FnG P w K mg base k fa fd [x] sp) (bd : ∀ (z : Shared) (u : Value), BindsTo z fd ⟨[u], []⟩ [(x, u)])
    (G : Hp) (only : Only G) (hok : HOk P w G st.heap) (atA : ∀ c, G c ≠ none → c = a) (nk : G a ≠ none → K.lookup a = none) (hsp : sp [.ref a] G (fun v _ => v = .bl true) fun _ _ _ => False) :
    codeAny (model P w) callerA (.call (.ref fa) ⟨[.ref a], []⟩) (LawEnd st) st := by
  have hid : ∀ {c : Addr} {o : Obj}, st.heap.get? c = some o → G c = none → (hidT st.heap G).get? c = some o := fun e n => hidT_get e n
  have free : ∀ {c : Addr} {o : Obj}, st.heap.get? c = some o → (c = a → False) → G c = none := by
    intro c o _ ne
    cases q : G c with
    | none => rfl
    | some u => exact (ne (atA c (by rw [q]; exact fun z => nomatch z))).elim
  have nsk : ∀ {c : Addr} {m : Str → Option Value}, st.heap.Ns c m → (hidT st.heap G).Ns c m := by
    rintro c m ⟨o, es, ep, e, d, r⟩
    refine ⟨o, es, ep, hid e (free e fun z => ?_), d, r⟩
    rw [z, so] at e
    cases e
    have d' : Data.seq vs.toArray _ = Data.dict es ep := d
    cases d'
  have kb : K.In (hidT st.heap G) := by
    intro c o e
    refine hid (kin c o e) ?_
    cases q : G c with
    | none => rfl
    | some u =>
      have ca := atA c (by rw [q]; exact fun z => nomatch z)
      rw [ca] at q e
      rw [nk (by rw [q]; exact fun z => nomatch z)] at e
      cases e
  have md : Mod K mg (hidT st.heap G) := by
    obtain ⟨mc, h1, h2⟩ := nl
    exact ⟨kb, nsk gns, ⟨mb, nsk bns, bbs⟩, ⟨mc, nsk h1, h2⟩⟩
  have ev : Env0 P w K mg (hidT st.heap G) callerA [] st G := ⟨rfl, md, fun c o e => of_hidT e, Nat.le_of_eq (hidT_size _ _), trivial, fun c hc => (List.not_mem_nil hc).elim, hok, .of_eq gn⟩
  refine codeAny_mono ((F _ kb (nsk gns) (sm.elim fun mm h => (nsk h).elim fun o h => h.elim fun es h => h.elim fun ep h => ⟨o, h.1⟩)).go callerA [] st G ⟨[.ref a], []⟩ [.ref a] [.ref a] _ _ room rfl ev (bd st (.ref a)) (.cons rfl .nil) hsp) fun r st' h => ?_
  cases r with
  | error er => exact False.elim h
  | ok fl =>
    cases fl with
    | ret u =>
      obtain ⟨v, G', os, bare, un, hok', rv, q⟩ := h
      have q' : v = .bl true := q
      subst q'
      obtain rfl : u = Value.bool true := rv
      refine ⟨rfl, OldK.of_keep fun c o e => ?_, os, bare⟩
      cases q : G c with
      | none => exact un.keep c o e q List.not_mem_nil List.not_mem_nil
      | some u =>
        rcases only c with z | ⟨ob, xs, z⟩
        · rw [q] at z
          cases z
        · obtain ⟨e1, _⟩ := hok c _ z
          obtain ⟨e2, _⟩ := hok' c _ (un.frzs c ob _ z)
          rw [e] at e1
          cases e1
          exact e2
    | next => exact False.elim h
    | brk => exact False.elim h
    | cont => exact False.elim h
theorem law_callG (kin : K.In st.heap) (gns : st.heap.Ns mainGlobals mg) (bns : st.heap.Ns builtinsNs mb) (bbs : ∀ y : Str, y ≠ "__name__" → mb y = bootBuiltins y) (nl : st.heap.NoLimit) (gn : st.gens = #[])
    (so : st.heap.get? a = some (scriptObj vs)) (hi : IntsAre vs ns) (hl : ns.length ≤ sizeLine) (room : Room k callerA) (sm : ∃ mm, st.heap.Ns sysModules mm) (F : ∀ base : Heap, K.In base → base.Ns mainGlobals mg → (∃ o, base.get? sysModules = some o) → FnG P w K mg base k fa fd [x] sp)
    (bd : ∀ (z : Shared) (u : Value), BindsTo z fd ⟨[u], []⟩ [(x, u)]) (hsp : ∀ G : Hp, Only G → SqL K G a (ns.map V.int) → sp [.ref a] G (fun v _ => v = .bl true) fun _ _ _ => False) :
    codeAny (model P w) callerA (.call (.ref fa) ⟨[.ref a], []⟩) (LawEnd st) st := by
  have rv := vals_ints hi
  have lenV := hi.length
  cases hk : K.lookup a with
  | none =>
    have at1 : (fun c => if c = a then some (HO.frz (scriptObj vs) (.lst (ns.map V.int))) else none : Hp) a = some (.frz (scriptObj vs) (.lst (ns.map V.int))) := if_pos rfl
    have at2 : ∀ {c : Addr}, c ≠ a → (fun c => if c = a then some (HO.frz (scriptObj vs) (.lst (ns.map V.int))) else none : Hp) c = none := fun n => if_neg n
    generalize (fun c => if c = a then some (HO.frz (scriptObj vs) (.lst (ns.map V.int))) else none : Hp) = G at at1 at2
    have on : Only G := fun c => if h : c = a then .inr ⟨scriptObj vs, ns.map V.int, by rw [h]; exact at1⟩ else .inl (at2 h)
    refine law_from kin gns bns bbs nl gn so room sm F bd G on (fun c u z => ?_) (fun c z => ?_) (fun _ => hk) (hsp G on (.inl (.inr ⟨_, at1⟩)))
    · by_cases hc : c = a
      · rw [hc, at1] at z
        cases z
        rw [hc]
        exact ⟨so, by rw [List.length_map]; exact hl, vs, _, rv, so⟩
      · rw [at2 hc] at z
        cases z
    · by_cases hc : c = a
      · exact hc
      · exact absurd (at2 hc) z
  | some o =>
    have e := kin a o hk
    rw [so] at e
    cases e
    have on : Only (fun _ => none) := fun _ => .inl rfl
    exact law_from kin gns bns bbs nl gn so room sm F bd (fun _ => none) on (fun c u z => nomatch z) (fun c z => (z rfl).elim) (fun z => (z rfl).elim)
      (hsp _ on (.inr ⟨_, vs.toArray, _, hk, rfl, rfl, rfl, by rw [List.size_toArray, lenV]; exact hl, by simpa using rv⟩))
end
/-- the end of a law row, from the law's promise where nothing is being shown -/
theorem walkG {l : PySem.W.OpenLaw} {n k : Nat} {q : Program} {loose : List Str} {XP : (Str → Option Value) → Heap → Prop} {YP : World → Heap → Prop} {d : DefRec} {K : Params → PySem.W.Frag} {sp : PySem.W.Frag → Sp} {x : Str}
    (hn : l.most = some n) (hn2 : n ≤ sizeLine) (hdf : d.params.defaults = []) (hin : PyProof.Rows.importsNone q = true) (room : Room k callerA) (hY : ∀ (w : World) (h : Heap), YP w h → (K w.params).In h)
    (F : ∀ (w : World) (mg : Str → Option Value) (fa : Addr) (h : Heap), (K w.params).In h → h.Ns mainGlobals mg → mg d.name = some (.ref fa) →
      ∃ fd : FuncData, (∀ (z : Shared) (u : Value), BindsTo z fd ⟨[u], []⟩ [(x, u)]) ∧ ∀ base : Heap, (K w.params).In base → base.Ns mainGlobals mg → (∃ o, base.get? sysModules = some o) → FnG l.prog w (K w.params) mg base k fa fd [x] (sp (K w.params)))
    (hsp : ∀ (K : PySem.W.Frag) (G : Hp) (a : Addr) (ns : List Int), ns.length ≤ n → Only G → SqL K G a (ns.map V.int) → sp K [.ref a] G (fun v _ => v = .bl true) fun _ _ _ => False) :
    PySem.W.WalkO q loose XP YP l.row.toRowW d [] (fun f vs => PySem.call f vs) := by
  refine Att.attach_call hn hdf fun w s0 s1 mg mb fa o pm cd doc a vs ns G Y ho hd hcd hmg hobj hints hlen hg => ?_
  obtain ⟨fd, bd, hF⟩ := F w mg fa _ (hY w _ Y) G.T.g hmg
  exact law_callG (hY w _ Y) G.T.g G.T.b G.T.builtins G.T.nolimit hg hobj hints (Nat.le_trans hlen hn2) room (let ⟨mm, h, _⟩ := (G.T.seer hin).mods; ⟨mm, h⟩) hF bd fun H hO hS => hsp (K w.params) H a ns hlen hO hS
end Lw

set_option Elab.async false
set_option linter.all false
set_option maxRecDepth 100000
set_option maxHeartbeats 4000000
/-! plain tests, rows -/
namespace Lw
open PySem PySem.Spec PyProof.Rows L2
inductive Tst where
  | is (f : Str) (ws : List Str) | non (f : Str) | nt (t : Tst)
def Tst.depth : Tst → Nat
  | .nt t => t.depth + 1
  | _ => 0
def Tst.field : Tst → Str
  | .is f _ => f | .non f => f | .nt t => t.field
/-- what stands within all nots -/
def Tst.core : Tst → Tst
  | .nt t => t.core
  | t => t
/-- a row: what a field has, None or a text -/
abbrev Row := Str → Option (Option Str)
def Tst.pass (ρ : Row) : Tst → Bool
  | .is f ws => match ρ f with | some (some z) => decide (z ∈ ws) | _ => false
  | .non f => decide (ρ f = some none)
  | .nt t => !t.pass ρ
def cellV : Option Str → V
  | none => .non
  | some z => .str z
structure RowAt (H : Hp) (a : Addr) (ρ : Row) : Prop where
  ex : ∃ kvs, H a = some (.dK kvs) ∧ ∀ f, valV kvs (.inr f) = (ρ f).map cellV
inductive TV (H : Hp) : V → Tst → Prop
  | is {t l : Addr} {f : Str} {ws : List Str} (a : H t = some (.tup [.str "is", .str f, .ref l])) (b : H l = some (.lst (ws.map V.str))) : TV H (.ref t) (.is f ws)
  | non {t : Addr} {f : Str} (a : H t = some (.tup [.str "none", .str f])) : TV H (.ref t) (.non f)
  | nt {t : Addr} {v : V} {s : Tst} (a : H t = some (.tup [.str "not", v])) (b : TV H v s) : TV H (.ref t) (.nt s)
theorem RowAt.mono {H H' : Hp} {a : Addr} {ρ : Row} (x : RowAt H a ρ) (s : Same H H') : RowAt H' a ρ := by
  obtain ⟨kvs, e, g⟩ := x.ex
  exact ⟨kvs, s _ _ e, g⟩
theorem TV.mono {H H' : Hp} {v : V} {t : Tst} (x : TV H v t) (s : Same H H') : TV H' v t := by
  induction x with
  | is a b => exact .is (s _ _ a) (s _ _ b)
  | non a => exact .non (s _ _ a)
  | nt a _ ih => exact .nt (s _ _ a) ih
/-- the bag is none of it -/
theorem TV.but {H H' : Hp} {b c : Addr} {v : V} {t : Tst} (x : TV H v t) (g : BagAt H b c) (s : But b H H') : TV H' v t := by
  obtain ⟨x1, y1, z1, ns, h1, _, _⟩ := g
  have nt : ∀ {a : Addr} {xs : List V}, H a = some (.tup xs) → a ≠ b := fun e n => by rw [n, h1] at e; cases e
  have nl : ∀ {a : Addr} {ws : List Str}, H a = some (.lst (ws.map V.str)) → a ≠ b := fun {a ws} e n => by
    rw [n, h1] at e
    injection e with e
    injection e with e
    match ws with
    | [] => simp at e
    | w :: r => simp at e
  induction x with
  | is a b => exact .is (s _ _ a (nt a)) (s _ _ b (nl b))
  | non a => exact .non (s _ _ a (nt a))
  | nt a _ ih => exact .nt (s _ _ a (nt a)) ih
theorem RowAt.but {H H' : Hp} {a b c : Addr} {ρ : Row} (x : RowAt H a ρ) (g : BagAt H b c) (s : But b H H') : RowAt H' a ρ := by
  obtain ⟨kvs, e, f⟩ := x.ex
  obtain ⟨x1, y1, z1, ns, h1, _, _⟩ := g
  exact ⟨kvs, s _ _ e (fun n => by rw [n, h1] at e; cases e), f⟩
theorem RowAt.get {H : Hp} {a : Addr} {ρ : Row} {f : Str} {o : Option Str} (x : RowAt H a ρ) (e : ρ f = some o) : DGet H a (.str f) (some (cellV o)) := by
  obtain ⟨kvs, q, g⟩ := x.ex
  have := DGet.k (k := .inr f) q
  rw [g f, e] at this
  exact this
/-- by levels: the test's nots are fewer than n -/
def spPass (n : Nat) : Sp := fun vs H Q _ => ∃ (r : Addr) (v : V) (t : Tst) (ρ : Row) (o : Option Str), vs = [.ref r, v] ∧ RowAt H r ρ ∧ TV H v t ∧ t.depth < n ∧ ρ t.field = some o ∧ Q (.bl (t.pass ρ)) H
theorem in_cell {o : Option Str} {ws : List Str} : inV (cellV o) (ws.map V.str) = (match (some o : Option (Option Str)) with | some (some z) => decide (z ∈ ws) | _ => false) := by
  cases o with
  | none =>
    show inV V.non (ws.map V.str) = false
    unfold inV
    rw [List.any_eq_false]
    intro y hy
    obtain ⟨z, _, rfl⟩ := List.mem_map.mp hy
    exact Bool.false_ne_true
  | some z => exact inV_str z ws
theorem non_cell (o : Option Str) : decide (cellV o = V.non) = decide (some o = (some none : Option (Option Str))) := by cases o <;> simp [cellV]
theorem tt_if {b : Bool} {F G : Prop} (e : b = true) (h : F) : if b = true then F else G := by
  rw [e]
  exact h
theorem ff_if {b : Bool} {F G : Prop} (e : b = false) (h : G) : if b = true then F else G := by
  rw [e]
  exact h
theorem flat_strs' (ws : List Str) : (ws.map V.str).all flatV = true := by
  rw [List.all_eq_true]
  intro y hy
  obtain ⟨z, _, rfl⟩ := List.mem_map.mp hy
  rfl
theorem pass_is {ρ : Row} {f : Str} {ws : List Str} {o : Option Str} (h : ρ f = some o) : Tst.pass ρ (.is f ws) = inV (cellV o) (ws.map V.str) := by
  rw [in_cell]
  unfold Tst.pass
  rw [h]
theorem pass_non {ρ : Row} {f : Str} {o : Option Str} (h : ρ f = some o) : Tst.pass ρ (.non f) = decide (cellV o = V.non) := by
  rw [non_cell]
  unfold Tst.pass
  rw [h]
theorem flat_cell (o : Option Str) : flatV (cellV o) = true := by cases o <;> rfl
end Lw

set_option Elab.async false
set_option linter.all false
set_option maxRecDepth 100000
set_option maxHeartbeats 4000000
/-! repr of lists, tuples and dicts of texts -/
namespace Lw
open PySem PySem.Spec PyProof.Rows L2
mutual
/-- what a value shows: in a heap of a proof -/
inductive DX (H : Hp) : V → PyData → Prop
  | non : DX H .non .none
  | bl (b : Bool) : DX H (.bl b) (.bool b)
  | str (x : Str) : DX H (.str x) (.str x)
  | lst {a : Addr} {xs : List V} {ds : List PyData} (e : H a = some (.lst xs)) (d : DXs H xs ds) : DX H (.ref a) (.list ds)
  | tup {a : Addr} {xs : List V} {ds : List PyData} (e : H a = some (.tup xs)) (d : DXs H xs ds) : DX H (.ref a) (.tuple ds)
  | dct {a : Addr} {kvs : List (Key × V)} {kds : List (Str × PyData)} (e : H a = some (.dK kvs)) (k : kvs.map (·.1) = kds.map fun p => Sum.inr p.1) (d : DXs H (kvs.map (·.2)) (kds.map (·.2))) : DX H (.ref a) (.dict (kds.map fun p => (.str p.1, p.2)))
inductive DXs (H : Hp) : List V → List PyData → Prop
  | nil : DXs H [] []
  | cons {v : V} {vs : List V} {d : PyData} {ds : List PyData} (a : DX H v d) (b : DXs H vs ds) : DXs H (v :: vs) (d :: ds)
end
section
variable {X : Cx} {pl : List (Addr × Obj)} {σ : L2.St} {H : Hp} {s : Shared}
def Tracked (H : Hp) (as : List Addr) : Prop := ∀ b ∈ as, ∃ o, H b = some o
theorem keys_read {knd : Key → Value → Bool} {h : Heap} : ∀ {es : List DictEntry} {vs : List (Key × Value)} {kds : List (Str × PyData)}, PySem.Pairs (mixKind X.prog X.w) es vs → vs.map (·.1) = kds.map (fun p => Sum.inr p.1) →
    ReadsAll h (es.map (·.key)) ((kds.map fun p => (PyData.str p.1, p.2)).map (·.1)) [] ∧ es.map (·.val) = vs.map (·.2) := by
  intro es vs kds p
  induction p generalizing kds with
  | nil =>
    intro e
    cases kds with
    | nil => exact ⟨.nil, rfl⟩
    | cons _ _ => cases e
  | @cons en kv es vs a b _ ih =>
    intro e
    cases kds with
    | nil => cases e
    | cons kd kds =>
      obtain ⟨e1, e2⟩ := List.cons.inj e
      obtain ⟨r1, r2⟩ := ih e2
      have a : keyIs kv.1 en.key = true := a
      have e1 : kv.1 = Sum.inr kd.1 := e1
      rw [e1] at a
      have z : ∃ t, en.key = .str kd.1 t := by
        cases hk : en.key with
        | str x t =>
          rw [hk] at a
          have a : Value.isStrOf kd.1 (Value.str x t) = true := a
          have : x = kd.1 := by simpa [Value.isStrOf] using a
          exact ⟨t, by rw [this]⟩
        | _ => rw [hk] at a; cases a
      obtain ⟨t, z⟩ := z
      refine ⟨?_, by rw [List.map_cons, List.map_cons, b, r2]⟩
      have q := ReadsAll.cons (Reads.str (h := h) kd.1 t) r1
      rw [List.nil_append] at q
      rw [List.map_cons, z]
      exact q
theorem kv_keys {kvs : List (Key × V)} {vs : List (Key × Value)} (kv : KV kvs vs) : vs.map (·.1) = kvs.map (·.1) := by
  unfold KV at kv
  induction kv with
  | nil => rfl
  | cons x _ ih => rw [List.map_cons, List.map_cons, ih, x.1]
theorem kv_vals {kvs : List (Key × V)} {vs : List (Key × Value)} (kv : KV kvs vs) : Vals (kvs.map (·.2)) (vs.map (·.2)) := by
  unfold KV at kv
  induction kv with
  | nil => exact .nil
  | cons x _ ih => exact .cons x.2 ih
mutual
theorem DX.reads (J : Inv X pl σ H s) : ∀ {v : V} {d : PyData}, DX H v d → ∀ {u : Value}, RelV v u → ∃ as, Reads s.heap u d as ∧ Tracked H as
  | _, _, .non, u, r => ⟨[], by cases (show u = Value.none from r); exact .none, fun b hb => absurd hb (by simp)⟩
  | _, _, .bl b, u, r => ⟨[], by cases (show u = Value.bool b from r); exact .bool b, fun b hb => absurd hb (by simp)⟩
  | _, _, .str x, u, r => ⟨[], by obtain ⟨t, rfl⟩ := (show ∃ t, u = Value.str x t from r); exact .str x t, fun b hb => absurd hb (by simp)⟩
  | _, _, @DX.lst _ a xs ds e d, u, r => by
    cases (show u = Value.ref a from r)
    obtain ⟨_, its, n, rv, ob⟩ := J.hok a _ e
    obtain ⟨as, q, t⟩ := DXs.reads J d rv
    exact ⟨a :: as, .list ob rfl rfl (by simpa using q), fun b hb => (List.mem_cons.mp hb).elim (fun z => ⟨_, z ▸ e⟩) (t b)⟩
  | _, _, @DX.tup _ a xs ds e d, u, r => by
    cases (show u = Value.ref a from r)
    obtain ⟨_, its, rv, o, h1, h2, n, h3⟩ := (show ObjOk X.prog X.w H s.heap a (.tup xs) from J.hok a _ e)
    obtain ⟨as, q, t⟩ := DXs.reads J d rv
    exact ⟨as, .tuple h1 h2 h3 (by simpa using q), t⟩
  | _, _, @DX.dct _ a kvs kds e k d, u, r => by
    cases (show u = Value.ref a from r)
    obtain ⟨_, _, vs, kv, o, es, ep, h1, h2, h3, _, h4, _⟩ := (show ObjOk X.prog X.w H s.heap a (.dK kvs) from J.hok a _ e)
    have kk := kv_keys kv
    have vv := kv_vals kv
    obtain ⟨r1, r2⟩ := keys_read (X := X) (knd := keyIs) (h := s.heap) h4 (kk.trans k)
    obtain ⟨as, q, t⟩ := DXs.reads J d vv
    have q' : ReadsAll s.heap (es.toList.map (·.val)) ((kds.map fun p => (PyData.str p.1, p.2)).map (·.2)) as := by
      rw [r2, List.map_map]
      exact q
    exact ⟨a :: [] ++ as, .dict h1 h2.1 h3 r1 q', fun b hb => (List.mem_cons.mp hb).elim (fun z => ⟨_, z ▸ e⟩) (t b)⟩
theorem DXs.reads (J : Inv X pl σ H s) : ∀ {vs : List V} {ds : List PyData}, DXs H vs ds → ∀ {us : List Value}, Vals vs us → ∃ as, ReadsAll s.heap us ds as ∧ Tracked H as
  | _, _, .nil, _, .nil => ⟨[], .nil, fun b hb => absurd hb (by simp)⟩
  | _, _, .cons a b, _, .cons x y => by
    obtain ⟨as, q1, t1⟩ := DX.reads J a x
    obtain ⟨bs, q2, t2⟩ := DXs.reads J b y
    exact ⟨as ++ bs, .cons q1 q2, fun c hc => (List.mem_append.mp hc).elim (t1 c) (t2 c)⟩
end
/-- repr(x) -/
def rRepr : List V → Hp → VK → Prop := fun vs H Q => ∃ (a : Addr) (d : PyData), vs = [.ref a] ∧ DX H (.ref a) d ∧ d.showable = true ∧ d.depth ≤ 40 ∧ d.shown.length ≤ sizeLine ∧ Q (.str d.shown) H
theorem call_repr (hg : X.A.guards = some []) (hu : X.A.units + 64 < cLine) (hs : ∃ o, X.base.get? sysModules = some o) : CallR X (.builtin "repr") rRepr := by
  intro pl s σ H vs us Q J r h
  obtain ⟨a, d, rfl, dx, sh, dp, sz, q⟩ := h
  rw [Vals.ref1 r]
  obtain ⟨as, rd, tr⟩ := DX.reads J dx (u := .ref a) rfl
  obtain ⟨o, eo⟩ := hs
  obtain ⟨e0, n0⟩ := J.ok.bs _ _ eo
  have none0 : H sysModules = none := J.base.free _ _ e0 n0 (J.ok.noex _ _ eo)
  refine repr_of_reads' rd sh (fun _ hm => ?_) hg (by omega) (fun _ _ z => z) (fun h' u tk k => ⟨.str d.shown, H, J.kept (t' := tk) k, ⟨u, rfl⟩, q⟩) sz
  obtain ⟨o2, e2⟩ := tr _ hm
  rw [none0] at e2
  cases e2
end
end Lw

set_option Elab.async false
set_option linter.all false
set_option maxRecDepth 100000
set_option maxHeartbeats 4000000
namespace Lw
open PySem PySem.Spec PyProof.Rows L2
section
variable {X : Cx} {pl : List (Addr × Obj)} {σ : L2.St} {H : Hp} {s : Shared} {a : Addr} {kvs : List Mkv} {o i e value : Expr} {pos pos' apos cpos : Pos} {td ty tv : TE} {t : TE}
theorem key_in {k : NestedKey} {xs : List Ent} (pr : Paired MRel kvs xs) (h : k ∈ kvs.map fun p => p.1.nk) : k ∈ xs.map (·.1) := by rw [paired_nk pr]; exact h
theorem ent_of {k : NestedKey} {xs : List Ent} (pr : Paired MRel kvs xs) {j : Nat} {kv v : Value} (e : xs[j]? = some (k, kv, v)) : ∃ p, kvs[j]? = some p ∧ p.1.nk = k ∧ RelV p.1.v kv ∧ RelV p.2 v := by
  obtain ⟨p, ep, r1, r2, r3⟩ := paired_at pr e
  exact ⟨p, ep, r1.symm, r2, r3⟩
/-- d[k], there -/
def tMGet (w : World) (td ty : TE) : TE := fun σ H Q => td σ H fun x H1 => ty σ H1 fun y H2 => ∃ (a : Addr) (kvs : List Mkv) (k : MK), x = .ref a ∧ y = k.v ∧ H2 a = some (MixO w a kvs) ∧ UOk H2 kvs ∧ KOk H2 k ∧ k.nk ∈ kvs.map (fun p => p.1.nk) ∧
  ∀ (j : Nat) (p : Mkv), kvs[j]? = some p → p.1.nk = k.nk → Q p.2 H2
theorem pe_mget (hu : X.A.units + 9 < cLine) (ho : PE X o td) (hi : PE X i ty) (hs : NoSl i) : PE X (.Subscript o i pos) (tMGet X.w td ty) := by
  refine ⟨fun pl s σ H Q J h => ?_⟩
  refine subD_of F.slot_dict_getitem.lookup hs (thn (ho.run pl s σ H _ J h) fun u s1 ⟨x, H1, J1, rx, q1⟩ => thn (hi.run pl s1 σ H1 _ J1 q1) fun iv s2 ⟨y, H2, J2, ry, a, kvs, k, ex, ey, e, uo, ko, hin, q2⟩ => ?_)
  subst ex ey
  cases (show u = Value.ref a from rx)
  obtain ⟨l, ns, xs, m, pr⟩ := mix_open J2.hok e uo
  refine ⟨m.typeIs, getitem_mix hu (nk_is J2.hok ko ry) (nk_depth k) m (key_in pr hin) fun j kv v ej => ?_⟩
  obtain ⟨p, ep, p1, p2, p3⟩ := ent_of pr ej
  exact ⟨p.2, H2, J2.tok _, p3, q2 j p ep p1⟩
/-- d[k] = v: the key's place is kept, or is the last one -/
def MSet (kvs : List Mkv) (k : MK) (v : V) (kvs' : List Mkv) : Prop :=
  (k.nk ∉ kvs.map (fun p => p.1.nk) ∧ kvs' = kvs ++ [(k, v)]) ∨ ∃ (j : Nat) (p : Mkv), kvs[j]? = some p ∧ p.1.nk = k.nk ∧ kvs' = kvs.set j (p.1, v)
def sMPut (w : World) (td ty tv : TE) : TS := fun D σ H => tv σ H fun v H1 => td σ H1 fun x H2 => ty σ H2 fun y H3 => ∃ (a : Addr) (kvs : List Mkv) (k : MK), x = .ref a ∧ y = k.v ∧ H3 a = some (MixO w a kvs) ∧ UOk H3 kvs ∧ KOk H3 k ∧ kvs.length + 1 ≤ sizeLine ∧
  ∀ kvs', MSet kvs k v kvs' → D.nx σ (upd H3 a (MixO w a kvs'))
theorem ps_mput (hu : X.A.units + 9 < cLine) (ho : PE X o td) (hi : PE X i ty) (hv : PE X value tv) (hs : swapsWith value (some (.Subscript o i pos')) pos.line X.env = pure false) : PS X (.Assign [.Subscript o i pos'] value pos) (sMPut X.w td ty tv) := by
  refine ⟨fun pl s σ H D J h => ?_⟩
  refine wpAny_Assign_Subscript (thn (hv.run pl s σ H _ J h) fun r s1 ⟨v, H1, J1, rv, q1⟩ => thn (ho.run pl s1 σ H1 _ J1 q1) fun u s2 ⟨x, H2, J2, rx, q2⟩ => thn (hi.run pl s2 σ H2 _ J2 q2) fun iv s3 ⟨y, H3, J3, ry, a, kvs, k, ex, ey, e, uo, ko, lz, q3⟩ => ?_) hs
  subst ex ey
  cases (show u = Value.ref a from rx)
  obtain ⟨l, ns, xs, m, pr⟩ := mix_open J3.hok e uo
  refine setitem_mix hu (nk_is J3.hok ko ry) (nk_depth k) m (by rw [← paired_len pr]; exact l) fun h' ys m' sb st => ?_
  rcases st with ⟨st1, st2⟩ | ⟨j, kv, old, ej, st2⟩
  · have pr' : Paired MRel (kvs ++ [(k, v)]) ys := by rw [st2]; exact paired_snoc pr ⟨rfl, ry, rv⟩
    exact ⟨σ, _, mix_write J3 e (by rw [List.length_append]; exact lz) ns m' pr' sb, q3 _ (.inl ⟨by rw [← paired_nk pr]; exact st1, rfl⟩)⟩
  · obtain ⟨p, ep, p1, p2, p3⟩ := ent_of pr ej
    have pr' : Paired MRel (kvs.set j (p.1, v)) ys := by rw [st2]; exact paired_set pr ⟨p1.symm, p2, rv⟩ j
    exact ⟨σ, _, mix_write J3 e (by rw [List.length_set]; exact l) ns m' pr' sb, q3 _ (.inr ⟨j, p, ep, p1, rfl⟩)⟩
/-- d.pop(k), there -/
def tMPop (w : World) (td ty : TE) : TE := fun σ H Q => td σ H fun x H1 => ∃ (a : Addr) (kvs : List Mkv), x = .ref a ∧ H1 a = some (MixO w a kvs) ∧ ty σ H1 fun y H2 => ∃ (k : MK), y = k.v ∧ H2 a = some (MixO w a kvs) ∧ UOk H2 kvs ∧ KOk H2 k ∧ k.nk ∈ kvs.map (fun p => p.1.nk) ∧
  ∀ (j : Nat) (p : Mkv), kvs[j]? = some p → p.1.nk = k.nk → Q p.2 (upd H2 a (MixO w a (kvs.eraseIdx j)))
theorem mix_type {w : World} {P : Program} {h : Heap} (ok : HOk P w H h) (e : H a = some (MixO w a kvs)) : ∃ ob, h.get? a = some ob ∧ ob.cls = .type "dict" ∧ ob.dict = none := by
  obtain ⟨⟨l, ns, _, ob, es, ep, ho, hx, hd, pr⟩, _⟩ := (show ObjOk P w H h a (MixO w a kvs) from ok a _ e)
  exact ⟨ob, ho, hx.1, hx.2.1⟩
theorem pe_mpop (hu : X.A.units + 9 < cLine) (ho : PE X o td) (he : PE X e ty) (m : M1 X o "pop" apos e cpos) : PE X (.Call (.Attribute o "pop" apos) [e] [] cpos) (tMPop X.w td ty) := by
  refine ⟨fun pl s σ H Q J h => ?_⟩
  refine wpAny_Call_method m.base m.few m.line F.plainAttrs_dict F.slot_dict_pop F.type_dict_pop (thn (ho.run pl s σ H _ J h) fun u s1 ⟨x, H1, J1, rx, a, kvs, ex, e1, q1⟩ => ?_)
  subst ex
  cases (show u = Value.ref a from rx)
  obtain ⟨ob, t1, t2, t3⟩ := mix_type J1.hok e1
  refine ⟨⟨ob, t1, t2⟩, fun b q => by cases q; exact ⟨ob, t1, t3⟩, ?_⟩
  rw [m.trees]
  refine Calls.callWith_builtin rfl (Calls.evalArgs_plain (Calls.spliced_cons (thn (he.run pl s1 σ H1 _ J1 q1) fun iv s2 ⟨y, H2, J2, ry, k, ey, e2, uo, ko, hin, q2⟩ => Calls.spliced_nil ?_)))
  subst ey
  obtain ⟨l, ns, xs, mm, pr⟩ := mix_open J2.hok e2 uo
  refine pop_mix ns hu (nk_is J2.hok ko ry) (nk_depth k) mm (by rw [← paired_len pr]; exact l) (key_in pr hin) fun h' j kv v ej m' sb => ?_
  obtain ⟨p, ep, p1, p2, p3⟩ := ent_of pr ej
  exact ⟨p.2, _, mix_write J2 e2 (Nat.le_trans (by rw [List.length_eraseIdx]; split <;> omega) l) ns m' (paired_erase pr j) sb, p3, q2 j p ep p1⟩
/-! ### told otherwise -/
theorem pe_ghost (h : PE X e t) : PE X e (fun σ H Q => t σ H fun v H1 => ∃ H2, Ghost X H1 H2 ∧ Q v H2) := by
  refine ⟨fun pl s σ H Q J w => ?_⟩
  exact thn (h.run pl s σ H _ J w) fun u s1 ⟨v, H1, J1, rv, H2, g, q⟩ => ⟨v, H2, g pl σ s1 J1, rv, q⟩
def convK : Key → MK
  | .inl i => .int i
  | .inr z => .str z
abbrev convD (kvs : List (Key × V)) : List Mkv := kvs.map fun p => (convK p.1, p.2)
theorem conv_v (k : Key) : (convK k).v = kV k := by cases k <;> rfl
theorem conv_hash (w : World) (k : Key) : (convK k).nk.hash w = keyH w k := by cases k <;> rfl
theorem conv_inj {a b : Key} (h : (convK a).nk = (convK b).nk) : a = b := by
  cases a <;> cases b <;> first | (injection h with h; rw [h]) | exact nomatch h
theorem conv_key {k : Key} {u : Value} (h : keyIs k u = true) : RelV (convK k).v u := by
  rcases keyIs_shape h with ⟨i, t, rfl, rfl⟩ | ⟨z, t, rfl, rfl⟩
  · exact ⟨t, rfl⟩
  · exact ⟨t, rfl⟩
theorem conv_ents {P : Program} {w : World} : ∀ {kvs : List (Key × V)} {vs : List (Key × Value)} {l : List DictEntry}, KV kvs vs → PySem.Pairs (mixKind P w) l vs → (∀ e ∈ l, ∃ k, keyIs k e.key = true ∧ e.hash = keyH w k) → Paired (MEnt w) (convD kvs) l
  | _, _, _, .nil, .nil, _ => .nil
  | _, _, _, .cons r t, .cons a b p, hk => by
    rename_i kv vs kv' vs' en es
    obtain ⟨k, k1, k2⟩ := hk en List.mem_cons_self
    have ek : k = vs.1 := (mixKind P w).inj _ _ _ k1 a
    subst ek
    refine .cons ⟨?_, ?_, ?_⟩ (conv_ents t p fun e m => hk e (List.mem_cons_of_mem _ m))
    · show en.hash = (convK kv.1).nk.hash w
      rw [conv_hash, r.1, k2]
    · show RelV (convK kv.1).v en.key
      rw [r.1]
      exact conv_key k1
    · show RelV kv.2 en.val
      rw [b]
      exact r.2
theorem ghost_dk {kvs : List (Key × V)} (e : H a = some (.dK kvs)) : Ghost X H (upd H a (MixO X.w a (convD kvs))) := by
  intro pl σ s J
  obtain ⟨z, ns, vs, kv, ob, es, ep, ho, hx, hd, hk, hp, hn⟩ := (show ObjOk X.prog X.w H s.heap a (.dK kvs) from J.hok a _ e)
  refine J.write (x := a) (e := a) (t' := s.toks) (h' := s.heap) (by rw [e]; exact True.intro) (.inl rfl) (fun b u _ hu => hu) ⟨ob, ho⟩ ?_
  have ek := kv_keys kv
  have nd : ((convD kvs).map fun p => p.1.nk).Nodup := by
    have : ((convD kvs).map fun p => p.1.nk) = (kvs.map (·.1)).map fun k => (convK k).nk := by rw [List.map_map, List.map_map]; rfl
    rw [this, ← ek]
    exact List.Pairwise.map _ (fun a b n q => n (conv_inj q)) hn
  refine ⟨⟨by rw [List.length_map]; exact z, ns, nd, ob, es, ep, ho, hx, hd, conv_ents kv hp fun e m => hk e (Array.mem_toList_iff.mp m)⟩, ⟨ob, ho⟩, fun h1 h2 p k => ?_⟩
  obtain ⟨q1, q2, q3, o2, es2, ep2, g1, g2⟩ := p
  exact ⟨q1, q2, q3, o2, es2, ep2, k _ g1, g2⟩
end
end Lw

set_option Elab.async false
set_option linter.all false
set_option maxRecDepth 100000
set_option maxHeartbeats 4000000
namespace Lw
open PySem PySem.Spec PyProof.Rows L2
theorem dict_no_str (l : Addr) (es : Array DictEntry) (n : Nat) (dd : Option Addr) (sl : Array (Option Value)) (b : Str) (u : Tok) :
    Meets (Builtin.«dict.__eq__» ⟨[.ref l, .str b u], []⟩) (fun _ R s => s.heap.get? l = some { cls := .type "dict", dict := dd, data := .dict es n, slots := sl } ∧ R (.ok (.ret .notImplemented)) s) :=
  .of_wp fun prog w A R s h => by
    obtain ⟨hp, g, d, tk, os⟩ := s
    obtain ⟨hl, h⟩ := h
    have f1 := F.sub_str_dict
    wp_walk using wpAny_loadPart' hl
    exact ⟨_, rfl, h⟩
theorem str_no_dict (b : Str) (u : Tok) (l : Addr) (es : Array DictEntry) (n : Nat) (dd : Option Addr) (sl : Array (Option Value)) :
    Meets (Builtin.«str.__eq__» ⟨[.str b u, .ref l], []⟩) (fun _ R s => s.heap.get? l = some { cls := .type "dict", dict := dd, data := .dict es n, slots := sl } ∧ R (.ok (.ret .notImplemented)) s) :=
  .of_wp fun prog w A R s h => by
    obtain ⟨hp, g, d, tk, os⟩ := s
    obtain ⟨hl, h⟩ := h
    wp_walk using wpAny_loadPart' hl, wpAny_load hl
    exact ⟨_, rfl, h⟩
theorem rc_str_dict {A : Around} {s : Shared} {l : Addr} {o : Obj} {es : Array DictEntry} {n : Nat} (b : Str) (u : Tok) (ho : s.heap.get? l = some o) (hc : o.cls = .type "dict") (hd : o.data = .dict es n) (hu : A.units < cLine) : SeqAt.RcAt A s (.str b u) (.ref l) false := fun prog w E Q h => by
  obtain ⟨cls, dd, data, sl⟩ := o
  simp only at hc hd
  subst hc hd
  exact SeqAt.rc_eq_decline_or (k := false) (typeIs_str s b u) ⟨_, ho, rfl⟩ (by decide) F.sub_dict_str F.slot_str_eq F.slot_dict_eq_refl
    (fun _ hq => call_meets F.slot_str_eq (typeIs_str s b u) F.entry_str_eq (F.args_str_eq_2 _ _) (str_no_dict b u l es n dd sl) ⟨ho, hq⟩)
    (fun _ hq => call_meets F.slot_dict_eq_refl ⟨_, ho, rfl⟩ F.entry_dict_eq (F.args_dict_eq_2 _ _) (dict_no_str l es n dd sl b u) ⟨ho, hq⟩)
    (fun _ hq => wpAny_of_eq (rfl : isSame (.str b u) (.ref l) = pure false) hq) (.inr hu) h
theorem eq_str_dict {A : Around} {s : Shared} {l : Addr} {o : Obj} {es : Array DictEntry} {n : Nat} (b : Str) (u : Tok) (ho : s.heap.get? l = some o) (hc : o.cls = .type "dict") (hd : o.data = .dict es n) (hu : A.units < cLine) : SeqAt.EqAt A s (.str b u) (.ref l) false := fun prog w E Q h => by
  unfold eqBool
  refine wpAny_holding (wpAny_ite_split (fun q => absurd (eq_of_beq q) nofun) (fun _ => ?_))
  exact wpAny_bind (rc_str_dict b u ho hc hd hu prog w E _ (wpAny_truthy_bool h))
/-! ### isinstance -/
inductive TyM (K : PySem.W.Frag) (w : World) (H : Hp) : V → Value → Prop
  | base {x : V} {t : Value} (h : TyX K H x t) : TyM K w H x t
  | mix {a : Addr} {kvs : List Mkv} (e : H a = some (MixO w a kvs)) : TyM K w H (.ref a) (.type "dict")
section
variable {X : Cx} {pl : List (Addr × Obj)} {σ : L2.St} {H : Hp} {s : Shared}
theorem kit_ofM {x : V} {u t : Value} (J : Inv X pl σ H s) (rx : RelV x u) (ty : TyM X.K X.w H x t) : ∃ P : Heap → Prop, PySem.W.KitX X.K u t P ∧ P s.heap ∧ u ≠ .builtin "__main__.__loader__#opaque" := by
  cases ty with
  | base h => exact kit_of J rx h
  | mix e =>
    cases (show u = Value.ref _ from rx)
    obtain ⟨ob, h1, h2, _⟩ := mix_type J.hok e
    exact ⟨_, PySem.W.kitx_dict, ⟨ob, h1, h2⟩, fun z => nomatch z⟩
def rIsiM (K : PySem.W.Frag) (w : World) : List V → Hp → VK → Prop := fun xs H Q => ∃ (x c : V) (t u : Value) (b : Bool), xs = [x, c] ∧ ClsV c u ∧ TyM K w H x t ∧ PySem.W.kitOne K t u = some b ∧ Q (.bl b) H
def rIsiTM (K : PySem.W.Frag) (w : World) : List V → Hp → VK → Prop := fun xs H Q => ∃ (x : V) (tp : Addr) (cs : List V) (t : Value) (us : List Value) (b : Bool), xs = [x, .ref tp] ∧ H tp = some (.tup cs) ∧ Paired ClsV cs us ∧ TyM K w H x t ∧ PySem.W.kitAny K t us = some b ∧ Q (.bl b) H
theorem call_isiM : CallR X (.builtin "isinstance") (rIsiM X.K X.w) := by
  intro pl s σ H xs us Q J r h
  obtain ⟨x, c, t, u, b, rfl, k, ty, e, q⟩ := h
  obtain ⟨u1, u2, rfl, r1, r2⟩ := vals2 r
  have eu := k.eq r2
  subst eu
  obtain ⟨P, Z, p, hx⟩ := kit_ofM J r1 ty
  exact PySem.W.kia_one Z J.kIn p e hx fun tk => ⟨.bl b, H, J.tok tk, rfl, q⟩
theorem call_isiTM : CallR X (.builtin "isinstance") (rIsiTM X.K X.w) := by
  intro pl s σ H xs us Q J r h
  obtain ⟨x, tp, cs, t, ws, b, rfl, hT, k, ty, e, q⟩ := h
  obtain ⟨u1, u2, rfl, r1, r2⟩ := vals2 r
  cases (show u2 = Value.ref tp from r2)
  obtain ⟨P, Z, p, hx⟩ := kit_ofM J r1 ty
  obtain ⟨_, its, rv, o, h1, h2, n, h3⟩ := (show ObjOk X.prog X.w H s.heap tp (.tup cs) from J.hok tp _ hT)
  obtain rfl := ClsV.all k rv
  obtain ⟨oc, od, dt, sl⟩ := o
  cases (show oc = _ from h2)
  cases (show dt = _ from h3)
  exact PySem.W.kia_tup Z J.kIn p h1 e hx fun tk => ⟨.bl b, H, J.tok tk, rfl, q⟩
/-! ### x in (texts), whatever x is -/
/-- a value of one of the plain kinds -/
inductive Kd (K : PySem.W.Frag) (w : World) (H : Hp) : V → Prop
  | non : Kd K w H .non
  | bl (b : Bool) : Kd K w H (.bl b)
  | int (i : Int) : Kd K w H (.int i)
  | str (z : Str) : Kd K w H (.str z)
  | lst {a : Addr} {xs : List V} (e : H a = some (.lst xs)) : Kd K w H (.ref a)
  | tup {a : Addr} {xs : List V} (e : H a = some (.tup xs)) : Kd K w H (.ref a)
  | mix {a : Addr} {kvs : List Mkv} (e : H a = some (MixO w a kvs)) : Kd K w H (.ref a)
def isStrV (z : Str) : V → Bool
  | .str y => z == y
  | _ => false
theorem eq_str_kd {x : V} {v : Value} {A : Around} (hu : A.units < cLine) (J : Inv X pl σ H s) (k : Kd X.K X.w H x) (r : RelV x v) (z : Str) (t : Tok) : SeqAt.EqAt A s (.str z t) v (isStrV z x) := by
  cases k with
  | non => cases (show v = Value.none from r); exact SeqAt.EqAt.str_none z t
  | bl b => cases (show v = Value.bool b from r); exact SeqAt.EqAt.str_bool z t b
  | int i => obtain ⟨u, rfl⟩ := (show ∃ t, v = Value.int i t from r); exact SeqAt.EqAt.str_int z t i u
  | str y => obtain ⟨u, rfl⟩ := (show ∃ t, v = Value.str y t from r); exact SeqAt.EqAt.str_str z t y u
  | @lst a xs e =>
    cases (show v = Value.ref a from r)
    obtain ⟨_, its, n, _, h1⟩ := (show ObjOk X.prog X.w H s.heap a (.lst xs) from J.hok a _ e)
    exact SeqAt.EqAt.str_list z t ⟨_, h1, rfl, n, rfl⟩ hu
  | @tup a xs e =>
    cases (show v = Value.ref a from r)
    obtain ⟨_, its, _, o, h1, h2, n, h3⟩ := (show ObjOk X.prog X.w H s.heap a (.tup xs) from J.hok a _ e)
    exact SeqAt.EqAt.str_tuple z t ⟨o, h1, h2, n, h3⟩ hu
  | @mix a kvs e =>
    cases (show v = Value.ref a from r)
    obtain ⟨⟨l, ns, _, o, es, ep, ho, hx, hd, pr⟩, _⟩ := (show ObjOk X.prog X.w H s.heap a (MixO X.w a kvs) from J.hok a _ e)
    exact eq_str_dict z t ho hx.1 hd hu
def rInM (K : PySem.W.Frag) (w : World) : R2 := fun x y H Q => ∃ (p : Addr) (zs : List Str), y = .ref p ∧ (SqL K H p (zs.map V.str) ∨ SqT K H p (zs.map V.str)) ∧ Kd K w H x ∧ Q (.bl (zs.any fun z => isStrV z x)) H
theorem strs_any {x : V} {zs : List Str} {its : List Value} (r : Vals (zs.map V.str) its) : its.any (fun u => match u with | .str z _ => isStrV z x | _ => false) = zs.any (fun z => isStrV z x) := by
  induction zs generalizing its with
  | nil => cases r; rfl
  | cons z zs ih =>
    cases r with
    | cons a b =>
      obtain ⟨t, rfl⟩ := (show ∃ t, _ = Value.str z t from a)
      rw [List.any_cons, List.any_cons, ih b]
theorem strs_mem {zs : List Str} {its : List Value} (r : Vals (zs.map V.str) its) : ∀ u ∈ its, ∃ z t, u = Value.str z t := by
  induction zs generalizing its with
  | nil => cases r; exact fun u m => absurd m List.not_mem_nil
  | cons z zs ih =>
    cases r with
    | cons a b =>
      intro u m
      rcases List.mem_cons.mp m with g | g
      · obtain ⟨t, e⟩ := (show ∃ t, _ = Value.str z t from a)
        exact ⟨z, t, g.trans e⟩
      · exact ih b u g
theorem op_inM (hu : X.A.units + 64 < cLine) : OpR X (compareOp .In) (rInM X.K X.w) := by
  intro pl s σ H x y v u Q J rx ry h
  obtain ⟨p, zs, rfl, hq, kx, q⟩ := h
  cases (show u = Value.ref p from ry)
  have each : ∀ {its : List Value} {A : Around}, A.units < cLine → Vals (zs.map V.str) its → ∀ u ∈ its, SeqAt.EqAt A s u v (match u with | .str z _ => isStrV z x | _ => false) := by
    intro its A ha r u m
    obtain ⟨z, t, rfl⟩ := strs_mem r u m
    exact eq_str_kd ha J kx rx z t
  rcases hq with hq | hq
  · obtain ⟨its, r, pl, hz⟩ := J.list hq
    refine SeqAt.in_listAt (fun u => match u with | .str z _ => isStrV z x | _ => false) pl.isList (fun u m => each (by rw [Around.in1_units]; omega) r u (by simpa using m)) ⟨.bl _, H, J, rfl, ?_⟩
    rw [List.any_toArray, strs_any r]
    exact q
  · obtain ⟨its, r, pl, hz⟩ := J.tuple hq
    refine SeqAt.in_tupleAt (fun u => match u with | .str z _ => isStrV z x | _ => false) pl (fun u m => each (by rw [Around.in1_units]; omega) r u (by simpa using m)) ⟨.bl _, H, J, rfl, ?_⟩
    rw [List.any_toArray, strs_any r]
    exact q
end
end Lw

set_option Elab.async false
set_option linter.all false
set_option maxRecDepth 100000
set_option maxHeartbeats 4000000
/-! data of any kind: what a value shows, and how large it is -/
namespace Lw
open PySem PySem.Spec PyProof.Rows L2
/-- data that can be shown: at most n levels, of weight at most m -/
structure Fine (d : PyData) (n m : Nat) : Prop where
  sh : d.showable = true
  lf : d.leavesShort 48 = true
  dep : d.depth ≤ n
  wt : d.weight ≤ m
structure FineAll (ds : List PyData) (n m : Nat) : Prop where
  ok : ∀ d ∈ ds, d.showable = true ∧ d.leavesShort 48 = true ∧ d.depth ≤ n
  wt : PyData.weightAll ds ≤ m
theorem Fine.le {d : PyData} {n m n' m' : Nat} (x : Fine d n m) (a : n ≤ n') (b : m ≤ m') : Fine d n' m' := ⟨x.sh, x.lf, Nat.le_trans x.dep a, Nat.le_trans x.wt b⟩
theorem FineAll.le {ds : List PyData} {n m n' m' : Nat} (x : FineAll ds n m) (a : n ≤ n') (b : m ≤ m') : FineAll ds n' m' := ⟨fun d h => ⟨(x.ok d h).1, (x.ok d h).2.1, Nat.le_trans (x.ok d h).2.2 a⟩, Nat.le_trans x.wt b⟩
theorem showAll_iff : ∀ ds : List PyData, PyData.showableAll ds = true ↔ ∀ d ∈ ds, d.showable = true
  | [] => ⟨fun _ d h => absurd h List.not_mem_nil, fun _ => rfl⟩
  | d :: r => by
    have e : PyData.showableAll (d :: r) = (PyData.showable d && PyData.showableAll r) := rfl
    rw [e, Bool.and_eq_true, showAll_iff r, List.forall_mem_cons]
theorem leafAll_iff (B : Nat) : ∀ ds : List PyData, PyData.leavesShortAll B ds = true ↔ ∀ d ∈ ds, d.leavesShort B = true
  | [] => ⟨fun _ d h => absurd h List.not_mem_nil, fun _ => rfl⟩
  | d :: r => by
    have e : PyData.leavesShortAll B (d :: r) = (PyData.leavesShort B d && PyData.leavesShortAll B r) := rfl
    rw [e, Bool.and_eq_true, leafAll_iff B r, List.forall_mem_cons]
theorem depAll_iff (n : Nat) : ∀ ds : List PyData, PyData.depthAll ds ≤ n ↔ ∀ d ∈ ds, d.depth ≤ n
  | [] => ⟨fun _ d h => absurd h List.not_mem_nil, fun _ => Nat.zero_le _⟩
  | d :: r => by
    rw [PyData.depthAll, Nat.max_le, depAll_iff n r, List.forall_mem_cons]
theorem FineAll.lst {ds : List PyData} {n m : Nat} (x : FineAll ds n m) : Fine (.list ds) (n + 1) m :=
  ⟨(showAll_iff ds).mpr fun d h => (x.ok d h).1, (leafAll_iff 48 ds).mpr fun d h => (x.ok d h).2.1, by rw [PyData.depth]; exact Nat.succ_le_succ ((depAll_iff n ds).mpr fun d h => (x.ok d h).2.2), x.wt⟩
theorem FineAll.tup {ds : List PyData} {n m : Nat} (x : FineAll ds n m) : Fine (.tuple ds) (n + 1) m :=
  ⟨(showAll_iff ds).mpr fun d h => (x.ok d h).1, (leafAll_iff 48 ds).mpr fun d h => (x.ok d h).2.1, by rw [PyData.depth]; exact Nat.succ_le_succ ((depAll_iff n ds).mpr fun d h => (x.ok d h).2.2), x.wt⟩
theorem Fine.items {ds : List PyData} {n m : Nat} (x : Fine (.list ds) (n + 1) m) : FineAll ds n m := by
  have h := x.dep
  rw [PyData.depth] at h
  exact ⟨fun d hd => ⟨(showAll_iff ds).mp x.sh d hd, (leafAll_iff 48 ds).mp x.lf d hd, (depAll_iff n ds).mp (Nat.le_of_succ_le_succ h) d hd⟩, x.wt⟩
theorem Fine.itemsT {ds : List PyData} {n m : Nat} (x : Fine (.tuple ds) (n + 1) m) : FineAll ds n m := by
  have h := x.dep
  rw [PyData.depth] at h
  exact ⟨fun d hd => ⟨(showAll_iff ds).mp x.sh d hd, (leafAll_iff 48 ds).mp x.lf d hd, (depAll_iff n ds).mp (Nat.le_of_succ_le_succ h) d hd⟩, x.wt⟩
theorem weight_get : ∀ {ds : List PyData} {i : Nat} {d : PyData}, ds[i]? = some d → d.weight + 1 ≤ PyData.weightAll ds
  | [], _, _, e => by simp at e
  | x :: r, 0, d, e => by cases e; rw [PyData.weightAll]; omega
  | x :: r, i + 1, d, e => by
    have := weight_get (ds := r) (i := i) (d := d) (by simpa using e)
    rw [PyData.weightAll]; omega
theorem weight_set : ∀ {ds : List PyData} {i : Nat} {d x : PyData}, ds[i]? = some d → PyData.weightAll (ds.set i x) + d.weight = PyData.weightAll ds + x.weight
  | [], _, _, _, e => by simp at e
  | y :: r, 0, d, x, e => by cases e; rw [List.set_cons_zero, PyData.weightAll, PyData.weightAll]; omega
  | y :: r, i + 1, d, x, e => by
    have := weight_set (ds := r) (i := i) (d := d) (x := x) (by simpa using e)
    rw [List.set_cons_succ, PyData.weightAll, PyData.weightAll]; omega
theorem weight_app : ∀ xs ys : List PyData, PyData.weightAll (xs ++ ys) = PyData.weightAll xs + PyData.weightAll ys
  | [], ys => by rw [List.nil_append, PyData.weightAll]; omega
  | x :: xs, ys => by rw [List.cons_append, PyData.weightAll, PyData.weightAll, weight_app xs ys]; omega
theorem weight_erase : ∀ (ds : List PyData) (i : Nat), PyData.weightAll (ds.eraseIdx i) ≤ PyData.weightAll ds
  | [], _ => Nat.le_refl _
  | x :: r, 0 => by rw [List.eraseIdx_cons_zero, PyData.weightAll]; omega
  | x :: r, i + 1 => by
    have := weight_erase r i
    rw [List.eraseIdx_cons_succ, PyData.weightAll, PyData.weightAll]; omega
theorem FineAll.get {ds : List PyData} {n m i : Nat} {d : PyData} (x : FineAll ds n m) (e : ds[i]? = some d) : Fine d n m := by
  obtain ⟨a, b, c⟩ := x.ok d (List.mem_of_getElem? e)
  exact ⟨a, b, c, by have := weight_get e; have := x.wt; omega⟩
theorem FineAll.erase {ds : List PyData} {n m : Nat} (x : FineAll ds n m) (i : Nat) : FineAll (ds.eraseIdx i) n m := ⟨fun d h => x.ok d (List.mem_of_mem_eraseIdx h), Nat.le_trans (weight_erase ds i) x.wt⟩
/-- an item put in the place of another one -/
theorem FineAll.put {ds : List PyData} {n m i k l : Nat} {d y : PyData} (x : FineAll ds n m) (e : ds[i]? = some d) (z : Fine y n k) (h : k ≤ 2 * d.weight + l) : FineAll (ds.set i y) n (2 * m + l) := by
  refine ⟨fun q hq => ?_, ?_⟩
  · rcases List.mem_or_eq_of_mem_set hq with g | g
    · exact x.ok q g
    · subst g; exact ⟨z.sh, z.lf, z.dep⟩
  · have h1 := weight_set (x := y) e
    have h2 := weight_get e
    have h3 := x.wt
    have h4 := z.wt
    omega
/-- an item told twice -/
theorem FineAll.twice {ds : List PyData} {n m i : Nat} {d : PyData} (x : FineAll ds n m) (e : ds[i]? = some d) : FineAll (ds.take i ++ [d] ++ ds.drop i) n (2 * m) := by
  have w : PyData.weightAll (ds.take i ++ [d] ++ ds.drop i) = PyData.weightAll ds + d.weight + 1 := by
    have h := weight_app (ds.take i) (ds.drop i)
    rw [List.take_append_drop] at h
    rw [weight_app, weight_app, h, PyData.weightAll, PyData.weightAll]
    omega
  refine ⟨fun q hq => ?_, ?_⟩
  · rcases List.mem_append.mp hq with g | g
    · rcases List.mem_append.mp g with g | g
      · exact x.ok q (List.mem_of_mem_take g)
      · cases List.mem_singleton.mp g
        exact x.ok d (List.mem_of_getElem? e)
    · exact x.ok q (List.mem_of_mem_drop g)
  · rw [w]
    have h2 := weight_get e
    have h3 := x.wt
    omega
theorem FineAll.snoc {ds : List PyData} {n m k : Nat} {d : PyData} (x : FineAll ds n m) (z : Fine d n k) : FineAll (ds ++ [d]) n (m + k + 1) := by
  refine ⟨fun q hq => ?_, ?_⟩
  · rcases List.mem_append.mp hq with g | g
    · exact x.ok q g
    · cases List.mem_singleton.mp g
      exact ⟨z.sh, z.lf, z.dep⟩
  · rw [weight_app, PyData.weightAll, PyData.weightAll]
    have := x.wt
    have := z.wt
    omega
theorem FineAll.nil {n m : Nat} : FineAll [] n m := ⟨fun d h => absurd h List.not_mem_nil, Nat.zero_le _⟩
theorem FineAll.cons {d : PyData} {ds : List PyData} {n m k : Nat} (z : Fine d n k) (x : FineAll ds n m) : FineAll (d :: ds) n (k + 1 + m) := by
  refine ⟨fun q hq => ?_, ?_⟩
  · rcases List.mem_cons.mp hq with g | g
    · subst g; exact ⟨z.sh, z.lf, z.dep⟩
    · exact x.ok q g
  · rw [PyData.weightAll]
    have := x.wt
    have := z.wt
    omega
theorem kv_zip : ∀ {ks ds : List PyData}, ks.length = ds.length → PyData.weightKv (ks.zip ds) = PyData.weightAll ks + PyData.weightAll ds ∧ (PyData.showableKv (ks.zip ds) = true ↔ PyData.showableAll ks = true ∧ PyData.showableAll ds = true) ∧
    (PyData.leavesShortKv 48 (ks.zip ds) = true ↔ PyData.leavesShortAll 48 ks = true ∧ PyData.leavesShortAll 48 ds = true) ∧ ∀ n, PyData.depthKv (ks.zip ds) ≤ n ↔ PyData.depthAll ks ≤ n ∧ PyData.depthAll ds ≤ n
  | [], [], _ => ⟨rfl, ⟨fun _ => ⟨rfl, rfl⟩, fun _ => rfl⟩, ⟨fun _ => ⟨rfl, rfl⟩, fun _ => rfl⟩, fun n => ⟨fun _ => ⟨Nat.zero_le _, Nat.zero_le _⟩, fun _ => Nat.zero_le _⟩⟩
  | k :: ks, d :: ds, e => by
    obtain ⟨h1, h2, h3, h4⟩ := kv_zip (ks := ks) (ds := ds) (by simpa using e)
    rw [List.zip_cons_cons]
    refine ⟨?_, ?_, ?_, fun n => ?_⟩
    · rw [PyData.weightKv, PyData.weightAll, PyData.weightAll, h1]; omega
    · show (PyData.showable k && PyData.showable d && PyData.showableKv (ks.zip ds)) = true ↔ (PyData.showable k && PyData.showableAll ks) = true ∧ (PyData.showable d && PyData.showableAll ds) = true
      simp only [Bool.and_eq_true, h2]
      exact ⟨fun ⟨⟨a, b⟩, c, d⟩ => ⟨⟨a, c⟩, b, d⟩, fun ⟨⟨a, c⟩, b, d⟩ => ⟨⟨a, b⟩, c, d⟩⟩
    · show (PyData.leavesShort 48 k && PyData.leavesShort 48 d && PyData.leavesShortKv 48 (ks.zip ds)) = true ↔ (PyData.leavesShort 48 k && PyData.leavesShortAll 48 ks) = true ∧ (PyData.leavesShort 48 d && PyData.leavesShortAll 48 ds) = true
      simp only [Bool.and_eq_true, h3]
      exact ⟨fun ⟨⟨a, b⟩, c, d⟩ => ⟨⟨a, c⟩, b, d⟩, fun ⟨⟨a, c⟩, b, d⟩ => ⟨⟨a, b⟩, c, d⟩⟩
    · rw [PyData.depthKv, PyData.depthAll, PyData.depthAll, Nat.max_le, Nat.max_le, Nat.max_le, Nat.max_le, h4 n]
      exact ⟨fun ⟨⟨a, b⟩, c, d⟩ => ⟨⟨a, c⟩, b, d⟩, fun ⟨⟨a, c⟩, b, d⟩ => ⟨⟨a, b⟩, c, d⟩⟩
theorem FineAll.dct {ks ds : List PyData} {n m k : Nat} (e : ks.length = ds.length) (x : FineAll ks n k) (y : FineAll ds n m) : Fine (.dict (ks.zip ds)) (n + 1) (k + m) := by
  obtain ⟨h1, h2, h3, h4⟩ := kv_zip e
  refine ⟨h2.mpr ⟨(showAll_iff ks).mpr fun d h => (x.ok d h).1, (showAll_iff ds).mpr fun d h => (y.ok d h).1⟩, h3.mpr ⟨(leafAll_iff 48 ks).mpr fun d h => (x.ok d h).2.1, (leafAll_iff 48 ds).mpr fun d h => (y.ok d h).2.1⟩, ?_, ?_⟩
  · rw [PyData.depth]
    exact Nat.succ_le_succ ((h4 n).mpr ⟨(depAll_iff n ks).mpr fun d h => (x.ok d h).2.2, (depAll_iff n ds).mpr fun d h => (y.ok d h).2.2⟩)
  · show PyData.weightKv (ks.zip ds) ≤ _
    have := x.wt
    have := y.wt
    omega
theorem Fine.kvs {ks ds : List PyData} {n m : Nat} (e : ks.length = ds.length) (x : Fine (.dict (ks.zip ds)) (n + 1) m) : FineAll ks n (PyData.weightAll ks) ∧ FineAll ds n (PyData.weightAll ds) ∧ PyData.weightAll ks + PyData.weightAll ds ≤ m := by
  obtain ⟨h1, h2, h3, h4⟩ := kv_zip e
  obtain ⟨s1, s2⟩ := h2.mp x.sh
  obtain ⟨l1, l2⟩ := h3.mp x.lf
  have hd := x.dep
  rw [PyData.depth] at hd
  obtain ⟨d1, d2⟩ := (h4 n).mp (Nat.le_of_succ_le_succ hd)
  refine ⟨⟨fun d h => ⟨(showAll_iff ks).mp s1 d h, (leafAll_iff 48 ks).mp l1 d h, (depAll_iff n ks).mp d1 d h⟩, Nat.le_refl _⟩, ⟨fun d h => ⟨(showAll_iff ds).mp s2 d h, (leafAll_iff 48 ds).mp l2 d h, (depAll_iff n ds).mp d2 d h⟩, Nat.le_refl _⟩, ?_⟩
  rw [← h1]
  exact x.wt
theorem Fine.fits {d : PyData} {n m : Nat} (x : Fine d n m) (hn : n ≤ 40) (hm : m ≤ 100000) : d.showable = true ∧ d.depth ≤ 40 ∧ d.shown.length ≤ sizeLine := by
  refine ⟨x.sh, Nat.le_trans x.dep hn, ?_⟩
  have h := PyData.shown_le 48 (by decide) d x.lf
  have w := x.wt
  rw [sizeLine_eq]
  omega
/-- all signs of a text are low -/
def LowS (z : Str) : Prop := ∀ c ∈ z.cps.toList, c < 256
theorem Fine.non : Fine .none 0 0 := ⟨rfl, rfl, Nat.le_refl _, Nat.le_refl _⟩
theorem Fine.bl (b : Bool) : Fine (.bool b) 0 0 := ⟨rfl, rfl, Nat.le_refl _, Nat.le_refl _⟩
theorem Fine.str {z : Str} {m : Nat} (h : LowS z) (l : z.length ≤ m) : Fine (.str z) 0 m := by
  refine ⟨rfl, ?_, Nat.le_refl _, l⟩
  show (z.cps.toList.all fun c => decide (c < 16 ^ 8)) = true
  rw [List.all_eq_true]
  exact fun c hc => decide_eq_true (Nat.lt_of_lt_of_le (h c hc) (by decide))
end Lw

set_option Elab.async false
set_option linter.all false
set_option maxRecDepth 100000
set_option maxHeartbeats 4000000
namespace Lw
open PySem PySem.Spec PyProof.Rows L2
def MK.dt : MK → PyData
  | .non => .none
  | .bl b => .bool b
  | .int i => .int i
  | .str z => .str z
  | .unit _ => .tuple []
/-- which keys a dict may have, by how often it was changed -/
def Grade : Nat → List NestedKey → Prop
  | 0, ks => ks = [] ∨ ks = [.num 0]
  | 1, ks => ks = [] ∨ ks = [.num 0] ∨ ∃ k, ks = [.num 0, k]
  | _, _ => True
theorem Grade.up {g : Nat} {ks : List NestedKey} (h : Grade g ks) : Grade (g + 1) ks := by
  cases g with
  | zero => rcases h with h | h; exact .inl h; exact .inr (.inl h)
  | succ g => exact True.intro
mutual
/-- a value of any kind, and what it shows; never the bag at b -/
inductive OX (w : World) (H : Hp) (N : Addr → Prop) (g : Nat) : V → PyData → Prop
  | non : OX w H N g .non .none
  | bl (c : Bool) : OX w H N g (.bl c) (.bool c)
  | int (i : Int) : OX w H N g (.int i) (.int i)
  | str (z : Str) (l : LowS z) : OX w H N g (.str z) (.str z)
  | lst {a : Addr} {xs : List V} {ds : List PyData} (e : H a = some (.lst xs)) (n : ¬ N a) (d : OXs w H N g xs ds) : OX w H N g (.ref a) (.list ds)
  | tup {a : Addr} {xs : List V} {ds : List PyData} (e : H a = some (.tup xs)) (n : ¬ N a) (d : OXs w H N g xs ds) : OX w H N g (.ref a) (.tuple ds)
  | dct {a : Addr} {kvs : List Mkv} {ds : List PyData} (e : H a = some (MixO w a kvs)) (n : ¬ N a) (u : UOk H kvs) (ub : ∀ p ∈ kvs, ∀ e, p.1 = .unit e → ¬ N e) (ls : ∀ p ∈ kvs, ∀ z, p.1 = .str z → LowS z) (nd : (kvs.map fun p => p.1.nk).Nodup) (gr : Grade g (kvs.map fun p => p.1.nk)) (d : OXs w H N g (kvs.map (·.2)) ds) :
      OX w H N g (.ref a) (.dict ((kvs.map fun p => p.1.dt).zip ds))
inductive OXs (w : World) (H : Hp) (N : Addr → Prop) (g : Nat) : List V → List PyData → Prop
  | nil : OXs w H N g [] []
  | cons {v : V} {vs : List V} {d : PyData} {ds : List PyData} (x : OX w H N g v d) (y : OXs w H N g vs ds) : OXs w H N g (v :: vs) (d :: ds)
end
section
variable {w : World} {H H' : Hp} {N : Addr → Prop} {g : Nat}
/-- all is as it was, but what stands at places that are told -/
def ButN (N : Addr → Prop) (H H' : Hp) : Prop := ∀ a o, H a = some o → ¬ N a → H' a = some o
theorem ButN.of {N : Addr → Prop} {H H' : Hp} (s : Same H H') : ButN N H H' := fun a o e _ => s a o e
theorem ButN.bag {N : Addr → Prop} {H H' : Hp} {b : Addr} (s : But b H H') (h : N b) : ButN N H H' := fun a o e n => s a o e fun q => n (q ▸ h)
theorem ButN.trans {N : Addr → Prop} {H H1 H2 : Hp} (x : ButN N H H1) (y : ButN N H1 H2) : ButN N H H2 := fun a o e n => y a o (x a o e n) n
/-- places that are taken -/
def NT (H : Hp) (N : Addr → Prop) : Prop := ∀ a, N a → ∃ o, H a = some o
theorem NT.no {H : Hp} {N : Addr → Prop} {a : Addr} (t : NT H N) (h : H a = none) : ¬ N a := fun n => by
  obtain ⟨o, e⟩ := t a n
  rw [h] at e
  cases e
theorem NT.mono {H H' : Hp} {N : Addr → Prop} (t : NT H N) (s : Same H H') : NT H' N := fun a n => let ⟨o, e⟩ := t a n; ⟨o, s a o e⟩
theorem NT.but {H H' : Hp} {N : Addr → Prop} {b c : Addr} (t : NT H N) (s : But b H H') (hb : BagAt H' b c) : NT H' N := fun a n => by
  obtain ⟨o, e⟩ := t a n
  by_cases q : a = b
  · obtain ⟨x, y, z, ns, h1, _⟩ := hb.ex
    exact ⟨_, by rw [q]; exact h1⟩
  · exact ⟨o, s a o e q⟩
theorem none_ne {H : Hp} {p a : Addr} {o : HO} (h : H p = none) (e : H a = some o) (z : a = p) : False := by
  rw [z, h] at e
  cases e
theorem UOk.but {kvs : List Mkv} (u : UOk H kvs) (ub : ∀ p ∈ kvs, ∀ e, p.1 = .unit e → ¬ N e) (s : ButN N H H') : UOk H' kvs := fun p m e ee => s _ _ (u p m e ee) (ub p m e ee)
mutual
theorem OX.mono (s : ButN N H H') : ∀ {v : V} {d : PyData}, OX w H N g v d → OX w H' N g v d
  | _, _, .non => .non
  | _, _, .bl c => .bl c
  | _, _, .int i => .int i
  | _, _, .str z l => .str z l
  | _, _, .lst e n d => .lst (s _ _ e n) n (OXs.mono s d)
  | _, _, .tup e n d => .tup (s _ _ e n) n (OXs.mono s d)
  | _, _, .dct e n u ub ls nd gr d => .dct (s _ _ e n) n (u.but ub s) ub ls nd gr (OXs.mono s d)
theorem OXs.mono (s : ButN N H H') : ∀ {vs : List V} {ds : List PyData}, OXs w H N g vs ds → OXs w H' N g vs ds
  | _, _, .nil => .nil
  | _, _, .cons x y => .cons (OX.mono s x) (OXs.mono s y)
end
mutual
theorem OX.up : ∀ {v : V} {d : PyData}, OX w H N g v d → OX w H N (g + 1) v d
  | _, _, .non => .non
  | _, _, .bl c => .bl c
  | _, _, .int i => .int i
  | _, _, .str z l => .str z l
  | _, _, .lst e n d => .lst e n (OXs.up d)
  | _, _, .tup e n d => .tup e n (OXs.up d)
  | _, _, .dct e n u ub ls nd gr d => .dct e n u ub ls nd gr.up (OXs.up d)
theorem OXs.up : ∀ {vs : List V} {ds : List PyData}, OXs w H N g vs ds → OXs w H N (g + 1) vs ds
  | _, _, .nil => .nil
  | _, _, .cons x y => .cons (OX.up x) (OXs.up y)
end
mutual
/-- fewer places are barred -/
theorem OX.sub {N' : Addr → Prop} (h : ∀ a, N' a → N a) : ∀ {v : V} {d : PyData}, OX w H N g v d → OX w H N' g v d
  | _, _, .non => .non
  | _, _, .bl c => .bl c
  | _, _, .int i => .int i
  | _, _, .str z l => .str z l
  | _, _, .lst e n d => .lst e (fun q => n (h _ q)) (OXs.sub h d)
  | _, _, .tup e n d => .tup e (fun q => n (h _ q)) (OXs.sub h d)
  | _, _, .dct e n u ub ls nd gr d => .dct e (fun q => n (h _ q)) u (fun p m e ee q => ub p m e ee (h _ q)) ls nd gr (OXs.sub h d)
theorem OXs.sub {N' : Addr → Prop} (h : ∀ a, N' a → N a) : ∀ {vs : List V} {ds : List PyData}, OXs w H N g vs ds → OXs w H N' g vs ds
  | _, _, .nil => .nil
  | _, _, .cons x y => .cons (OX.sub h x) (OXs.sub h y)
end
mutual
/-- a place that was free when it was made may be barred -/
theorem OX.bar {p : Addr} (h : H p = none) : ∀ {v : V} {d : PyData}, OX w H N g v d → OX w H (fun a => N a ∨ a = p) g v d
  | _, _, .non => .non
  | _, _, .bl c => .bl c
  | _, _, .int i => .int i
  | _, _, .str z l => .str z l
  | _, _, .lst e n d => .lst e (fun q => q.elim n (none_ne h e)) (OXs.bar h d)
  | _, _, .tup e n d => .tup e (fun q => q.elim n (none_ne h e)) (OXs.bar h d)
  | _, _, .dct e n u ub ls nd gr d => .dct e (fun q => q.elim n (none_ne h e)) u (fun p m e' ee q => q.elim (ub p m e' ee) (none_ne h (u p m _ ee))) ls nd gr (OXs.bar h d)
theorem OXs.bar {p : Addr} (h : H p = none) : ∀ {vs : List V} {ds : List PyData}, OXs w H N g vs ds → OXs w H (fun a => N a ∨ a = p) g vs ds
  | _, _, .nil => .nil
  | _, _, .cons x y => .cons (OX.bar h x) (OXs.bar h y)
end
theorem OXs.len : ∀ {vs : List V} {ds : List PyData}, OXs w H N g vs ds → vs.length = ds.length
  | _, _, .nil => rfl
  | _, _, .cons _ y => by rw [List.length_cons, List.length_cons, OXs.len y]
theorem OXs.get : ∀ {vs : List V} {ds : List PyData} {i : Nat} {v : V}, OXs w H N g vs ds → vs[i]? = some v → ∃ d, ds[i]? = some d ∧ OX w H N g v d
  | _, _, _, _, .nil, e => by simp at e
  | _, _, 0, _, .cons x _, e => by cases e; exact ⟨_, rfl, x⟩
  | _, _, i + 1, _, .cons _ y, e => by
    obtain ⟨d, e1, e2⟩ := OXs.get (i := i) y (by simpa using e)
    exact ⟨d, by simpa using e1, e2⟩
theorem OXs.set : ∀ {vs : List V} {ds : List PyData} {v : V} {d : PyData}, OXs w H N g vs ds → OX w H N g v d → ∀ i, OXs w H N g (vs.set i v) (ds.set i d)
  | _, _, _, _, .nil, _, _ => .nil
  | _, _, _, _, .cons _ y, x, 0 => .cons x y
  | _, _, _, _, .cons z y, x, i + 1 => .cons z (OXs.set y x i)
theorem OXs.erase : ∀ {vs : List V} {ds : List PyData}, OXs w H N g vs ds → ∀ i, OXs w H N g (vs.eraseIdx i) (ds.eraseIdx i)
  | _, _, .nil, _ => .nil
  | _, _, .cons _ y, 0 => y
  | _, _, .cons z y, i + 1 => .cons z (OXs.erase y i)
theorem OXs.app : ∀ {vs us : List V} {ds es : List PyData}, OXs w H N g vs ds → OXs w H N g us es → OXs w H N g (vs ++ us) (ds ++ es)
  | _, _, _, _, .nil, y => y
  | _, _, _, _, .cons a x, y => .cons a (OXs.app x y)
theorem OXs.take : ∀ {vs : List V} {ds : List PyData}, OXs w H N g vs ds → ∀ i, OXs w H N g (vs.take i) (ds.take i)
  | _, _, .nil, i => by rw [List.take_nil, List.take_nil]; exact .nil
  | _, _, .cons _ _, 0 => .nil
  | _, _, .cons z y, i + 1 => .cons z (OXs.take y i)
theorem OXs.drop : ∀ {vs : List V} {ds : List PyData}, OXs w H N g vs ds → ∀ i, OXs w H N g (vs.drop i) (ds.drop i)
  | _, _, .nil, i => by rw [List.drop_nil, List.drop_nil]; exact .nil
  | _, _, .cons z y, 0 => .cons z y
  | _, _, .cons _ y, i + 1 => OXs.drop y i
theorem OX.kd {K : PySem.W.Frag} {v : V} {d : PyData} (x : OX w H N g v d) : Kd K w H v := by
  cases x with
  | non => exact .non
  | bl c => exact .bl c
  | int i => exact .int i
  | str z => exact .str z
  | lst e => exact .lst e
  | tup e => exact .tup e
  | dct e => exact .mix e
end
/-! ### repr -/
section
variable {X : Cx} {pl : List (Addr × Obj)} {σ : L2.St} {H : Hp} {s : Shared} {N : Addr → Prop} {g : Nat}
theorem key_reads {k : MK} {u : Value} (J : Inv X pl σ H s) (ko : KOk H k) (r : RelV k.v u) : Reads s.heap u k.dt [] := by
  cases k with
  | non => cases (show u = Value.none from r); exact .none
  | bl c => cases (show u = Value.bool c from r); exact .bool c
  | int i => obtain ⟨t, rfl⟩ := (show ∃ t, u = Value.int i t from r); exact .int i t
  | str z => obtain ⟨t, rfl⟩ := (show ∃ t, u = Value.str z t from r); exact .str z t
  | unit a =>
    cases (show u = Value.ref a from r)
    obtain ⟨_, its, rv, o, h1, h2, n, h3⟩ := (show ObjOk X.prog X.w H s.heap a (.tup []) from J.hok a _ (ko a rfl))
    cases rv
    exact .tuple h1 h2 h3 .nil
theorem ents_read (J : Inv X pl σ H s) : ∀ {kvs : List Mkv} {es : List DictEntry}, Paired (MEnt X.w) kvs es → UOk H kvs → ReadsAll s.heap (es.map (·.key)) (kvs.map fun p => p.1.dt) [] ∧ Vals (kvs.map (·.2)) (es.map (·.val))
  | _, _, .nil, _ => ⟨.nil, .nil⟩
  | _, _, .cons (a := p) r t, u => by
    obtain ⟨h1, h2⟩ := ents_read J t fun q m => u q (List.mem_cons_of_mem _ m)
    exact ⟨ReadsAll.cons (as := []) (bs := []) (key_reads J (u p List.mem_cons_self) r.2.1) h1, .cons r.2.2 h2⟩
mutual
theorem OX.reads (J : Inv X pl σ H s) : ∀ {v : V} {d : PyData}, OX X.w H N g v d → ∀ {u : Value}, RelV v u → ∃ as, Reads s.heap u d as ∧ Tracked H as
  | _, _, .non, u, r => ⟨[], by cases (show u = Value.none from r); exact .none, fun c hc => absurd hc List.not_mem_nil⟩
  | _, _, .bl c, u, r => ⟨[], by cases (show u = Value.bool c from r); exact .bool c, fun c hc => absurd hc List.not_mem_nil⟩
  | _, _, .int i, u, r => ⟨[], by obtain ⟨t, rfl⟩ := (show ∃ t, u = Value.int i t from r); exact .int i t, fun c hc => absurd hc List.not_mem_nil⟩
  | _, _, .str z _, u, r => ⟨[], by obtain ⟨t, rfl⟩ := (show ∃ t, u = Value.str z t from r); exact .str z t, fun c hc => absurd hc List.not_mem_nil⟩
  | _, _, @OX.lst _ _ _ _ a xs ds e _ d, u, r => by
    cases (show u = Value.ref a from r)
    obtain ⟨_, its, n, rv, ob⟩ := J.hok a _ e
    obtain ⟨as, q, t⟩ := OXs.reads J d rv
    exact ⟨a :: as, .list ob rfl rfl (by simpa using q), fun c hc => (List.mem_cons.mp hc).elim (fun z => ⟨_, z ▸ e⟩) (t c)⟩
  | _, _, @OX.tup _ _ _ _ a xs ds e _ d, u, r => by
    cases (show u = Value.ref a from r)
    obtain ⟨_, its, rv, o, h1, h2, n, h3⟩ := (show ObjOk X.prog X.w H s.heap a (.tup xs) from J.hok a _ e)
    obtain ⟨as, q, t⟩ := OXs.reads J d rv
    exact ⟨as, .tuple h1 h2 h3 (by simpa using q), t⟩
  | _, _, @OX.dct _ _ _ _ a kvs ds e _ uo _ _ _ _ d, u, r => by
    cases (show u = Value.ref a from r)
    obtain ⟨⟨l, ns, _, o, es, ep, ho, hx, hd, pr⟩, _⟩ := (show ObjOk X.prog X.w H s.heap a (MixO X.w a kvs) from J.hok a _ e)
    obtain ⟨r1, r2⟩ := ents_read J pr uo
    obtain ⟨as, q, t⟩ := OXs.reads J d r2
    have el : (kvs.map fun p => p.1.dt).length = ds.length := by
      have := OXs.len d
      rw [List.length_map] at this ⊢
      exact this
    have e1 : (((kvs.map fun p => p.1.dt).zip ds).map (·.1)) = kvs.map fun p => p.1.dt := List.map_fst_zip (by omega)
    have e2 : (((kvs.map fun p => p.1.dt).zip ds).map (·.2)) = ds := List.map_snd_zip (by omega)
    exact ⟨a :: [] ++ as, .dict ho hx.1 hd (by rw [e1]; exact r1) (by rw [e2]; exact q), fun c hc => (List.mem_cons.mp hc).elim (fun z => ⟨_, z ▸ e⟩) (t c)⟩
theorem OXs.reads (J : Inv X pl σ H s) : ∀ {vs : List V} {ds : List PyData}, OXs X.w H N g vs ds → ∀ {us : List Value}, Vals vs us → ∃ as, ReadsAll s.heap us ds as ∧ Tracked H as
  | _, _, .nil, _, .nil => ⟨[], .nil, fun c hc => absurd hc List.not_mem_nil⟩
  | _, _, .cons x y, _, .cons p q => by
    obtain ⟨as, q1, t1⟩ := OX.reads J x p
    obtain ⟨bs, q2, t2⟩ := OXs.reads J y q
    exact ⟨as ++ bs, .cons q1 q2, fun c hc => (List.mem_append.mp hc).elim (t1 c) (t2 c)⟩
end
/-- repr(x), of a value of any kind -/
def rReprM (w : World) : List V → Hp → VK → Prop := fun vs H Q => ∃ (v : V) (d : PyData) (N : Addr → Prop) (g : Nat), vs = [v] ∧ OX w H N g v d ∧ d.showable = true ∧ d.depth ≤ 40 ∧ d.shown.length ≤ sizeLine ∧ Q (.str d.shown) H
theorem call_reprM (hg : X.A.guards = some []) (hu : X.A.units + 64 < cLine) (hs : ∃ o, X.base.get? sysModules = some o) : CallR X (.builtin "repr") (rReprM X.w) := by
  intro pl s σ H vs us Q J r h
  obtain ⟨v, d, N, g, rfl, ox, sh, dp, sz, q⟩ := h
  obtain ⟨u, rfl, rv⟩ := vals1 r
  have key : ∀ a, u = .ref a → wpAny (model X.prog X.w) X.A (call (.builtin "repr") [u]) (EP X pl σ Q) X.xe s := by
    rintro a rfl
    obtain ⟨as, rd, tr⟩ := OX.reads J ox rv
    obtain ⟨o, eo⟩ := hs
    obtain ⟨e0, n0⟩ := J.ok.bs _ _ eo
    have none0 : H sysModules = none := J.base.free _ _ e0 n0 (J.ok.noex _ _ eo)
    refine repr_of_reads' rd sh (fun _ hm => ?_) hg (by omega) (fun _ _ z => z) (fun h' u tk k => ⟨.str d.shown, H, J.kept (t' := tk) k, ⟨u, rfl⟩, q⟩) sz
    obtain ⟨o2, e2⟩ := tr _ hm
    exact nomatch none0.symm.trans e2
  have fin : ∀ {tk t' : Nat}, EP X pl σ Q (.str d.shown tk) { s with toks := t' } := ⟨.str d.shown, H, J.tok _, ⟨_, rfl⟩, q⟩
  cases ox with
  | non => cases (show u = Value.none from rv); exact PySem.P.repr_of_none fin
  | bl c => cases (show u = Value.bool c from rv); exact PySem.P.repr_of_bool fin
  | int i => obtain ⟨t, rfl⟩ := (show ∃ t, u = Value.int i t from rv); exact PySem.P.repr_of_int (of_decide_eq_true sh) fin
  | str z l => obtain ⟨t, rfl⟩ := (show ∃ t, u = Value.str z t from rv); exact PySem.P.repr_of_str fin sz
  | lst e => exact key _ rv
  | tup e => exact key _ rv
  | dct e => exact key _ rv
end
end Lw

set_option Elab.async false
set_option linter.all false
set_option maxRecDepth 100000
set_option maxHeartbeats 4000000
namespace Lw
open PySem PySem.Spec PyProof.Rows L2
abbrev sOdd : Stmt := topS 18
abbrev NOdd : List Str := ["_law_bag_here", "_law_deep", "_law_k", "_law_some"]
def deepD : Nat → PyData
  | 0 => .list []
  | n + 1 => .list [deepD n]
abbrev oddDs : List PyData := [.none, .bool true, .bool false, .int 0, .int 1, .int (-1), .int ((10 : Int) ^ (39 : Int).toNat), .str "", .str "a", .str "ab c", .str "+a", .str "mark", .tuple [], .list [], .dict [], .list [.int 0], .tuple [.str "is"],
  deepD 5, .dict [(.int 0, .none)], .tuple [.str "tag"], .tuple [.str "none", .str "a"], .list [.tuple [.str "not", .tuple [.str "none"]]]]
def fineB (n m : Nat) (d : PyData) : Bool := d.showable && d.leavesShort 48 && decide (d.depth ≤ n) && decide (d.weight ≤ m)
theorem fine_of {n m : Nat} {d : PyData} (h : fineB n m d = true) : Fine d n m := by
  unfold fineB at h
  rw [Bool.and_eq_true, Bool.and_eq_true, Bool.and_eq_true] at h
  exact ⟨h.1.1.1, h.1.1.2, of_decide_eq_true h.1.2, of_decide_eq_true h.2⟩
theorem odd_fine : oddDs.all (fineB 6 140) = true := by decide +kernel
theorem lowS {z : Str} (h : (z.cps.toList.all fun c => decide (c < 256)) = true) : LowS z := fun c hc => of_decide_eq_true (List.all_eq_true.mp h c hc)
section
variable {P : Program} {w : World} {K : PySem.W.Frag} {mg : Str → Option Value} {base : Heap}
theorem scOdd : FnScope NOdd ["_law_bag_here"] (defScope sOdd) := ⟨rfl, rfl, rfl, by decide +kernel, rfl, by decide +kernel, by decide +kernel⟩
/-- _law_odd: a value of any kind -/
def spOdd (w : World) : Sp := fun vs H Q _ => ∃ (b c : Addr) (N : Addr → Prop), vs = [.ref b] ∧ BagAt H b c ∧ N b ∧ NT H N ∧ ∀ (v : V) (d : PyData) (H' : Hp), OX w H' N 0 v d → Fine d 6 140 → BagAt H' b c → But b H H' → Q v H'
theorem ok_odd {f fT : Addr} {fd fdT : FuncData} (F : Fun K "_law_odd" "_law_odd" sOdd f fd) (G : FnOk P w K mg base CX0 1 fT fdT ["_law_bag_here", "_law_many"] spTake) (mT : mg "_law_take" = some (.ref fT)) (kT : PySem.W.keepIn K (.ref fT) = true)
    (bT : Binds K fdT ["_law_bag_here", "_law_many"] []) (mrange : mg "range" = none) : FnOk P w K mg base CX0 2 f fd ["_law_bag_here"] (spOdd w) := by
  refine F.ok scOdd (fun vs H Q E h => ?_) (fun cdv A outer s H vs Q E hr h => ?_)
  · obtain ⟨b, c, N, rfl, _⟩ := h
    rfl
  obtain ⟨b, c, N, rfl, hb, Nb, nt, k⟩ := h
  refine ⟨_, pss_cons (ps_set (i := 1) scOdd.nd rfl (.inl rfl) (pe_lst pa_nil))
    (pss_cons (ps_for PassesOwn.never rfl (pi_range1 (by rfl) mrange (pa_cons pe_int pa_nil)) (pg_name (i := 2) scOdd.nd rfl (.inl rfl)) (pss_one (ps_set (i := 1) scOdd.nd rfl (.inl rfl) (pe_lst (pa_cons (pv 1) pa_nil)))))
    (pss_cons (ps_set (i := 3) scOdd.nd rfl (.inl rfl) (pe_lst (pa_cons pe_non (pa_cons pe_bl (pa_cons pe_bl (pa_cons pe_int (pa_cons pe_int (pa_cons (pe_un un_neg pe_int) (pa_cons (pe_op op_pow pe_int pe_int) (pa_cons pe_str (pa_cons pe_str (pa_cons pe_str (pa_cons pe_str (pa_cons pe_str (pa_cons (pe_tup pa_nil) (pa_cons (pe_lst pa_nil) (pa_cons (pe_ghost pe_dnewK) (pa_cons (pe_lst (pa_cons pe_int pa_nil)) (pa_cons (pe_tup (pa_cons pe_str pa_nil)) pa_nil)))))))))))))))))))
    (pss_one (ps_ret (pe_ix ix_list (pe_op op_cat (pv 3) (pe_lst (pa_cons (pv 1) (pa_cons (pe_ghost (pe_disp (pps_cons pe_int pe_non pps_nil) rfl rfl (by decide) (by decide))) (pa_cons (pe_tup (pa_cons pe_str pa_nil)) (pa_cons (pe_tup (pa_cons pe_str (pa_cons pe_str pa_nil))) (pa_cons (pe_lst (pa_cons (pe_tup (pa_cons pe_str (pa_cons (pe_tup (pa_cons pe_str pa_nil)) pa_nil))) pa_nil)) pa_nil)))))))
      (pe_call G hr (by rfl) mT kT bT .nil pass0 (pa_cons (pv 0) (pa_cons pe_int pa_nil))) (fun _ _ => rfl)))))), ?_⟩
  refine ⟨Nat.zero_le _, fun l nl => ?_⟩
  have s1 : Same H (upd H l (.lst [])) := same_new nl _
  have x0 : OX w (upd H l (.lst [])) N 0 (.ref l) (deepD 0) := .lst upd_same (nt.no nl) .nil
  generalize (upd H l (.lst [])) = H1 at s1 x0 ⊢
  refine ⟨5, rfl, by decide, by decide, for_range (lo := 0) (n := 5) (fun i σ H3 => ∃ (a : Addr) (v2 : Option V), σ = [some (.ref b), some (.ref a), v2, none] ∧ Same H H3 ∧ OX w H3 N 0 (.ref a) (deepD i)) ⟨l, none, rfl, s1, x0⟩ ?_ ?_⟩
  · rintro i σ H3 hi ⟨a, v2, rfl, s3, xa⟩
    refine ⟨.ref a, rfl, small (by show 1 ≤ 1000; decide), fun p np => ?_⟩
    exact ⟨p, _, rfl, s3.trans (same_new np _), .lst upd_same ((nt.mono s3).no np) (.cons (xa.mono (ButN.of (same_new np _))) .nil)⟩
  · rintro σ H3 ⟨a, v2, rfl, s3, x0⟩
    have hb3 := hb.mono s3
    have nt3 := nt.mono s3
    refine ⟨1, rfl, 10, 39, rfl, rfl, ⟨by decide, by decide, by decide⟩, small (by decide), fun p1 np1 => ?_⟩
    have e_p1 : upd H3 p1 (HO.tup []) p1 = some (HO.tup []) := upd_same
    have s_1 : Same H3 (upd H3 p1 (HO.tup [])) := same_new np1 _
    replace x0 := x0.mono (ButN.of s_1)
    have xp1 : OX w (upd H3 p1 (HO.tup [])) N 0 (.ref p1) (.tuple []) := .tup upd_same (nt3.no np1) .nil
    replace hb3 := hb3.mono s_1
    replace nt3 := nt3.mono s_1
    replace s3 := s3.trans s_1
    generalize (upd H3 p1 (HO.tup [])) = G1 at hb3 nt3 s3 x0 xp1  e_p1 s_1 ⊢
    clear s_1
    refine ⟨small (by decide), fun p2 np2 => ?_⟩
    have e_p2 : upd G1 p2 (HO.lst []) p2 = some (HO.lst []) := upd_same
    have s_2 : Same G1 (upd G1 p2 (HO.lst [])) := same_new np2 _
    replace x0 := x0.mono (ButN.of s_2)
    replace xp1 := xp1.mono (ButN.of s_2)
    have xp2 : OX w (upd G1 p2 (HO.lst [])) N 0 (.ref p2) (.list []) := .lst upd_same (nt3.no np2) .nil
    replace hb3 := hb3.mono s_2
    replace nt3 := nt3.mono s_2
    replace s3 := s3.trans s_2
    generalize (upd G1 p2 (HO.lst [])) = G2 at hb3 nt3 s3 x0 xp1 xp2  e_p2 s_2 ⊢
    clear s_2
    intro p3 np3
    refine ⟨upd (upd G2 p3 (.dK [])) p3 (MixO w p3 (convD [])), ghost_dk upd_same, ?_⟩
    rw [upd_upd]
    have e_p3 : upd G2 p3 (MixO w p3 (convD [])) p3 = some (MixO w p3 (convD [])) := upd_same
    have s_3 : Same G2 (upd G2 p3 (MixO w p3 (convD []))) := same_new np3 _
    replace x0 := x0.mono (ButN.of s_3)
    replace xp1 := xp1.mono (ButN.of s_3)
    replace xp2 := xp2.mono (ButN.of s_3)
    have xp3 : OX w (upd G2 p3 (MixO w p3 (convD []))) N 0 (.ref p3) (.dict []) := .dct (kvs := []) (ds := []) upd_same (nt3.no np3) (fun q m => absurd m List.not_mem_nil) (fun q m => absurd m List.not_mem_nil) (fun q m => absurd m List.not_mem_nil) List.nodup_nil (.inl rfl) .nil
    replace hb3 := hb3.mono s_3
    replace nt3 := nt3.mono s_3
    replace s3 := s3.trans s_3
    generalize (upd G2 p3 (MixO w p3 (convD []))) = G3 at hb3 nt3 s3 x0 xp1 xp2 xp3  e_p3 s_3 ⊢
    clear s_3
    refine ⟨small (by decide), fun p4 np4 => ?_⟩
    have e_p4 : upd G3 p4 (HO.lst [V.int 0]) p4 = some (HO.lst [V.int 0]) := upd_same
    have s_4 : Same G3 (upd G3 p4 (HO.lst [V.int 0])) := same_new np4 _
    replace x0 := x0.mono (ButN.of s_4)
    replace xp1 := xp1.mono (ButN.of s_4)
    replace xp2 := xp2.mono (ButN.of s_4)
    replace xp3 := xp3.mono (ButN.of s_4)
    have xp4 : OX w (upd G3 p4 (HO.lst [V.int 0])) N 0 (.ref p4) (.list [.int 0]) := .lst upd_same (nt3.no np4) (.cons (.int 0) .nil)
    replace hb3 := hb3.mono s_4
    replace nt3 := nt3.mono s_4
    replace s3 := s3.trans s_4
    generalize (upd G3 p4 (HO.lst [V.int 0])) = G4 at hb3 nt3 s3 x0 xp1 xp2 xp3 xp4  e_p4 s_4 ⊢
    clear s_4
    refine ⟨small (by decide), fun p5 np5 => ?_⟩
    have e_p5 : upd G4 p5 (HO.tup [V.str "is"]) p5 = some (HO.tup [V.str "is"]) := upd_same
    have s_5 : Same G4 (upd G4 p5 (HO.tup [V.str "is"])) := same_new np5 _
    replace x0 := x0.mono (ButN.of s_5)
    replace xp1 := xp1.mono (ButN.of s_5)
    replace xp2 := xp2.mono (ButN.of s_5)
    replace xp3 := xp3.mono (ButN.of s_5)
    replace xp4 := xp4.mono (ButN.of s_5)
    have xp5 : OX w (upd G4 p5 (HO.tup [V.str "is"])) N 0 (.ref p5) (.tuple [.str "is"]) := .tup upd_same (nt3.no np5) (.cons (.str "is" (lowS (by decide +kernel))) .nil)
    replace hb3 := hb3.mono s_5
    replace nt3 := nt3.mono s_5
    replace s3 := s3.trans s_5
    generalize (upd G4 p5 (HO.tup [V.str "is"])) = G5 at hb3 nt3 s3 x0 xp1 xp2 xp3 xp4 xp5  e_p5 s_5 ⊢
    clear s_5
    refine ⟨small (by show 17 ≤ 1000; decide), fun L nL => ?_⟩
    have bx : OXs w G5 N 0 [V.non, V.bl true, V.bl false, V.int 0, V.int 1, V.int (-1), V.int ((10 : Int) ^ (39 : Int).toNat), V.str "", V.str "a", V.str "ab c", V.str "+a", V.str "mark", V.ref p1, V.ref p2, V.ref p3, V.ref p4, V.ref p5] (oddDs.take 17) := .cons .non (.cons (.bl true) (.cons (.bl false) (.cons (.int 0) (.cons (.int 1) (.cons (.int (-1)) (.cons (.int _) (.cons (.str _ (lowS (by decide +kernel))) (.cons (.str _ (lowS (by decide +kernel))) (.cons (.str _ (lowS (by decide +kernel))) (.cons (.str _ (lowS (by decide +kernel))) (.cons (.str _ (lowS (by decide +kernel))) (.cons xp1 (.cons xp2 (.cons xp3 (.cons xp4 (.cons xp5 .nil))))))))))))))))
    have ln : [V.non, V.bl true, V.bl false, V.int 0, V.int 1, V.int (-1), V.int ((10 : Int) ^ (39 : Int).toNat), V.str "", V.str "a", V.str "ab c", V.str "+a", V.str "mark", V.ref p1, V.ref p2, V.ref p3, V.ref p4, V.ref p5].length = 17 := rfl
    show gName 3 (.ref L) _ (upd G5 L (.lst [V.non, V.bl true, V.bl false, V.int 0, V.int 1, V.int (-1), V.int ((10 : Int) ^ (39 : Int).toNat), V.str "", V.str "a", V.str "ab c", V.str "+a", V.str "mark", V.ref p1, V.ref p2, V.ref p3, V.ref p4, V.ref p5])) _
    generalize [V.non, V.bl true, V.bl false, V.int 0, V.int 1, V.int (-1), V.int ((10 : Int) ^ (39 : Int).toNat), V.str "", V.str "a", V.str "ab c", V.str "+a", V.str "mark", V.ref p1, V.ref p2, V.ref p3, V.ref p4, V.ref p5] = xs at bx ln ⊢
    clear xp1 xp2 xp3 xp4 xp5 e_p1 e_p2 e_p3 e_p4 e_p5
    have e_L : upd G5 L (HO.lst xs) L = some (HO.lst xs) := upd_same
    have s_6 : Same G5 (upd G5 L (HO.lst xs)) := same_new nL _
    replace x0 := x0.mono (ButN.of s_6)
    replace bx := bx.mono (ButN.of s_6)
    have xL : True := True.intro
    replace hb3 := hb3.mono s_6
    replace nt3 := nt3.mono s_6
    replace s3 := s3.trans s_6
    generalize (upd G5 L (HO.lst xs)) = G6 at hb3 nt3 s3 x0 bx xL  e_L s_6 ⊢
    clear s_6
    refine ⟨.ref L, rfl, .ref a, rfl, fun q nq => ⟨upd_same, [(.inl 0, .non)], rfl, by decide, ?_⟩⟩
    refine ⟨upd (upd (upd G6 q (.dK [])) q (.dK (mergeK [] [(Sum.inl 0, V.non)]))) q (MixO w q (convD (mergeK [] [(Sum.inl 0, V.non)]))), ghost_dk upd_same, ?_⟩
    rw [upd_upd, upd_upd]
    have nq2 := nq
    have e_q : upd G6 q (MixO w q (convD (mergeK [] [(Sum.inl 0, V.non)]))) q = some (MixO w q (convD (mergeK [] [(Sum.inl 0, V.non)]))) := upd_same
    have s_7 : Same G6 (upd G6 q (MixO w q (convD (mergeK [] [(Sum.inl 0, V.non)])))) := same_new nq _
    replace e_L := s_7 _ _ e_L
    replace x0 := x0.mono (ButN.of s_7)
    replace bx := bx.mono (ButN.of s_7)
    have xq : OX w (upd G6 q (MixO w q (convD (mergeK [] [(Sum.inl 0, V.non)])))) N 0 (.ref q) (.dict [(.int 0, .none)]) := .dct (kvs := [(.int 0, .non)]) (ds := [.none]) upd_same (nt3.no nq) (fun q m e ee => by cases List.mem_singleton.mp m; exact nomatch ee) (fun q m e ee => by cases List.mem_singleton.mp m; exact nomatch ee) (fun q m z ee => by cases List.mem_singleton.mp m; exact nomatch ee) (by simp) (.inr rfl) (.cons .non .nil)
    replace hb3 := hb3.mono s_7
    replace nt3 := nt3.mono s_7
    replace s3 := s3.trans s_7
    generalize (upd G6 q (MixO w q (convD (mergeK [] [(Sum.inl 0, V.non)])))) = G7 at hb3 nt3 s3 x0 bx xq e_L e_q s_7 ⊢
    clear s_7
    refine ⟨small (by show 1 ≤ 1000; decide), fun p6 np6 => ?_⟩
    have e_p6 : upd G7 p6 (HO.tup [V.str "tag"]) p6 = some (HO.tup [V.str "tag"]) := upd_same
    have s_8 : Same G7 (upd G7 p6 (HO.tup [V.str "tag"])) := same_new np6 _
    replace e_L := s_8 _ _ e_L
    replace x0 := x0.mono (ButN.of s_8)
    replace bx := bx.mono (ButN.of s_8)
    replace xq := xq.mono (ButN.of s_8)
    have xp6 : OX w (upd G7 p6 (HO.tup [V.str "tag"])) N 0 (.ref p6) (.tuple [.str "tag"]) := .tup upd_same (nt3.no np6) (.cons (.str "tag" (lowS (by decide +kernel))) .nil)
    replace hb3 := hb3.mono s_8
    replace nt3 := nt3.mono s_8
    replace s3 := s3.trans s_8
    generalize (upd G7 p6 (HO.tup [V.str "tag"])) = G8 at hb3 nt3 s3 x0 bx xq xp6 e_L e_p6 s_8 ⊢
    clear s_8
    refine ⟨small (by show 2 ≤ 1000; decide), fun p7 np7 => ?_⟩
    have e_p7 : upd G8 p7 (HO.tup [V.str "none", V.str "a"]) p7 = some (HO.tup [V.str "none", V.str "a"]) := upd_same
    have s_9 : Same G8 (upd G8 p7 (HO.tup [V.str "none", V.str "a"])) := same_new np7 _
    replace e_L := s_9 _ _ e_L
    replace x0 := x0.mono (ButN.of s_9)
    replace bx := bx.mono (ButN.of s_9)
    replace xq := xq.mono (ButN.of s_9)
    replace xp6 := xp6.mono (ButN.of s_9)
    have xp7 : OX w (upd G8 p7 (HO.tup [V.str "none", V.str "a"])) N 0 (.ref p7) (.tuple [.str "none", .str "a"]) := .tup upd_same (nt3.no np7) (.cons (.str "none" (lowS (by decide +kernel))) (.cons (.str "a" (lowS (by decide +kernel))) .nil))
    replace hb3 := hb3.mono s_9
    replace nt3 := nt3.mono s_9
    replace s3 := s3.trans s_9
    generalize (upd G8 p7 (HO.tup [V.str "none", V.str "a"])) = G9 at hb3 nt3 s3 x0 bx xq xp6 xp7 e_L e_p7 s_9 ⊢
    clear s_9
    refine ⟨small (by show 1 ≤ 1000; decide), fun p8 np8 => ?_⟩
    have e_p8 : upd G9 p8 (HO.tup [V.str "none"]) p8 = some (HO.tup [V.str "none"]) := upd_same
    have s_10 : Same G9 (upd G9 p8 (HO.tup [V.str "none"])) := same_new np8 _
    replace e_L := s_10 _ _ e_L
    replace x0 := x0.mono (ButN.of s_10)
    replace bx := bx.mono (ButN.of s_10)
    replace xq := xq.mono (ButN.of s_10)
    replace xp6 := xp6.mono (ButN.of s_10)
    replace xp7 := xp7.mono (ButN.of s_10)
    have xp8 : OX w (upd G9 p8 (HO.tup [V.str "none"])) N 0 (.ref p8) (.tuple [.str "none"]) := .tup upd_same (nt3.no np8) (.cons (.str "none" (lowS (by decide +kernel))) .nil)
    replace hb3 := hb3.mono s_10
    replace nt3 := nt3.mono s_10
    replace s3 := s3.trans s_10
    generalize (upd G9 p8 (HO.tup [V.str "none"])) = G10 at hb3 nt3 s3 x0 bx xq xp6 xp7 xp8 e_L e_p8 s_10 ⊢
    clear s_10
    refine ⟨small (by show 2 ≤ 1000; decide), fun p9 np9 => ?_⟩
    have e_p9 : upd G10 p9 (HO.tup [V.str "not", V.ref p8]) p9 = some (HO.tup [V.str "not", V.ref p8]) := upd_same
    have s_11 : Same G10 (upd G10 p9 (HO.tup [V.str "not", V.ref p8])) := same_new np9 _
    replace e_L := s_11 _ _ e_L
    replace x0 := x0.mono (ButN.of s_11)
    replace bx := bx.mono (ButN.of s_11)
    replace xq := xq.mono (ButN.of s_11)
    replace xp6 := xp6.mono (ButN.of s_11)
    replace xp7 := xp7.mono (ButN.of s_11)
    replace xp8 := xp8.mono (ButN.of s_11)
    have xp9 : OX w (upd G10 p9 (HO.tup [V.str "not", V.ref p8])) N 0 (.ref p9) (.tuple [.str "not", .tuple [.str "none"]]) := .tup upd_same (nt3.no np9) (.cons (.str "not" (lowS (by decide +kernel))) (.cons xp8 .nil))
    replace hb3 := hb3.mono s_11
    replace nt3 := nt3.mono s_11
    replace s3 := s3.trans s_11
    generalize (upd G10 p9 (HO.tup [V.str "not", V.ref p8])) = G11 at hb3 nt3 s3 x0 bx xq xp6 xp7 xp8 xp9 e_L e_p9 s_11 ⊢
    clear s_11
    refine ⟨small (by show 1 ≤ 1000; decide), fun pa npa => ?_⟩
    have e_pa : upd G11 pa (HO.lst [V.ref p9]) pa = some (HO.lst [V.ref p9]) := upd_same
    have s_12 : Same G11 (upd G11 pa (HO.lst [V.ref p9])) := same_new npa _
    replace e_L := s_12 _ _ e_L
    replace x0 := x0.mono (ButN.of s_12)
    replace bx := bx.mono (ButN.of s_12)
    replace xq := xq.mono (ButN.of s_12)
    replace xp6 := xp6.mono (ButN.of s_12)
    replace xp7 := xp7.mono (ButN.of s_12)
    replace xp8 := xp8.mono (ButN.of s_12)
    replace xp9 := xp9.mono (ButN.of s_12)
    have xpa : OX w (upd G11 pa (HO.lst [V.ref p9])) N 0 (.ref pa) (.list [.tuple [.str "not", .tuple [.str "none"]]]) := .lst upd_same (nt3.no npa) (.cons xp9 .nil)
    replace hb3 := hb3.mono s_12
    replace nt3 := nt3.mono s_12
    replace s3 := s3.trans s_12
    generalize (upd G11 pa (HO.lst [V.ref p9])) = G12 at hb3 nt3 s3 x0 bx xq xp6 xp7 xp8 xp9 xpa e_L e_pa s_12 ⊢
    clear s_12
    refine ⟨small (by show 5 ≤ 1000; decide), fun pb npb => ?_⟩
    have all : OXs w G12 N 0 (xs ++ [V.ref a, V.ref q, V.ref p6, V.ref p7, V.ref pa]) oddDs := OXs.app bx (.cons x0 (.cons xq (.cons xp6 (.cons xp7 (.cons xpa .nil)))))
    clear x0 bx xq xp6 xp7 xp8 xp9 xpa
    have e_pb : upd G12 pb (HO.lst [V.ref a, V.ref q, V.ref p6, V.ref p7, V.ref pa]) pb = some (HO.lst [V.ref a, V.ref q, V.ref p6, V.ref p7, V.ref pa]) := upd_same
    have s_13 : Same G12 (upd G12 pb (HO.lst [V.ref a, V.ref q, V.ref p6, V.ref p7, V.ref pa])) := same_new npb _
    replace e_L := s_13 _ _ e_L
    replace all := all.mono (ButN.of s_13)
    have xpb : True := True.intro
    replace hb3 := hb3.mono s_13
    replace nt3 := nt3.mono s_13
    replace s3 := s3.trans s_13
    generalize (upd G12 pb (HO.lst [V.ref a, V.ref q, V.ref p6, V.ref p7, V.ref pa])) = G13 at hb3 nt3 s3 all xpb e_L e_pb s_13 ⊢
    clear s_13
    refine ⟨L, pb, _, _, rfl, rfl, e_L, e_pb, small (by rw [ln]; show 22 ≤ 1000; decide), fun r nr => ?_⟩
    have hb9 : BagAt (upd G13 r (.lst (xs ++ [V.ref a, V.ref q, V.ref p6, V.ref p7, V.ref pa]))) b c := hb3.new nr
    refine ⟨.ref b, rfl, b, c, 22, rfl, hb9, by decide, by decide, fun i H' i0 i1 hb2 B2 => ?_⟩
    obtain ⟨j, rfl⟩ := Int.eq_ofNat_of_zero_le i0
    have len : (xs ++ [V.ref a, V.ref q, V.ref p6, V.ref p7, V.ref pa]).length = 22 := by
      rw [List.length_append, ln]
      rfl
    have lt : j < (xs ++ [V.ref a, V.ref q, V.ref p6, V.ref p7, V.ref pa]).length := by
      rw [len]
      omega
    have nrb : r ≠ b := hb3.nb nr
    refine ⟨r, _, _, _, rfl, rfl, .inl (.inl (B2 r _ upd_same nrb)), atI_nat (List.getElem?_eq_getElem lt), ?_⟩
    obtain ⟨d, ed, xd⟩ := all.get (List.getElem?_eq_getElem lt)
    exact k _ d H' (xd.mono ((ButN.of (same_new nr _)).trans (ButN.bag B2 Nb))) (fine_of (List.all_eq_true.mp odd_fine d (List.mem_of_getElem? ed))) hb2 (((But.of s3).new nr).trans B2)
end
end Lw

set_option Elab.async false
set_option linter.all false
set_option maxRecDepth 100000
set_option maxHeartbeats 4000000
namespace Lw
open PySem PySem.Spec PyProof.Rows L2
def tyD : PyData → String
  | .none => "NoneType"
  | .bool _ => "bool"
  | .int _ => "int"
  | .str _ => "str"
  | .list _ => "list"
  | .tuple _ => "tuple"
  | .dict _ => "dict"
def lenD : PyData → Nat
  | .str z => z.length
  | .list ds => ds.length
  | .tuple ds => ds.length
  | .dict kds => kds.length
  | _ => 0
/-- whether it has a length -/
def seqD : PyData → Bool
  | .str _ => true
  | .list _ => true
  | .tuple _ => true
  | .dict _ => true
  | _ => false
theorem kit_seq (K : PySem.W.Frag) (d : PyData) : PySem.W.kitAny K (.type (tyD d)) [.type "list", .type "tuple", .type "dict", .type "str"] = some (seqD d) := by
  cases d <;> rfl
def isD (T : String) (d : PyData) : Bool := tyD d == T
theorem kit_str (K : PySem.W.Frag) (d : PyData) : PySem.W.kitOne K (.type (tyD d)) (.type "str") = some (isD "str" d) := by cases d <;> rfl
theorem kit_dict (K : PySem.W.Frag) (d : PyData) : PySem.W.kitOne K (.type (tyD d)) (.type "dict") = some (isD "dict" d) := by cases d <;> rfl
theorem kit_tuple (K : PySem.W.Frag) (d : PyData) : PySem.W.kitOne K (.type (tyD d)) (.type "tuple") = some (isD "tuple" d) := by cases d <;> rfl
theorem kit_list (K : PySem.W.Frag) (d : PyData) : PySem.W.kitOne K (.type (tyD d)) (.type "list") = some (isD "list" d) := by cases d <;> rfl
def isIntD : PyData → Bool
  | .int _ => true
  | .bool _ => true
  | _ => false
theorem kit_int (K : PySem.W.Frag) (d : PyData) : PySem.W.kitOne K (.type (tyD d)) (.type "int") = some (isIntD d) := by cases d <;> rfl
theorem kit_bool (K : PySem.W.Frag) (d : PyData) : PySem.W.kitOne K (.type (tyD d)) (.type "bool") = some (isD "bool" d) := by cases d <;> rfl
section
variable {K : PySem.W.Frag} {w : World} {H : Hp} {N : Addr → Prop} {g : Nat} {v : V} {d : PyData}
theorem OX.ty (x : OX w H N g v d) : TyM K w H v (.type (tyD d)) := by
  cases x with
  | non => exact .base (.base .non)
  | bl c => exact .base (.base (.bl c))
  | int i => exact .base (.base (.int i))
  | str z => exact .base (.base (.str z))
  | lst e => exact .base (.base (.lst e))
  | tup e => exact .base (.base (.tup e))
  | dct e => exact .mix e
end
section
variable {X : Cx}
/-- len(x) of a value of any kind that has a length -/
def rLenO (w : World) : List V → Hp → VK → Prop := fun vs H Q => ∃ (v : V) (d : PyData) (N : Addr → Prop) (g n : Nat), vs = [v] ∧ OX w H N g v d ∧ seqD d = true ∧ Fine d n 100000 ∧ Q (.int (lenD d)) H
theorem zip_len {kvs : List Mkv} {ds : List PyData} (h : (kvs.map (·.2)).length = ds.length) : (((kvs.map fun p => p.1.dt).zip ds)).length = kvs.length := by
  rw [List.length_map] at h
  rw [List.length_zip, List.length_map, h, Nat.min_self]
theorem call_lenO : CallR X (.builtin "len") (rLenO X.w) := by
  intro pl s σ H vs us Q J r h
  obtain ⟨v, d, N, g, n, rfl, ox, sq, fi, q⟩ := h
  cases ox with
  | non => cases sq
  | bl c => cases sq
  | int i => cases sq
  | str z l =>
    have := fi.wt
    exact call_len pl s σ H _ us Q J r ⟨_, _, rfl, ⟨by rw [sizeLine_eq]; exact Nat.le_trans this (by decide), rfl⟩, q⟩
  | lst e _ ds =>
    refine call_len_seq pl s σ H _ us Q J r ⟨_, _, rfl, .inl (SqL.of e), ?_⟩
    rw [ds.len]
    exact q
  | tup e _ ds =>
    refine call_len_seq pl s σ H _ us Q J r ⟨_, _, rfl, .inr (SqT.of e), ?_⟩
    rw [ds.len]
    exact q
  | dct e _ _ _ _ _ _ ds =>
    refine call_lenM pl s σ H _ us Q J r ⟨_, _, rfl, e, ?_⟩
    rw [← zip_len ds.len]
    exact q
/-- a sign, eight times -/
def rep8 (c : Nat) : Str := ⟨#[c, c, c, c, c, c, c, c]⟩
theorem op_rep8 : OpR X (binaryOp .Mult) (fun x y H Q => ∃ c, x = .str ⟨#[c]⟩ ∧ y = .int 8 ∧ Q (.str (rep8 c)) H) := by
  intro pl s σ H x y v u Q J rx ry h
  obtain ⟨c, rfl, rfl, q⟩ := h
  obtain ⟨t, rfl⟩ := (show ∃ t, v = Value.str ⟨#[c]⟩ t from rx)
  obtain ⟨t', rfl⟩ := (show ∃ t, u = Value.int 8 t from ry)
  refine PySem.P.mul_str (by decide) (fun _ _ => by show ¬ (((1 : Nat) : Int) > _); decide) (fun _ _ => rfl) ?_
  rw [if_neg (by decide), if_neg (by show ¬ (((8 : Int) == 1 || (1 : Nat) == 0) = true); decide)]
  exact ⟨by show 8 ≤ sizeLine; decide, ⟨.str (rep8 c), H, J.tok _, ⟨_, rfl⟩, q⟩⟩
end
end Lw

set_option Elab.async false
set_option linter.all false
set_option maxRecDepth 100000
set_option maxHeartbeats 4000000
/-! the tails of _law_spoilt: what it does with a text -/
namespace Lw
open PySem PySem.Spec PyProof.Rows L2
theorem OX.to {w : World} {H : Hp} {N : Addr → Prop} {v : V} {d : PyData} (x : OX w H N 0 v d) : ∀ g, OX w H N g v d
  | 0 => x
  | g + 1 => (x.to g).up
theorem low_cut {z : Str} (h : LowS z) (lo hi : Option Int) : LowS (cutS z lo hi) := fun c hc => by
  unfold cutS at hc
  exact h c (List.mem_of_mem_drop (List.mem_of_mem_take hc))
theorem low_app {y z : Str} (h : LowS y) (k : LowS z) : LowS (y ++ z) := fun c hc => by
  have e : (y ++ z).cps.toList = y.cps.toList ++ z.cps.toList := Array.toList_append
  rw [e] at hc
  exact (List.mem_append.mp hc).elim (h c) (k c)
theorem len_app (y z : Str) : (y ++ z).length = y.length + z.length := Array.size_append
theorem low_one {c : Nat} (h : c < 256) : LowS ⟨#[c]⟩ := fun d hd => by
  cases List.mem_singleton.mp hd
  exact h
theorem low_rep8 {c : Nat} (h : c < 256) : LowS (rep8 c) := fun d hd => by
  have hd : d ∈ [c, c, c, c, c, c, c, c] := hd
  simp only [List.mem_cons, List.not_mem_nil, or_false, or_self] at hd
  rw [hd]; exact h
abbrev SIGNS : Str := "aZ+. 0\nz_"
theorem sign_at {i : Int} (h0 : 0 ≤ i) (h1 : i < 9) : ∃ c, atI SIGNS.cps.toList i = some c ∧ c < 256 := by
  obtain ⟨j, rfl⟩ := Int.eq_ofNat_of_zero_le h0
  have hl : j < SIGNS.cps.toList.length := by
    have : SIGNS.cps.toList.length = 9 := by decide +kernel
    omega
  refine ⟨SIGNS.cps.toList[j], atI_nat (List.getElem?_eq_getElem hl), ?_⟩
  have : (SIGNS.cps.toList.all fun c => decide (c < 256)) = true := by decide +kernel
  exact of_decide_eq_true (List.all_eq_true.mp this _ (List.getElem_mem hl))
abbrev rAddS : R2 := fun x y H Q => ∃ i j, x = .str i ∧ y = .str j ∧ i.length + j.length ≤ sizeLine ∧ Q (.str (i ++ j)) H
abbrev tCutL : TE := tSl rSlS (tVar 1) tNoPart (tPart (tVar 3))
abbrev tCutR : TE := tSl rSlS (tVar 1) (tPart (tOp (rI0 fun i j => .int (i + j)) (tVar 3) (tC (.int 1)))) tNoPart
abbrev tTk (n : Int) : TE := tCall spTake [] E0 (tCons (tVar 0) (tCons (tC (.int n)) tNil))
def tStrTail (K : PySem.W.Frag) : TS := tSeq (tAsg (tOp rIxS (tC (.str SIGNS)) (tTk 9)) (gName 4))
  (tRet (tOp (rIxL K) (tLst (tCons (tOp rAddS (tOp rAddS tCutL (tVar 4)) tCutR) (tCons (tOp rAddS tCutL tCutR) (tCons (tOp rAddS (tVar 1) (tOp (fun x y H Q => ∃ c, x = .str ⟨#[c]⟩ ∧ y = .int 8 ∧ Q (.str (rep8 c)) H) (tVar 4) (tC (.int 8)))) tNil)))) (tTk 3)))
theorem str_tail {K : PySem.W.Frag} {D : Ends} {H : Hp} {b c : Addr} {z : Str} {r at_ : Nat} (hb : BagAt H b c) (lz : LowS z) (hz : z.length ≤ 20000)
    (k : ∀ (y : Str) (H' : Hp), LowS y → y.length ≤ 2 * z.length + 300 → BagAt H' b c → But b H H' → D.rt (.str y) H') :
    tStrTail K D [some (.ref b), some (.str z), some (.int r), some (.int at_), none, none, none, none, none] H := by
  have sz : z.length ≤ sizeLine := by rw [sizeLine_eq]; omega
  refine ⟨.ref b, rfl, b, c, 9, rfl, hb, by decide, by decide, fun sg H4 s0 s1 hb4 B4 => ?_⟩
  obtain ⟨cc, ec, lc⟩ := sign_at s0 s1
  refine ⟨_, _, cc, rfl, rfl, by decide +kernel, ec, ?_⟩
  generalize hL : cutS z none (some (at_ : Int)) = L
  generalize hR : cutS z (some ((at_ : Int) + 1)) none = R
  have l1 : L.length ≤ z.length := by rw [← hL]; exact cutS_length z _ _
  have l2 : R.length ≤ z.length := by rw [← hR]; exact cutS_length z _ _
  have w1 : LowS L := by rw [← hL]; exact low_cut lz _ _
  have w2 : LowS R := by rw [← hR]; exact low_cut lz _ _
  have one1 : (⟨#[cc]⟩ : Str).length = 1 := rfl
  have eight : (rep8 cc).length = 8 := rfl
  have sl : sizeLine = 16777216 := sizeLine_eq
  refine ⟨.str z, rfl, .int at_, rfl, at_, rfl, z, rfl, sz, ?_⟩
  rw [hL]
  refine ⟨.str ⟨#[cc]⟩, rfl, L, ⟨#[cc]⟩, rfl, rfl, by omega, ?_⟩
  refine ⟨.str z, rfl, .int at_, rfl, at_, 1, rfl, rfl, _, rfl, z, rfl, sz, ?_⟩
  rw [hR]
  refine ⟨L ++ ⟨#[cc]⟩, R, rfl, rfl, by rw [len_app]; omega, ?_⟩
  refine ⟨.str z, rfl, .int at_, rfl, at_, rfl, z, rfl, sz, ?_⟩
  rw [hL]
  refine ⟨.str z, rfl, .int at_, rfl, at_, 1, rfl, rfl, _, rfl, z, rfl, sz, ?_⟩
  rw [hR]
  refine ⟨L, R, rfl, rfl, by omega, ?_⟩
  refine ⟨.str z, rfl, .str ⟨#[cc]⟩, rfl, cc, rfl, rfl, z, rep8 cc, rfl, rfl, by omega, ?_⟩
  refine ⟨small (by show 3 ≤ 1000; decide), fun l nl => ?_⟩
  have nlb := hb4.nb nl
  refine ⟨.ref b, rfl, b, c, 3, rfl, hb4.new nl, by decide, by decide, fun q H5 q0 q1 hb5 B5 => ?_⟩
  have B : But b H H5 := (B4.new nl).trans B5
  have e5 := B5 l _ upd_same nlb
  rcases (by omega : q = 0 ∨ q = 1 ∨ q = 2) with rfl | rfl | rfl
  · exact ⟨l, _, 0, _, rfl, rfl, .inl (.inl e5), atI_nat (j := 0) rfl, k _ H5 (low_app (low_app w1 (low_one lc)) w2) (by rw [len_app, len_app]; omega) hb5 B⟩
  · exact ⟨l, _, 1, _, rfl, rfl, .inl (.inl e5), atI_nat (j := 1) rfl, k _ H5 (low_app w1 w2) (by rw [len_app]; omega) hb5 B⟩
  · exact ⟨l, _, 2, _, rfl, rfl, .inl (.inl e5), atI_nat (j := 2) rfl, k _ H5 (low_app lz (low_rep8 lc)) (by rw [len_app]; omega) hb5 B⟩
end Lw

set_option Elab.async false
set_option linter.all false
set_option maxRecDepth 100000
set_option maxHeartbeats 4000000
/-! the tails of _law_spoilt: what it does with a list, a tuple -/
namespace Lw
open PySem PySem.Spec PyProof.Rows L2
abbrev rListOf (K : PySem.W.Frag) : List V → Hp → VK → Prop := fun xs H Q => ∃ p ys, xs = [.ref p] ∧ (SqL K H p ys ∨ SqT K H p ys) ∧ ∀ l, H l = none → Q (.ref l) (upd H l (.lst ys))
abbrev rTupOf (K : PySem.W.Frag) : List V → Hp → VK → Prop := fun xs H Q => ∃ p ys, xs = [.ref p] ∧ ((SqL K H p ys ∧ ∀ l, H l = none → Q (.ref l) (upd H l (.tup ys))) ∨ (SqT K H p ys ∧ Q (.ref p) H))
abbrev rInsL : V → List V → Hp → VK → Prop := fun x vs H Q => ∃ (l : Addr) (xs : List V) (i : Int) (y : V), x = .ref l ∧ vs = [.int i, y] ∧ H l = some (.lst xs) ∧ xs.length < sizeLine ∧ 0 ≤ i ∧ i < 2 ^ 63 ∧ Q .non (upd H l (.lst (xs.take i.toNat ++ [y] ++ xs.drop i.toNat)))
def tRet8 (K : PySem.W.Frag) (w : World) (T : String) : TS := tRet (tIf (tB (tCB (rIsiM K w) (tCons (tVar 1) (tCons (tC (.ty T)) tNil)))) (tVar 8) (tCB (rTupOf K) (tCons (tVar 8) tNil)))
abbrev tKind (n : Int) : TT := tTest (tOp rEq (tVar 2) (tC (.int n)))
abbrev tHere (K : PySem.W.Frag) : TE := tOp (rIxL K) (tVar 8) (tVar 3)
def tSeqTail (K : PySem.W.Frag) (w : World) (sp : Sp) : TS := tSeq (tAsg (tCB (rListOf K) (tCons (tVar 1) tNil)) (gName 8))
  (tSeq (tIfS (tKind 1) (tDrop (tBM K "list" rPopAt (tVar 8) (tCons (tVar 3) tNil)))
    (tIfS (tKind 2) (tDrop (tBM K "list" rInsL (tVar 8) (tCons (tVar 3) (tCons (tHere K) tNil))))
      (tIfS (tKind 3) (tRet8 K w "tuple") (tAsg (tCall sp [] E0 (tCons (tVar 0) (tCons (tHere K) tNil))) (gSub (tVar 8) (tVar 3) rSetL)))))
  (tRet8 K w "list"))
theorem ret8 {w : World} {K : PySem.W.Frag} {D : Ends} {σ : L2.St} {H : Hp} {b c p : Addr} {N : Addr → Prop} {v : V} {d : PyData} {g g' : Nat} {T : String} {xs : List V} {ds : List PyData} (h1 : σ[1]? = some (some v)) (h8 : σ[8]? = some (some (.ref p))) (ox : OX w H N g v d) (kit : PySem.W.kitOne K (.type (tyD d)) (.type T) = some (isD T d))
    (e : H p = some (.lst xs)) (np : ¬ N p) (x : OXs w H N g' xs ds) (hb : BagAt H b c) (nt : NT H N) (k : ∀ (v' : V) (d' : PyData) (H' : Hp), OX w H' N g' v' d' → (d' = .list ds ∨ d' = .tuple ds) → BagAt H' b c → But b H H' → D.rt v' H') : tRet8 K w T D σ H := by
  refine ⟨v, h1, v, .ty T, _, _, isD T d, rfl, .ty _, ox.ty, kit, _, rfl, ?_⟩
  cases hd : isD T d with
  | true => exact tt_if rfl ⟨.ref p, h8, k _ _ H (.lst e np x) (.inl rfl) hb (But.refl b H)⟩
  | false => exact ff_if rfl ⟨.ref p, h8, p, xs, rfl, .inl ⟨SqL.of e, fun l nl => k _ _ _ (.tup upd_same (nt.no nl) (x.mono (ButN.of (same_new nl _)))) (.inr rfl) (hb.new nl) (But.of (same_new nl _))⟩⟩
theorem seq_tail {w : World} {K : PySem.W.Frag} {D : Ends} {H : Hp} {b c a : Addr} {N : Addr → Prop} {v : V} {d : PyData} {r at_ g n : Nat} {xs : List V} {ds : List PyData} {sp : Sp} (hb : BagAt H b c) (Nb : N b) (nt : NT H N) (ev : v = .ref a) (ox : OX w H N g v d) (hq : SqL K H a xs ∨ SqT K H a xs) (x : OXs w H N g xs ds) (fa : FineAll ds n 20000) (lt : at_ < xs.length) (lz : xs.length ≤ 20000)
    (IH : ∀ (v₁ : V) (d₁ : PyData) (H₁ : Hp) (M : Addr → Prop) (Q : VK), M b → NT H₁ M → OX w H₁ M g v₁ d₁ → Fine d₁ n 20000 → BagAt H₁ b c → (∀ (v' : V) (d' : PyData) (H' : Hp), OX w H' M (g + 1) v' d' → Fine d' (n + 7) (2 * d₁.weight + 300) → BagAt H' b c → But b H₁ H' → Q v' H') → sp [.ref b, v₁] H₁ Q E0)
    (k : ∀ (v' : V) (ds' : List PyData) (d' : PyData) (H' : Hp), OX w H' N (g + 1) v' d' → (d' = .list ds' ∨ d' = .tuple ds') → FineAll ds' (n + 7) (2 * PyData.weightAll ds + 300) → BagAt H' b c → But b H H' → D.rt v' H') :
    tSeqTail K w sp D [some (.ref b), some v, some (.int r), some (.int at_), none, none, none, none, none] H := by
  subst ev
  have sl : sizeLine = 16777216 := sizeLine_eq
  refine ⟨.ref a, rfl, a, xs, rfl, hq, fun p np => ?_⟩
  have s1 := same_new np (HO.lst xs)
  have hb1 := hb.mono s1
  have nb := hb.nb np
  have Np : ¬ N p := nt.no np
  have nt1 := nt.mono s1
  have ox1 := ox.mono (ButN.of s1)
  have x1 := (x.bar np).mono (ButN.of s1)
  have B1 : But b H (upd H p (.lst xs)) := But.of s1
  have e1 : (upd H p (.lst xs)) p = some (.lst xs) := upd_same
  show tSeq _ _ D [some (.ref b), some (.ref a), some (.int r), some (.int at_), none, none, none, none, some (.ref p)] (upd H p (.lst xs))
  generalize hH : upd H p (.lst xs) = H1 at hb1 ox1 x1 B1 e1 s1 nt1 ⊢
  obtain ⟨y, ey⟩ : ∃ y, xs[at_]? = some y := ⟨xs[at_], List.getElem?_eq_getElem lt⟩
  obtain ⟨dy, edy, oy⟩ := x1.get ey
  have fw : ∀ {m m' : Nat} {es : List PyData}, FineAll es m m' → m ≤ n + 7 → m' ≤ 2 * PyData.weightAll ds + 300 → FineAll es (n + 7) (2 * PyData.weightAll ds + 300) := fun f h1 h2 => f.le h1 h2
  have fa' : FineAll ds n (PyData.weightAll ds) := ⟨fa.ok, Nat.le_refl _⟩
  have put : ∀ {G : Hp} {o : HO}, But b H G → But b H (upd G p o) := fun B => B.put np
  have ntp : ∀ {G : Hp} {o : HO}, NT G N → NT (upd G p o) N := fun t z m => by
    obtain ⟨o', e'⟩ := t z m
    have zp : z ≠ p := fun q => by rw [q] at m; exact Np m
    exact ⟨o', by rw [upd_ne zp]; exact e'⟩
  refine ⟨.int r, rfl, rfl, _, rfl, ?_⟩
  by_cases k1 : V.int r = V.int 1
  · refine tt_if (decide_eq_true k1) ?_
    refine ⟨.ref p, rfl, .inl ⟨rfl, _, SqL.of e1⟩, .int at_, rfl, p, xs, at_, at_, y, rfl, rfl, e1, by omega, by omega, by rw [seqIndex_of (by omega) (by omega)]; rfl, ey, ?_⟩
    have x2 : OXs w (upd H1 p (.lst (xs.eraseIdx at_))) N (g + 1) (xs.eraseIdx at_) (ds.eraseIdx at_) := ((x.mono (ButN.bag (put B1) Nb)).erase at_).up
    refine ret8 (b := b) (c := c) (d := d) (g := g) rfl rfl (ox.mono (ButN.bag (put B1) Nb)) (kit_list K d) upd_same Np x2 (hb1.set nb (hb.nc np)) (ntp nt1) fun v' d' H' o' q hb' B' => ?_
    exact k v' _ d' H' o' q (fw (fa'.erase at_) (by omega) (by omega)) hb' ((put B1).trans B')
  refine ff_if (decide_eq_false k1) ⟨.int r, rfl, rfl, _, rfl, ?_⟩
  by_cases k2 : V.int r = V.int 2
  · refine tt_if (decide_eq_true k2) ?_
    refine ⟨.ref p, rfl, .inl ⟨rfl, _, SqL.of e1⟩, .int at_, rfl, .ref p, rfl, .int at_, rfl, p, xs, at_, y, rfl, rfl, .inl (.inl e1), atI_nat ey, p, xs, at_, y, rfl, rfl, e1, by omega, by omega, by omega, ?_⟩
    have x2 : OXs w (upd H1 p (.lst (xs.take at_ ++ [y] ++ xs.drop at_))) N (g + 1) (xs.take at_ ++ [y] ++ xs.drop at_) (ds.take at_ ++ [dy] ++ ds.drop at_) := by
      have z := x.mono (ButN.bag (put (o := HO.lst (xs.take at_ ++ [y] ++ xs.drop at_)) B1) Nb)
      obtain ⟨d2, e2, o2⟩ := z.get ey
      rw [edy] at e2
      cases e2
      exact ((OXs.app (OXs.app (z.take at_) (.cons o2 .nil)) (z.drop at_))).up
    refine ret8 (b := b) (c := c) (d := d) (g := g) rfl rfl (ox.mono (ButN.bag (put B1) Nb)) (kit_list K d) upd_same Np x2 (hb1.set nb (hb.nc np)) (ntp nt1) fun v' d' H' o' q hb' B' => ?_
    exact k v' _ d' H' o' q (fw (fa'.twice edy) (by omega) (by omega)) hb' ((put B1).trans B')
  refine ff_if (decide_eq_false k2) ⟨.int r, rfl, rfl, _, rfl, ?_⟩
  by_cases k3 : V.int r = V.int 3
  · refine tt_if (decide_eq_true k3) ?_
    refine ret8 (b := b) (c := c) (d := d) (g := g) rfl rfl ox1 (kit_tuple K d) e1 Np (x1.sub fun _ m => .inl m).up hb1 nt1 fun v' d' H' o' q hb' B' => ?_
    exact k v' _ d' H' o' q (fw fa' (by omega) (by omega)) hb' (B1.trans B')
  refine ff_if (decide_eq_false k3) ?_
  refine ⟨.ref b, rfl, .ref p, rfl, .int at_, rfl, p, xs, at_, y, rfl, rfl, .inl (.inl e1), atI_nat ey, ?_⟩
  refine IH y dy H1 (fun a => N a ∨ a = p) _ (.inl Nb) (fun z m => m.elim (nt1 z) fun q => ⟨.lst xs, q ▸ e1⟩) oy (fa.get edy) hb1 fun y' dy' H2 oy' fy hb2 B2 => ?_
  have e2 := B2 p _ e1 nb
  have ixn : ixN xs.length (at_ : Int) = some at_ := by
    unfold ixN
    rw [if_pos (by omega), if_pos (by omega)]
    simp
  refine ⟨.ref p, rfl, .int at_, rfl, p, xs, at_, at_, rfl, rfl, e2, ixn, ?_⟩
  have B3 : But b H (upd H2 p (.lst (xs.set at_ y'))) := put (B1.trans B2)
  have oy2 : OX w (upd H2 p (.lst (xs.set at_ y'))) N (g + 1) y' dy' := (oy'.mono fun z o e m => by
    rw [upd_ne (fun q => m (.inr q))]
    exact e).sub fun _ m => .inl m
  have x2 : OXs w (upd H2 p (.lst (xs.set at_ y'))) N (g + 1) (xs.set at_ y') (ds.set at_ dy') := (x.mono (ButN.bag B3 Nb)).up.set oy2 at_
  refine ret8 (b := b) (c := c) (d := d) (g := g) rfl rfl (ox.mono (ButN.bag B3 Nb)) (kit_list K d) upd_same Np x2 (hb2.set nb (hb.nc np)) (ntp (nt1.but B2 hb2)) fun v' d' H' o' q hb' B' => ?_
  refine k v' _ d' H' o' q ?_ hb' (B3.trans B')
  exact FineAll.put (l := 300) (fa'.le (show n ≤ n + 7 by omega) (Nat.le_refl _)) edy fy (Nat.le_refl _)
end Lw

set_option Elab.async false
set_option linter.all false
set_option maxRecDepth 100000
set_option maxHeartbeats 4000000
/-! the tails of _law_spoilt: what it does with a dict -/
namespace Lw
open PySem PySem.Spec PyProof.Rows L2
/-! ### keys that are == -/
theorem dt_nk : ∀ {k l : MK}, k.nk = l.nk → (k.dt.showable = true → l.dt.showable = true) ∧ (k.dt.leavesShort 48 = true → l.dt.leavesShort 48 = true) ∧ l.dt.depth = k.dt.depth ∧ l.dt.weight ≤ k.dt.weight + 1
  | .non, .non, _ => ⟨id, id, rfl, Nat.le_succ _⟩
  | .non, .bl _, h => nomatch h
  | .non, .int _, h => nomatch h
  | .non, .str _, h => nomatch h
  | .non, .unit _, h => nomatch h
  | .bl _, .non, h => nomatch h
  | .bl c, .bl d, h => ⟨fun _ => rfl, fun _ => rfl, rfl, Nat.zero_le _⟩
  | .bl c, .int i, h => by
    have : i = if c = true then 1 else 0 := by injection h with h; exact h.symm
    subst this
    cases c <;> exact ⟨fun _ => by decide +kernel, fun _ => by decide +kernel, rfl, by decide +kernel⟩
  | .bl _, .str _, h => nomatch h
  | .bl _, .unit _, h => nomatch h
  | .int _, .non, h => nomatch h
  | .int i, .bl c, h => ⟨fun _ => rfl, fun _ => rfl, rfl, Nat.zero_le _⟩
  | .int i, .int j, h => by
    have : i = j := by injection h
    subst this
    exact ⟨id, id, rfl, Nat.le_succ _⟩
  | .int _, .str _, h => nomatch h
  | .int _, .unit _, h => nomatch h
  | .str _, .non, h => nomatch h
  | .str _, .bl _, h => nomatch h
  | .str _, .int _, h => nomatch h
  | .str y, .str z, h => by
    have : y = z := by injection h
    subst this
    exact ⟨id, id, rfl, Nat.le_succ _⟩
  | .str _, .unit _, h => nomatch h
  | .unit _, .non, h => nomatch h
  | .unit _, .bl _, h => nomatch h
  | .unit _, .int _, h => nomatch h
  | .unit _, .str _, h => nomatch h
  | .unit _, .unit _, _ => ⟨id, id, rfl, Nat.le_succ _⟩
theorem str_nk {k : MK} {z : Str} (h : k.nk = .text z) : k = .str z := by
  cases k with
  | str y => injection h with h; rw [h]
  | _ => exact nomatch h
theorem fine_keys : ∀ {kvs kvs' : List Mkv} {n m : Nat}, kvs'.map (fun p => p.1.nk) = kvs.map (fun p => p.1.nk) → FineAll (kvs.map fun p => p.1.dt) n m → FineAll (kvs'.map fun p => p.1.dt) n (2 * m)
  | [], [], _, _, _, _ => .nil
  | [], _ :: _, _, _, h, _ => nomatch h
  | _ :: _, [], _, _, h, _ => nomatch h
  | p :: ps, q :: qs, n, m, h, f => by
    obtain ⟨h1, h2⟩ := List.cons.inj h
    have f0 := f.ok p.1.dt List.mem_cons_self
    have fr : FineAll (ps.map fun p => p.1.dt) n (PyData.weightAll (ps.map fun p => p.1.dt)) := ⟨fun d hd => f.ok d (List.mem_cons_of_mem _ hd), Nat.le_refl _⟩
    have ih := fine_keys h2 fr
    obtain ⟨a1, a2, a3, a4⟩ := dt_nk (k := p.1) (l := q.1) h1.symm
    have fq : Fine q.1.dt n q.1.dt.weight := ⟨a1 f0.1, a2 f0.2.1, by rw [a3]; exact f0.2.2, Nat.le_refl _⟩
    refine (FineAll.cons fq ih).le (Nat.le_refl _) ?_
    have w := f.wt
    rw [List.map_cons, PyData.weightAll] at w
    omega
/-! ### grades -/
theorem hash_apart (w : World) : NestedKey.hash w (.num 0) ≠ NestedKey.hash w (.tup []) := by
  show hashInt 0 ≠ reduceHash (Builtin.Tuple.tupleHashOf [])
  decide +kernel
theorem unit_nk {k : MK} (h : k.byV = false) : k.nk = .tup [] := by
  cases k with
  | unit a => rfl
  | _ => exact nomatch h
theorem apart_grade {w : World} {kvs : List Mkv} {g : Nat} (hg : g ≤ 1) (gr : Grade g (kvs.map fun p => p.1.nk)) : ApartM w kvs := by
  intro p hp
  cases hv : p.1.byV with
  | true => exact .inl rfl
  | false =>
    right
    have one : kvs.map (fun p => p.1.nk) = [] ∨ kvs.map (fun p => p.1.nk) = [.num 0] ∨ ∃ k, kvs.map (fun p => p.1.nk) = [.num 0, k] := by
      rcases (by omega : g = 0 ∨ g = 1) with rfl | rfl
      · rcases gr with h | h; exact .inl h; exact .inr (.inl h)
      · exact gr
    rcases one with h | h | ⟨k, h⟩
    · rw [List.map_eq_nil_iff] at h
      rw [h]; exact Nat.zero_le _
    · have l := congrArg List.length h
      rw [List.length_map] at l
      exact Nat.le_trans (List.length_filter_le _ _) (Nat.le_of_eq l)
    · have l := congrArg List.length h
      rw [List.length_map] at l
      cases kvs with
      | nil => exact nomatch l
      | cons q1 r =>
        obtain ⟨e1, e2⟩ := List.cons.inj h
        have ne : (q1.1.nk.hash w == p.1.nk.hash w) = false := by
          rw [beq_eq_false_iff_ne, show q1.1.nk = NestedKey.num 0 from e1, unit_nk hv]
          exact hash_apart w
        rw [List.filter_cons, ne, if_neg Bool.false_ne_true]
        have l2 : (q1 :: r).length = 2 := l
        rw [List.length_cons] at l2
        exact Nat.le_trans (List.length_filter_le _ _) (by omega)
theorem grade_pop {ks : List NestedKey} {g : Nat} (hg : g ≤ 1) (gr : Grade g ks) (j : Nat) : Grade (g + 1) (ks.eraseIdx j) := by
  rcases (by omega : g = 0 ∨ g = 1) with rfl | rfl
  · rcases gr with rfl | rfl
    · exact .inl rfl
    · cases j with
      | zero => exact .inl rfl
      | succ j => exact .inr (.inl rfl)
  · exact True.intro
theorem grade_snoc {ks : List NestedKey} {g : Nat} (hg : g ≤ 1) (gr : Grade g ks) (ne : ks ≠ []) (k : NestedKey) : Grade (g + 1) (ks ++ [k]) := by
  rcases (by omega : g = 0 ∨ g = 1) with rfl | rfl
  · rcases gr with rfl | rfl
    · exact absurd rfl ne
    · exact .inr (.inr ⟨k, rfl⟩)
  · exact True.intro
/-! ### the keys that are drawn -/
def oks (e : Addr) : List MK := [.str "", .str "b", .str "b b", .str "aB", .str "a1", .str "abcdefghi", .int 1, .non, .bl true, .unit e]
def KF (H : Hp) (N : Addr → Prop) (k : MK) : Prop := KOk H k ∧ (∀ e, k = .unit e → ¬ N e) ∧ ∀ z, k = .str z → LowS z
theorem oks_kf {H : Hp} {N : Addr → Prop} {e : Addr} (h : H e = some (.tup [])) (n : ¬ N e) : ∀ k ∈ oks e, KF H N k ∧ Fine k.dt 1 9 := by
  intro k hk
  simp only [oks, List.mem_cons, List.not_mem_nil, or_false] at hk
  rcases hk with rfl | rfl | rfl | rfl | rfl | rfl | rfl | rfl | rfl | rfl
  case _ => exact ⟨⟨fun _ q => (nomatch q), fun _ q => (nomatch q), fun z q => by cases q; exact fun c hc => (by revert c; decide +kernel)⟩, ⟨rfl, by decide +kernel, by decide, by decide +kernel⟩⟩
  case _ => exact ⟨⟨fun _ q => (nomatch q), fun _ q => (nomatch q), fun z q => by cases q; exact fun c hc => (by revert c; decide +kernel)⟩, ⟨rfl, by decide +kernel, by decide, by decide +kernel⟩⟩
  case _ => exact ⟨⟨fun _ q => (nomatch q), fun _ q => (nomatch q), fun z q => by cases q; exact fun c hc => (by revert c; decide +kernel)⟩, ⟨rfl, by decide +kernel, by decide, by decide +kernel⟩⟩
  case _ => exact ⟨⟨fun _ q => (nomatch q), fun _ q => (nomatch q), fun z q => by cases q; exact fun c hc => (by revert c; decide +kernel)⟩, ⟨rfl, by decide +kernel, by decide, by decide +kernel⟩⟩
  case _ => exact ⟨⟨fun _ q => (nomatch q), fun _ q => (nomatch q), fun z q => by cases q; exact fun c hc => (by revert c; decide +kernel)⟩, ⟨rfl, by decide +kernel, by decide, by decide +kernel⟩⟩
  case _ => exact ⟨⟨fun _ q => (nomatch q), fun _ q => (nomatch q), fun z q => by cases q; exact fun c hc => (by revert c; decide +kernel)⟩, ⟨rfl, by decide +kernel, by decide, by decide +kernel⟩⟩
  case _ => exact ⟨⟨fun _ q => (nomatch q), fun _ q => (nomatch q), fun _ q => (nomatch q)⟩, ⟨by decide +kernel, by decide +kernel, by decide, by decide +kernel⟩⟩
  case _ => exact ⟨⟨fun _ q => (nomatch q), fun _ q => (nomatch q), fun _ q => (nomatch q)⟩, ⟨by decide +kernel, by decide +kernel, by decide, by decide +kernel⟩⟩
  case _ => exact ⟨⟨fun _ q => (nomatch q), fun _ q => (nomatch q), fun _ q => (nomatch q)⟩, ⟨by decide +kernel, by decide +kernel, by decide, by decide +kernel⟩⟩
  case _ => exact ⟨⟨fun _ q => by cases q; exact h, fun _ q => by cases q; exact n, fun _ q => (nomatch q)⟩, ⟨rfl, rfl, by show (PyData.tuple []).depth ≤ 1; decide, by show (PyData.tuple []).weight ≤ 9; decide⟩⟩
end Lw

set_option Elab.async false
set_option linter.all false
set_option maxRecDepth 100000
set_option maxHeartbeats 4000000
namespace Lw
open PySem PySem.Spec PyProof.Rows L2
def tDictTail (K : PySem.W.Frag) (w : World) (sp : Sp) : TS := tSeq (tPar 5 6 (tCons (tCB (rDictM w) (tCons (tVar 1) tNil)) (tCons (tOp (rIxL K) (tCB (rListM w) (tCons (tVar 1) tNil)) (tVar 3)) tNil)))
  (tSeq (tIfS (tKind 1) (tDrop (tMPop w (tVar 5) (tVar 6)))
    (tIfS (tKind 2) (tSeq (tAsg (tLst (tCons (tC (.str "")) (tCons (tC (.str "b")) (tCons (tC (.str "b b")) (tCons (tC (.str "aB")) (tCons (tC (.str "a1")) (tCons (tC (.str "abcdefghi")) (tCons (tC (.int 1)) (tCons (tC .non) (tCons (tC (.bl true)) (tCons (tTup tNil) tNil))))))))))) (gName 7))
        (sMPut w (tVar 5) (tOp (rIxL K) (tVar 7) (tTk 10)) (tMGet w (tVar 5) (tVar 6))))
      (sMPut w (tVar 5) (tVar 6) (tCall sp [] E0 (tCons (tVar 0) (tCons (tMGet w (tVar 5) (tVar 6)) tNil))))))
  (tRet (tVar 5)))
theorem FineAll.other {ds : List PyData} {n m i : Nat} {y : PyData} (x : FineAll ds n m) (z : Fine y n y.weight) (h : y.weight ≤ m) : FineAll (ds.set i y) n (2 * m) := by
  refine ⟨fun q hq => ?_, ?_⟩
  · rcases List.mem_or_eq_of_mem_set hq with g | g
    · exact x.ok q g
    · subst g; exact ⟨z.sh, z.lf, z.dep⟩
  · have w := x.wt
    cases e : ds[i]? with
    | none =>
      rw [List.set_eq_of_length_le (by rw [List.getElem?_eq_none_iff] at e; exact e)]
      omega
    | some d =>
      have := weight_set (x := y) e
      omega
theorem len_wt : ∀ ds : List PyData, ds.length ≤ PyData.weightAll ds
  | [] => Nat.zero_le _
  | d :: r => by
    have := len_wt r
    rw [List.length_cons, PyData.weightAll]; omega
theorem map_set_same {α β : Type} {f : α → β} {l : List α} {j : Nat} {x y : α} (e : l[j]? = some x) (h : f y = f x) : (l.set j y).map f = l.map f := by
  rw [List.map_set, h]
  refine List.ext_getElem? fun i => ?_
  rw [List.getElem?_set]
  split
  · rename_i q
    subst q
    rw [List.getElem?_map, e, List.length_map, if_pos (List.getElem?_eq_some_iff.mp e).1]
    rfl
  · rfl
theorem one_at {kvs : List Mkv} (nd : (kvs.map fun p => p.1.nk).Nodup) {i j : Nat} {p q : Mkv} (hi : kvs[i]? = some p) (hj : kvs[j]? = some q) (h : p.1.nk = q.1.nk) : i = j := by
  have li := (List.getElem?_eq_some_iff.mp hi).1
  refine (List.getElem?_inj (by rw [List.length_map]; exact li) nd).mp ?_
  rw [List.getElem?_map, List.getElem?_map, hi, hj]
  exact congrArg some h
theorem dict_tail {w : World} {K : PySem.W.Frag} {D : Ends} {H : Hp} {b c a : Addr} {N : Addr → Prop} {r at_ g n wk wd : Nat} {kvs : List Mkv} {ds : List PyData} {sp : Sp} (hb : BagAt H b c) (Nb : N b) (nt : NT H N) (e : H a = some (MixO w a kvs)) (Na : ¬ N a)
    (u : UOk H kvs) (ub : ∀ p ∈ kvs, ∀ e, p.1 = .unit e → ¬ N e) (ls : ∀ p ∈ kvs, ∀ z, p.1 = .str z → LowS z) (nd : (kvs.map fun p => p.1.nk).Nodup) (gr : Grade g (kvs.map fun p => p.1.nk)) (g1 : g ≤ 1) (dd : OXs w H N g (kvs.map (·.2)) ds)
    (fk : FineAll (kvs.map fun p => p.1.dt) n wk) (fd : FineAll ds n wd) (hw : wk + wd ≤ 20000) (wd' : wd = PyData.weightAll ds) (lt : at_ < kvs.length)
    (IH : ∀ (v₁ : V) (d₁ : PyData) (H₁ : Hp) (M : Addr → Prop) (Q : VK), M b → NT H₁ M → OX w H₁ M g v₁ d₁ → Fine d₁ n 20000 → BagAt H₁ b c → (∀ (v' : V) (d' : PyData) (H' : Hp), OX w H' M (g + 1) v' d' → Fine d' (n + 7) (2 * d₁.weight + 300) → BagAt H' b c → But b H₁ H' → Q v' H') → sp [.ref b, v₁] H₁ Q E0)
    (k : ∀ (v' : V) (d' : PyData) (H' : Hp), OX w H' N (g + 1) v' d' → Fine d' (n + 1 + 7) (2 * (wk + wd) + 300) → BagAt H' b c → But b H H' → D.rt v' H') :
    tDictTail K w sp D [some (.ref b), some (.ref a), some (.int r), some (.int at_), none, none, none, none, none] H := by
  have sl : sizeLine = 16777216 := sizeLine_eq
  have ln : kvs.length ≤ 20000 := by
    have h1 := len_wt (kvs.map fun p => p.1.dt)
    have h2 := fk.wt
    rw [List.length_map] at h1
    omega
  obtain ⟨p0, e0⟩ : ∃ p0, kvs[at_]? = some p0 := ⟨kvs[at_], List.getElem?_eq_getElem lt⟩
  refine ⟨.ref a, rfl, a, kvs, rfl, e, u, apart_grade g1 gr, fun p kvs' np hk hun => ?_⟩
  have ep : ∀ {o : HO}, (upd H p o) a = some (MixO w a kvs) := fun {o} => by rw [upd_ne (ne_of_none e np)]; exact e
  refine ⟨.ref a, rfl, a, kvs, rfl, ep, fun l nl => ⟨.int at_, rfl, l, _, at_, p0.1.v, rfl, rfl, .inl (.inl upd_same), atI_nat (by rw [List.getElem?_map, e0]; rfl), _, _, rfl, ?_⟩⟩
  show tSeq _ _ D [some (.ref b), some (.ref a), some (.int r), some (.int at_), none, some (.ref p), some p0.1.v, none, none] _
  -- what is known of the copy
  have hn : kvs'.map (fun p => p.1.nk) = kvs.map (fun p => p.1.nk) := by
    have := congrArg (List.map Prod.fst) hk
    rw [List.map_map, List.map_map] at this
    exact this
  have hv : kvs'.map (·.2) = kvs.map (·.2) := by
    have := congrArg (List.map Prod.snd) hk
    rw [List.map_map, List.map_map] at this
    exact this
  have nd' : (kvs'.map fun p => p.1.nk).Nodup := by rw [hn]; exact nd
  have gr' : Grade g (kvs'.map fun p => p.1.nk) := by rw [hn]; exact gr
  have ln' : kvs'.length = kvs.length := by
    have := congrArg List.length hn
    rw [List.length_map, List.length_map] at this
    exact this
  have fk' : FineAll (kvs'.map fun p => p.1.dt) n (2 * wk) := fine_keys hn fk
  have dd' : OXs w H N g (kvs'.map (·.2)) ds := by rw [hv]; exact dd
  have hin : p0.1.nk ∈ kvs'.map (fun p => p.1.nk) := by rw [hn]; exact List.mem_map_of_mem (List.mem_of_getElem? e0)
  have kf' : ∀ q ∈ kvs', KF H N q.1 := by
    intro q m
    refine ⟨fun e' ee => ?_, fun e' ee => ?_, fun z ee => ?_⟩
    · obtain ⟨q0, m0, e0⟩ := hun q m e' ee
      exact u q0 m0 e' e0
    · obtain ⟨q0, m0, e0⟩ := hun q m e' ee
      exact ub q0 m0 e' e0
    · obtain ⟨i, li, ei⟩ := List.getElem_of_mem m
      have eg : kvs'[i]? = some q := by rw [List.getElem?_eq_getElem li, ei]
      have h1 : (kvs'.map fun p => p.1.nk)[i]? = some q.1.nk := by rw [List.getElem?_map, eg]; rfl
      rw [hn, List.getElem?_map] at h1
      cases hk0 : kvs[i]? with
      | none => rw [hk0] at h1; cases h1
      | some q0 =>
        rw [hk0] at h1
        have h2 : q0.1.nk = q.1.nk := Option.some.inj h1
        rw [ee] at h2
        exact ls q0 (List.mem_of_getElem? hk0) z (str_nk h2)
  have kf0 : KF H N p0.1 := ⟨u p0 (List.mem_of_getElem? e0), ub p0 (List.mem_of_getElem? e0), ls p0 (List.mem_of_getElem? e0)⟩
  have Np : ¬ N p := nt.no np
  have nb := hb.nb np
  -- two new things
  generalize hH2 : upd (upd H p (MixO w p kvs')) l (.lst (kvs.map fun q => q.1.v)) = H2
  have s2 : Same H H2 := by rw [← hH2]; exact (same_new np _).trans (same_new nl _)
  have npl : p ≠ l := ne_of_none upd_same nl
  have e2 : H2 p = some (MixO w p kvs') := by rw [← hH2, upd_ne npl]; exact upd_same
  clear hH2 nl npl
  have hb2 := hb.mono s2
  have nt2 := nt.mono s2
  have kfm : ∀ {G G' : Hp} {M : Addr → Prop} {q : MK}, KF G M q → ButN M G G' → KF G' M q := fun f s => ⟨fun e' ee => s _ _ (f.1 e' ee) (f.2.1 e' ee), f.2.1, f.2.2⟩
  have uok : ∀ {G : Hp} {M : Addr → Prop} {ks : List Mkv}, (∀ q ∈ ks, KF G M q.1) → UOk G ks := fun f q m => (f q m).1
  have put : ∀ {G : Hp} {o : HO}, But b H G → But b H (upd G p o) := fun B => B.put np
  have wd0 : PyData.weightAll ds = wd := wd'.symm
  -- the end
  have fin : ∀ (kvs'' : List Mkv) (ds'' : List PyData) (G : Hp) (σ : L2.St) (w1 w2 : Nat), σ[5]? = some (some (.ref p)) → G p = some (MixO w p kvs'') → (∀ q ∈ kvs'', KF G N q.1) → (kvs''.map fun q => q.1.nk).Nodup → Grade (g + 1) (kvs''.map fun q => q.1.nk) → OXs w G N (g + 1) (kvs''.map (·.2)) ds'' →
      FineAll (kvs''.map fun q => q.1.dt) (n + 7) w1 → FineAll ds'' (n + 7) w2 → w1 + w2 ≤ 2 * (wk + wd) + 300 → BagAt G b c → But b H G → tRet (tVar 5) D σ G := by
    intro kvs'' ds'' G σ w1 w2 h5 h1 h2 h3 h4 h5' h6 h7 h8 h9 h10
    have le := h5'.len
    rw [List.length_map] at le
    exact ⟨.ref p, h5, k _ _ G (.dct h1 Np (uok h2) (fun q m => (h2 q m).2.1) (fun q m => (h2 q m).2.2) h3 h4 h5') ((FineAll.dct (by rw [List.length_map]; exact le) h6 h7).le (by omega) h8) h9 h10⟩
  refine ⟨.int r, rfl, rfl, _, rfl, ?_⟩
  by_cases k1 : V.int r = V.int 1
  · refine tt_if (decide_eq_true k1) ?_
    refine ⟨.ref p, rfl, p, kvs', rfl, e2, p0.1.v, rfl, p0.1, rfl, e2, uok fun q m => kfm (kf' q m) (ButN.of s2), (kfm kf0 (ButN.of s2)).1, hin, fun j q ej en => ?_⟩
    have B3 : But b H (upd H2 p (MixO w p (kvs'.eraseIdx j))) := put (But.of s2)
    have em : ∀ {β : Type} (f : Mkv → β), (kvs'.eraseIdx j).map f = (kvs'.map f).eraseIdx j := fun f => PySem.map_eraseIdx f kvs' j
    refine fin _ (ds.eraseIdx j) _ _ (2 * wk) wd rfl upd_same (fun q m => kfm (kf' q (List.mem_of_mem_eraseIdx m)) (ButN.bag B3 Nb)) ?_ ?_ ?_ ?_ ((fd.erase j).le (by omega) (Nat.le_refl _)) (by omega) (hb2.set nb (hb.nc np)) B3
    · rw [em]; exact List.Nodup.eraseIdx _ nd'
    · rw [em]; exact grade_pop g1 gr' j
    · rw [em]; exact ((dd'.mono (ButN.bag B3 Nb)).erase j).up
    · rw [em]; exact (fk'.erase j).le (by omega) (Nat.le_refl _)
  refine ff_if (decide_eq_false k1) ⟨.int r, rfl, rfl, _, rfl, ?_⟩
  -- what d[k] = v leaves
  have stores : ∀ (kk : MK) (v : V) (dv : PyData) (kvs'' : List Mkv) (G : Hp) (σ : L2.St) (w2 : Nat), σ[5]? = some (some (.ref p)) → MSet kvs' kk v kvs'' → But b H G → BagAt G b c → KF G N kk → (kk.nk ∉ kvs'.map (fun p => p.1.nk) → Fine kk.dt (n + 7) 9 ∧ 2 * wk + 10 + w2 ≤ 2 * (wk + wd) + 300) → OX w (upd G p (MixO w p kvs'')) N (g + 1) v dv → G p = some (MixO w p kvs') →
      (kk.nk ∉ kvs'.map (fun p => p.1.nk) → FineAll (ds ++ [dv]) (n + 7) w2) → (∀ (j : Nat) (q : Mkv), kvs'[j]? = some q → q.1.nk = kk.nk → FineAll (ds.set j dv) (n + 7) w2) → 2 * wk + w2 ≤ 2 * (wk + wd) + 300 → tRet (tVar 5) D σ (upd G p (MixO w p kvs'')) := by
    intro kk v dv kvs'' G σ w2 h5 hs B hbG kfk fkk ov eG hA hB hwt
    have B3 : But b H (upd G p (MixO w p kvs'')) := put B
    have kfG : ∀ {q : MK}, KF H N q → KF (upd G p (MixO w p kvs'')) N q := fun f => kfm f (ButN.bag B3 Nb)
    have dG := (dd'.mono (ButN.bag B3 Nb)).up
    rcases hs with ⟨hno, rfl⟩ | ⟨j, q, ej, en, rfl⟩
    · refine fin _ (ds ++ [dv]) _ σ (2 * wk + 9 + 1) w2 h5 upd_same (fun q m => ?_) ?_ ?_ ?_ ?_ (hA hno) (by have := (fkk hno).2; omega) (hbG.set nb (hb.nc np)) B3
      · rcases List.mem_append.mp m with m | m
        · exact kfG (kf' q m)
        · cases List.mem_singleton.mp m
          refine ⟨fun e' ee => ?_, kfk.2.1, kfk.2.2⟩
          have h := kfk.1 e' ee
          have : e' ≠ p := fun z => by
            rw [z, eG] at h
            exact nomatch h
          rw [upd_ne this]; exact h
      · rw [List.map_append, List.nodup_append]
        refine ⟨nd', by simp, fun a ha d hd z => ?_⟩
        cases List.mem_singleton.mp hd
        rw [z] at ha
        exact hno ha
      · rw [List.map_append]
        refine grade_snoc g1 gr' (fun z => ?_) _
        rw [z] at hin
        exact absurd hin List.not_mem_nil
      · rw [List.map_append]
        exact OXs.app dG (.cons ov .nil)
      · rw [List.map_append]
        exact (fk'.le (by omega) (Nat.le_refl _)).snoc (fkk hno).1
    · have mq := List.mem_of_getElem? ej
      refine fin _ (ds.set j dv) _ σ (2 * wk) w2 h5 upd_same (fun q' m => ?_) ?_ ?_ ?_ ?_ (hB j q ej en) (by omega) (hbG.set nb (hb.nc np)) B3
      · rcases List.mem_or_eq_of_mem_set m with m | m
        · exact kfG (kf' q' m)
        · subst m
          exact kfG (kf' q mq)
      · rw [map_set_same (y := (q.1, v)) ej rfl]; exact nd'
      · rw [map_set_same (y := (q.1, v)) ej rfl]; exact gr'.up
      · rw [List.map_set]
        exact dG.set ov j
      · rw [map_set_same (y := (q.1, v)) ej rfl]; exact fk'.le (by omega) (Nat.le_refl _)
  have fdw : FineAll ds n (PyData.weightAll ds) := ⟨fd.ok, Nat.le_refl _⟩
  -- the value that stands at the key
  have item : ∀ {j : Nat} {q : Mkv}, kvs'[j]? = some q → ∃ dq, ds[j]? = some dq ∧ OX w H N g q.2 dq := fun ej => dd'.get (by rw [List.getElem?_map, ej]; rfl)
  by_cases k2 : V.int r = V.int 2
  · refine tt_if (decide_eq_true k2) ?_
    refine ⟨Nat.zero_le _, fun e' ne' => ⟨small (by show 10 ≤ 1000; decide), fun lo nlo => ?_⟩⟩
    generalize hH3 : upd (upd H2 e' (.tup [])) lo (.lst [V.str "", V.str "b", V.str "b b", V.str "aB", V.str "a1", V.str "abcdefghi", V.int 1, V.non, V.bl true, V.ref e']) = H3
    have s3 : Same H2 H3 := by rw [← hH3]; exact (same_new ne' _).trans (same_new nlo _)
    have el : e' ≠ lo := ne_of_none upd_same nlo
    have ee3 : H3 e' = some (.tup []) := by rw [← hH3, upd_ne el]; exact upd_same
    have elo : H3 lo = some (.lst ((oks e').map MK.v)) := by rw [← hH3]; exact upd_same
    clear hH3
    have Ne' : ¬ N e' := nt2.no ne'
    have hb3 := hb2.mono s3
    have e3 := s3 _ _ e2
    have nlob : lo ≠ b := by
      intro z
      rw [z] at elo
      obtain ⟨x, y, zz, ns, h1, _⟩ := hb3.ex
      rw [h1] at elo
      exact nomatch (show HO.lst _ = HO.lst _ from Option.some.inj elo)
    have B3 : But b H H3 := But.of (s2.trans s3)
    refine ⟨.ref p, rfl, p0.1.v, rfl, p, kvs', p0.1, rfl, rfl, e3, uok fun q m => kfm (kf' q m) (ButN.bag B3 Nb), (kfm kf0 (ButN.bag B3 Nb)).1, hin, fun j q ej en => ?_⟩
    obtain ⟨dq, edq, oq⟩ := item ej
    refine ⟨.ref p, rfl, .ref lo, rfl, .ref b, rfl, b, c, 10, rfl, hb3, by decide, by decide, fun i H4 i0 i1 hb4 B4 => ?_⟩
    obtain ⟨i, rfl⟩ := Int.eq_ofNat_of_zero_le i0
    have li : i < (oks e').length := by
      have : (oks e').length = 10 := rfl
      omega
    have nlb : e' ≠ b := fun z => by
      rw [z] at ee3
      obtain ⟨x, y, zz, ns, h1, _⟩ := hb3.ex
      rw [h1] at ee3
      exact nomatch ee3
    have ee4 := B4 e' _ ee3 nlb
    obtain ⟨kfk, fkk⟩ := oks_kf ee4 Ne' (oks e')[i] (List.getElem_mem li)
    have ek : (oks e')[i]? = some (oks e')[i] := List.getElem?_eq_getElem li
    generalize (oks e')[i] = kk at kfk fkk ek
    have e4 := B4 p _ e3 nb
    have B04 := B3.trans B4
    refine ⟨lo, _, i, kk.v, rfl, rfl, .inl (.inl (B4 lo _ elo nlob)), atI_nat (by rw [List.getElem?_map, ek]; rfl), p, kvs', kk, rfl, rfl, e4, uok fun q m => kfm (kf' q m) (ButN.bag B04 Nb), kfk.1, by omega, fun kvs'' ms => ?_⟩
    have wq := weight_get edq
    have fq : Fine dq n dq.weight := ⟨(fd.get edq).sh, (fd.get edq).lf, (fd.get edq).dep, Nat.le_refl _⟩
    refine stores kk q.2 dq kvs'' H4 _ (2 * wd) rfl ms B04 hb4 kfk (fun _ => ⟨fkk.le (by omega) (Nat.le_refl _), by omega⟩) (oq.mono (ButN.bag (put B04) Nb)).up e4 (fun _ => ?_) (fun j' q' _ _ => ?_) (by omega)
    · exact (fdw.snoc fq).le (by omega) (by omega)
    · exact (FineAll.other fdw fq (by omega)).le (by omega) (by omega)
  refine ff_if (decide_eq_false k2) ?_
  have B2 : But b H H2 := But.of s2
  refine ⟨.ref b, rfl, .ref p, rfl, p0.1.v, rfl, p, kvs', p0.1, rfl, rfl, e2, uok fun q m => kfm (kf' q m) (ButN.bag B2 Nb), (kfm kf0 (ButN.bag B2 Nb)).1, hin, fun j q ej en => ?_⟩
  obtain ⟨dq, edq, oq⟩ := item ej
  refine IH q.2 dq H2 (fun z => N z ∨ z = p) _ (.inl Nb) (fun z m => m.elim (nt2 z) fun z' => ⟨_, z' ▸ e2⟩) ((oq.bar np).mono (ButN.of s2)) (fd.get edq |>.le (Nat.le_refl _) (by omega)) hb2 fun v' dv H4 ov fv hb4 B4 => ?_
  have e4 := B4 p _ e2 nb
  have B04 := B2.trans B4
  refine ⟨.ref p, rfl, p0.1.v, rfl, p, kvs', p0.1, rfl, rfl, e4, uok fun q m => kfm (kf' q m) (ButN.bag B04 Nb), (kfm kf0 (ButN.bag B04 Nb)).1, by omega, fun kvs'' ms => ?_⟩
  have ov2 : OX w (upd H4 p (MixO w p kvs'')) N (g + 1) v' dv := (ov.mono fun z o e m => by
    rw [upd_ne (fun q => m (.inr q))]
    exact e).sub fun _ m => .inl m
  refine stores p0.1 v' dv kvs'' H4 _ (2 * wd + 300) rfl ms B04 hb4 (kfm kf0 (ButN.bag B04 Nb)) (fun hno => absurd hin hno) ov2 e4 (fun hno => absurd hin hno) (fun j' q' ej' en' => ?_) (by omega)
  have ejj := one_at nd' ej' ej (en'.trans en.symm)
  subst ejj
  have := FineAll.put (l := 300) (fdw.le (show n ≤ n + 7 by omega) (Nat.le_refl _)) edq fv (Nat.le_refl _)
  rw [← wd'] at this
  exact this
end Lw

set_option Elab.async false
set_option linter.all false
set_option maxRecDepth 100000
set_option maxHeartbeats 4000000
namespace Lw
open PySem PySem.Spec PyProof.Rows L2
abbrev sSp : Stmt := topS 19
abbrev NSp : List Str := ["_law_bag_here", "_law_thing", "_law_kind", "_law_at", "_law_sign", "_law_found", "_law_key", "_law_odd_here", "_law_some"]
section
variable {P : Program} {w : World} {K : PySem.W.Frag} {mg : Str → Option Value} {base : Heap}
theorem scSp : FnScope NSp ["_law_bag_here", "_law_thing"] (defScope sSp) := ⟨rfl, rfl, rfl, by decide +kernel, rfl, by decide +kernel, by decide +kernel⟩
/-- _law_spoilt: one part put otherwise -/
def spSp (w : World) (n : Nat) : Sp := fun vs H Q _ => ∃ (b c : Addr) (N : Addr → Prop) (v : V) (d : PyData) (g m : Nat), vs = [.ref b, v] ∧ BagAt H b c ∧ N b ∧ NT H N ∧ OX w H N g v d ∧ g ≤ 1 ∧ Fine d m 20000 ∧ m < n ∧
  ∀ (v' : V) (d' : PyData) (H' : Hp), OX w H' N (g + 1) v' d' → Fine d' (m + 7) (2 * d.weight + 300) → BagAt H' b c → But b H H' → Q v' H'
theorem lenD_wt : ∀ d : PyData, lenD d ≤ d.weight
  | .none => Nat.zero_le _
  | .bool _ => Nat.zero_le _
  | .int _ => Nat.zero_le _
  | .str _ => Nat.le_refl _
  | .list ds => len_wt ds
  | .tuple ds => len_wt ds
  | .dict kds => by
    have go : ∀ l : List (PyData × PyData), l.length ≤ PyData.weightKv l := by
      intro l
      induction l with
      | nil => exact Nat.zero_le _
      | cons p r ih => obtain ⟨x, y⟩ := p; rw [PyData.weightKv, List.length_cons]; omega
    exact go kds
theorem ok_sp {f fT fO : Addr} {fd fdT fdO : FuncData} (F : Fun K "_law_spoilt" "_law_spoilt" sSp f fd) (m : mg "_law_spoilt" = some (.ref f)) (bS : Binds K fd ["_law_bag_here", "_law_thing"] [])
    (GT : FnOk P w K mg base CX0 1 fT fdT ["_law_bag_here", "_law_many"] spTake) (mT : mg "_law_take" = some (.ref fT)) (kT : PySem.W.keepIn K (.ref fT) = true) (bT : Binds K fdT ["_law_bag_here", "_law_many"] [])
    (GO : FnOk P w K mg base CX0 2 fO fdO ["_law_bag_here"] (spOdd w)) (mO : mg "_law_odd" = some (.ref fO)) (kO : PySem.W.keepIn K (.ref fO) = true) (bO : Binds K fdO ["_law_bag_here"] [])
    (mi : mg "isinstance" = none) (ml : mg "list" = none) (mt : mg "tuple" = none) (md : mg "dict" = none) (ms : mg "str" = none) (mn : mg "len" = none) : ∀ n, FnOk P w K mg base CX0 (n + 2) f fd ["_law_bag_here", "_law_thing"] (spSp w n)
  | 0 => ⟨fun vs H Q E h => by obtain ⟨_, _, _, _, _, _, _, _, _, _, _, _, _, _, z, _⟩ := h; exact absurd z (Nat.not_lt_zero _), fun A outer s H args us vs Q E hr e0 bi rv h => by obtain ⟨_, _, _, _, _, _, _, _, _, _, _, _, _, _, z, _⟩ := h; exact absurd z (Nat.not_lt_zero _)⟩
  | n + 1 => by
    have IH := ok_sp F m bS GT mT kT bT GO mO kO bO mi ml mt md ms mn n
    refine F.ok scSp (fun vs H Q E h => ?_) (fun cdv A outer s H vs Q E hr h => ?_)
    · obtain ⟨b, c, N, v, d, g, m', rfl, _⟩ := h
      rfl
    have hu9 : (cxOf CX0 P w K mg base NSp "_law_spoilt" (defScope sSp) f cdv A outer s H E).nox.A.units + 9 < cLine := by
      have : (cxOf CX0 P w K mg base NSp "_law_spoilt" (defScope sSp) f cdv A outer s H E).nox.A.units + 64 < cLine := hr.units
      omega
    obtain ⟨b, c, N, v, d, g, m', rfl, hb, Nb, nt, ox, g1, fi, hm, k⟩ := h
    refine ⟨_, (pss_cons (ps_set (i := 2) scSp.nd rfl (.inl rfl) (pe_call GT (hr.mono (by omega)) (by rfl) mT kT bT .nil pass0 (pa_cons (pv 0) (pa_cons pe_int pa_nil)))) (pss_cons (ps_if (PW.pt (pw_or (pt_not (pt_val (pe_callB call_isiTM (by rfl) mi (by decide +kernel) (pa_cons (pv 1) (pa_cons (pe_tup (pa_cons (pe_bltn (v := .ty "list") (by rfl) ml (by decide +kernel) rfl) (pa_cons (pe_bltn (v := .ty "tuple") (by rfl) mt (by decide +kernel) rfl) (pa_cons (pe_bltn (v := .ty "dict") (by rfl) md (by decide +kernel) rfl) (pa_cons (pe_bltn (v := .ty "str") (by rfl) ms (by decide +kernel) rfl) pa_nil))))) pa_nil))))) (pw_or (pt_cmpR op_eq (pe_callB call_lenO (by rfl) mn (by decide +kernel) (pa_cons (pv 1) pa_nil)) pe_int (nomark _)) (pw_or1 (pt_cmpR op_eq (pv 2) pe_int (nomark _)))))) (pss_one (ps_ret (pe_call GO (hr.mono (by omega)) (by rfl) mO kO bO .nil pass0 (pa_cons (pv 0) pa_nil)))) pss_nil) (pss_cons (ps_set (i := 3) scSp.nd rfl (.inl rfl) (pe_call GT (hr.mono (by omega)) (by rfl) mT kT bT .nil pass0 (pa_cons (pv 0) (pa_cons (pe_callB call_lenO (by rfl) mn (by decide +kernel) (pa_cons (pv 1) pa_nil)) pa_nil)))) (pss_cons (ps_if (pt_val (pe_callB call_isiM (by rfl) mi (by decide +kernel) (pa_cons (pv 1) (pa_cons (pe_bltn (v := .ty "str") (by rfl) ms (by decide +kernel) rfl) pa_nil)))) (pss_cons (ps_set (i := 4) scSp.nd rfl (.inl rfl) (pe_ix ix_str pe_str (pe_call GT (hr.mono (by omega)) (by rfl) mT kT bT .nil pass0 (pa_cons (pv 0) (pa_cons pe_int pa_nil))) (fun _ _ => rfl))) (pss_one (ps_ret (pe_ix ix_list (pe_lst (pa_cons (pe_op op_add_str (pe_op op_add_str (pe_slice sl_str (pv 1) po_none (po_some (pv 3))) (pv 4)) (pe_slice sl_str (pv 1) (po_some (pe_op op_add (pv 3) pe_int)) po_none)) (pa_cons (pe_op op_add_str (pe_slice sl_str (pv 1) po_none (po_some (pv 3))) (pe_slice sl_str (pv 1) (po_some (pe_op op_add (pv 3) pe_int)) po_none)) (pa_cons (pe_op op_add_str (pv 1) (pe_op op_rep8 (pv 4) pe_int)) pa_nil)))) (pe_call GT (hr.mono (by omega)) (by rfl) mT kT bT .nil pass0 (pa_cons (pv 0) (pa_cons pe_int pa_nil))) (fun _ _ => rfl))))) pss_nil) (pss_cons (ps_if (pt_val (pe_callB call_isiM (by rfl) mi (by decide +kernel) (pa_cons (pv 1) (pa_cons (pe_bltn (v := .ty "dict") (by rfl) md (by decide +kernel) rfl) pa_nil)))) (pss_cons (ps_par (i := 5) (j := 6) (by rfl) scSp.nd rfl rfl (by decide) rfl rfl (pa_cons (pe_callTy call_dictM (by rfl) md (by decide +kernel) (pa_cons (pv 1) pa_nil)) (pa_cons (pe_ix ix_list (pe_callTy (call_listM rfl) (by rfl) ml (by decide +kernel) (pa_cons (pv 1) pa_nil)) (pv 3) (fun _ _ => rfl)) pa_nil)) (by rfl)) (pss_cons (ps_if (pt_cmpR op_eq (pv 2) pe_int (nomark _)) (pss_one (ps_expr (pe_mpop hu9 (pv 5) (pv 6) ⟨rfl, rfl, rfl, rfl⟩))) (pss_one (ps_if (pt_cmpR op_eq (pv 2) pe_int (nomark _)) (pss_cons (ps_set (i := 7) scSp.nd rfl (.inl rfl) (pe_lst (pa_cons pe_str (pa_cons pe_str (pa_cons pe_str (pa_cons pe_str (pa_cons pe_str (pa_cons pe_str (pa_cons pe_int (pa_cons pe_non (pa_cons pe_bl (pa_cons (pe_tup pa_nil) pa_nil)))))))))))) (pss_one (ps_mput hu9 (pv 5) (pe_ix ix_list (pv 7) (pe_call GT (hr.mono (by omega)) (by rfl) mT kT bT .nil pass0 (pa_cons (pv 0) (pa_cons pe_int pa_nil))) (fun _ _ => rfl)) (pe_mget hu9 (pv 5) (pv 6) (fun _ _ => rfl)) rfl))) (pss_one (ps_mput hu9 (pv 5) (pv 6) (pe_call IH hr (by rfl) m F.kp bS .nil pass0 (pa_cons (pv 0) (pa_cons (pe_mget hu9 (pv 5) (pv 6) (fun _ _ => rfl)) pa_nil))) rfl))))) (pss_one (ps_ret (pv 5))))) pss_nil) (pss_cons (ps_set (i := 8) scSp.nd rfl (.inl rfl) (pe_callTy call_list_of (by rfl) ml (by decide +kernel) (pa_cons (pv 1) pa_nil))) (pss_cons (ps_if (pt_cmpR op_eq (pv 2) pe_int (nomark _)) (pss_one (ps_expr (pe_bm PySem.F.plainAttrs_list PySem.F.slot_list_pop PySem.F.type_list_pop mt_popAt (pv 8) (pa_cons (pv 3) pa_nil)))) (pss_one (ps_if (pt_cmpR op_eq (pv 2) pe_int (nomark _)) (pss_one (ps_expr (pe_bm PySem.F.plainAttrs_list PySem.F.slot_list_insert PySem.F.type_list_insert mt_insert (pv 8) (pa_cons (pv 3) (pa_cons (pe_ix ix_list (pv 8) (pv 3) (fun _ _ => rfl)) pa_nil))))) (pss_one (ps_if (pt_cmpR op_eq (pv 2) pe_int (nomark _)) (pss_one (ps_ret (pe_ifExp (pt_val (pe_callB call_isiM (by rfl) mi (by decide +kernel) (pa_cons (pv 1) (pa_cons (pe_bltn (v := .ty "tuple") (by rfl) mt (by decide +kernel) rfl) pa_nil)))) (pv 8) (pe_callTy call_tuple_of (by rfl) mt (by decide +kernel) (pa_cons (pv 8) pa_nil))))) (pss_one (ps_asg (pe_call IH hr (by rfl) m F.kp bS .nil pass0 (pa_cons (pv 0) (pa_cons (pe_ix ix_list (pv 8) (pv 3) (fun _ _ => rfl)) pa_nil))) (pg_sub (pv 8) (pv 3) set_list)))))))) (pss_one (ps_ret (pe_ifExp (pt_val (pe_callB call_isiM (by rfl) mi (by decide +kernel) (pa_cons (pv 1) (pa_cons (pe_bltn (v := .ty "list") (by rfl) ml (by decide +kernel) rfl) pa_nil)))) (pv 8) (pe_callTy call_tuple_of (by rfl) mt (by decide +kernel) (pa_cons (pv 8) pa_nil)))))))))))), ?_⟩
    refine ⟨.ref b, rfl, b, c, 7, rfl, hb, by decide, by decide, fun r H1 r0 r1 hb1 B1 => ?_⟩
    have ox1 := ox.mono (ButN.bag B1 Nb)
    have nt1 := nt.but B1 hb1
    refine ⟨v, rfl, small (by show 4 ≤ 1000; decide), fun T nT => ⟨v, T, _, _, _, seqD d, rfl, upd_same, .cons (.ty _) (.cons (.ty _) (.cons (.ty _) (.cons (.ty _) .nil))), (ox1.mono (ButN.of (same_new nT _))).ty, kit_seq _ d, _, rfl, ?_⟩⟩
    have s2 := same_new nT (HO.tup [V.ty "list", V.ty "tuple", V.ty "dict", V.ty "str"])
    have ox2 := ox1.mono (ButN.of s2)
    have hb2 := hb1.mono s2
    have nt2 := nt1.mono s2
    have B2 := B1.trans (But.of s2)
    generalize (upd H1 T (HO.tup [V.ty "list", V.ty "tuple", V.ty "dict", V.ty "str"])) = H2 at ox2 hb2 B2 nt2 ⊢
    clear s2 ox1 ox nT nt1
    have fin : ∀ (v' : V) (d' : PyData) (H' : Hp), OX w H' N 0 v' d' → Fine d' 6 140 → BagAt H' b c → But b H2 H' → Q v' H' := fun v' d' H' a1 a2 a3 a4 => k v' d' H' (a1.to _) (a2.le (by omega) (by omega)) a3 (B2.trans a4)
    obtain ⟨r, rfl⟩ := Int.eq_ofNat_of_zero_le r0
    cases hs : seqD d with
    | false => exact tt_if rfl (tt_if rfl ⟨.ref b, rfl, b, c, N, rfl, hb2, Nb, nt2, fin⟩)
    | true =>
      refine ff_if rfl ⟨v, rfl, v, d, N, g, m', rfl, ox2, hs, fi.le (Nat.le_refl _) (by omega), rfl, _, rfl, ?_⟩
      by_cases hz : V.int (lenD d) = V.int 0
      · exact tt_if (decide_eq_true hz) (tt_if rfl ⟨.ref b, rfl, b, c, N, rfl, hb2, Nb, nt2, fin⟩)
      refine ff_if (decide_eq_false hz) ⟨.int r, rfl, rfl, _, rfl, ?_⟩
      by_cases hr0 : V.int r = V.int 0
      · exact tt_if (decide_eq_true hr0) ⟨.ref b, rfl, b, c, N, rfl, hb2, Nb, nt2, fin⟩
      refine ff_if (decide_eq_false hr0) ?_
      have lpos : 0 < lenD d := by
        rcases Nat.eq_zero_or_pos (lenD d) with q | q
        · exact absurd (by rw [q]; rfl) hz
        · exact q
      have lmax : lenD d ≤ 20000 := Nat.le_trans (lenD_wt d) fi.wt
      refine ⟨.ref b, rfl, v, rfl, v, d, N, g, m', rfl, ox2, hs, fi.le (Nat.le_refl _) (by omega), b, c, lenD d, rfl, hb2, by omega, by omega, fun at_ H3 a0 a1 hb3 B3' => ?_⟩
      obtain ⟨at_, rfl⟩ := Int.eq_ofNat_of_zero_le a0
      have lt : at_ < lenD d := by omega
      have ox3 := ox2.mono (ButN.bag B3' Nb)
      have nt3 := nt2.but B3' hb3
      have B3 := B2.trans B3'
      clear ox2 nt2 B3' B1 hb1 B2 fin hb2
      refine ⟨v, rfl, v, .ty "str", _, _, isD "str" d, rfl, .ty _, ox3.ty, kit_str _ d, _, rfl, ?_⟩
      have tD : isD "str" d = false → isD "dict" d = false → ∃ (a : Addr) (xs : List V) (ds : List PyData), v = .ref a ∧ (SqL K H3 a xs ∨ SqT K H3 a xs) ∧ OXs w H3 N g xs ds ∧ (d = .list ds ∨ d = .tuple ds) := by
        intro h1 h2
        cases ox3 with
        | non => cases hs
        | bl _ => cases hs
        | int _ => cases hs
        | str z l => cases h1
        | lst e _ ds => exact ⟨_, _, _, rfl, .inl (SqL.of e), ds, .inl rfl⟩
        | tup e _ ds => exact ⟨_, _, _, rfl, .inr (SqT.of e), ds, .inr rfl⟩
        | dct _ => cases h2
      have IHc : ∀ m, m + 1 = m' → ∀ (v₁ : V) (d₁ : PyData) (H₁ : Hp) (M : Addr → Prop) (Q : VK), M b → NT H₁ M → OX w H₁ M g v₁ d₁ → Fine d₁ m 20000 → BagAt H₁ b c → (∀ (v' : V) (d' : PyData) (H' : Hp), OX w H' M (g + 1) v' d' → Fine d' (m + 7) (2 * d₁.weight + 300) → BagAt H' b c → But b H₁ H' → Q v' H') → spSp w n [.ref b, v₁] H₁ Q E0 :=
        fun mm em v₁ d₁ H₁ M Q m1 m2 m3 m4 m5 m6 => ⟨b, c, M, v₁, d₁, g, mm, rfl, m5, m1, m2, m3, g1, m4, by omega, m6⟩
      cases h1 : isD "str" d with
      | true =>
        refine tt_if rfl ?_
        cases ox3 with
        | str z l =>
          have zl : z.length ≤ 20000 := fi.wt
          exact str_tail hb3 l zl fun y H' ly lny hb' B' => k _ (.str y) H' (.str y ly) ((Fine.str ly (Nat.le_refl _)).le (Nat.zero_le _) (by show y.length ≤ 2 * z.length + 300; exact lny)) hb' (B3.trans B')
        | _ => cases h1
      | false =>
        refine ff_if rfl ⟨v, rfl, v, .ty "dict", _, _, isD "dict" d, rfl, .ty _, ox3.ty, kit_dict _ d, _, rfl, ?_⟩
        cases h2 : isD "dict" d with
        | true =>
          refine tt_if rfl ?_
          cases ox3 with
          | @dct a kvs ds e Na u ub ls nd gr dd =>
            have le : (kvs.map fun p => p.1.dt).length = ds.length := by
              have := dd.len
              rw [List.length_map] at this ⊢
              exact this
            obtain ⟨mm, rfl⟩ : ∃ mm, m' = mm + 1 := by
              have := fi.dep
              rw [PyData.depth] at this
              exact ⟨m' - 1, by omega⟩
            obtain ⟨fk, fd, hw⟩ := Fine.kvs le fi
            have wq : (PyData.dict ((kvs.map fun p => p.1.dt).zip ds)).weight = PyData.weightAll (kvs.map fun p => p.1.dt) + PyData.weightAll ds := (kv_zip le).1
            rw [show lenD (.dict ((kvs.map fun p => p.1.dt).zip ds)) = kvs.length from zip_len dd.len] at lt
            refine dict_tail hb3 Nb nt3 e Na u ub ls nd gr g1 dd fk fd hw rfl lt (IHc mm rfl) fun v' d' H' o' f' hb' B' => k v' d' H' o' ?_ hb' (B3.trans B')
            rw [wq]
            exact f'
          | _ => cases h2
        | false =>
          refine ff_if rfl ?_
          obtain ⟨a, xs, ds, ev, hq, dd, hd⟩ := tD h1 h2
          obtain ⟨mm, rfl⟩ : ∃ mm, m' = mm + 1 := by
            have := fi.dep
            rcases hd with rfl | rfl <;> (rw [PyData.depth] at this; exact ⟨m' - 1, by omega⟩)
          have fa : FineAll ds mm 20000 := by
            rcases hd with rfl | rfl
            · exact fi.items
            · exact fi.itemsT
          have wq : d.weight = PyData.weightAll ds := by
            rcases hd with rfl | rfl <;> rfl
          have lq : lenD d = xs.length := by
            rw [dd.len]
            rcases hd with rfl | rfl <;> rfl
          refine seq_tail hb3 Nb nt3 ev ox3 hq dd fa (by omega) (by omega) (IHc mm rfl) fun v' ds' d' H' o' q f' hb' B' => k v' d' H' o' ?_ hb' (B3.trans B')
          rw [wq]
          rcases q with rfl | rfl
          · exact f'.lst.le (by omega) (Nat.le_refl _)
          · exact f'.tup.le (by omega) (Nat.le_refl _)
end
end Lw

set_option Elab.async false
set_option linter.all false
set_option maxRecDepth 100000
set_option maxHeartbeats 4000000
namespace Lw
open PySem PySem.Spec PyProof.Rows L2
/-- a list held against the empty one -/
def rEmpty (K : PySem.W.Frag) : R2 := fun x y H Q => ∃ (a b : Addr) (xs : List V), x = .ref a ∧ y = .ref b ∧ SqL K H a xs ∧ SqL K H b [] ∧ Q (.bl xs.isEmpty) H
theorem op_empty {X : Cx} (hu : X.A.units + 64 < cLine) : OpR X (compareOp .Eq) (rEmpty X.K) := by
  intro pl s σ H x y v u Q J rx ry h
  obtain ⟨a, b, xs, rfl, rfl, ha, hb, q⟩ := h
  cases xs with
  | nil => exact op_eqV hu pl s σ H _ _ v u Q J rx ry ⟨1, by decide, .inl ⟨a, b, [], [], rfl, rfl, ha, hb, .nil⟩, q⟩
  | cons z zs =>
    obtain rfl : v = Value.ref a := rx
    obtain rfl : u = Value.ref b := ry
    obtain ⟨us, ra, pa, _⟩ := J.list ha
    obtain ⟨ws, rb, pb, _⟩ := J.list hb
    cases rb
    cases ra
    exact SeqAt.eq_list_lengthsAt pa.isList pb.isList (by simp) (by omega) ⟨.bl false, H, J, rfl, q⟩
theorem Same.put {H H1 : Hp} {D : Addr} {o : HO} (s : Same H H1) (n : H D = none) : Same H (upd H1 D o) := fun a u e => by
  rw [upd_ne (ne_of_none e n)]
  exact s a u e
/-- whether a sign is a letter -/
def inL (c : Nat) : Bool := !(Builtin.Str.occurrences LET ⟨#[c]⟩ 0 LET.length 1).isEmpty
def nmB (z : Str) : Bool := decide (1 ≤ z.length) && decide (z.length ≤ 8) && z.cps.toList.all inL
def nmO : Option Str → Bool
  | some z => nmB z
  | none => false
/-- a value, and its text where it is one -/
inductive NV (w : World) (H : Hp) : V → Option Str → Prop
  | str (z : Str) (h : z.length ≤ 100000) : NV w H (.str z) (some z)
  | oth {v : V} {d : PyData} {N : Addr → Prop} {g : Nat} (x : OX w H N g v d) (h : isD "str" d = false) : NV w H v none
def strD : PyData → Option Str
  | .str z => some z
  | _ => none
theorem OX.nv {w : World} {H : Hp} {N : Addr → Prop} {g n : Nat} {v : V} {d : PyData} (x : OX w H N g v d) (f : Fine d n 100000) : NV w H v (strD d) := by
  cases x with
  | str z l => exact .str z f.wt
  | non => exact .oth (N := N) (g := g) .non rfl
  | bl c => exact .oth (N := N) (g := g) (.bl c) rfl
  | int i => exact .oth (N := N) (g := g) (.int i) rfl
  | lst e n d => exact .oth (.lst e n d) rfl
  | tup e n d => exact .oth (.tup e n d) rfl
  | dct e n u ub ls nd gr d => exact .oth (.dct e n u ub ls nd gr d) rfl
theorem NV.mono {w : World} {H H' : Hp} {v : V} {o : Option Str} (x : NV w H v o) (s : Same H H') : NV w H' v o := by
  cases x with
  | str z h => exact .str z h
  | oth x h => exact .oth (x.mono (ButN.of s)) h
theorem NV.isStr {w : World} {K : PySem.W.Frag} {H : Hp} {v : V} {o : Option Str} (x : NV w H v o) : ∃ T, TyM K w H v (.type T) ∧ PySem.W.kitOne K (.type T) (.type "str") = some o.isSome := by
  cases x with
  | str z h => exact ⟨"str", .base (.base (.str z)), rfl⟩
  | @oth v d N g x h => exact ⟨tyD d, x.ty, by rw [kit_str, h]; rfl⟩
theorem NV.kd {w : World} {K : PySem.W.Frag} {H : Hp} {v : V} {o : Option Str} (x : NV w H v o) : Kd K w H v := by
  cases x with
  | str z h => exact .str z
  | oth x h => exact x.kd
abbrev sIsName : Stmt := topS 5
abbrev sLIsName : Stmt := topS 20
section
variable {P : Program} {w : World} {K : PySem.W.Frag} {mg : Str → Option Value} {base : Heap}
def spIsName (w : World) : Sp := fun vs H Q _ => ∃ (v : V) (o : Option Str), vs = [v] ∧ NV w H v o ∧ ∀ H', Same H H' → Q (.bl (nmO o)) H'
theorem scIsName : FnScope ["thing", "letter"] ["thing"] (defScope sIsName) := ⟨rfl, rfl, rfl, by decide +kernel, rfl, by decide +kernel, by decide +kernel⟩
theorem scLIsName : FnScope ["_law_thing", "_law_sign"] ["_law_thing"] (defScope sLIsName) := ⟨rfl, rfl, rfl, by decide +kernel, rfl, by decide +kernel, by decide +kernel⟩
theorem ok_isname {f : Addr} {fd : FuncData} {t1 t2 : Tok} (F : Fun K "is_name" "is_name" sIsName f fd) (mi : mg "isinstance" = none) (ms : mg "str" = none) (ml : mg "len" = none) (mall : mg "all" = none) (mL : mg "LETTERS" = some (.str LET t1)) (mM : mg "LONGEST" = some (.int 8 t2)) :
    FnOk P w K mg base CX0 1 f fd ["thing"] (spIsName w) := by
  refine F.ok scIsName (fun vs H Q E h => ?_) (fun cdv A outer s H vs Q E hr h => ?_)
  · obtain ⟨v, o, rfl, _⟩ := h
    rfl
  obtain ⟨v, o, rfl, nv, q⟩ := h
  refine ⟨_, pss_cons (ps_if (PW.pt (pw_or (pt_not (pt_val (pe_callB call_isiM (by rfl) mi (by decide +kernel) (pa_cons (pv 0) (pa_cons (pe_bltn (v := .ty "str") (by rfl) ms (by decide +kernel) rfl) pa_nil)))))
      (pw_or1 (pt_not ((pt_chain op_le op_le pe_int (pe_callB call_len (by rfl) ml (by decide +kernel) (pa_cons (pv 0) pa_nil)) (pe_glob (v := .int 8) (by rfl) mM ⟨t2, rfl⟩)))))))
      (pss_one (ps_ret pe_bl)) pss_nil)
    (pss_one (ps_ret (pe_callB (cr_all rfl) (by rfl) mall (by decide +kernel) (pa_cons (pe_lc (own := [("letter", 1)]) (g := gName 1) (tt := tYes) rfl scIsName.nd (pi_str (pv 0)) (blkOk_by (N := ["thing", "letter"]) (sc := defScope sIsName) (by decide +kernel))
      (fun _ _ _ _ _ => pg_name (i := 1) scIsName.nd rfl (Or.inl rfl)) (fun _ _ _ _ _ => pts_nil) (fun _ _ _ _ _ => pe_cmpR op_in_str (pv 1) (pe_glob (v := .str LET) (by rfl) mL ⟨t1, rfl⟩) (by rfl))) pa_nil)))), ?_⟩
  obtain ⟨T, ty, kit⟩ := nv.isStr (K := K)
  refine ⟨v, rfl, v, .ty "str", _, _, o.isSome, rfl, .ty _, ty, kit, _, rfl, ?_⟩
  cases nv with
  | oth x h => exact tt_if rfl (tt_if rfl (q H fun _ _ e => e))
  | str z hz =>
    have sz : z.length ≤ sizeLine := by rw [sizeLine_eq]; omega
    refine ff_if rfl ⟨.str z, rfl, .str z, z.length, rfl, ⟨sz, rfl⟩, 1, (z.length : Int), rfl, rfl, _, rfl, ?_⟩
    by_cases h1 : (1 : Int) ≤ (z.length : Int)
    · refine tt_if (decide_eq_true h1) ⟨z.length, 8, rfl, rfl, _, rfl, ?_⟩
      by_cases h8 : (z.length : Int) ≤ 8
      · rw [decide_eq_true h8]
        refine ff_if rfl ?_
        refine ⟨.str z, rfl, z, rfl, fun D nD => ?_⟩
        refine lc_strI (fun i H1 => Same H H1 ∧ H1 D = some (.lst ((z.cps.toList.take i).map fun c => V.bl (inL c)))) ⟨same_new nD _, upd_same⟩ ?_ ?_
        · rintro i c H1 hx ⟨s1, h1'⟩
          refine ⟨rfl, yes_if ⟨.str ⟨#[c]⟩, rfl, ⟨#[c]⟩, LET, rfl, rfl, _, h1', ?_, Same.put s1 nD, ?_⟩⟩
          · rw [List.length_map, List.length_take, Array.length_toList]
            have : z.cps.size = z.length := rfl
            rw [sizeLine_eq]; omega
          · rw [upd_same, List.take_add_one, hx]
            simp [inL]
        · rintro H1 ⟨s1, h1'⟩
          rw [List.take_length] at h1'
          refine ⟨D, z.cps.toList.map inL, rfl, SqL.of (by rw [List.map_map]; exact h1'), ?_⟩
          have e : nmO (some z) = (z.cps.toList.map inL).all id := by
            show (decide (1 ≤ z.length) && decide (z.length ≤ 8) && z.cps.toList.all inL) = _
            rw [decide_eq_true (by omega : 1 ≤ z.length), decide_eq_true (by omega : z.length ≤ 8), List.all_map]
            rfl
          rw [← e]
          exact q H1 s1
      · rw [decide_eq_false h8]
        refine tt_if rfl ?_
        have e : nmO (some z) = false := by
          show (decide (1 ≤ z.length) && decide (z.length ≤ 8) && z.cps.toList.all inL) = false
          rw [decide_eq_false (by omega : ¬ z.length ≤ 8), Bool.and_false, Bool.false_and]
        rw [e] at q
        exact q H fun _ _ e => e
    · refine ff_if (decide_eq_false h1) ⟨_, rfl, tt_if rfl ?_⟩
      have e : nmO (some z) = false := by
        show (decide (1 ≤ z.length) && decide (z.length ≤ 8) && z.cps.toList.all inL) = false
        rw [decide_eq_false (by omega : ¬ 1 ≤ z.length), Bool.false_and, Bool.false_and]
      rw [e] at q
      exact q H fun _ _ e => e
end
end Lw

set_option Elab.async false
set_option linter.all false
set_option maxRecDepth 100000
set_option maxHeartbeats 4000000
namespace Lw
open PySem PySem.Spec PyProof.Rows L2
/-- a def that is called: where it stands, and what it promises -/
structure Ok (P : Program) (w : World) (K : PySem.W.Frag) (mg : Str → Option Value) (base : Heap) (n : Nat) (x : Str) (ps : List Str) (sp : Sp) (f : Addr) (fd : FuncData) : Prop where
  F : FnOk P w K mg base CX0 n f fd ps sp
  m : mg x = some (.ref f)
  k : PySem.W.keepIn K (.ref f) = true
  b : Binds K fd ps []
def plusB (z : Str) : Bool := decide (V.str (cutS z none (some 1)) = V.str "+")
def nwO : Option Str → Bool
  | some z => plusB z && nmB (cutS z (some 1) none)
  | none => false
def idO (o : Option Str) : Bool := nmO o || nwO o
def twoL : List Str → Bool
  | [y, x] => nmB y && nmB x
  | _ => false
theorem twoL_no : ∀ {ps : List Str}, ps.length ≠ 2 → twoL ps = false
  | [], _ => rfl
  | [_], _ => rfl
  | [_, _], h => absurd rfl h
  | _ :: _ :: _ :: _, _ => rfl
def twoB (z : Str) : Bool := twoL (Txt.split (cutS z (some 1) none) ".")
def tgO : Option Str → Bool
  | some z => if plusB z = true then twoB z else nmB z
  | none => false
theorem cut_len {z : Str} {lo hi : Option Int} {n : Nat} (h : z.length ≤ n) : (cutS z lo hi).length ≤ n := Nat.le_trans (cutS_length z lo hi) h
abbrev sIsInt : Stmt := topS 4
abbrev sIsId : Stmt := topS 6
abbrev sIsNew : Stmt := topS 7
abbrev sIsTag : Stmt := topS 8
abbrev sIsMode : Stmt := topS 9
abbrev sLess : Stmt := topS 10
abbrev sNewId : Stmt := topS 11
abbrev sOwn : Stmt := topS 12
abbrev sLIsId : Stmt := topS 21
abbrev sLIsTag : Stmt := topS 22
section
variable {P : Program} {w : World} {K : PySem.W.Frag} {mg : Str → Option Value} {base : Heap}
theorem ok_lisname {f : Addr} {fd : FuncData} (F : Fun K "_law_is_name" "_law_is_name" sLIsName f fd) (mi : mg "isinstance" = none) (ms : mg "str" = none) (ml : mg "len" = none) :
    FnOk P w K mg base CX0 1 f fd ["_law_thing"] (spIsName w) := by
  refine F.ok scLIsName (fun vs H Q E h => ?_) (fun cdv A outer s H vs Q E hr h => ?_)
  · obtain ⟨v, o, rfl, _⟩ := h
    rfl
  obtain ⟨v, o, rfl, nv, q⟩ := h
  refine ⟨_, pss_cons (ps_if (PW.pt (pw_or (pt_not (pt_val (pe_callB call_isiM (by rfl) mi (by decide +kernel) (pa_cons (pv 0) (pa_cons (pe_bltn (v := .ty "str") (by rfl) ms (by decide +kernel) rfl) pa_nil)))))
      (pw_or1 (pt_not ((pt_chain op_le op_le pe_int (pe_callB call_len (by rfl) ml (by decide +kernel) (pa_cons (pv 0) pa_nil)) pe_int))))))
      (pss_one (ps_ret pe_bl)) pss_nil)
    (pss_one (ps_ret (pe_cmpR (op_empty hr.units) (pe_lc (own := [("_law_sign", 1)]) (g := gName 1) rfl scLIsName.nd (pi_str (pv 0)) (blkOk_by (N := ["_law_thing", "_law_sign"]) (sc := defScope sLIsName) (by decide +kernel))
      (fun _ _ _ _ _ => pg_name (i := 1) scLIsName.nd rfl (Or.inl rfl)) (fun _ _ _ _ _ => pts_one (pt_cmpR op_notIn_str (pv 1) pe_str (by rfl))) (fun _ _ _ _ _ => pv 1)) (pe_lst pa_nil) (nomark _)))), ?_⟩
  obtain ⟨T, ty, kit⟩ := nv.isStr (K := K)
  refine ⟨v, rfl, v, .ty "str", _, _, o.isSome, rfl, .ty _, ty, kit, _, rfl, ?_⟩
  cases nv with
  | oth x h => exact tt_if rfl (tt_if rfl (q H fun _ _ e => e))
  | str z hz =>
    have sz : z.length ≤ sizeLine := by rw [sizeLine_eq]; omega
    refine ff_if rfl ⟨.str z, rfl, .str z, z.length, rfl, ⟨sz, rfl⟩, 1, (z.length : Int), rfl, rfl, _, rfl, ?_⟩
    by_cases h1 : (1 : Int) ≤ (z.length : Int)
    · refine tt_if (decide_eq_true h1) ⟨z.length, 8, rfl, rfl, _, rfl, ?_⟩
      by_cases h8 : (z.length : Int) ≤ 8
      · rw [decide_eq_true h8]
        refine ff_if rfl ?_
        refine ⟨.str z, rfl, z, rfl, fun D nD => ?_⟩
        have bound : z.cps.toList.length ≤ 100000 := by rw [Array.length_toList]; exact hz
        refine lc_strI (fun i H1 => Same H H1 ∧ ∃ acc, H1 D = some (.lst acc) ∧ acc.length ≤ i ∧ acc.isEmpty = (z.cps.toList.take i).all inL) ⟨same_new nD _, [], upd_same, Nat.le_refl _, rfl⟩ ?_ ?_
        · rintro i c H1 hx ⟨s1, acc, ha, la, em⟩
          have il : i < z.cps.toList.length := (List.getElem?_eq_some_iff.mp hx).1
          refine ⟨rfl, .str ⟨#[c]⟩, rfl, ⟨#[c]⟩, LET, rfl, rfl, _, rfl, ?_⟩
          have step : (z.cps.toList.take (i + 1)).all inL = ((z.cps.toList.take i).all inL && inL c) := by
            rw [List.take_add_one, hx, List.all_append]
            simp
          cases hc : inL c with
          | true => exact ff_if (by show (!(inL c)) = false; rw [hc]; rfl) ⟨s1, acc, ha, Nat.le_succ_of_le la, by rw [step, hc, ← em, Bool.and_true]⟩
          | false => exact tt_if (by show (!(inL c)) = true; rw [hc]; rfl) ⟨.str ⟨#[c]⟩, rfl, acc, ha, by rw [sizeLine_eq]; omega, Same.put s1 nD, _, upd_same, by rw [List.length_append]; exact Nat.succ_le_succ la, by rw [step, hc, Bool.and_false]; simp⟩
        · rintro H1 ⟨s1, acc, ha, la, em⟩
          rw [List.take_length] at em
          refine ⟨small (Nat.zero_le _), fun L nL => ⟨D, L, acc, rfl, rfl, SqL.of ((same_new nL _) _ _ ha), SqL.of upd_same, ?_⟩⟩
          have e : nmO (some z) = acc.isEmpty := by
            show (decide (1 ≤ z.length) && decide (z.length ≤ 8) && z.cps.toList.all inL) = _
            rw [decide_eq_true (by omega : 1 ≤ z.length), decide_eq_true (by omega : z.length ≤ 8), em]
            rfl
          rw [← e]
          exact q _ (s1.trans (same_new nL _))
      · rw [decide_eq_false h8]
        refine tt_if rfl ?_
        have e : nmO (some z) = false := by
          show (decide (1 ≤ z.length) && decide (z.length ≤ 8) && z.cps.toList.all inL) = false
          rw [decide_eq_false (by omega : ¬ z.length ≤ 8), Bool.and_false, Bool.false_and]
        rw [e] at q
        exact q H fun _ _ e => e
    · refine ff_if (decide_eq_false h1) ⟨_, rfl, tt_if rfl ?_⟩
      have e : nmO (some z) = false := by
        show (decide (1 ≤ z.length) && decide (z.length ≤ 8) && z.cps.toList.all inL) = false
        rw [decide_eq_false (by omega : ¬ 1 ≤ z.length), Bool.false_and, Bool.false_and]
      rw [e] at q
      exact q H fun _ _ e => e
def spIsNew (w : World) : Sp := fun vs H Q _ => ∃ (v : V) (o : Option Str), vs = [v] ∧ NV w H v o ∧ ∀ H', Same H H' → Q (.bl (nwO o)) H'
theorem scIsNew : FnScope ["thing"] ["thing"] (defScope sIsNew) := ⟨rfl, rfl, rfl, by decide +kernel, rfl, by decide +kernel, by decide +kernel⟩
theorem ok_isnew {f f1 : Addr} {fd fd1 : FuncData} (F : Fun K "is_new_id" "is_new_id" sIsNew f fd) (G : Ok P w K mg base 1 "is_name" ["thing"] (spIsName w) f1 fd1) (mi : mg "isinstance" = none) (ms : mg "str" = none) : FnOk P w K mg base CX0 2 f fd ["thing"] (spIsNew w) := by
  refine F.ok scIsNew (fun vs H Q E h => ?_) (fun cdv A outer s H vs Q E hr h => ?_)
  · obtain ⟨v, o, rfl, _⟩ := h
    rfl
  obtain ⟨v, o, rfl, nv, q⟩ := h
  refine ⟨_, pss_one (ps_ret (pe_and (pe_callB call_isiM (by rfl) mi (by decide +kernel) (pa_cons (pv 0) (pa_cons (pe_bltn (v := .ty "str") (by rfl) ms (by decide +kernel) rfl) pa_nil))) (pe_and (pe_cmpR op_eq (pe_slice sl_str (pv 0) po_none (po_some pe_int)) pe_str (nomark _)) (pe_one (pe_call G.F hr (by rfl) G.m G.k G.b .nil pass0 (pa_cons (pe_slice sl_str (pv 0) (po_some pe_int) po_none) pa_nil)))))), ?_⟩
  obtain ⟨T, ty, kit⟩ := nv.isStr (K := K)
  refine ⟨v, rfl, v, .ty "str", _, _, o.isSome, rfl, .ty _, ty, kit, _, rfl, ?_⟩
  cases nv with
  | oth x h => exact ff_if rfl (q H fun _ _ e => e)
  | str z hz =>
    have sz : z.length ≤ sizeLine := by rw [sizeLine_eq]; omega
    refine tt_if rfl ⟨.str z, rfl, 1, rfl, z, rfl, sz, rfl, _, rfl, ?_⟩
    cases hp : plusB z with
    | false =>
      refine ff_if hp ?_
      have e : nwO (some z) = false := by show (plusB z && _) = false; rw [hp]; rfl
      rw [e] at q
      exact q H fun _ _ e => e
    | true =>
      refine tt_if hp ⟨.str z, rfl, 1, rfl, z, rfl, sz, _, _, rfl, .str _ (cut_len hz), fun H' s' => ?_⟩
      have e : nwO (some z) = nmO (some (cutS z (some 1) none)) := by show (plusB z && _) = _; rw [hp]; rfl
      rw [← e]
      exact q H' s'
def spIsId (w : World) : Sp := fun vs H Q _ => ∃ (v : V) (o : Option Str), vs = [v] ∧ NV w H v o ∧ ∀ H', Same H H' → Q (.bl (idO o)) H'
theorem scIsId : FnScope ["thing"] ["thing"] (defScope sIsId) := ⟨rfl, rfl, rfl, by decide +kernel, rfl, by decide +kernel, by decide +kernel⟩
theorem ok_isid {f f1 f2 : Addr} {fd fd1 fd2 : FuncData} (F : Fun K "is_id" "is_id" sIsId f fd) (G : Ok P w K mg base 1 "is_name" ["thing"] (spIsName w) f1 fd1) (G2 : Ok P w K mg base 2 "is_new_id" ["thing"] (spIsNew w) f2 fd2) : FnOk P w K mg base CX0 3 f fd ["thing"] (spIsId w) := by
  refine F.ok scIsId (fun vs H Q E h => ?_) (fun cdv A outer s H vs Q E hr h => ?_)
  · obtain ⟨v, o, rfl, _⟩ := h
    rfl
  obtain ⟨v, o, rfl, nv, q⟩ := h
  refine ⟨_, pss_one (ps_ret (pe_or (pe_call G.F (hr.mono (by decide)) (by rfl) G.m G.k G.b .nil pass0 (pa_cons (pv 0) pa_nil)) (pe_one (pe_call G2.F hr (by rfl) G2.m G2.k G2.b .nil pass0 (pa_cons (pv 0) pa_nil))))), ?_⟩
  refine ⟨v, rfl, v, o, rfl, nv, fun H1 s1 => ⟨_, rfl, ?_⟩⟩
  cases h1 : nmO o with
  | true =>
    refine tt_if rfl ?_
    have e : idO o = true := by unfold idO; rw [h1]; rfl
    rw [e] at q
    exact q H1 s1
  | false =>
    refine ff_if rfl ⟨v, rfl, v, o, rfl, nv.mono s1, fun H2 s2 => ?_⟩
    have e : idO o = nwO o := by unfold idO; rw [h1]; rfl
    rw [← e]
    exact q H2 (s1.trans s2)
theorem scLIsId : FnScope ["_law_thing"] ["_law_thing"] (defScope sLIsId) := ⟨rfl, rfl, rfl, by decide +kernel, rfl, by decide +kernel, by decide +kernel⟩
theorem ok_lisid {f f1 : Addr} {fd fd1 : FuncData} (F : Fun K "_law_is_id" "_law_is_id" sLIsId f fd) (G : Ok P w K mg base 1 "_law_is_name" ["_law_thing"] (spIsName w) f1 fd1) (mi : mg "isinstance" = none) (ms : mg "str" = none) : FnOk P w K mg base CX0 2 f fd ["_law_thing"] (spIsId w) := by
  refine F.ok scLIsId (fun vs H Q E h => ?_) (fun cdv A outer s H vs Q E hr h => ?_)
  · obtain ⟨v, o, rfl, _⟩ := h
    rfl
  obtain ⟨v, o, rfl, nv, q⟩ := h
  refine ⟨_, pss_one (ps_ret (pe_or (pe_call G.F hr (by rfl) G.m G.k G.b .nil pass0 (pa_cons (pv 0) pa_nil)) (pe_one (pe_and (pe_callB call_isiM (by rfl) mi (by decide +kernel) (pa_cons (pv 0) (pa_cons (pe_bltn (v := .ty "str") (by rfl) ms (by decide +kernel) rfl) pa_nil))) (pe_and (pe_cmpR op_eq (pe_slice sl_str (pv 0) po_none (po_some pe_int)) pe_str (nomark _)) (pe_one (pe_call G.F hr (by rfl) G.m G.k G.b .nil pass0 (pa_cons (pe_slice sl_str (pv 0) (po_some pe_int) po_none) pa_nil)))))))), ?_⟩
  refine ⟨v, rfl, v, o, rfl, nv, fun H1 s1 => ⟨_, rfl, ?_⟩⟩
  cases h1 : nmO o with
  | true =>
    refine tt_if rfl ?_
    have e : idO o = true := by unfold idO; rw [h1]; rfl
    rw [e] at q
    exact q H1 s1
  | false =>
    have nv1 := nv.mono s1
    have e : idO o = nwO o := by unfold idO; rw [h1]; rfl
    rw [e] at q
    obtain ⟨T, ty, kit⟩ := nv1.isStr (K := K)
    refine ff_if rfl ⟨v, rfl, v, .ty "str", _, _, o.isSome, rfl, .ty _, ty, kit, _, rfl, ?_⟩
    cases nv1 with
    | oth x h => exact ff_if rfl (q H1 s1)
    | str z hz =>
      have sz : z.length ≤ sizeLine := by rw [sizeLine_eq]; omega
      refine tt_if rfl ⟨.str z, rfl, 1, rfl, z, rfl, sz, rfl, _, rfl, ?_⟩
      cases hp : plusB z with
      | false =>
        refine ff_if hp ?_
        have e : nwO (some z) = false := by show (plusB z && _) = false; rw [hp]; rfl
        rw [e] at q
        exact q H1 s1
      | true =>
        refine tt_if hp ⟨.str z, rfl, 1, rfl, z, rfl, sz, _, _, rfl, .str _ (cut_len hz), fun H' s' => ?_⟩
        have e : nwO (some z) = nmO (some (cutS z (some 1) none)) := by show (plusB z && _) = _; rw [hp]; rfl
        rw [← e]
        exact q H' (s1.trans s')
end
end Lw

set_option Elab.async false
set_option linter.all false
set_option maxRecDepth 100000
set_option maxHeartbeats 4000000
namespace Lw
open PySem PySem.Spec PyProof.Rows L2
theorem spl_len (T : List Nat) : ∀ (l : List Nat) (k : Nat) (acc y : List Nat), y ∈ TL.spl T k acc l → y.length ≤ acc.length + l.length
  | [], k, acc, y, h => by
    rw [TL.spl_nil] at h
    cases List.mem_singleton.mp h
    exact Nat.le_add_right _ _
  | c :: r, 0, acc, y, h => by
    rw [TL.spl] at h
    split at h
    · rcases List.mem_cons.mp h with g | g
      · rw [g]; exact Nat.le_add_right _ _
      · have := spl_len T r _ [] y g
        rw [List.length_nil] at this
        rw [List.length_cons]; omega
    · have := spl_len T r 0 (acc ++ [c]) y h
      rw [List.length_append, List.length_singleton] at this
      rw [List.length_cons]; omega
  | c :: r, k + 1, acc, y, h => by
    rw [TL.spl] at h
    have := spl_len T r k acc y h
    rw [List.length_cons]; omega
theorem split_len {z y : Str} (h : y ∈ Txt.split z ".") : y.length ≤ z.length := by
  have e : Txt.split z "." = (TL.spl [46] 0 [] z.cps.toList).map SX.S := SX.split_S (a := z.cps.toList) (b := [46]) (by decide) (by decide)
  rw [e] at h
  obtain ⟨l, hl, rfl⟩ := List.mem_map.mp h
  have := spl_len [46] _ 0 [] l hl
  rw [List.length_nil, Nat.zero_add, Array.length_toList] at this
  show l.toArray.size ≤ z.cps.size
  rw [List.size_toArray]
  exact this
section
variable {P : Program} {w : World} {K : PySem.W.Frag} {mg : Str → Option Value} {base : Heap}
def spIsTag (w : World) : Sp := fun vs H Q _ => ∃ (v : V) (o : Option Str), vs = [v] ∧ NV w H v o ∧ ∀ H', Same H H' → Q (.bl (tgO o)) H'
theorem scistag : FnScope ["thing", "parts"] ["thing"] (defScope sIsTag) := ⟨rfl, rfl, rfl, by decide +kernel, rfl, by decide +kernel, by decide +kernel⟩
theorem ok_istag {f f1 : Addr} {fd fd1 : FuncData} (F : Fun K "is_tag_name" "is_tag_name" sIsTag f fd) (G : Ok P w K mg base 1 "is_name" ["thing"] (spIsName w) f1 fd1) (mi : mg "isinstance" = none) (ms : mg "str" = none) (ml : mg "len" = none) : FnOk P w K mg base CX0 2 f fd ["thing"] (spIsTag w) := by
  refine F.ok scistag (fun vs H Q E h => ?_) (fun cdv A outer s H vs Q E hr h => ?_)
  · obtain ⟨v, o, rfl, _⟩ := h
    rfl
  obtain ⟨v, o, rfl, nv, q⟩ := h
  refine ⟨_, pss_cons (ps_if (PW.pt (pw_or (pt_not (pt_val (pe_callB call_isiM (by rfl) mi (by decide +kernel) (pa_cons (pv 0) (pa_cons (pe_bltn (v := .ty "str") (by rfl) ms (by decide +kernel) rfl) pa_nil))))) (pw_or1 (pt_cmpR op_ne (pe_slice sl_str (pv 0) po_none (po_some pe_int)) pe_str (nomark _))))) (pss_one (ps_ret (pe_call G.F hr (by rfl) G.m G.k G.b .nil pass0 (pa_cons (pv 0) pa_nil)))) pss_nil)
    (pss_cons (ps_set (i := 1) scistag.nd rfl (.inl rfl) (pe_split (pe_slice sl_str (pv 0) (po_some pe_int) po_none) pe_str))
    (pss_one (ps_ret (pe_and (pe_cmpR op_eq (pe_callB call_len (by rfl) ml (by decide +kernel) (pa_cons (pv 1) pa_nil)) pe_int (nomark _)) (pe_and (pe_call G.F hr (by rfl) G.m G.k G.b .nil pass0 (pa_cons (pe_ix ix_list (pv 1) pe_int (fun _ _ => rfl)) pa_nil)) (pe_one (pe_call G.F hr (by rfl) G.m G.k G.b .nil pass0 (pa_cons (pe_ix ix_list (pv 1) pe_int (fun _ _ => rfl)) pa_nil)))))))), ?_⟩
  obtain ⟨T, ty, kit⟩ := nv.isStr (K := K)
  refine ⟨v, rfl, v, .ty "str", _, _, o.isSome, rfl, .ty _, ty, kit, _, rfl, ?_⟩
  cases nv with
  | oth x h => exact tt_if rfl (tt_if rfl ⟨v, rfl, v, none, rfl, .oth x h, fun H' s' => q H' s'⟩)
  | str z hz =>
    have sz : z.length + 2 ≤ sizeLine := by rw [sizeLine_eq]; omega
    refine ff_if rfl ⟨.str z, rfl, 1, rfl, z, rfl, by omega, rfl, _, rfl, ?_⟩
    cases hp : plusB z with
    | false =>
      refine tt_if (by show (!(plusB z)) = true; rw [hp]; rfl) ⟨.str z, rfl, .str z, some z, rfl, .str z hz, fun H' s' => ?_⟩
      have e : tgO (some z) = nmO (some z) := by show (if plusB z = true then twoB z else nmB z) = nmB z; rw [hp]; rfl
      rw [← e]
      exact q H' s'
    | true =>
      have e : tgO (some z) = twoB z := by show (if plusB z = true then twoB z else nmB z) = _; rw [hp]; rfl
      rw [e] at q
      refine ff_if (by show (!(plusB z)) = false; rw [hp]; rfl) ?_
      have lc : (cutS z (some 1) none).length ≤ 100000 := cut_len hz
      refine ⟨.str z, rfl, 1, rfl, z, rfl, by omega, ⟨_, rfl⟩, _, ".", rfl, rfl, by decide +kernel, by rw [sizeLine_eq]; omega, fun p np => ?_⟩
      have parts : ∀ y ∈ Txt.split (cutS z (some 1) none) ".", y.length ≤ 100000 := fun y hy => Nat.le_trans (split_len hy) lc
      unfold twoB at q
      generalize Txt.split (cutS z (some 1) none) "." = ps at parts q ⊢
      have s1 := same_new np (HO.lst (ps.map V.str))
      have e1 : (upd H p (.lst (ps.map V.str))) p = some (.lst (ps.map V.str)) := upd_same
      generalize upd H p (.lst (ps.map V.str)) = H1 at s1 e1 ⊢
      refine ⟨.ref p, rfl, .ref p, ps.length, rfl, .inl ⟨_, SqL.of e1, by rw [List.length_map]⟩, rfl, _, rfl, ?_⟩
      by_cases h2 : ps.length = 2
      · refine tt_if (by rw [h2]; rfl) ?_
        match ps, h2 with
        | [y, x], _ =>
          refine ⟨.ref p, rfl, p, _, 0, _, rfl, rfl, .inl (.inl e1), atI_nat (j := 0) rfl, .str y, some y, rfl, .str y (parts y (by simp)), fun H2 s2 => ⟨_, rfl, ?_⟩⟩
          cases hy : nmB y with
          | false =>
            refine ff_if hy ?_
            have e2 : twoL [y, x] = false := by show (nmB y && nmB x) = false; rw [hy]; rfl
            rw [e2] at q
            exact q H2 (s1.trans s2)
          | true =>
            refine tt_if hy ⟨.ref p, rfl, p, _, 1, _, rfl, rfl, .inl (.inl (s2 _ _ e1)), atI_nat (j := 1) rfl, .str x, some x, rfl, .str x (parts x (by simp)), fun H3 s3 => ?_⟩
            have e2 : twoL [y, x] = nmO (some x) := by show (nmB y && nmB x) = nmB x; rw [hy]; rfl
            rw [e2] at q
            exact q H3 ((s1.trans s2).trans s3)
      · refine ff_if (decide_eq_false fun h => h2 (by injection h with h; omega)) ?_
        rw [twoL_no h2] at q
        exact q H1 s1
theorem sclistag : FnScope ["_law_thing", "_law_parts"] ["_law_thing"] (defScope sLIsTag) := ⟨rfl, rfl, rfl, by decide +kernel, rfl, by decide +kernel, by decide +kernel⟩
theorem ok_listag {f f1 : Addr} {fd fd1 : FuncData} (F : Fun K "_law_is_tag_name" "_law_is_tag_name" sLIsTag f fd) (G : Ok P w K mg base 1 "_law_is_name" ["_law_thing"] (spIsName w) f1 fd1) (mi : mg "isinstance" = none) (ms : mg "str" = none) (ml : mg "len" = none) : FnOk P w K mg base CX0 2 f fd ["_law_thing"] (spIsTag w) := by
  refine F.ok sclistag (fun vs H Q E h => ?_) (fun cdv A outer s H vs Q E hr h => ?_)
  · obtain ⟨v, o, rfl, _⟩ := h
    rfl
  obtain ⟨v, o, rfl, nv, q⟩ := h
  refine ⟨_, pss_cons (ps_if (PW.pt (pw_or (pt_not (pt_val (pe_callB call_isiM (by rfl) mi (by decide +kernel) (pa_cons (pv 0) (pa_cons (pe_bltn (v := .ty "str") (by rfl) ms (by decide +kernel) rfl) pa_nil))))) (pw_or1 (pt_cmpR op_ne (pe_slice sl_str (pv 0) po_none (po_some pe_int)) pe_str (nomark _))))) (pss_one (ps_ret (pe_call G.F hr (by rfl) G.m G.k G.b .nil pass0 (pa_cons (pv 0) pa_nil)))) pss_nil)
    (pss_cons (ps_set (i := 1) sclistag.nd rfl (.inl rfl) (pe_split (pe_slice sl_str (pv 0) (po_some pe_int) po_none) pe_str))
    (pss_one (ps_ret (pe_and (pe_cmpR op_eq (pe_callB call_len (by rfl) ml (by decide +kernel) (pa_cons (pv 1) pa_nil)) pe_int (nomark _)) (pe_and (pe_call G.F hr (by rfl) G.m G.k G.b .nil pass0 (pa_cons (pe_ix ix_list (pv 1) pe_int (fun _ _ => rfl)) pa_nil)) (pe_one (pe_call G.F hr (by rfl) G.m G.k G.b .nil pass0 (pa_cons (pe_ix ix_list (pv 1) pe_int (fun _ _ => rfl)) pa_nil)))))))), ?_⟩
  obtain ⟨T, ty, kit⟩ := nv.isStr (K := K)
  refine ⟨v, rfl, v, .ty "str", _, _, o.isSome, rfl, .ty _, ty, kit, _, rfl, ?_⟩
  cases nv with
  | oth x h => exact tt_if rfl (tt_if rfl ⟨v, rfl, v, none, rfl, .oth x h, fun H' s' => q H' s'⟩)
  | str z hz =>
    have sz : z.length + 2 ≤ sizeLine := by rw [sizeLine_eq]; omega
    refine ff_if rfl ⟨.str z, rfl, 1, rfl, z, rfl, by omega, rfl, _, rfl, ?_⟩
    cases hp : plusB z with
    | false =>
      refine tt_if (by show (!(plusB z)) = true; rw [hp]; rfl) ⟨.str z, rfl, .str z, some z, rfl, .str z hz, fun H' s' => ?_⟩
      have e : tgO (some z) = nmO (some z) := by show (if plusB z = true then twoB z else nmB z) = nmB z; rw [hp]; rfl
      rw [← e]
      exact q H' s'
    | true =>
      have e : tgO (some z) = twoB z := by show (if plusB z = true then twoB z else nmB z) = _; rw [hp]; rfl
      rw [e] at q
      refine ff_if (by show (!(plusB z)) = false; rw [hp]; rfl) ?_
      have lc : (cutS z (some 1) none).length ≤ 100000 := cut_len hz
      refine ⟨.str z, rfl, 1, rfl, z, rfl, by omega, ⟨_, rfl⟩, _, ".", rfl, rfl, by decide +kernel, by rw [sizeLine_eq]; omega, fun p np => ?_⟩
      have parts : ∀ y ∈ Txt.split (cutS z (some 1) none) ".", y.length ≤ 100000 := fun y hy => Nat.le_trans (split_len hy) lc
      unfold twoB at q
      generalize Txt.split (cutS z (some 1) none) "." = ps at parts q ⊢
      have s1 := same_new np (HO.lst (ps.map V.str))
      have e1 : (upd H p (.lst (ps.map V.str))) p = some (.lst (ps.map V.str)) := upd_same
      generalize upd H p (.lst (ps.map V.str)) = H1 at s1 e1 ⊢
      refine ⟨.ref p, rfl, .ref p, ps.length, rfl, .inl ⟨_, SqL.of e1, by rw [List.length_map]⟩, rfl, _, rfl, ?_⟩
      by_cases h2 : ps.length = 2
      · refine tt_if (by rw [h2]; rfl) ?_
        match ps, h2 with
        | [y, x], _ =>
          refine ⟨.ref p, rfl, p, _, 0, _, rfl, rfl, .inl (.inl e1), atI_nat (j := 0) rfl, .str y, some y, rfl, .str y (parts y (by simp)), fun H2 s2 => ⟨_, rfl, ?_⟩⟩
          cases hy : nmB y with
          | false =>
            refine ff_if hy ?_
            have e2 : twoL [y, x] = false := by show (nmB y && nmB x) = false; rw [hy]; rfl
            rw [e2] at q
            exact q H2 (s1.trans s2)
          | true =>
            refine tt_if hy ⟨.ref p, rfl, p, _, 1, _, rfl, rfl, .inl (.inl (s2 _ _ e1)), atI_nat (j := 1) rfl, .str x, some x, rfl, .str x (parts x (by simp)), fun H3 s3 => ?_⟩
            have e2 : twoL [y, x] = nmO (some x) := by show (nmB y && nmB x) = nmB x; rw [hy]; rfl
            rw [e2] at q
            exact q H3 ((s1.trans s2).trans s3)
      · refine ff_if (decide_eq_false fun h => h2 (by injection h with h; omega)) ?_
        rw [twoL_no h2] at q
        exact q H1 s1
def intB (d : PyData) : Bool := isIntD d && !(isD "bool" d)
def spIsInt (w : World) : Sp := fun vs H Q _ => ∃ (v : V) (d : PyData) (N : Addr → Prop) (g : Nat), vs = [v] ∧ OX w H N g v d ∧ Q (.bl (intB d)) H
theorem scIsInt : FnScope ["thing"] ["thing"] (defScope sIsInt) := ⟨rfl, rfl, rfl, by decide +kernel, rfl, by decide +kernel, by decide +kernel⟩
theorem ok_isint {f : Addr} {fd : FuncData} (F : Fun K "is_integer" "is_integer" sIsInt f fd) (mi : mg "isinstance" = none) (mint : mg "int" = none) (mbool : mg "bool" = none) : FnOk P w K mg base CX0 1 f fd ["thing"] (spIsInt w) := by
  refine F.ok scIsInt (fun vs H Q E h => ?_) (fun cdv A outer s H vs Q E hr h => ?_)
  · obtain ⟨v, d, N, g, rfl, _⟩ := h
    rfl
  obtain ⟨v, d, N, g, rfl, ox, q⟩ := h
  refine ⟨_, pss_one (ps_ret (pe_and (pe_callB call_isiM (by rfl) mi (by decide +kernel) (pa_cons (pv 0) (pa_cons (pe_bltn (v := .ty "int") (by rfl) mint (by decide +kernel) rfl) pa_nil))) (pe_one (pe_not (pe_callB call_isiM (by rfl) mi (by decide +kernel) (pa_cons (pv 0) (pa_cons (pe_bltn (v := .ty "bool") (by rfl) mbool (by decide +kernel) rfl) pa_nil))))))), ?_⟩
  refine ⟨v, rfl, v, .ty "int", _, _, isIntD d, rfl, .ty _, ox.ty, kit_int K d, _, rfl, ?_⟩
  unfold intB at q
  cases h : isIntD d with
  | false =>
    rw [h] at q
    exact ff_if rfl q
  | true =>
    rw [h] at q
    exact tt_if rfl ⟨v, rfl, v, .ty "bool", _, _, isD "bool" d, rfl, .ty _, ox.ty, kit_bool K d, _, rfl, q⟩
abbrev modeL : List Str := ["each", "now", "late"]
def mdV (v : V) : Bool := modeL.any fun z => isStrV z v
/-- MODES stands in the written part -/
def ModesAt (K : PySem.W.Frag) (mg : Str → Option Value) (p : Addr) : Prop := mg "MODES" = some (.ref p) ∧ ∃ (ta tb tc : Tok) (n : Nat) (sl : Array (Option Value)), K.lookup p = some ⟨.type "tuple", none, .seq #[.str "each" ta, .str "now" tb, .str "late" tc] n, sl⟩
theorem ModesAt.sq {p : Addr} (x : ModesAt K mg p) (H : Hp) : SqT K H p (modeL.map V.str) := by
  obtain ⟨_, ta, tb, tc, n, sl, e⟩ := x
  exact .inr ⟨_, _, n, e, rfl, rfl, by show 3 ≤ sizeLine; decide, .cons ⟨ta, rfl⟩ (.cons ⟨tb, rfl⟩ (.cons ⟨tc, rfl⟩ .nil))⟩
def spIsMode (K : PySem.W.Frag) (w : World) : Sp := fun vs H Q _ => ∃ (v : V), vs = [v] ∧ Kd K w H v ∧ Q (.bl (mdV v)) H
theorem scIsMode : FnScope ["thing"] ["thing"] (defScope sIsMode) := ⟨rfl, rfl, rfl, by decide +kernel, rfl, by decide +kernel, by decide +kernel⟩
theorem ok_ismode {f p : Addr} {fd : FuncData} (F : Fun K "is_mode" "is_mode" sIsMode f fd) (M : ModesAt K mg p) : FnOk P w K mg base CX0 1 f fd ["thing"] (spIsMode K w) := by
  refine F.ok scIsMode (fun vs H Q E h => ?_) (fun cdv A outer s H vs Q E hr h => ?_)
  · obtain ⟨v, rfl, _⟩ := h
    rfl
  obtain ⟨v, rfl, kd, q⟩ := h
  refine ⟨_, pss_one (ps_ret (pe_cmpR (op_inM hr.units) (pv 0) (pe_glob (v := .ref p) (by rfl) M.1 rfl) (by rfl))), ?_⟩
  exact ⟨v, rfl, p, modeL, rfl, .inr (M.sq H), kd, q⟩
def spLess : Sp := fun vs H Q _ => ∃ (i j : Nat) (y z : Str), vs = [.str y, .str z] ∧ modeL[i]? = some y ∧ modeL[j]? = some z ∧ Q (.bl (decide (i < j))) H
theorem scLess : FnScope ["one", "other"] ["one", "other"] (defScope sLess) := ⟨rfl, rfl, rfl, by decide +kernel, rfl, by decide +kernel, by decide +kernel⟩
theorem modes_first {i : Nat} {y : Str} (h : modeL[i]? = some y) : ∀ m, m < i → modeL[m]? ≠ some y := by
  intro m hm e
  have nd : modeL.Nodup := by decide +kernel
  have li := (List.getElem?_eq_some_iff.mp h).1
  exact absurd ((List.getElem?_inj li nd).mp (h.trans e.symm)) (by omega)
theorem ok_less {f p : Addr} {fd : FuncData} (F : Fun K "less" "less" sLess f fd) (M : ModesAt K mg p) : FnOk P w K mg base CX0 1 f fd ["one", "other"] spLess := by
  refine F.ok scLess (fun vs H Q E h => ?_) (fun cdv A outer s H vs Q E hr h => ?_)
  · obtain ⟨i, j, y, z, rfl, _⟩ := h
    rfl
  obtain ⟨i, j, y, z, rfl, hi, hj, q⟩ := h
  refine ⟨_, pss_one (ps_ret (pe_cmpR op_lt (pe_bm PySem.F.plainAttrs_tuple PySem.F.slot_tuple_index PySem.F.type_tuple_index mt_tup_index (pe_glob (v := .ref p) (by rfl) M.1 rfl) (pa_cons (pv 0) pa_nil)) (pe_bm PySem.F.plainAttrs_tuple PySem.F.slot_tuple_index PySem.F.type_tuple_index mt_tup_index (pe_glob (v := .ref p) (by rfl) M.1 rfl) (pa_cons (pv 1) pa_nil)) (nomark _))), ?_⟩
  have ty : tyV K "tuple" (.ref p) H := by
    obtain ⟨_, ta, tb, tc, n, sl, e⟩ := M
    exact .inr (.inl ⟨rfl, _, e, rfl, rfl⟩)
  refine ⟨ty, .str y, rfl, p, modeL, y, i, rfl, rfl, M.sq H, hi, modes_first hi, ty, .str z, rfl, p, modeL, z, j, rfl, rfl, M.sq H, hj, modes_first hj, _, _, rfl, rfl, ?_⟩
  have e : decide ((i : Int) < (j : Int)) = decide (i < j) := by
    by_cases h : i < j
    · rw [decide_eq_true h, decide_eq_true (by omega)]
    · rw [decide_eq_false h, decide_eq_false (by omega)]
  show Q (.bl (decide ((i : Int) < (j : Int)))) H
  rw [e]
  exact q
def spNewId : Sp := fun vs H Q _ => ∃ (z : Str), vs = [.str z] ∧ z.length ≤ 1000 ∧ Q (.str ("+" ++ z)) H
theorem scNewId : FnScope ["handle"] ["handle"] (defScope sNewId) := ⟨rfl, rfl, rfl, by decide +kernel, rfl, by decide +kernel, by decide +kernel⟩
theorem ok_newid {f : Addr} {fd : FuncData} (F : Fun K "new_id" "new_id" sNewId f fd) : FnOk P w K mg base CX0 1 f fd ["handle"] spNewId := by
  refine F.ok scNewId (fun vs H Q E h => ?_) (fun cdv A outer s H vs Q E hr h => ?_)
  · obtain ⟨z, rfl, _⟩ := h
    rfl
  obtain ⟨z, rfl, hz, q⟩ := h
  refine ⟨_, pss_one (ps_ret (pe_op op_add_str pe_str (pv 0))), ?_⟩
  exact ⟨.str z, rfl, "+", z, rfl, rfl, by rw [sizeLine_eq]; show 1 + z.length ≤ _; omega, q⟩
def spOwn : Sp := fun vs H Q _ => ∃ (y z : Str), vs = [.str y, .str z] ∧ y.length ≤ 1000 ∧ z.length ≤ 1000 ∧ Q (.str ("+" ++ y ++ "." ++ z)) H
theorem scOwn : FnScope ["handle", "field"] ["handle", "field"] (defScope sOwn) := ⟨rfl, rfl, rfl, by decide +kernel, rfl, by decide +kernel, by decide +kernel⟩
theorem ok_own {f : Addr} {fd : FuncData} (F : Fun K "own_name" "own_name" sOwn f fd) : FnOk P w K mg base CX0 1 f fd ["handle", "field"] spOwn := by
  refine F.ok scOwn (fun vs H Q E h => ?_) (fun cdv A outer s H vs Q E hr h => ?_)
  · obtain ⟨y, z, rfl, _⟩ := h
    rfl
  obtain ⟨y, z, rfl, hy, hz, q⟩ := h
  refine ⟨_, pss_one (ps_ret (pe_op op_add_str (pe_op op_add_str (pe_op op_add_str pe_str (pv 0)) pe_str) (pv 1))), ?_⟩
  have l1 : ("+" : Str).length = 1 := rfl
  have l2 : ("." : Str).length = 1 := rfl
  have sl : sizeLine = 16777216 := sizeLine_eq
  exact ⟨.str y, rfl, "+", y, rfl, rfl, by omega, "+" ++ y, ".", rfl, rfl, by rw [len_app]; omega, .str z, rfl, "+" ++ y ++ ".", z, rfl, rfl, by rw [len_app, len_app]; omega, q⟩
end
end Lw

set_option Elab.async false
set_option linter.all false
set_option maxRecDepth 100000
set_option maxHeartbeats 4000000
namespace Lw
open PySem PySem.Spec PyProof.Rows L2
abbrev sDues : Stmt := topS 23
abbrev sAlike : Stmt := topS 16
def dueB (v : V) (d : PyData) : List Bool := [intB d, nmO (strD d), idO (strD d), nwO (strD d), tgO (strD d), mdV v]
section
variable {P : Program} {w : World} {K : PySem.W.Frag} {mg : Str → Option Value} {base : Heap}
def spDues (w : World) : Sp := fun vs H Q _ => ∃ (v : V) (d : PyData) (N : Addr → Prop) (g n : Nat), vs = [v] ∧ OX w H N g v d ∧ Fine d n 100000 ∧ ∀ (p : Addr) (H' : Hp), Same H H' → H' p = some (.lst ((dueB v d).map V.bl)) → H p = none → Q (.ref p) H'
theorem scDues : FnScope ["_law_thing", "_law_is_new", "_law_whole", "_law_mode"] ["_law_thing"] (defScope sDues) := ⟨rfl, rfl, rfl, by decide +kernel, rfl, by decide +kernel, by decide +kernel⟩
theorem OX.same {H H' : Hp} {N : Addr → Prop} {g : Nat} {v : V} {d : PyData} (x : OX w H N g v d) (s : Same H H') : OX w H' N g v d := x.mono (ButN.of s)
theorem ok_dues {f f1 f2 f3 : Addr} {fd fd1 fd2 fd3 : FuncData} (F : Fun K "_law_dues" "_law_dues" sDues f fd) (GN : Ok P w K mg base 1 "_law_is_name" ["_law_thing"] (spIsName w) f1 fd1) (GI : Ok P w K mg base 2 "_law_is_id" ["_law_thing"] (spIsId w) f2 fd2) (GT : Ok P w K mg base 2 "_law_is_tag_name" ["_law_thing"] (spIsTag w) f3 fd3)
    (mi : mg "isinstance" = none) (ms : mg "str" = none) (mint : mg "int" = none) (mbool : mg "bool" = none) : FnOk P w K mg base CX0 3 f fd ["_law_thing"] (spDues w) := by
  refine F.ok scDues (fun vs H Q E h => ?_) (fun cdv A outer s H vs Q E hr h => ?_)
  · obtain ⟨v, d, N, g, n, rfl, _⟩ := h
    rfl
  obtain ⟨v, d, N, g, n, rfl, ox, fi, q⟩ := h
  refine ⟨_, (pss_cons (ps_set (i := 1) scDues.nd rfl (.inl rfl) (pe_and (pe_callB call_isiM (by rfl) mi (by decide +kernel) (pa_cons (pv 0) (pa_cons (pe_bltn (v := .ty "str") (by rfl) ms (by decide +kernel) rfl) pa_nil))) (pe_and (pe_cmpR op_eq (pe_slice sl_str (pv 0) po_none (po_some pe_int)) pe_str (nomark _)) (pe_one (pe_call GN.F (hr.mono (by decide)) (by rfl) GN.m GN.k GN.b .nil pass0 (pa_cons (pe_slice sl_str (pv 0) (po_some pe_int) po_none) pa_nil)))))) (pss_cons (ps_set (i := 2) scDues.nd rfl (.inl rfl) (pe_and (pe_callB call_isiM (by rfl) mi (by decide +kernel) (pa_cons (pv 0) (pa_cons (pe_bltn (v := .ty "int") (by rfl) mint (by decide +kernel) rfl) pa_nil))) (pe_one (pe_not (pe_callB call_isiM (by rfl) mi (by decide +kernel) (pa_cons (pv 0) (pa_cons (pe_bltn (v := .ty "bool") (by rfl) mbool (by decide +kernel) rfl) pa_nil))))))) (pss_cons (ps_set (i := 3) scDues.nd rfl (.inl rfl) (pe_and (pe_callB call_isiM (by rfl) mi (by decide +kernel) (pa_cons (pv 0) (pa_cons (pe_bltn (v := .ty "str") (by rfl) ms (by decide +kernel) rfl) pa_nil))) (pe_one (pe_cmpR (op_inM hr.units) (pv 0) (pe_lst (pa_cons pe_str (pa_cons pe_str (pa_cons pe_str pa_nil)))) (by rfl))))) (pss_one (ps_ret (pe_lst (pa_cons (pv 2) (pa_cons (pe_call GN.F (hr.mono (by decide)) (by rfl) GN.m GN.k GN.b .nil pass0 (pa_cons (pv 0) pa_nil)) (pa_cons (pe_call GI.F hr (by rfl) GI.m GI.k GI.b .nil pass0 (pa_cons (pv 0) pa_nil)) (pa_cons (pv 1) (pa_cons (pe_call GT.F hr (by rfl) GT.m GT.k GT.b .nil pass0 (pa_cons (pv 0) pa_nil)) (pa_cons (pv 3) pa_nil)))))))))))), ?_⟩
  have nv := ox.nv fi
  obtain ⟨T, ty, kit⟩ := nv.isStr (K := K)
  have rest : ∀ (bn : Bool) (H1 : Hp), Same H H1 → bn = nwO (strD d) → tSeq (tAsg (tAndV (tCB (rIsiM K w) (tCons (tVar 0) (tCons (tC (.ty "int")) tNil))) (tNotV (tCB (rIsiM K w) (tCons (tVar 0) (tCons (tC (.ty "bool")) tNil))))) (gName 2))
      (tSeq (tAsg (tAndV (tCB (rIsiM K w) (tCons (tVar 0) (tCons (tC (.ty "str")) tNil))) (tOp (rInM K w) (tVar 0) (tLst (tCons (tC (.str "each")) (tCons (tC (.str "now")) (tCons (tC (.str "late")) tNil)))))) (gName 3))
        (tRet (tLst (tCons (tVar 2) (tCons (tCall (spIsName w) [] E0 (tCons (tVar 0) tNil)) (tCons (tCall (spIsId w) [] E0 (tCons (tVar 0) tNil)) (tCons (tVar 1) (tCons (tCall (spIsTag w) [] E0 (tCons (tVar 0) tNil)) (tCons (tVar 3) tNil)))))))))
      { nx := fun x H' => Q V.non H', rt := Q } [some v, some (.bl bn), none, none] H1 := by
    rintro _ H1 s1 rfl
    have ox1 := ox.same s1
    -- whole
    refine ⟨v, rfl, v, .ty "int", _, _, isIntD d, rfl, .ty _, ox1.ty, kit_int K d, _, rfl, ?_⟩
    have w2 : ∀ (b : Bool) (H2 : Hp), Same H H2 → b = intB d → tSeq (tAsg (tAndV (tCB (rIsiM K w) (tCons (tVar 0) (tCons (tC (.ty "str")) tNil))) (tOp (rInM K w) (tVar 0) (tLst (tCons (tC (.str "each")) (tCons (tC (.str "now")) (tCons (tC (.str "late")) tNil)))))) (gName 3))
        (tRet (tLst (tCons (tVar 2) (tCons (tCall (spIsName w) [] E0 (tCons (tVar 0) tNil)) (tCons (tCall (spIsId w) [] E0 (tCons (tVar 0) tNil)) (tCons (tVar 1) (tCons (tCall (spIsTag w) [] E0 (tCons (tVar 0) tNil)) (tCons (tVar 3) tNil))))))))
        { nx := fun x H' => Q V.non H', rt := Q } [some v, some (.bl (nwO (strD d))), some (.bl b), none] H2 := by
      rintro _ H2 s2 rfl
      have w3 : ∀ (b : Bool) (H3 : Hp), Same H H3 → b = mdV v → tRet (tLst (tCons (tVar 2) (tCons (tCall (spIsName w) [] E0 (tCons (tVar 0) tNil)) (tCons (tCall (spIsId w) [] E0 (tCons (tVar 0) tNil)) (tCons (tVar 1) (tCons (tCall (spIsTag w) [] E0 (tCons (tVar 0) tNil)) (tCons (tVar 3) tNil)))))))
          { nx := fun x H' => Q V.non H', rt := Q } [some v, some (.bl (nwO (strD d))), some (.bl (intB d)), some (.bl b)] H3 := by
        rintro _ H3 s3 rfl
        have nv3 := nv.mono s3
        refine ⟨_, rfl, v, rfl, v, _, rfl, nv3, fun H4 s4 => ⟨v, rfl, v, _, rfl, nv3.mono s4, fun H5 s5 => ⟨_, rfl, v, rfl, v, _, rfl, nv3.mono (s4.trans s5), fun H6 s6 => ⟨_, rfl, small (by show 6 ≤ 1000; decide), fun p np => ?_⟩⟩⟩⟩
        have sA := ((s3.trans s4).trans s5).trans s6
        exact q p _ (sA.trans (same_new np _)) upd_same (by
          cases e : H p with
          | none => rfl
          | some o => rw [sA _ _ e] at np; cases np)
      have nv2 := nv.mono s2
      obtain ⟨T, ty, kit⟩ := nv2.isStr (K := K)
      refine ⟨v, rfl, v, .ty "str", _, _, (strD d).isSome, rfl, .ty _, ty, kit, _, rfl, ?_⟩
      cases ho : (strD d).isSome with
      | false =>
        refine ff_if rfl (w3 false H2 s2 ?_)
        cases ox with
        | str z l => cases ho
        | _ => rfl
      | true =>
        refine tt_if rfl ⟨v, rfl, small (by show 3 ≤ 1000; decide), fun l nl => ?_⟩
        have s2' := s2.trans (same_new nl (HO.lst [V.str "each", V.str "now", V.str "late"]))
        exact ⟨l, modeL, rfl, .inl (SqL.of upd_same), (nv.mono s2').kd, w3 _ _ s2' rfl⟩
    unfold intB at w2
    cases h : isIntD d with
    | false => exact ff_if rfl (w2 false H1 s1 (by rw [h]; rfl))
    | true => exact tt_if rfl ⟨v, rfl, v, .ty "bool", _, _, isD "bool" d, rfl, .ty _, ox1.ty, kit_bool K d, _, rfl, w2 _ H1 s1 (by rw [h]; rfl)⟩
  refine ⟨v, rfl, v, .ty "str", _, _, (strD d).isSome, rfl, .ty _, ty, kit, _, rfl, ?_⟩
  clear q
  generalize strD d = o at nv rest kit ⊢
  cases nv with
  | oth x h => exact ff_if rfl (rest false H (fun _ _ e => e) rfl)
  | str z hz =>
    have sz : z.length ≤ sizeLine := by rw [sizeLine_eq]; omega
    refine tt_if rfl ⟨.str z, rfl, 1, rfl, z, rfl, sz, rfl, _, rfl, ?_⟩
    cases hp : plusB z with
    | false => exact ff_if hp (rest false H (fun _ _ e => e) (by show false = (plusB z && _); rw [hp]; rfl))
    | true => exact tt_if hp ⟨.str z, rfl, 1, rfl, z, rfl, sz, _, _, rfl, .str _ (cut_len hz), fun H' s' => rest _ H' s' (by show nmB _ = (plusB z && _); rw [hp]; rfl)⟩
/-! ### alike -/
theorem lay_bls : ∀ bs : List Bool, PyData.canLayAll0 (bs.map PyData.bool) = true
  | [] => rfl
  | b :: r => by
    show (PyData.canLay0 (.bool b) && PyData.canLayAll0 (r.map PyData.bool)) = true
    rw [lay_bls r]; rfl
theorem mix_bls : ∀ bs : List Bool, SeqAt.noMixAll (bs.map PyData.bool) (bs.map PyData.bool) = true
  | [] => rfl
  | b :: r => by
    show (true && SeqAt.noMixAll (r.map PyData.bool) (r.map PyData.bool)) = true
    rw [mix_bls r]; rfl
theorem fine_bls : ∀ bs : List Bool, FineAll (bs.map PyData.bool) 0 bs.length
  | [] => .nil
  | b :: r => (FineAll.cons (Fine.bl b) (fine_bls r)).le (Nat.le_refl _) (by rw [List.length_cons]; omega)
/-- a list of lists of truths, or of truths -/
inductive BD : PyData → Prop
  | one (bs : List Bool) (h : bs.length ≤ 100) : BD (.list (bs.map PyData.bool))
  | two (bs cs : List Bool) (h : bs.length ≤ 100) (k : cs.length ≤ 100) : BD (.list [.list (bs.map PyData.bool), .list (cs.map PyData.bool)])
theorem BD.fine {d : PyData} (x : BD d) : Fine d 2 1000 := by
  cases x with
  | one bs h => exact (fine_bls bs).lst.le (by decide) (by omega)
  | two bs cs h k => exact (FineAll.cons ((fine_bls bs).lst) (FineAll.cons ((fine_bls cs).lst) (FineAll.nil (m := 0)))).lst.le (by decide) (by omega)
theorem BD.shaped {d : PyData} (x : BD d) : SeqAt.shaped d = true := by
  have h2 := x.fine.dep
  have h1 : PyData.canLay0 d = true := by
    cases x with
    | one bs h => exact lay_bls bs
    | two bs cs h k =>
      show (PyData.canLayAll0 (bs.map PyData.bool) && (PyData.canLayAll0 (cs.map PyData.bool) && true)) = true
      rw [lay_bls, lay_bls]; rfl
  unfold SeqAt.shaped
  rw [h1, Bool.true_and]
  exact decide_eq_true (Nat.le_trans h2 (by decide))
theorem BD.eqv {d : PyData} (x : BD d) : PyData.eqv d d = true := by
  rw [← SeqAt.same_eq_eqv _ _ (by
    cases x with
    | one bs h => exact mix_bls bs
    | two bs cs h k =>
      show (SeqAt.noMixAll (bs.map PyData.bool) (bs.map PyData.bool) && (SeqAt.noMixAll (cs.map PyData.bool) (cs.map PyData.bool) && true)) = true
      rw [mix_bls, mix_bls]; rfl)]
  exact same_self _
def spAlike : Sp := fun vs H Q _ => ∃ (x y : Addr) (d : PyData), vs = [.ref x, .ref y] ∧ BD d ∧ Dp K H (.ref x) d ∧ Dp K H (.ref y) d ∧ DX H (.ref x) d ∧ DX H (.ref y) d ∧ Q (.bl true) H
theorem scAlike : FnScope ["_law_found", "_law_due"] ["_law_found", "_law_due"] (defScope sAlike) := ⟨rfl, rfl, rfl, by decide +kernel, rfl, by decide +kernel, by decide +kernel⟩
theorem ok_alike {f : Addr} {fd : FuncData} (F : Fun K "_law_alike" "_law_alike" sAlike f fd) (mrepr : mg "repr" = none) (hs : ∃ o, base.get? sysModules = some o) : FnG P w K mg base 1 f fd ["_law_found", "_law_due"] (spAlike (K := K)) := by
  refine fun_okG F scAlike (fun vs H Q E h => ?_) (fun cdv A outer s H vs Q E hr hg h => ?_)
  · obtain ⟨x, y, d, rfl, _⟩ := h
    rfl
  obtain ⟨x, y, d, rfl, bd, px, py, dx, dy, q⟩ := h
  have hu : (cxOf CX0 P w K mg base ["_law_found", "_law_due"] "_law_alike" (defScope sAlike) f cdv A outer s H E).nox.A.units + 64 < cLine := hr.units
  refine ⟨_, pss_one (ps_ret (pe_and (pe_cmpR (op_eqD hu) (pv 0) (pv 1) (nomark _)) (pe_one (pe_cmpR (r := rEq) op_eq (pe_callB (call_repr hg hu hs) (by rfl) mrepr (by decide +kernel) (pa_cons (pv 0) pa_nil)) (pe_callB (call_repr hg hu hs) (by rfl) mrepr (by decide +kernel) (pa_cons (pv 1) pa_nil)) (nomark _))))), ?_⟩
  obtain ⟨s1, s2, s3⟩ := bd.fine.fits (by decide) (by decide)
  refine ⟨_, rfl, _, rfl, d, d, px, py, bd.shaped, bd.shaped, true, by rw [bd.eqv], ?_⟩
  refine tt_if rfl ⟨_, rfl, x, d, rfl, dx, s1, s2, s3, _, rfl, y, d, rfl, dy, s1, s2, s3, rfl, ?_⟩
  rw [decide_eq_true rfl]
  exact q
theorem dxs_bls {H : Hp} : ∀ bs : List Bool, DXs H (bs.map V.bl) (bs.map PyData.bool)
  | [] => .nil
  | b :: r => .cons (.bl b) (dxs_bls r)
theorem dps_bls {H : Hp} : ∀ bs : List Bool, DpAll K H (bs.map V.bl) (bs.map PyData.bool)
  | [] => .nil
  | b :: r => .cons (.bl b) (dps_bls r)
theorem bd_one {H : Hp} {a : Addr} {bs : List Bool} (e : H a = some (.lst (bs.map V.bl))) : Dp K H (.ref a) (.list (bs.map PyData.bool)) ∧ DX H (.ref a) (.list (bs.map PyData.bool)) := ⟨.lst (.inl (.inl e)) (dps_bls bs), .lst e (dxs_bls bs)⟩
theorem bd_two {H : Hp} {a x y : Addr} {bs cs : List Bool} (e : H a = some (.lst [.ref x, .ref y])) (ex : H x = some (.lst (bs.map V.bl))) (ey : H y = some (.lst (cs.map V.bl))) :
    Dp K H (.ref a) (.list [.list (bs.map PyData.bool), .list (cs.map PyData.bool)]) ∧ DX H (.ref a) (.list [.list (bs.map PyData.bool), .list (cs.map PyData.bool)]) :=
  ⟨.lst (.inl (.inl e)) (.cons (bd_one ex).1 (.cons (bd_one ey).1 .nil)), .lst e (.cons (bd_one (K := K) ex).2 (.cons (bd_one (K := K) ey).2 .nil))⟩
end
end Lw

set_option Elab.async false
set_option linter.all false
set_option maxRecDepth 100000
set_option maxHeartbeats 8000000
namespace Lw
open PySem PySem.Spec PyProof.Rows L2
abbrev sLaw : Stmt := topS 24
abbrev NLaw : List Str := ["_law_script", "_law_bag_here", "_law_turn", "_law_names_here", "_law_some", "_law_thing", "_law_bend", "_law_shown", "_law_told", "_law_again", "_law_modes", "_law_at", "_law_one", "_law_k"]
def spLaw (K : PySem.W.Frag) : Sp := fun vs H Q _ => ∃ (a : Addr) (ns : List Int), vs = [.ref a] ∧ SqL K H a (ns.map V.int) ∧ ns.length ≤ 63 ∧ ∀ H', Q (.bl true) H'
def wb : Nat → Nat
  | 0 => 140
  | 1 => 580
  | _ => 1460
theorem pickB {r : Int} (h0 : 0 ≤ r) (h1 : r < 4) : ∃ ln : Nat, atI [V.int 0, V.int 1, V.int 1, V.int 2] r = some (.int ln) ∧ ln ≤ 2 := by
  rcases (by omega : r = 0 ∨ r = 1 ∨ r = 2 ∨ r = 3) with rfl | rfl | rfl | rfl
  · exact ⟨0, atI_nat (j := 0) rfl, by decide⟩
  · exact ⟨1, atI_nat (j := 1) rfl, by decide⟩
  · exact ⟨1, atI_nat (j := 2) rfl, by decide⟩
  · exact ⟨2, atI_nat (j := 3) rfl, by decide⟩
theorem NameOk.lowS {z : Str} (h : NameOk z) : LowS z := fun c hc => Nat.lt_of_le_of_lt (h.low c hc).2 (by decide)
theorem two_lay {y z : Str} (hy : LowS y) (hz : LowS z) : PyData.canLayAll0 [.str y, .str z] = true := by
  have go : ∀ {x : Str}, LowS x → PyData.strOk x = true := fun {x} h => by
    unfold PyData.strOk
    rw [← Array.all_toList, List.all_eq_true]
    exact fun c hc => decide_eq_true (Nat.lt_of_lt_of_le (h c hc) (by decide))
  show (PyData.strOk y && (PyData.strOk z && true)) = true
  rw [go hy, go hz]; rfl
theorem two_shaped {y z : Str} (hy : LowS y) (hz : LowS z) : SeqAt.shaped (.list [.str y, .str z]) = true := by
  have h1 : PyData.canLay0 (.list [.str y, .str z]) = true := two_lay hy hz
  unfold SeqAt.shaped
  rw [h1, Bool.true_and]
  exact decide_eq_true (by show (PyData.list [.str y, .str z]).depth ≤ _; simp [PyData.depth, PyData.depthAll])
theorem two_eqv {y z : Str} : PyData.eqv (.list [.str y, .str z]) (.list [.str y, .str z]) = true := by
  rw [← SeqAt.same_eq_eqv _ _ rfl]
  exact same_self _
section
variable {P : Program} {w : World} {K : PySem.W.Frag} {mg : Str → Option Value} {base : Heap}
theorem scLaw : FnScope NLaw ["_law_script"] (defScope sLaw) := ⟨rfl, rfl, rfl, by decide +kernel, rfl, by decide +kernel, by decide +kernel⟩
theorem ok_law {f : Addr} {fd : FuncData} (F : Fun K "law" "law" sLaw f fd)
    {f0 : Addr} {fd0 : FuncData} (gB : Ok P w K mg base 1 "_law_bag" ["_law_script"] (spBag K) f0 fd0)
    {f1 : Addr} {fd1 : FuncData} (gT : Ok P w K mg base 1 "_law_take" ["_law_bag_here", "_law_many"] spTake f1 fd1)
    {f2 : Addr} {fd2 : FuncData} (gN : Ok P w K mg base 2 "_law_names" ["_law_bag_here", "_law_many"] spNames f2 fd2)
    {f3 : Addr} {fd3 : FuncData} (gO : Ok P w K mg base 2 "_law_odd" ["_law_bag_here"] (spOdd w) f3 fd3)
    {f4 : Addr} {fd4 : FuncData} (gS : Ok P w K mg base 22 "_law_spoilt" ["_law_bag_here", "_law_thing"] (spSp w 20) f4 fd4)
    {f5 : Addr} {fd5 : FuncData} (gInt : Ok P w K mg base 1 "is_integer" ["thing"] (spIsInt w) f5 fd5)
    {f6 : Addr} {fd6 : FuncData} (gName_ : Ok P w K mg base 1 "is_name" ["thing"] (spIsName w) f6 fd6)
    {f7 : Addr} {fd7 : FuncData} (gId : Ok P w K mg base 3 "is_id" ["thing"] (spIsId w) f7 fd7)
    {f8 : Addr} {fd8 : FuncData} (gNewId : Ok P w K mg base 2 "is_new_id" ["thing"] (spIsNew w) f8 fd8)
    {f9 : Addr} {fd9 : FuncData} (gTag : Ok P w K mg base 2 "is_tag_name" ["thing"] (spIsTag w) f9 fd9)
    {f10 : Addr} {fd10 : FuncData} (gMode : Ok P w K mg base 1 "is_mode" ["thing"] (spIsMode K w) f10 fd10)
    {f11 : Addr} {fd11 : FuncData} (gL : Ok P w K mg base 1 "less" ["one", "other"] spLess f11 fd11)
    {f12 : Addr} {fd12 : FuncData} (gNew : Ok P w K mg base 1 "new_id" ["handle"] spNewId f12 fd12)
    {f13 : Addr} {fd13 : FuncData} (gOwn : Ok P w K mg base 1 "own_name" ["handle", "field"] spOwn f13 fd13)
    {f14 : Addr} {fd14 : FuncData} (gD : Ok P w K mg base 3 "_law_dues" ["_law_thing"] (spDues w) f14 fd14)
    {fA : Addr} {fdA : FuncData} (FA : FnG P w K mg base 1 fA fdA ["_law_found", "_law_due"] (spAlike (K := K))) (mA : mg "_law_alike" = some (.ref fA)) (kA : PySem.W.keepIn K (.ref fA) = true) (bA : Binds K fdA ["_law_found", "_law_due"] [])
    (mrange : mg "range" = none) (mrepr : mg "repr" = none) (hs : ∃ o, base.get? sysModules = some o) : FnG P w K mg base 23 f fd ["_law_script"] (spLaw K) := by
  refine fun_okG F scLaw (fun vs H Q E h => ?_) (fun cdv A outer s H vs Q E hr hg h => ?_)
  · obtain ⟨a, ns, rfl, _⟩ := h
    rfl
  obtain ⟨a, ns, rfl, hS, h63, q⟩ := h
  have hu : (cxOf CX0 P w K mg base NLaw "law" (defScope sLaw) f cdv A outer s H E).nox.A.units + 64 < cLine := hr.units
  refine ⟨_, (pss_cons (ps_set (i := 1) scLaw.nd rfl (by first | exact .inl rfl | exact .inr rfl) (pe_call gB.F (hr.mono (by decide)) (by rfl) gB.m gB.k gB.b .nil pass0 (pa_cons (pv 0) pa_nil))) (pss_cons (ps_for PassesOwn.never rfl (pi_range1 (by rfl) mrange (pa_cons pe_int pa_nil)) (pg_name (i := 2) scLaw.nd rfl (by first | exact .inl rfl | exact .inr rfl)) (pss_cons (ps_set (i := 3) scLaw.nd rfl (by first | exact .inl rfl | exact .inr rfl) (pe_call gN.F (hr.mono (by decide)) (by rfl) gN.m gN.k gN.b .nil pass0 (pa_cons (pv 1) (pa_cons pe_int pa_nil)))) (pss_cons (ps_set (i := 4) scLaw.nd rfl (by first | exact .inl rfl | exact .inr rfl) (pe_lst (pa_cons (pe_ix ix_list (pv 3) pe_int (fun _ _ => rfl)) (pa_cons (pe_call gNew.F (hr.mono (by decide)) (by rfl) gNew.m gNew.k gNew.b .nil pass0 (pa_cons (pe_ix ix_list (pv 3) pe_int (fun _ _ => rfl)) pa_nil)) (pa_cons (pe_call gOwn.F (hr.mono (by decide)) (by rfl) gOwn.m gOwn.k gOwn.b .nil pass0 (pa_cons (pe_ix ix_list (pv 3) pe_int (fun _ _ => rfl)) (pa_cons (pe_ix ix_list (pv 3) pe_int (fun _ _ => rfl)) pa_nil))) (pa_cons pe_str (pa_cons pe_str (pa_cons pe_str (pa_cons (pe_call gO.F (hr.mono (by decide)) (by rfl) gO.m gO.k gO.b .nil pass0 (pa_cons (pv 1) pa_nil)) pa_nil))))))))) (pss_cons (ps_set (i := 5) scLaw.nd rfl (by first | exact .inl rfl | exact .inr rfl) (pe_ix ix_list (pv 4) (pe_call gT.F (hr.mono (by decide)) (by rfl) gT.m gT.k gT.b .nil pass0 (pa_cons (pv 1) (pa_cons pe_int pa_nil))) (fun _ _ => rfl))) (pss_cons (ps_for PassesOwn.never rfl (pi_range1 (by rfl) mrange (pa_cons (pe_ix ix_list (pe_lst (pa_cons pe_int (pa_cons pe_int (pa_cons pe_int (pa_cons pe_int pa_nil))))) (pe_call gT.F (hr.mono (by decide)) (by rfl) gT.m gT.k gT.b .nil pass0 (pa_cons (pv 1) (pa_cons pe_int pa_nil))) (fun _ _ => rfl)) pa_nil)) (pg_name (i := 6) scLaw.nd rfl (by first | exact .inl rfl | exact .inr rfl)) (pss_one (ps_set (i := 5) scLaw.nd rfl (by first | exact .inl rfl | exact .inr rfl) (pe_call gS.F (hr.mono (by decide)) (by rfl) gS.m gS.k gS.b .nil pass0 (pa_cons (pv 1) (pa_cons (pv 5) pa_nil)))))) (pss_cons (ps_set (i := 7) scLaw.nd rfl (by first | exact .inl rfl | exact .inr rfl) (pe_callB (call_reprM hg hu hs) (by rfl) mrepr (by decide +kernel) (pa_cons (pv 5) pa_nil))) (pss_cons (ps_set (i := 8) scLaw.nd rfl (by first | exact .inl rfl | exact .inr rfl) (pe_lst (pa_cons (pe_call gInt.F (hr.mono (by decide)) (by rfl) gInt.m gInt.k gInt.b .nil pass0 (pa_cons (pv 5) pa_nil)) (pa_cons (pe_call gName_.F (hr.mono (by decide)) (by rfl) gName_.m gName_.k gName_.b .nil pass0 (pa_cons (pv 5) pa_nil)) (pa_cons (pe_call gId.F (hr.mono (by decide)) (by rfl) gId.m gId.k gId.b .nil pass0 (pa_cons (pv 5) pa_nil)) (pa_cons (pe_call gNewId.F (hr.mono (by decide)) (by rfl) gNewId.m gNewId.k gNewId.b .nil pass0 (pa_cons (pv 5) pa_nil)) (pa_cons (pe_call gTag.F (hr.mono (by decide)) (by rfl) gTag.m gTag.k gTag.b .nil pass0 (pa_cons (pv 5) pa_nil)) (pa_cons (pe_call gMode.F (hr.mono (by decide)) (by rfl) gMode.m gMode.k gMode.b .nil pass0 (pa_cons (pv 5) pa_nil)) pa_nil)))))))) (pss_cons (ps_set (i := 9) scLaw.nd rfl (by first | exact .inl rfl | exact .inr rfl) (pe_lst (pa_cons (pe_call gInt.F (hr.mono (by decide)) (by rfl) gInt.m gInt.k gInt.b .nil pass0 (pa_cons (pv 5) pa_nil)) (pa_cons (pe_call gName_.F (hr.mono (by decide)) (by rfl) gName_.m gName_.k gName_.b .nil pass0 (pa_cons (pv 5) pa_nil)) (pa_cons (pe_call gId.F (hr.mono (by decide)) (by rfl) gId.m gId.k gId.b .nil pass0 (pa_cons (pv 5) pa_nil)) (pa_cons (pe_call gNewId.F (hr.mono (by decide)) (by rfl) gNewId.m gNewId.k gNewId.b .nil pass0 (pa_cons (pv 5) pa_nil)) (pa_cons (pe_call gTag.F (hr.mono (by decide)) (by rfl) gTag.m gTag.k gTag.b .nil pass0 (pa_cons (pv 5) pa_nil)) (pa_cons (pe_call gMode.F (hr.mono (by decide)) (by rfl) gMode.m gMode.k gMode.b .nil pass0 (pa_cons (pv 5) pa_nil)) pa_nil)))))))) (pss_cons (ps_if (PW.pt (pw_or (pt_not (pt_val (pe_callG FA (hr.mono (by decide)) hg (by rfl) mA kA bA pass0 (pa_cons (pe_lst (pa_cons (pv 8) (pa_cons (pv 9) pa_nil))) (pa_cons (pe_lst (pa_cons (pe_call gD.F (hr.mono (by decide)) (by rfl) gD.m gD.k gD.b .nil pass0 (pa_cons (pv 5) pa_nil)) (pa_cons (pe_call gD.F (hr.mono (by decide)) (by rfl) gD.m gD.k gD.b .nil pass0 (pa_cons (pv 5) pa_nil)) pa_nil))) pa_nil))))) (pw_or1 (pt_cmpR op_ne (pe_callB (call_reprM hg hu hs) (by rfl) mrepr (by decide +kernel) (pa_cons (pv 5) pa_nil)) (pv 7) (nomark _))))) (pss_one (ps_ret pe_bl)) pss_nil) (pss_one (ps_if (pt_cmpR (op_neD hu) (pe_lst (pa_cons (pe_call gNew.F (hr.mono (by decide)) (by rfl) gNew.m gNew.k gNew.b .nil pass0 (pa_cons (pe_ix ix_list (pv 3) pe_int (fun _ _ => rfl)) pa_nil)) (pa_cons (pe_call gOwn.F (hr.mono (by decide)) (by rfl) gOwn.m gOwn.k gOwn.b .nil pass0 (pa_cons (pe_ix ix_list (pv 3) pe_int (fun _ _ => rfl)) (pa_cons (pe_ix ix_list (pv 3) pe_int (fun _ _ => rfl)) pa_nil))) pa_nil))) (pe_lst (pa_cons (pe_op op_add_str pe_str (pe_ix ix_list (pv 3) pe_int (fun _ _ => rfl))) (pa_cons (pe_op op_add_str (pe_op op_add_str (pe_op op_add_str pe_str (pe_ix ix_list (pv 3) pe_int (fun _ _ => rfl))) pe_str) (pe_ix ix_list (pv 3) pe_int (fun _ _ => rfl))) pa_nil))) (nomark _)) (pss_one (ps_ret pe_bl)) pss_nil))))))))))) (pss_cons (ps_set (i := 10) scLaw.nd rfl (by first | exact .inl rfl | exact .inr rfl) (pe_lst (pa_cons pe_str (pa_cons pe_str (pa_cons pe_str pa_nil))))) (pss_cons (ps_for PassesOwn.never rfl (pi_range1 (by rfl) mrange (pa_cons pe_int pa_nil)) (pg_name (i := 11) scLaw.nd rfl (by first | exact .inl rfl | exact .inr rfl)) (pss_one (ps_if (pt_not (pt_val (pe_callG FA (hr.mono (by decide)) hg (by rfl) mA kA bA pass0 (pa_cons (pe_lc (own := [("_law_one", 12)]) (g := gName 12) (tt := tYes) rfl scLaw.nd (pi_list (pv 10)) (blkOk_by (N := NLaw) (sc := defScope sLaw) (by decide +kernel)) (fun _ _ _ _ _ => pg_name (i := 12) scLaw.nd rfl (Or.inl rfl)) (fun _ _ _ _ _ => pts_nil) (fun _ _ _ _ _ => (pe_call gL.F (hr.mono (by decide)) (by rfl) gL.m gL.k gL.b .nil pass0 (pa_cons (pe_ix (r := rIxL K) ix_list (pv 10) (pv 11) (fun _ _ => rfl)) (pa_cons (pv 12) pa_nil))))) (pa_cons (pe_lc (own := [("_law_k", 13)]) (g := gName 13) (tt := tYes) rfl scLaw.nd (pi_range1 (by rfl) mrange (pa_cons pe_int pa_nil)) (blkOk_by (N := NLaw) (sc := defScope sLaw) (by decide +kernel)) (fun _ _ _ _ _ => pg_name (i := 13) scLaw.nd rfl (Or.inl rfl)) (fun _ _ _ _ _ => pts_nil) (fun _ _ _ _ _ => pe_cmpR op_lt (pv 11) (pv 13) (nomark _))) pa_nil))))) (pss_one (ps_ret pe_bl)) pss_nil))) (pss_one (ps_ret pe_bl)))))), ?_⟩
  refine ⟨.ref a, rfl, a, ns, rfl, hS, h63, fun b c H1 nb nc hb s1 => ?_⟩
  refine ⟨30, rfl, by decide, by decide, for_range (lo := 0) (n := 30) (fun i σ H' => ∃ v2 v3 v4 v5 v6 v7 v8 v9 : Option V, σ = [some (.ref a), some (.ref b), v2, v3, v4, v5, v6, v7, v8, v9, none, none, none, none] ∧ BagAt H' b c)
    ⟨none, none, none, none, none, none, none, none, rfl, hb⟩ ?_ ?_⟩
  · rintro i σ H2 hi ⟨v2, v3, v4, v5, v6, v7, v8, v9, rfl, hb2⟩
    refine ⟨.ref b, rfl, b, c, 2, rfl, hb2, by decide, by decide, fun np zs H3 lz ndz okz enp nnp hb3 B3 => ?_⟩
    obtain ⟨n0, n1, rfl⟩ : ∃ n0 n1, zs = [n0, n1] := by
      match zs, lz with
      | [y, z], _ => exact ⟨y, z, rfl⟩
      | [], h => exact absurd h (by decide)
      | [_], h => exact absurd h (by simp)
      | _ :: _ :: _ :: _, h => simp only [List.length_cons] at h; omega
    have o0 := okz n0 (by simp)
    have o1 := okz n1 (by simp)
    have l0 : n0.length ≤ 8 := o0.most
    have l1 : n1.length ≤ 8 := o1.most
    have nt3 : NT H3 (fun z => z = b) := fun z e => by
      obtain ⟨x, y, z', ns, h1, _⟩ := hb3.ex
      exact ⟨_, by rw [e]; exact h1⟩
    have npb : np ≠ b := hb2.nb nnp
    have i0 : atI [V.str n0, V.str n1] 0 = some (.str n0) := atI_nat (j := 0) rfl
    have i1 : atI [V.str n0, V.str n1] 1 = some (.str n1) := atI_nat (j := 1) rfl
    -- what may be spoilt
    refine ⟨.ref np, rfl, np, _, 0, .str n0, rfl, rfl, .inl (.inl enp), i0, .ref np, rfl, np, _, 0, .str n0, rfl, rfl, .inl (.inl enp), i0, n0, rfl, by omega, ?_⟩
    refine ⟨.ref np, rfl, np, _, 0, .str n0, rfl, rfl, .inl (.inl enp), i0, .ref np, rfl, np, _, 1, .str n1, rfl, rfl, .inl (.inl enp), i1, n0, n1, rfl, by omega, by omega, ?_⟩
    refine ⟨.ref b, rfl, b, c, fun z => z = b, rfl, hb3, rfl, nt3, fun v d H4 ox fi hb4 B4 => ⟨small (by show 7 ≤ 1000; decide), fun sp nsp => ?_⟩⟩
    have enp4 := B4 np _ enp npb
    have sp4 := same_new nsp (HO.lst [V.str n0, V.str ("+" ++ n0), V.str ("+" ++ n0 ++ "." ++ n1), V.str "each", V.str "now", V.str "late", v])
    have w0 : LowS n0 := o0.lowS
    have w1 : LowS n1 := o1.lowS
    have p1 : LowS "+" := lowS (by decide +kernel)
    have p2 : LowS "." := lowS (by decide +kernel)
    have lp : ("+" : Str).length = 1 := rfl
    have lq : ("." : Str).length = 1 := rfl
    have all : OXs w (upd H4 sp (.lst [V.str n0, V.str ("+" ++ n0), V.str ("+" ++ n0 ++ "." ++ n1), V.str "each", V.str "now", V.str "late", v])) (fun z => z = b) 0 [V.str n0, V.str ("+" ++ n0), V.str ("+" ++ n0 ++ "." ++ n1), V.str "each", V.str "now", V.str "late", v]
        [.str n0, .str ("+" ++ n0), .str ("+" ++ n0 ++ "." ++ n1), .str "each", .str "now", .str "late", d] :=
      .cons (.str _ w0) (.cons (.str _ (low_app p1 w0)) (.cons (.str _ (low_app (low_app (low_app p1 w0) p2) w1)) (.cons (.str _ (lowS (by decide +kernel))) (.cons (.str _ (lowS (by decide +kernel))) (.cons (.str _ (lowS (by decide +kernel))) (.cons (ox.same sp4) .nil))))))
    have fine7 : ∀ e ∈ [PyData.str n0, .str ("+" ++ n0), .str ("+" ++ n0 ++ "." ++ n1), .str "each", .str "now", .str "late", d], Fine e 6 140 := by
      intro e he
      simp only [List.mem_cons, List.not_mem_nil, or_false] at he
      rcases he with rfl | rfl | rfl | rfl | rfl | rfl | rfl
      · exact (Fine.str w0 (Nat.le_refl _)).le (by decide) (by omega)
      · exact (Fine.str (low_app p1 w0) (Nat.le_refl _)).le (by decide) (by rw [len_app]; omega)
      · exact (Fine.str (low_app (low_app (low_app p1 w0) p2) w1) (Nat.le_refl _)).le (by decide) (by rw [len_app, len_app, len_app]; omega)
      · exact fine_of (by decide +kernel)
      · exact fine_of (by decide +kernel)
      · exact fine_of (by decide +kernel)
      · exact fi
    have esp : (upd H4 sp (.lst [V.str n0, V.str ("+" ++ n0), V.str ("+" ++ n0 ++ "." ++ n1), V.str "each", V.str "now", V.str "late", v])) sp = some (.lst [V.str n0, V.str ("+" ++ n0), V.str ("+" ++ n0 ++ "." ++ n1), V.str "each", V.str "now", V.str "late", v]) := upd_same
    have hb5 := hb4.mono sp4
    have enp5 := sp4 _ _ enp4
    have spb : sp ≠ b := hb4.nb nsp
    generalize (upd H4 sp (.lst [V.str n0, V.str ("+" ++ n0), V.str ("+" ++ n0 ++ "." ++ n1), V.str "each", V.str "now", V.str "late", v])) = H5 at all esp hb5 enp5 sp4 ⊢
    refine ⟨.ref sp, rfl, .ref b, rfl, b, c, 7, rfl, hb5, by decide, by decide, fun r H6 r0 r1 hb6 B6 => ?_⟩
    obtain ⟨r, rfl⟩ := Int.eq_ofNat_of_zero_le r0
    have lt : r < [V.str n0, V.str ("+" ++ n0), V.str ("+" ++ n0 ++ "." ++ n1), V.str "each", V.str "now", V.str "late", v].length := by
      show r < 7
      omega
    have etv := List.getElem?_eq_getElem lt
    generalize [V.str n0, V.str ("+" ++ n0), V.str ("+" ++ n0 ++ "." ++ n1), V.str "each", V.str "now", V.str "late", v][r] = tv at etv
    obtain ⟨td, etd, otv⟩ := all.get etv
    have ftd := fine7 td (List.mem_of_getElem? etd)
    clear all fine7 ox fi lt
    refine ⟨sp, _, r, tv, rfl, rfl, .inl (.inl (B6 _ _ esp spb)), atI_nat etv, ?_⟩
    have otv6 : OX w H6 (fun z => z = b) 0 tv td := otv.mono (ButN.bag (N := fun z => z = b) B6 rfl)
    have enp6 := B6 _ _ enp5 npb
    clear otv etv etd enp5 enp4 esp sp4
    -- the bends
    refine ⟨small (by show 4 ≤ 1000; decide), fun l nl => ?_⟩
    have nlb : l ≠ b := hb6.nb nl
    refine ⟨.ref b, rfl, b, c, 4, rfl, hb6.new nl, by decide, by decide, fun r2 H7 r3 r4 hb7 B7 => ?_⟩
    obtain ⟨ln, hln, ln2⟩ := pickB r3 r4
    have B67 : But b H6 H7 := ((But.refl b H6).new nl).trans B7
    refine ⟨l, _, r2, .int ln, rfl, rfl, .inl (.inl (B7 l _ upd_same nlb)), hln, ln, rfl, by omega, by omega, ?_⟩
    have enp7 := B67 _ _ enp6 npb
    refine for_range (lo := 0) (n := ln) (fun j σ H' => ∃ (v6 : Option V) (t : V) (e : PyData), σ = [some (.ref a), some (.ref b), some (.int (0 + (i : Int))), some (.ref np), some (.ref sp), some t, v6, v7, v8, v9, none, none, none, none] ∧ OX w H' (fun z => z = b) j t e ∧ Fine e (6 + 7 * j) (wb j) ∧ BagAt H' b c ∧ H' np = some (.lst [V.str n0, V.str n1]))
      ⟨v6, tv, td, rfl, otv6.mono (ButN.bag (N := fun z => z = b) B67 rfl), ftd, hb7, enp7⟩ ?_ ?_
    · rintro j σ H8 hj ⟨v6', t, e, rfl, ot, ft, hb8, enp8⟩
      have nt8 : NT H8 (fun z => z = b) := fun z e => by
        obtain ⟨x, y, z', ns, h1, _⟩ := hb8.ex
        exact ⟨_, by rw [e]; exact h1⟩
      have j1 : j = 0 ∨ j = 1 := by omega
      have w8 : wb j ≤ 20000 := by rcases j1 with rfl | rfl <;> decide
      refine ⟨.ref b, rfl, t, rfl, b, c, fun z => z = b, t, e, j, 6 + 7 * j, rfl, hb8, rfl, nt8, ot, by omega, ft.le (Nat.le_refl _) w8, by omega, fun v' d' H9 o9 f9 hb9 B9 => ?_⟩
      have we := ft.wt
      exact ⟨_, v', d', rfl, o9, f9.le (by omega) (by rcases j1 with rfl | rfl <;> (simp only [wb] at we ⊢; omega)), hb9, B9 _ _ enp8 npb⟩
    · rintro σ H8 ⟨v6', t, e, rfl, ot, ft, hb8, enp8⟩
      have fe : Fine e 20 1460 := ft.le (by omega) (by
        rcases (by omega : ln = 0 ∨ ln = 1 ∨ ln = 2) with rfl | rfl | rfl <;> decide)
      obtain ⟨f1, f2, f3⟩ := fe.fits (by decide) (by decide)
      have fw : Fine e 20 100000 := fe.le (Nat.le_refl _) (by decide)
      have nv := ot.nv fw
      have kd := ot.kd (K := K)
      refine ⟨t, rfl, t, e, _, ln, rfl, ot, f1, f2, f3, ?_⟩
      -- told
      refine ⟨t, rfl, t, e, _, ln, rfl, ot, t, rfl, t, _, rfl, nv, fun G1 q1 => ⟨t, rfl, t, _, rfl, nv.mono q1, fun G2 q2 => ⟨t, rfl, t, _, rfl, nv.mono (q1.trans q2), fun G3 q3 => ⟨t, rfl, t, _, rfl, nv.mono ((q1.trans q2).trans q3), fun G4 q4 => ?_⟩⟩⟩⟩
      have Q4 := ((q1.trans q2).trans q3).trans q4
      refine ⟨t, rfl, t, rfl, (ot.same Q4).kd, small (by show 6 ≤ 1000; decide), fun t1 nt1 => ?_⟩
      have S1 : Same H8 (upd G4 t1 (.lst ((dueB t e).map V.bl))) := Q4.trans (same_new nt1 _)
      have e1 : (upd G4 t1 (.lst ((dueB t e).map V.bl))) t1 = some (.lst ((dueB t e).map V.bl)) := upd_same
      show tSeq _ _ _ [some (.ref a), some (.ref b), some (.int (0 + (i : Int))), some (.ref np), some (.ref sp), some t, v6', some (.str e.shown), some (.ref t1), v9, none, none, none, none] (upd G4 t1 (.lst ((dueB t e).map V.bl)))
      generalize (upd G4 t1 (.lst ((dueB t e).map V.bl))) = HA at S1 e1 ⊢
      clear q1 q2 q3 q4 Q4 nt1
      have nvA := nv.mono S1
      refine ⟨t, rfl, t, e, _, ln, rfl, ot.same S1, t, rfl, t, _, rfl, nvA, fun G1 q1 => ⟨t, rfl, t, _, rfl, nvA.mono q1, fun G2 q2 => ⟨t, rfl, t, _, rfl, nvA.mono (q1.trans q2), fun G3 q3 => ⟨t, rfl, t, _, rfl, nvA.mono ((q1.trans q2).trans q3), fun G4 q4 => ?_⟩⟩⟩⟩
      have Q4 := ((q1.trans q2).trans q3).trans q4
      refine ⟨t, rfl, t, rfl, ((ot.same S1).same Q4).kd, small (by show 6 ≤ 1000; decide), fun t2 nt2 => ?_⟩
      have S2 : Same HA (upd G4 t2 (.lst ((dueB t e).map V.bl))) := Q4.trans (same_new nt2 _)
      have e2 : (upd G4 t2 (.lst ((dueB t e).map V.bl))) t2 = some (.lst ((dueB t e).map V.bl)) := upd_same
      show tSeq _ _ _ [some (.ref a), some (.ref b), some (.int (0 + (i : Int))), some (.ref np), some (.ref sp), some t, v6', some (.str e.shown), some (.ref t1), some (.ref t2), none, none, none, none] (upd G4 t2 (.lst ((dueB t e).map V.bl)))
      generalize (upd G4 t2 (.lst ((dueB t e).map V.bl))) = HB at S2 e2 ⊢
      clear q1 q2 q3 q4 Q4 nt2
      have SB := S1.trans S2
      have e1B := S2 _ _ e1
      -- alike
      refine ⟨.ref t1, rfl, .ref t2, rfl, small (by show 2 ≤ 1000; decide), fun L1 nL1 => ?_⟩
      have sL1 := same_new nL1 (HO.lst [V.ref t1, V.ref t2])
      refine ⟨t, rfl, t, e, _, ln, 20, rfl, (ot.same SB).same sL1, fw, fun d1 HC sC eC nC => ?_⟩
      refine ⟨t, rfl, t, e, _, ln, 20, rfl, ((ot.same SB).same sL1).same sC, fw, fun d2 HD sD eD nD => ⟨small (by show 2 ≤ 1000; decide), fun L2 nL2 => ?_⟩⟩
      have sL2 := same_new nL2 (HO.lst [V.ref d1, V.ref d2])
      have tot := ((sL1.trans sC).trans sD).trans sL2
      have eL1 : (upd HD L2 (.lst [V.ref d1, V.ref d2])) L1 = some (.lst [V.ref t1, V.ref t2]) := ((sC.trans sD).trans sL2) _ _ upd_same
      have eL2 : (upd HD L2 (.lst [V.ref d1, V.ref d2])) L2 = some (.lst [V.ref d1, V.ref d2]) := upd_same
      obtain ⟨a1, a2⟩ := bd_two (K := K) eL1 (tot _ _ e1B) (tot _ _ e2)
      obtain ⟨a3, a4⟩ := bd_two (K := K) eL2 ((sD.trans sL2) _ _ eC) (sL2 _ _ eD)
      refine ⟨L1, L2, _, rfl, .two (dueB t e) (dueB t e) (by show 6 ≤ 100; decide) (by show 6 ≤ 100; decide), a1, a3, a2, a4, _, rfl, ff_if rfl ?_⟩
      have SE := SB.trans tot
      generalize (upd HD L2 (.lst [V.ref d1, V.ref d2])) = HE at SE ⊢
      clear a1 a2 a3 a4 tot sL2 sL1 eL1 eL2 sC sD eC eD nC nD nL1 nL2
      refine ⟨t, rfl, t, e, _, ln, rfl, ot.same SE, f1, f2, f3, .str e.shown, rfl, rfl, _, rfl, ff_if (by show (!(decide _)) = false; rw [decide_eq_true rfl]; rfl) ?_⟩
      -- the new ids
      have enpE := SE _ _ enp8
      refine ⟨.ref np, rfl, np, _, 0, .str n0, rfl, rfl, .inl (.inl enpE), i0, n0, rfl, by omega, .ref np, rfl, np, _, 0, .str n0, rfl, rfl, .inl (.inl enpE), i0, .ref np, rfl, np, _, 1, .str n1, rfl, rfl, .inl (.inl enpE), i1, n0, n1, rfl, by omega, by omega, small (by show 2 ≤ 1000; decide), fun x1 nx1 => ?_⟩
      have sX := same_new nx1 (HO.lst [V.str ("+" ++ n0), V.str ("+" ++ n0 ++ "." ++ n1)])
      have enpX := sX _ _ enpE
      have sl : sizeLine = 16777216 := sizeLine_eq
      refine ⟨.ref np, rfl, np, _, 0, .str n0, rfl, rfl, .inl (.inl enpX), i0, "+", n0, rfl, rfl, by omega, .ref np, rfl, np, _, 0, .str n0, rfl, rfl, .inl (.inl enpX), i0, "+", n0, rfl, rfl, by omega, "+" ++ n0, ".", rfl, rfl, by rw [len_app]; omega, .ref np, rfl, np, _, 1, .str n1, rfl, rfl, .inl (.inl enpX), i1, "+" ++ n0 ++ ".", n1, rfl, rfl, by rw [len_app, len_app]; omega, small (by show 2 ≤ 1000; decide), fun x2 nx2 => ?_⟩
      have sY := same_new nx2 (HO.lst [V.str ("+" ++ n0), V.str ("+" ++ n0 ++ "." ++ n1)])
      have eX : (upd (upd HE x1 (.lst [V.str ("+" ++ n0), V.str ("+" ++ n0 ++ "." ++ n1)])) x2 (.lst [V.str ("+" ++ n0), V.str ("+" ++ n0 ++ "." ++ n1)])) x1 = some (.lst [V.str ("+" ++ n0), V.str ("+" ++ n0 ++ "." ++ n1)]) := sY _ _ upd_same
      have eY : (upd (upd HE x1 (.lst [V.str ("+" ++ n0), V.str ("+" ++ n0 ++ "." ++ n1)])) x2 (.lst [V.str ("+" ++ n0), V.str ("+" ++ n0 ++ "." ++ n1)])) x2 = some (.lst [V.str ("+" ++ n0), V.str ("+" ++ n0 ++ "." ++ n1)]) := upd_same
      have hbY := hb8.mono ((SE.trans sX).trans sY)
      have y1 := low_app p1 w0
      have y2 := low_app (low_app (low_app p1 w0) p2) w1
      refine ⟨.list [.str ("+" ++ n0), .str ("+" ++ n0 ++ "." ++ n1)], .list [.str ("+" ++ n0), .str ("+" ++ n0 ++ "." ++ n1)], .lst (.inl (.inl eX)) (.cons (.str _) (.cons (.str _) .nil)), .lst (.inl (.inl eY)) (.cons (.str _) (.cons (.str _) .nil)), two_shaped y1 y2, two_shaped y1 y2, _, rfl, ff_if (by rw [two_eqv]; rfl) ?_⟩
      exact ⟨_, _, _, _, _, _, _, _, rfl, hbY⟩
  · rintro σ H2 ⟨v2, v3, v4, v5, v6, v7, v8, v9, rfl, hb2⟩
    refine ⟨small (by show 3 ≤ 1000; decide), fun mp nmp => ?_⟩
    have em : (upd H2 mp (.lst (modeL.map V.str))) mp = some (.lst (modeL.map V.str)) := upd_same
    show tSeq _ _ _ [some (.ref a), some (.ref b), v2, v3, v4, v5, v6, v7, v8, v9, some (.ref mp), none, none, none] (upd H2 mp (.lst (modeL.map V.str)))
    generalize upd H2 mp (.lst (modeL.map V.str)) = H3 at em ⊢
    refine ⟨3, rfl, by decide, by decide, for_range (lo := 0) (n := 3) (fun i σ H' => ∃ v11 : Option V, σ = [some (.ref a), some (.ref b), v2, v3, v4, v5, v6, v7, v8, v9, some (.ref mp), v11, none, none] ∧ H' mp = some (.lst (modeL.map V.str))) ⟨none, rfl, em⟩ ?_ ?_⟩
    · rintro i σ H4 hi ⟨v11, rfl, em4⟩
      refine ⟨.ref mp, rfl, mp, rfl, ⟨_, SqL.of em4⟩, fun D nD => ?_⟩
      refine lc_list (K := K) (a := mp) (xs := modeL.map V.str) (fun j H5 => Same H4 H5 ∧ H5 D = some (.lst (((List.range j).map fun k => decide (i < k)).map V.bl))) ⟨same_new nD _, upd_same⟩ (fun j H5 _ p => SqL.of (p.1 _ _ em4)) ?_ ?_
      · rintro j x H5 hx ⟨s5, h5⟩
        obtain ⟨y, hy, rfl⟩ := map_get hx
        have lj : j < 3 := (List.getElem?_eq_some_iff.mp hy).1
        obtain ⟨z, hz⟩ : ∃ z, modeL[i]? = some z := ⟨modeL[i]'hi, List.getElem?_eq_getElem hi⟩
        refine ⟨rfl, yes_if ⟨.ref mp, rfl, .int (0 + (i : Int)), rfl, mp, modeL.map V.str, _, .str z, rfl, rfl, .inl (.inl (s5 _ _ em4)), by rw [Int.zero_add]; exact atI_nat (by rw [List.getElem?_map, hz]; rfl), .str y, rfl, i, j, z, y, rfl, hz, hy, _, h5, small1000 (by simp; omega), Same.put s5 nD, ?_⟩⟩
        rw [upd_same, List.range_succ, List.map_append, List.map_append]
        rfl
      · rintro H5 ⟨s5, h5⟩
        refine ⟨3, rfl, by decide, by decide, fun D2 nD2 => ?_⟩
        refine lc_range (lo := 0) (n := 3) (fun j H6 => Same H5 H6 ∧ H6 D2 = some (.lst (((List.range j).map fun k => decide (i < k)).map V.bl))) ⟨same_new nD2 _, upd_same⟩ ?_ ?_
        · rintro j H6 hj ⟨s6, h6⟩
          refine ⟨rfl, yes_if ⟨_, rfl, _, rfl, _, _, rfl, rfl, _, h6, small1000 (by simp; omega), Same.put s6 nD2, ?_⟩⟩
          have e : decide ((0 + (i : Int)) < 0 + (j : Int)) = decide (i < j) := by
            by_cases h : i < j
            · rw [decide_eq_true h, decide_eq_true (by omega)]
            · rw [decide_eq_false h, decide_eq_false (by omega)]
          rw [upd_same, List.range_succ, List.map_append, List.map_append]
          show some (HO.lst (_ ++ [V.bl (decide ((0 + (i : Int)) < 0 + (j : Int)))])) = some (HO.lst (_ ++ [V.bl (decide (i < j))]))
          rw [e]
        · rintro H6 ⟨s6, h6⟩
          obtain ⟨a1, a2⟩ := bd_one (K := K) (s6 _ _ h5)
          obtain ⟨a3, a4⟩ := bd_one (K := K) h6
          exact ⟨D, D2, _, rfl,   .one _ (by rw [List.length_map, List.length_range]; decide), a1, a3, a2, a4, _, rfl, ff_if rfl ⟨_, rfl, (s5.trans s6) _ _ em4⟩⟩
    · rintro σ H4 ⟨v11, rfl, em4⟩
      exact q H4
end
end Lw

set_option Elab.async false
set_option linter.all false
set_option maxRecDepth 100000
set_option maxHeartbeats 4000000
namespace Lw
open PySem PySem.Spec PyProof.Rows L2
/-- a def: where it stands, and its text -/
structure DefT (K : PySem.W.Frag) (x : Str) (dst : Stmt) (f : Addr) (fd : FuncData) : Prop where
  a : PySem.W.nsIn K mainGlobals x = some (some (.ref f))
  F : Fun K x x dst f fd
theorem all_mk {l : PySem.W.OpenLaw} {w : World} {K : PySem.W.Frag} {h : Heap} {mg : Str → Option Value} {fa : Addr} {t1 t2 ta tb tc : Tok} {pM : Addr} {nM : Nat} {slM : Array (Option Value)} (kin : K.In h) (G : h.Ns mainGlobals mg) (hfa : mg "law" = some (.ref fa))
    {f0 : Addr} {fd0 : FuncData}
    {f1 : Addr} {fd1 : FuncData}
    {f2 : Addr} {fd2 : FuncData}
    {f3 : Addr} {fd3 : FuncData}
    {f4 : Addr} {fd4 : FuncData}
    {f5 : Addr} {fd5 : FuncData}
    {f6 : Addr} {fd6 : FuncData}
    {f7 : Addr} {fd7 : FuncData}
    {f8 : Addr} {fd8 : FuncData}
    {f9 : Addr} {fd9 : FuncData}
    {f10 : Addr} {fd10 : FuncData}
    {f11 : Addr} {fd11 : FuncData}
    {f12 : Addr} {fd12 : FuncData}
    {f13 : Addr} {fd13 : FuncData}
    {f14 : Addr} {fd14 : FuncData}
    {f15 : Addr} {fd15 : FuncData}
    {f16 : Addr} {fd16 : FuncData}
    {f17 : Addr} {fd17 : FuncData}
    {f18 : Addr} {fd18 : FuncData}
    {f19 : Addr} {fd19 : FuncData}
    (d0 : DefT K "_law_bag" sBag f0 fd0)
    (d1 : DefT K "_law_take" sTake f1 fd1)
    (d2 : DefT K "_law_alike" sAlike f2 fd2)
    (d3 : DefT K "_law_names" sNames f3 fd3)
    (d4 : DefT K "_law_odd" sOdd f4 fd4)
    (d5 : DefT K "_law_spoilt" sSp f5 fd5)
    (d6 : DefT K "_law_is_name" sLIsName f6 fd6)
    (d7 : DefT K "_law_is_id" sLIsId f7 fd7)
    (d8 : DefT K "_law_is_tag_name" sLIsTag f8 fd8)
    (d9 : DefT K "_law_dues" sDues f9 fd9)
    (d10 : DefT K "law" sLaw f10 fd10)
    (d11 : DefT K "is_integer" sIsInt f11 fd11)
    (d12 : DefT K "is_name" sIsName f12 fd12)
    (d13 : DefT K "is_id" sIsId f13 fd13)
    (d14 : DefT K "is_new_id" sIsNew f14 fd14)
    (d15 : DefT K "is_tag_name" sIsTag f15 fd15)
    (d16 : DefT K "is_mode" sIsMode f16 fd16)
    (d17 : DefT K "less" sLess f17 fd17)
    (d18 : DefT K "new_id" sNewId f18 fd18)
    (d19 : DefT K "own_name" sOwn f19 fd19)
    (g1 : PySem.W.nsIn K mainGlobals "LETTERS" = some (some (.str LET t1))) (g2 : PySem.W.nsIn K mainGlobals "LONGEST" = some (some (.int 8 t2))) (g3 : PySem.W.nsIn K mainGlobals "MODES" = some (some (.ref pM)))
    (g4 : K.lookup pM = some ⟨.type "tuple", none, .seq #[.str "each" ta, .str "now" tb, .str "late" tc] nM, slM⟩)
    (z0 : PySem.W.nsIn K mainGlobals "abs" = some none) (z1 : PySem.W.nsIn K mainGlobals "int" = some none) (z2 : PySem.W.nsIn K mainGlobals "range" = some none) (z3 : PySem.W.nsIn K mainGlobals "len" = some none) (z4 : PySem.W.nsIn K mainGlobals "isinstance" = some none) (z5 : PySem.W.nsIn K mainGlobals "list" = some none) (z6 : PySem.W.nsIn K mainGlobals "tuple" = some none) (z7 : PySem.W.nsIn K mainGlobals "dict" = some none) (z8 : PySem.W.nsIn K mainGlobals "str" = some none) (z9 : PySem.W.nsIn K mainGlobals "all" = some none) (z10 : PySem.W.nsIn K mainGlobals "repr" = some none) (z11 : PySem.W.nsIn K mainGlobals "bool" = some none) :
    ∃ fd : FuncData, (∀ (s : Shared) (v : Value), BindsTo s fd ⟨[v], []⟩ [("_law_script", v)]) ∧ ∀ base : Heap, K.In base → base.Ns mainGlobals mg → (∃ o, base.get? sysModules = some o) → FnG l.prog w K mg base 23 fa fd ["_law_script"] (spLaw K) := by
  have e := hfa.symm.trans (PySem.W.mg_of kin G d10.a)
  cases e
  have at_ : ∀ {x : Str} {v : Value}, PySem.W.nsIn K mainGlobals x = some (some v) → mg x = some v := fun z => PySem.W.mg_of kin G z
  have no_ : ∀ {x : Str}, PySem.W.nsIn K mainGlobals x = some none → mg x = none := fun z => PySem.W.mg_none_of kin G z
  have b0 : Binds K fd0 ["_law_script"] [] := d0.F.binds fun _ _ _ _ _ _ us hl => match us, hl with | [_], _ => rfl
  have b1 : Binds K fd1 ["_law_bag_here", "_law_many"] [] := d1.F.binds fun _ _ _ _ _ _ us hl => match us, hl with | [_, _], _ => rfl
  have b2 : Binds K fd2 ["_law_found", "_law_due"] [] := d2.F.binds fun _ _ _ _ _ _ us hl => match us, hl with | [_, _], _ => rfl
  have b3 : Binds K fd3 ["_law_bag_here", "_law_many"] [] := d3.F.binds fun _ _ _ _ _ _ us hl => match us, hl with | [_, _], _ => rfl
  have b4 : Binds K fd4 ["_law_bag_here"] [] := d4.F.binds fun _ _ _ _ _ _ us hl => match us, hl with | [_], _ => rfl
  have b5 : Binds K fd5 ["_law_bag_here", "_law_thing"] [] := d5.F.binds fun _ _ _ _ _ _ us hl => match us, hl with | [_, _], _ => rfl
  have b6 : Binds K fd6 ["_law_thing"] [] := d6.F.binds fun _ _ _ _ _ _ us hl => match us, hl with | [_], _ => rfl
  have b7 : Binds K fd7 ["_law_thing"] [] := d7.F.binds fun _ _ _ _ _ _ us hl => match us, hl with | [_], _ => rfl
  have b8 : Binds K fd8 ["_law_thing"] [] := d8.F.binds fun _ _ _ _ _ _ us hl => match us, hl with | [_], _ => rfl
  have b9 : Binds K fd9 ["_law_thing"] [] := d9.F.binds fun _ _ _ _ _ _ us hl => match us, hl with | [_], _ => rfl
  have b11 : Binds K fd11 ["thing"] [] := d11.F.binds fun _ _ _ _ _ _ us hl => match us, hl with | [_], _ => rfl
  have b12 : Binds K fd12 ["thing"] [] := d12.F.binds fun _ _ _ _ _ _ us hl => match us, hl with | [_], _ => rfl
  have b13 : Binds K fd13 ["thing"] [] := d13.F.binds fun _ _ _ _ _ _ us hl => match us, hl with | [_], _ => rfl
  have b14 : Binds K fd14 ["thing"] [] := d14.F.binds fun _ _ _ _ _ _ us hl => match us, hl with | [_], _ => rfl
  have b15 : Binds K fd15 ["thing"] [] := d15.F.binds fun _ _ _ _ _ _ us hl => match us, hl with | [_], _ => rfl
  have b16 : Binds K fd16 ["thing"] [] := d16.F.binds fun _ _ _ _ _ _ us hl => match us, hl with | [_], _ => rfl
  have b17 : Binds K fd17 ["one", "other"] [] := d17.F.binds fun _ _ _ _ _ _ us hl => match us, hl with | [_, _], _ => rfl
  have b18 : Binds K fd18 ["handle"] [] := d18.F.binds fun _ _ _ _ _ _ us hl => match us, hl with | [_], _ => rfl
  have b19 : Binds K fd19 ["handle", "field"] [] := d19.F.binds fun _ _ _ _ _ _ us hl => match us, hl with | [_, _], _ => rfl
  obtain ⟨oc, od, kV, doc, pm, an, cdv, ct, osl, efd, _, _⟩ := id d10.F.ex
  refine ⟨fd10, fun s v => ?_, fun base kb gb sy => ?_⟩
  · have q := efd ▸ (show BindsTo s (PySem.W.fnOf "law" "law" (defArgs sLaw) (defBody sLaw) (defScope sLaw) .none kV doc pm an cdv ct) ⟨[v], []⟩ [("_law_script", v)] from .of_eq rfl)
    exact q
  have MM : ModesAt K mg pM := ⟨at_ g3, ta, tb, tc, nM, slM, g4⟩
  have G0 : Ok l.prog w K mg base _ _ _ _ f0 fd0 := ⟨ok_bag (P := l.prog) (w := w) (base := base) d0.F (no_ z0), at_ d0.a, d0.F.kp, b0⟩
  have G1 : Ok l.prog w K mg base _ _ _ _ f1 fd1 := ⟨ok_take (P := l.prog) (w := w) (base := base) d1.F (no_ z1), at_ d1.a, d1.F.kp, b1⟩
  have G3 : Ok l.prog w K mg base _ _ _ _ f3 fd3 := ⟨ok_names (P := l.prog) (w := w) (base := base) d3.F G1.F G1.m G1.k G1.b (no_ z2) (no_ z1), at_ d3.a, d3.F.kp, b3⟩
  have G4 : Ok l.prog w K mg base _ _ _ _ f4 fd4 := ⟨ok_odd (P := l.prog) (w := w) (base := base) d4.F G1.F G1.m G1.k G1.b (no_ z2), at_ d4.a, d4.F.kp, b4⟩
  have G5 : Ok l.prog w K mg base _ _ _ _ f5 fd5 := ⟨ok_sp (P := l.prog) (w := w) (base := base) d5.F (at_ d5.a) b5 G1.F G1.m G1.k G1.b G4.F G4.m G4.k G4.b (no_ z4) (no_ z5) (no_ z6) (no_ z7) (no_ z8) (no_ z3) 20, at_ d5.a, d5.F.kp, b5⟩
  have G6 : Ok l.prog w K mg base _ _ _ _ f6 fd6 := ⟨ok_lisname (P := l.prog) (w := w) (base := base) d6.F (no_ z4) (no_ z8) (no_ z3), at_ d6.a, d6.F.kp, b6⟩
  have G7 : Ok l.prog w K mg base _ _ _ _ f7 fd7 := ⟨ok_lisid (P := l.prog) (w := w) (base := base) d7.F G6 (no_ z4) (no_ z8), at_ d7.a, d7.F.kp, b7⟩
  have G8 : Ok l.prog w K mg base _ _ _ _ f8 fd8 := ⟨ok_listag (P := l.prog) (w := w) (base := base) d8.F G6 (no_ z4) (no_ z8) (no_ z3), at_ d8.a, d8.F.kp, b8⟩
  have G9 : Ok l.prog w K mg base _ _ _ _ f9 fd9 := ⟨ok_dues (P := l.prog) (w := w) (base := base) d9.F G6 G7 G8 (no_ z4) (no_ z8) (no_ z1) (no_ z11), at_ d9.a, d9.F.kp, b9⟩
  have G11 : Ok l.prog w K mg base _ _ _ _ f11 fd11 := ⟨ok_isint (P := l.prog) (w := w) (base := base) d11.F (no_ z4) (no_ z1) (no_ z11), at_ d11.a, d11.F.kp, b11⟩
  have G12 : Ok l.prog w K mg base _ _ _ _ f12 fd12 := ⟨ok_isname (P := l.prog) (w := w) (base := base) d12.F (no_ z4) (no_ z8) (no_ z3) (no_ z9) (at_ g1) (at_ g2), at_ d12.a, d12.F.kp, b12⟩
  have G14 : Ok l.prog w K mg base _ _ _ _ f14 fd14 := ⟨ok_isnew (P := l.prog) (w := w) (base := base) d14.F G12 (no_ z4) (no_ z8), at_ d14.a, d14.F.kp, b14⟩
  have G13 : Ok l.prog w K mg base _ _ _ _ f13 fd13 := ⟨ok_isid (P := l.prog) (w := w) (base := base) d13.F G12 G14, at_ d13.a, d13.F.kp, b13⟩
  have G15 : Ok l.prog w K mg base _ _ _ _ f15 fd15 := ⟨ok_istag (P := l.prog) (w := w) (base := base) d15.F G12 (no_ z4) (no_ z8) (no_ z3), at_ d15.a, d15.F.kp, b15⟩
  have G16 : Ok l.prog w K mg base _ _ _ _ f16 fd16 := ⟨ok_ismode (P := l.prog) (w := w) (base := base) d16.F MM, at_ d16.a, d16.F.kp, b16⟩
  have G17 : Ok l.prog w K mg base _ _ _ _ f17 fd17 := ⟨ok_less (P := l.prog) (w := w) (base := base) d17.F MM, at_ d17.a, d17.F.kp, b17⟩
  have G18 : Ok l.prog w K mg base _ _ _ _ f18 fd18 := ⟨ok_newid (P := l.prog) (w := w) (base := base) d18.F, at_ d18.a, d18.F.kp, b18⟩
  have G19 : Ok l.prog w K mg base _ _ _ _ f19 fd19 := ⟨ok_own (P := l.prog) (w := w) (base := base) d19.F, at_ d19.a, d19.F.kp, b19⟩
  have GA := ok_alike (P := l.prog) (w := w) (base := base) d2.F (no_ z10) sy
  exact ok_law (P := l.prog) (w := w) (base := base) d10.F G0 G1 G3 G4 G5 G11 G12 G13 G14 G15 G16 G17 G18 G19 G9 GA (at_ d2.a) d2.F.kp b2 (no_ z2) (no_ z10) sy
theorem walk11 {l : PySem.W.OpenLaw} {q : Program} {loose : List Str} {XP : (Str → Option Value) → Heap → Prop} {YP : World → Heap → Prop} {d : DefRec} {K : Params → PySem.W.Frag} (hn : l.most = some 63) (hdf : d.params.defaults = []) (hin : PyProof.Rows.importsNone q = true) (inK : ∀ (w : World) (h : Heap), YP w h → (K w.params).In h)
    (made : ∀ (w : World) (mg : Str → Option Value) (fa : Addr) (h : Heap), (K w.params).In h → h.Ns mainGlobals mg → mg d.name = some (.ref fa) →
      ∃ fd : FuncData, (∀ (s : Shared) (u : Value), BindsTo s fd ⟨[u], []⟩ [("_law_script", u)]) ∧ ∀ base : Heap, (K w.params).In base → base.Ns mainGlobals mg → (∃ o, base.get? sysModules = some o) → FnG l.prog w (K w.params) mg base 23 fa fd ["_law_script"] (spLaw (K w.params))) :
    PySem.W.WalkO q loose XP YP l.row.toRowW d [] (fun f vs => PySem.call f vs) :=
  walkG (n := 63) (k := 23) (x := "_law_script") (sp := spLaw) hn (by decide) hdf hin ⟨rfl, by decide, by decide⟩ inK made fun _ _ a ns hl _ hS => ⟨a, ns, rfl, hS, hl, fun _ => rfl⟩
end Lw

open PySem PySem.W PyProof.Rows
set_option Elab.async false
set_option maxRecDepth 100000 in
set_option maxHeartbeats 0 in
theorem PySem.Challenge.cw_endchecks_k11_names_and_modes_holds : PySem.Challenge.rw_endchecks_k11_names_and_modes.Holds := by
  w_on; o_law; k_head; (case hw => w_witness2)
  k_fill
  refine Lw.walk11 (l := PySem.Challenge.rw_endchecks_k11_names_and_modes) rfl rfl ?hin (fun w h Y => PySem.W.kIn_of Y) ?F
  case hin => kernel_rfl
  case F =>
    intro w mg fa h KX G hmg
    refine' Lw.all_mk KX G hmg ?d0 ?d1 ?d2 ?d3 ?d4 ?d5 ?d6 ?d7 ?d8 ?d9 ?d10 ?d11 ?d12 ?d13 ?d14 ?d15 ?d16 ?d17 ?d18 ?d19 ?g1 ?g2 ?g3 ?g4 ?z0 ?z1 ?z2 ?z3 ?z4 ?z5 ?z6 ?z7 ?z8 ?z9 ?z10 ?z11
    (case d0 => refine' ⟨?a, L2.fun_mk ?l ?c ?k⟩; (case a => k_is); (case l => k_is); (case c => k_is); (case k => k_is))
    (case d1 => refine' ⟨?a, L2.fun_mk ?l ?c ?k⟩; (case a => k_is); (case l => k_is); (case c => k_is); (case k => k_is))
    (case d2 => refine' ⟨?a, L2.fun_mk ?l ?c ?k⟩; (case a => k_is); (case l => k_is); (case c => k_is); (case k => k_is))
    (case d3 => refine' ⟨?a, L2.fun_mk ?l ?c ?k⟩; (case a => k_is); (case l => k_is); (case c => k_is); (case k => k_is))
    (case d4 => refine' ⟨?a, L2.fun_mk ?l ?c ?k⟩; (case a => k_is); (case l => k_is); (case c => k_is); (case k => k_is))
    (case d5 => refine' ⟨?a, L2.fun_mk ?l ?c ?k⟩; (case a => k_is); (case l => k_is); (case c => k_is); (case k => k_is))
    (case d6 => refine' ⟨?a, L2.fun_mk ?l ?c ?k⟩; (case a => k_is); (case l => k_is); (case c => k_is); (case k => k_is))
    (case d7 => refine' ⟨?a, L2.fun_mk ?l ?c ?k⟩; (case a => k_is); (case l => k_is); (case c => k_is); (case k => k_is))
    (case d8 => refine' ⟨?a, L2.fun_mk ?l ?c ?k⟩; (case a => k_is); (case l => k_is); (case c => k_is); (case k => k_is))
    (case d9 => refine' ⟨?a, L2.fun_mk ?l ?c ?k⟩; (case a => k_is); (case l => k_is); (case c => k_is); (case k => k_is))
    (case d10 => refine' ⟨?a, L2.fun_mk ?l ?c ?k⟩; (case a => k_is); (case l => k_is); (case c => k_is); (case k => k_is))
    (case d11 => refine' ⟨?a, L2.fun_mk ?l ?c ?k⟩; (case a => k_is); (case l => k_is); (case c => k_is); (case k => k_is))
    (case d12 => refine' ⟨?a, L2.fun_mk ?l ?c ?k⟩; (case a => k_is); (case l => k_is); (case c => k_is); (case k => k_is))
    (case d13 => refine' ⟨?a, L2.fun_mk ?l ?c ?k⟩; (case a => k_is); (case l => k_is); (case c => k_is); (case k => k_is))
    (case d14 => refine' ⟨?a, L2.fun_mk ?l ?c ?k⟩; (case a => k_is); (case l => k_is); (case c => k_is); (case k => k_is))
    (case d15 => refine' ⟨?a, L2.fun_mk ?l ?c ?k⟩; (case a => k_is); (case l => k_is); (case c => k_is); (case k => k_is))
    (case d16 => refine' ⟨?a, L2.fun_mk ?l ?c ?k⟩; (case a => k_is); (case l => k_is); (case c => k_is); (case k => k_is))
    (case d17 => refine' ⟨?a, L2.fun_mk ?l ?c ?k⟩; (case a => k_is); (case l => k_is); (case c => k_is); (case k => k_is))
    (case d18 => refine' ⟨?a, L2.fun_mk ?l ?c ?k⟩; (case a => k_is); (case l => k_is); (case c => k_is); (case k => k_is))
    (case d19 => refine' ⟨?a, L2.fun_mk ?l ?c ?k⟩; (case a => k_is); (case l => k_is); (case c => k_is); (case k => k_is))
    (case g1 => k_is); (case g2 => k_is); (case g3 => k_is); (case g4 => first | k_is | exact rfl)
    (case z0 => k_is); (case z1 => k_is); (case z2 => k_is); (case z3 => k_is); (case z4 => k_is); (case z5 => k_is); (case z6 => k_is); (case z7 => k_is); (case z8 => k_is); (case z9 => k_is); (case z10 => k_is); (case z11 => k_is)
#print axioms PySem.Challenge.cw_endchecks_k11_names_and_modes_holds
