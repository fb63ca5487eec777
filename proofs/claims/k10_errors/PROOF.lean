import PyProof.Rows.All
import Wide.All
import OpenK.AllK
import Wide.FinOn
import HandS.ForMost
import HandS.Codes
import HandS.ExcInit
import HandS.ExcField
import HandS.ExcIs
import HandS.HotCalls
import HandS.Small
import KE.KExcIs
import HandS.Comp
import PySem.Challenge.RW_endchecks_k10_errors
import HandS.DeepEq
import HandS.IsInst
import HandS.Wide
set_option Elab.async false
set_option linter.all false
set_option maxRecDepth 100000
set_option maxHeartbeats 4000000
namespace Lw
open PySem PySem.Spec PyProof.Rows L2
/-! ### small words -/
theorem small {n : Nat} (h : n ≤ 1000) : n ≤ sizeLine := Nat.le_of_lt (small1000 h)
theorem same_new {H : Hp} {p : Addr} (h : H p = none) (o : HO) : Same H (upd H p o) := fun b u q => by rw [upd_ne (ne_of_none q h)]; exact q
/-- all that was tracked is as it was, but what stands at b -/
def But (b : Addr) (H H' : Hp) : Prop := ∀ a o, H a = some o → a ≠ b → H' a = some o
theorem But.refl (b : Addr) (H : Hp) : But b H H := fun _ _ h _ => h
theorem But.trans {b : Addr} {H H1 H2 : Hp} (x : But b H H1) (y : But b H1 H2) : But b H H2 := fun a o h n => y a o (x a o h n) n
theorem But.of {b : Addr} {H H' : Hp} (x : Same H H') : But b H H' := fun a o h _ => x a o h
theorem But.new {b p : Addr} {H H' : Hp} {o : HO} (x : But b H H') (h : H' p = none) : But b H (upd H' p o) := fun a u q n => by
  have q' := x a u q n
  rw [upd_ne (ne_of_none q' h)]
  exact q'
theorem But.set {b : Addr} {H H' : Hp} {o : HO} (x : But b H H') : But b H (upd H' b o) := fun a u q n => by
  rw [upd_ne n]
  exact x a u q n
/-- xs[i] read for xs[i] op= e -/
def rGetL (K : PySem.W.Frag) : V → V → Hp → VK → Prop := fun x y H Q => ∃ p xs i v, x = .ref p ∧ y = .int i ∧ 0 ≤ i ∧ SqL K H p xs ∧ xs[i.toNat]? = some v ∧ Q v H
theorem get_list {X : Cx} : PGet X (rGetL X.K) := by
  intro pins s σ H x y v u Q I rx ry h
  obtain ⟨p, xs, i, z, rfl, rfl, h0, hq, he, q⟩ := h
  cases rx
  obtain ⟨t, rfl⟩ := ry
  obtain ⟨its, r, pl, hz⟩ := I.list hq
  obtain ⟨w, ew, rw'⟩ := r.get he
  have hl := r.length
  have hn := line63
  have hlt : i.toNat < xs.length := (List.getElem?_eq_some_iff.mp he).1
  exact wpAny_getItem_list pl.isList h0 (by omega) (by simpa using ew) ⟨z, H, I, rw', q⟩
theorem map_get {α : Type} {f : α → V} {l : List α} {i : Nat} {x : V} (h : (l.map f)[i]? = some x) : ∃ z, l[i]? = some z ∧ x = f z := by
  rw [List.getElem?_map] at h
  cases e : l[i]? with
  | none => rw [e] at h; cases h
  | some z => rw [e] at h; exact ⟨z, rfl, (Option.some.inj h).symm⟩
theorem cut_ints (ns : List Int) (h : ns.length ≤ 63) : ∃ ms : List Int, cutV (ns.map V.int) none (some 63) = ms.map V.int ∧ ms.length ≤ 63 := by
  unfold cutV
  refine ⟨((ns.drop (HT.sIx (ns.map V.int).length 0 none)).take (HT.sIx (ns.map V.int).length (ns.map V.int).length (some 63) - HT.sIx (ns.map V.int).length 0 none)), ?_, ?_⟩
  · rw [List.map_take, List.map_drop]
  · rw [List.length_take, List.length_drop]
    omega
theorem cut_ints' (ns : List Int) (lo hi : Option Int) : ∃ ms : List Int, cutV (ns.map V.int) lo hi = ms.map V.int := by
  unfold cutV
  exact ⟨_, by rw [← List.map_drop, ← List.map_take]⟩
theorem yes_if {σ : L2.St} {H : Hp} {F G : Hp → Prop} (h : F H) : tYes σ H (fun b H3 => if b = true then F H3 else G H3) := by
  show if true = true then F H else G H
  exact iteT h
theorem BagNe {H : Hp} {b p : Addr} {o : HO} (h : H b = some o) (n : H p = none) : p ≠ b := (ne_of_none h n).symm
/-- a comprehension over a text's signs -/
theorem lc_strI {z : Str} {g : TG} {tt : TT} {te : TE} {vs : List Nat} {σ : L2.St} {H1 : Hp} {D : Addr} {Qd : Hp → Prop} (Pv : Nat → Hp → Prop) (h0 : Pv 0 (upd H1 D (.lst [])))
    (hs : ∀ i c H, z.cps.toList[i]? = some c → Pv i H → g (.str ⟨#[c]⟩) (wipe σ vs) H fun σ2 H2 => wipe σ2 vs = wipe σ vs ∧ tt σ2 H2 fun b H3 =>
      if b = true then te σ2 H3 fun y H4 => ∃ acc, H4 D = some (.lst acc) ∧ acc.length < sizeLine ∧ Pv (i + 1) (upd H4 D (.lst (acc ++ [y]))) else Pv (i + 1) H3) (hd : ∀ H, Pv z.cps.toList.length H → Qd H) :
    ∃ W : Nat → Nat → Hp → Prop, (∃ m, W 0 m (upd H1 D (.lst []))) ∧ ∀ i m H, W i m H →
      ((Its z).stop i H ∧ Qd H) ∨ ((Its z).go i H ∧ ∃ Nx : Hp → Prop, (∀ H', Nx H' → ∃ m', m' < m ∧ W (i + 1) m' H') ∧ ∀ x H', (Its z).yld i H x H' → g x (wipe σ vs) H' fun σ2 H2 => wipe σ2 vs = wipe σ vs ∧ tt σ2 H2 fun b H3 =>
        if b = true then te σ2 H3 fun y H4 => ∃ acc, H4 D = some (.lst acc) ∧ acc.length < sizeLine ∧ Nx (upd H4 D (.lst (acc ++ [y]))) else Nx H3) := by
  have en : z.cps.toList.length = z.cps.size := Array.length_toList
  refine ⟨fun i m H => m = z.cps.size - i ∧ i ≤ z.cps.size ∧ Pv i H, ⟨z.cps.size, by simp, Nat.zero_le _, h0⟩, fun i m H hw => ?_⟩
  obtain ⟨rfl, hi, p⟩ := hw
  by_cases hlt : i < z.cps.size
  · refine .inr ⟨hlt, Pv (i + 1), fun H' p' => ⟨z.cps.size - (i + 1), by omega, rfl, hlt, p'⟩, fun x H' y => ?_⟩
    obtain ⟨e, c, hc, e2⟩ := y
    subst e
    subst e2
    exact hs i c _ (by rw [Array.getElem?_toList]; exact hc) p
  · have e : i = z.cps.size := by omega
    subst e
    exact .inl ⟨Nat.le_refl _, hd H (by rw [en]; exact p)⟩
/-! ### the bag of draws -/
/-- at b the bag, at c the numbers of the script -/
structure BagAt (H : Hp) (b c : Addr) : Prop where
  ex : ∃ (x y z : Int) (ns : List Int), H b = some (.lst [.int x, .int y, .int z, .ref c]) ∧ H c = some (.lst (ns.map V.int)) ∧ ns.length ≤ 63
theorem BagAt.mono {H H' : Hp} {b c : Addr} (x : BagAt H b c) (e : Same H H') : BagAt H' b c := by
  obtain ⟨x, y, z, ns, h1, h2, h3⟩ := x
  exact ⟨x, y, z, ns, e _ _ h1, e _ _ h2, h3⟩
theorem BagAt.nb {H : Hp} {b c p : Addr} (x : BagAt H b c) (n : H p = none) : p ≠ b := by
  obtain ⟨x, y, z, ns, h1, h2, h3⟩ := x
  exact (ne_of_none h1 n).symm
theorem BagAt.nc {H : Hp} {b c p : Addr} (x : BagAt H b c) (n : H p = none) : p ≠ c := by
  obtain ⟨x, y, z, ns, h1, h2, h3⟩ := x
  exact (ne_of_none h2 n).symm
theorem BagAt.new {H : Hp} {b c p : Addr} {o : HO} (x : BagAt H b c) (n : H p = none) : BagAt (upd H p o) b c := x.mono (same_new n o)
theorem BagAt.set {H : Hp} {b c p : Addr} {o : HO} (x : BagAt H b c) (n1 : p ≠ b) (n2 : p ≠ c) : BagAt (upd H p o) b c := by
  obtain ⟨x, y, z, ns, h1, h2, h3⟩ := x
  exact ⟨x, y, z, ns, by rw [upd_ne n1.symm]; exact h1, by rw [upd_ne n2.symm]; exact h2, h3⟩
theorem bag_ne {H : Hp} {b c : Addr} {x y z : Int} {ns : List Int} (h1 : H b = some (.lst [.int x, .int y, .int z, .ref c])) (h2 : H c = some (.lst (ns.map V.int))) : c ≠ b := by
  intro e
  rw [e, h1] at h2
  injection h2 with h2
  injection h2 with h2
  match ns with
  | [] => simp at h2
  | [_] => simp at h2
  | [_, _] => simp at h2
  | [_, _, _] => simp at h2
  | [_, _, _, _] => simp at h2
  | _ :: _ :: _ :: _ :: _ :: _ => simp at h2
/-- what is new behind a But is new ahead of it -/
theorem But.free {b p : Addr} {H H' : Hp} (x : But b H H') (n : H' p = none) (ne : p ≠ b) : H p = none := by
  cases q : H p with
  | none => rfl
  | some u => rw [x p u q ne] at n; cases n
/-- a change of a thing that is new -/
theorem But.put {b p : Addr} {H H' : Hp} {o : HO} (x : But b H H') (n : H p = none) : But b H (upd H' p o) := fun a u q ne => by
  rw [upd_ne (ne_of_none q n)]
  exact x a u q ne
/-- _law_bag(script) -/
def spBag (K : PySem.W.Frag) : Sp := fun vs H Q _ => ∃ (a : Addr) (ns : List Int), vs = [.ref a] ∧ SqL K H a (ns.map V.int) ∧ ns.length ≤ 63 ∧ ∀ (b c : Addr) (H' : Hp), H b = none → H c = none → BagAt H' b c → Same H H' → Q (.ref b) H'
/-- _law_take(bag, many) -/
def spTake : Sp := fun vs H Q _ => ∃ (b c : Addr) (m : Int), vs = [.ref b, .int m] ∧ BagAt H b c ∧ 0 < m ∧ m < 1000000 ∧
  ∀ (r : Int) (H' : Hp), 0 ≤ r → r < m → BagAt H' b c → But b H H' → Q (.int r) H'
end Lw

namespace Lw
open PySem PySem.Spec PySem.W PySem.Calls PyProof.Rows L2
/-! ### own errors made (the kept context is None) -/
theorem made_bare {X : Cx} {pl : List (Addr × Obj)} {σ : L2.St} {Ha Hb : Hp} {Q : XK} {ha hm hb : Heap} {ga gb : Array GenState} {da db : Drawn} {ta tb : Nat} {osa osb : OsState} {x C : Addr} (rs : Raises X (.ref C)) (J : Inv X pl σ Ha ⟨ha, ga, da, ta, osa⟩)
    (new : ha.objs.size ≤ x) (kept : ∀ b o, ha.get? b = some o → hm.get? b = some o) (U : Un (frs X.stack) [] (upd Ha x (exo x C none)) Hb hm hb) (ok : HOk X.prog X.w Hb hb) (os : osb = osa) (bare : AllBare gb)
    (ex : Hb x = some (exo x C none)) (q : Q (.ref C) none (del Hb x)) : L2N.MkP X pl σ Q (.ref x) ⟨hb, gb, db, tb, osb⟩ := by
  obtain ⟨tp, obj⟩ := exo_at ok ex
  have Hx : Ha x = none := J.hok.fresh new
  obtain ⟨G, G1, G2⟩ := restrict hb fun b => decide (b ≠ x)
  have Gk : ∀ b, b ≠ x → G.get? b = hb.get? b := fun b n => G1 b (decide_eq_true n)
  have Gx : G.get? x = none := G2 x (by simp)
  have old : ∀ {b : Addr} {o : Obj}, ha.get? b = some o → b ≠ x := fun e => Nat.ne_of_lt (Nat.lt_of_lt_of_le (Heap.lt_size e) new)
  have at1 : ∀ {b : Addr}, b ≠ x → Ha b = none → upd Ha x (exo x C none) b = none := fun n e => (upd_ne n).trans e
  have dn : ∀ {b : Addr}, b ≠ x → del Hb x b = Hb b := fun n => del_ne n
  have U' : Un (frs X.stack) [] Ha (del Hb x) ha G := by
    constructor
    case keep => exact fun b o e n f x => (Gk b (old e)).trans (U.keep b o (kept b o e) (at1 (old e) n) f x)
    case slot => exact fun b o e n f x => (U.slot b o (kept b o e) (at1 (old e) n) f x).imp fun _ z => (Gk b (old e)).trans z
    case free => exact fun b o e n x => (dn (old e)).trans (U.free b o (kept b o e) (at1 (old e) n) x)
    case there => exact fun b o e x => (U.there b o (kept b o e) x).imp fun _ z => (Gk b (old e)).trans z
    case tups => exact fun b xs e => (dn (ne_of_none e Hx)).trans (U.tups b xs ((upd_ne (ne_of_none e Hx)).trans e))
    case frzs => exact fun b o v e => (dn (ne_of_none e Hx)).trans (U.frzs b o v ((upd_ne (ne_of_none e Hx)).trans e))
    case tbls => exact fun b ps e => (U.tbls b ps ((upd_ne (ne_of_none e Hx)).trans e)).imp fun _ z => (dn (ne_of_none e Hx)).trans z
  have ok' : HOk X.prog X.w (del Hb x) G := by
    intro b o e
    have n : b ≠ x := fun z => by rw [z, del_same] at e; cases e
    have nx : ∀ {c : Addr}, Hb c = some (.own b) → c ≠ x := fun e => at_ne ex e exo_own
    refine (ok b o (by rwa [dn n] at e)).stay (fun c v hc y => ?_) (fun c e => (dn (nx e)).trans e) (fun c xs e => (dn (at_ne ex e exo_tup)).trans e)
    have nc : c ≠ x := hc.elim (fun z => z ▸ n) nx
    exact (Gk c nc).trans y
  have J' : Inv X pl σ (del Hb x) ⟨G, gb, db, tb, osb⟩ := J.call' (ch := []) os U' ok' bare (fun b z => absurd z (by simp))
  refine ⟨x, _, _, ⟨G, gb, db, tb, osb⟩, _, .ref C, none, rfl, J', fun b o e => ?_, Gx, obj, ⟨rfl, rfl, fun vs hv => ?_⟩, rfl, rfl, del_same, rfl, bare, rs, q⟩
  · have n : b ≠ x := fun z => by rw [z, Gx] at e; cases e
    exact (Gk b n).symm.trans e
  · cases hv
    rfl
/-- C(), C's own __init__ keeping sp and storing nothing -/
def tMkN (C : Addr) (sp : Sp) : L2.St → Hp → XK → Prop := fun σ H Q => ∀ a, H a = none → sp [.ref a] (upd H a (exo a C none)) (fun v H2 => v = .non ∧ H2 a = some (exo a C none) ∧ Q (.ref C) none (del H2 a)) (fun _ _ _ => False)
section
variable {X : Cx} {p pos : Pos} {x : Str} {C fI : Addr} {k : Nat} {fd : FuncData} {ps : List Str} {sp : Sp} {e : Expr} {es : List Expr} {ta : TA}
/-- the call of a class by its values -/
theorem make_run {pl : List (Addr × Obj)} {σ : L2.St} {H : Hp} {s : Shared} {us : List Value} {vs : List V} {Q : Addr → VK} {R : Value → Shared → Prop} (T : OexC X.K C) (iC : PySem.W.findIn X.K (.ref C) "__init__" = some (some (.ref fI))) (tI : PySem.W.typeIn X.K (.ref fI) = some (.type "function"))
    (Fi : FnOk X.prog X.w X.K X.mg X.base CX0 k fI fd ps sp) (room : Room (k + 1) X.A) (bi : Binds X.K fd ps []) (J : Inv X pl σ H s) (rv : Vals vs us) (few : vs.length ≤ 1000)
    (want : ∀ x0, H x0 = none → sp (.ref x0 :: vs) (upd H x0 (exo x0 C none)) (Q x0) (fun _ _ _ => False))
    (back : ∀ (x0 : Addr) (hm : Heap) (v : V) (u : Value) (H2 : Hp) (s2 : Shared), s.heap.objs.size ≤ x0 → (∀ b o, s.heap.get? b = some o → hm.get? b = some o) → s2.os = s.os → AllBare s2.gens → Un (frs X.stack) [] (upd H x0 (exo x0 C none)) H2 hm s2.heap →
      HOk X.prog X.w H2 s2.heap → RelV v u → H x0 = none → sp (.ref x0 :: vs) (upd H x0 (exo x0 C none)) (Q x0) (fun _ _ _ => False) → Q x0 v H2 → u = .none ∧ R (.ref x0) s2) : wpAny (model X.prog X.w) X.A (call (.ref C) us) R X.xe s := by
  obtain ⟨nm, qn, N, bs, mro, sn, sub, ab, col, dd, k0, k1, k2, k3, k5, cls, bmro⟩ := T.cls
  obtain ⟨h0, g0, d0, t0, o0⟩ := s
  have size : h0.objs.size ≤ h0.objs.size + 1 := Nat.le_succ _
  have fresh : H (h0.objs.size + 1) = none := J.hok.fresh size
  have asked := want _ fresh
  have keep2 : ∀ b o, h0.get? b = some o → ((h0.push (PySem.W.kdv_tup us)).push (PySem.HandSPX.excO C h0.objs.size)).get? b = some o := fun b o e => Heap.get?_push_of_some _ (Heap.get?_push_of_some _ e)
  have there : ((h0.push (PySem.W.kdv_tup us)).push (PySem.HandSPX.excO C h0.objs.size)).get? (h0.objs.size + 1) = some (PySem.HandSPX.excO C h0.objs.size) := by heap_get
  have J2 : Inv X pl σ (upd H (h0.objs.size + 1) (exo (h0.objs.size + 1) C none)) ⟨(h0.push (PySem.W.kdv_tup us)).push (PySem.HandSPX.excO C h0.objs.size), g0, d0, t0, o0⟩ :=
    J.laid (t' := t0) (a := h0.objs.size + 1) (o := exo (h0.objs.size + 1) C none) (h' := (h0.push (PySem.W.kdv_tup us)).push (PySem.HandSPX.excO C h0.objs.size)) keep2 size (exo_ok there)
  have rv2 : Vals (V.ref (h0.objs.size + 1) :: vs) (Value.ref (h0.objs.size + 1) :: us) := .cons rfl rv
  have len : (Value.ref (h0.objs.size + 1) :: us).length = ps.length := rv2.length.symm.trans (Fi.len _ _ _ _ asked)
  have bnd := bi ⟨(h0.push (PySem.W.kdv_tup us)).push (PySem.HandSPX.excO C h0.objs.size), g0, d0, t0, o0⟩ (Value.ref (h0.objs.size + 1) :: us) J2.kIn (by rw [List.append_nil]; exact len)
  rw [List.append_nil] at bnd
  have line : us.length ≤ sizeLine := by
    have e := Paired.length rv
    have l := sizeLine_eq
    omega
  have body := Fi.run _ X.stack _ _ ⟨Value.ref (h0.objs.size + 1) :: us, []⟩ _ _ _ (fun _ _ _ => False) (room.make C us []) (J2.env0.make C us []) bnd rv2 asked
  refine wpAny_call (PySem.HandSPX.call_own F.excBase_ValueError (fun Y => PySem.HandSPX.refsVE_contains Y mro bmro) (J.kIn _ _ cls) (PySem.W.looks_findIn J.kIn iC) (fun self => PySem.W.bind_fn J.kIn self tI) line (codeAny_mono body fun res s2 out => ?_))
  cases res with
  | error er => exact out.elim
  | ok fl =>
    cases fl with
    | ret u =>
      obtain ⟨v, H2, q1, q2, q3, q4, q5, q6⟩ := out
      exact back _ _ v u H2 s2 size keep2 q1 q2 q3 q4 q5 fresh asked q6
    | next => exact out.elim
    | brk => exact out.elim
    | cont => exact out.elim
/-- what C(..) leaves -/
def madeK (C : Addr) (Q : XK) : Addr → VK := fun a v H2 => v = .non ∧ H2 a = some (exo a C none) ∧ Q (.ref C) none (del H2 a)
def madeF (C : Addr) (H1 : Hp) (Q : XK) : Addr → VK := fun a v H2 => v = .non ∧ ∃ (d : Addr) (fs : List (Str × V)), H2 a = some (exo a C (some d)) ∧ H2 d = some (exd d fs) ∧ H1 d = none ∧ Q (.ref C) (some d) (upd (del H2 a) d (.xd fs))
theorem pmk_oexN (T : OexC X.K C) (iC : PySem.W.findIn X.K (.ref C) "__init__" = some (some (.ref fI))) (tI : PySem.W.typeIn X.K (.ref fI) = some (.type "function"))
    (Fi : FnOk X.prog X.w X.K X.mg X.base CX0 k fI fd ps sp) (room : Room (k + 1) X.A) (bi : Binds X.K fd ps []) (hg : Gl X x) (hm : X.mg x = some (.ref C)) (nodbg : (x == ("__debug__" : Str)) = false := by decide) :
    L2N.PMk X (.Call (.Name x p) [] [] pos) (tMkN C sp) := by
  intro pl s σ H Q J want
  refine wpAny_Call_Name_kw (ld_glob J hg hm (PySem.W.callWith_K0 J.kIn T.kC ?_) nodbg)
  refine make_run (us := []) (vs := []) (Q := madeK C Q) T iC tI Fi room bi J .nil (Nat.zero_le _) (fun x0 n => want x0 n) fun x0 hm v u H2 s2 q1 q2 q3 q4 q5 q6 q7 q8 _ q9 => ?_
  obtain ⟨rfl, qa, qb⟩ := q9
  obtain ⟨h2, g2, d2, t2, o2⟩ := s2
  obtain ⟨h1, g1, d1, t1, o1⟩ := s
  exact ⟨q7, made_bare (raises_own T.exC T.tyC) J q1 q2 q5 q6 q3 q4 qa qb⟩
/-- C(e, ..), C's own __init__ storing fields -/
def tMkA (C : Addr) (sp : Sp) (ta : TA) : L2.St → Hp → XK → Prop := fun σ H Q => ta σ H fun vs H1 => vs.length ≤ 1000 ∧ ∀ a, H1 a = none → sp (.ref a :: vs) (upd H1 a (exo a C none)) (madeF C H1 Q a) (fun _ _ _ => False)
theorem pmk_oexA (T : OexC X.K C) (iC : PySem.W.findIn X.K (.ref C) "__init__" = some (some (.ref fI))) (tI : PySem.W.typeIn X.K (.ref fI) = some (.type "function"))
    (Fi : FnOk X.prog X.w X.K X.mg X.base CX0 k fI fd ps sp) (room : Room (k + 1) X.A) (bi : Binds X.K fd ps []) (hg : Gl X x) (hm : X.mg x = some (.ref C)) (ha : PA X (e :: es) ta) (nodbg : (x == ("__debug__" : Str)) = false := by decide)
    (st : starEach (e :: es) X.env = (false, eval e X.env) :: starEach es X.env := by rfl) (pn : (backTo pos (starEach es X.env)).any (·.1) = false := by rfl) :
    L2N.PMk X (.Call (.Name x p) (e :: es) [] pos) (tMkA C sp ta) := by
  intro pl s0 σ H Q J0 want
  refine wpAny_Call_Name_kw (ld_glob J0 hg hm ?_ nodbg)
  refine PySem.W.callWith_K (h₀ := X.base) J0.ok.mod.kin T.kC (thn (ha.run pos pl s0 σ H _ J0 want) fun us s got => ?_) st pn
  obtain ⟨vs, H1, J, rv, few, want⟩ := got
  refine ⟨J.kIn, ?_⟩
  refine make_run (us := us) (vs := vs) (Q := madeF C H1 Q) T iC tI Fi room bi J rv few want fun x0 hm v u H2 s2 q1 q2 q3 q4 q5 q6 q7 q8 _ q9 => ?_
  obtain ⟨rfl, d, fs, ea, ed, nd, w⟩ := q9
  obtain ⟨h2, g2, d2, t2, o2⟩ := s2
  obtain ⟨h1, g1, d1, t1, o1⟩ := s
  obtain ⟨tp, G, J', kG, Gx, obj, nx⟩ := mk_end0 (d2 := d2) (t2 := t2) J q1 q2 q5 q6 q3 q4 ea ed nd
  refine ⟨q7, x0, _, _, ⟨G, g2, d2, t2, o2⟩, _, .ref C, some d, rfl, J', kG, Gx, obj, ⟨rfl, rfl, fun vs hv => ?_⟩, rfl, rfl, nx, rfl, q4, raises_own T.exC T.tyC, w⟩
  cases hv
  rfl
/-- C() and C(e, ..), C an own exception class without own __init__ -/
theorem pmk_own0 {bm : List Value} {B newId initId : String} (F : ExcBaseFacts B newId initId bm) (q : PySem.W.excIn X.K C bm newId = true) (gC : X.mg x = some (.ref C)) (kC : PySem.W.keepIn X.K (.ref C) = true) (r : Raises X (.ref C)) (hg : Gl X x)
    (nodbg : (x == ("__debug__" : Str)) = false := by decide) : L2N.PMk X (.Call (.Name x p) [] [] pos) (fun _ H Q => Q (.ref C) none H) := by
  intro pl s σ H Q J want
  obtain ⟨mro, N, nm, qn, bs, hdct, sn, sub, ab, col, dd, k0, k1, k2, k3, k5, mN, hC, hN, hni, T⟩ := exc_obj J.kIn q
  have mk : wpAny (model X.prog X.w) X.A (call (.ref C) []) _ X.xe s := wpAny_call_exc_subT F T hC hN hni (fun h' x0 m => L2N.mk_of J m r want (J.hok.gone m.new)) (Nat.zero_le _)
  exact wpAny_Call_Name_kw (ld_glob J hg gC (PySem.W.callWith_K0 J.kIn kC mk) nodbg)
theorem pmk_ownN {bm : List Value} {B newId initId : String} (F : ExcBaseFacts B newId initId bm) (q : PySem.W.excIn X.K C bm newId = true) (gC : X.mg x = some (.ref C)) (kC : PySem.W.keepIn X.K (.ref C) = true) (r : Raises X (.ref C)) (hg : Gl X x) (ha : PA X (e :: es) ta)
    (nodbg : (x == ("__debug__" : Str)) = false := by decide) (st : starEach (e :: es) X.env = (false, eval e X.env) :: starEach es X.env := by rfl) (pn : (backTo pos (starEach es X.env)).any (·.1) = false := by rfl) :
    L2N.PMk X (.Call (.Name x p) (e :: es) [] pos) (fun σ H Q => ta σ H fun vs H1 => vs.length ≤ sizeLine ∧ Q (.ref C) none H1) := by
  intro pl s0 σ H Q J0 want
  refine wpAny_Call_Name_kw (ld_glob J0 hg gC ?_ nodbg)
  refine PySem.W.callWith_K (h₀ := X.base) J0.ok.mod.kin kC (thn (ha.run pos pl s0 σ H _ J0 want) fun us s got => ?_) st pn
  obtain ⟨vs, H1, J, rv, few, want⟩ := got
  obtain ⟨mro, N, nm, qn, bs, hdct, sn, sub, ab, col, dd, k0, k1, k2, k3, k5, mN, hC, hN, hni, T⟩ := exc_obj J.kIn q
  exact ⟨J.kIn, wpAny_call_exc_subT F T hC hN hni (fun h' x0 m => L2N.mk_of J m r want (J.hok.gone m.new)) (by show us.length ≤ _; exact rv.length ▸ few)⟩
end
/-! ### defs that are handed the caught exception -/
structure FnE (P : Program) (w : World) (K : PySem.W.Frag) (mg : Str → Option Value) (base : Heap) (k : Nat) (f : Addr) (fd : FuncData) (ps : List Str) (sp : Addr → Value → Option Addr → Sp) : Prop where
  len : ∀ a cls d vs H Q E, sp a cls d vs H Q E → vs.length = ps.length
  run : ∀ (A : Around) (outer : List Env) (s : Shared) (H : Hp) (args : Args) (us : List Value) (vs : List V) (Q : VK) (E : XK) (a : Addr) (oe : Obj) (cls : Value) (d : Option Addr), L2H.RoomH k A → A.handled = some (.ref a) → L2H.PinOk outer H s (a, oe) → Zc cls d oe → (∃ fv, oe.data = .fields fv) →
    Env0 P w K mg base A outer s H → BindsTo s fd args (ps.zip us) → Vals vs us → sp a cls d vs H Q E → codeAny (model P w) A (.call (.ref f) args) (CR CX0 outer P w H s Q E) s
section
variable {P : Program} {w : World} {K : PySem.W.Frag} {mg : Str → Option Value} {base : Heap}
/-- the context of such a def's body -/
abbrev cxE (P : Program) (w : World) (K : PySem.W.Frag) (mg : Str → Option Value) (base : Heap) (N : List Str) (qual : Str) (scope : Scope) (f : Addr) (cd : Value) (A : Around) (outer : List Env) (s : Shared) (H : Hp) (E : XK) (a : Addr) (oe : Obj) : Cx :=
  (cxOf CX0 P w K mg base N qual scope f cd A outer s H E).suite a [(a, oe)]
theorem fn_ofE {k : Nat} {f : Addr} {x qual : Str} {dst : Stmt} {fd : FuncData} {N ps : List Str} {sp : Addr → Value → Option Addr → Sp} (F : Fun K x qual dst f fd) (S : FnScope N ps (defScope dst))
    (len : ∀ a cls d vs H Q E, sp a cls d vs H Q E → vs.length = ps.length)
    (hbody : ∀ (cdv : Value) (A : Around) (outer : List Env) (s : Shared) (H : Hp) (vs : List V) (Q : VK) (E : XK) (a : Addr) (oe : Obj) (cls : Value) (d : Option Addr), Zc cls d oe → (∃ fv, oe.data = .fields fv) → L2H.RoomH k (A.deeper (envOfC qual (defScope dst) s.heap.objs.size f cdv)) → sp a cls d vs H Q E →
      ∃ t, PSs (cxE P w K mg base N qual (defScope dst) f cdv A outer s H E a oe) (defBody dst) t ∧ t { nx := fun _ H' => Q .non H', rt := Q } (L2.start N vs) H) :
    FnE P w K mg base (k + 1) f fd ps sp := by
  obtain ⟨oc, od, kV, doc, pm, an, cdv, ct, osl, rfl, look, code⟩ := F.ex
  refine ⟨len, fun A outer s H args us vs Q E a oe cls d room hot hpin hz hf ev0 bnd r asked => ?_⟩
  have lenV := len _ _ _ _ _ _ _ asked
  have kin : K.In s.heap := ev0.mod.kin.keeps fun b o e => (ev0.bs b o e).1
  have nolim : s.heap.NoLimit := ev0.mod.nolimit.keeps fun b o e => (ev0.bs b o e).1
  have kinds : ∀ y ∈ ps.zip us, (defScope dst).names.lookup y.1 = some .local ∨ ((defScope dst).names.lookup y.1 = some .cell ∧ ((cellsFrom (s.heap.objs.size + 1) (defScope dst).names []).lookup y.1).isSome = true) := fun ⟨n, v⟩ hy =>
    (S.par n (List.of_mem_zip hy).1).elim .inl fun z => .inr ⟨z, PySem.W.cellsFrom_some _ _ _ (.inl z)⟩
  refine codeAny_call_function room.depth (kin _ _ look) rfl S.co S.gen rfl (PySem.W.codeRec_of kin code) (bnd _ _ _ _ ?_)
  refine wpAny_newFunctionEnv_cells S.kind kinds fun ev1 eqv s1 ic => ?_
  subst eqv
  refine ⟨nolim.keeps ic.toInCall.keep, codeAny_func ?_⟩
  obtain ⟨t, run, want⟩ := hbody cdv A outer s H vs Q E a oe cls d hz hf (room.deeper _) asked
  have J0 := L2H.inv_startH (CX := CX0) (E := E) (cd := cdv) (f := f) (qual := qual) (base := base) S hpin ev0 lenV r ic
  have J : Inv (cxE P w K mg base N qual (defScope dst) f cdv A outer s H E a oe) [] (L2.start N vs) H s1 :=
    ⟨⟨J0.ok.mod, J0.ok.kind, J0.ok.glob, J0.ok.blt, J0.ok.above, J0.ok.inj, J0.ok.has, J0.ok.cab, (fun z => absurd (show false = true from z) Bool.false_ne_true), J0.ok.frames, J0.ok.stk, J0.ok.exf, J0.ok.bs, J0.ok.bsz, J0.ok.noex, J0.ok.exfs, J0.ok.funs, J0.ok.frf⟩,
      J0.os, J0.bare, J0.base, J0.loc, J0.cell, J0.free, J0.freeC, J0.pin, J0.hok, J0.len⟩
  have eA : (A.deeper (envOfC qual (defScope dst) s.heap.objs.size f cdv)).mark (some (.ref a)) = A.deeper (envOfC qual (defScope dst) s.heap.objs.size f cdv) := by
    obtain ⟨hd, _, _, _, _⟩ := A
    cases hot
    rfl
  have R := run.run [] s1 (L2.start N vs) H _ J want
  have eA' : (cxE P w K mg base N qual (defScope dst) f cdv A outer s H E a oe).A = A.deeper (envOfC qual (defScope dst) s.heap.objs.size f cdv) := eA
  rw [eA'] at R
  refine wpAny_mono R (fun fl s9 out => ?_) fun e s9 out => False.elim out
  have back : ∀ {σ' : L2.St} {H' : Hp} {v : V} {u : Value}, Inv (cxE P w K mg base N qual (defScope dst) f cdv A outer s H E a oe) [] σ' H' s9 → RelV v u → Q v H' → CE outer P w H s Q u s9 :=
    fun {σ' H' v u} J rv q => ⟨v, H', J.os, J.bare, J.base, J.hok, rv, q⟩
  cases fl with
  | ret u =>
    obtain ⟨v, σ1, H1, J, rv, q⟩ := out
    exact back J rv q
  | next =>
    obtain ⟨σ', H', J, q⟩ := out
    exact back (u := Value.none) (v := V.non) J rfl q
  | brk => exact out.elim fun _ z => z.elim fun _ z => z.2.elim
  | cont => exact out.elim fun _ z => z.elim fun _ z => z.2.elim
end
section
variable {X : Cx} {k : Nat} {f : Addr} {fd : FuncData} {ps : List Str} {sp : Addr → Value → Option Addr → Sp} {x : Str} {q pos : Pos} {e : Expr} {es : List Expr} {t : TA}
/-- f(.., e, ..) where a is caught -/
theorem pe_callE {a : Addr} {oe : Obj} {cls : Value} {d : Option Addr} {pn : List (Addr × Obj)} (F : FnE X.prog X.w X.K X.mg X.base k f fd ps sp) (room : L2H.RoomH k X.A) (hz : Zc cls d oe) (hf : ∃ fv, oe.data = .fields fv) (gl : Gl X x) (mgf : X.mg x = some (.ref f))
    (kp : PySem.W.keepIn X.K (.ref f) = true) (bi : Binds X.K fd ps []) (ha : PA (X.suite a ((a, oe) :: pn)) (e :: es) t)
    (hdb : (x == ("__debug__" : Str)) = false := by decide) (he : starEach (e :: es) X.env = (false, eval e X.env) :: starEach es X.env := by rfl) (hpl : (backTo pos (starEach es X.env)).any (·.1) = false := by rfl) :
    PE (X.suite a ((a, oe) :: pn)) (.Call (.Name x q) (e :: es) [] pos) (fun σ H Q => t σ H fun vs H1 => sp a cls d vs H1 Q (fun _ _ _ => False)) := by
  refine ⟨fun pl s σ H Q J0 want => ?_⟩
  refine wpAny_Call_Name_kw (ld_glob J0 gl mgf ?_ hdb)
  refine PySem.W.callWith_K (h₀ := X.base) J0.ok.mod.kin kp (thn (ha.run pos pl s σ H _ J0 want) fun us s1 ⟨vs, H1, J, rv, q⟩ => ⟨J.kIn, ?_⟩) he hpl
  have hl : us.length = ps.length := by rw [← rv.length]; exact F.len _ _ _ _ _ _ _ q
  have bd := bi s1 us J.kIn (by rw [List.append_nil]; exact hl)
  rw [List.append_nil] at bd
  have P1 := J.pin (a, oe) (List.mem_append_left _ List.mem_cons_self)
  have hpin : L2H.PinOk X.stack H1 s1 (a, oe) := ⟨P1.1, P1.2.1, fun z => (List.mem_cons.mp (J.stkSub a z)).elim P1.2.2.1 P1.2.2.2.1, P1.2.2.2.2⟩
  refine wpAny_call (codeAny_mono (F.run (X.A.mark (some (.ref a))) X.stack s1 H1 ⟨us, []⟩ us vs Q (fun _ _ _ => False) a oe cls d ⟨room.dp, room.un⟩ rfl hpin hz hf J.env0 bd rv q) fun res s9 out => ?_)
  cases res with
  | error e => exact out.elim
  | ok fl =>
    cases fl with
    | ret u => exact J.after out
    | next => exact out.elim
    | brk => exact out.elim
    | cont => exact out.elim
/-! ### isinstance of the caught exception -/
def ExD (H : Hp) (d : Option Addr) : Prop := ∀ dd, d = some dd → ∃ fs, H dd = some (.xd fs)
theorem ExD.mono {H H' : Hp} {d : Option Addr} (x : ExD H d) (s : Same H H') : ExD H' d := fun dd e => by
  obtain ⟨fs, z⟩ := x dd e
  exact ⟨fs, s _ _ z⟩
def rIsX (K : PySem.W.Frag) (cls : Value) (a : Addr) (d : Option Addr) : List V → Hp → VK → Prop := fun xs H Q => ∃ (D : Addr) (c : V) (cv : Value) (b : Bool), cls = .ref D ∧ ExcC K D ∧ (PySem.W.clsIn K D).isSome = true ∧ xs = [.ref a, c] ∧ (∀ u, RelV c u → u = cv) ∧
  PySem.W.kitOne K (.ref D) cv = some b ∧ ExD H d ∧ Q (.bl b) H
theorem call_isX {a : Addr} {oe : Obj} {cls : Value} {d : Option Addr} {pn : List (Addr × Obj)} (hz : Zc cls d oe) (hf : ∃ vs, oe.data = .fields vs) : CallR (X.suite a ((a, oe) :: pn)) (.builtin "isinstance") (rIsX X.K cls a d) := by
  intro pl s σ H xs us Q J0 r h
  obtain ⟨D, c, cv, b, rfl, C, hcl, rfl, hcv, e, hx, q⟩ := h
  cases r with
  | cons rx rr =>
    cases rr with
    | cons rt rr =>
      cases rr
      cases rx
      obtain rfl := hcv _ rt
      have there := (J0.pin (a, oe) (List.mem_append_left _ List.mem_cons_self)).1
      obtain ⟨vs, hv⟩ := hf
      obtain ⟨od, J⟩ : ∃ od, PySem.W.InstAt s.heap a oe D od := by
        obtain ⟨oc, od0, oda, osl⟩ := oe
        obtain ⟨h1, h2⟩ := hz
        dsimp only at h1 h2 hv
        subst h1 h2 hv
        cases od0 with
        | none => exact ⟨none, there, rfl, rfl, trivial⟩
        | some dd =>
          obtain ⟨fs, ef⟩ := hx dd rfl
          obtain ⟨mA, hns, _⟩ := (show ObjOk X.prog X.w H s.heap dd (.xd fs) from J0.hok dd _ ef)
          obtain ⟨o, ho, _⟩ := lookIn_ns hns
          exact ⟨some o, there, rfl, rfl, ho⟩
      exact PySem.W.kia_one (PySem.W.kitx_exc hcl C.hg C.hk C.hs C.ha C.hn C.ht C.hm) J0.kIn J e (fun z => nomatch z) fun tk => ⟨.bl b, H, J0.kept (t' := tk) fun _ _ z => z, rfl, q⟩
/-! ### a field of the caught exception -/
def rFieldX (K : PySem.W.Frag) (a : Addr) (cls : Value) (d : Option Addr) (n : Str) (te : TE) : TE := fun σ H Q => te σ H fun x H1 => x = .ref a ∧ ∃ (C dd : Addr) (fs : List (Str × V)) (v : V), cls = .ref C ∧ d = some dd ∧ XfC K C ∧ PySem.W.findIn K (.ref C) n = some none ∧ H1 dd = some (.xd fs) ∧ fs.lookup n = some v ∧ Q v H1
theorem pe_fieldX {a : Addr} {oe : Obj} {cls : Value} {d : Option Addr} {pn : List (Addr × Obj)} {ex : Expr} {te : TE} {at1 : Pos} {n : Str} (hz : Zc cls d oe) (hf : ∃ vs, oe.data = .fields vs) (he : PE (X.suite a ((a, oe) :: pn)) ex te)
    (plain : attributeBase ex n X.env (eval ex X.env) = eval ex X.env := by rfl) : PE (X.suite a ((a, oe) :: pn)) (.Attribute ex n at1) (rFieldX X.K a cls d n te) := by
  refine ⟨fun pl s0 σ H Q J0 want => attr_of plain (thn (he.run pl s0 σ H _ J0 want) fun u s got => ?_)⟩
  obtain ⟨x, H1, J, rx, rfl, C, dd, fs, v, rfl, rfl, T, no, at_d, l, q⟩ := got
  obtain rfl : u = Value.ref a := rx
  obtain ⟨vs, hd⟩ := hf
  obtain ⟨mA, ns, rel⟩ := (show ObjOk X.prog X.w H1 s.heap dd (.xd fs) from J.hok dd _ at_d)
  obtain ⟨od, ho, lk⟩ := lookIn_ns ns
  obtain ⟨u, eu, ru⟩ := RelO.some_of (v := v) (o := mA n) (l ▸ rel n)
  have there := (J.pin (a, oe) (List.mem_append_left _ List.mem_cons_self)).1
  have inst : PySem.W.InstAt s.heap a oe C (some od) := ⟨there, hz.1, by unfold PySem.W.notCls; rw [hd] <;> rfl, by rw [hz.2]; exact ho⟩
  exact HandSPX.exc_get J.kIn inst T.ga T.gg T.exC (PySem.W.findObj_own T.hdC no rfl (by rw [lk, eu])) (handed_of ru) ⟨v, H1, J.tok _, ru, q⟩
end
end Lw

/-! a list comprehension within an except suite -/
namespace Lw
open PySem PySem.Spec PySem.W PySem.Calls PyProof.Rows L2 L2H
abbrev PinAt (X : Cx) (H : Hp) (s : Shared) (p : Addr × Obj) : Prop := s.heap.get? p.1 = some p.2 ∧ H p.1 = none ∧ p.1 ≠ X.env.locals ∧ p.1 ∉ X.fs ∧ ∀ v, p.2.data ≠ .cell v
/-- other pins -/
theorem repin {X : Cx} {pn pl : List (Addr × Obj)} {σ : L2.St} {H : Hp} {s : Shared} (J : Inv X pl σ H s) (np : ∀ p ∈ pn ++ pl, PinAt X H s p) : Inv { X with pn := pn } pl σ H s := by
  obtain ⟨k1, k2, k3, k4, k5, k6, k7, k8, k9, k10, k11, k12, k13, k14, k15, k16, k17, k18⟩ := J.ok
  exact ⟨⟨k1, k2, k3, k4, k5, k6, k7, k8, k9, k10, k11, k12, k13, k14, k15, k16, k17, k18⟩, J.os, J.bare, J.base, J.loc, J.cell, J.free, J.freeC, np, J.hok, J.len⟩
theorem pe_lcH {X : Cx} {elt tg iter : Expr} {scope : Scope} {own : List (Str × Nat)} {pos : Pos} {wi : TI} {g : TG} {te : TE} (hot : HotC X) (nd : X.N.Nodup) (src : PIH X tg iter wi) (ok : BlkOk X.N X.env.scope scope own)
    (rg : ∀ (s : Shared) (H : Hp) (C : Addr) (cl : List (Str × Addr)) (fp : List Addr), PG (X.blk s H scope (compEnvC scope cl C X.env) fp) tg g)
    (re : ∀ (s : Shared) (H : Hp) (C : Addr) (cl : List (Str × Addr)) (fp : List Addr), PE (X.blk s H scope (compEnvC scope cl C X.env) fp) elt te) (plain : ∀ x, foldedSetIterable iter X.env x = pure x := by intro _; rfl) :
    PE X (.ListComp elt [⟨tg, iter, [], 0⟩] scope pos) (tLc wi g tYes te (own.map (·.2))) := by
  refine ⟨fun pl s0 σ H Q J0 want => ?_⟩
  rw [eval_ListComp]
  obtain ⟨pq, ⟨hA, fv, dfv, ctx⟩, inPn⟩ := hot
  have cellsFree : ∀ y ∈ scope.names, y.2 = .free → ∃ c, X.env.cells.lookup y.1 = some c := by
    intro y hy e
    exact (ok.free y hy e).elim (fun k => J0.ok.has _ (.inl k)) (fun k => J0.ok.has _ (.inr k))
  refine wpAny_comprehension_free (use := none) rfl plain (closure_ok cellsFree) ok.kind (fun y hy e => by rw [ok.uniq y hy, e])
    (thn (src.run pl s0 σ H _ J0 want) fun xv s1 got => thn got fun itv s2 got2 => ?_)
  obtain ⟨it, fp, tn, It1, H2, rfl, J2, T, tn2, fo2, rest⟩ := got2
  refine wpAny_newObj_type (newEnv_comp ?_) (by show 0 ≤ sizeLine; decide)
  generalize eL : s2.heap.objs.size = L
  have freeL : H2 L = none := J2.hok.fresh (Nat.le_of_eq eL)
  obtain ⟨W, ⟨m0, w0⟩, turn⟩ := rest L freeL
  generalize e3 : ({ s2 with heap := s2.heap.push { cls := .type "list", data := .seq ([] : List Value).toArray } } : Shared) = s3
  have hp3 : s3.heap = s2.heap.push { cls := .type "list", data := .seq ([] : List Value).toArray } := by rw [← e3]
  have J3 : Inv X pl σ (upd H2 L (.lst [])) s3 := by
    rw [← e3]
    refine J2.laid (t' := s2.toks) (fun b o q => Heap.get?_push_of_some _ q) (Nat.le_of_eq eL) ⟨Nat.zero_le _, [], 0, .nil, ?_⟩
    rw [← eL]
    exact Heap.get?_push_size _ rfl
  have fo3 : ∀ b ∈ fp, FpOk X pl (upd H2 L (.lst [])) b ∧ b < s3.heap.objs.size := by
    intro b hb
    obtain ⟨o, eo, _⟩ := T.obj _ _ tn2 b hb
    have lt := Heap.lt_size eo
    refine ⟨⟨?_, (fo2 b hb).2⟩, by rw [hp3, Heap.size_push]; exact Nat.lt_succ_of_lt lt⟩
    rw [upd_ne (by rw [← eL]; exact Nat.ne_of_lt lt)]
    exact (fo2 b hb).1
  have tn3 : tn 0 s3.heap := T.keep _ _ _ tn2 fun b _ o eo => by rw [hp3]; exact Heap.get?_push_of_some _ eo
  have J4 := block_start J3 ok nd fo3
  have ug := rg s3 (upd H2 L (.lst [])) s3.heap.objs.size (cellsFrom (s3.heap.objs.size + 1) scope.names (cloFrom X.env.cells scope.names [])) fp
  have ue := re s3 (upd H2 L (.lst [])) s3.heap.objs.size (cellsFrom (s3.heap.objs.size + 1) scope.names (cloFrom X.env.cells scope.names [])) fp
  show codeAny _ _ (.compStart (.ListComp elt [⟨tg, iter, [], 0⟩] scope pos) 0 (.ref it) (.ref L) (compEnvC scope (cellsFrom (s3.heap.objs.size + 1) scope.names (cloFrom X.env.cells scope.names [])) s3.heap.objs.size X.env)) (compPost (model X.prog X.w) X.A X.xe none (EP X pl σ Q) (.ref L) s3.heap.objs.size) { s3 with heap := pushCells (s3.heap.push { cls := .type "dict", data := .dict #[] }) scope.names }
  have none3 : ∀ b ∈ fp, (upd H2 L (.lst [])) b = none := fun b hb => (fo3 b hb).1.1
  generalize ece : compEnvC scope (cellsFrom (s3.heap.objs.size + 1) scope.names (cloFrom X.env.cells scope.names [])) s3.heap.objs.size X.env = ce at J4 ug ue ⊢
  have locC : ce.locals = s3.heap.objs.size := by subst ece; rfl
  generalize eH3 : upd H2 L (.lst []) = H3 at J3 J4 ug ue w0 none3 fo3
  generalize e4 : ({ s3 with heap := pushCells (s3.heap.push { cls := .type "dict", data := .dict #[] }) scope.names } : Shared) = s4 at J4 ⊢
  have tn4 : tn 0 s4.heap := T.keep _ _ _ tn3 fun b _ o eo => by rw [← e4]; exact pushCells_keeps _ _ _ _ (Heap.get?_push_of_some _ eo)
  -- the exception that is handled stands within the block, too
  have P3 := J3.pin pq (List.mem_append_left _ inPn)
  have nex : pq.1 ∉ fp := fun hb => (fo3 pq.1 hb).1.2.2.2.2.2 pq (List.mem_append_left _ inPn) rfl
  have nstk : pq.1 ∉ frs X.stack := fun hm => (List.mem_cons.mp (J3.stkSub _ hm)).elim P3.2.2.1 P3.2.2.2.1
  have within : ∀ {σ' : L2.St} {H' : Hp} {s' : Shared}, Inv (X.blk s3 H3 scope ce fp) [] σ' H' s' → Inv { X.blk s3 H3 scope ce fp with pn := [pq] } [] σ' H' s' := by
    intro σ' H' s' J
    refine repin J fun p hp => ?_
    obtain rfl : p = pq := by simpa using hp
    refine ⟨J.base.keep _ _ P3.1 P3.2.1 nstk nex, J.base.free _ _ P3.1 P3.2.1 nex, ?_, nstk, P3.2.2.2.2⟩
    show p.1 ≠ ce.locals
    rw [locC]
    exact Nat.ne_of_lt (Heap.lt_size P3.1)
  have without : ∀ {σ' : L2.St} {H' : Hp} {s' : Shared}, Inv { X.blk s3 H3 scope ce fp with pn := [pq] } [] σ' H' s' → Inv (X.blk s3 H3 scope ce fp) [] σ' H' s' := by
    intro σ' H' s' J
    exact repin (X := { X.blk s3 H3 scope ce fp with pn := [pq] }) (pn := []) J fun p hp => absurd hp (by simp)
  have hotB : HotC { X.blk s3 H3 scope ce fp with pn := [pq] } := ⟨pq, ⟨hA, fv, dfv, ctx⟩, by simp⟩
  have okB : ∀ {σ' : L2.St} {H' : Hp} {s' : Shared}, Inv (X.blk s3 H3 scope ce fp) [] σ' H' s' → (∀ b ∈ fp, H' b = none) → ∀ b ∈ fp, FpOk (X.blk s3 H3 scope ce fp) [] H' b := by
    intro σ' H' s' J fr b hb
    exact ⟨fr b hb, (J.ok.exf b hb).1, J.ok.exfs b hb, .inl hb, fun x c e => (J.ok.exf b hb).2 x c e, fun p hp => absurd (show p ∈ ([] : List (Addr × Obj)) ++ [] from hp) (by simp)⟩
  have okP : ∀ {H' : Hp}, (∀ b ∈ fp, FpOk (X.blk s3 H3 scope ce fp) [] H' b) → ∀ b ∈ fp, FpOk { X.blk s3 H3 scope ce fp with pn := [pq] } [] H' b := by
    intro H' fo b hb
    obtain ⟨q1, q2, q3, q4, q5, _⟩ := fo b hb
    refine ⟨q1, q2, q3, q4, q5, fun p hp => ?_⟩
    obtain rfl : p = pq := by simpa using hp
    exact fun z => nex (z ▸ hb)
  have loop : codeAny (model X.prog X.w) X.A (.compLoop (.ListComp elt [⟨tg, iter, [], 0⟩] scope pos) 0 (.ref it) (.ref L) ce) (compPost (model X.prog X.w) X.A X.xe none (EP X pl σ Q) (.ref L) s3.heap.objs.size) s4 := by
    refine compLoop_any (fun n s' => ∃ i H', Inv (X.blk s3 H3 scope ce fp) [] (wipe σ (own.map (·.2))) H' s' ∧ tn i s'.heap ∧ (∀ b ∈ fp, H' b = none) ∧ W i n H') ?_ m0 ⟨0, H3, J4, tn4, none3, w0⟩
    rintro n s5 ⟨i, H5, J5, tn5, fr5, w5⟩
    rcases turn i n H5 w5 with ⟨stop, qq⟩ | ⟨go, Nx, hNx, step⟩
    · refine thnF (T.done { X.blk s3 H3 scope ce fp with pn := [pq] } rfl rfl rfl hotB i [] s5 _ H5 (fun _ _ => False) (within J5) (okP (okB J5 fr5)) tn5 stop) fun r s6 got6 => ?_
      obtain ⟨rfl, J6'⟩ := got6
      have J6 := without J6'
      have J7 : Inv X pl σ H5 s6 := J3.call' (ch := fp) J6.os J6.base J6.hok J6.bare fun b hb => ⟨(fo3 b hb).1.2.2.2.1, (fo3 b hb).1.2.1, (fo3 b hb).1.2.2.2.2.1, (fo3 b hb).1.2.2.2.2.2⟩
      have frC : H5 s3.heap.objs.size = none := locC ▸ (show H5 ce.locals = none from J6.free)
      obtain ⟨m, nsC, _⟩ := J6.loc
      have nsC : s6.heap.Ns s3.heap.objs.size m := locC ▸ (show s6.heap.Ns ce.locals m from nsC)
      obtain ⟨f0, f1, f2, f3, f4, f5⟩ := J3.fpOk (Nat.le_refl _) frC
      exact ⟨m, nsC, fun h'' sb => ⟨.ref L, H5, J7.turned (t' := s6.toks) (fun b o hb e => (sb.2 b hb).trans e) f0 f1 f3 f4 f5, rfl, qq⟩⟩
    · refine thnF (T.item { X.blk s3 H3 scope ce fp with pn := [pq] } rfl rfl rfl hotB i [] s5 _ H5 (fun _ _ => False) (within J5) (okP (okB J5 fr5)) tn5 go) fun r s6 got6 => ?_
      obtain ⟨u, rfl, got6⟩ := got6
      refine thnF got6 fun _ s7 got7 => ?_
      obtain ⟨x, H7, J7', r7, y7, tn7, fr7⟩ := got7
      have J7 := without J7'
      have J7p := J7.pinned (okB J7 fr7) (T.obj _ _ tn7)
      refine thnF (ug.run _ s7 _ H7 x u _ J7p r7 (step x H7 y7)) fun _ s8 got8 => ?_
      obtain ⟨σ8, H8, J8, ew, want8⟩ := got8
      refine thnF ((pts_nil (X := X.blk s3 H3 scope ce fp)).run _ s8 σ8 H8 _ J8 want8) fun b s9 got9 => ?_
      obtain ⟨H9, J9, want9⟩ := got9
      have fin : ∀ {s' : Shared} {H' : Hp}, Inv (X.blk s3 H3 scope ce fp) ([] ++ pinsAt fp s7.heap) σ8 H' s' → Nx H' →
          ∃ m, m < n ∧ ∃ i H', Inv (X.blk s3 H3 scope ce fp) [] (wipe σ (own.map (·.2))) H' s' ∧ tn i s'.heap ∧ (∀ b ∈ fp, H' b = none) ∧ W i m H' := by
        intro s' H' J11 nx
        obtain ⟨m', lt, w'⟩ := hNx _ nx
        have pinned : ∀ b ∈ fp, ∀ o, s7.heap.get? b = some o → s'.heap.get? b = some o ∧ H' b = none := by
          intro b hb o eo
          obtain ⟨z1, z2, _⟩ := J11.pin (b, o) (List.mem_append_right _ (List.mem_append_right _ (mem_pinsAt hb eo)))
          exact ⟨z1, z2⟩
        have el : (wipe σ (own.map (·.2))).length = σ8.length := by rw [← ew, wipe_length]
        refine ⟨m', lt, i + 1, _, (J11.unpinned (pins := [])).weak el (fun j v ev => ?_), T.keep _ _ _ tn7 fun b hb o eo => (pinned b hb o eo).1, fun b hb => ?_, w'⟩
        · rw [← ew] at ev
          exact (wipe_some ev).1
        · obtain ⟨o, eo, _⟩ := T.obj _ _ tn7 b hb
          exact (pinned b hb o eo).2
      cases b with
      | false => exact fin J9 want9
      | true =>
        simp only [if_true] at want9 ⊢
        refine thnF (ue.run _ s9 σ8 H9 _ J9 want9) fun z s10 got10 => ?_
        obtain ⟨yv, H10, J10, r10, acc, eL10, lt10, nx⟩ := got10
        exact app_ok (X := X.blk s3 H3 scope ce fp) J10 eL10 lt10 r10 fun s11 J11 => fin J11 nx
  exact codeAny_compStart_list loop (T.self X.A 0 _ _ _ tn4 loop)
end Lw

namespace Lw
open PySem PySem.Spec PyProof.Rows L2
def topS (i : Nat) : Stmt := PySem.Challenge.pw_endchecks_k10_errors.main.body.getD i (.Pass ⟨0, 0, 0, 0⟩)
abbrev sBag : Stmt := topS 21
abbrev sTake : Stmt := topS 22
section
variable {P : Program} {w : World} {K : PySem.W.Frag} {mg : Str → Option Value} {base : Heap}
theorem scBag : FnScope ["_law_script", "_law_cell"] ["_law_script"] (defScope sBag) := ⟨rfl, rfl, rfl, by decide +kernel, rfl, by decide +kernel, by decide +kernel⟩
theorem ok_bag {f : Addr} {fd : FuncData} (F : Fun K "_law_bag" "_law_bag" sBag f fd) (mabs : mg "abs" = none) : FnOk P w K mg base CX0 1 f fd ["_law_script"] (spBag K) := by
  refine F.ok scBag (fun vs H Q E h => ?_) (fun cdv A outer s H vs Q E hr h => ?_)
  · obtain ⟨a, ns, rfl, _⟩ := h
    rfl
  obtain ⟨a, ns, rfl, hS, h63, k⟩ := h
  refine ⟨_, pss_one (ps_ret (pe_lst (pa_cons pe_int (pa_cons pe_int (pa_cons pe_int (pa_cons
    (pe_lc (own := [("_law_cell", 1)]) (g := gName 1) (tt := tYes) rfl scBag.nd (pi_list (pe_slice sl_list (pv 0) po_none (po_some pe_int))) (blkOk_by (N := ["_law_script", "_law_cell"]) (sc := defScope sBag) (by decide +kernel))
      (fun _ _ _ _ _ => pg_name (i := 1) scBag.nd rfl (Or.inl rfl)) (fun _ _ _ _ _ => pts_nil) (fun _ _ _ _ _ => pe_callB call_abs (by rfl) mabs (by decide +kernel) (pa_cons (pv 1) pa_nil))) pa_nil)))))), ?_⟩
  refine ⟨.ref a, rfl, 63, rfl, a, ns.map V.int, rfl, hS, fun p hp => ?_⟩
  have s1 : Same H (upd H p (.lst (cutV (ns.map V.int) none (some 63)))) := same_new hp _
  obtain ⟨ms, hms, hml⟩ : ∃ ms : List Int, cutV (ns.map V.int) none (some 63) = ms.map V.int ∧ ms.length ≤ 63 := cut_ints ns h63
  rw [hms] at s1 ⊢
  refine ⟨p, rfl, ⟨_, .inl (.inl upd_same)⟩, fun D nD => ?_⟩
  have nDp : p ≠ D := ne_of_none (upd_same (H := H)) nD
  refine lc_list (K := K) (a := p) (xs := ms.map V.int) (fun i H1 => Same H H1 ∧ H1 p = some (.lst (ms.map V.int)) ∧ ∃ cs : List Int, H1 D = some (.lst (cs.map V.int)) ∧ cs.length ≤ i)
    ⟨fun c o q => by rw [upd_ne (ne_of_none (s1 c o q) nD)]; exact s1 c o q, by rw [upd_ne nDp]; exact upd_same, [], upd_same, Nat.le_refl _⟩ (fun i H1 _ q => .inl (.inl q.2.1)) ?_ ?_
  · rintro i x H1 hx ⟨s2, h2, cs, h3, h4⟩
    obtain ⟨z, hz, rfl⟩ := map_get hx
    have hil : i < ms.length := (List.getElem?_eq_some_iff.mp hz).1
    refine ⟨rfl, yes_if ?_⟩
    refine ⟨.int z, rfl, z, rfl, cs.map V.int, h3, by rw [List.length_map]; exact small1000 (by omega), fun c o q => ?_, ?_, cs ++ [if z < 0 then -z else z], ?_, ?_⟩
    · have n1 : c ≠ D := ne_of_none q (s1.free nD)
      rw [upd_ne n1]
      exact s2 c o q
    · rw [upd_ne nDp]
      exact h2
    · rw [upd_same, List.map_append]
      rfl
    · rw [List.length_append]
      exact Nat.add_le_add_right h4 1
  · rintro H1 ⟨s2, h2, cs, h3, h4⟩
    rw [List.length_map] at h4
    refine ⟨small (by show 4 ≤ 1000; decide), fun b nb => ?_⟩
    refine k b D _ (s2.free nb) (s1.free nD) ⟨0, 1234567891, 0, cs, upd_same, ?_, by omega⟩ ?_
    · rw [upd_ne (ne_of_none h3 nb)]
      exact h3
    · exact s2.trans (same_new nb _)
abbrev NTake : List Str := ["_law_bag_here", "_law_many", "_law_cell", "_law_mixed", "_law_drawn", "_law_early", "_law_second"]
theorem scTake : FnScope NTake ["_law_bag_here", "_law_many"] (defScope sTake) := ⟨rfl, rfl, rfl, by decide +kernel, rfl, by decide +kernel, by decide +kernel⟩
theorem ok_take {f : Addr} {fd : FuncData} (F : Fun K "_law_take" "_law_take" sTake f fd) (mint : mg "int" = none) : FnOk P w K mg base CX0 1 f fd ["_law_bag_here", "_law_many"] spTake := by
  refine F.ok scTake (fun vs H Q E h => ?_) (fun cdv A outer s H vs Q E hr h => ?_)
  · obtain ⟨a, c, ns, rfl, _⟩ := h
    rfl
  obtain ⟨b, c, m, rfl, ⟨x, y, z, ns, hb, hc, h63⟩, m0, m1, k⟩ := h
  have ncb : c ≠ b := bag_ne hb hc
  refine ⟨_, C8.pss_cut (ps_if (pt_cmpR op_eq (pe_ix ix_list (pv 0) pe_int (fun _ _ => rfl)) pe_int (nomark _))
      (pss_cons (ps_set (i := 2) scTake.nd rfl (Or.inl rfl) (pe_ix ix_list (pe_op op_cat (pe_slice sl_list (pe_ix ix_list (pv 0) pe_int (fun _ _ => rfl)) (po_some (pe_ix ix_list (pv 0) pe_int (fun _ _ => rfl))) po_none) (pe_lst (pa_cons pe_int pa_nil))) pe_int (fun _ _ => rfl)))
      (pss_cons (ps_augS (pv 0) pe_int get_list pe_int ip_add set_list)
      (pss_cons (ps_asg (pe_op op_mul (pv 2) (pe_callTy call_int1 (by rfl) mint (by decide +kernel) (pa_cons (pe_cmpR op_ge (pv 2) (pe_op op_pow pe_int pe_int) (nomark _)) pa_nil))) (pg_sub (pv 0) pe_int set_list))
      (pss_cons (ps_set (i := 3) scTake.nd rfl (Or.inl rfl) (pe_op op_add (pe_op op_add (pe_op op_mul (pe_ix ix_list (pv 0) pe_int (fun _ _ => rfl)) pe_int) (pe_op op_mod (pe_callTy call_int1 (by rfl) mint (by decide +kernel) (pa_cons (pv 2) pa_nil)) pe_int)) (pe_op op_mul pe_int (pe_ix ix_list (pv 0) pe_int (fun _ _ => rfl)))))
      (pss_one (ps_asg (pe_op op_mod (pe_callTy call_int1 (by rfl) mint (by decide +kernel) (pa_cons (pv 3) pa_nil)) pe_int) (pg_sub (pv 0) pe_int set_list))))))) pss_nil)
    (pss_cons (ps_if (pt_cmpR op_gt (pe_ix ix_list (pv 0) pe_int (fun _ _ => rfl)) pe_int (nomark _))
      (pss_cons (ps_asg (pe_tup (pa_cons (pe_op op_mod (pe_callTy call_int1 (by rfl) mint (by decide +kernel) (pa_cons (pe_ix ix_list (pv 0) pe_int (fun _ _ => rfl)) pa_nil)) (pv 1)) (pa_cons (pe_op op_fdiv (pe_callTy call_int1 (by rfl) mint (by decide +kernel) (pa_cons (pe_ix ix_list (pv 0) pe_int (fun _ _ => rfl)) pa_nil)) (pv 1)) pa_nil)))
          (pg_tup rfl (pgs_cons (pg_name (i := 4) scTake.nd rfl (.inl rfl)) (pgs_cons (pg_sub (pv 0) pe_int set_list) pgs_nil))))
      (pss_one (ps_ret (pv 4)))) pss_nil)
    (pss_cons (ps_set (i := 5) scTake.nd rfl (Or.inl rfl) (pe_op op_mod (pe_callTy call_int1 (by rfl) mint (by decide +kernel) (pa_cons (pe_op op_mul (pe_op op_add (pe_ix ix_list (pv 0) pe_int (fun _ _ => rfl)) pe_int) pe_int) pa_nil)) pe_int))
    (pss_cons (ps_set (i := 6) scTake.nd rfl (Or.inl rfl) (pe_op op_mod (pe_callTy call_int1 (by rfl) mint (by decide +kernel) (pa_cons (pe_op op_mul (pe_op op_mod (pe_callTy call_int1 (by rfl) mint (by decide +kernel) (pa_cons (pe_op op_mul (pv 5) (pv 5)) pa_nil)) pe_int) pe_int) pa_nil)) pe_int))
    (pss_one (ps_ret (pe_op op_mod (pe_callTy call_int1 (by rfl) mint (by decide +kernel) (pa_cons (pe_op op_fdiv (pv 6) pe_int) pa_nil)) (pv 1))))))), ?_⟩
  have atL : ∀ {H' : Hp} {x y z : Int}, H' b = some (.lst [.int x, .int y, .int z, .ref c]) → SqL K H' b [.int x, .int y, .int z, .ref c] := fun e => .inl (.inl e)
  refine ⟨fun σ H' => ∃ (x' y' z' : Int) (u v w2 : Option V), σ = [some (.ref b), some (.int m), u, v, none, none, none] ∧ H' b = some (.lst [.int x', .int y', .int z', .ref c]) ∧ But b H H', ?_, ?_⟩
  · refine ⟨.ref b, rfl, b, _, 0, _, rfl, rfl, atL hb, rfl, rfl, _, rfl, ?_⟩
    refine ite2 (fun _ => ?_) (fun _ => ?_)
    · refine ⟨.ref b, rfl, b, _, 3, _, rfl, rfl, atL hb, rfl, .ref b, rfl, b, _, 2, _, rfl, rfl, atL hb, rfl, z, rfl, c, _, rfl, .inl (.inl hc), fun p hp => ?_⟩
      refine ⟨small (by show 1 ≤ 1000; decide), fun q hq => ?_⟩
      have npq : p ≠ q := ne_of_none upd_same hq
      have ncut : (cutV (ns.map V.int) (some z) none).length ≤ 63 := Nat.le_trans (cutV_length _ _ _) (by rw [List.length_map]; exact h63)
      refine ⟨p, q, _, _, rfl, rfl, by rw [upd_ne npq, upd_same], upd_same, small (by rw [List.length_singleton]; omega), fun r hr' => ?_⟩
      obtain ⟨ce, hce⟩ : ∃ ce : Int, atI (cutV (ns.map V.int) (some z) none ++ [V.int 0]) (0 : Int) = some (.int ce) := by
        obtain ⟨ms, hms⟩ := cut_ints' ns (some z) none
        rw [hms]
        cases ms with
        | nil => exact ⟨0, rfl⟩
        | cons t ts => exact ⟨t, atI_nat (j := 0) rfl⟩
      refine ⟨r, _, 0, .int ce, rfl, rfl, .inl (.inl upd_same), hce, ?_⟩
      have nb1 := ne_of_none hb hp
      have hb1 : (upd H p (HO.lst (cutV (ns.map V.int) (some z) none))) b = some (.lst [.int x, .int y, .int z, .ref c]) := by rw [upd_ne nb1]; exact hb
      have nb2 := ne_of_none hb1 hq
      have hb2 := (upd_ne (o := HO.lst [V.int 0]) nb2).trans hb1
      have nb3 := ne_of_none hb2 hr'
      have hb3 := (upd_ne (o := HO.lst (cutV (ns.map V.int) (some z) none ++ [V.int 0])) nb3).trans hb2
      have B3 : But b H (upd (upd (upd H p (HO.lst (cutV (ns.map V.int) (some z) none))) q (HO.lst [V.int 0])) r (HO.lst (cutV (ns.map V.int) (some z) none ++ [V.int 0]))) := (((But.refl b H).new hp).new hq).new hr'
      -- bag[2] += 1
      refine ⟨.ref b, rfl, b, _, 2, .int z, rfl, rfl, by decide, atL hb3, rfl, z, 1, rfl, rfl, b, _, 2, 2, rfl, rfl, hb3, rfl, ?_⟩
      have hb4 : (upd (upd (upd (upd H p (HO.lst (cutV (ns.map V.int) (some z) none))) q (HO.lst [V.int 0])) r (HO.lst (cutV (ns.map V.int) (some z) none ++ [V.int 0]))) b (HO.lst ([V.int x, V.int y, V.int z, V.ref c].set 2 (V.int (z + 1))))) b = some (.lst [.int x, .int y, .int (z + 1), .ref c]) := upd_same
      have B4 := B3.set (o := HO.lst ([V.int x, V.int y, V.int z, V.ref c].set 2 (V.int (z + 1))))
      generalize (upd (upd (upd (upd H p (HO.lst (cutV (ns.map V.int) (some z) none))) q (HO.lst [V.int 0])) r (HO.lst (cutV (ns.map V.int) (some z) none ++ [V.int 0]))) b (HO.lst ([V.int x, V.int y, V.int z, V.ref c].set 2 (V.int (z + 1))))) = H4 at hb4 B4 ⊢
      -- bag[0] = cell * int(cell >= 10 ** 18)
      have small2 : ∀ k : Bool, -(2 ^ 64 : Int) < (if k = true then 1 else 0) ∧ (if k = true then (1 : Int) else 0) < 2 ^ 64 := by intro k; cases k <;> decide
      refine ⟨.int ce, rfl, .int ce, rfl, 10, 18, rfl, rfl, ⟨by decide, by decide, by decide⟩, ce, _, rfl, rfl, .inr ⟨_, rfl, ce, _, rfl, rfl, .inr (small2 _), .ref b, rfl, b, _, 0, 0, rfl, rfl, hb4, rfl, ?_⟩⟩
      dsimp only
      generalize (ce * if decide ((10 : Int) ^ (18 : Int).toNat ≤ ce) = true then 1 else 0) = x5
      have hb5 : (upd H4 b (HO.lst ([V.int x, V.int y, V.int (z + 1), V.ref c].set 0 (V.int x5)))) b = some (.lst [.int x5, .int y, .int (z + 1), .ref c]) := upd_same
      have B5 := B4.set (o := HO.lst ([V.int x, V.int y, V.int (z + 1), V.ref c].set 0 (V.int x5)))
      generalize (upd H4 b (HO.lst ([V.int x, V.int y, V.int (z + 1), V.ref c].set 0 (V.int x5)))) = H5 at hb5 B5 ⊢
      -- mixed = ..
      refine ⟨.ref b, rfl, b, _, 1, _, rfl, rfl, atL hb5, rfl, y, 48271, rfl, rfl, .inr ⟨by decide, by decide⟩, .int ce, rfl, .inl ⟨ce, rfl, ce, 2147483647, rfl, rfl, (by show (0 : Int) < 2147483647; decide), _, _, rfl, rfl, .ref b, rfl, b, _, 2, _, rfl, rfl, atL hb5, rfl, 7919, z + 1, rfl, rfl, .inl ⟨by decide, by decide⟩, _, _, rfl, rfl, ?_⟩⟩
      dsimp only
      generalize (y * 48271 + ce % 2147483647 + 7919 * (z + 1)) = mx
      -- bag[1] = int(mixed) % 2147483647
      refine ⟨.int mx, rfl, .inl ⟨mx, rfl, mx, 2147483647, rfl, rfl, (by show (0 : Int) < 2147483647; decide), .ref b, rfl, b, _, 1, 1, rfl, rfl, hb5, rfl, ?_⟩⟩
      exact ⟨x5, mx % 2147483647, z + 1, some (.int ce), some (.int mx), none, rfl, upd_same, B5.set⟩
    · exact ⟨x, y, z, none, none, none, rfl, hb, But.refl b H⟩
  · rintro σ H1 ⟨x', y', z', u, v, w2, rfl, hb1, B1⟩
    have hc1 : H1 c = some (.lst (ns.map V.int)) := B1 c _ hc ncb
    refine ⟨.ref b, rfl, b, _, 0, _, rfl, rfl, atL hb1, rfl, x', 0, rfl, rfl, _, rfl, ?_⟩
    refine ite2 (fun _ => ?_) (fun _ => ?_)
    · refine ⟨.ref b, rfl, b, _, 0, _, rfl, rfl, atL hb1, rfl, .inl ⟨x', rfl, .int m, rfl, x', m, rfl, rfl, m0, ?_⟩⟩
      refine ⟨.ref b, rfl, b, _, 0, _, rfl, rfl, atL hb1, rfl, .inl ⟨x', rfl, .int m, rfl, x', m, rfl, rfl, ⟨m0, by omega⟩, small (by show 2 ≤ 1000; decide), fun t nt => ?_⟩⟩
      have nbt : b ≠ t := ne_of_none hb1 nt
      have hb2 := (upd_ne (o := HO.tup [V.int (x' % m), V.int (x' / m)]) nbt).trans hb1
      refine ⟨t, _, rfl, .inl (.inl upd_same), rfl, .int (x' % m), [.int (x' / m)], rfl, .int (x' / m), [], rfl, .ref b, rfl, b, _, 0, 0, rfl, rfl, hb2, rfl, ⟨rfl, ?_⟩⟩
      refine ⟨.int (x' % m), rfl, k _ _ (Int.emod_nonneg _ (by omega)) (Int.emod_lt_of_pos _ m0) ⟨x' / m, y', z', ns, upd_same, ?_, h63⟩ (B1.new nt).set⟩
      rw [upd_ne ncb, upd_ne (ne_of_none hc1 nt)]
      exact hc1
    · refine ⟨.ref b, rfl, b, _, 1, _, rfl, rfl, atL hb1, rfl, y', 1, rfl, rfl, _, 39373, rfl, rfl, .inr ⟨by decide, by decide⟩, .inl ⟨_, rfl, _, 1000000007, rfl, rfl, (by show (0 : Int) < 1000000007; decide), ?_⟩⟩
      have e1 : 0 ≤ (y' + 1) * 39373 % 1000000007 := Int.emod_nonneg _ (by decide)
      have e2 : (y' + 1) * 39373 % 1000000007 < 1000000007 := Int.emod_lt_of_pos _ (by decide)
      dsimp only
      generalize (y' + 1) * 39373 % 1000000007 = ea at e1 e2 ⊢
      refine ⟨.int ea, rfl, .int ea, rfl, ea, ea, rfl, rfl, .inl ⟨by omega, by omega⟩, .inl ⟨_, rfl, _, 998244353, rfl, rfl, (by show (0 : Int) < 998244353; decide), _, 30011, rfl, rfl, .inr ⟨by decide, by decide⟩, .inl ⟨_, rfl, _, 998244353, rfl, rfl, (by show (0 : Int) < 998244353; decide), ?_⟩⟩⟩
      dsimp only
      generalize ea * ea % 998244353 * 30011 % 998244353 = sc
      refine ⟨.int sc, rfl, sc, 7, rfl, rfl, ⟨by decide, by decide⟩, .inl ⟨_, rfl, .int m, rfl, _, m, rfl, rfl, m0, ?_⟩⟩
      exact k _ _ (Int.emod_nonneg _ (by omega)) (Int.emod_lt_of_pos _ m0) ⟨x', y', z', ns, hb1, hc1, h63⟩ B1
end
end Lw

namespace Lw
open PySem PySem.Spec PyProof.Rows L2
abbrev sOdd : Stmt := topS 23
abbrev NOdd : List Str := ["_law_bag_here", "_law_deep", "_law_k", "_law_some"]
/-- a plain value, or a thing at its place -/
def simB : V → Bool
  | .ref _ => true
  | v => flatB v
def Sim (v : V) : Prop := simB v = true
theorem Sim.eqv {K : PySem.W.Frag} {H : Hp} {v : V} (s : Sim v) (n : Nat) : EqV K H (n + 1) v v := by
  cases v with
  | ref a => exact .inr (.inl ⟨a, rfl, rfl⟩)
  | _ => first | exact .inl ⟨rfl, rfl⟩ | exact absurd s (by decide) | exact absurd (show false = true from s) (by decide)
abbrev odds (p1 p2 p3 p4 p5 : Addr) : List V := [.non, .bl true, .bl false, .int 0, .int 1, .int (-1), .int ((10 : Int) ^ (39 : Int).toNat), .str "", .str "a", .str "ab c", .str "+a", .str "mark", .ref p1, .ref p2, .ref p3, .ref p4, .ref p5]
section
variable {P : Program} {w : World} {K : PySem.W.Frag} {mg : Str → Option Value} {base : Heap}
theorem scOdd : FnScope NOdd ["_law_bag_here"] (defScope sOdd) := ⟨rfl, rfl, rfl, by decide +kernel, rfl, by decide +kernel, by decide +kernel⟩
def spOdd : Sp := fun vs H Q _ => ∃ (b c : Addr), vs = [.ref b] ∧ BagAt H b c ∧ ∀ (v : V) (H' : Hp), Sim v → BagAt H' b c → But b H H' → Q v H'
theorem ok_odd {f fT : Addr} {fd fdT : FuncData} (F : Fun K "_law_odd" "_law_odd" sOdd f fd) (G : FnOk P w K mg base CX0 1 fT fdT ["_law_bag_here", "_law_many"] spTake) (mT : mg "_law_take" = some (.ref fT)) (kT : PySem.W.keepIn K (.ref fT) = true)
    (bT : Binds K fdT ["_law_bag_here", "_law_many"] []) (mrange : mg "range" = none) : FnOk P w K mg base CX0 2 f fd ["_law_bag_here"] spOdd := by
  refine F.ok scOdd (fun vs H Q E h => ?_) (fun cdv A outer s H vs Q E hr h => ?_)
  · obtain ⟨b, c, rfl, _⟩ := h
    rfl
  obtain ⟨b, c, rfl, hb, k⟩ := h
  refine ⟨_, pss_cons (ps_set (i := 1) scOdd.nd rfl (.inl rfl) (pe_lst pa_nil))
    (pss_cons (ps_for PassesOwn.never rfl (pi_range1 (by rfl) mrange (pa_cons pe_int pa_nil)) (pg_name (i := 2) scOdd.nd rfl (.inl rfl)) (pss_one (ps_set (i := 1) scOdd.nd rfl (.inl rfl) (pe_lst (pa_cons (pv 1) pa_nil)))))
    (pss_cons (ps_set (i := 3) scOdd.nd rfl (.inl rfl) (pe_lst (pa_cons pe_non (pa_cons pe_bl (pa_cons pe_bl (pa_cons pe_int (pa_cons pe_int (pa_cons (pe_un un_neg pe_int) (pa_cons (pe_op op_pow pe_int pe_int)
      (pa_cons pe_str (pa_cons pe_str (pa_cons pe_str (pa_cons pe_str (pa_cons pe_str (pa_cons (pe_tup pa_nil) (pa_cons (pe_lst pa_nil) (pa_cons pe_dnewK (pa_cons (pe_lst (pa_cons pe_int pa_nil)) (pa_cons (pe_tup (pa_cons pe_str pa_nil)) pa_nil)))))))))))))))))))
    (pss_one (ps_ret (pe_ix ix_list (pe_op op_cat (pv 3) (pe_lst (pa_cons (pv 1) (pa_cons (pe_disp (pps_cons pe_int pe_non pps_nil) rfl rfl (by decide) (by decide)) (pa_cons (pe_tup (pa_cons pe_str pa_nil)) (pa_cons (pe_tup (pa_cons pe_str (pa_cons pe_str pa_nil)))
      (pa_cons (pe_lst (pa_cons (pe_tup (pa_cons pe_str (pa_cons (pe_tup (pa_cons pe_str pa_nil)) pa_nil))) pa_nil)) pa_nil)))))))
      (pe_call G hr (by rfl) mT kT bT .nil pass0 (pa_cons (pv 0) (pa_cons pe_int pa_nil))) (fun _ _ => rfl)))))), ?_⟩
  refine ⟨Nat.zero_le _, fun l nl => ?_⟩
  have s1 : Same H (upd H l (.lst [])) := same_new nl _
  generalize (upd H l (.lst [])) = H1 at s1 ⊢
  refine ⟨5, rfl, by decide, by decide, for_range (lo := 0) (n := 5) (fun i σ H3 => ∃ (a : Addr) (v2 : Option V), σ = [some (.ref b), some (.ref a), v2, none] ∧ Same H H3) ⟨l, none, rfl, s1⟩ ?_ ?_⟩
  · rintro i σ H3 hi ⟨a, v2, rfl, s3⟩
    refine ⟨.ref a, rfl, small (by show 1 ≤ 1000; decide), fun p np => ?_⟩
    exact ⟨p, _, rfl, s3.trans (same_new np _)⟩
  · rintro σ H3 ⟨a, v2, rfl, s3⟩
    refine ⟨1, rfl, 10, 39, rfl, rfl, ⟨by decide, by decide, by decide⟩, small (by decide), fun p1 n1 => ⟨small (by decide), fun p2 n2 p3 n3 => ⟨small (by decide), fun p4 n4 => ⟨small (by decide), fun p5 n5 => ⟨small (by show 17 ≤ 1000; decide), fun L nL => ?_⟩⟩⟩⟩⟩
    have s5 := (((((s3.trans (same_new n1 _)).trans (same_new n2 _)).trans (same_new n3 _)).trans (same_new n4 _)).trans (same_new n5 (HO.tup [V.str "is"]))).trans (same_new nL (HO.lst (odds p1 p2 p3 p4 p5)))
    have sim : (odds p1 p2 p3 p4 p5).all simB = true := rfl
    have ln : (odds p1 p2 p3 p4 p5).length = 17 := rfl
    have eL : (upd (upd (upd (upd (upd (upd H3 p1 (HO.tup [])) p2 (HO.lst [])) p3 (HO.dK [])) p4 (HO.lst [V.int 0])) p5 (HO.tup [V.str "is"])) L (HO.lst (odds p1 p2 p3 p4 p5))) L = some (.lst (odds p1 p2 p3 p4 p5)) := upd_same
    show gName 3 (.ref L) _ (upd (upd (upd (upd (upd (upd H3 p1 (HO.tup [])) p2 (HO.lst [])) p3 (HO.dK [])) p4 (HO.lst [V.int 0])) p5 (HO.tup [V.str "is"])) L (HO.lst (odds p1 p2 p3 p4 p5))) _
    generalize (upd (upd (upd (upd (upd (upd H3 p1 (HO.tup [])) p2 (HO.lst [])) p3 (HO.dK [])) p4 (HO.lst [V.int 0])) p5 (HO.tup [V.str "is"])) L (HO.lst (odds p1 p2 p3 p4 p5))) = H5 at s5 eL ⊢
    generalize odds p1 p2 p3 p4 p5 = xs at sim ln eL
    refine ⟨.ref L, rfl, .ref a, rfl, fun q nq => ⟨upd_same, [(.inl 0, .non)], rfl, by decide, ?_⟩⟩
    refine ⟨small (by decide), fun p6 n6 => ⟨small (by decide), fun p7 n7 => ⟨small (by decide), fun p8 n8 => ⟨small (by show 2 ≤ 1000; decide), fun p9 n9 => ⟨small (by show 1 ≤ 1000; decide), fun pa na => ⟨small (by show 5 ≤ 1000; decide), fun pb nb => ?_⟩⟩⟩⟩⟩⟩
    have s6 : Same H5 (upd (upd H5 q (HO.dK [])) q (HO.dK (mergeK [] [(Sum.inl 0, V.non)]))) := fun d u e => by
      have nd := ne_of_none e nq
      rw [upd_ne nd, upd_ne nd]
      exact e
    have s7 := ((((s6.trans (same_new n6 _)).trans (same_new n7 _)).trans (same_new n8 _)).trans (same_new n9 (HO.tup [V.str "not", V.ref p8]))).trans (same_new na (HO.lst [V.ref p9]))
    have s8 := s7.trans (same_new nb (HO.lst [V.ref a, V.ref q, V.ref p6, V.ref p7, V.ref pa]))
    have e8 : (upd (upd (upd (upd (upd (upd (upd (upd H5 q (HO.dK [])) q (HO.dK (mergeK [] [(Sum.inl 0, V.non)]))) p6 (HO.tup [V.str "tag"])) p7 (HO.tup [V.str "none", V.str "a"])) p8 (HO.tup [V.str "none"])) p9 (HO.tup [V.str "not", V.ref p8])) pa (HO.lst [V.ref p9])) pb (HO.lst [V.ref a, V.ref q, V.ref p6, V.ref p7, V.ref pa])) pb = some (.lst [V.ref a, V.ref q, V.ref p6, V.ref p7, V.ref pa]) := upd_same
    generalize (upd (upd (upd (upd (upd (upd (upd (upd H5 q (HO.dK [])) q (HO.dK (mergeK [] [(Sum.inl 0, V.non)]))) p6 (HO.tup [V.str "tag"])) p7 (HO.tup [V.str "none", V.str "a"])) p8 (HO.tup [V.str "none"])) p9 (HO.tup [V.str "not", V.ref p8])) pa (HO.lst [V.ref p9])) pb (HO.lst [V.ref a, V.ref q, V.ref p6, V.ref p7, V.ref pa])) = H8 at s8 e8 ⊢
    have sB := s5.trans s8
    refine ⟨L, pb, _, _, rfl, rfl, s8 _ _ eL, e8, small (by rw [ln]; show 22 ≤ 1000; decide), fun r nr => ?_⟩
    have hb9 : BagAt (upd H8 r (.lst (xs ++ [V.ref a, V.ref q, V.ref p6, V.ref p7, V.ref pa]))) b c := (hb.mono sB).new nr
    refine ⟨.ref b, rfl, b, c, 22, rfl, hb9, by decide, by decide, fun i H' i0 i1 hb2 B2 => ?_⟩
    obtain ⟨j, rfl⟩ := Int.eq_ofNat_of_zero_le i0
    have all : (xs ++ [V.ref a, V.ref q, V.ref p6, V.ref p7, V.ref pa]).all simB = true := by
      rw [List.all_append, sim]
      rfl
    have len : (xs ++ [V.ref a, V.ref q, V.ref p6, V.ref p7, V.ref pa]).length = 22 := by
      rw [List.length_append, ln]
      rfl
    have lt : j < (xs ++ [V.ref a, V.ref q, V.ref p6, V.ref p7, V.ref pa]).length := by
      rw [len]
      omega
    have nrb : r ≠ b := (hb.mono sB).nb nr
    refine ⟨r, _, _, _, rfl, rfl, .inl (.inl (B2 r _ upd_same nrb)), atI_nat (List.getElem?_eq_getElem lt), ?_⟩
    exact k _ H' (List.all_eq_true.mp all _ (List.getElem_mem lt)) hb2 (((But.of sB).new nr).trans B2)
end
end Lw

namespace Lw
open PySem PySem.Spec PyProof.Rows L2
/-- the only def of a class -/
def inS (i : Nat) : Stmt := match topS i with
  | .ClassDef (body := b) .. => b.getD 0 (.Pass ⟨0, 0, 0, 0⟩)
  | z => z
def spInit (K : PySem.W.Frag) (n : Str) : Sp := fun vs H Q _ => ∃ (a C : Addr) (y : V), vs = [.ref a, y] ∧ OexC K C ∧ PySem.W.findIn K (.ref C) n = some none ∧ H a = some (exo a C none) ∧
  ∀ dx, H dx = none → dx ≠ a → Q .non (upd (upd H dx (exd dx [(n, y)])) a (exo a C (some dx)))
def spPass : Sp := fun vs H Q _ => ∃ (a : Addr), vs = [.ref a] ∧ Q .non H
section
variable {P : Program} {w : World} {K : PySem.W.Frag} {mg : Str → Option Value} {base : Heap} {f : Addr} {fd : FuncData}
theorem ok_init0 (F : Fun K "__init__" "Wrong.__init__" (inS 2) f fd) : FnOk P w K mg base CX0 1 f fd ["self", "place"] (spInit K "place") := by
  have sc : FnScope ["self", "place"] ["self", "place"] (defScope (inS 2)) := ⟨rfl, rfl, rfl, by decide +kernel, rfl, by decide +kernel, by decide +kernel⟩
  refine F.ok sc (fun vs H Q E h => ?_) (fun cdv A outer s H vs Q E hr h => ?_)
  · obtain ⟨a, C, y, rfl, _⟩ := h
    rfl
  obtain ⟨a, C, y, rfl, T, no, ea, k⟩ := h
  exact ⟨_, pss_one (ps_ost (pv 0) (pv 1)), y, rfl, .ref a, rfl, a, C, rfl, T, no, .inl ⟨ea, k⟩⟩
theorem ok_init1 (F : Fun K "__init__" "TooMany.__init__" (inS 3) f fd) : FnOk P w K mg base CX0 1 f fd ["self", "limit"] (spInit K "limit") := by
  have sc : FnScope ["self", "limit"] ["self", "limit"] (defScope (inS 3)) := ⟨rfl, rfl, rfl, by decide +kernel, rfl, by decide +kernel, by decide +kernel⟩
  refine F.ok sc (fun vs H Q E h => ?_) (fun cdv A outer s H vs Q E hr h => ?_)
  · obtain ⟨a, C, y, rfl, _⟩ := h
    rfl
  obtain ⟨a, C, y, rfl, T, no, ea, k⟩ := h
  exact ⟨_, pss_one (ps_ost (pv 0) (pv 1)), y, rfl, .ref a, rfl, a, C, rfl, T, no, .inl ⟨ea, k⟩⟩
theorem ok_init2 (F : Fun K "__init__" "Full.__init__" (inS 4) f fd) : FnOk P w K mg base CX0 1 f fd ["self", "limit"] (spInit K "limit") := by
  have sc : FnScope ["self", "limit"] ["self", "limit"] (defScope (inS 4)) := ⟨rfl, rfl, rfl, by decide +kernel, rfl, by decide +kernel, by decide +kernel⟩
  refine F.ok sc (fun vs H Q E h => ?_) (fun cdv A outer s H vs Q E hr h => ?_)
  · obtain ⟨a, C, y, rfl, _⟩ := h
    rfl
  obtain ⟨a, C, y, rfl, T, no, ea, k⟩ := h
  exact ⟨_, pss_one (ps_ost (pv 0) (pv 1)), y, rfl, .ref a, rfl, a, C, rfl, T, no, .inl ⟨ea, k⟩⟩
theorem ok_init3 (F : Fun K "__init__" "BadRule.__init__" (inS 5) f fd) : FnOk P w K mg base CX0 1 f fd ["self", "at"] (spInit K "at") := by
  have sc : FnScope ["self", "at"] ["self", "at"] (defScope (inS 5)) := ⟨rfl, rfl, rfl, by decide +kernel, rfl, by decide +kernel, by decide +kernel⟩
  refine F.ok sc (fun vs H Q E h => ?_) (fun cdv A outer s H vs Q E hr h => ?_)
  · obtain ⟨a, C, y, rfl, _⟩ := h
    rfl
  obtain ⟨a, C, y, rfl, T, no, ea, k⟩ := h
  exact ⟨_, pss_one (ps_ost (pv 0) (pv 1)), y, rfl, .ref a, rfl, a, C, rfl, T, no, .inl ⟨ea, k⟩⟩
theorem ok_init4 (F : Fun K "__init__" "BadRow.__init__" (inS 6) f fd) : FnOk P w K mg base CX0 1 f fd ["self", "ident"] (spInit K "ident") := by
  have sc : FnScope ["self", "ident"] ["self", "ident"] (defScope (inS 6)) := ⟨rfl, rfl, rfl, by decide +kernel, rfl, by decide +kernel, by decide +kernel⟩
  refine F.ok sc (fun vs H Q E h => ?_) (fun cdv A outer s H vs Q E hr h => ?_)
  · obtain ⟨a, C, y, rfl, _⟩ := h
    rfl
  obtain ⟨a, C, y, rfl, T, no, ea, k⟩ := h
  exact ⟨_, pss_one (ps_ost (pv 0) (pv 1)), y, rfl, .ref a, rfl, a, C, rfl, T, no, .inl ⟨ea, k⟩⟩
theorem ok_init5 (F : Fun K "__init__" "NoRow.__init__" (inS 7) f fd) : FnOk P w K mg base CX0 1 f fd ["self", "ident"] (spInit K "ident") := by
  have sc : FnScope ["self", "ident"] ["self", "ident"] (defScope (inS 7)) := ⟨rfl, rfl, rfl, by decide +kernel, rfl, by decide +kernel, by decide +kernel⟩
  refine F.ok sc (fun vs H Q E h => ?_) (fun cdv A outer s H vs Q E hr h => ?_)
  · obtain ⟨a, C, y, rfl, _⟩ := h
    rfl
  obtain ⟨a, C, y, rfl, T, no, ea, k⟩ := h
  exact ⟨_, pss_one (ps_ost (pv 0) (pv 1)), y, rfl, .ref a, rfl, a, C, rfl, T, no, .inl ⟨ea, k⟩⟩
theorem ok_init6 (F : Fun K "__init__" "Taken.__init__" (inS 8) f fd) : FnOk P w K mg base CX0 1 f fd ["self", "ident"] (spInit K "ident") := by
  have sc : FnScope ["self", "ident"] ["self", "ident"] (defScope (inS 8)) := ⟨rfl, rfl, rfl, by decide +kernel, rfl, by decide +kernel, by decide +kernel⟩
  refine F.ok sc (fun vs H Q E h => ?_) (fun cdv A outer s H vs Q E hr h => ?_)
  · obtain ⟨a, C, y, rfl, _⟩ := h
    rfl
  obtain ⟨a, C, y, rfl, T, no, ea, k⟩ := h
  exact ⟨_, pss_one (ps_ost (pv 0) (pv 1)), y, rfl, .ref a, rfl, a, C, rfl, T, no, .inl ⟨ea, k⟩⟩
theorem ok_init7 (F : Fun K "__init__" "BadStatement.__init__" (inS 9) f fd) : FnOk P w K mg base CX0 1 f fd ["self", "address"] (spInit K "address") := by
  have sc : FnScope ["self", "address"] ["self", "address"] (defScope (inS 9)) := ⟨rfl, rfl, rfl, by decide +kernel, rfl, by decide +kernel, by decide +kernel⟩
  refine F.ok sc (fun vs H Q E h => ?_) (fun cdv A outer s H vs Q E hr h => ?_)
  · obtain ⟨a, C, y, rfl, _⟩ := h
    rfl
  obtain ⟨a, C, y, rfl, T, no, ea, k⟩ := h
  exact ⟨_, pss_one (ps_ost (pv 0) (pv 1)), y, rfl, .ref a, rfl, a, C, rfl, T, no, .inl ⟨ea, k⟩⟩
theorem ok_init8 (F : Fun K "__init__" "Twice.__init__" (inS 10) f fd) : FnOk P w K mg base CX0 1 f fd ["self", "handle"] (spInit K "handle") := by
  have sc : FnScope ["self", "handle"] ["self", "handle"] (defScope (inS 10)) := ⟨rfl, rfl, rfl, by decide +kernel, rfl, by decide +kernel, by decide +kernel⟩
  refine F.ok sc (fun vs H Q E h => ?_) (fun cdv A outer s H vs Q E hr h => ?_)
  · obtain ⟨a, C, y, rfl, _⟩ := h
    rfl
  obtain ⟨a, C, y, rfl, T, no, ea, k⟩ := h
  exact ⟨_, pss_one (ps_ost (pv 0) (pv 1)), y, rfl, .ref a, rfl, a, C, rfl, T, no, .inl ⟨ea, k⟩⟩
theorem ok_init9 (F : Fun K "__init__" "Unput.__init__" (inS 11) f fd) : FnOk P w K mg base CX0 1 f fd ["self", "handle"] (spInit K "handle") := by
  have sc : FnScope ["self", "handle"] ["self", "handle"] (defScope (inS 11)) := ⟨rfl, rfl, rfl, by decide +kernel, rfl, by decide +kernel, by decide +kernel⟩
  refine F.ok sc (fun vs H Q E h => ?_) (fun cdv A outer s H vs Q E hr h => ?_)
  · obtain ⟨a, C, y, rfl, _⟩ := h
    rfl
  obtain ⟨a, C, y, rfl, T, no, ea, k⟩ := h
  exact ⟨_, pss_one (ps_ost (pv 0) (pv 1)), y, rfl, .ref a, rfl, a, C, rfl, T, no, .inl ⟨ea, k⟩⟩
theorem ok_init10 (F : Fun K "__init__" "Unfit.__init__" (inS 12) f fd) : FnOk P w K mg base CX0 1 f fd ["self"] spPass := by
  have sc : FnScope ["self"] ["self"] (defScope (inS 12)) := ⟨rfl, rfl, rfl, by decide +kernel, rfl, by decide +kernel, by decide +kernel⟩
  refine F.ok sc (fun vs H Q E h => ?_) (fun cdv A outer s H vs Q E hr h => ?_)
  · obtain ⟨a, rfl, _⟩ := h
    rfl
  obtain ⟨a, rfl, k⟩ := h
  exact ⟨_, pss_one ps_pass, k⟩
theorem ok_init11 (F : Fun K "__init__" "NoPlace.__init__" (inS 13) f fd) : FnOk P w K mg base CX0 1 f fd ["self", "address"] (spInit K "address") := by
  have sc : FnScope ["self", "address"] ["self", "address"] (defScope (inS 13)) := ⟨rfl, rfl, rfl, by decide +kernel, rfl, by decide +kernel, by decide +kernel⟩
  refine F.ok sc (fun vs H Q E h => ?_) (fun cdv A outer s H vs Q E hr h => ?_)
  · obtain ⟨a, C, y, rfl, _⟩ := h
    rfl
  obtain ⟨a, C, y, rfl, T, no, ea, k⟩ := h
  exact ⟨_, pss_one (ps_ost (pv 0) (pv 1)), y, rfl, .ref a, rfl, a, C, rfl, T, no, .inl ⟨ea, k⟩⟩
theorem ok_init12 (F : Fun K "__init__" "Broken.__init__" (inS 14) f fd) : FnOk P w K mg base CX0 1 f fd ["self", "rule"] (spInit K "rule") := by
  have sc : FnScope ["self", "rule"] ["self", "rule"] (defScope (inS 14)) := ⟨rfl, rfl, rfl, by decide +kernel, rfl, by decide +kernel, by decide +kernel⟩
  refine F.ok sc (fun vs H Q E h => ?_) (fun cdv A outer s H vs Q E hr h => ?_)
  · obtain ⟨a, C, y, rfl, _⟩ := h
    rfl
  obtain ⟨a, C, y, rfl, T, no, ea, k⟩ := h
  exact ⟨_, pss_one (ps_ost (pv 0) (pv 1)), y, rfl, .ref a, rfl, a, C, rfl, T, no, .inl ⟨ea, k⟩⟩
theorem ok_init13 (F : Fun K "__init__" "Illegal.__init__" (inS 15) f fd) : FnOk P w K mg base CX0 1 f fd ["self", "rule"] (spInit K "rule") := by
  have sc : FnScope ["self", "rule"] ["self", "rule"] (defScope (inS 15)) := ⟨rfl, rfl, rfl, by decide +kernel, rfl, by decide +kernel, by decide +kernel⟩
  refine F.ok sc (fun vs H Q E h => ?_) (fun cdv A outer s H vs Q E hr h => ?_)
  · obtain ⟨a, C, y, rfl, _⟩ := h
    rfl
  obtain ⟨a, C, y, rfl, T, no, ea, k⟩ := h
  exact ⟨_, pss_one (ps_ost (pv 0) (pv 1)), y, rfl, .ref a, rfl, a, C, rfl, T, no, .inl ⟨ea, k⟩⟩
theorem ok_init14 (F : Fun K "__init__" "NoDeed.__init__" (inS 16) f fd) : FnOk P w K mg base CX0 1 f fd ["self"] spPass := by
  have sc : FnScope ["self"] ["self"] (defScope (inS 16)) := ⟨rfl, rfl, rfl, by decide +kernel, rfl, by decide +kernel, by decide +kernel⟩
  refine F.ok sc (fun vs H Q E h => ?_) (fun cdv A outer s H vs Q E hr h => ?_)
  · obtain ⟨a, rfl, _⟩ := h
    rfl
  obtain ⟨a, rfl, k⟩ := h
  exact ⟨_, pss_one ps_pass, k⟩
theorem ok_init15 (F : Fun K "__init__" "Nothing.__init__" (inS 17) f fd) : FnOk P w K mg base CX0 1 f fd ["self"] spPass := by
  have sc : FnScope ["self"] ["self"] (defScope (inS 17)) := ⟨rfl, rfl, rfl, by decide +kernel, rfl, by decide +kernel, by decide +kernel⟩
  refine F.ok sc (fun vs H Q E h => ?_) (fun cdv A outer s H vs Q E hr h => ?_)
  · obtain ⟨a, rfl, _⟩ := h
    rfl
  obtain ⟨a, rfl, k⟩ := h
  exact ⟨_, pss_one ps_pass, k⟩
theorem ok_init16 (F : Fun K "__init__" "NoText.__init__" (inS 18) f fd) : FnOk P w K mg base CX0 1 f fd ["self"] spPass := by
  have sc : FnScope ["self"] ["self"] (defScope (inS 18)) := ⟨rfl, rfl, rfl, by decide +kernel, rfl, by decide +kernel, by decide +kernel⟩
  refine F.ok sc (fun vs H Q E h => ?_) (fun cdv A outer s H vs Q E hr h => ?_)
  · obtain ⟨a, rfl, _⟩ := h
    rfl
  obtain ⟨a, rfl, k⟩ := h
  exact ⟨_, pss_one ps_pass, k⟩
theorem ok_init17 (F : Fun K "__init__" "NoCommand.__init__" (inS 19) f fd) : FnOk P w K mg base CX0 1 f fd ["self"] spPass := by
  have sc : FnScope ["self"] ["self"] (defScope (inS 19)) := ⟨rfl, rfl, rfl, by decide +kernel, rfl, by decide +kernel, by decide +kernel⟩
  refine F.ok sc (fun vs H Q E h => ?_) (fun cdv A outer s H vs Q E hr h => ?_)
  · obtain ⟨a, rfl, _⟩ := h
    rfl
  obtain ⟨a, rfl, k⟩ := h
  exact ⟨_, pss_one ps_pass, k⟩
/-- what the top has written of an error class -/
structure ClsT (K : PySem.W.Frag) (mg : Str → Option Value) (B C : Addr) (x : Str) : Prop where
  gC : mg x = some (.ref C)
  ox : OexC K C
  xf : XfC K C
  ec : ExcC K C
  cl : (PySem.W.clsIn K C).isSome = true
  em : PySem.W.exmOne K (.ref C) (.ref B) = some true
structure OneT (P : Program) (w : World) (K : PySem.W.Frag) (mg : Str → Option Value) (base : Heap) (B C : Addr) (x n : Str) : Prop where
  t : ClsT K mg B C x
  no : PySem.W.findIn K (.ref C) n = some none
  made : ∃ (fI : Addr) (fd : FuncData), PySem.W.findIn K (.ref C) "__init__" = some (some (.ref fI)) ∧ PySem.W.typeIn K (.ref fI) = some (.type "function") ∧ FnOk P w K mg base CX0 1 fI fd ["self", n] (spInit K n) ∧ Binds K fd ["self", n] []
structure NilT (P : Program) (w : World) (K : PySem.W.Frag) (mg : Str → Option Value) (base : Heap) (B C : Addr) (x : Str) : Prop where
  t : ClsT K mg B C x
  made : ∃ (fI : Addr) (fd : FuncData), PySem.W.findIn K (.ref C) "__init__" = some (some (.ref fI)) ∧ PySem.W.typeIn K (.ref fI) = some (.type "function") ∧ FnOk P w K mg base CX0 1 fI fd ["self"] spPass ∧ Binds K fd ["self"] []
end
section
variable {X : Cx} {B C : Addr} {x n : Str} {e : Expr} {te : TE} {W : WX} {p pos pos2 : Pos}
theorem made_eq {H1 : Hp} {a d : Addr} {e0 e1 o1 o2 : HO} (na : H1 a = none) (n : d ≠ a) : upd (del (upd (upd (upd H1 a e0) d o1) a e1) a) d o2 = upd H1 d o2 := by
  funext b
  by_cases h : b = d
  · rw [h, upd_same, upd_same]
  · rw [upd_ne h, upd_ne h]
    by_cases g : b = a
    · rw [g, del_same, na]
    · rw [del_ne g, upd_ne g, upd_ne h, upd_ne g]
/-- what a made error of one field wants -/
theorem one_read {K : PySem.W.Frag} {y : V} {H1 : Hp} {Q : XK} (T : OexC K C) (no : PySem.W.findIn K (.ref C) n = some none) (h : ∀ d, H1 d = none → Q (.ref C) (some d) (upd H1 d (.xd [(n, y)]))) :
    [y].length ≤ 1000 ∧ ∀ a, H1 a = none → spInit K n (.ref a :: [y]) (upd H1 a (exo a C none)) (madeF C H1 Q a) (fun _ _ _ => False) := by
  refine ⟨by show 1 ≤ 1000; decide, fun a na => ⟨a, C, y, rfl, T, no, upd_same, fun dx nd ne => ⟨rfl, dx, [(n, y)], upd_same, ?_, ?_, ?_⟩⟩⟩
  · rw [upd_ne ne]
    exact upd_same
  · rw [upd_ne ne] at nd
    exact nd
  · rw [made_eq na ne]
    rw [upd_ne ne] at nd
    exact h dx nd
theorem nil_read {H1 : Hp} {Q : XK} (h : Q (.ref C) none H1) : ∀ a, H1 a = none → spPass [.ref a] (upd H1 a (exo a C none)) (fun v H2 => v = .non ∧ H2 a = some (exo a C none) ∧ Q (.ref C) none (del H2 a)) (fun _ _ _ => False) := by
  refine fun a na => ⟨a, rfl, rfl, upd_same, ?_⟩
  have e : del (upd H1 a (exo a C none)) a = H1 := by
    funext b
    by_cases g : b = a
    · rw [g, del_same, na]
    · rw [del_ne g, upd_ne g]
  rw [e]
  exact h
/-- raise C(e) -/
theorem ps_one (T : OneT X.prog X.w X.K X.mg X.base B C x n) (room : Room 2 X.A) (calm : X.calm = true) (tk : L2N.Takes X W) (gl : Gl X x) (he : PE X e te) (nodbg : (x == ("__debug__" : Str)) = false := by decide)
    (st : starEach [e] X.env = (false, eval e X.env) :: starEach [] X.env := by rfl) (pn : (backTo pos (starEach [] X.env)).any (·.1) = false := by rfl) :
    PS X (.Raise (some (.Call (.Name x p) [e] [] pos)) none pos2) (fun _ σ H => tMkA C (spInit X.K n) (tCons te tNil) σ H fun cls d H' => W cls d σ H') := by
  obtain ⟨fI, fd, iC, tI, Fi, bi⟩ := T.made
  exact L2N.ps_raise (pos := pos2) calm tk (pmk_oexA (p := p) (pos := pos) T.t.ox iC tI Fi room bi gl T.t.gC (pa_cons he pa_nil (hs := st)) nodbg st pn)
/-- raise C() -/
theorem ps_nil (T : NilT X.prog X.w X.K X.mg X.base B C x) (room : Room 2 X.A) (calm : X.calm = true) (tk : L2N.Takes X W) (gl : Gl X x) (nodbg : (x == ("__debug__" : Str)) = false := by decide) :
    PS X (.Raise (some (.Call (.Name x p) [] [] pos)) none pos2) (fun _ σ H => tMkN C spPass σ H fun cls d H' => W cls d σ H') := by
  obtain ⟨fI, fd, iC, tI, Fi, bi⟩ := T.made
  exact L2N.ps_raise (pos := pos2) calm tk (pmk_oexN (p := p) (pos := pos) T.t.ox iC tI Fi room bi gl T.t.gC nodbg)
end
section
variable {P : Program} {w : World} {K : PySem.W.Frag} {mg : Str → Option Value} {base : Heap}
theorem fun_okN {x qual : Str} {dst : Stmt} {f : Addr} {fd : FuncData} {N ps : List Str} {k : Nat} {sp : Sp} (F : Fun K x qual dst f fd) (S : FnScope N ps (defScope dst)) (few : ∀ vs H Q E, sp vs H Q E → vs.length = ps.length)
    (body : ∀ (cdv : Value) (A : Around) (outs : List Env) (st : Shared) (H : Hp) (vs : List V) (Q : VK) (E : XK), Room k (A.deeper (envOfC qual (defScope dst) st.heap.objs.size f cdv)) → sp vs H Q E →
      ∃ t, PSs (cxOf (L2N.CX P w) P w K mg base N qual (defScope dst) f cdv A outs st H E) (defBody dst) t ∧ t { nx := fun _ H' => Q .non H', rt := Q } (L2.start N vs) H) : FnOk P w K mg base (L2N.CX P w) (k + 1) f fd ps sp := by
  obtain ⟨oc, od, kV, doc, pm, an, cdv, ct, osl, rfl, look, code⟩ := F.ex
  exact fn_of look code S few fun A outs st H vs Q E room asked => body cdv A outs st H vs Q E room asked
theorem no_if {b : Bool} {F G : Prop} (e : b = false) (h : G) : if b = true then F else G := by
  rw [e]
  exact h
theorem is_if {b : Bool} {F G : Prop} (e : b = true) (h : F) : if b = true then F else G := by
  rw [e]
  exact h
/-- the errors with one field, below nine and from nine on; those without -/
structure Errs (P : Program) (w : World) (K : PySem.W.Frag) (mg : Str → Option Value) (base : Heap) (B : Addr) (C : Nat → Addr) : Prop where
  t0 : OneT P w K mg base B (C 0) "Wrong" "place"
  t1 : OneT P w K mg base B (C 1) "TooMany" "limit"
  t2 : OneT P w K mg base B (C 2) "Full" "limit"
  t3 : OneT P w K mg base B (C 3) "BadRule" "at"
  t4 : OneT P w K mg base B (C 4) "BadRow" "ident"
  t5 : OneT P w K mg base B (C 5) "NoRow" "ident"
  t6 : OneT P w K mg base B (C 6) "Taken" "ident"
  t7 : OneT P w K mg base B (C 7) "BadStatement" "address"
  t8 : OneT P w K mg base B (C 8) "Twice" "handle"
  t9 : OneT P w K mg base B (C 9) "Unput" "handle"
  t10 : NilT P w K mg base B (C 10) "Unfit"
  t11 : OneT P w K mg base B (C 11) "NoPlace" "address"
  t12 : OneT P w K mg base B (C 12) "Broken" "rule"
  t13 : OneT P w K mg base B (C 13) "Illegal" "rule"
  t14 : NilT P w K mg base B (C 14) "NoDeed"
  t15 : NilT P w K mg base B (C 15) "Nothing"
  t16 : NilT P w K mg base B (C 16) "NoText"
  t17 : NilT P w K mg base B (C 17) "NoCommand"
abbrev sRaised : Stmt := topS 24
abbrev sRaisedToo : Stmt := topS 25
abbrev NRaised : List Str := ["_law_kind", "_law_thing"]
theorem scRaised : FnScope NRaised ["_law_kind", "_law_thing"] (defScope sRaised) := ⟨rfl, rfl, rfl, by decide +kernel, rfl, by decide +kernel, by decide +kernel⟩
theorem scRaisedToo : FnScope NRaised ["_law_kind", "_law_thing"] (defScope sRaisedToo) := ⟨rfl, rfl, rfl, by decide +kernel, rfl, by decide +kernel, by decide +kernel⟩
/-- the field of a kind -/
def fldN (k : Nat) : Option Str := ([some "place", some "limit", some "limit", some "at", some "ident", some "ident", some "ident", some "address", some "handle", some "handle", none, some "address", some "rule", some "rule", none, none, none, none] : List (Option Str)).getD k none
/-- what an error of a kind leaves -/
def Left (C : Nat → Addr) (k : Nat) (y : V) (H : Hp) (E : XK) : Prop := match fldN k with
  | some n => ∀ d, H d = none → E (.ref (C k)) (some d) (upd H d (.xd [(n, y)]))
  | none => E (.ref (C k)) none H
def spRaised (C : Nat → Addr) : Sp := fun vs H _ E => ∃ (k : Nat) (y : V), vs = [.int k, y] ∧ k < 9 ∧ Left C k y H E
def spRaisedToo (C : Nat → Addr) : Sp := fun vs H _ E => ∃ (k : Nat) (y : V), vs = [.int k, y] ∧ 9 ≤ k ∧ k < 18 ∧ Left C k y H E
theorem ok_raised {B : Addr} {C : Nat → Addr} {f : Addr} {fd : FuncData} (F : Fun K "_law_raised" "_law_raised" sRaised f fd) (T : Errs P w K mg base B C) : FnOk P w K mg base (L2N.CX P w) 3 f fd ["_law_kind", "_law_thing"] (spRaised C) := by
  refine fun_okN F scRaised (fun vs H Q E h => ?_) (fun cdv A outs st H vs Q E room h => ?_)
  · obtain ⟨k, y, rfl, _⟩ := h
    rfl
  obtain ⟨k, y, rfl, hk, h⟩ := h
  have tk : L2N.Takes (cxOf (L2N.CX P w) P w K mg base NRaised "_law_raised" (defScope sRaised) f cdv A outs st H E) (fun cls d _ H => E cls d H) := L2N.takes_of rfl rfl rfl rfl
  refine ⟨_, pss_cons (ps_if (pt_cmpR op_eq (pv 0) pe_int (nomark _)) (pss_one (ps_one T.t0 room rfl tk (by rfl) (pv 1))) pss_nil)
    (pss_cons (ps_if (pt_cmpR op_eq (pv 0) pe_int (nomark _)) (pss_one (ps_one T.t1 room rfl tk (by rfl) (pv 1))) pss_nil)
    (pss_cons (ps_if (pt_cmpR op_eq (pv 0) pe_int (nomark _)) (pss_one (ps_one T.t2 room rfl tk (by rfl) (pv 1))) pss_nil)
    (pss_cons (ps_if (pt_cmpR op_eq (pv 0) pe_int (nomark _)) (pss_one (ps_one T.t3 room rfl tk (by rfl) (pv 1))) pss_nil)
    (pss_cons (ps_if (pt_cmpR op_eq (pv 0) pe_int (nomark _)) (pss_one (ps_one T.t4 room rfl tk (by rfl) (pv 1))) pss_nil)
    (pss_cons (ps_if (pt_cmpR op_eq (pv 0) pe_int (nomark _)) (pss_one (ps_one T.t5 room rfl tk (by rfl) (pv 1))) pss_nil)
    (pss_cons (ps_if (pt_cmpR op_eq (pv 0) pe_int (nomark _)) (pss_one (ps_one T.t6 room rfl tk (by rfl) (pv 1))) pss_nil)
    (pss_cons (ps_if (pt_cmpR op_eq (pv 0) pe_int (nomark _)) (pss_one (ps_one T.t7 room rfl tk (by rfl) (pv 1))) pss_nil)
    (pss_one (ps_one T.t8 room rfl tk (by rfl) (pv 1)))))))))), ?_⟩
  match k, hk, h with
  | 0, _, h =>
    refine ⟨_, rfl, rfl, _, rfl, is_if rfl ?_⟩
    exact ⟨y, rfl, one_read T.t0.t.ox T.t0.no h⟩
  | 1, _, h =>
    refine ⟨_, rfl, rfl, _, rfl, no_if rfl ?_⟩
    refine ⟨_, rfl, rfl, _, rfl, is_if rfl ?_⟩
    exact ⟨y, rfl, one_read T.t1.t.ox T.t1.no h⟩
  | 2, _, h =>
    refine ⟨_, rfl, rfl, _, rfl, no_if rfl ?_⟩
    refine ⟨_, rfl, rfl, _, rfl, no_if rfl ?_⟩
    refine ⟨_, rfl, rfl, _, rfl, is_if rfl ?_⟩
    exact ⟨y, rfl, one_read T.t2.t.ox T.t2.no h⟩
  | 3, _, h =>
    refine ⟨_, rfl, rfl, _, rfl, no_if rfl ?_⟩
    refine ⟨_, rfl, rfl, _, rfl, no_if rfl ?_⟩
    refine ⟨_, rfl, rfl, _, rfl, no_if rfl ?_⟩
    refine ⟨_, rfl, rfl, _, rfl, is_if rfl ?_⟩
    exact ⟨y, rfl, one_read T.t3.t.ox T.t3.no h⟩
  | 4, _, h =>
    refine ⟨_, rfl, rfl, _, rfl, no_if rfl ?_⟩
    refine ⟨_, rfl, rfl, _, rfl, no_if rfl ?_⟩
    refine ⟨_, rfl, rfl, _, rfl, no_if rfl ?_⟩
    refine ⟨_, rfl, rfl, _, rfl, no_if rfl ?_⟩
    refine ⟨_, rfl, rfl, _, rfl, is_if rfl ?_⟩
    exact ⟨y, rfl, one_read T.t4.t.ox T.t4.no h⟩
  | 5, _, h =>
    refine ⟨_, rfl, rfl, _, rfl, no_if rfl ?_⟩
    refine ⟨_, rfl, rfl, _, rfl, no_if rfl ?_⟩
    refine ⟨_, rfl, rfl, _, rfl, no_if rfl ?_⟩
    refine ⟨_, rfl, rfl, _, rfl, no_if rfl ?_⟩
    refine ⟨_, rfl, rfl, _, rfl, no_if rfl ?_⟩
    refine ⟨_, rfl, rfl, _, rfl, is_if rfl ?_⟩
    exact ⟨y, rfl, one_read T.t5.t.ox T.t5.no h⟩
  | 6, _, h =>
    refine ⟨_, rfl, rfl, _, rfl, no_if rfl ?_⟩
    refine ⟨_, rfl, rfl, _, rfl, no_if rfl ?_⟩
    refine ⟨_, rfl, rfl, _, rfl, no_if rfl ?_⟩
    refine ⟨_, rfl, rfl, _, rfl, no_if rfl ?_⟩
    refine ⟨_, rfl, rfl, _, rfl, no_if rfl ?_⟩
    refine ⟨_, rfl, rfl, _, rfl, no_if rfl ?_⟩
    refine ⟨_, rfl, rfl, _, rfl, is_if rfl ?_⟩
    exact ⟨y, rfl, one_read T.t6.t.ox T.t6.no h⟩
  | 7, _, h =>
    refine ⟨_, rfl, rfl, _, rfl, no_if rfl ?_⟩
    refine ⟨_, rfl, rfl, _, rfl, no_if rfl ?_⟩
    refine ⟨_, rfl, rfl, _, rfl, no_if rfl ?_⟩
    refine ⟨_, rfl, rfl, _, rfl, no_if rfl ?_⟩
    refine ⟨_, rfl, rfl, _, rfl, no_if rfl ?_⟩
    refine ⟨_, rfl, rfl, _, rfl, no_if rfl ?_⟩
    refine ⟨_, rfl, rfl, _, rfl, no_if rfl ?_⟩
    refine ⟨_, rfl, rfl, _, rfl, is_if rfl ?_⟩
    exact ⟨y, rfl, one_read T.t7.t.ox T.t7.no h⟩
  | 8, _, h =>
    refine ⟨_, rfl, rfl, _, rfl, no_if rfl ?_⟩
    refine ⟨_, rfl, rfl, _, rfl, no_if rfl ?_⟩
    refine ⟨_, rfl, rfl, _, rfl, no_if rfl ?_⟩
    refine ⟨_, rfl, rfl, _, rfl, no_if rfl ?_⟩
    refine ⟨_, rfl, rfl, _, rfl, no_if rfl ?_⟩
    refine ⟨_, rfl, rfl, _, rfl, no_if rfl ?_⟩
    refine ⟨_, rfl, rfl, _, rfl, no_if rfl ?_⟩
    refine ⟨_, rfl, rfl, _, rfl, no_if rfl ?_⟩
    exact ⟨y, rfl, one_read T.t8.t.ox T.t8.no h⟩
theorem ok_raised_too {B : Addr} {C : Nat → Addr} {f : Addr} {fd : FuncData} (F : Fun K "_law_raised_too" "_law_raised_too" sRaisedToo f fd) (T : Errs P w K mg base B C) : FnOk P w K mg base (L2N.CX P w) 3 f fd ["_law_kind", "_law_thing"] (spRaisedToo C) := by
  refine fun_okN F scRaisedToo (fun vs H Q E h => ?_) (fun cdv A outs st H vs Q E room h => ?_)
  · obtain ⟨k, y, rfl, _⟩ := h
    rfl
  obtain ⟨k, y, rfl, hk9, hk, h⟩ := h
  have tk : L2N.Takes (cxOf (L2N.CX P w) P w K mg base NRaised "_law_raised_too" (defScope sRaisedToo) f cdv A outs st H E) (fun cls d _ H => E cls d H) := L2N.takes_of rfl rfl rfl rfl
  refine ⟨_, pss_cons (ps_if (pt_cmpR op_eq (pv 0) pe_int (nomark _)) (pss_one (ps_one T.t9 room rfl tk (by rfl) (pv 1))) pss_nil)
    (pss_cons (ps_if (pt_cmpR op_eq (pv 0) pe_int (nomark _)) (pss_one (ps_nil T.t10 room rfl tk (by rfl))) pss_nil)
    (pss_cons (ps_if (pt_cmpR op_eq (pv 0) pe_int (nomark _)) (pss_one (ps_one T.t11 room rfl tk (by rfl) (pv 1))) pss_nil)
    (pss_cons (ps_if (pt_cmpR op_eq (pv 0) pe_int (nomark _)) (pss_one (ps_one T.t12 room rfl tk (by rfl) (pv 1))) pss_nil)
    (pss_cons (ps_if (pt_cmpR op_eq (pv 0) pe_int (nomark _)) (pss_one (ps_one T.t13 room rfl tk (by rfl) (pv 1))) pss_nil)
    (pss_cons (ps_if (pt_cmpR op_eq (pv 0) pe_int (nomark _)) (pss_one (ps_nil T.t14 room rfl tk (by rfl))) pss_nil)
    (pss_cons (ps_if (pt_cmpR op_eq (pv 0) pe_int (nomark _)) (pss_one (ps_nil T.t15 room rfl tk (by rfl))) pss_nil)
    (pss_cons (ps_if (pt_cmpR op_eq (pv 0) pe_int (nomark _)) (pss_one (ps_nil T.t16 room rfl tk (by rfl))) pss_nil)
    (pss_one (ps_nil T.t17 room rfl tk (by rfl)))))))))), ?_⟩
  obtain ⟨j, rfl⟩ := Nat.exists_eq_add_of_le hk9
  have hj : j < 9 := by omega
  match j, hj, h with
  | 0, _, h =>
    refine ⟨_, rfl, rfl, _, rfl, is_if rfl ?_⟩
    exact ⟨y, rfl, one_read T.t9.t.ox T.t9.no h⟩
  | 1, _, h =>
    refine ⟨_, rfl, rfl, _, rfl, no_if rfl ?_⟩
    refine ⟨_, rfl, rfl, _, rfl, is_if rfl ?_⟩
    exact nil_read h
  | 2, _, h =>
    refine ⟨_, rfl, rfl, _, rfl, no_if rfl ?_⟩
    refine ⟨_, rfl, rfl, _, rfl, no_if rfl ?_⟩
    refine ⟨_, rfl, rfl, _, rfl, is_if rfl ?_⟩
    exact ⟨y, rfl, one_read T.t11.t.ox T.t11.no h⟩
  | 3, _, h =>
    refine ⟨_, rfl, rfl, _, rfl, no_if rfl ?_⟩
    refine ⟨_, rfl, rfl, _, rfl, no_if rfl ?_⟩
    refine ⟨_, rfl, rfl, _, rfl, no_if rfl ?_⟩
    refine ⟨_, rfl, rfl, _, rfl, is_if rfl ?_⟩
    exact ⟨y, rfl, one_read T.t12.t.ox T.t12.no h⟩
  | 4, _, h =>
    refine ⟨_, rfl, rfl, _, rfl, no_if rfl ?_⟩
    refine ⟨_, rfl, rfl, _, rfl, no_if rfl ?_⟩
    refine ⟨_, rfl, rfl, _, rfl, no_if rfl ?_⟩
    refine ⟨_, rfl, rfl, _, rfl, no_if rfl ?_⟩
    refine ⟨_, rfl, rfl, _, rfl, is_if rfl ?_⟩
    exact ⟨y, rfl, one_read T.t13.t.ox T.t13.no h⟩
  | 5, _, h =>
    refine ⟨_, rfl, rfl, _, rfl, no_if rfl ?_⟩
    refine ⟨_, rfl, rfl, _, rfl, no_if rfl ?_⟩
    refine ⟨_, rfl, rfl, _, rfl, no_if rfl ?_⟩
    refine ⟨_, rfl, rfl, _, rfl, no_if rfl ?_⟩
    refine ⟨_, rfl, rfl, _, rfl, no_if rfl ?_⟩
    refine ⟨_, rfl, rfl, _, rfl, is_if rfl ?_⟩
    exact nil_read h
  | 6, _, h =>
    refine ⟨_, rfl, rfl, _, rfl, no_if rfl ?_⟩
    refine ⟨_, rfl, rfl, _, rfl, no_if rfl ?_⟩
    refine ⟨_, rfl, rfl, _, rfl, no_if rfl ?_⟩
    refine ⟨_, rfl, rfl, _, rfl, no_if rfl ?_⟩
    refine ⟨_, rfl, rfl, _, rfl, no_if rfl ?_⟩
    refine ⟨_, rfl, rfl, _, rfl, no_if rfl ?_⟩
    refine ⟨_, rfl, rfl, _, rfl, is_if rfl ?_⟩
    exact nil_read h
  | 7, _, h =>
    refine ⟨_, rfl, rfl, _, rfl, no_if rfl ?_⟩
    refine ⟨_, rfl, rfl, _, rfl, no_if rfl ?_⟩
    refine ⟨_, rfl, rfl, _, rfl, no_if rfl ?_⟩
    refine ⟨_, rfl, rfl, _, rfl, no_if rfl ?_⟩
    refine ⟨_, rfl, rfl, _, rfl, no_if rfl ?_⟩
    refine ⟨_, rfl, rfl, _, rfl, no_if rfl ?_⟩
    refine ⟨_, rfl, rfl, _, rfl, no_if rfl ?_⟩
    refine ⟨_, rfl, rfl, _, rfl, is_if rfl ?_⟩
    exact nil_read h
  | 8, _, h =>
    refine ⟨_, rfl, rfl, _, rfl, no_if rfl ?_⟩
    refine ⟨_, rfl, rfl, _, rfl, no_if rfl ?_⟩
    refine ⟨_, rfl, rfl, _, rfl, no_if rfl ?_⟩
    refine ⟨_, rfl, rfl, _, rfl, no_if rfl ?_⟩
    refine ⟨_, rfl, rfl, _, rfl, no_if rfl ?_⟩
    refine ⟨_, rfl, rfl, _, rfl, no_if rfl ?_⟩
    refine ⟨_, rfl, rfl, _, rfl, no_if rfl ?_⟩
    refine ⟨_, rfl, rfl, _, rfl, no_if rfl ?_⟩
    exact nil_read h
end
end Lw

namespace Lw
open PySem PySem.Spec PyProof.Rows L2
abbrev sFlags : Stmt := topS 26
abbrev sField : Stmt := topS 27
/-- the truths of a row of classes -/
def flagsV (t : Nat → Bool) : List V := (List.range 18).map fun j => .bl (t j)
def spFlags (K : PySem.W.Frag) (C : Nat → Addr) : Addr → Value → Option Addr → Sp := fun a cls d vs H Q _ => ∃ (D : Addr) (t : Nat → Bool), vs = [.ref a] ∧ cls = .ref D ∧ ExcC K D ∧ (PySem.W.clsIn K D).isSome = true ∧ ExD H d ∧ (∀ j, j < 18 → PySem.W.kitOne K (.ref D) (.ref (C j)) = some (t j)) ∧
  ∀ (p : Addr) (H' : Hp), H p = none → Same H H' → H' p = some (.lst (flagsV t)) → Q (.ref p) H'
theorem Same.put {G H : Hp} {b : Addr} {o : HO} (x : Same G H) (n : G b = none) : Same G (upd H b o) := fun a u q => by
  rw [upd_ne (ne_of_none q n)]
  exact x a u q
section
variable {P : Program} {w : World} {K : PySem.W.Frag} {mg : Str → Option Value} {base : Heap}
theorem scFlags : FnScope ["_law_e", "_law_found"] ["_law_e"] (defScope sFlags) := ⟨rfl, rfl, rfl, by decide +kernel, rfl, by decide +kernel, by decide +kernel⟩
theorem ok_flags {B : Addr} {C : Nat → Addr} {f : Addr} {fd : FuncData} (F : Fun K "_law_flags" "_law_flags" sFlags f fd) (T : Errs P w K mg base B C) (mis : mg "isinstance" = none) : FnE P w K mg base 1 f fd ["_law_e"] (spFlags K C) := by
  refine fn_ofE F scFlags (fun a cls d vs H Q E h => ?_) (fun cdv A outer s H vs Q E a oe cls d hz hf room h => ?_)
  · obtain ⟨D, t, rfl, _⟩ := h
    rfl
  obtain ⟨D, t, rfl, rfl, ec, cl, xd, tab, k⟩ := h
  refine ⟨_, pss_cons (ps_set (i := 1) scFlags.nd rfl (.inl rfl) (pe_lst (pa_cons (pe_callB (call_isX hz hf) (by rfl) mis (by decide +kernel) (pa_cons (pv 0) (pa_cons (pe_glob (v := .ref (C 0)) (by rfl) T.t0.t.gC rfl) pa_nil))) (pa_cons (pe_callB (call_isX hz hf) (by rfl) mis (by decide +kernel) (pa_cons (pv 0) (pa_cons (pe_glob (v := .ref (C 1)) (by rfl) T.t1.t.gC rfl) pa_nil))) (pa_cons (pe_callB (call_isX hz hf) (by rfl) mis (by decide +kernel) (pa_cons (pv 0) (pa_cons (pe_glob (v := .ref (C 2)) (by rfl) T.t2.t.gC rfl) pa_nil))) (pa_cons (pe_callB (call_isX hz hf) (by rfl) mis (by decide +kernel) (pa_cons (pv 0) (pa_cons (pe_glob (v := .ref (C 3)) (by rfl) T.t3.t.gC rfl) pa_nil))) pa_nil))))))
    (pss_cons (ps_expr (pe_bm PySem.F.plainAttrs_list PySem.F.slot_list_extend PySem.F.type_list_extend mt_extend (pv 1) (pa_cons (pe_lst (pa_cons (pe_callB (call_isX hz hf) (by rfl) mis (by decide +kernel) (pa_cons (pv 0) (pa_cons (pe_glob (v := .ref (C 4)) (by rfl) T.t4.t.gC rfl) pa_nil))) (pa_cons (pe_callB (call_isX hz hf) (by rfl) mis (by decide +kernel) (pa_cons (pv 0) (pa_cons (pe_glob (v := .ref (C 5)) (by rfl) T.t5.t.gC rfl) pa_nil))) (pa_cons (pe_callB (call_isX hz hf) (by rfl) mis (by decide +kernel) (pa_cons (pv 0) (pa_cons (pe_glob (v := .ref (C 6)) (by rfl) T.t6.t.gC rfl) pa_nil))) (pa_cons (pe_callB (call_isX hz hf) (by rfl) mis (by decide +kernel) (pa_cons (pv 0) (pa_cons (pe_glob (v := .ref (C 7)) (by rfl) T.t7.t.gC rfl) pa_nil))) pa_nil))))) pa_nil)))
    (pss_cons (ps_expr (pe_bm PySem.F.plainAttrs_list PySem.F.slot_list_extend PySem.F.type_list_extend mt_extend (pv 1) (pa_cons (pe_lst (pa_cons (pe_callB (call_isX hz hf) (by rfl) mis (by decide +kernel) (pa_cons (pv 0) (pa_cons (pe_glob (v := .ref (C 8)) (by rfl) T.t8.t.gC rfl) pa_nil))) (pa_cons (pe_callB (call_isX hz hf) (by rfl) mis (by decide +kernel) (pa_cons (pv 0) (pa_cons (pe_glob (v := .ref (C 9)) (by rfl) T.t9.t.gC rfl) pa_nil))) (pa_cons (pe_callB (call_isX hz hf) (by rfl) mis (by decide +kernel) (pa_cons (pv 0) (pa_cons (pe_glob (v := .ref (C 10)) (by rfl) T.t10.t.gC rfl) pa_nil))) (pa_cons (pe_callB (call_isX hz hf) (by rfl) mis (by decide +kernel) (pa_cons (pv 0) (pa_cons (pe_glob (v := .ref (C 11)) (by rfl) T.t11.t.gC rfl) pa_nil))) pa_nil))))) pa_nil)))
    (pss_cons (ps_expr (pe_bm PySem.F.plainAttrs_list PySem.F.slot_list_extend PySem.F.type_list_extend mt_extend (pv 1) (pa_cons (pe_lst (pa_cons (pe_callB (call_isX hz hf) (by rfl) mis (by decide +kernel) (pa_cons (pv 0) (pa_cons (pe_glob (v := .ref (C 12)) (by rfl) T.t12.t.gC rfl) pa_nil))) (pa_cons (pe_callB (call_isX hz hf) (by rfl) mis (by decide +kernel) (pa_cons (pv 0) (pa_cons (pe_glob (v := .ref (C 13)) (by rfl) T.t13.t.gC rfl) pa_nil))) (pa_cons (pe_callB (call_isX hz hf) (by rfl) mis (by decide +kernel) (pa_cons (pv 0) (pa_cons (pe_glob (v := .ref (C 14)) (by rfl) T.t14.t.gC rfl) pa_nil))) (pa_cons (pe_callB (call_isX hz hf) (by rfl) mis (by decide +kernel) (pa_cons (pv 0) (pa_cons (pe_glob (v := .ref (C 15)) (by rfl) T.t15.t.gC rfl) pa_nil))) pa_nil))))) pa_nil)))
    (pss_one (ps_ret (pe_op op_cat (pv 1) (pe_lst (pa_cons (pe_callB (call_isX hz hf) (by rfl) mis (by decide +kernel) (pa_cons (pv 0) (pa_cons (pe_glob (v := .ref (C 16)) (by rfl) T.t16.t.gC rfl) pa_nil))) (pa_cons (pe_callB (call_isX hz hf) (by rfl) mis (by decide +kernel) (pa_cons (pv 0) (pa_cons (pe_glob (v := .ref (C 17)) (by rfl) T.t17.t.gC rfl) pa_nil))) pa_nil))))))))), ?_⟩
  refine ⟨.ref a, rfl, D, _, _, t 0, rfl, ec, cl, rfl, fun u r => r, tab 0 (by decide), xd, ⟨.ref a, rfl, D, _, _, t 1, rfl, ec, cl, rfl, fun u r => r, tab 1 (by decide), xd, ⟨.ref a, rfl, D, _, _, t 2, rfl, ec, cl, rfl, fun u r => r, tab 2 (by decide), xd, ⟨.ref a, rfl, D, _, _, t 3, rfl, ec, cl, rfl, fun u r => r, tab 3 (by decide), xd, ⟨small (by show 4 ≤ 1000; decide), fun L nL => ?_⟩⟩⟩⟩⟩
  have s0 : Same H (upd H L (.lst ([.bl (t 0), .bl (t 1), .bl (t 2), .bl (t 3)] : List V))) := same_new nL _
  have e0 : (upd H L (.lst ([.bl (t 0), .bl (t 1), .bl (t 2), .bl (t 3)] : List V))) L = some (.lst [.bl (t 0), .bl (t 1), .bl (t 2), .bl (t 3)]) := upd_same
  show gName 1 (.ref L) _ (upd H L (.lst ([.bl (t 0), .bl (t 1), .bl (t 2), .bl (t 3)] : List V))) _
  generalize (upd H L (.lst ([.bl (t 0), .bl (t 1), .bl (t 2), .bl (t 3)] : List V))) = G0 at s0 e0 ⊢
  refine ⟨.ref L, rfl, .inl ⟨rfl, _, SqL.of e0⟩, ⟨.ref a, rfl, D, _, _, t 4, rfl, ec, cl, rfl, fun u r => r, tab 4 (by decide), (xd.mono s0), ⟨.ref a, rfl, D, _, _, t 5, rfl, ec, cl, rfl, fun u r => r, tab 5 (by decide), (xd.mono s0), ⟨.ref a, rfl, D, _, _, t 6, rfl, ec, cl, rfl, fun u r => r, tab 6 (by decide), (xd.mono s0), ⟨.ref a, rfl, D, _, _, t 7, rfl, ec, cl, rfl, fun u r => r, tab 7 (by decide), (xd.mono s0), ⟨small (by show 4 ≤ 1000; decide), fun M0 n0 => ⟨L, M0, _, _, rfl, rfl, (upd_ne (ne_of_none e0 n0)).trans e0, upd_same, small (by show 8 ≤ 1000; decide), ?_⟩⟩⟩⟩⟩⟩⟩
  have s1 : Same H (upd (upd G0 M0 (.lst ([.bl (t 4), .bl (t 5), .bl (t 6), .bl (t 7)] : List V))) L (.lst ([.bl (t 0), .bl (t 1), .bl (t 2), .bl (t 3), .bl (t 4), .bl (t 5), .bl (t 6), .bl (t 7)] : List V))) := Same.put (s0.trans (same_new n0 _)) nL
  have e1 : (upd (upd G0 M0 (.lst ([.bl (t 4), .bl (t 5), .bl (t 6), .bl (t 7)] : List V))) L (.lst ([.bl (t 0), .bl (t 1), .bl (t 2), .bl (t 3), .bl (t 4), .bl (t 5), .bl (t 6), .bl (t 7)] : List V))) L = some (.lst [.bl (t 0), .bl (t 1), .bl (t 2), .bl (t 3), .bl (t 4), .bl (t 5), .bl (t 6), .bl (t 7)]) := upd_same
  show (tSeq _ _ : TS) _ _ (upd (upd G0 M0 (.lst ([.bl (t 4), .bl (t 5), .bl (t 6), .bl (t 7)] : List V))) L (.lst ([.bl (t 0), .bl (t 1), .bl (t 2), .bl (t 3), .bl (t 4), .bl (t 5), .bl (t 6), .bl (t 7)] : List V)))
  generalize (upd (upd G0 M0 (.lst ([.bl (t 4), .bl (t 5), .bl (t 6), .bl (t 7)] : List V))) L (.lst ([.bl (t 0), .bl (t 1), .bl (t 2), .bl (t 3), .bl (t 4), .bl (t 5), .bl (t 6), .bl (t 7)] : List V))) = G1 at s1 e1 ⊢
  refine ⟨.ref L, rfl, .inl ⟨rfl, _, SqL.of e1⟩, ⟨.ref a, rfl, D, _, _, t 8, rfl, ec, cl, rfl, fun u r => r, tab 8 (by decide), (xd.mono s1), ⟨.ref a, rfl, D, _, _, t 9, rfl, ec, cl, rfl, fun u r => r, tab 9 (by decide), (xd.mono s1), ⟨.ref a, rfl, D, _, _, t 10, rfl, ec, cl, rfl, fun u r => r, tab 10 (by decide), (xd.mono s1), ⟨.ref a, rfl, D, _, _, t 11, rfl, ec, cl, rfl, fun u r => r, tab 11 (by decide), (xd.mono s1), ⟨small (by show 4 ≤ 1000; decide), fun M1 n1 => ⟨L, M1, _, _, rfl, rfl, (upd_ne (ne_of_none e1 n1)).trans e1, upd_same, small (by show 12 ≤ 1000; decide), ?_⟩⟩⟩⟩⟩⟩⟩
  have s2 : Same H (upd (upd G1 M1 (.lst ([.bl (t 8), .bl (t 9), .bl (t 10), .bl (t 11)] : List V))) L (.lst ([.bl (t 0), .bl (t 1), .bl (t 2), .bl (t 3), .bl (t 4), .bl (t 5), .bl (t 6), .bl (t 7), .bl (t 8), .bl (t 9), .bl (t 10), .bl (t 11)] : List V))) := Same.put (s1.trans (same_new n1 _)) nL
  have e2 : (upd (upd G1 M1 (.lst ([.bl (t 8), .bl (t 9), .bl (t 10), .bl (t 11)] : List V))) L (.lst ([.bl (t 0), .bl (t 1), .bl (t 2), .bl (t 3), .bl (t 4), .bl (t 5), .bl (t 6), .bl (t 7), .bl (t 8), .bl (t 9), .bl (t 10), .bl (t 11)] : List V))) L = some (.lst [.bl (t 0), .bl (t 1), .bl (t 2), .bl (t 3), .bl (t 4), .bl (t 5), .bl (t 6), .bl (t 7), .bl (t 8), .bl (t 9), .bl (t 10), .bl (t 11)]) := upd_same
  show (tSeq _ _ : TS) _ _ (upd (upd G1 M1 (.lst ([.bl (t 8), .bl (t 9), .bl (t 10), .bl (t 11)] : List V))) L (.lst ([.bl (t 0), .bl (t 1), .bl (t 2), .bl (t 3), .bl (t 4), .bl (t 5), .bl (t 6), .bl (t 7), .bl (t 8), .bl (t 9), .bl (t 10), .bl (t 11)] : List V)))
  generalize (upd (upd G1 M1 (.lst ([.bl (t 8), .bl (t 9), .bl (t 10), .bl (t 11)] : List V))) L (.lst ([.bl (t 0), .bl (t 1), .bl (t 2), .bl (t 3), .bl (t 4), .bl (t 5), .bl (t 6), .bl (t 7), .bl (t 8), .bl (t 9), .bl (t 10), .bl (t 11)] : List V))) = G2 at s2 e2 ⊢
  refine ⟨.ref L, rfl, .inl ⟨rfl, _, SqL.of e2⟩, ⟨.ref a, rfl, D, _, _, t 12, rfl, ec, cl, rfl, fun u r => r, tab 12 (by decide), (xd.mono s2), ⟨.ref a, rfl, D, _, _, t 13, rfl, ec, cl, rfl, fun u r => r, tab 13 (by decide), (xd.mono s2), ⟨.ref a, rfl, D, _, _, t 14, rfl, ec, cl, rfl, fun u r => r, tab 14 (by decide), (xd.mono s2), ⟨.ref a, rfl, D, _, _, t 15, rfl, ec, cl, rfl, fun u r => r, tab 15 (by decide), (xd.mono s2), ⟨small (by show 4 ≤ 1000; decide), fun M2 n2 => ⟨L, M2, _, _, rfl, rfl, (upd_ne (ne_of_none e2 n2)).trans e2, upd_same, small (by show 16 ≤ 1000; decide), ?_⟩⟩⟩⟩⟩⟩⟩
  generalize eG : (upd (upd G2 M2 (.lst ([.bl (t 12), .bl (t 13), .bl (t 14), .bl (t 15)] : List V))) L (.lst (([.bl (t 0), .bl (t 1), .bl (t 2), .bl (t 3), .bl (t 4), .bl (t 5), .bl (t 6), .bl (t 7), .bl (t 8), .bl (t 9), .bl (t 10), .bl (t 11)] : List V) ++ ([.bl (t 12), .bl (t 13), .bl (t 14), .bl (t 15)] : List V)))) = G3
  have s3 : Same H G3 := by
    rw [← eG]
    exact Same.put (s2.trans (same_new n2 _)) nL
  have e3 : G3 L = some (.lst [.bl (t 0), .bl (t 1), .bl (t 2), .bl (t 3), .bl (t 4), .bl (t 5), .bl (t 6), .bl (t 7), .bl (t 8), .bl (t 9), .bl (t 10), .bl (t 11), .bl (t 12), .bl (t 13), .bl (t 14), .bl (t 15)]) := by
    rw [← eG]
    exact upd_same
  refine ⟨.ref L, rfl, ⟨.ref a, rfl, D, _, _, t 16, rfl, ec, cl, rfl, fun u r => r, tab 16 (by decide), (xd.mono s3), ⟨.ref a, rfl, D, _, _, t 17, rfl, ec, cl, rfl, fun u r => r, tab 17 (by decide), (xd.mono s3), ⟨small (by show 2 ≤ 1000; decide), fun M n3 => ⟨L, M, _, _, rfl, rfl, (upd_ne (ne_of_none e3 n3)).trans e3, upd_same, small (by show 18 ≤ 1000; decide), fun p np => ?_⟩⟩⟩⟩⟩
  have s4 := (s3.trans (same_new n3 (.lst [.bl (t 16), .bl (t 17)]))).trans (same_new np (.lst (flagsV t)))
  exact k p _ ((s3.trans (same_new n3 (.lst [.bl (t 16), .bl (t 17)]))).free np) s4 upd_same
end
end Lw

namespace Lw
open PySem PySem.Spec PyProof.Rows L2
def spField (K : PySem.W.Frag) : Addr → Value → Option Addr → Sp := fun a cls d vs H Q _ => ∃ (k : Nat) (v : V) (n : Str) (D dd : Addr) (fs : List (Str × V)), vs = [.int k, .ref a] ∧ k < 18 ∧ fldN k = some n ∧ cls = .ref D ∧ XfC K D ∧ PySem.W.findIn K (.ref D) n = some none ∧ d = some dd ∧
  H dd = some (.xd fs) ∧ fs.lookup n = some v ∧ ∀ H', Same H H' → Q v H'
section
variable {P : Program} {w : World} {K : PySem.W.Frag} {mg : Str → Option Value} {base : Heap}
theorem scField : FnScope ["_law_kind", "_law_e"] ["_law_kind", "_law_e"] (defScope sField) := ⟨rfl, rfl, rfl, by decide +kernel, rfl, by decide +kernel, by decide +kernel⟩
theorem ok_field {f : Addr} {fd : FuncData} (F : Fun K "_law_field" "_law_field" sField f fd) : FnE P w K mg base 1 f fd ["_law_kind", "_law_e"] (spField K) := by
  refine fn_ofE F scField (fun a cls d vs H Q E h => ?_) (fun cdv A outer s H vs Q E a oe cls d hz hf room h => ?_)
  · obtain ⟨k, v, n, D, dd, fs, rfl, _⟩ := h
    rfl
  obtain ⟨k, v, n, D, dd, fs, rfl, hk, fn, rfl, xf, no, rfl, at_d, lk, q⟩ := h
  refine ⟨_, pss_cons (ps_if (pt_cmpR op_eq (pv 0) pe_int (nomark _)) (pss_one (ps_ret (pe_fieldX hz hf (pv 1)))) pss_nil)
    (pss_cons (ps_if (pt_cmpR (r := rIn K false) op_in_seq (pv 0) (pe_tup (pa_cons pe_int (pa_cons pe_int pa_nil))) (by rfl)) (pss_one (ps_ret (pe_fieldX hz hf (pv 1)))) pss_nil)
    (pss_cons (ps_if (pt_cmpR op_eq (pv 0) pe_int (nomark _)) (pss_one (ps_ret (pe_fieldX hz hf (pv 1)))) pss_nil)
    (pss_cons (ps_if (pt_cmpR (r := rIn K false) op_in_seq (pv 0) (pe_tup (pa_cons pe_int (pa_cons pe_int (pa_cons pe_int pa_nil)))) (by rfl)) (pss_one (ps_ret (pe_fieldX hz hf (pv 1)))) pss_nil)
    (pss_cons (ps_if (pt_cmpR (r := rIn K false) op_in_seq (pv 0) (pe_tup (pa_cons pe_int (pa_cons pe_int pa_nil))) (by rfl)) (pss_one (ps_ret (pe_fieldX hz hf (pv 1)))) pss_nil)
    (pss_cons (ps_if (pt_cmpR (r := rIn K false) op_in_seq (pv 0) (pe_tup (pa_cons pe_int (pa_cons pe_int pa_nil))) (by rfl)) (pss_one (ps_ret (pe_fieldX hz hf (pv 1)))) pss_nil)
    (pss_one (ps_ret (pe_ifExp (pt_cmpR (r := rIn K false) op_in_seq (pv 0) (pe_tup (pa_cons pe_int (pa_cons pe_int pa_nil))) (by rfl)) (pe_fieldX hz hf (pv 1)) (pe_lst pa_nil))))))))), ?_⟩
  match k, hk, fn with
  | 0, _, fn =>
    obtain rfl : n = "place" := (Option.some.inj fn).symm
    refine ⟨_, rfl, rfl, _, rfl, is_if rfl ?_⟩
    have sH := (fun _ _ h => h : Same H H)
    exact ⟨.ref a, rfl, rfl, D, dd, fs, v, rfl, rfl, xf, no, sH _ _ at_d, lk, q _ sH⟩
  | 1, _, fn =>
    obtain rfl : n = "limit" := (Option.some.inj fn).symm
    refine ⟨_, rfl, rfl, _, rfl, no_if rfl ?_⟩
    refine ⟨_, rfl, small (by decide), fun p0 n0 => ⟨p0, _, rfl, .inr (.inl (.inl upd_same)), rfl, rfl, _, rfl, is_if rfl ?_⟩⟩
    have sH := (Same.trans (fun _ _ h => h : Same H H) (same_new n0 (.tup [.int 1, .int 2])))
    exact ⟨.ref a, rfl, rfl, D, dd, fs, v, rfl, rfl, xf, no, sH _ _ at_d, lk, q _ sH⟩
  | 2, _, fn =>
    obtain rfl : n = "limit" := (Option.some.inj fn).symm
    refine ⟨_, rfl, rfl, _, rfl, no_if rfl ?_⟩
    refine ⟨_, rfl, small (by decide), fun p0 n0 => ⟨p0, _, rfl, .inr (.inl (.inl upd_same)), rfl, rfl, _, rfl, is_if rfl ?_⟩⟩
    have sH := (Same.trans (fun _ _ h => h : Same H H) (same_new n0 (.tup [.int 1, .int 2])))
    exact ⟨.ref a, rfl, rfl, D, dd, fs, v, rfl, rfl, xf, no, sH _ _ at_d, lk, q _ sH⟩
  | 3, _, fn =>
    obtain rfl : n = "at" := (Option.some.inj fn).symm
    refine ⟨_, rfl, rfl, _, rfl, no_if rfl ?_⟩
    refine ⟨_, rfl, small (by decide), fun p0 n0 => ⟨p0, _, rfl, .inr (.inl (.inl upd_same)), rfl, rfl, _, rfl, no_if rfl ?_⟩⟩
    refine ⟨_, rfl, rfl, _, rfl, is_if rfl ?_⟩
    have sH := (Same.trans (fun _ _ h => h : Same H H) (same_new n0 (.tup [.int 1, .int 2])))
    exact ⟨.ref a, rfl, rfl, D, dd, fs, v, rfl, rfl, xf, no, sH _ _ at_d, lk, q _ sH⟩
  | 4, _, fn =>
    obtain rfl : n = "ident" := (Option.some.inj fn).symm
    refine ⟨_, rfl, rfl, _, rfl, no_if rfl ?_⟩
    refine ⟨_, rfl, small (by decide), fun p0 n0 => ⟨p0, _, rfl, .inr (.inl (.inl upd_same)), rfl, rfl, _, rfl, no_if rfl ?_⟩⟩
    refine ⟨_, rfl, rfl, _, rfl, no_if rfl ?_⟩
    refine ⟨_, rfl, small (by decide), fun p1 n1 => ⟨p1, _, rfl, .inr (.inl (.inl upd_same)), rfl, rfl, _, rfl, is_if rfl ?_⟩⟩
    have sH := (Same.trans (Same.trans (fun _ _ h => h : Same H H) (same_new n0 (.tup [.int 1, .int 2]))) (same_new n1 (.tup [.int 4, .int 5, .int 6])))
    exact ⟨.ref a, rfl, rfl, D, dd, fs, v, rfl, rfl, xf, no, sH _ _ at_d, lk, q _ sH⟩
  | 5, _, fn =>
    obtain rfl : n = "ident" := (Option.some.inj fn).symm
    refine ⟨_, rfl, rfl, _, rfl, no_if rfl ?_⟩
    refine ⟨_, rfl, small (by decide), fun p0 n0 => ⟨p0, _, rfl, .inr (.inl (.inl upd_same)), rfl, rfl, _, rfl, no_if rfl ?_⟩⟩
    refine ⟨_, rfl, rfl, _, rfl, no_if rfl ?_⟩
    refine ⟨_, rfl, small (by decide), fun p1 n1 => ⟨p1, _, rfl, .inr (.inl (.inl upd_same)), rfl, rfl, _, rfl, is_if rfl ?_⟩⟩
    have sH := (Same.trans (Same.trans (fun _ _ h => h : Same H H) (same_new n0 (.tup [.int 1, .int 2]))) (same_new n1 (.tup [.int 4, .int 5, .int 6])))
    exact ⟨.ref a, rfl, rfl, D, dd, fs, v, rfl, rfl, xf, no, sH _ _ at_d, lk, q _ sH⟩
  | 6, _, fn =>
    obtain rfl : n = "ident" := (Option.some.inj fn).symm
    refine ⟨_, rfl, rfl, _, rfl, no_if rfl ?_⟩
    refine ⟨_, rfl, small (by decide), fun p0 n0 => ⟨p0, _, rfl, .inr (.inl (.inl upd_same)), rfl, rfl, _, rfl, no_if rfl ?_⟩⟩
    refine ⟨_, rfl, rfl, _, rfl, no_if rfl ?_⟩
    refine ⟨_, rfl, small (by decide), fun p1 n1 => ⟨p1, _, rfl, .inr (.inl (.inl upd_same)), rfl, rfl, _, rfl, is_if rfl ?_⟩⟩
    have sH := (Same.trans (Same.trans (fun _ _ h => h : Same H H) (same_new n0 (.tup [.int 1, .int 2]))) (same_new n1 (.tup [.int 4, .int 5, .int 6])))
    exact ⟨.ref a, rfl, rfl, D, dd, fs, v, rfl, rfl, xf, no, sH _ _ at_d, lk, q _ sH⟩
  | 7, _, fn =>
    obtain rfl : n = "address" := (Option.some.inj fn).symm
    refine ⟨_, rfl, rfl, _, rfl, no_if rfl ?_⟩
    refine ⟨_, rfl, small (by decide), fun p0 n0 => ⟨p0, _, rfl, .inr (.inl (.inl upd_same)), rfl, rfl, _, rfl, no_if rfl ?_⟩⟩
    refine ⟨_, rfl, rfl, _, rfl, no_if rfl ?_⟩
    refine ⟨_, rfl, small (by decide), fun p1 n1 => ⟨p1, _, rfl, .inr (.inl (.inl upd_same)), rfl, rfl, _, rfl, no_if rfl ?_⟩⟩
    refine ⟨_, rfl, small (by decide), fun p2 n2 => ⟨p2, _, rfl, .inr (.inl (.inl upd_same)), rfl, rfl, _, rfl, is_if rfl ?_⟩⟩
    have sH := (Same.trans (Same.trans (Same.trans (fun _ _ h => h : Same H H) (same_new n0 (.tup [.int 1, .int 2]))) (same_new n1 (.tup [.int 4, .int 5, .int 6]))) (same_new n2 (.tup [.int 7, .int 11])))
    exact ⟨.ref a, rfl, rfl, D, dd, fs, v, rfl, rfl, xf, no, sH _ _ at_d, lk, q _ sH⟩
  | 8, _, fn =>
    obtain rfl : n = "handle" := (Option.some.inj fn).symm
    refine ⟨_, rfl, rfl, _, rfl, no_if rfl ?_⟩
    refine ⟨_, rfl, small (by decide), fun p0 n0 => ⟨p0, _, rfl, .inr (.inl (.inl upd_same)), rfl, rfl, _, rfl, no_if rfl ?_⟩⟩
    refine ⟨_, rfl, rfl, _, rfl, no_if rfl ?_⟩
    refine ⟨_, rfl, small (by decide), fun p1 n1 => ⟨p1, _, rfl, .inr (.inl (.inl upd_same)), rfl, rfl, _, rfl, no_if rfl ?_⟩⟩
    refine ⟨_, rfl, small (by decide), fun p2 n2 => ⟨p2, _, rfl, .inr (.inl (.inl upd_same)), rfl, rfl, _, rfl, no_if rfl ?_⟩⟩
    refine ⟨_, rfl, small (by decide), fun p3 n3 => ⟨p3, _, rfl, .inr (.inl (.inl upd_same)), rfl, rfl, _, rfl, is_if rfl ?_⟩⟩
    have sH := (Same.trans (Same.trans (Same.trans (Same.trans (fun _ _ h => h : Same H H) (same_new n0 (.tup [.int 1, .int 2]))) (same_new n1 (.tup [.int 4, .int 5, .int 6]))) (same_new n2 (.tup [.int 7, .int 11]))) (same_new n3 (.tup [.int 8, .int 9])))
    exact ⟨.ref a, rfl, rfl, D, dd, fs, v, rfl, rfl, xf, no, sH _ _ at_d, lk, q _ sH⟩
  | 9, _, fn =>
    obtain rfl : n = "handle" := (Option.some.inj fn).symm
    refine ⟨_, rfl, rfl, _, rfl, no_if rfl ?_⟩
    refine ⟨_, rfl, small (by decide), fun p0 n0 => ⟨p0, _, rfl, .inr (.inl (.inl upd_same)), rfl, rfl, _, rfl, no_if rfl ?_⟩⟩
    refine ⟨_, rfl, rfl, _, rfl, no_if rfl ?_⟩
    refine ⟨_, rfl, small (by decide), fun p1 n1 => ⟨p1, _, rfl, .inr (.inl (.inl upd_same)), rfl, rfl, _, rfl, no_if rfl ?_⟩⟩
    refine ⟨_, rfl, small (by decide), fun p2 n2 => ⟨p2, _, rfl, .inr (.inl (.inl upd_same)), rfl, rfl, _, rfl, no_if rfl ?_⟩⟩
    refine ⟨_, rfl, small (by decide), fun p3 n3 => ⟨p3, _, rfl, .inr (.inl (.inl upd_same)), rfl, rfl, _, rfl, is_if rfl ?_⟩⟩
    have sH := (Same.trans (Same.trans (Same.trans (Same.trans (fun _ _ h => h : Same H H) (same_new n0 (.tup [.int 1, .int 2]))) (same_new n1 (.tup [.int 4, .int 5, .int 6]))) (same_new n2 (.tup [.int 7, .int 11]))) (same_new n3 (.tup [.int 8, .int 9])))
    exact ⟨.ref a, rfl, rfl, D, dd, fs, v, rfl, rfl, xf, no, sH _ _ at_d, lk, q _ sH⟩
  | 10, _, fn => nomatch (show (none : Option Str) = some n from fn)
  | 11, _, fn =>
    obtain rfl : n = "address" := (Option.some.inj fn).symm
    refine ⟨_, rfl, rfl, _, rfl, no_if rfl ?_⟩
    refine ⟨_, rfl, small (by decide), fun p0 n0 => ⟨p0, _, rfl, .inr (.inl (.inl upd_same)), rfl, rfl, _, rfl, no_if rfl ?_⟩⟩
    refine ⟨_, rfl, rfl, _, rfl, no_if rfl ?_⟩
    refine ⟨_, rfl, small (by decide), fun p1 n1 => ⟨p1, _, rfl, .inr (.inl (.inl upd_same)), rfl, rfl, _, rfl, no_if rfl ?_⟩⟩
    refine ⟨_, rfl, small (by decide), fun p2 n2 => ⟨p2, _, rfl, .inr (.inl (.inl upd_same)), rfl, rfl, _, rfl, is_if rfl ?_⟩⟩
    have sH := (Same.trans (Same.trans (Same.trans (fun _ _ h => h : Same H H) (same_new n0 (.tup [.int 1, .int 2]))) (same_new n1 (.tup [.int 4, .int 5, .int 6]))) (same_new n2 (.tup [.int 7, .int 11])))
    exact ⟨.ref a, rfl, rfl, D, dd, fs, v, rfl, rfl, xf, no, sH _ _ at_d, lk, q _ sH⟩
  | 12, _, fn =>
    obtain rfl : n = "rule" := (Option.some.inj fn).symm
    refine ⟨_, rfl, rfl, _, rfl, no_if rfl ?_⟩
    refine ⟨_, rfl, small (by decide), fun p0 n0 => ⟨p0, _, rfl, .inr (.inl (.inl upd_same)), rfl, rfl, _, rfl, no_if rfl ?_⟩⟩
    refine ⟨_, rfl, rfl, _, rfl, no_if rfl ?_⟩
    refine ⟨_, rfl, small (by decide), fun p1 n1 => ⟨p1, _, rfl, .inr (.inl (.inl upd_same)), rfl, rfl, _, rfl, no_if rfl ?_⟩⟩
    refine ⟨_, rfl, small (by decide), fun p2 n2 => ⟨p2, _, rfl, .inr (.inl (.inl upd_same)), rfl, rfl, _, rfl, no_if rfl ?_⟩⟩
    refine ⟨_, rfl, small (by decide), fun p3 n3 => ⟨p3, _, rfl, .inr (.inl (.inl upd_same)), rfl, rfl, _, rfl, no_if rfl ?_⟩⟩
    refine ⟨_, rfl, small (by decide), fun p4 n4 => ⟨p4, _, rfl, .inr (.inl (.inl upd_same)), rfl, rfl, _, rfl, is_if rfl ?_⟩⟩
    have sH := (Same.trans (Same.trans (Same.trans (Same.trans (Same.trans (fun _ _ h => h : Same H H) (same_new n0 (.tup [.int 1, .int 2]))) (same_new n1 (.tup [.int 4, .int 5, .int 6]))) (same_new n2 (.tup [.int 7, .int 11]))) (same_new n3 (.tup [.int 8, .int 9]))) (same_new n4 (.tup [.int 12, .int 13])))
    exact ⟨.ref a, rfl, rfl, D, dd, fs, v, rfl, rfl, xf, no, sH _ _ at_d, lk, q _ sH⟩
  | 13, _, fn =>
    obtain rfl : n = "rule" := (Option.some.inj fn).symm
    refine ⟨_, rfl, rfl, _, rfl, no_if rfl ?_⟩
    refine ⟨_, rfl, small (by decide), fun p0 n0 => ⟨p0, _, rfl, .inr (.inl (.inl upd_same)), rfl, rfl, _, rfl, no_if rfl ?_⟩⟩
    refine ⟨_, rfl, rfl, _, rfl, no_if rfl ?_⟩
    refine ⟨_, rfl, small (by decide), fun p1 n1 => ⟨p1, _, rfl, .inr (.inl (.inl upd_same)), rfl, rfl, _, rfl, no_if rfl ?_⟩⟩
    refine ⟨_, rfl, small (by decide), fun p2 n2 => ⟨p2, _, rfl, .inr (.inl (.inl upd_same)), rfl, rfl, _, rfl, no_if rfl ?_⟩⟩
    refine ⟨_, rfl, small (by decide), fun p3 n3 => ⟨p3, _, rfl, .inr (.inl (.inl upd_same)), rfl, rfl, _, rfl, no_if rfl ?_⟩⟩
    refine ⟨_, rfl, small (by decide), fun p4 n4 => ⟨p4, _, rfl, .inr (.inl (.inl upd_same)), rfl, rfl, _, rfl, is_if rfl ?_⟩⟩
    have sH := (Same.trans (Same.trans (Same.trans (Same.trans (Same.trans (fun _ _ h => h : Same H H) (same_new n0 (.tup [.int 1, .int 2]))) (same_new n1 (.tup [.int 4, .int 5, .int 6]))) (same_new n2 (.tup [.int 7, .int 11]))) (same_new n3 (.tup [.int 8, .int 9]))) (same_new n4 (.tup [.int 12, .int 13])))
    exact ⟨.ref a, rfl, rfl, D, dd, fs, v, rfl, rfl, xf, no, sH _ _ at_d, lk, q _ sH⟩
  | 14, _, fn => nomatch (show (none : Option Str) = some n from fn)
  | 15, _, fn => nomatch (show (none : Option Str) = some n from fn)
  | 16, _, fn => nomatch (show (none : Option Str) = some n from fn)
  | 17, _, fn => nomatch (show (none : Option Str) = some n from fn)
end
end Lw

namespace Lw
open PySem PySem.Spec PyProof.Rows L2
abbrev sRight : Stmt := topS 28
abbrev NRight : List Str := ["_law_kind", "_law_thing", "_law_held", "_law_e", "_law_flags_here", "_law_at"]
theorem takes_none {X : Cx} : L2N.Takes X (fun _ _ _ _ => False) := fun _ _ x => by
  obtain ⟨_, _, _, _, _, _, _, _, _, _, _, _, _, _, _, _, z⟩ := x
  exact z.elim
/-- what the isinstance questions answer -/
structure Tab (K : PySem.W.Frag) (B : Addr) (C : Nat → Addr) : Prop where
  own : ∀ i j, i < 18 → j < 18 → PySem.W.kitOne K (.ref (C i)) (.ref (C j)) = some (j == i)
  base : ∀ j, j < 18 → PySem.W.kitOne K (.ref B) (.ref (C j)) = some false
  val : ∀ i, i < 18 → PySem.W.kitOne K (.ref (C i)) (.type "ValueError") = some true
  bval : PySem.W.kitOne K (.ref B) (.type "ValueError") = some true
  bB : PySem.W.exmOne K (.ref B) (.ref B) = some true
def spRight : Sp := fun vs H Q _ => ∃ (k : Nat) (y : V), vs = [.int k, y] ∧ k < 18 ∧ Sim y ∧ ∀ H', Same H H' → Q (.bl true) H'
theorem left_of {C : Nat → Addr} {k : Nat} {y : V} {H : Hp} {E : XK} (h : ∀ d H2, Same H H2 → (∀ n, fldN k = some n → ∃ dd, d = some dd ∧ H2 dd = some (.xd [(n, y)])) → ExD H2 d → E (.ref (C k)) d H2) : Left C k y H E := by
  unfold Left
  cases e : fldN k with
  | none => exact h none H (fun _ _ q => q) (fun n z => by rw [e] at z; cases z) (fun dd z => nomatch z)
  | some n => exact fun d nd => h (some d) _ (same_new nd _) (fun m z => by rw [e] at z; cases z; exact ⟨d, rfl, upd_same⟩) (fun dd z => by cases z; exact ⟨_, upd_same⟩)
theorem right_body {C : Nat → Addr} {k : Nat} {h : Addr} {W : WX} {D : Ends} {σ : L2.St} {H1 : Hp} (hk : k < 18) (h0 : σ[0]? = some (some (.int k))) (h2 : σ[2]? = some (some (.ref h))) (core : Left C k (.ref h) H1 (fun cls d H => W cls d σ H)) :
    tSeq (tIfS (tTest (tOp (rI0 fun i j => V.bl (decide (i < j))) (tVar 0) (tC (V.int 9)))) (tDrop (tCallS (spRaised C) (WE W) (tCons (tVar 0) (tCons (tVar 2) tNil)))) tNext) (tDrop (tCallS (spRaisedToo C) (WE W) (tCons (tVar 0) (tCons (tVar 2) tNil)))) D σ H1 := by
  by_cases c : k < 9
  · exact ⟨_, h0, _, _, rfl, rfl, _, rfl, is_if (decide_eq_true (by omega)) ⟨_, h0, _, h2, k, .ref h, rfl, c, core⟩⟩
  · exact ⟨_, h0, _, _, rfl, rfl, _, rfl, no_if (decide_eq_false (by omega)) ⟨_, h0, _, h2, k, .ref h, rfl, by omega, hk, core⟩⟩
theorem in_five : ∀ k : Nat, k < 18 → inV (V.int k) [.int 10, .int 14, .int 15, .int 16, .int 17] = (fldN k).isNone := by decide
theorem int_is {j k : Nat} : decide (V.int (0 + (j : Int)) = V.int (k : Int)) = (j == k) := by
  by_cases e : j = k
  · subst e
    simp
  · have n : ¬ V.int (0 + (j : Int)) = V.int (k : Int) := fun z => e (by have := V.int.inj z; omega)
    rw [decide_eq_false n]
    exact (beq_eq_false_iff_ne.mpr e).symm
theorem dp_bools {K : PySem.W.Frag} {H : Hp} (t : Nat → Bool) : ∀ l : List Nat, DpAll K H (l.map fun j => .bl (t j)) (l.map fun j => .bool (t j))
  | [] => .nil
  | j :: l => .cons (.bl _) (dp_bools t l)
section
variable {P : Program} {w : World} {K : PySem.W.Frag} {mg : Str → Option Value} {base : Heap}
theorem scRight : FnScope NRight ["_law_kind", "_law_thing"] (defScope sRight) := ⟨rfl, rfl, rfl, by decide +kernel, rfl, by decide +kernel, by decide +kernel⟩
/-- a def that one may call by its name -/
structure Named (K : PySem.W.Frag) (mg : Str → Option Value) (x : Str) (f : Addr) (fd : FuncData) (ps : List Str) : Prop where
  m : mg x = some (.ref f)
  k : PySem.W.keepIn K (.ref f) = true
  b : Binds K fd ps []
theorem errs_cls {B : Addr} {C : Nat → Addr} (T : Errs P w K mg base B C) : ∀ k, k < 18 → ∃ x, ClsT K mg B (C k) x := by
  intro k hk
  match k, hk with
  | 0, _ => exact ⟨_, T.t0.t⟩
  | 1, _ => exact ⟨_, T.t1.t⟩
  | 2, _ => exact ⟨_, T.t2.t⟩
  | 3, _ => exact ⟨_, T.t3.t⟩
  | 4, _ => exact ⟨_, T.t4.t⟩
  | 5, _ => exact ⟨_, T.t5.t⟩
  | 6, _ => exact ⟨_, T.t6.t⟩
  | 7, _ => exact ⟨_, T.t7.t⟩
  | 8, _ => exact ⟨_, T.t8.t⟩
  | 9, _ => exact ⟨_, T.t9.t⟩
  | 10, _ => exact ⟨_, T.t10.t⟩
  | 11, _ => exact ⟨_, T.t11.t⟩
  | 12, _ => exact ⟨_, T.t12.t⟩
  | 13, _ => exact ⟨_, T.t13.t⟩
  | 14, _ => exact ⟨_, T.t14.t⟩
  | 15, _ => exact ⟨_, T.t15.t⟩
  | 16, _ => exact ⟨_, T.t16.t⟩
  | 17, _ => exact ⟨_, T.t17.t⟩
  | n + 18, h => exact absurd h (by omega)
theorem errs_no {B : Addr} {C : Nat → Addr} (T : Errs P w K mg base B C) {n : Str} : ∀ k, k < 18 → fldN k = some n → PySem.W.findIn K (.ref (C k)) n = some none := by
  intro k hk fn
  match k, hk, fn with
  | 0, _, fn => exact (Option.some.inj fn) ▸ T.t0.no
  | 1, _, fn => exact (Option.some.inj fn) ▸ T.t1.no
  | 2, _, fn => exact (Option.some.inj fn) ▸ T.t2.no
  | 3, _, fn => exact (Option.some.inj fn) ▸ T.t3.no
  | 4, _, fn => exact (Option.some.inj fn) ▸ T.t4.no
  | 5, _, fn => exact (Option.some.inj fn) ▸ T.t5.no
  | 6, _, fn => exact (Option.some.inj fn) ▸ T.t6.no
  | 7, _, fn => exact (Option.some.inj fn) ▸ T.t7.no
  | 8, _, fn => exact (Option.some.inj fn) ▸ T.t8.no
  | 9, _, fn => exact (Option.some.inj fn) ▸ T.t9.no
  | 10, _, fn => nomatch fn
  | 11, _, fn => exact (Option.some.inj fn) ▸ T.t11.no
  | 12, _, fn => exact (Option.some.inj fn) ▸ T.t12.no
  | 13, _, fn => exact (Option.some.inj fn) ▸ T.t13.no
  | 14, _, fn => nomatch fn
  | 15, _, fn => nomatch fn
  | 16, _, fn => nomatch fn
  | 17, _, fn => nomatch fn
theorem ok_right {B : Addr} {C : Nat → Addr} {f f1 f2 f3 f4 : Addr} {fd fd1 fd2 fd3 fd4 : FuncData} (F : Fun K "_law_right" "_law_right" sRight f fd) (T : Errs P w K mg base B C) (tab : Tab K B C)
    (F1 : FnOk P w K mg base (L2N.CX P w) 3 f1 fd1 ["_law_kind", "_law_thing"] (spRaised C)) (m1 : Named K mg "_law_raised" f1 fd1 ["_law_kind", "_law_thing"])
    (F2 : FnOk P w K mg base (L2N.CX P w) 3 f2 fd2 ["_law_kind", "_law_thing"] (spRaisedToo C)) (m2 : Named K mg "_law_raised_too" f2 fd2 ["_law_kind", "_law_thing"])
    (F3 : FnE P w K mg base 1 f3 fd3 ["_law_e"] (spFlags K C)) (m3 : Named K mg "_law_flags" f3 fd3 ["_law_e"])
    (F4 : FnE P w K mg base 1 f4 fd4 ["_law_kind", "_law_e"] (spField K)) (m4 : Named K mg "_law_field" f4 fd4 ["_law_kind", "_law_e"])
    (gB : mg "CheckError" = some (.ref B)) (mrange : mg "range" = none) (mis : mg "isinstance" = none) (mval : mg "ValueError" = none) : FnOk P w K mg base CX0 4 f fd ["_law_kind", "_law_thing"] spRight := by
  refine F.ok scRight (fun vs H Q E h => ?_) (fun cdv A outer s H vs Q E hr h => ?_)
  · obtain ⟨k, y, rfl, _⟩ := h
    rfl
  obtain ⟨k, y, rfl, hk, sim, q⟩ := h
  have r1 : L2H.RoomH 1 _ := L2H.roomH_of (hr.mono (j := 1) (by decide))
  refine ⟨_, pss_cons (ps_set (i := 2) scRight.nd rfl (.inl rfl) (pe_lst (pa_cons (pv 1) pa_nil)))
    (pss_cons (L2N.ps_try_as (i := 3) (Wout := fun _ _ _ _ => False) rfl rfl scRight.nd rfl rfl ⟨rfl, by decide, .inl gB⟩ takes_none
      (fun W pn xe tk _ => pss_cons (ps_if (pt_cmpR op_lt (pv 0) pe_int (nomark _)) (pss_one (ps_expr (pe_callS F1 (hr.mono (by decide)) (by rfl) m1.m m1.k m1.b (fun σ => L2N.passAt tk σ) (pa_cons (pv 0) (pa_cons (pv 2) pa_nil))))) pss_nil)
        (pss_one (ps_expr (pe_callS F2 (hr.mono (by decide)) (by rfl) m2.m m2.k m2.b (fun σ => L2N.passAt tk σ) (pa_cons (pv 0) (pa_cons (pv 2) pa_nil))))))
      (fun a oe cls d pn hz hf => pss_cons (ps_set (i := 4) scRight.nd rfl (.inl rfl) (pe_callE F3 r1 hz.zc hf (by rfl) m3.m m3.k m3.b (pa_cons (pv 3) pa_nil)))
        (pss_cons (ps_if (PW.pt (pw_or (pt_cmpR (r := rNeD K) (op_neD hr.units) (pv 4) (pe_lcH (own := [("_law_at", 5)]) (g := gName 5) (by obtain ⟨fv, e⟩ := hf; exact ⟨(a, oe), ⟨rfl, fv, e, hz.2.2 fv e⟩, List.mem_cons_self⟩) scRight.nd (L2H.pi_range1H (by rfl) mrange (pa_cons pe_int pa_nil)) (blkOk_by (N := NRight) (sc := defScope sRight) (by decide +kernel)) (fun _ _ _ _ _ => pg_name (i := 5) scRight.nd rfl (Or.inl rfl)) (fun _ _ _ _ _ => pe_cmpR op_eq (pv 5) (pv 0) (nomark _))) (nomark _))
          (pw_or1 (pt_not (pt_val (pe_callB (r := rIsX K cls a d) (call_isX hz.zc hf) (by rfl) mis (by decide +kernel) (pa_cons (pv 3) (pa_cons (pe_bltn (v := .ty "ValueError") (by rfl) mval (by decide +kernel) rfl) pa_nil)))))))) (pss_one (ps_ret pe_bl)) pss_nil)
        (pss_cons (ps_expr (show PE _ _ (tBM K "list" rAppend (tVar 2) (tCons (tVar 0) tNil)) from pe_bm PySem.F.plainAttrs_list PySem.F.slot_list_append PySem.F.type_list_append mt_append (pv 2) (pa_cons (pv 0) pa_nil)))
        (pss_one (ps_ret (pe_or (pe_cmpR (r := rIn K false) op_in_seq (pv 0) (pe_tup (pa_cons pe_int (pa_cons pe_int (pa_cons pe_int (pa_cons pe_int (pa_cons pe_int pa_nil)))))) (by rfl))
          (pe_one (pe_cmpR (r := rEqV K) (op_eqV hr.units) (pe_callE F4 r1 hz.zc hf (by rfl) m4.m m4.k m4.b (pa_cons (pv 0) (pa_cons (pv 3) pa_nil))) (pe_lst (pa_cons (pv 1) (pa_cons (pv 0) pa_nil))) (nomark _))))))))))
    (pss_one (ps_ret pe_bl))), ?_⟩
  obtain ⟨nm, cc⟩ := errs_cls T k hk
  refine ⟨y, rfl, small (by show 1 ≤ 1000; decide), fun h nh => ?_⟩
  have s1 : Same H (upd H h (.lst [y])) := same_new nh _
  have e1 : (upd H h (.lst [y])) h = some (.lst [y]) := upd_same
  show tSeq _ _ _ _ (upd H h (.lst [y]))
  generalize (upd H h (.lst [y])) = H1 at s1 e1 ⊢
  refine right_body hk rfl rfl (left_of fun d H2 s2 fd xd => ?_)
  refine ⟨true, cc.em, fun _ a na => ?_, fun z => nomatch z⟩
  refine ⟨.ref a, rfl, C k, fun j => j == k, rfl, rfl, cc.ec, cc.cl, xd, fun j hj => tab.own k j hk hj, fun p H3 np s3 e3 => ?_⟩
  refine ⟨.ref p, rfl, 18, rfl, by decide, by decide, fun L nL => ?_⟩
  refine lc_range (lo := 0) (n := 18) (fun i H4 => Same H3 H4 ∧ H4 L = some (.lst ((List.range i).map fun j => .bl (j == k)))) ⟨same_new nL _, upd_same⟩ ?_ ?_
  · rintro j H4 hj ⟨s4, e4⟩
    refine ⟨rfl, yes_if ?_⟩
    refine ⟨_, rfl, _, rfl, rfl, _, e4, small1000 (by rw [List.length_map, List.length_range]; omega), Same.put s4 nL, ?_⟩
    rw [upd_same, List.range_succ, List.map_append, int_is]
    rfl
  rintro H4 ⟨s4, e4⟩
  have dl := dp_bools (K := K) (H := H4) (fun j => j == k) (List.range 18)
  refine ⟨_, _, .lst (SqL.of (s4 _ _ e3)) dl, .lst (SqL.of e4) dl, rfl, rfl, _, rfl, no_if ?_ ?_⟩
  · rw [SeqAt.eqv_refl _ (by rfl)]
    rfl
  have s14 : Same H1 H4 := (s2.trans s3).trans s4
  refine ⟨.ref a, rfl, C k, _, _, true, rfl, cc.ec, cc.cl, rfl, fun u r => r, tab.val k hk, xd.mono (s3.trans s4), true, rfl, no_if rfl ?_⟩
  refine ⟨.ref h, rfl, .inl ⟨rfl, _, SqL.of (s14 _ _ e1)⟩, .int k, rfl, h, _, _, rfl, rfl, s14 _ _ e1, small1000 (by show 1 ≤ 1000; decide), ?_⟩
  have s5 : Same H (upd H4 h (.lst ([y] ++ [.int k]))) := Same.put (s1.trans s14) nh
  have e5 : (upd H4 h (.lst ([y] ++ [.int k]))) h = some (.lst ([y] ++ [.int k])) := upd_same
  have x5 : ∀ n, fldN k = some n → ∃ dd, d = some dd ∧ (upd H4 h (.lst ([y] ++ [.int k]))) dd = some (.xd [(n, .ref h)]) := fun n z => by
    obtain ⟨dd, ed, ex⟩ := fd n z
    have ne : dd ≠ h := fun z => by
      rw [z, s2 _ _ e1] at ex
      cases ex
    exact ⟨dd, ed, by rw [upd_ne ne]; exact s4 _ _ (s3 _ _ ex)⟩
  generalize (upd H4 h (.lst ([y] ++ [.int k]))) = H5 at s5 e5 x5 ⊢
  refine ⟨.int k, rfl, small (by show 5 ≤ 1000; decide), fun t nt => ⟨t, _, rfl, .inr (.inl (.inl upd_same)), rfl, rfl, _, rfl, ?_⟩⟩
  have s6 := s5.trans (same_new nt (.tup [.int 10, .int 14, .int 15, .int 16, .int 17]))
  have t6 := same_new nt (.tup [.int 10, .int 14, .int 15, .int 16, .int 17])
  have five : inV (V.int k) [.int 10, .int 14, .int 15, .int 16, .int 17] = (fldN k).isNone := in_five k hk
  cases fn : fldN k with
  | none =>
    rw [fn] at five
    exact is_if five (q _ s6)
  | some n =>
    rw [fn] at five
    obtain ⟨dd, ed, ex⟩ := x5 n fn
    refine no_if five ?_
    refine ⟨.int k, rfl, .ref a, rfl, k, .ref h, n, C k, dd, [(n, .ref h)], rfl, hk, fn, rfl, cc.xf, errs_no T k hk fn, ed, t6 _ _ ex, by simp [List.lookup], fun H7 s7 => ?_⟩
    refine ⟨y, rfl, .int k, rfl, small (by show 2 ≤ 1000; decide), fun M nM => ?_⟩
    have sM := same_new nM (.lst [y, .int k])
    exact ⟨1, by decide, .inl ⟨h, M, [y, .int k], [y, .int k], rfl, rfl, SqL.of (sM _ _ (s7 _ _ (t6 _ _ e5))), SqL.of upd_same, .cons (sim.eqv 0) (.cons (.inl ⟨rfl, rfl⟩) .nil)⟩, q _ ((s6.trans s7).trans sM)⟩
end
end Lw

namespace Lw
open PySem PySem.Spec PyProof.Rows L2
/-- a list held against the empty one -/
def rEqE (K : PySem.W.Frag) : R2 := fun x y H Q => ∃ (a b : Addr) (xs : List V), x = .ref a ∧ y = .ref b ∧ SqL K H a xs ∧ SqL K H b [] ∧ Q (.bl xs.isEmpty) H
theorem op_eqE {X : Cx} (hu : X.A.units + 64 < cLine) : OpR X (compareOp .Eq) (rEqE X.K) := by
  intro pl s σ H x y v u Q J rx ry h
  obtain ⟨a, b, xs, rfl, rfl, ha, hb, q⟩ := h
  cases xs with
  | nil => exact op_eqV hu pl s σ H _ _ v u Q J rx ry ⟨1, by decide, .inl ⟨a, b, [], [], rfl, rfl, ha, hb, .nil⟩, q⟩
  | cons z zs =>
    cases (show v = Value.ref a from rx)
    cases (show u = Value.ref b from ry)
    obtain ⟨us, ra, pa, _⟩ := J.list ha
    obtain ⟨ws, rb, pb, _⟩ := J.list hb
    cases rb
    cases ra
    exact SeqAt.eq_list_lengthsAt pa.isList pb.isList (by simp) (by omega) ⟨.bl false, H, J, rfl, q⟩
def rLenQ (K : PySem.W.Frag) : List V → Hp → VK → Prop := fun xs H Q => ∃ p ys, xs = [.ref p] ∧ (SqL K H p ys ∨ SqT K H p ys) ∧ Q (.int ys.length) H
abbrev sBaseR : Stmt := topS 29
abbrev NBaseR : List Str := ["_law_things", "_law_e"]
def spBaseR : Sp := fun vs H Q _ => ∃ (p : Addr) (xs : List V), vs = [.ref p] ∧ H p = some (.lst xs) ∧ xs.length ≤ 2 ∧ ∀ H', Same H H' → Q (.bl true) H'
theorem base_body {K : PySem.W.Frag} {R : L2.St → Hp → Prop} {D : Ends} {p : Addr} {xs : List V} {σ : L2.St} {H : Hp} (h0 : σ[0]? = some (some (.ref p))) (hp : H p = some (.lst xs)) (two : xs.length ≤ 2) (core : ∀ H2, Same H H2 → R σ H2) :
    tSeq (tIfS (tTest (tOp (rEqE K) (tVar 0) (tLst tNil))) (fun _ σ H1 => R σ H1) tNext)
      (tSeq (tIfS (tTest (tOp rEq (tCB (rLenQ K) (tCons (tVar 0) tNil)) (tC (V.int 1)))) (fun _ σ H1 => tCons (tOp (rIxL K) (tVar 0) (tC (V.int 0))) tNil σ H1 fun vs H2 => vs.length ≤ sizeLine ∧ R σ H2) tNext)
        (fun _ σ H1 => tCons (tOp (rIxL K) (tVar 0) (tC (V.int 0))) (tCons (tOp (rIxL K) (tVar 0) (tC (V.int 1))) (tCons (tVar 0) tNil)) σ H1 fun vs H2 => vs.length ≤ sizeLine ∧ R σ H2)) D σ H := by
  refine ⟨_, h0, small (Nat.zero_le _), fun L nL => ⟨p, L, xs, rfl, rfl, SqL.of ((same_new nL _) _ _ hp), SqL.of upd_same, _, rfl, ?_⟩⟩
  have s1 := same_new nL (.lst [])
  have hp1 := s1 _ _ hp
  match xs, two, hp1 with
  | [], _, _ => exact is_if rfl (core _ s1)
  | [x], _, hp1 =>
    refine no_if rfl ⟨_, h0, p, _, rfl, .inl (SqL.of hp1), rfl, _, rfl, is_if rfl ?_⟩
    exact ⟨_, h0, p, _, 0, x, rfl, rfl, SqL.of hp1, atI_nat (j := 0) rfl, small (by show 1 ≤ 1000; decide), core _ s1⟩
  | [x, y], _, hp1 =>
    refine no_if rfl ⟨_, h0, p, _, rfl, .inl (SqL.of hp1), rfl, _, rfl, no_if rfl ?_⟩
    exact ⟨_, h0, p, _, 0, x, rfl, rfl, SqL.of hp1, atI_nat (j := 0) rfl, _, h0, p, _, 1, y, rfl, rfl, SqL.of hp1, atI_nat (j := 1) rfl, _, h0, small (by show 3 ≤ 1000; decide), core _ s1⟩
section
variable {P : Program} {w : World} {K : PySem.W.Frag} {mg : Str → Option Value} {base : Heap}
theorem scBaseR : FnScope NBaseR ["_law_things"] (defScope sBaseR) := ⟨rfl, rfl, rfl, by decide +kernel, rfl, by decide +kernel, by decide +kernel⟩
theorem ok_base {B : Addr} {C : Nat → Addr} {f f3 : Addr} {fd fd3 : FuncData} (F : Fun K "_law_base_right" "_law_base_right" sBaseR f fd) (tab : Tab K B C) (F3 : FnE P w K mg base 1 f3 fd3 ["_law_e"] (spFlags K C)) (m3 : Named K mg "_law_flags" f3 fd3 ["_law_e"])
    (gB : mg "CheckError" = some (.ref B)) (kB : PySem.W.keepIn K (.ref B) = true) (qB : PySem.W.excIn K B [.type "ValueError", .type "Exception", .type "BaseException", .type "object"] "ValueError.__new__" = true)
    (xB : PySem.W.subIn K (.ref B) (.type "BaseException") = some true) (tB : PySem.W.typeIn K (.ref B) = some (.type "type")) (eB : ExcC K B) (cB : (PySem.W.clsIn K B).isSome = true)
    (mis : mg "isinstance" = none) (mval : mg "ValueError" = none) (mlen : mg "len" = none) : FnOk P w K mg base CX0 2 f fd ["_law_things"] spBaseR := by
  refine F.ok scBaseR (fun vs H Q E h => ?_) (fun cdv A outer s H vs Q E hr h => ?_)
  · obtain ⟨p, xs, rfl, _⟩ := h
    rfl
  obtain ⟨p, xs, rfl, hp, two, q⟩ := h
  have r1 : L2H.RoomH 1 _ := L2H.roomH_of hr
  refine ⟨_, pss_one (L2N.ps_try_as (i := 1) (Wout := fun _ _ _ _ => False) rfl rfl scBaseR.nd rfl rfl ⟨rfl, by decide, .inl gB⟩ takes_none
      (fun W pn xe tk _ => pss_cons (ps_if (pt_cmpR (r := rEqE K) (op_eqE hr.units) (pv 0) (pe_lst pa_nil) (nomark _)) (pss_one (L2N.ps_raise rfl tk (pmk_own0 PySem.F.excBase_ValueError qB gB kB (raises_own xB tB) (by rfl)))) pss_nil)
        (pss_cons (ps_if (pt_cmpR op_eq (pe_callB (id := "len") (r := rLenQ K) call_len_seq (by rfl) mlen (by decide +kernel) (pa_cons (pv 0) pa_nil)) pe_int (nomark _)) (pss_one (L2N.ps_raise rfl tk (pmk_ownN PySem.F.excBase_ValueError qB gB kB (raises_own xB tB) (by rfl) (pa_cons (pe_ix (r := rIxL K) ix_list (pv 0) pe_int (fun _ _ => rfl)) pa_nil)))) pss_nil)
        (pss_one (L2N.ps_raise rfl tk (pmk_ownN PySem.F.excBase_ValueError qB gB kB (raises_own xB tB) (by rfl) (pa_cons (pe_ix (r := rIxL K) ix_list (pv 0) pe_int (fun _ _ => rfl)) (pa_cons (pe_ix (r := rIxL K) ix_list (pv 0) pe_int (fun _ _ => rfl)) (pa_cons (pv 0) pa_nil))))))))
      (fun a oe cls d pn hz hf => pss_one (ps_ret (pe_and (pe_cmpR (r := rIn K true) op_notIn_seq pe_bl (pe_callE F3 r1 hz.zc hf (by rfl) m3.m m3.k m3.b (pa_cons (pv 1) pa_nil)) (by rfl))
          (pe_one (pe_callB (r := rIsX K cls a d) (call_isX hz.zc hf) (by rfl) mis (by decide +kernel) (pa_cons (pv 1) (pa_cons (pe_bltn (v := .ty "ValueError") (by rfl) mval (by decide +kernel) rfl) pa_nil)))))))), ?_⟩
  refine base_body rfl hp two fun H2 s2 => ?_
  refine ⟨true, tab.bB, fun _ a na => ?_, fun z => nomatch z⟩
  refine ⟨.ref a, rfl, B, fun _ => false, rfl, rfl, eB, cB, (fun dd z => nomatch z), fun j hj => tab.base j hj, fun r H3 nr s3 e3 => ?_⟩
  refine ⟨r, _, rfl, .inl (SqL.of e3), rfl, rfl, true, rfl, is_if rfl ?_⟩
  exact ⟨.ref a, rfl, B, _, _, true, rfl, eB, cB, rfl, fun u r => r, tab.bval, (fun dd z => nomatch z), q _ (s2.trans s3)⟩
end
end Lw

namespace Lw
open PySem PySem.Spec PyProof.Rows L2
abbrev sLaw : Stmt := topS 30
abbrev NLaw : List Str := ["_law_script", "_law_bag_here", "_law_large", "_law_turn", "_law_kind", "_law_things"]
def spLaw (K : PySem.W.Frag) : Sp := fun vs H Q _ => ∃ (a : Addr) (ns : List Int), vs = [.ref a] ∧ SqL K H a (ns.map V.int) ∧ ns.length ≤ 63 ∧ ∀ H', Q (.bl true) H'
theorem wide7 : ∀ i : Nat, i < 7 → CMulW ((7 : Int) ^ (2 ^ i)) ((7 : Int) ^ (2 ^ i)) := by
  unfold CMulW
  decide +kernel
section
variable {P : Program} {w : World} {K : PySem.W.Frag} {mg : Str → Option Value} {base : Heap}
theorem scLaw : FnScope NLaw ["_law_script"] (defScope sLaw) := ⟨rfl, rfl, rfl, by decide +kernel, rfl, by decide +kernel, by decide +kernel⟩
theorem ok_law {f f1 f2 f3 f4 : Addr} {fd fd1 fd2 fd3 fd4 : FuncData} (F : Fun K "law" "law" sLaw f fd)
    (F1 : FnOk P w K mg base CX0 1 f1 fd1 ["_law_script"] (spBag K)) (m1 : Named K mg "_law_bag" f1 fd1 ["_law_script"])
    (F2 : FnOk P w K mg base CX0 2 f2 fd2 ["_law_bag_here"] spOdd) (m2 : Named K mg "_law_odd" f2 fd2 ["_law_bag_here"])
    (F3 : FnOk P w K mg base CX0 4 f3 fd3 ["_law_kind", "_law_thing"] spRight) (m3 : Named K mg "_law_right" f3 fd3 ["_law_kind", "_law_thing"])
    (F4 : FnOk P w K mg base CX0 2 f4 fd4 ["_law_things"] spBaseR) (m4 : Named K mg "_law_base_right" f4 fd4 ["_law_things"]) (mrange : mg "range" = none) : FnOk P w K mg base CX0 5 f fd ["_law_script"] (spLaw K) := by
  refine F.ok scLaw (fun vs H Q E h => ?_) (fun cdv A outer s H vs Q E hr h => ?_)
  · obtain ⟨a, ns, rfl, _⟩ := h
    rfl
  obtain ⟨a, ns, rfl, hS, h63, q⟩ := h
  refine ⟨_, pss_cons (ps_set (i := 1) scLaw.nd rfl (.inl rfl) (pe_call F1 (hr.mono (by decide)) (by rfl) m1.m m1.k m1.b .nil pass0 (pa_cons (pv 0) pa_nil)))
    (pss_cons (ps_set (i := 2) scLaw.nd rfl (.inl rfl) pe_int)
    (pss_cons (ps_for PassesOwn.never rfl (pi_range1 (by rfl) mrange (pa_cons pe_int pa_nil)) (pg_name (i := 3) scLaw.nd rfl (.inl rfl)) (pss_one (ps_set (i := 2) scLaw.nd rfl (.inl rfl) (pe_op op_mulW (pv 2) (pv 2)))))
    (pss_cons (ps_for PassesOwn.never rfl (pi_range1 (by rfl) mrange (pa_cons pe_int pa_nil)) (pg_name (i := 4) scLaw.nd rfl (.inl rfl)) (pss_one (ps_if (PW.pt (pw_or (pt_not (pt_val (pe_call F3 (hr.mono (by decide)) (by rfl) m3.m m3.k m3.b .nil pass0 (pa_cons (pv 4) (pa_cons (pe_call F2 (hr.mono (by decide)) (by rfl) m2.m m2.k m2.b .nil pass0 (pa_cons (pv 1) pa_nil)) pa_nil)))))
        (pw_or1 (pt_not (pt_val (pe_call F3 (hr.mono (by decide)) (by rfl) m3.m m3.k m3.b .nil pass0 (pa_cons (pv 4) (pa_cons (pe_lst (pa_cons (pv 2) (pa_cons pe_str pa_nil))) pa_nil)))))))) (pss_one (ps_ret pe_bl)) pss_nil)))
    (pss_cons (ps_set (i := 5) scLaw.nd rfl (.inl rfl) (pe_lst (pa_cons (pe_call F2 (hr.mono (by decide)) (by rfl) m2.m m2.k m2.b .nil pass0 (pa_cons (pv 1) pa_nil)) (pa_cons (pe_call F2 (hr.mono (by decide)) (by rfl) m2.m m2.k m2.b .nil pass0 (pa_cons (pv 1) pa_nil)) pa_nil))))
    (pss_one (ps_ret (pe_and (pe_call F4 (hr.mono (by decide)) (by rfl) m4.m m4.k m4.b .nil pass0 (pa_cons (pv 5) pa_nil)) (pe_and (pe_call F4 (hr.mono (by decide)) (by rfl) m4.m m4.k m4.b .nil pass0 (pa_cons (pe_slice sl_list (pv 5) po_none (po_some pe_int)) pa_nil)) (pe_one (pe_call F4 (hr.mono (by decide)) (by rfl) m4.m m4.k m4.b .nil pass0 (pa_cons (pe_lst pa_nil) pa_nil))))))))))), ?_⟩
  refine ⟨.ref a, rfl, a, ns, rfl, hS, h63, fun b c H1 nb nc hb s1 => ?_⟩
  refine ⟨7, rfl, by decide, by decide, for_range (lo := 0) (n := 7) (fun i σ H3 => ∃ (v3 : Option V), i ≤ 7 ∧ σ = [some (.ref a), some (.ref b), some (.int ((7 : Int) ^ (2 ^ i))), v3, none, none] ∧ BagAt H3 b c) ⟨none, by decide, rfl, hb⟩ ?_ ?_⟩
  · rintro i σ H3 hi ⟨v3, i7, rfl, hb3⟩
    have e : (7 : Int) ^ (2 ^ i) * (7 : Int) ^ (2 ^ i) = (7 : Int) ^ (2 ^ (i + 1)) := by rw [← Int.pow_add, ← Nat.two_mul, ← Nat.pow_succ']
    refine ⟨_, rfl, _, rfl, _, _, rfl, rfl, wide7 i hi, some (.int (0 + (i : Int))), by omega, ?_, hb3⟩
    rw [← e]
    rfl
  · rintro σ H3 ⟨v3, _, rfl, hb3⟩
    generalize ((7 : Int) ^ (2 ^ 7)) = big
    refine ⟨18, rfl, by decide, by decide, for_range (lo := 0) (n := 18) (fun i σ H4 => ∃ (v4 : Option V), σ = [some (.ref a), some (.ref b), some (.int big), v3, v4, none] ∧ BagAt H4 b c) ⟨none, rfl, hb3⟩ ?_ ?_⟩
    · rintro i σ H4 hi ⟨v4, rfl, hb4⟩
      rw [Int.zero_add]
      refine ⟨.int i, rfl, .ref b, rfl, b, c, rfl, hb4, fun v H5 sim hb5 B5 => ⟨i, v, rfl, hi, sim, fun H6 s6 => ⟨true, rfl, no_if rfl ?_⟩⟩⟩
      refine ⟨.int i, rfl, .int big, rfl, small (by show 2 ≤ 1000; decide), fun L nL => ⟨i, .ref L, rfl, hi, rfl, fun H7 s7 => ⟨true, rfl, no_if rfl ?_⟩⟩⟩
      exact ⟨some (.int i), rfl, ((hb5.mono s6).new nL).mono s7⟩
    · rintro σ H4 ⟨v4, rfl, hb4⟩
      refine ⟨.ref b, rfl, b, c, rfl, hb4, fun v H5 _ hb5 _ => ⟨.ref b, rfl, b, c, rfl, hb5, fun u H6 _ hb6 _ => ⟨small (by show 2 ≤ 1000; decide), fun T nT => ?_⟩⟩⟩
      refine ⟨.ref T, rfl, T, [v, u], rfl, upd_same, Nat.le_refl 2, fun H7 s7 => ⟨true, rfl, is_if rfl ?_⟩⟩
      have e7 : H7 T = some (.lst [v, u]) := s7 _ _ upd_same
      refine ⟨.ref T, rfl, 1, rfl, T, [v, u], rfl, SqL.of e7, fun p np => ⟨p, cutV [v, u] none (some 1), rfl, upd_same, cutV_length _ _ _, fun H8 s8 => ⟨true, rfl, is_if rfl ?_⟩⟩⟩
      exact ⟨small (Nat.zero_le _), fun L nL => ⟨L, [], rfl, upd_same, Nat.zero_le _, fun H9 s9 => q _⟩⟩
end
end Lw

namespace Lw
open PySem PySem.Spec PyProof.Rows L2
/-- a def of the law: where it stands, and its text -/
structure DefT (K : PySem.W.Frag) (x : Str) (dst : Stmt) (f : Addr) (fd : FuncData) : Prop where
  a : PySem.W.nsIn K mainGlobals x = some (some (.ref f))
  F : Fun K x x dst f fd
/-- an error class with its __init__ -/
structure ErrT (K : PySem.W.Frag) (x q : Str) (dst : Stmt) (C fI : Addr) (fd : FuncData) : Prop where
  a : PySem.W.nsIn K mainGlobals x = some (some (.ref C))
  cls : ∃ nm q N bs bm sn sub ab col dd k0 k1 k2 k3 k5, K.lookup C = some (excClassObj nm q C N bs bm true sn sub ab col dd k0 k1 k2 k3 k5 "ValueError.__new__") ∧ PySem.HandSPX.refsVE bm = true
  i : PySem.W.findIn K (.ref C) "__init__" = some (some (.ref fI))
  t : PySem.W.typeIn K (.ref fI) = some (.type "function")
  F : Fun K "__init__" q dst fI fd
/-- what else is asked of a class, by looking -/
def okC (K : PySem.W.Frag) (B C : Addr) : Bool :=
  decide (PySem.W.findIn K (.ref C) "__setattr__" = some (some (.builtin "object.__setattr__"))) && (decide (PySem.W.subIn K (.ref C) (.type "BaseException") = some true) && (decide (PySem.W.typeIn K (.ref C) = some (.type "type")) &&
  (PySem.W.keepIn K (.ref C) && (decide (PySem.W.findIn K (.ref C) "__getattribute__" = some (some (.builtin "BaseException.__getattribute__"))) && (decide (PySem.W.findIn K (.ref C) "__getattr__" = some none) && (PySem.W.hasDictIn K C &&
  (decide (PySem.W.findIn K (.ref C) "__class__" = some (some (.builtin "object.__class__"))) && (decide (PySem.W.mroIn K C (.type "object") = some true) && ((PySem.W.clsIn K C).isSome && decide (PySem.W.exmOne K (.ref C) (.ref B) = some true))))))))))
structure CKnown (K : PySem.W.Frag) (B C : Addr) : Prop where
  sa : PySem.W.findIn K (.ref C) "__setattr__" = some (some (.builtin "object.__setattr__"))
  ex : PySem.W.subIn K (.ref C) (.type "BaseException") = some true
  ty : PySem.W.typeIn K (.ref C) = some (.type "type")
  kp : PySem.W.keepIn K (.ref C) = true
  ga : PySem.W.findIn K (.ref C) "__getattribute__" = some (some (.builtin "BaseException.__getattribute__"))
  gg : PySem.W.findIn K (.ref C) "__getattr__" = some none
  hd : PySem.W.hasDictIn K C = true
  cc : PySem.W.findIn K (.ref C) "__class__" = some (some (.builtin "object.__class__"))
  mr : PySem.W.mroIn K C (.type "object") = some true
  cl : (PySem.W.clsIn K C).isSome = true
  em : PySem.W.exmOne K (.ref C) (.ref B) = some true
theorem okC_ok {K : PySem.W.Frag} {B C : Addr} (h : okC K B C = true) : CKnown K B C := by
  unfold okC at h
  simp only [Bool.and_eq_true, decide_eq_true_eq] at h
  obtain ⟨h1, h2, h3, h4, h5, h6, h7, h8, h9, h10, h11⟩ := h
  exact ⟨h1, h2, h3, h4, h5, h6, h7, h8, h9, h10, h11⟩
theorem CKnown.ec {K : PySem.W.Frag} {B C : Addr} (x : CKnown K B C) (hn : PySem.W.specialIn K (.builtin "object.__class__") "__get__" = some (some (.builtin "getset_descriptor.__get__"))) (ht : PySem.W.takesIn K (.builtin "object.__class__") = some true) : ExcC K C :=
  ⟨x.ga, x.gg, x.ex, x.hd, x.cc, hn, ht, x.mr⟩
theorem CKnown.clsT {K : PySem.W.Frag} {B C fI : Addr} {mg : Str → Option Value} {h : Heap} {x q : Str} {dst : Stmt} {fd : FuncData} (z : CKnown K B C) (hn : PySem.W.specialIn K (.builtin "object.__class__") "__get__" = some (some (.builtin "getset_descriptor.__get__"))) (ht : PySem.W.takesIn K (.builtin "object.__class__") = some true)
    (kin : K.In h) (G : h.Ns mainGlobals mg) (E : ErrT K x q dst C fI fd) : ClsT K mg B C x :=
  ⟨PySem.W.mg_of kin G E.a, ⟨E.cls, z.sa, z.ex, z.ty, z.kp⟩, ⟨z.ga, z.gg, z.ex, z.hd⟩, z.ec hn ht, z.cl, z.em⟩
/-- the answers of isinstance, by looking -/
def tabB (K : PySem.W.Frag) (B : Addr) (Cs : List Addr) : Bool := (List.range 18).all fun i => ((List.range 18).all fun j => decide (PySem.W.kitOne K (.ref (Cs.getD i 0)) (.ref (Cs.getD j 0)) = some (j == i))) &&
  (decide (PySem.W.kitOne K (.ref B) (.ref (Cs.getD i 0)) = some false) && decide (PySem.W.kitOne K (.ref (Cs.getD i 0)) (.type "ValueError") = some true))
theorem tabB_ok {K : PySem.W.Frag} {B : Addr} {Cs : List Addr} (h : tabB K B Cs = true) (b1 : PySem.W.kitOne K (.ref B) (.type "ValueError") = some true) (b2 : PySem.W.exmOne K (.ref B) (.ref B) = some true) : Tab K B (fun k => Cs.getD k 0) := by
  have row : ∀ i, i < 18 → _ := fun i hi => List.all_eq_true.mp h i (List.mem_range.mpr hi)
  refine ⟨fun i j hi hj => ?_, fun i hi => ?_, fun i hi => ?_, b1, b2⟩
  · exact of_decide_eq_true (List.all_eq_true.mp (Bool.and_eq_true_iff.mp (row i hi)).1 j (List.mem_range.mpr hj))
  · exact of_decide_eq_true (Bool.and_eq_true_iff.mp (Bool.and_eq_true_iff.mp (row i hi)).2).1
  · exact of_decide_eq_true (Bool.and_eq_true_iff.mp (Bool.and_eq_true_iff.mp (row i hi)).2).2
theorem all_mk {l : PySem.W.OpenLaw} {w : World} {K : PySem.W.Frag} {h : Heap} {mg : Str → Option Value} {fa B : Addr} (kin : K.In h) (G : h.Ns mainGlobals mg) (hfa : mg "law" = some (.ref fa))
    {C0 i0 : Addr} {g0 : FuncData}
    {C1 i1 : Addr} {g1 : FuncData}
    {C2 i2 : Addr} {g2 : FuncData}
    {C3 i3 : Addr} {g3 : FuncData}
    {C4 i4 : Addr} {g4 : FuncData}
    {C5 i5 : Addr} {g5 : FuncData}
    {C6 i6 : Addr} {g6 : FuncData}
    {C7 i7 : Addr} {g7 : FuncData}
    {C8 i8 : Addr} {g8 : FuncData}
    {C9 i9 : Addr} {g9 : FuncData}
    {C10 i10 : Addr} {g10 : FuncData}
    {C11 i11 : Addr} {g11 : FuncData}
    {C12 i12 : Addr} {g12 : FuncData}
    {C13 i13 : Addr} {g13 : FuncData}
    {C14 i14 : Addr} {g14 : FuncData}
    {C15 i15 : Addr} {g15 : FuncData}
    {C16 i16 : Addr} {g16 : FuncData}
    {C17 i17 : Addr} {g17 : FuncData}
    {f0 : Addr} {fd0 : FuncData}
    {f1 : Addr} {fd1 : FuncData}
    {f2 : Addr} {fd2 : FuncData}
    {f3 : Addr} {fd3 : FuncData}
    {f4 : Addr} {fd4 : FuncData}
    {f5 : Addr} {fd5 : FuncData}
    {f6 : Addr} {fd6 : FuncData}
    {f7 : Addr} {fd7 : FuncData}
    {f8 : Addr} {fd8 : FuncData}
    {f9 : Addr} {fd9 : FuncData}
    (d0 : DefT K "_law_bag" sBag f0 fd0)
    (d1 : DefT K "_law_take" sTake f1 fd1)
    (d2 : DefT K "_law_odd" sOdd f2 fd2)
    (d3 : DefT K "_law_raised" sRaised f3 fd3)
    (d4 : DefT K "_law_raised_too" sRaisedToo f4 fd4)
    (d5 : DefT K "_law_flags" sFlags f5 fd5)
    (d6 : DefT K "_law_field" sField f6 fd6)
    (d7 : DefT K "_law_right" sRight f7 fd7)
    (d8 : DefT K "_law_base_right" sBaseR f8 fd8)
    (d9 : DefT K "law" sLaw f9 fd9)
    (e0 : ErrT K "Wrong" "Wrong.__init__" (inS 2) C0 i0 g0)
    (e1 : ErrT K "TooMany" "TooMany.__init__" (inS 3) C1 i1 g1)
    (e2 : ErrT K "Full" "Full.__init__" (inS 4) C2 i2 g2)
    (e3 : ErrT K "BadRule" "BadRule.__init__" (inS 5) C3 i3 g3)
    (e4 : ErrT K "BadRow" "BadRow.__init__" (inS 6) C4 i4 g4)
    (e5 : ErrT K "NoRow" "NoRow.__init__" (inS 7) C5 i5 g5)
    (e6 : ErrT K "Taken" "Taken.__init__" (inS 8) C6 i6 g6)
    (e7 : ErrT K "BadStatement" "BadStatement.__init__" (inS 9) C7 i7 g7)
    (e8 : ErrT K "Twice" "Twice.__init__" (inS 10) C8 i8 g8)
    (e9 : ErrT K "Unput" "Unput.__init__" (inS 11) C9 i9 g9)
    (e10 : ErrT K "Unfit" "Unfit.__init__" (inS 12) C10 i10 g10)
    (e11 : ErrT K "NoPlace" "NoPlace.__init__" (inS 13) C11 i11 g11)
    (e12 : ErrT K "Broken" "Broken.__init__" (inS 14) C12 i12 g12)
    (e13 : ErrT K "Illegal" "Illegal.__init__" (inS 15) C13 i13 g13)
    (e14 : ErrT K "NoDeed" "NoDeed.__init__" (inS 16) C14 i14 g14)
    (e15 : ErrT K "Nothing" "Nothing.__init__" (inS 17) C15 i15 g15)
    (e16 : ErrT K "NoText" "NoText.__init__" (inS 18) C16 i16 g16)
    (e17 : ErrT K "NoCommand" "NoCommand.__init__" (inS 19) C17 i17 g17)
    (aB : PySem.W.nsIn K mainGlobals "CheckError" = some (some (.ref B))) (hn : PySem.W.specialIn K (.builtin "object.__class__") "__get__" = some (some (.builtin "getset_descriptor.__get__"))) (ht : PySem.W.takesIn K (.builtin "object.__class__") = some true)
    (qB : PySem.W.excIn K B [.type "ValueError", .type "Exception", .type "BaseException", .type "object"] "ValueError.__new__" = true) (cB : okC K B B = true) (cC : [C0, C1, C2, C3, C4, C5, C6, C7, C8, C9, C10, C11, C12, C13, C14, C15, C16, C17].all (okC K B) = true) (tB : tabB K B [C0, C1, C2, C3, C4, C5, C6, C7, C8, C9, C10, C11, C12, C13, C14, C15, C16, C17] = true) (vB : PySem.W.kitOne K (.ref B) (.type "ValueError") = some true)
    (nF : decide (PySem.W.findIn K (.ref C0) "place" = some none) && (decide (PySem.W.findIn K (.ref C1) "limit" = some none) && (decide (PySem.W.findIn K (.ref C2) "limit" = some none) && (decide (PySem.W.findIn K (.ref C3) "at" = some none) && (decide (PySem.W.findIn K (.ref C4) "ident" = some none) && (decide (PySem.W.findIn K (.ref C5) "ident" = some none) && (decide (PySem.W.findIn K (.ref C6) "ident" = some none) && (decide (PySem.W.findIn K (.ref C7) "address" = some none) && (decide (PySem.W.findIn K (.ref C8) "handle" = some none) && (decide (PySem.W.findIn K (.ref C9) "handle" = some none) && (decide (PySem.W.findIn K (.ref C11) "address" = some none) && (decide (PySem.W.findIn K (.ref C12) "rule" = some none) && (decide (PySem.W.findIn K (.ref C13) "rule" = some none))))))))))))) = true)
    (z1 : PySem.W.nsIn K mainGlobals "abs" = some none) (z2 : PySem.W.nsIn K mainGlobals "int" = some none) (z3 : PySem.W.nsIn K mainGlobals "range" = some none) (z4 : PySem.W.nsIn K mainGlobals "isinstance" = some none) (z5 : PySem.W.nsIn K mainGlobals "ValueError" = some none) (z6 : PySem.W.nsIn K mainGlobals "len" = some none) :
    ∃ fd : FuncData, (∀ (s : Shared) (v : Value), BindsTo s fd ⟨[v], []⟩ [("_law_script", v)]) ∧ ∀ base : Heap, K.In base → base.Ns mainGlobals mg → FnOk l.prog w K mg base CX0 5 fa fd ["_law_script"] (spLaw K) := by
  have e := hfa.symm.trans (PySem.W.mg_of kin G d9.a)
  cases e
  have at_ : ∀ {x : Str} {v : Value}, PySem.W.nsIn K mainGlobals x = some (some v) → mg x = some v := fun z => PySem.W.mg_of kin G z
  have no_ : ∀ {x : Str}, PySem.W.nsIn K mainGlobals x = some none → mg x = none := fun z => PySem.W.mg_none_of kin G z
  have kn := okC_ok cB
  have tab := tabB_ok tB vB kn.em
  have each : ∀ C, C ∈ [C0, C1, C2, C3, C4, C5, C6, C7, C8, C9, C10, C11, C12, C13, C14, C15, C16, C17] → CKnown K B C := fun C hC => okC_ok (List.all_eq_true.mp cC C hC)
  have nof := nF
  simp only [Bool.and_eq_true, decide_eq_true_eq] at nof
  obtain ⟨o0, o1, o2, o3, o4, o5, o6, o7, o8, o9, o11, o12, o13⟩ := nof
  have n0 : Named K mg "_law_bag" f0 fd0 ["_law_script"] := ⟨at_ d0.a, d0.F.kp, d0.F.binds fun _ _ _ _ _ _ us hl => match us, hl with | [_], _ => rfl⟩
  have n1 : Named K mg "_law_take" f1 fd1 ["_law_bag_here", "_law_many"] := ⟨at_ d1.a, d1.F.kp, d1.F.binds fun _ _ _ _ _ _ us hl => match us, hl with | [_, _], _ => rfl⟩
  have n2 : Named K mg "_law_odd" f2 fd2 ["_law_bag_here"] := ⟨at_ d2.a, d2.F.kp, d2.F.binds fun _ _ _ _ _ _ us hl => match us, hl with | [_], _ => rfl⟩
  have n3 : Named K mg "_law_raised" f3 fd3 ["_law_kind", "_law_thing"] := ⟨at_ d3.a, d3.F.kp, d3.F.binds fun _ _ _ _ _ _ us hl => match us, hl with | [_, _], _ => rfl⟩
  have n4 : Named K mg "_law_raised_too" f4 fd4 ["_law_kind", "_law_thing"] := ⟨at_ d4.a, d4.F.kp, d4.F.binds fun _ _ _ _ _ _ us hl => match us, hl with | [_, _], _ => rfl⟩
  have n5 : Named K mg "_law_flags" f5 fd5 ["_law_e"] := ⟨at_ d5.a, d5.F.kp, d5.F.binds fun _ _ _ _ _ _ us hl => match us, hl with | [_], _ => rfl⟩
  have n6 : Named K mg "_law_field" f6 fd6 ["_law_kind", "_law_e"] := ⟨at_ d6.a, d6.F.kp, d6.F.binds fun _ _ _ _ _ _ us hl => match us, hl with | [_, _], _ => rfl⟩
  have n7 : Named K mg "_law_right" f7 fd7 ["_law_kind", "_law_thing"] := ⟨at_ d7.a, d7.F.kp, d7.F.binds fun _ _ _ _ _ _ us hl => match us, hl with | [_, _], _ => rfl⟩
  have n8 : Named K mg "_law_base_right" f8 fd8 ["_law_things"] := ⟨at_ d8.a, d8.F.kp, d8.F.binds fun _ _ _ _ _ _ us hl => match us, hl with | [_], _ => rfl⟩
  have b0 : Binds K g0 ["self", "place"] [] := e0.F.binds fun _ _ _ _ _ _ us hl => match us, hl with | [_, _], _ => rfl
  have c0 : ClsT K mg B C0 "Wrong" := (each C0 (by simp)).clsT hn ht kin G e0
  have b1 : Binds K g1 ["self", "limit"] [] := e1.F.binds fun _ _ _ _ _ _ us hl => match us, hl with | [_, _], _ => rfl
  have c1 : ClsT K mg B C1 "TooMany" := (each C1 (by simp)).clsT hn ht kin G e1
  have b2 : Binds K g2 ["self", "limit"] [] := e2.F.binds fun _ _ _ _ _ _ us hl => match us, hl with | [_, _], _ => rfl
  have c2 : ClsT K mg B C2 "Full" := (each C2 (by simp)).clsT hn ht kin G e2
  have b3 : Binds K g3 ["self", "at"] [] := e3.F.binds fun _ _ _ _ _ _ us hl => match us, hl with | [_, _], _ => rfl
  have c3 : ClsT K mg B C3 "BadRule" := (each C3 (by simp)).clsT hn ht kin G e3
  have b4 : Binds K g4 ["self", "ident"] [] := e4.F.binds fun _ _ _ _ _ _ us hl => match us, hl with | [_, _], _ => rfl
  have c4 : ClsT K mg B C4 "BadRow" := (each C4 (by simp)).clsT hn ht kin G e4
  have b5 : Binds K g5 ["self", "ident"] [] := e5.F.binds fun _ _ _ _ _ _ us hl => match us, hl with | [_, _], _ => rfl
  have c5 : ClsT K mg B C5 "NoRow" := (each C5 (by simp)).clsT hn ht kin G e5
  have b6 : Binds K g6 ["self", "ident"] [] := e6.F.binds fun _ _ _ _ _ _ us hl => match us, hl with | [_, _], _ => rfl
  have c6 : ClsT K mg B C6 "Taken" := (each C6 (by simp)).clsT hn ht kin G e6
  have b7 : Binds K g7 ["self", "address"] [] := e7.F.binds fun _ _ _ _ _ _ us hl => match us, hl with | [_, _], _ => rfl
  have c7 : ClsT K mg B C7 "BadStatement" := (each C7 (by simp)).clsT hn ht kin G e7
  have b8 : Binds K g8 ["self", "handle"] [] := e8.F.binds fun _ _ _ _ _ _ us hl => match us, hl with | [_, _], _ => rfl
  have c8 : ClsT K mg B C8 "Twice" := (each C8 (by simp)).clsT hn ht kin G e8
  have b9 : Binds K g9 ["self", "handle"] [] := e9.F.binds fun _ _ _ _ _ _ us hl => match us, hl with | [_, _], _ => rfl
  have c9 : ClsT K mg B C9 "Unput" := (each C9 (by simp)).clsT hn ht kin G e9
  have b10 : Binds K g10 ["self"] [] := e10.F.binds fun _ _ _ _ _ _ us hl => match us, hl with | [_], _ => rfl
  have c10 : ClsT K mg B C10 "Unfit" := (each C10 (by simp)).clsT hn ht kin G e10
  have b11 : Binds K g11 ["self", "address"] [] := e11.F.binds fun _ _ _ _ _ _ us hl => match us, hl with | [_, _], _ => rfl
  have c11 : ClsT K mg B C11 "NoPlace" := (each C11 (by simp)).clsT hn ht kin G e11
  have b12 : Binds K g12 ["self", "rule"] [] := e12.F.binds fun _ _ _ _ _ _ us hl => match us, hl with | [_, _], _ => rfl
  have c12 : ClsT K mg B C12 "Broken" := (each C12 (by simp)).clsT hn ht kin G e12
  have b13 : Binds K g13 ["self", "rule"] [] := e13.F.binds fun _ _ _ _ _ _ us hl => match us, hl with | [_, _], _ => rfl
  have c13 : ClsT K mg B C13 "Illegal" := (each C13 (by simp)).clsT hn ht kin G e13
  have b14 : Binds K g14 ["self"] [] := e14.F.binds fun _ _ _ _ _ _ us hl => match us, hl with | [_], _ => rfl
  have c14 : ClsT K mg B C14 "NoDeed" := (each C14 (by simp)).clsT hn ht kin G e14
  have b15 : Binds K g15 ["self"] [] := e15.F.binds fun _ _ _ _ _ _ us hl => match us, hl with | [_], _ => rfl
  have c15 : ClsT K mg B C15 "Nothing" := (each C15 (by simp)).clsT hn ht kin G e15
  have b16 : Binds K g16 ["self"] [] := e16.F.binds fun _ _ _ _ _ _ us hl => match us, hl with | [_], _ => rfl
  have c16 : ClsT K mg B C16 "NoText" := (each C16 (by simp)).clsT hn ht kin G e16
  have b17 : Binds K g17 ["self"] [] := e17.F.binds fun _ _ _ _ _ _ us hl => match us, hl with | [_], _ => rfl
  have c17 : ClsT K mg B C17 "NoCommand" := (each C17 (by simp)).clsT hn ht kin G e17
  obtain ⟨oc, od, kV, doc, pm, an, cdv, ct, osl, efd, _, _⟩ := id d9.F.ex
  refine ⟨fd9, fun s v => ?_, fun base kb gb => ?_⟩
  · have q := efd ▸ (show BindsTo s (PySem.W.fnOf "law" "law" (defArgs sLaw) (defBody sLaw) (defScope sLaw) .none kV doc pm an cdv ct) ⟨[v], []⟩ [("_law_script", v)] from .of_eq rfl)
    exact q
  have T : Errs l.prog w K mg base B (fun k => [C0, C1, C2, C3, C4, C5, C6, C7, C8, C9, C10, C11, C12, C13, C14, C15, C16, C17].getD k 0) :=
    ⟨⟨c0, o0, i0, g0, e0.i, e0.t, ok_init0 e0.F, b0⟩, ⟨c1, o1, i1, g1, e1.i, e1.t, ok_init1 e1.F, b1⟩, ⟨c2, o2, i2, g2, e2.i, e2.t, ok_init2 e2.F, b2⟩, ⟨c3, o3, i3, g3, e3.i, e3.t, ok_init3 e3.F, b3⟩, ⟨c4, o4, i4, g4, e4.i, e4.t, ok_init4 e4.F, b4⟩, ⟨c5, o5, i5, g5, e5.i, e5.t, ok_init5 e5.F, b5⟩, ⟨c6, o6, i6, g6, e6.i, e6.t, ok_init6 e6.F, b6⟩, ⟨c7, o7, i7, g7, e7.i, e7.t, ok_init7 e7.F, b7⟩, ⟨c8, o8, i8, g8, e8.i, e8.t, ok_init8 e8.F, b8⟩, ⟨c9, o9, i9, g9, e9.i, e9.t, ok_init9 e9.F, b9⟩, ⟨c10, i10, g10, e10.i, e10.t, ok_init10 e10.F, b10⟩, ⟨c11, o11, i11, g11, e11.i, e11.t, ok_init11 e11.F, b11⟩, ⟨c12, o12, i12, g12, e12.i, e12.t, ok_init12 e12.F, b12⟩, ⟨c13, o13, i13, g13, e13.i, e13.t, ok_init13 e13.F, b13⟩, ⟨c14, i14, g14, e14.i, e14.t, ok_init14 e14.F, b14⟩, ⟨c15, i15, g15, e15.i, e15.t, ok_init15 e15.F, b15⟩, ⟨c16, i16, g16, e16.i, e16.t, ok_init16 e16.F, b16⟩, ⟨c17, i17, g17, e17.i, e17.t, ok_init17 e17.F, b17⟩⟩
  have F1 := ok_take (P := l.prog) (w := w) (base := base) d1.F (no_ z2)
  have F2 := ok_odd (P := l.prog) (w := w) (base := base) d2.F F1 n1.m n1.k n1.b (no_ z3)
  have F3 := ok_raised d3.F T
  have F4 := ok_raised_too d4.F T
  have F5 := ok_flags d5.F T (no_ z4)
  have F6 := ok_field (P := l.prog) (w := w) (mg := mg) (base := base) d6.F
  have F7 := ok_right d7.F T tab F3 n3 F4 n4 F5 n5 F6 n6 (at_ aB) (no_ z3) (no_ z4) (no_ z5)
  have F8 := ok_base d8.F tab F5 n5 (at_ aB) kn.kp qB kn.ex kn.ty (kn.ec hn ht) kn.cl (no_ z4) (no_ z5) (no_ z6)
  exact ok_law d9.F (ok_bag d0.F (no_ z1)) n0 F2 n2 F7 n7 F8 n8 (no_ z3)
theorem walk {l : PySem.W.OpenLaw} {q : Program} {loose : List Str} {XP : (Str → Option Value) → Heap → Prop} {YP : World → Heap → Prop} {d : DefRec} {K : Params → PySem.W.Frag} (hn : l.most = some 63) (hdf : d.params.defaults = []) (inK : ∀ (w : World) (h : Heap), YP w h → (K w.params).In h)
    (made : ∀ (w : World) (mg : Str → Option Value) (fa : Addr) (h : Heap), (K w.params).In h → h.Ns mainGlobals mg → mg d.name = some (.ref fa) →
      ∃ fd : FuncData, (∀ (s : Shared) (u : Value), BindsTo s fd ⟨[u], []⟩ [("_law_script", u)]) ∧ ∀ base : Heap, (K w.params).In base → base.Ns mainGlobals mg → FnOk l.prog w (K w.params) mg base CX0 5 fa fd ["_law_script"] (spLaw (K w.params))) :
    PySem.W.WalkO q loose XP YP l.row.toRowW d [] (fun f vs => PySem.call f vs) :=
  L2.walk_of (n := 63) (k := 5) (x := "_law_script") (CX := fun _ => CX0) (sp := fun w => spLaw (K w.params)) hn (by decide) hdf ⟨rfl, by decide, by decide⟩ inK made (fun _ _ a ns hl _ hS => ⟨a, ns, rfl, hS, hl, fun _ => rfl⟩) fun _ _ _ _ _ z => z
end Lw

open PySem PySem.W PyProof.Rows
set_option maxRecDepth 100000 in
set_option maxHeartbeats 0 in
theorem PySem.Challenge.cw_endchecks_k10_errors_holds : PySem.Challenge.rw_endchecks_k10_errors.Holds := by
  w_on; o_law; k_head; (case hw => w_witness2)
  k_fill
  refine Lw.walk (l := PySem.Challenge.rw_endchecks_k10_errors) rfl rfl (fun w h Y => PySem.W.kIn_of Y) ?F
  case F =>
    intro w mg fa h KX G hmg
    refine' Lw.all_mk KX G hmg ?d0 ?d1 ?d2 ?d3 ?d4 ?d5 ?d6 ?d7 ?d8 ?d9 ?e0 ?e1 ?e2 ?e3 ?e4 ?e5 ?e6 ?e7 ?e8 ?e9 ?e10 ?e11 ?e12 ?e13 ?e14 ?e15 ?e16 ?e17 ?aB ?hn ?ht ?qB ?cB ?cC ?tB ?vB ?nF ?z1 ?z2 ?z3 ?z4 ?z5 ?z6
    (case d0 => refine' ⟨?a, L2.fun_mk ?l ?c ?k⟩; (case a => k_is); (case l => k_is); (case c => k_is); (case k => k_is))
    (case d1 => refine' ⟨?a, L2.fun_mk ?l ?c ?k⟩; (case a => k_is); (case l => k_is); (case c => k_is); (case k => k_is))
    (case d2 => refine' ⟨?a, L2.fun_mk ?l ?c ?k⟩; (case a => k_is); (case l => k_is); (case c => k_is); (case k => k_is))
    (case d3 => refine' ⟨?a, L2.fun_mk ?l ?c ?k⟩; (case a => k_is); (case l => k_is); (case c => k_is); (case k => k_is))
    (case d4 => refine' ⟨?a, L2.fun_mk ?l ?c ?k⟩; (case a => k_is); (case l => k_is); (case c => k_is); (case k => k_is))
    (case d5 => refine' ⟨?a, L2.fun_mk ?l ?c ?k⟩; (case a => k_is); (case l => k_is); (case c => k_is); (case k => k_is))
    (case d6 => refine' ⟨?a, L2.fun_mk ?l ?c ?k⟩; (case a => k_is); (case l => k_is); (case c => k_is); (case k => k_is))
    (case d7 => refine' ⟨?a, L2.fun_mk ?l ?c ?k⟩; (case a => k_is); (case l => k_is); (case c => k_is); (case k => k_is))
    (case d8 => refine' ⟨?a, L2.fun_mk ?l ?c ?k⟩; (case a => k_is); (case l => k_is); (case c => k_is); (case k => k_is))
    (case d9 => refine' ⟨?a, L2.fun_mk ?l ?c ?k⟩; (case a => k_is); (case l => k_is); (case c => k_is); (case k => k_is))
    (case e0 => refine' ⟨?a, ⟨_, _, _, _, _, _, _, _, _, _, _, _, _, _, _, ?x, ?m⟩, ?i, ?t, L2.fun_mk ?l ?c ?k⟩; (case a => k_is); (case x => exact rfl); (case m => decide +kernel); (case i => k_is); (case t => k_is); (case l => k_is); (case c => k_is); (case k => k_is))
    (case e1 => refine' ⟨?a, ⟨_, _, _, _, _, _, _, _, _, _, _, _, _, _, _, ?x, ?m⟩, ?i, ?t, L2.fun_mk ?l ?c ?k⟩; (case a => k_is); (case x => exact rfl); (case m => decide +kernel); (case i => k_is); (case t => k_is); (case l => k_is); (case c => k_is); (case k => k_is))
    (case e2 => refine' ⟨?a, ⟨_, _, _, _, _, _, _, _, _, _, _, _, _, _, _, ?x, ?m⟩, ?i, ?t, L2.fun_mk ?l ?c ?k⟩; (case a => k_is); (case x => exact rfl); (case m => decide +kernel); (case i => k_is); (case t => k_is); (case l => k_is); (case c => k_is); (case k => k_is))
    (case e3 => refine' ⟨?a, ⟨_, _, _, _, _, _, _, _, _, _, _, _, _, _, _, ?x, ?m⟩, ?i, ?t, L2.fun_mk ?l ?c ?k⟩; (case a => k_is); (case x => exact rfl); (case m => decide +kernel); (case i => k_is); (case t => k_is); (case l => k_is); (case c => k_is); (case k => k_is))
    (case e4 => refine' ⟨?a, ⟨_, _, _, _, _, _, _, _, _, _, _, _, _, _, _, ?x, ?m⟩, ?i, ?t, L2.fun_mk ?l ?c ?k⟩; (case a => k_is); (case x => exact rfl); (case m => decide +kernel); (case i => k_is); (case t => k_is); (case l => k_is); (case c => k_is); (case k => k_is))
    (case e5 => refine' ⟨?a, ⟨_, _, _, _, _, _, _, _, _, _, _, _, _, _, _, ?x, ?m⟩, ?i, ?t, L2.fun_mk ?l ?c ?k⟩; (case a => k_is); (case x => exact rfl); (case m => decide +kernel); (case i => k_is); (case t => k_is); (case l => k_is); (case c => k_is); (case k => k_is))
    (case e6 => refine' ⟨?a, ⟨_, _, _, _, _, _, _, _, _, _, _, _, _, _, _, ?x, ?m⟩, ?i, ?t, L2.fun_mk ?l ?c ?k⟩; (case a => k_is); (case x => exact rfl); (case m => decide +kernel); (case i => k_is); (case t => k_is); (case l => k_is); (case c => k_is); (case k => k_is))
    (case e7 => refine' ⟨?a, ⟨_, _, _, _, _, _, _, _, _, _, _, _, _, _, _, ?x, ?m⟩, ?i, ?t, L2.fun_mk ?l ?c ?k⟩; (case a => k_is); (case x => exact rfl); (case m => decide +kernel); (case i => k_is); (case t => k_is); (case l => k_is); (case c => k_is); (case k => k_is))
    (case e8 => refine' ⟨?a, ⟨_, _, _, _, _, _, _, _, _, _, _, _, _, _, _, ?x, ?m⟩, ?i, ?t, L2.fun_mk ?l ?c ?k⟩; (case a => k_is); (case x => exact rfl); (case m => decide +kernel); (case i => k_is); (case t => k_is); (case l => k_is); (case c => k_is); (case k => k_is))
    (case e9 => refine' ⟨?a, ⟨_, _, _, _, _, _, _, _, _, _, _, _, _, _, _, ?x, ?m⟩, ?i, ?t, L2.fun_mk ?l ?c ?k⟩; (case a => k_is); (case x => exact rfl); (case m => decide +kernel); (case i => k_is); (case t => k_is); (case l => k_is); (case c => k_is); (case k => k_is))
    (case e10 => refine' ⟨?a, ⟨_, _, _, _, _, _, _, _, _, _, _, _, _, _, _, ?x, ?m⟩, ?i, ?t, L2.fun_mk ?l ?c ?k⟩; (case a => k_is); (case x => exact rfl); (case m => decide +kernel); (case i => k_is); (case t => k_is); (case l => k_is); (case c => k_is); (case k => k_is))
    (case e11 => refine' ⟨?a, ⟨_, _, _, _, _, _, _, _, _, _, _, _, _, _, _, ?x, ?m⟩, ?i, ?t, L2.fun_mk ?l ?c ?k⟩; (case a => k_is); (case x => exact rfl); (case m => decide +kernel); (case i => k_is); (case t => k_is); (case l => k_is); (case c => k_is); (case k => k_is))
    (case e12 => refine' ⟨?a, ⟨_, _, _, _, _, _, _, _, _, _, _, _, _, _, _, ?x, ?m⟩, ?i, ?t, L2.fun_mk ?l ?c ?k⟩; (case a => k_is); (case x => exact rfl); (case m => decide +kernel); (case i => k_is); (case t => k_is); (case l => k_is); (case c => k_is); (case k => k_is))
    (case e13 => refine' ⟨?a, ⟨_, _, _, _, _, _, _, _, _, _, _, _, _, _, _, ?x, ?m⟩, ?i, ?t, L2.fun_mk ?l ?c ?k⟩; (case a => k_is); (case x => exact rfl); (case m => decide +kernel); (case i => k_is); (case t => k_is); (case l => k_is); (case c => k_is); (case k => k_is))
    (case e14 => refine' ⟨?a, ⟨_, _, _, _, _, _, _, _, _, _, _, _, _, _, _, ?x, ?m⟩, ?i, ?t, L2.fun_mk ?l ?c ?k⟩; (case a => k_is); (case x => exact rfl); (case m => decide +kernel); (case i => k_is); (case t => k_is); (case l => k_is); (case c => k_is); (case k => k_is))
    (case e15 => refine' ⟨?a, ⟨_, _, _, _, _, _, _, _, _, _, _, _, _, _, _, ?x, ?m⟩, ?i, ?t, L2.fun_mk ?l ?c ?k⟩; (case a => k_is); (case x => exact rfl); (case m => decide +kernel); (case i => k_is); (case t => k_is); (case l => k_is); (case c => k_is); (case k => k_is))
    (case e16 => refine' ⟨?a, ⟨_, _, _, _, _, _, _, _, _, _, _, _, _, _, _, ?x, ?m⟩, ?i, ?t, L2.fun_mk ?l ?c ?k⟩; (case a => k_is); (case x => exact rfl); (case m => decide +kernel); (case i => k_is); (case t => k_is); (case l => k_is); (case c => k_is); (case k => k_is))
    (case e17 => refine' ⟨?a, ⟨_, _, _, _, _, _, _, _, _, _, _, _, _, _, _, ?x, ?m⟩, ?i, ?t, L2.fun_mk ?l ?c ?k⟩; (case a => k_is); (case x => exact rfl); (case m => decide +kernel); (case i => k_is); (case t => k_is); (case l => k_is); (case c => k_is); (case k => k_is))
    (case aB => k_is); (case hn => k_is); (case ht => k_is)
    (case qB => kernel_rfl)
    (case cB => kernel_rfl)
    (case cC => kernel_rfl)
    (case tB => kernel_rfl)
    (case vB => kernel_rfl)
    (case nF => kernel_rfl)
    (case z1 => k_is); (case z2 => k_is); (case z3 => k_is); (case z4 => k_is); (case z5 => k_is); (case z6 => k_is)
#print axioms PySem.Challenge.cw_endchecks_k10_errors_holds

