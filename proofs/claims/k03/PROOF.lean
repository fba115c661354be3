import PyProof.Rows.All
import Wide.All
import OpenK.AllK
import Wide.FinOn
import HandS.ForMost
import HandS.IsInst
import HandS.TupAny
import HandS.Style
import HandS.More
import HandS.SetKeys
import HandS.Nested
import HandS.Strs
import HandS.Walk
import HandS.Evl
import HandS.Dict
import HandS.List
import KE.KDictPairs
import HandS.Rev
import HandS.NestedK
import HandS.EndTab
import KE.KxText
import PySem.Challenge.RW_lacuna_k03_long_forms_and_lifting
set_option Elab.async false
set_option maxRecDepth 100000
set_option linter.all false
set_option maxHeartbeats 4000000
section
/-! Lacuna: what all laws' proofs share. Data (nested tuples), what is kept of a heap, calls, readings. -/
namespace Lc
open PySem L2 PyProof.Rows PySem.Spec

/-! ### data: nested tuples of None, truth values, ints, texts -/
inductive D where
  | non | bl (b : Bool) | int (i : Int) | str (x : Str) | tup (xs : List D)

mutual
/-- the value v bears the datum in the heap H -/
def Dt (H : Hp) : D → V → Prop
  | .non, v => v = .non
  | .bl b, v => v = .bl b
  | .int i, v => v = .int i
  | .str x, v => v = .str x
  | .tup ds, v => ∃ a xs, v = .ref a ∧ H a = some (.tup xs) ∧ Dts H ds xs
def Dts (H : Hp) : List D → List V → Prop
  | [], xs => xs = []
  | d :: ds, xs => ∃ x r, xs = x :: r ∧ Dt H d x ∧ Dts H ds r
end

/-- tuples stay -/
def KeepT (H H' : Hp) : Prop := ∀ a xs, H a = some (.tup xs) → H' a = some (.tup xs)
mutual
theorem Dt.mono {H H' : Hp} (k : KeepT H H') : ∀ {d : D} {v : V}, Dt H d v → Dt H' d v
  | .non, _, h => h
  | .bl _, _, h => h
  | .int _, _, h => h
  | .str _, _, h => h
  | .tup ds, _, h => by
    obtain ⟨a, xs, e, ha, hs⟩ := h
    exact ⟨a, xs, e, k a xs ha, Dts.mono k hs⟩
theorem Dts.mono {H H' : Hp} (k : KeepT H H') : ∀ {ds : List D} {xs : List V}, Dts H ds xs → Dts H' ds xs
  | [], _, h => h
  | _ :: _, _, h => by
    obtain ⟨x, r, e, h1, h2⟩ := h
    exact ⟨x, r, e, Dt.mono k h1, Dts.mono k h2⟩
end
theorem Dts.len {H : Hp} : ∀ {ds : List D} {xs : List V}, Dts H ds xs → xs.length = ds.length
  | [], _, h => by rw [show _ = [] from h]; rfl
  | _ :: _, _, h => by
    obtain ⟨x, r, rfl, _, h2⟩ := h
    rw [List.length_cons, List.length_cons, Dts.len h2]
theorem Dts.at {H : Hp} : ∀ {ds : List D} {xs : List V} {i : Nat} {x : V}, Dts H ds xs → xs[i]? = some x → ∃ d, ds[i]? = some d ∧ Dt H d x
  | [], _, i, x, h, e => by
    rw [show _ = [] from h] at e
    simp at e
  | d :: ds, _, 0, x, h, e => by
    obtain ⟨y, r, rfl, h1, _⟩ := h
    have e' : y = x := by simpa using e
    exact ⟨d, rfl, e' ▸ h1⟩
  | d :: ds, _, i + 1, x, h, e => by
    obtain ⟨y, r, rfl, _, h2⟩ := h
    exact Dts.at (i := i) h2 (by simpa using e)
theorem Dts.of {H : Hp} : ∀ {ds : List D} {xs : List V} {i : Nat} {d : D}, Dts H ds xs → ds[i]? = some d → ∃ x, xs[i]? = some x ∧ Dt H d x
  | [], _, i, x, h, e => by simp at e
  | d :: ds, _, 0, x, h, e => by
    obtain ⟨y, r, rfl, h1, _⟩ := h
    have e' : d = x := by simpa using e
    exact ⟨y, rfl, e' ▸ h1⟩
  | d :: ds, _, i + 1, x, h, e => by
    obtain ⟨y, r, rfl, _, h2⟩ := h
    obtain ⟨z, hz, q⟩ := Dts.of (i := i) (d := x) h2 (by simpa using e)
    exact ⟨z, by simpa using hz, q⟩
theorem Dts.nil {H : Hp} : Dts H [] [] := rfl
theorem Dts.cons {H : Hp} {d : D} {ds : List D} {x : V} {xs : List V} (h : Dt H d x) (t : Dts H ds xs) : Dts H (d :: ds) (x :: xs) := ⟨x, xs, rfl, h, t⟩
theorem Dts.app {H : Hp} : ∀ {ds es : List D} {xs ys : List V}, Dts H ds xs → Dts H es ys → Dts H (ds ++ es) (xs ++ ys)
  | [], _, _, _, h, t => by rw [show _ = [] from h]; exact t
  | _ :: _, _, _, _, h, t => by
    obtain ⟨x, r, rfl, h1, h2⟩ := h
    exact ⟨x, r ++ _, rfl, h1, Dts.app h2 t⟩
theorem Dts.snoc {H : Hp} {ds : List D} {xs : List V} {d : D} {x : V} (h : Dts H ds xs) (t : Dt H d x) : Dts H (ds ++ [d]) (xs ++ [x]) := h.app (.cons t .nil)
theorem Dts.drop {H : Hp} : ∀ {ds : List D} {xs : List V} (n : Nat), Dts H ds xs → Dts H (ds.drop n) (xs.drop n)
  | _, _, 0, h => h
  | [], _, _ + 1, h => by rw [show _ = [] from h]; rfl
  | _ :: _, _, n + 1, h => by
    obtain ⟨x, r, rfl, _, h2⟩ := h
    exact Dts.drop n h2
theorem Dts.take {H : Hp} : ∀ {ds : List D} {xs : List V} (n : Nat), Dts H ds xs → Dts H (ds.take n) (xs.take n)
  | _, _, 0, _ => rfl
  | [], _, _ + 1, h => by rw [show _ = [] from h]; rfl
  | _ :: _, _, n + 1, h => by
    obtain ⟨x, r, rfl, h1, h2⟩ := h
    exact ⟨x, r.take n, rfl, h1, Dts.take n h2⟩
theorem Dts.rev {H : Hp} : ∀ {ds : List D} {xs : List V}, Dts H ds xs → Dts H ds.reverse xs.reverse
  | [], _, h => by rw [show _ = [] from h]; rfl
  | _ :: _, _, h => by
    obtain ⟨x, r, rfl, h1, h2⟩ := h
    rw [List.reverse_cons, List.reverse_cons]
    exact (Dts.rev h2).snoc h1
theorem Dts.last {H : Hp} : ∀ {ds : List D} {xs : List V}, Dts H ds xs → xs ≠ [] → ∃ es e ys y, ds = es ++ [e] ∧ xs = ys ++ [y] ∧ Dts H es ys ∧ Dt H e y
  | [], _, h, n => absurd (show _ = [] from h) n
  | [d], _, h, _ => by
    obtain ⟨x, r, rfl, h1, h2⟩ := h
    cases (show r = [] from h2)
    exact ⟨[], d, [], x, rfl, rfl, rfl, h1⟩
  | d :: d2 :: ds, _, h, _ => by
    obtain ⟨x, r, rfl, h1, h2⟩ := h
    obtain ⟨es, e, ys, y, e1, rfl, h3, h4⟩ := Dts.last h2 (fun z => by rw [z] at h2; obtain ⟨_, _, q, _⟩ := h2; cases q)
    exact ⟨d :: es, e, x :: ys, y, by rw [e1]; rfl, rfl, .cons h1 h3, h4⟩
theorem Dts.mem {H : Hp} {ds : List D} {xs : List V} {x : V} (h : Dts H ds xs) (m : x ∈ xs) : ∃ d, d ∈ ds ∧ Dt H d x := by
  obtain ⟨i, hi⟩ := List.getElem?_of_mem m
  obtain ⟨d, e, q⟩ := h.at hi
  exact ⟨d, List.mem_of_getElem? e, q⟩
theorem Dt.tupI {H : Hp} {a : Addr} {xs : List V} {ds : List D} (h : H a = some (.tup xs)) (t : Dts H ds xs) : Dt H (.tup ds) (.ref a) := ⟨a, xs, rfl, h, t⟩

/-! ### kinds of data -/
def D.ty : D → String
  | .non => "NoneType" | .bl _ => "bool" | .int _ => "int" | .str _ => "str" | .tup _ => "tuple"
def D.isT : D → Bool
  | .tup _ => true | _ => false
def D.isS : D → Bool
  | .str _ => true | _ => false
def D.isB : D → Bool
  | .bl _ => true | _ => false
def D.isI : D → Bool
  | .int _ => true | .bl _ => true | _ => false
theorem Dt.tyB {K : PySem.W.Frag} {H : Hp} {d : D} {v : V} (h : Dt H d v) : TyB K H v d.ty := by
  cases d with
  | non => cases (show v = _ from h); exact .non
  | bl b => cases (show v = _ from h); exact .bl b
  | int i => cases (show v = _ from h); exact .int i
  | str x => cases (show v = _ from h); exact .str x
  | tup ds =>
    obtain ⟨a, xs, rfl, ha, _⟩ := h
    exact .tup (SqT.of ha)
theorem Dt.tyX {K : PySem.W.Frag} {H : Hp} {d : D} {v : V} (h : Dt H d v) : TyX K H v (.type d.ty) := by
  cases d with
  | non => cases (show v = _ from h); exact .base .non
  | bl b => cases (show v = _ from h); exact .base (.bl b)
  | int i => cases (show v = _ from h); exact .base (.int i)
  | str x => cases (show v = _ from h); exact .base (.str x)
  | tup ds =>
    obtain ⟨a, xs, rfl, ha, _⟩ := h
    exact .base (.tup ha)
theorem kit_tup (K : PySem.W.Frag) : ∀ d : D, PySem.W.kitOne K (.type d.ty) (.type "tuple") = some d.isT
  | .non => kit_ty (show kitB "NoneType" "tuple" = some false by decide +kernel)
  | .bl _ => kit_ty (show kitB "bool" "tuple" = some false by decide +kernel)
  | .int _ => kit_ty (show kitB "int" "tuple" = some false by decide +kernel)
  | .str _ => kit_ty (show kitB "str" "tuple" = some false by decide +kernel)
  | .tup _ => kit_ty (show kitB "tuple" "tuple" = some true by decide +kernel)
theorem kit_str (K : PySem.W.Frag) : ∀ d : D, PySem.W.kitOne K (.type d.ty) (.type "str") = some d.isS
  | .non => kit_ty (show kitB "NoneType" "str" = some false by decide +kernel)
  | .bl _ => kit_ty (show kitB "bool" "str" = some false by decide +kernel)
  | .int _ => kit_ty (show kitB "int" "str" = some false by decide +kernel)
  | .str _ => kit_ty (show kitB "str" "str" = some true by decide +kernel)
  | .tup _ => kit_ty (show kitB "tuple" "str" = some false by decide +kernel)
theorem kit_bool (K : PySem.W.Frag) : ∀ d : D, PySem.W.kitOne K (.type d.ty) (.type "bool") = some d.isB
  | .non => kit_ty (show kitB "NoneType" "bool" = some false by decide +kernel)
  | .bl _ => kit_ty (show kitB "bool" "bool" = some true by decide +kernel)
  | .int _ => kit_ty (show kitB "int" "bool" = some false by decide +kernel)
  | .str _ => kit_ty (show kitB "str" "bool" = some false by decide +kernel)
  | .tup _ => kit_ty (show kitB "tuple" "bool" = some false by decide +kernel)
theorem kit_int (K : PySem.W.Frag) : ∀ d : D, PySem.W.kitOne K (.type d.ty) (.type "int") = some d.isI
  | .non => kit_ty (show kitB "NoneType" "int" = some false by decide +kernel)
  | .bl _ => kit_ty (show kitB "bool" "int" = some true by decide +kernel)
  | .int _ => kit_ty (show kitB "int" "int" = some true by decide +kernel)
  | .str _ => kit_ty (show kitB "str" "int" = some false by decide +kernel)
  | .tup _ => kit_ty (show kitB "tuple" "int" = some false by decide +kernel)
theorem ty_tup : ∀ d : D, decide (d.ty = "tuple") = d.isT
  | .non => show decide (("NoneType" : String) = "tuple") = false by decide +kernel
  | .bl _ => show decide (("bool" : String) = "tuple") = false by decide +kernel
  | .int _ => show decide (("int" : String) = "tuple") = false by decide +kernel
  | .str _ => show decide (("str" : String) = "tuple") = false by decide +kernel
  | .tup _ => show decide (("tuple" : String) = "tuple") = true by decide +kernel
theorem ty_str : ∀ d : D, decide (d.ty = "str") = d.isS
  | .non => show decide (("NoneType" : String) = "str") = false by decide +kernel
  | .bl _ => show decide (("bool" : String) = "str") = false by decide +kernel
  | .int _ => show decide (("int" : String) = "str") = false by decide +kernel
  | .str _ => show decide (("str" : String) = "str") = true by decide +kernel
  | .tup _ => show decide (("tuple" : String) = "str") = false by decide +kernel
theorem ty_int : ∀ d : D, decide (d.ty = "int") = (d.isI && !d.isB)
  | .non => show decide (("NoneType" : String) = "int") = false by decide +kernel
  | .bl _ => show decide (("bool" : String) = "int") = false by decide +kernel
  | .int _ => show decide (("int" : String) = "int") = true by decide +kernel
  | .str _ => show decide (("str" : String) = "int") = false by decide +kernel
  | .tup _ => show decide (("tuple" : String) = "int") = false by decide +kernel
theorem D.tup_of {d : D} (h : d.isT = true) : ∃ xs, d = .tup xs := by
  cases d <;> first | exact ⟨_, rfl⟩ | cases h
theorem D.str_of {d : D} (h : d.isS = true) : ∃ x, d = .str x := by
  cases d <;> first | exact ⟨_, rfl⟩ | cases h
theorem Dt.tup {H : Hp} {ds : List D} {v : V} (h : Dt H (.tup ds) v) : ∃ a xs, v = .ref a ∧ H a = some (.tup xs) ∧ Dts H ds xs := h
theorem Dt.str {H : Hp} {x : Str} {v : V} (h : Dt H (.str x) v) : v = .str x := h
theorem Dt.int {H : Hp} {x : Int} {v : V} (h : Dt H (.int x) v) : v = .int x := h

/-! ### what is kept: all but the objects at l; tables of code objects may grow -/
/-- the tables of code objects that a law's defs with functions in them have -/
class Tbs where
  T : List NdefX.NTab
variable [Tbs]
def Kept : HO → Option HO → Prop
  | .tbl _, x => x ≠ none
  | o, x => x = some o
theorem Kept.ne {o : HO} (h : Kept o none) : False := by
  cases o <;> first | exact h rfl | (cases (show none = some _ from h))
theorem Kept.mk {o : HO} {x : Option HO} (h : x = some o) : Kept o x := by
  cases o <;> first | exact h | (show x ≠ none; rw [h]; exact fun z => nomatch z)
theorem Kept.eq {o : HO} {x : Option HO} (n : ∀ ps, o ≠ .tbl ps) (h : Kept o x) : x = some o := by
  cases o <;> first | exact h | exact absurd rfl (n _)
theorem Kept.of {o : HO} {x : Option HO} (h1 : x ≠ none) (h2 : (∀ ps, o ≠ .tbl ps) → x = some o) : Kept o x := by
  cases o with
  | tbl ps => exact h1
  | _ => exact h2 fun ps z => nomatch z
structure Kp (l : List Addr) (H H' : Hp) : Prop where
  keep : ∀ b o, b ∉ l → H b = some o → Kept o (H' b)
  tab : NdefX.TabsN Tbs.T H → NdefX.TabsN Tbs.T H'
instance {l : List Addr} {H H' : Hp} : CoeFun (Kp l H H') (fun _ => ∀ b o, b ∉ l → H b = some o → Kept o (H' b)) := ⟨Kp.keep⟩
/-- what is no table and no code object -/
def plnB : HO → Bool
  | .lst _ => true
  | .tup _ => true
  | .dK _ => true
  | _ => false
def Pln (H : Hp) (p : Addr) : Prop := ∃ o, H p = some o ∧ plnB o = true
theorem tabs_upd {T : List NdefX.NTab} {H : Hp} {p : Addr} {o : HO} (t : NdefX.TabsN T H) (n : Pln H p) : NdefX.TabsN T (upd H p o) := fun q hq => by
  obtain ⟨o', e, pl⟩ := n
  obtain ⟨ps, h1, h2, h3⟩ := t q hq
  have n1 : q.1 ≠ p := fun z => by
    rw [z, e] at h1
    cases h1
    cases pl
  refine ⟨ps, (upd_ne n1).trans h1, h2, fun pos cv hc => ?_⟩
  obtain ⟨c, e1, e2⟩ := h3 pos cv hc
  refine ⟨c, e1, (upd_ne fun z => ?_).trans e2⟩
  rw [z, e] at e2
  cases e2
  cases pl
theorem tabs_new {T : List NdefX.NTab} {H : Hp} {p : Addr} {o : HO} (t : NdefX.TabsN T H) (n : H p = none) : NdefX.TabsN T (upd H p o) := t.ext fun b o' e => (upd_ne (ne_of_none e n)).trans e
theorem Pln.upd {H : Hp} {p q : Addr} {o : HO} (h : Pln H p) (e : plnB o = true) : Pln (upd H q o) p := by
  by_cases z : p = q
  · exact ⟨o, by rw [z]; exact upd_same, e⟩
  · obtain ⟨o', h1, h2⟩ := h
    exact ⟨o', (upd_ne z).trans h1, h2⟩
theorem Pln.same {H : Hp} {p : Addr} {o : HO} (e : plnB o = true) : Pln (L2.upd H p o) p := ⟨o, upd_same, e⟩
theorem Pln.lst {H : Hp} {p : Addr} {xs : List V} (h : H p = some (.lst xs)) : Pln H p := ⟨_, h, rfl⟩
theorem Kp.refl (l : List Addr) (H : Hp) : Kp l H H := ⟨fun _ _ _ h => .mk h, fun t => t⟩
theorem Kp.trans {l : List Addr} {H H1 H2 : Hp} (a : Kp l H H1) (b : Kp l H1 H2) : Kp l H H2 := ⟨fun c o n h => by
  have q := a.keep c o n h
  cases e : H1 c with
  | none => rw [e] at q; exact q.ne.elim
  | some o1 =>
    refine .of (fun z => ?_) fun m => ?_
    · have q2 := b.keep c o1 n e
      rw [z] at q2
      exact q2.ne
    · have e2 := q.eq m
      exact (b.keep c o n e2).eq m, fun t => b.tab (a.tab t)⟩
theorem Kp.wide {l l' : List Addr} {H H' : Hp} (a : Kp l H H') (s : ∀ b ∈ l, b ∈ l') : Kp l' H H' := ⟨fun c o n h => a.keep c o (fun z => n (s c z)) h, a.tab⟩
theorem Kp.of0 {l : List Addr} {H H' : Hp} (a : Kp [] H H') : Kp l H H' := a.wide fun _ z => nomatch z
theorem Kp.up {l : List Addr} {H H1 : Hp} {p : Addr} {o : HO} (a : Kp l H H1) (n : H1 p = none) : Kp l H (upd H1 p o) := ⟨fun c u m h => by
  have q := a.keep c u m h
  rw [upd_ne (fun z => by rw [z, n] at q; exact q.ne)]
  exact q, fun t => tabs_new (a.tab t) n⟩
theorem Kp.at {l : List Addr} {H H1 : Hp} {p : Addr} {o : HO} (a : Kp l H H1) (m : p ∈ l) (e : Pln H1 p := by first | exact ⟨_, by assumption, rfl⟩ | exact Pln.same rfl | (repeat (refine Pln.upd ?_ rfl)); exact ⟨_, by assumption, rfl⟩) : Kp l H (upd H1 p o) := ⟨fun c u n h => by
  rw [upd_ne fun z => n (by rw [z]; exact m)]
  exact a.keep c u n h, fun t => tabs_upd (a.tab t) e⟩
/-- an object that is younger than H changes -/
theorem Kp.own {l : List Addr} {H H1 : Hp} {p : Addr} {o : HO} (a : Kp l H H1) (n : H p = none) (e : Pln H1 p := by first | exact ⟨_, by assumption, rfl⟩ | exact Pln.same rfl | (repeat (refine Pln.upd ?_ rfl)); exact ⟨_, by assumption, rfl⟩) : Kp l H (upd H1 p o) := ⟨fun c u m h => by
  rw [upd_ne (ne_of_none h n)]
  exact a.keep c u m h, fun t => tabs_upd (a.tab t) e⟩
/-- .. of an object that is younger, with more kept than asked -/
theorem Kp.own1 {c : Addr} {H H1 : Hp} {p : Addr} {o : HO} (a : Kp [c] H H1) (n : H p = Option.none) (e : Pln H1 p := by first | exact ⟨_, by assumption, rfl⟩ | exact Pln.same rfl | (repeat (refine Pln.upd ?_ rfl)); exact ⟨_, by assumption, rfl⟩) : Kp [c] H (upd H1 p o) := a.own n e
/-- .. or changes within a call -/
theorem Kp.drop {p : Addr} {l : List Addr} {H H1 : Hp} (a : Kp (p :: l) H H1) (n : H p = none) : Kp l H H1 := ⟨fun c u m h =>
  a.keep c u (fun z => by
    rcases List.mem_cons.mp z with e | e
    · rw [e, n] at h; cases h
    · exact m e) h, a.tab⟩
theorem Kp.none {H H1 : Hp} {p : Addr} (a : Kp [] H H1) (n : H1 p = Option.none) : H p = Option.none := by
  cases q : H p with
  | none => rfl
  | some o =>
    have z := a.keep p o (fun z => nomatch z) q
    rw [n] at z
    exact z.ne.elim
theorem Kp.noneL {l : List Addr} {H H1 : Hp} {p : Addr} (a : Kp l H H1) (m : p ∉ l) (n : H1 p = Option.none) : H p = Option.none := by
  cases q : H p with
  | none => rfl
  | some o =>
    have z := a.keep p o m q
    rw [n] at z
    exact z.ne.elim
theorem Kp.get {H H' : Hp} {b : Addr} {o : HO} (a : Kp [] H H') (h : H b = some o) : Kept o (H' b) := a.keep b o (fun z => nomatch z) h
theorem Kp.t0 {H H' : Hp} (a : Kp [] H H') : KeepT H H' := fun b xs h => a.keep b _ (fun z => nomatch z) h
/-- at c there is no tuple -/
def NoT (H : Hp) (c : Addr) : Prop := ∀ xs, H c ≠ some (.tup xs)
theorem NoT.lst {H : Hp} {c : Addr} {xs : List V} (h : H c = some (.lst xs)) : NoT H c := fun ys e => by rw [h] at e; cases e
theorem Kp.t1 {H H' : Hp} {c : Addr} (a : Kp [c] H H') (n : NoT H c) : KeepT H H' := fun b xs h => a.keep b _ (fun z => by
  rw [List.mem_singleton.mp z] at h
  exact n xs h) h
theorem Kp.tl {l : List Addr} {H H' : Hp} (a : Kp l H H') (n : ∀ c ∈ l, NoT H c) : KeepT H H' := fun b xs h => a.keep b _ (fun z => n b z xs h) h
theorem KeepT.trans {H H1 H2 : Hp} (a : KeepT H H1) (b : KeepT H1 H2) : KeepT H H2 := fun c xs h => b c xs (a c xs h)

theorem at_last {α : Type} (xs : List α) (x : α) : (xs ++ [x])[(xs ++ [x]).length - 1]? = some x := by
  rw [List.length_append, List.length_singleton, Nat.add_sub_cancel, List.getElem?_append_right (Nat.le_refl _), Nat.sub_self]
  rfl
theorem drop_last {α : Type} (xs : List α) (x : α) : (xs ++ [x]).dropLast = xs := by simp

/-! ### defs of the text and calls of them -/
/-- the def stands where the text says -/
structure Df (K : PySem.W.Frag) (mg : Str → Option Value) (x : Str) (st : Stmt) (ps : List Str) : Prop where
  ex : ∃ f fd, Fun K x x st f fd ∧ Binds K fd ps [] ∧ mg x = some (.ref f)
/-- the def of this name keeps the promise -/
structure Cal (P : Program) (w : World) (K : PySem.W.Frag) (mg : Str → Option Value) (base : Heap) (x : Str) (ps : List Str) (k : Nat) (sp : Sp) : Prop where
  ex : ∃ f fd, FnOk P w K mg base CX0 k f fd ps sp ∧ Binds K fd ps [] ∧ mg x = some (.ref f) ∧ PySem.W.keepIn K (.ref f) = true
section
variable {P : Program} {w : World} {K : PySem.W.Frag} {mg : Str → Option Value} {base : Heap} {x : Str} {ps N : List Str} {k j : Nat} {sp sp' : Sp} {st : Stmt}
theorem Cal.mono (c : Cal P w K mg base x ps j sp) (h : j ≤ k) : Cal P w K mg base x ps k sp := by
  obtain ⟨f, fd, a, b, c, d⟩ := c.ex
  exact ⟨f, fd, a.mono h, b, c, d⟩
theorem Df.ok (d : Df K mg x st ps) (S : FnScope N ps (defScope st)) (len : ∀ vs H Q E, sp vs H Q E → vs.length = ps.length)
    (hbody : ∀ (f : Addr) (cdv : Value) (A : Around) (outer : List Env) (s : Shared) (H : Hp) (vs : List V) (Q : VK) (E : XK), Room k (A.deeper (envOfC x (defScope st) s.heap.objs.size f cdv)) → sp vs H Q E →
      ∃ t, PSs (cxOf CX0 P w K mg base N x (defScope st) f cdv A outer s H E).nox (defBody st) t ∧ t { nx := fun _ H' => Q .non H', rt := Q } (start N vs) H) : Cal P w K mg base x ps (k + 1) sp := by
  obtain ⟨f, fd, F, b, m⟩ := d.ex
  exact ⟨f, fd, F.ok S len fun cdv A outer s H vs Q E => hbody f cdv A outer s H vs Q E, b, m, F.kp⟩
/-- nothing can be asked of it -/
theorem Df.no (d : Df K mg x st ps) (h : ∀ vs H Q E, ¬ sp vs H Q E) : Cal P w K mg base x ps k sp := by
  obtain ⟨f, fd, F, b, m⟩ := d.ex
  exact ⟨f, fd, ⟨fun vs H Q E q => absurd q (h vs H Q E), fun A outer s H args us vs Q E _ _ _ _ q => absurd q (h vs H Q E)⟩, b, m, F.kp⟩
end
section
variable {X : Cx} {x : Str} {ps : List Str} {k : Nat} {sp : Sp} {p pos : Pos} {e : Expr} {es : List Expr} {t : TA}
theorem pe_cal (c : Cal X.prog X.w X.K X.mg X.base x ps k sp) (hr : Room k X.A) (hg : Gl X x) (ha : PA X (e :: es) t) (hdb : (x == ("__debug__" : Str)) = false := by decide)
    (he : starEach (e :: es) X.env = (false, eval e X.env) :: starEach es X.env := by rfl) (hpl : (backTo pos (starEach es X.env)).any (·.1) = false := by rfl) : PE X (.Call (.Name x p) (e :: es) [] pos) (tCall sp [] E0 t) := by
  obtain ⟨f, fd, a, b, m, d⟩ := c.ex
  exact pe_call a hr hg m d b .nil pass0 ha hdb he hpl
end

/-! ### list.extend with a tuple -/
theorem ext_tup (l b : Addr) (xs ys : Array Value) (n m : Nat) (dd : Option Addr) (sl : Array (Option Value)) (g : ¬ (!xs.isEmpty && Builtin.List.listTooLong (xs.size + ys.size)) = true) (z : xs.size ≤ sizeLine) (z2 : xs.size + ys.size ≤ sizeLine) :
    Meets (Builtin.«list.extend» ⟨[.ref l, .ref b], []⟩) (fun _ R s => (s.heap.get? l = some ⟨.type "list", none, .seq xs n, #[]⟩ ∧ s.heap.get? b = some ⟨.type "tuple", dd, .seq ys m, sl⟩) ∧
      R (.ok (.ret Value.none)) { s with heap := s.heap.update l (Obj.mapSeq fun x => x ++ ys), toks := s.toks }) := by
  refine .of_wp fun prog w A R s h => ?_
  obtain ⟨heap, gens, dr, tk, os⟩ := s
  obtain ⟨⟨e1, e2⟩, h⟩ := h
  have i1 := AutoSeq1.idx_int
  have i2 := AutoSeq1.sub_tuple_tuple
  have i3 := AutoSeq1.sub_list_list
  have i4 := AutoSeq1.sub_tuple_list
  have i5 := AutoSeq1.sub_list_tuple
  have room : (xs ++ ys).size ≤ sizeLine + 1 := by
    rw [Array.size_append]
    omega
  wp_walk using (wpAny_updateSeq e1 rfl (hz := z) (_hz' := room)), AutoSeq1.wpAny_loadPart' e1, AutoSeq1.wpAny_loadPart' e2
  exact ⟨_, rfl, h⟩
section
variable {X : Cx}
def rExtT (K : PySem.W.Frag) : V → List V → Hp → VK → Prop := fun x vs H Q => ∃ l b xs zs, x = .ref l ∧ vs = [.ref b] ∧ H l = some (.lst xs) ∧ SqT K H b zs ∧ xs.length + zs.length ≤ sizeLine ∧ Q .non (upd H l (.lst (xs ++ zs)))
theorem mt_extT : MtM X "list.extend" (rExtT X.K) := fun pins s σ H x vs v us Q I rx rv h => by
  obtain ⟨l, b, xs, zs, rfl, rfl, hH, hB, hz, q⟩ := h
  cases rx
  obtain ⟨u, rfl, ru⟩ := rv.one
  cases ru
  obtain ⟨z, its, n, r, hl, e⟩ := I.lstM hH
  obtain ⟨its2, r2, ⟨⟨oc, od, oo, os⟩, e2, c2, n2, d2⟩, _⟩ := I.tuple hB
  cases (show oc = _ from c2)
  cases (show oo = _ from d2)
  have hl2 : zs.length = its2.length := r2.length
  have few : its.toArray.size + its2.toArray.size ≤ sizeLine := by
    rw [List.size_toArray, List.size_toArray]
    omega
  have g : ¬ (!its.toArray.isEmpty && Builtin.List.listTooLong (its.toArray.size + its2.toArray.size)) = true := by
    rw [notLongL few, Bool.and_false]
    decide
  refine call_meets F.slot_list_extend ⟨_, e, rfl⟩ F.entry_list_extend (F.args_list_extend_2 _ _) (ext_tup l b its.toArray its2.toArray n n2 od os g (by omega) few) ⟨⟨e, e2⟩, ?_⟩
  refine ⟨.non, _, I.lset (its' := its ++ its2) hH e (by simp) (r.append r2) ?_, rfl, q⟩
  rw [List.length_append]
  omega
end
end Lc
end

section
/-! len(set(xs)) of a list of any texts. -/
namespace Lc
open PySem L2 PyProof.Rows PySem.Spec
variable [Lc.Tbs]

/-- the different ones among the first i, in the order of meeting -/
def got (xs : List Str) (i : Nat) : List Str := (xs.take i).foldl step_dedup []
/-- how many different ones there are -/
def diff (xs : List Str) : Nat := (got xs xs.length).length
theorem got_next {xs : List Str} {i : Nat} {x : Str} (h : xs[i]? = some x) : got xs (i + 1) = step_dedup (got xs i) x := by
  have e : xs.take (i + 1) = xs.take i ++ [x] := by
    rw [List.take_succ, h]
    rfl
  unfold got
  rw [e, List.foldl_append]
  rfl
theorem got_few (xs : List Str) (i : Nat) : (got xs i).length ≤ i := by
  have a := foldl_step_dedup_nil_length_le (xs.take i)
  have b := List.length_take_le i xs
  unfold got
  omega
theorem diff_le (xs : List Str) : diff xs ≤ xs.length := got_few xs xs.length
theorem dedup_has (l : List Str) (v k : Str) : (step_dedup l v).any (· == k) = (l.any (· == k) || decide (k = v)) := by
  have same : (v == k) = decide (k = v) := by
    by_cases e : k = v
    · rw [e, beq_self_eq_true, decide_eq_true rfl]
    · rw [decide_eq_false e]
      exact beq_eq_false_iff_ne.mpr fun z => e z.symm
  unfold step_dedup
  cases q : l.any (· == v) with
  | true =>
    rw [if_pos rfl]
    by_cases e : k = v
    · rw [e, q]
      rfl
    · rw [decide_eq_false e, Bool.or_false]
  | false =>
    rw [if_neg Bool.false_ne_true, List.any_append, List.any_cons, List.any_nil, Bool.or_false, same]
theorem dedup_len (l : List Str) (v : Str) : (step_dedup l v).length = if l.any (· == v) = true then l.length else l.length + 1 := by
  unfold step_dedup
  split
  · rfl
  · rw [List.length_append]
    rfl

section
variable {prog : Program} {w : World} {A : Around} {R : Result → Shared → Prop} {I : Addr} {fp wr : List Addr} {G : Array GenState → Array GenState → Prop} {n : Nat} {P : Nat → Value → Prop} {St : Nat → Shared → Prop}
abbrev TxtSet (prog : Program) (w : World) (h : Heap) (S : Addr) (l : List Str) : Prop := h.SetOf (PySem.strKind prog w) S (fun k => l.any (· == k)) l.length
theorem TxtSet.keep {h h' : Heap} {S : Addr} {l : List Str} (t : TxtSet prog w h S l) (k : ∀ o, h.get? S = some o → h'.get? S = some o) : TxtSet prog w h' S l := by
  obtain ⟨o, es, ep, tb, ho, r⟩ := t
  exact ⟨o, es, ep, tb, k o ho, r⟩
/-- the texts that are left go into the set -/
theorem fill_texts (W : WalksS prog w A.in1 I fp wr G n P St) {S : Addr} (away : S ∉ fp) {xs : List Str} (few : n + 1 < scanBound) (each : ∀ i v, P i v → ∃ x t, xs[i]? = some x ∧ v = .str x t) :
    ∀ (left i : Nat) (s : Shared), i + left = n → St i s → TxtSet prog w s.heap S (got xs i) →
      (∀ s', Moved (S :: wr) G s s' → TxtSet prog w s'.heap S (got xs n) → R (.ok (.ret .none)) s') → codeAny (model prog w) A (.builtin "set.update.loop" ⟨[.ref S, .ref I], []⟩) R s := by
  have out : S ∉ wr := fun z => away (W.sub _ z)
  have more : ∀ b ∈ wr, b ∈ S :: wr := fun b z => List.mem_cons_of_mem _ z
  intro left
  induction left with
  | zero =>
    intro i s e st have_ fin
    obtain rfl : i = n := e
    refine codeAny_builtin PyProof.Rows.F.entry_set_update_loop ?_
    rw [Around.under_plainId PyProof.Rows.F.plain_set_update_loop _]
    refine wpAny_bind (W.done s _ _ st fun s1 mv => ?_)
    exact wpAny_pure (fin s1 (mv.mono more) (have_.keep fun o => mv.heap S o out))
  | succ left ih =>
    intro i s e st have_ fin
    have lt : i < n := by omega
    refine codeAny_builtin PyProof.Rows.F.entry_set_update_loop ?_
    rw [Around.under_plainId PyProof.Rows.F.plain_set_update_loop _]
    refine wpAny_bind (W.item i s _ _ lt st fun v s1 pv st1 mv => ?_)
    obtain ⟨x, t, hx, rfl⟩ := each i v pv
    have have1 := have_.keep fun o => mv.heap S o out
    show wpAny _ A.in1 (holding [Value.str x t] (setAdd S (.str x t)) >>= _) _ _ s1
    refine wpAny_bind (wpAny_holding ?_)
    unfold setAdd
    refine wpAny_holding (wpAny_bind ((PySem.strKind prog w).pyHash (k := x) (strKind_is _ _ _ _) ?_))
    have room : (got xs i).length + 1 < scanBound := Nat.lt_of_le_of_lt (Nat.succ_le_succ (got_few xs i)) (by omega)
    refine wpAny_setAddHashed_of (knd := PySem.strKind prog w) (s := { s1 with toks := s1.toks + 1 }) (strKind_is _ _ _ _) rfl have1 room fun h2 but have2 => ?_
    have have3 : TxtSet prog w h2 S (got xs (i + 1)) := by
      rw [got_next hx]
      exact SetOf_congr have2 (fun k => (dedup_has _ x k).symm) (dedup_len _ x).symm
    have kept : ∀ b o, b ≠ S → s1.heap.get? b = some o → h2.get? b = some o := fun b o ne q => by
      rw [but.2 b ne]
      exact q
    refine wpAny_pure ⟨plainId_quiet PyProof.Rows.F.plain_set_update_loop _, ih (i + 1) _ (by omega) (W.frame _ s1 _ _ st1 (Nat.le_succ _) fun b m o q => kept b o (fun z => away (z ▸ m)) q) have3 fun s3 mv3 have4 => ?_⟩
    exact fin s3 (Moved.trans W.gtrans ((mv.mono more).then_heap (Nat.le_succ _) fun b o nm q => kept b o (fun z => nm (z ▸ List.mem_cons_self)) q) mv3) have4
end

section
variable {prog : Program} {w : World} {A : Around} {E : Value → Shared → Prop} {s : Shared}
abbrev freshSet (led : Bool) : Obj := { cls := .type "set", dict := none, data := .set #[] 0 (.fresh 0 0 led) }
set_option maxHeartbeats 4000000 in
/-- set(l) of a list of texts -/
theorem set_texts {l : Addr} {its : List Value} {xs : List Str} {Q : Value → Shared → Prop} (calm : A.handled = none) (hl : s.heap.IsList l its.toArray) (each : ∀ (i : Nat) v, its[i]? = some v → ∃ x t, xs[i]? = some x ∧ v = .str x t) (few : its.length + 1 < scanBound)
    (h : ∀ (h2 : Heap) (tk : Nat), TxtSet prog w h2 s.heap.objs.size (got xs its.length) → (∀ b o, b < s.heap.objs.size → s.heap.get? b = some o → h2.get? b = some o) → Q (.ref s.heap.objs.size) { s with heap := h2, toks := tk }) :
    wpAny (model prog w) A (call (.type "set") [.ref l]) Q E s := by
  obtain ⟨c, tl, hmro⟩ := PySem.F.called_set.mro
  have j1 := PySem.F.called_set.made
  have j2 := PySem.F.called_set.sub
  refine wpAny_call (codeAny_of_tree (wpAny_pure (s := s) ⟨Code.quiet_builtin _ (by decide +kernel), codeAny_builtin PySem.F.entry_type_call ?_⟩))
  rw [Around.under_plain (weight_type_call_type "set" [.ref l] []) rfl]
  have j3 := PySem.F.called_set.notType
  have j4 := PySem.F.called_set.canCreate
  have j5 := PySem.F.typeCall_set_1 (.ref l)
  repeat (any_goals (first | assumption | wp_step))
  refine codeAny_mono (code_set_new_1 (.ref l) (E := E) (Q₁ := fun o s1 => ∃ led : Bool, o = .ref s.heap.objs.size ∧ s1 = { s with heap := s.heap.push (freshSet led) }) fun led => ⟨led, rfl, rfl⟩) fun r s1 hr => ?_
  match r, hr with
  | .error e, hr => exact hr
  | .ok .next, hr => exact hr.elim
  | .ok .brk, hr => exact hr.elim
  | .ok .cont, hr => exact hr.elim
  | .ok (.ret o), hr =>
    obtain ⟨led, rfl, rfl⟩ := hr
    have new : (s.heap.push (freshSet led)).get? s.heap.objs.size = some (freshSet led) := Heap.get?_push_size _ rfl
    have isT : Shared.TypeIs { s with heap := s.heap.push (freshSet led) } (.ref s.heap.objs.size) "set" := ⟨_, new, rfl⟩
    have j6 := PySem.F.called_set.init.lookup
    have j7 := PySem.F.called_set.init.bind (.ref s.heap.objs.size)
    repeat (any_goals (first | assumption | wp_step))
    refine codeAny_mono (codeAny_call_builtin (R := wants (fun r s2 => r = .none ∧ ∃ h2 tk, s2 = { s with heap := h2, toks := tk } ∧ TxtSet prog w h2 s.heap.objs.size (got xs its.length) ∧ ∀ b o, b < s.heap.objs.size → s.heap.get? b = some o → h2.get? b = some o) E)
      PySem.F.called_set.init.plain PySem.F.entry_set_init (check_set_init_1 isT ?_)) fun r2 s2 hr2 => ?_
    · obtain ⟨⟨lc, ld, lo, ls⟩, el, c1, nl, d1⟩ := hl
      cases (show lc = _ from c1)
      cases (show lo = _ from d1)
      have el2 : (s.heap.push (freshSet led)).get? l = some ⟨.type "list", ld, .seq its.toArray nl, ls⟩ := Heap.get?_push_of_some _ el
      have j8 := PySem.F.sub_list_set
      have j9 := PySem.F.sub_list_frozenset
      have j10 : (Value.type "list" == Value.type "dict") = false := by decide
      have isL : (s.heap.push (freshSet led)).IsList l its.toArray := ⟨_, el2, rfl, nl, rfl⟩
      unfold Builtin.«set.__init__» noKeywords Builtin.Frozenset.updateFrom
      generalize hit : pyIter = It0
      wp_walk
      subst hit
      refine wpAny_pyIter_list isL (wpAny_bind (wpAny_runValue ?_))
      have lt : l < s.heap.objs.size := Heap.lt_size el
      have sz : (s.heap.push (freshSet led)).objs.size = s.heap.objs.size + 1 := Heap.size_push _ _
      have ne1 : l ≠ (s.heap.push (freshSet led)).objs.size := by
        rw [sz]
        exact Nat.ne_of_lt (Nat.lt_succ_of_lt lt)
      have away : s.heap.objs.size ∉ [(s.heap.push (freshSet led)).objs.size, l] := by
        rw [sz]
        simp only [List.mem_cons, List.not_mem_nil, or_false, not_or]
        exact ⟨Nat.ne_of_lt (Nat.lt_succ_self _), Nat.ne_of_gt lt⟩
      refine fill_texts ((Walks.list (by simp [calm]) _ l ne1 its.toArray).toS) away (by simpa using few) (fun i v q => each i v (by simpa using q)) its.toArray.size 0 _ (Nat.zero_add _) ⟨⟨_, Heap.get?_push_size _ rfl, rfl, rfl⟩, isL.push _⟩ ?_ fun s3 mv t3 => ?_
      · have at0 : ((s.heap.push (freshSet led)).push { cls := .type "list_iterator", data := .fields #[.ref l, .int 0 0] }).get? s.heap.objs.size = some (freshSet led) := Heap.get?_push_of_some _ new
        exact SetOf_congr ((setObjOf_fresh (knd := PySem.strKind prog w) led).setOf at0 (by decide)) (fun _ => rfl) rfl
      · obtain ⟨h3, g3, d3, tk3, os3⟩ := s3
        cases (show g3 = s.gens from mv.gens)
        cases (show d3 = s.drawn from mv.drawn)
        cases (show os3 = s.os from mv.os)
        refine wpAny_pure (wpAny_pure ⟨rfl, h3, tk3, rfl, by simpa using t3, fun b o hb q => ?_⟩)
        refine mv.heap b o ?_ (Heap.get?_push_of_some _ (Heap.get?_push_of_some _ q))
        rw [sz]
        simp only [List.mem_cons, List.not_mem_nil, or_false, not_or]
        exact ⟨Nat.ne_of_lt hb, Nat.ne_of_lt (Nat.lt_succ_of_lt hb)⟩
    · match r2, hr2 with
      | .error e, hr2 => exact hr2
      | .ok .next, hr2 => exact hr2.elim
      | .ok .brk, hr2 => exact hr2.elim
      | .ok .cont, hr2 => exact hr2.elim
      | .ok (.ret r), hr2 =>
        obtain ⟨rfl, h2, tk, rfl, t2, k2⟩ := hr2
        repeat (any_goals (first | assumption | wp_step))
        exact h _ _ t2 k2
end

section
variable {X : Cx}
/-- len(set(e)), e a list of texts -/
def tLenSetT (K : PySem.W.Frag) (ta : TE) : TE := fun σ H Q => ta σ H fun x H1 => ∃ l, ∃ xs : List Str, x = .ref l ∧ SqL K H1 l (xs.map V.str) ∧ xs.length < 4000 ∧ Q (.int (diff xs)) H1
theorem strs_each : ∀ {xs : List Str} {us : List Value}, Vals (xs.map V.str) us → ∀ (i : Nat) v, us[i]? = some v → ∃ x t, xs[i]? = some x ∧ v = .str x t
  | [], _, .nil, i, v, h => by simp at h
  | x :: xs, _, .cons r t, 0, v, h => by
    obtain ⟨k, rfl⟩ := r
    exact ⟨x, k, rfl, by simpa using h.symm⟩
  | x :: xs, _, .cons r t, i + 1, v, h => strs_each t i v (by simpa using h)
theorem pe_lenSetT {a : Expr} {ta : TE} {p p2 q pos : Pos} (hc : X.calm = true) (hg : Gl X "len") (hm : X.mg "len" = none) (hg2 : Gl X "set") (hm2 : X.mg "set" = none) (ha : PE X a ta)
    (na : starEach [a] X.env = (false, eval a X.env) :: starEach [] X.env := by rfl) : PE X (.Call (.Name "len" p) [.Call (.Name "set" p2) [a] [] q] [] pos) (tLenSetT X.K ta) := by
  constructor
  intro pins s σ H Q I h
  refine Call_ (ld_blt I hg hm boot_len (callWith_builtin1 (args_cons (Call_ (ld_blt I hg2 hm2 boot_set (callWith_type1 (args_cons (thn (ha.run pins s σ H _ I h) fun v s1 got1 => args_nil ?_) na) na rfl))) rfl) rfl rfl))
  obtain ⟨x, H1, I1, r1, l, xs, rfl, hq, few, q1⟩ := got1
  cases r1
  obtain ⟨its, r, pl, hz⟩ := I1.list hq
  have el : its.length = xs.length := by
    rw [← r.length, List.length_map]
  refine set_texts (I1.ok.hd hc) pl.isList (strs_each r) (by rw [el]; unfold scanBound; omega) fun h2 tk t2 k2 => args_nil ?_
  rw [el] at t2
  have le := diff_le xs
  obtain ⟨o, es, ep, t, ho, hex, hd, _, _, _, hf, hn⟩ := t2
  have I2 : Inv X pins σ H1 { s1 with heap := h2, toks := tk } := I1.kept fun b o e => k2 b o (Heap.lt_size e) e
  have hn2 : es.size = diff xs := hn
  exact call_len_set ho hex hd hf (by rw [hn2]; omega) ⟨.int (diff xs), H1, I2.tok _, ⟨_, by rw [hn2]⟩, q1⟩
end
end Lc
end

section
/-! Readings, one step a lemma. -/
namespace Lc
open PySem L2 PyProof.Rows PySem.Spec
variable [Lc.Tbs]
theorem Kp.ge {H H' : Hp} {b : Addr} {o : HO} (a : Kp [] H H') (n : ∀ ps, o ≠ .tbl ps) (h : H b = some o) : H' b = some o := (a.get h).eq n
theorem Kp.gl {H H' : Hp} {b : Addr} {xs : List V} (a : Kp [] H H') (h : H b = some (.lst xs)) : H' b = some (.lst xs) := a.get h
theorem Kp.gtu {H H' : Hp} {b : Addr} {xs : List V} (a : Kp [] H H') (h : H b = some (.tup xs)) : H' b = some (.tup xs) := a.get h
section
variable {K : PySem.W.Frag} {σ : L2.St} {H : Hp} {Q : VK} {v x y : V} {ta tb te : TE} {T U : TT} {t u : TS} {g : TG} {D0 : Ends} {R : Bool → Hp → Prop} {A : TA} {W : List V → Hp → Prop}
theorem r_seq (h : t { D0 with nx := u D0 } σ H) : tSeq t u D0 σ H := h
theorem r_next (h : D0.nx σ H) : tNext D0 σ H := h
theorem r_mknx {a b c d} (h : a σ H) : (Ends.mk a b c d).nx σ H := h
theorem r_mkrt {a b c d} (h : b v H) : (Ends.mk a b c d).rt v H := h
theorem r_asg (h : te σ H fun x H1 => g x σ H1 D0.nx) : tAsg te g D0 σ H := h
theorem r_name {i : Nat} {N : L2.St → Hp → Prop} (h : N (σ.set i (some v)) H) : gName i v σ H N := h
theorem r_drop (h : te σ H fun _ H1 => D0.nx σ H1) : tDrop te D0 σ H := h
theorem r_ret (h : te σ H D0.rt) : tRet te D0 σ H := h
theorem r_if (h : T σ H fun b H1 => if b = true then t D0 σ H1 else u D0 σ H1) : tIfS T t u D0 σ H := h
theorem r_var {i : Nat} (e : σ[i]? = some (some v)) (h : Q v H) : tVar i σ H Q := ⟨v, e, h⟩
theorem r_c (h : Q v H) : tC v σ H Q := h
theorem r_op {r : R2} (h : ta σ H fun x H1 => tb σ H1 fun y H2 => r x y H2 Q) : tOp r ta tb σ H Q := h
theorem r_un {r : V → Hp → VK → Prop} (h : ta σ H fun x H1 => r x H1 Q) : tUn r ta σ H Q := h
theorem r_test (h : te σ H fun x H1 => ∃ k, x = .bl k ∧ R k H1) : tTest te σ H R := h
theorem r_tb (h : te σ H fun x H1 => ∃ k, x = .bl k ∧ R k H1) : tB te σ H R := h
theorem r_and (h : T σ H fun c H1 => if c = true then U σ H1 R else R false H1) : tAnd T U σ H R := h
theorem r_or (h : T σ H fun c H1 => if c = true then R true H1 else U σ H1 R) : tOr T U σ H R := h
theorem r_not (h : T σ H fun c H1 => R (!c) H1) : tNot T σ H R := h
theorem r_andV (h : ta σ H fun x H1 => ∃ c, x = .bl c ∧ if c = true then tb σ H1 Q else Q (.bl false) H1) : tAndV ta tb σ H Q := h
theorem r_orV (h : ta σ H fun x H1 => ∃ c, x = .bl c ∧ if c = true then Q (.bl true) H1 else tb σ H1 Q) : tOrV ta tb σ H Q := h
theorem r_notV (h : ta σ H fun x H1 => ∃ c, x = .bl c ∧ Q (.bl (!c)) H1) : tNotV ta σ H Q := h
theorem r_bl {c : Bool} {S : Bool → Prop} (h : S c) : ∃ k, V.bl c = V.bl k ∧ S k := ⟨c, rfl, h⟩
theorem r_cb {r : List V → Hp → VK → Prop} (h : A σ H fun vs H1 => r vs H1 Q) : tCB r A σ H Q := h
theorem r_cons (h : te σ H fun x H1 => A σ H1 fun xs H2 => W (x :: xs) H2) : tCons te A σ H W := h
theorem r_nil (h : W [] H) : tNil σ H W := h
/-- a tuple, a list of these is laid -/
def NewT (xs : List V) (H : Hp) (Q : VK) : Prop := xs.length ≤ sizeLine ∧ ∀ p, H p = none → Q (.ref p) (upd H p (.tup xs))
def NewL (xs : List V) (H : Hp) (Q : VK) : Prop := xs.length ≤ sizeLine ∧ ∀ p, H p = none → Q (.ref p) (upd H p (.lst xs))
theorem r_tup (h : A σ H fun xs H1 => NewT xs H1 Q) : tTup A σ H Q := h
theorem r_lst (h : A σ H fun xs H1 => NewL xs H1 Q) : tLst A σ H Q := h
theorem r_call {sp : Sp} {dvs : List V} {E : XK} (h : A σ H fun vs H1 => sp (vs ++ dvs) H1 Q E) : tCall sp dvs E A σ H Q := h
theorem r_i0 {k : Int → Int → V} {i j : Int} (h : Q (k i j) H) : rI0 k (.int i) (.int j) H Q := ⟨i, j, rfl, rfl, h⟩
theorem r_i {C : Int → Int → Prop} {k : Int → Int → V} {i j : Int} (c : C i j) (h : Q (k i j) H) : rI C k (.int i) (.int j) H Q := ⟨i, j, rfl, rfl, c, h⟩
theorem r_eq (s : scal x y = true) (h : Q (.bl (decide (x = y))) H) : rEq x y H Q := ⟨s, h⟩
theorem r_ne (s : scal x y = true) (h : Q (.bl (!decide (x = y))) H) : rNe x y H Q := ⟨s, h⟩
theorem r_sub {to ti : TE} {s : TSet} {N : L2.St → Hp → Prop} (h : to σ H fun o H1 => ti σ H1 fun i H2 => s o i v H2 fun H3 => N σ H3) : gSub to ti s v σ H N := h
theorem r_sl {r : V → Option Int → Option Int → Hp → VK → Prop} {tl th : TO} (h : te σ H fun x H1 => tl σ H1 fun l H2 => th σ H2 fun u H3 => r x l u H3 Q) : tSl r te tl th σ H Q := h
theorem r_nopart {O : Option Int → Hp → Prop} (h : O none H) : tNoPart σ H O := h
theorem r_part {O : Option Int → Hp → Prop} (h : te σ H fun x H1 => ∃ i, x = .int i ∧ O (some i) H1) : tPart te σ H O := h
theorem r_int {i : Int} {S : Int → Prop} (h : S i) : ∃ k, V.int i = V.int k ∧ S k := ⟨i, rfl, h⟩
theorem r_bm {T : String} {r : V → List V → Hp → VK → Prop} (h : te σ H fun x H1 => tyV K T x H1 ∧ A σ H1 fun xs H2 => r x xs H2 Q) : tBM K T r te A σ H Q := h
theorem r_bm0 {T : String} {r : V → List V → Hp → VK → Prop} (h : te σ H fun x H1 => tyV K T x H1 ∧ r x [] H1 Q) : tBM0 K T r te σ H Q := h
/-- an item of a tracked list, tuple -/
theorem r_ixL {p : Addr} {xs : List V} {i : Int} (h : H p = some (.lst xs)) (a : atI xs i = some v) (q : Q v H) : rIxL K (.ref p) (.int i) H Q := ⟨p, xs, i, v, rfl, rfl, SqL.of h, a, q⟩
theorem r_ixT {p : Addr} {xs : List V} {i : Int} (h : H p = some (.tup xs)) (a : atI xs i = some v) (q : Q v H) : rIxT K (.ref p) (.int i) H Q := ⟨p, xs, i, v, rfl, rfl, SqT.of h, a, q⟩
theorem r_set {p : Addr} {xs : List V} {i : Int} {j : Nat} {N : Hp → Prop} (h : H p = some (.lst xs)) (a : ixN xs.length i = some j) (q : N (upd H p (.lst (xs.set j v)))) : rSetL (.ref p) (.int i) v H N := ⟨p, xs, i, j, rfl, rfl, h, a, q⟩
theorem r_ty {d : D} (h : Dt H d x) (q : Q (.ty d.ty) H) : rTyp K [x] H Q := ⟨x, d.ty, rfl, h.tyB, q⟩
theorem r_isT {d : D} (h : Dt H d x) (q : Q (.bl d.isT) H) : rIsi K [x, .ty "tuple"] H Q := ⟨x, .ty "tuple", _, _, d.isT, rfl, .ty _, h.tyX, kit_tup K d, q⟩
theorem r_isS {d : D} (h : Dt H d x) (q : Q (.bl d.isS) H) : rIsi K [x, .ty "str"] H Q := ⟨x, .ty "str", _, _, d.isS, rfl, .ty _, h.tyX, kit_str K d, q⟩
theorem r_isI {d : D} (h : Dt H d x) (q : Q (.bl d.isI) H) : rIsi K [x, .ty "int"] H Q := ⟨x, .ty "int", _, _, d.isI, rfl, .ty _, h.tyX, kit_int K d, q⟩
theorem r_isB {d : D} (h : Dt H d x) (q : Q (.bl d.isB) H) : rIsi K [x, .ty "bool"] H Q := ⟨x, .ty "bool", _, _, d.isB, rfl, .ty _, h.tyX, kit_bool K d, q⟩
theorem pe_gref {X : Cx} {n : Str} {a : Addr} {pos : Pos} (hg : Gl X n) (hm : X.mg n = some (.ref a)) (hd : (n == ("__debug__" : Str)) = false := by decide) : PE X (.Name n pos) (tC (.ref a)) := pe_glob (v := .ref a) hg hm rfl hd
theorem pe_gstr {X : Cx} {n z : Str} {tk : Tok} {pos : Pos} (hg : Gl X n) (hm : X.mg n = some (.str z tk)) (hd : (n == ("__debug__" : Str)) = false := by decide) : PE X (.Name n pos) (tC (.str z)) := pe_glob (v := .str z) hg hm ⟨_, rfl⟩ hd
theorem pe_bty {X : Cx} {n : Str} {T : String} {pos : Pos} (hg : Gl X n) (hm : X.mg n = none) (hv : bootBuiltins n = some (.type T)) (hn : n ≠ "__name__" := by decide) (hd : (n == ("__debug__" : Str)) = false := by decide) : PE X (.Name n pos) (tC (.ty T)) := pe_bltn (v := .ty T) hg hm hv rfl hn hd
theorem r_yes (h : R true H) : tYes σ H R := h
theorem r_cut (M : L2.St → Hp → Prop) (h : t { D0 with nx := M } σ H) (k : ∀ σ' H', M σ' H' → u D0 σ' H') : Evl.tCut t u D0 σ H := ⟨M, h, k⟩
theorem r_chain {r r' : R2} {tc : TE} (h : ta σ H fun x H1 => tb σ H1 fun y H2 => r x y H2 fun z H3 => ∃ k, z = .bl k ∧ (if k = true then tc σ H3 fun w' H4 => r' y w' H4 Q else Q (.bl false) H3)) : tChain r r' ta tb tc σ H Q := h
theorem r_nt {a b : String} (h : Q (.bl (!decide (a = b))) H) : rNT (.ty a) (.ty b) H Q := ⟨a, b, rfl, rfl, h⟩
theorem take_one {α : Type} {l : List α} {i : Nat} {x : α} (h : l[i]? = some x) : l.take (i + 1) = l.take i ++ [x] := by
  rw [List.take_succ, h]
  rfl
/-- a tuple of data is laid; the heap behind it is a letter -/
theorem r_tupN {ds : List D} {xs : List V} (h : Dts H ds xs) (few : xs.length ≤ 10000) (k : ∀ p H', Kp [] H H' → KeepT H H' → H p = none → H' p = some (.tup xs) → Dt H' (.tup ds) (.ref p) → Q (.ref p) H') :
    NewT xs H Q := by
  refine ⟨Nat.le_trans few (by decide), fun p np => ?_⟩
  have k1 : Kp [] H (upd H p (.tup xs)) := (Kp.refl _ _).up np
  exact k p _ k1 k1.t0 np upd_same (Dt.tupI upd_same (h.mono k1.t0))
/-- a list is laid -/
theorem r_lstN {xs : List V} (few : xs.length ≤ 10000) (k : ∀ p H', Kp [] H H' → KeepT H H' → H p = none → H' p = some (.lst xs) → Q (.ref p) H') :
    NewL xs H Q := by
  refine ⟨Nat.le_trans few (by decide), fun p np => ?_⟩
  have k1 : Kp [] H (upd H p (.lst xs)) := (Kp.refl _ _).up np
  exact k p _ k1 k1.t0 np upd_same
theorem new_tup {ds : List D} {xs : List V} {p : Addr} (np : H p = none) (h : Dts H ds xs) : Kp [] H (upd H p (.tup xs)) ∧ KeepT H (upd H p (.tup xs)) ∧ Dt (upd H p (.tup xs)) (.tup ds) (.ref p) :=
  have k1 : Kp [] H (upd H p (.tup xs)) := (Kp.refl _ _).up np
  ⟨k1, k1.t0, Dt.tupI upd_same (h.mono k1.t0)⟩
theorem Dt.use {d : D} (h : Dt H d v) : Dt H d v := h
theorem dt_str {x : Str} : Dt H (.str x) (.str x) := rfl
theorem dt_int {x : Int} : Dt H (.int x) (.int x) := rfl
theorem dt_bl {x : Bool} : Dt H (.bl x) (.bl x) := rfl
theorem dt_non : Dt H .non .non := rfl
/-- an item at a drawn place -/
theorem at_mem {xs : List V} {i : Int} (h0 : 0 ≤ i) (h : i < (xs.length : Nat)) : ∃ v, atI xs i = some v ∧ v ∈ xs ∧ xs[i.toNat]? = some v := by
  have hk : i.toNat < xs.length := by omega
  have e : i = ((i.toNat : Nat) : Int) := by omega
  exact ⟨xs[i.toNat], at_of e (List.getElem?_eq_getElem hk), List.getElem_mem hk, List.getElem?_eq_getElem hk⟩
theorem at_any {α : Type} {xs : List α} {i : Int} (h0 : 0 ≤ i) (h : i < (xs.length : Nat)) : ∃ v, atI xs i = some v := by
  have hk : i.toNat < xs.length := by omega
  have e : i = ((i.toNat : Nat) : Int) := by omega
  refine ⟨xs[i.toNat], ?_⟩
  have q := atI_nat (List.getElem?_eq_getElem hk)
  rw [← e] at q
  exact q
theorem cut_map {f : Int → V} (ns : List Int) (lo hi : Option Int) : ∃ ms : List Int, cutV (ns.map f) lo hi = ms.map f ∧ ms.length ≤ ns.length := by
  refine ⟨(ns.drop (HT.sIx (ns.map f).length 0 lo)).take (HT.sIx (ns.map f).length (ns.map f).length hi - HT.sIx (ns.map f).length 0 lo), ?_, ?_⟩
  · unfold cutV
    rw [List.map_take, List.map_drop]
  · rw [List.length_take, List.length_drop]
    omega
theorem cut_mem {xs : List V} {lo hi : Option Int} {x : V} (h : x ∈ cutV xs lo hi) : x ∈ xs := List.mem_of_mem_drop (List.mem_of_mem_take h)
theorem r_par {i j : Nat} (h : A σ H fun vs H1 => ∃ v w, vs = [v, w] ∧ D0.nx ((σ.set i (some v)).set j (some w)) H1) : tPar i j A D0 σ H := h
theorem r_two {S : V → V → Prop} (h : S x y) : ∃ v w, [x, y] = [v, w] ∧ S v w := ⟨x, y, rfl, h⟩
/-- a comprehension's list, from where its iterator has come -/
def LcB (J : It) (g : TG) (tt : TT) (te : TE) (vs : List Nat) (σ : L2.St) (H1 : Hp) (Q : VK) : Prop := ∀ D, H1 D = none → ∃ W : Nat → Nat → Hp → Prop, (∃ m, W 0 m (upd H1 D (.lst []))) ∧ ∀ i m H, W i m H →
  (J.stop i H ∧ Q (.ref D) H) ∨ (J.go i H ∧ ∃ Nx : Hp → Prop, (∀ H', Nx H' → ∃ m', m' < m ∧ W (i + 1) m' H') ∧ ∀ x H', J.yld i H x H' → g x (wipe σ vs) H' fun σ2 H2 => wipe σ2 vs = wipe σ vs ∧ tt σ2 H2 fun b H3 =>
    if b = true then te σ2 H3 fun y H4 => ∃ acc, H4 D = some (.lst acc) ∧ acc.length < sizeLine ∧ Nx (upd H4 D (.lst (acc ++ [y]))) else Nx H3)
theorem r_lc {wi : TI} {vs : List Nat} (h : wi σ H fun J H1 => LcB J g T te vs σ H1 Q) : tLc wi g T te vs σ H Q := h
theorem r_iL {S : It → Hp → Prop} (h : te σ H fun x H1 => ∃ a, x = .ref a ∧ (∃ xs, SqL K H1 a xs) ∧ S (Itl K a) H1) : iList K te σ H S := h
theorem r_iT {S : It → Hp → Prop} (h : te σ H fun x H1 => ∃ a, x = .ref a ∧ (∃ xs, SqT K H1 a xs) ∧ S (Itt K a) H1) : iTup K te σ H S := h
theorem r_iS {S : It → Hp → Prop} (h : te σ H fun v H1 => ∃ x, v = .str x ∧ S (Its x) H1) : iStr te σ H S := h
theorem r_i1 {S : It → Hp → Prop} (h : A σ H fun vs H1 => ∃ j : Int, vs = [.int j] ∧ -(2 ^ 62) ≤ j ∧ j < 2 ^ 62 ∧ S (Itr 0 j.toNat) H1) : iRng1 A σ H S := h
theorem r_catN {l b : Addr} {xs zs : List V} (h1 : H l = some (.lst xs)) (h2 : H b = some (.lst zs)) (few : xs.length + zs.length ≤ 10000) (k : ∀ p H', Kp [] H H' → KeepT H H' → H p = none → H' p = some (.lst (xs ++ zs)) → Q (.ref p) H') :
    rCat (.ref l) (.ref b) H Q := by
  refine ⟨l, b, xs, zs, rfl, rfl, h1, h2, Nat.le_trans few (by decide), fun p np => ?_⟩
  have k1 : Kp [] H (upd H p (.lst (xs ++ zs))) := (Kp.refl _ _).up np
  exact k p _ k1 k1.t0 np upd_same
theorem r_slL {l : Addr} {xs : List V} {lo hi : Option Int} (h1 : H l = some (.lst xs)) (k : ∀ p H', Kp [] H H' → KeepT H H' → H p = none → H' p = some (.lst (cutV xs lo hi)) → Q (.ref p) H') : rSlL K (.ref l) lo hi H Q := by
  refine ⟨l, xs, rfl, SqL.of h1, fun p np => ?_⟩
  have k1 : Kp [] H (upd H p (.lst (cutV xs lo hi))) := (Kp.refl _ _).up np
  exact k p _ k1 k1.t0 np upd_same
theorem if_t {A B : Prop} {c : Bool} (e : c = true) (h : A) : if c = true then A else B := by rw [if_pos e]; exact h
theorem if_f {A B : Prop} {c : Bool} (e : c = false) (h : B) : if c = true then A else B := by rw [if_neg (by rw [e]; decide)]; exact h
theorem if_2 {A B : Prop} {c : Bool} (h1 : c = true → A) (h2 : c = false → B) : if c = true then A else B := by
  cases c with
  | true => exact if_t rfl (h1 rfl)
  | false => exact if_f rfl (h2 rfl)
end
/-- a def that the head tells -/
theorem df_mk {K : PySem.W.Frag} {h : Heap} {mg : Str → Option Value} {x : Str} {st : Stmt} {ps : List Str} {f : Addr} {oc : Value} {od an : Option Addr} {sl : Array (Option Value)} {kV doc pm cd ct : Value} (X : K.In h) (G : h.Ns mainGlobals mg)
    (a : PySem.W.nsIn K mainGlobals x = some (some (.ref f))) (l : K.lookup f = some ⟨oc, od, .func (PySem.W.fnOf x x (defArgs st) (defBody st) (defScope st) .none kV doc pm an cd ct), sl⟩) (c : PySem.W.codeIn K cd x = true) (k : PySem.W.keepIn K (.ref f) = true)
    (hb : ∀ (kV doc pm : Value) (an : Option Addr) (cdv ct : Value) (us : List Value), us.length = ps.length → bindArgs (PySem.W.fnOf x x (defArgs st) (defBody st) (defScope st) .none kV doc pm an cdv ct) ⟨us, []⟩ = pure (ps.zip us)) : Df K mg x st ps :=
  ⟨⟨f, _, fun_mk l c k, (fun_mk l c k).binds hb, PySem.W.mg_of X G a⟩⟩
end Lc
end

section
/-! Sizes, depths and widths of data. -/
namespace Lc
open PySem L2
variable [Lc.Tbs]
mutual
def D.sz : D → Nat
  | .tup xs => 1 + szs xs
  | .non => 1
  | .bl _ => 1
  | .int _ => 1
  | .str _ => 1
def szs : List D → Nat
  | [] => 0
  | d :: ds => d.sz + szs ds
end
mutual
def D.dp : D → Nat
  | .tup xs => 1 + dps xs
  | .non => 1
  | .bl _ => 1
  | .int _ => 1
  | .str _ => 1
def dps : List D → Nat
  | [] => 0
  | d :: ds => max d.dp (dps ds)
end
mutual
/-- texts are as S says, tuples have at most W parts -/
def Wd (S : Str → Prop) (W : Nat) : D → Prop
  | .str x => S x
  | .tup xs => xs.length ≤ W ∧ Wds S W xs
  | .non => True
  | .bl _ => True
  | .int _ => True
def Wds (S : Str → Prop) (W : Nat) : List D → Prop
  | [] => True
  | d :: ds => Wd S W d ∧ Wds S W ds
end
theorem D.sz_pos : ∀ d : D, 1 ≤ d.sz
  | .tup xs => by rw [D.sz]; omega
  | .non => Nat.le_refl 1
  | .bl _ => Nat.le_refl 1
  | .int _ => Nat.le_refl 1
  | .str _ => Nat.le_refl 1
theorem szs_len : ∀ ds : List D, ds.length ≤ szs ds
  | [] => Nat.le_refl 0
  | d :: ds => by
    have h1 := D.sz_pos d
    have h2 := szs_len ds
    rw [szs, List.length_cons]
    omega
theorem szs_app : ∀ ds es : List D, szs (ds ++ es) = szs ds + szs es
  | [], es => by rw [List.nil_append, szs, Nat.zero_add]
  | d :: ds, es => by rw [List.cons_append, szs, szs, szs_app ds es, Nat.add_assoc]
theorem dps_app : ∀ ds es : List D, dps (ds ++ es) = max (dps ds) (dps es)
  | [], es => by rw [List.nil_append, dps, Nat.zero_max]
  | d :: ds, es => by rw [List.cons_append, dps, dps, dps_app ds es, Nat.max_assoc]
theorem dps_mem : ∀ {ds : List D} {d : D}, d ∈ ds → d.dp ≤ dps ds
  | e :: ds, d, h => by
    rw [dps]
    rcases List.mem_cons.mp h with rfl | h
    · omega
    · have := dps_mem h
      omega
theorem szs_mem : ∀ {ds : List D} {d : D}, d ∈ ds → d.sz ≤ szs ds
  | e :: ds, d, h => by
    rw [szs]
    rcases List.mem_cons.mp h with rfl | h
    · omega
    · have := szs_mem h
      omega
theorem Wds.mem {S : Str → Prop} {W : Nat} : ∀ {ds : List D}, Wds S W ds ↔ ∀ d ∈ ds, Wd S W d
  | [] => ⟨fun _ _ h => (by cases h), fun _ => trivial⟩
  | e :: ds => by
    rw [Wds, Wds.mem (ds := ds)]
    constructor
    · rintro ⟨h1, h2⟩ d hd
      rcases List.mem_cons.mp hd with rfl | hd
      · exact h1
      · exact h2 d hd
    · intro h
      exact ⟨h e List.mem_cons_self, fun d hd => h d (List.mem_cons_of_mem _ hd)⟩
theorem Wds.app {S : Str → Prop} {W : Nat} {ds es : List D} (h1 : Wds S W ds) (h2 : Wds S W es) : Wds S W (ds ++ es) := Wds.mem.mpr fun d hd => by
  rcases List.mem_append.mp hd with h | h
  · exact Wds.mem.mp h1 d h
  · exact Wds.mem.mp h2 d h
theorem Wds.sub {S : Str → Prop} {W : Nat} {ds es : List D} (h1 : Wds S W ds) (h2 : ∀ d ∈ es, d ∈ ds) : Wds S W es := Wds.mem.mpr fun d hd => Wds.mem.mp h1 d (h2 d hd)
mutual
theorem Wd.mono {S S' : Str → Prop} {W W' : Nat} (s : ∀ x, S x → S' x) (l : W ≤ W') : ∀ {d : D}, Wd S W d → Wd S' W' d
  | .str x, h => s x h
  | .tup xs, h => by
    rw [Wd] at h ⊢
    exact ⟨Nat.le_trans h.1 l, Wds.mono s l h.2⟩
  | .non, _ => trivial
  | .bl _, _ => trivial
  | .int _, _ => trivial
theorem Wds.mono {S S' : Str → Prop} {W W' : Nat} (s : ∀ x, S x → S' x) (l : W ≤ W') : ∀ {ds : List D}, Wds S W ds → Wds S' W' ds
  | [], _ => trivial
  | d :: ds, h => by
    rw [Wds] at h ⊢
    exact ⟨Wd.mono s l h.1, Wds.mono s l h.2⟩
end
theorem Wd.wide {S : Str → Prop} {W W' : Nat} (l : W ≤ W') {d : D} (h : Wd S W d) : Wd S W' d := h.mono (fun _ z => z) l
mutual
/-- the same, reckoned -/
def wdB (S : Str → Bool) (W : Nat) : D → Bool
  | .str x => S x
  | .tup xs => decide (xs.length ≤ W) && wdsB S W xs
  | .non => true
  | .bl _ => true
  | .int _ => true
def wdsB (S : Str → Bool) (W : Nat) : List D → Bool
  | [] => true
  | d :: ds => wdB S W d && wdsB S W ds
end
mutual
theorem wd_of {S : Str → Prop} {B : Str → Bool} {W : Nat} (s : ∀ x, B x = true → S x) : ∀ {d : D}, wdB B W d = true → Wd S W d
  | .str x, h => s x h
  | .tup xs, h => by
    rw [wdB, Bool.and_eq_true] at h
    rw [Wd]
    exact ⟨of_decide_eq_true h.1, wds_of s h.2⟩
  | .non, _ => trivial
  | .bl _, _ => trivial
  | .int _, _ => trivial
theorem wds_of {S : Str → Prop} {B : Str → Bool} {W : Nat} (s : ∀ x, B x = true → S x) : ∀ {ds : List D}, wdsB B W ds = true → Wds S W ds
  | [], _ => trivial
  | d :: ds, h => by
    rw [wdsB, Bool.and_eq_true] at h
    rw [Wds]
    exact ⟨wd_of s h.1, wds_of s h.2⟩
end
theorem szs_max {n : Nat} : ∀ {ds : List D}, (∀ d ∈ ds, d.sz ≤ n) → szs ds ≤ ds.length * n
  | [], _ => Nat.zero_le _
  | d :: ds, h => by
    have h1 := h d List.mem_cons_self
    have h2 := szs_max (ds := ds) fun e he => h e (List.mem_cons_of_mem _ he)
    rw [szs, List.length_cons, Nat.succ_mul]
    omega
theorem dps_max {n : Nat} : ∀ {ds : List D}, (∀ d ∈ ds, d.dp ≤ n) → dps ds ≤ n
  | [], _ => Nat.zero_le _
  | d :: ds, h => by
    have h1 := h d List.mem_cons_self
    have h2 := dps_max (ds := ds) fun e he => h e (List.mem_cons_of_mem _ he)
    rw [dps]
    omega
end Lc
end

section
/-! t[::-1] of a tuple; slices and sums of tuples of data. -/
namespace Lc
open PySem L2 PyProof.Rows PySem.Spec
variable [Lc.Tbs]
section
variable {prog : Program} {w : World} {A : Around} {E : Value → Shared → Prop} {s : Shared}
theorem back_adjust (n : Nat) : Builtin.Slice.sliceAdjust none none (-1) (n : Int) = ((n : Int) - 1, -1) := by
  unfold Builtin.Slice.sliceAdjust
  simp
theorem back_places (n : Nat) : Builtin.Slice.slicePlaces ((n : Int) - 1) (-1) (-1) = n := by
  unfold Builtin.Slice.slicePlaces
  rw [if_neg (by decide)]
  by_cases h : n = 0
  · subst h
    rfl
  · rw [if_pos (by omega)]
    have e : ((n : Int) - 1 - -1 - 1) / (- -1) + 1 = (n : Int) := by
      rw [show (- -1 : Int) = 1 by decide, Int.ediv_one]
      omega
    rw [e, Int.toNat_natCast]
theorem back_pick (l : List Value) : ((List.range l.length).filterMap fun (k : Nat) => l.toArray[(((l.length : Nat) : Int) - 1 + (k : Int) * (-1)).toNat]?) = l.reverse := by
  have e : ∀ m, m ≤ l.length → ((List.range m).filterMap fun (k : Nat) => l.toArray[(((l.length : Nat) : Int) - 1 + (k : Int) * (-1)).toNat]?) = l.reverse.take m := by
    intro m
    induction m with
    | zero => intro _; rfl
    | succ m ih =>
      intro hm
      have at_ : (((l.length : Nat) : Int) - 1 + (m : Int) * (-1)).toNat = l.length - 1 - m := by omega
      have here : l.reverse[m]? = l[l.length - 1 - m]? := List.getElem?_reverse (by omega)
      have some_ : l[l.length - 1 - m]? = some l[l.length - 1 - m] := List.getElem?_eq_getElem (by omega)
      rw [List.range_succ, List.filterMap_append, ih (by omega), take_one (here.trans some_)]
      congr 1
      rw [List.filterMap_cons, at_, List.getElem?_toArray, some_]
      rfl
  rw [e _ (Nat.le_refl _), List.take_of_length_le (by rw [List.length_reverse]; exact Nat.le_refl _)]
theorem slice_back {sl : Addr} {vl vu vs : Value} {n : Nat} {Q : Int × Int × Nat → Shared → Prop} (hs : s.heap.IsSliceOf sl vl vu vs) (pl : IsPart vl none) (pu : IsPart vu none) (ps : IsPart vs (some (-1)))
    (h : Q ((n : Int) - 1, -1, n) s) : wpAny (model prog w) A (Builtin.Slice.sliceApplied (.ref sl) (pure (n : Int))) Q E s := by
  obtain ⟨o, ho, _, hd⟩ := id hs
  unfold Builtin.Slice.sliceApplied Builtin.Slice.sliceFields
  refine wpAny_bind (wpAny_bind (wpAny_field ho hd (x := vl) rfl (wpAny_bind (wpAny_field ho hd (x := vu) rfl (wpAny_bind (wpAny_field ho hd (x := vs) rfl (wpAny_pure ?_)))))))
  refine wpAny_bind (HT.slicePart_ ps ?_)
  show wpAny _ _ (if ((-1 : Int) == 0) = true then _ else _) _ _ s
  rw [if_neg (by decide)]
  refine wpAny_bind (HT.slicePart_ pl (wpAny_bind (HT.slicePart_ pu (wpAny_bind (wpAny_pure ?_)))))
  show wpAny _ _ (match Builtin.Slice.sliceAdjust none none (-1) (n : Int) with | (x, y) => pure (x, (-1 : Int), Builtin.Slice.slicePlaces x y (-1))) _ _ s
  rw [back_adjust]
  show wpAny _ _ (pure ((n : Int) - 1, (-1 : Int), Builtin.Slice.slicePlaces ((n : Int) - 1) (-1) (-1))) _ _ s
  rw [back_places]
  exact wpAny_pure h
theorem tuple_back {t sl : Addr} {l : List Value} {vl vu vs : Value} {Q : Value → Shared → Prop} (ht : IsTup s.heap t l.toArray) (hs : s.heap.IsSliceOf sl vl vu vs) (pl : IsPart vl none) (pu : IsPart vu none) (ps : IsPart vs (some (-1)))
    (few : l.length ≤ sizeLine) (h : Q (.ref s.heap.objs.size) { s with heap := s.heap.push { cls := .type "tuple", data := .seq l.reverse.toArray } }) : wpAny (model prog w) A (getItem (.ref t) (.ref sl)) Q E s := by
  obtain ⟨o, ho, hc, _⟩ := id hs
  have isS : s.TypeIs (.ref sl) "slice" := ⟨o, ho, hc⟩
  have room : sizeOk (.seq l.reverse.toArray) := by
    show l.reverse.toArray.size ≤ sizeLine
    rw [List.size_toArray, List.length_reverse]
    exact few
  unfold getItem
  try with_reducible refine wpAny_holding ?_
  first | refine wpAny_bind (wpAny_pure ?_) | skip
  refine wpAny_bind (wpAny_sequenceKey ht.typeIs (by decide) ?_)
  refine wpAny_bind (wpAny_callSpecial?_slot (name := Str.ofString "__getitem__") ht.typeIs slot_tuple_getitem (wpAny_call_entry slot_tuple_getitem ht.typeIs entry_tuple_getitem ?_ (args_tuple_getitem _ _)))
  show wpAny _ _ (Builtin.Tuple.tupleItemsOf (.ref t) >>= _) _ _ s
  refine wpAny_bind (tupleItemsOf_ ht (wpAny_bind (wpAny_typeOf isS ?_)))
  rw [if_pos (by decide)]
  have e : l.toArray.size = l.length := List.size_toArray
  rw [e]
  refine wpAny_bind (slice_back hs pl pu ps ?_)
  have no : ¬ (((l.length : Nat) : Int) - 1 == 0 && (-1 : Int) == 1 && l.length == l.length) = true := by simp
  show wpAny _ _ (if (((l.length : Nat) : Int) - 1 == 0 && (-1 : Int) == 1 && l.length == l.length) = true then _ else _) _ _ s
  rw [if_neg no, back_pick]
  first
    | exact wpAny_bind (m := Builtin.Tuple.tupleExact _) (wpAny_newObj_type (wpAny_pure ⟨_, rfl, wpAny_pure h⟩) room)
    | exact wpAny_bind (m := Builtin.Tuple.tupleExact _) (wpAny_newObj_type (wpAny_bind (wpAny_pure (wpAny_pure ⟨_, rfl, wpAny_pure h⟩))) room)
    | exact wpAny_bind (wpAny_bind (m := Builtin.Tuple.tupleExact _) (wpAny_newObj_type (wpAny_pure (wpAny_pure ⟨_, rfl, wpAny_pure h⟩)) room))
end
section
variable {X : Cx} {K : PySem.W.Frag} {σ : L2.St} {H : Hp} {Q : VK}
def tBackT (K : PySem.W.Frag) (te : TE) : TE := fun σ H Q => te σ H fun x H1 => ∃ a xs, x = .ref a ∧ SqT K H1 a xs ∧ ∀ p, H1 p = none → Q (.ref p) (upd H1 p (.tup xs.reverse))
theorem pe_revT {e : Expr} {te : TE} {k : Nat} {p1 p2 p3 pos : Pos} (he : PE X e te) : PE X (.Subscript e (.Slice none none (some (.UnaryOp .USub (.Constant (.int 1) k p1) p2)) p3) pos) (tBackT X.K te) := by
  constructor
  intro pins s σ H Q I h
  refine Subscript_ (thn (he.run pins s σ H _ I h) fun v s1 ⟨x, H1, I1, r1, a, xs, ex, hx, q⟩ => ?_)
  subst ex
  cases r1
  have hst : PO X (some (.UnaryOp .USub (.Constant (.int 1) k p1) p2)) (tPart (tUn (rU fun i => .int (-i)) (tC (.int 1)))) := po_some (pe_un un_neg pe_int)
  refine wpAny_Slice (thn (po_none.run pins s1 σ H1 (fun o G => o = none ∧ G = H1) I1 ⟨rfl, rfl⟩) fun vl s2 ⟨l, H2, I2, pl, el, g2⟩ => ?_)
  subst el g2
  refine thn (po_none.run pins s2 σ H2 (fun o G => o = none ∧ G = H2) I2 ⟨rfl, rfl⟩) fun vu s3 ⟨u, H3, I3, pu, eu, g3⟩ => ?_
  subst eu g3
  refine thn (hst.run pins s3 σ H3 (fun o G => o = some (-1) ∧ G = H3) I3 ⟨1, rfl, -1, rfl, rfl, rfl⟩) fun vs s4 ⟨o, H4, I4, ps, eo, g4⟩ => ?_
  subst eo g4
  have I5 : Inv X pins σ H4 { s4 with heap := s4.heap.push { cls := .type "slice", data := .fields #[vl, vu, vs] } } := I4.kept (t' := s4.toks) fun b ob z => Heap.get?_push_of_some _ z
  obtain ⟨its, r, ht, hz⟩ := I5.tuple hx
  have hlen := r.length
  show wpAny (model X.prog X.w) X.A (subscriptTail e (.Slice none none (some (.UnaryOp .USub (.Constant (.int 1) k p1) p2)) p3) (.ref a) (.ref s4.heap.objs.size)) (EP X pins σ Q) X.xe { s4 with heap := s4.heap.push { cls := .type "slice", data := .fields #[vl, vu, vs] } }
  refine tail_any (ops := [.ref a, .ref s4.heap.objs.size]) ht.typeIs slot_tuple_getitem.lookup ?_ (by with_unfolding_all rfl)
  refine tuple_back ht (Heap.IsSliceOf.new _ vl vu vs) pl pu ps (by omega) ?_
  refine ⟨.ref _, _, I5.laid (t' := s4.toks) (o := .tup xs.reverse) (fun b ob z => Heap.get?_push_of_some _ z) (Nat.le_refl _) ?_, rfl, q _ (I5.hok.fresh (Nat.le_refl _))⟩
  exact ⟨by rw [List.length_reverse]; exact hz, _, r.reverse, _, Heap.get?_push_size _ rfl, rfl, _, rfl⟩
/-- of a tuple of data -/
theorem r_back {te : TE} (h : te σ H fun x H1 => ∃ a xs, x = .ref a ∧ SqT K H1 a xs ∧ ∀ p, H1 p = none → Q (.ref p) (upd H1 p (.tup xs.reverse))) : tBackT K te σ H Q := h
/-- a slice of a tuple of data is one -/
theorem r_slT {a : Addr} {xs : List V} {ds : List D} {lo hi : Option Int} (h1 : H a = some (.tup xs)) (hd : Dts H ds xs) (k : ∀ v es H', Kp [] H H' → KeepT H H' → Dt H' (.tup es) v → (∀ e ∈ es, e ∈ ds) → es.length = (cutV xs lo hi).length → Q v H') :
    rSlA K (.ref a) lo hi H Q := by
  have cut : Dts H ((ds.drop (HT.sIx xs.length 0 lo)).take (HT.sIx xs.length xs.length hi - HT.sIx xs.length 0 lo)) (cutV xs lo hi) := (hd.drop _).take _
  have sub : ∀ e ∈ (ds.drop (HT.sIx xs.length 0 lo)).take (HT.sIx xs.length xs.length hi - HT.sIx xs.length 0 lo), e ∈ ds := fun e he => List.mem_of_mem_drop (List.mem_of_mem_take he)
  refine ⟨a, xs, rfl, SqT.of h1, fun hw => ?_, fun _ p np => ?_⟩
  · have e : cutV xs lo hi = xs := by
      unfold cutV
      rw [hw.1, hw.2, List.drop_zero, Nat.sub_zero, List.take_length]
    rw [e] at cut
    exact k _ _ H (Kp.refl _ _) (fun _ _ z => z) (Dt.tupI h1 cut) sub (by rw [e]; exact cut.len.symm)
  · obtain ⟨k1, t1, d1⟩ := new_tup np cut
    exact k _ _ _ k1 t1 d1 sub cut.len.symm
/-- the sum of two tuples of data is one -/
theorem r_catT {a b : Addr} {xs ys : List V} {ds es : List D} (h1 : H a = some (.tup xs)) (h2 : H b = some (.tup ys)) (hd : Dts H ds xs) (he : Dts H es ys) (few : xs.length + ys.length ≤ 10000)
    (k : ∀ v H', Kp [] H H' → KeepT H H' → Dt H' (.tup (ds ++ es)) v → Q v H') : rCatA K (.ref a) (.ref b) H Q := by
  refine ⟨a, b, xs, ys, rfl, rfl, SqT.of h1, SqT.of h2, Nat.le_trans few (by decide), fun z => ?_, fun _ z => ?_, fun _ _ p np => ?_⟩
  · subst z
    have e : ds = [] := List.eq_nil_of_length_eq_zero hd.len.symm
    subst e
    exact k _ H (Kp.refl _ _) (fun _ _ z => z) (Dt.tupI h2 he)
  · subst z
    have e : es = [] := List.eq_nil_of_length_eq_zero he.len.symm
    subst e
    rw [List.append_nil] at k
    exact k _ H (Kp.refl _ _) (fun _ _ z => z) (Dt.tupI h1 hd)
  · obtain ⟨k1, t1, d1⟩ := new_tup np (hd.app he)
    exact k _ _ k1 t1 d1
theorem last_cut (xs : List V) : (cutV xs (some (-1)) none).length ≤ 1 := by
  unfold cutV
  rw [List.length_take, List.length_drop]
  have e : HT.sIx xs.length 0 (some (-1)) = xs.length - 1 := by
    show (if (-1 : Int) < 0 then ((-1 : Int) + (xs.length : Int)).toNat else min (-1 : Int).toNat xs.length) = _
    rw [if_pos (by decide)]
    omega
  rw [e]
  omega
end
end Lc
end

section
/-! == and != of data of any depth; dict(t) of a tuple of pairs. -/
namespace Lc
open PySem L2 PyProof.Rows PySem.Spec
variable [Lc.Tbs]
mutual
def D.py : D → PyData
  | .tup xs => .tuple (pys xs)
  | .non => .none
  | .bl b => .bool b
  | .int i => .int i
  | .str x => .str x
def pys : List D → List PyData
  | [] => []
  | d :: ds => d.py :: pys ds
end
mutual
theorem Dt.py {K : PySem.W.Frag} {H : Hp} : ∀ {d : D} {v : V}, Dt H d v → Dp K H v d.py
  | .non, v, h => by cases (show v = _ from h); rw [D.py]; exact .non
  | .bl b, v, h => by cases (show v = _ from h); rw [D.py]; exact .bl b
  | .int i, v, h => by cases (show v = _ from h); rw [D.py]; exact .int i
  | .str x, v, h => by cases (show v = _ from h); rw [D.py]; exact .str x
  | .tup ds, v, h => by
    obtain ⟨a, xs, rfl, ha, hs⟩ := h
    rw [D.py]
    exact .tup (SqT.of ha) (Dts.py hs)
theorem Dts.py {K : PySem.W.Frag} {H : Hp} : ∀ {ds : List D} {xs : List V}, Dts H ds xs → DpAll K H xs (pys ds)
  | [], xs, h => by cases (show xs = _ from h); rw [pys]; exact .nil
  | d :: ds, xs, h => by
    obtain ⟨x, r, rfl, h1, h2⟩ := h
    rw [pys]
    exact .cons (Dt.py h1) (Dts.py h2)
end
/-- a text of the data -/
abbrev Tx (x : Str) : Prop := PyData.strOk x = true
mutual
theorem D.can {W : Nat} : ∀ {d : D}, Wd Tx W d → d.py.canLay0 = true
  | .tup xs, h => by
    rw [D.py, PyData.canLay0]
    rw [Wd] at h
    exact pys_can h.2
  | .non, _ => by rw [D.py, PyData.canLay0]
  | .bl b, _ => by rw [D.py, PyData.canLay0]
  | .int i, _ => by rw [D.py, PyData.canLay0]
  | .str x, h => by rw [D.py, PyData.canLay0]; exact h
theorem pys_can {W : Nat} : ∀ {ds : List D}, Wds Tx W ds → PyData.canLayAll0 (pys ds) = true
  | [], _ => by rw [pys, PyData.canLayAll0]
  | d :: ds, h => by
    rw [Wds] at h
    rw [pys, PyData.canLayAll0, D.can h.1, pys_can h.2]
    rfl
end
mutual
theorem D.py_dp : ∀ d : D, d.py.depth ≤ d.dp
  | .tup xs => by
    have := pys_dp xs
    rw [D.py, PyData.depth, D.dp]
    omega
  | .non => Nat.zero_le _
  | .bl b => Nat.zero_le _
  | .int i => Nat.zero_le _
  | .str x => Nat.zero_le _
theorem pys_dp : ∀ ds : List D, PyData.depthAll (pys ds) ≤ dps ds
  | [] => Nat.zero_le _
  | d :: ds => by
    have h1 := D.py_dp d
    have h2 := pys_dp ds
    rw [pys, PyData.depthAll, dps]
    omega
end
def eqD (a b : D) : Bool := PyData.eqv a.py b.py
def eqDs (a b : List D) : Bool := PyData.eqvAll (pys a) (pys b)
theorem eqD_tup (a b : List D) : eqD (.tup a) (.tup b) = eqDs a b := by
  unfold eqD eqDs
  rw [D.py, D.py, PyData.eqv]
theorem eqDs_nil : eqDs [] [] = true := by unfold eqDs; rw [pys, PyData.eqvAll]
theorem eqDs_cons (a b : D) (as bs : List D) : eqDs (a :: as) (b :: bs) = (eqD a b && eqDs as bs) := by unfold eqDs eqD; rw [pys, pys, PyData.eqvAll]
theorem eqDs_nilL (b : D) (bs : List D) : eqDs [] (b :: bs) = false := by unfold eqDs; rw [pys, pys, PyData.eqvAll]
theorem eqDs_nilR (b : D) (bs : List D) : eqDs (b :: bs) [] = false := by unfold eqDs; rw [pys, pys, PyData.eqvAll]
theorem eqD_str (x y : Str) : eqD (.str x) (.str y) = decide (x = y) := by
  unfold eqD
  rw [D.py, D.py, PyData.eqv]
  by_cases h : x = y
  · rw [h, decide_eq_true rfl, beq_self_eq_true]
  · rw [decide_eq_false h]
    exact beq_eq_false_iff_ne.mpr h
theorem eqD_strR {d : D} {y : Str} (h : eqD d (.str y) = true) : d = .str y := by
  cases d with
  | str x => rw [eqD_str] at h; rw [of_decide_eq_true h]
  | non => unfold eqD at h; simp only [D.py, PyData.eqv] at h; cases h
  | bl b => unfold eqD at h; simp only [D.py, PyData.eqv] at h; cases h
  | int b => unfold eqD at h; simp only [D.py, PyData.eqv] at h; cases h
  | tup b => unfold eqD at h; simp only [D.py, PyData.eqv] at h; cases h
theorem eqD_int (x y : Int) : eqD (.int x) (.int y) = decide (x = y) := by
  unfold eqD
  rw [D.py, D.py, PyData.eqv]
  by_cases h : x = y
  · rw [h, decide_eq_true rfl, beq_self_eq_true]
  · rw [decide_eq_false h]
    exact beq_eq_false_iff_ne.mpr h
section
variable {X : Cx}
def rEqA (n : Nat) : R2 := fun x y H Q => ∃ d e W, Dt H d x ∧ Dt H e y ∧ Wd Tx W d ∧ Wd Tx W e ∧ min d.dp e.dp ≤ n ∧ Q (.bl (eqD d e)) H
def rNeA (n : Nat) : R2 := fun x y H Q => ∃ d e W, Dt H d x ∧ Dt H e y ∧ Wd Tx W d ∧ Wd Tx W e ∧ min d.dp e.dp ≤ n ∧ Q (.bl (!eqD d e)) H
theorem op_eqA {n : Nat} (hu : X.A.units + n < cLine) : OpR X (compareOp .Eq) (rEqA n) := by
  intro pins s σ H x y v u Q I rx ry h
  obtain ⟨d, e, W, hd, he, sd, se, hm, q⟩ := h
  obtain ⟨as, r1⟩ := Dp.reads I d.py x v hd.py rx
  obtain ⟨bs, r2⟩ := Dp.reads I e.py y u he.py ry
  refine SeqAt.compareEq_reads r1 r2 (D.can sd) (D.can se) ?_ ⟨.bl _, H, I, rfl, q⟩
  have h1 := d.py_dp
  have h2 := e.py_dp
  omega
theorem op_neA {n : Nat} (hu : X.A.units + n < cLine) : OpR X (compareOp .NotEq) (rNeA n) := by
  intro pins s σ H x y v u Q I rx ry h
  obtain ⟨d, e, W, hd, he, sd, se, hm, q⟩ := h
  obtain ⟨as, r1⟩ := Dp.reads I d.py x v hd.py rx
  obtain ⟨bs, r2⟩ := Dp.reads I e.py y u he.py ry
  refine SeqAt.compareNe_reads r1 r2 (D.can sd) (D.can se) ?_ ⟨.bl _, H, I, rfl, q⟩
  have h1 := d.py_dp
  have h2 := e.py_dp
  omega
theorem u150 {k : Nat} {A : Around} (r : Room k A) : A.units + 150 < cLine := by
  have := r.un
  omega
end

/-! ### dict(t), t a tuple of pairs -/
section
variable {X : Cx}
theorem prs_of {pins : List (Addr × Obj)} {σ : L2.St} {H : Hp} {s : Shared} (I : Inv X pins σ H s) : ∀ {ps : List Addr} {kvs : List (Key × V)}, Paired (fun p kv => SqT X.K H p [kV kv.1, kv.2]) ps kvs →
    ∃ prs : List (Key × Value), ∃ us : List Value, KV kvs prs ∧ prs.length = ps.length ∧ us.length = ps.length ∧ ∀ (j : Nat) (q : Key × Value), prs[j]? = some q → ∃ (b : Addr) (u : Value), ps[j]? = some b ∧ us[j]? = some u ∧ IsTup s.heap b #[u, q.2] ∧ (mixKind X.prog X.w).is q.1 u = true
  | _, _, .nil => ⟨[], [], .nil, rfl, rfl, fun j q e => by simp at e⟩
  | _, _, .cons (a := p) (b := kv) h t => by
    obtain ⟨prs, us, r, hl, hl2, hp⟩ := prs_of I t
    obtain ⟨its, rv, ht, _⟩ := I.tuple h
    obtain ⟨u, y, ei, ru, ry⟩ := vals2 rv
    subst ei
    refine ⟨(kv.1, y) :: prs, u :: us, .cons ⟨rfl, ry⟩ r, by rw [List.length_cons, List.length_cons, hl], by rw [List.length_cons, List.length_cons, hl2], fun j q e => ?_⟩
    cases j with
    | zero =>
      have e' : (kv.1, y) = q := Option.some.inj e
      subst e'
      exact ⟨p, u, rfl, rfl, ht, kV_is (P := X.prog) (w := X.w) ru⟩
    | succ j =>
      obtain ⟨b, u', e1, e2, e3, e4⟩ := hp j q (by simpa using e)
      exact ⟨b, u', by simpa using e1, by simpa using e2, e3, e4⟩
/-- .. of a tuple whose object is known -/
def rDictT (K : PySem.W.Frag) : List V → Hp → VK → Prop := fun xs H Q => ∃ (a : Addr) (ob : Obj) (ps : List Addr) (kvs : List (Key × V)), xs = [.ref a] ∧ H a = some (.frz ob (.tup (ps.map V.ref))) ∧ ob.dict = none ∧ Paired (fun p kv => SqT K H p [kV kv.1, kv.2]) ps kvs ∧ ps.length ≤ 10000 ∧
    ∀ p, H p = none → Q (.ref p) (upd H p (.dK (mergeK [] kvs)))
theorem call_dictTup (hcalm : X.calm = true) : CallR X (.type "dict") (rDictT X.K) := by
  intro pins s σ H xs us Q I r q
  obtain ⟨a, ob, ps, kvs, ex, hq, hno, hp, few, q⟩ := q
  subst ex
  obtain ⟨u, eu, rx⟩ := vals1 r
  subst eu
  cases rx
  obtain ⟨hob, okt⟩ := (show ObjOk X.prog X.w H s.heap a (.frz ob (.tup (ps.map V.ref))) from I.hok a _ hq)
  obtain ⟨hz, its, rv, o, ho, hc, n, hd⟩ := okt
  cases (Option.some.inj (hob.symm.trans ho))
  have ei := refs_at rv
  subst ei
  obtain ⟨prs, ks, rel, hl, hl2, hpr⟩ := prs_of I hp
  have ok : PlainSeq "tuple" s.heap a (ps.map Value.ref).toArray ∧ PairItems s.heap (ps.map Value.ref).toArray (fun j => (ps[j]?).getD 0) (ks.zip (prs.map Prod.snd)) := by
    refine ⟨⟨ob, n, ho, hc, hno, hd⟩, by simp [hl, hl2], fun j k v hj => ?_⟩
    have h1 : j < prs.length := by
      have := (List.getElem?_eq_some_iff.mp hj).1
      simp at this
      omega
    obtain ⟨b, u, e1, e2, e3, e4⟩ := hpr j _ (List.getElem?_eq_getElem h1)
    have hv : (ks.zip (prs.map Prod.snd))[j]? = some (u, prs[j].2) := by
      rw [List.getElem?_zip_eq_some]
      exact ⟨e2, by simp [h1]⟩
    rw [hv] at hj
    cases hj
    refine ⟨by simp [e1], ?_⟩
    show PairAt s.heap ((ps[j]?).getD 0) _ _
    rw [e1]
    exact .inl e3
  refine call_dict_pairs (knd := mixKind X.prog X.w) (kvs := prs) (PairArg.tuple a _ _ _) (I.ok.hd hcalm) ok ⟨by simp [hl, hl2], fun i key v hi => ?_⟩ (by simp [hl, hl2]; exact Nat.le_trans few (by decide)) fun h' tk hd' k => ?_
  · have h1 : i < prs.length := by
      have := (List.getElem?_eq_some_iff.mp hi).1
      simp at this
      omega
    obtain ⟨b, u, e1, e2, e3, e4⟩ := hpr i _ (List.getElem?_eq_getElem h1)
    have hv : (ks.zip (prs.map Prod.snd))[i]? = some (u, prs[i].2) := by
      rw [List.getElem?_zip_eq_some]
      exact ⟨e2, by simp [h1]⟩
    have hi' : (ks.zip (prs.map Prod.snd))[i]? = some (key, v) := hi
    rw [hv] at hi'
    cases hi'
    exact ⟨prs[i].1, List.getElem?_eq_getElem h1, e4⟩
  · have hm : (s.heap.objs.size == sysModules) = false := beq_eq_false_iff_ne.mpr (Nat.ne_of_gt I.big)
    have hlen : (mergeK [] kvs).length ≤ sizeLine := by
      refine Nat.le_trans (length_mergeK kvs []) ?_
      rw [List.length_nil, Nat.zero_add, rel.length, hl]
      exact Nat.le_trans few (by decide)
    exact ⟨.ref s.heap.objs.size, upd H s.heap.objs.size (.dK (mergeK [] kvs)), I.laid (t' := tk) (fun b o e => k b o (by simp) e) (Nat.le_refl _) (show ObjOk X.prog X.w _ _ _ (.dK (mergeK [] kvs)) from ⟨hlen, hm, merged [] prs, KV.merge rel .nil, hd'⟩), rfl, q _ (I.hok.fresh (Nat.le_refl _))⟩
/-- tuple(l): the new object is known -/
def rTupF (K : PySem.W.Frag) : List V → Hp → VK → Prop := fun xs H Q => ∃ p ys, xs = [.ref p] ∧ SqL K H p ys ∧ ∀ l ob, H l = none → ob.dict = none → Q (.ref l) (upd H l (.frz ob (.tup ys)))
theorem call_tuple_frz : CallR X (.type "tuple") (rTupF X.K) := by
  intro pins s σ H xs us Q I r h
  obtain ⟨p, ys, rfl, hq, q⟩ := h
  obtain ⟨u, rfl, rx⟩ := vals1 r
  cases rx
  obtain ⟨its, r', pl, hz⟩ := I.list hq
  have hlen := r'.length
  refine call_tuple_list pl.isList (fun h' kp => ?_) (by simp only [List.size_toArray] <;> omega)
  have I1 : Inv X pins σ H { s with heap := h' } := I.kept (t' := s.toks) kp
  have I2 : Inv X pins σ (upd H h'.objs.size (.frz { cls := .type "tuple", data := .seq its.toArray } (.tup ys))) { s with heap := h'.push { cls := .type "tuple", data := .seq its.toArray } } :=
    I1.laid (t' := s.toks) (fun b o e => Heap.get?_push_of_some _ e) (Nat.le_refl _) (show ObjOk X.prog X.w _ _ _ (.frz _ (.tup ys)) from ⟨Heap.get?_push_size _ rfl, hz, its, r', IsTup.new _ _⟩)
  exact ⟨.ref h'.objs.size, _, I2, rfl, q _ _ (I1.hok.fresh (Nat.le_refl _)) rfl⟩
theorem valV_merge (k : Key) : ∀ (more acc : List (Key × V)), (more.map (·.1)).Nodup → valV (mergeK acc more) k = (valV more k).or (valV acc k)
  | [], acc, _ => by
    show valV acc k = (valV [] k).or (valV acc k)
    rw [valV_nil]
    rfl
  | p :: r, acc, h => by
    rw [List.map_cons, List.nodup_cons] at h
    have ih := valV_merge k r (putK acc p.1 p.2) h.2
    show valV (mergeK (putK acc p.1 p.2) r) k = _
    rw [ih, valV_put]
    by_cases e : p.1 = k
    · rw [valV_pos e, if_pos e.symm]
      have : valV r k = none := by
        cases q : valV r k with
        | none => rfl
        | some v =>
          exfalso
          unfold valV at q
          obtain ⟨x, hx, _⟩ := Option.map_eq_some_iff.mp q
          have m := List.mem_of_find?_eq_some hx
          have m2 : x.1 = k := by
            have z := List.find?_some hx
            exact of_decide_eq_true z
          exact h.1 (e ▸ m2 ▸ List.mem_map.mpr ⟨x, m, rfl⟩)
      rw [this]
      rfl
    · rw [valV_neg e, if_neg fun z => e z.symm]
end
end Lc
end

section
/-! Types and typed terms, told of data. -/
namespace Lc
open PySem L2 PyProof.Rows PySem.Spec
variable [Lc.Tbs]
/-- a type -/
inductive Ty where
  | mk (as : List Ty) (s : Str)
def Ty.as : Ty → List Ty | .mk a _ => a
def Ty.s : Ty → Str | .mk _ s => s
mutual
def Ty.d : Ty → D
  | .mk as s => .tup [.tup (tyds as), .str s]
def tyds : List Ty → List D
  | [] => []
  | t :: ts => t.d :: tyds ts
end
theorem tyds_map : ∀ ts : List Ty, tyds ts = ts.map Ty.d
  | [] => rfl
  | t :: ts => by rw [tyds, List.map_cons, tyds_map ts]
theorem tyds_len (ts : List Ty) : (tyds ts).length = ts.length := by rw [tyds_map, List.length_map]
theorem tyds_app (a b : List Ty) : tyds (a ++ b) = tyds a ++ tyds b := by rw [tyds_map, tyds_map, tyds_map, List.map_append]
theorem tyds_at {ts : List Ty} {i : Nat} {t : Ty} (h : ts[i]? = some t) : (tyds ts)[i]? = some t.d := by rw [tyds_map, List.getElem?_map, h]; rfl
theorem Ty.d_eq (t : Ty) : t.d = .tup [.tup (tyds t.as), .str t.s] := by
  cases t
  rw [Ty.d]
  rfl
/-- texts are texts, at most W arguments -/
abbrev Ty.Ok (W : Nat) (t : Ty) : Prop := Wd Tx W t.d
abbrev TysOk (W : Nat) (ts : List Ty) : Prop := Wds Tx W (tyds ts)
theorem TysOk.at {W : Nat} {ts : List Ty} {t : Ty} (h : TysOk W ts) (m : t ∈ ts) : t.Ok W := Wds.mem.mp h _ (by rw [tyds_map]; exact List.mem_map.mpr ⟨t, m, rfl⟩)
theorem Ty.Ok.as {W : Nat} {t : Ty} (h : t.Ok W) : TysOk W t.as ∧ t.as.length ≤ W ∧ Tx t.s := by
  unfold Ty.Ok at h
  rw [Ty.d_eq, Wd, Wds, Wds, Wd] at h
  exact ⟨h.2.1.2, by have := h.2.1.1; rw [tyds_len] at this; exact this, h.2.2.1⟩
theorem TysOk.app {W : Nat} {a b : List Ty} (h1 : TysOk W a) (h2 : TysOk W b) : TysOk W (a ++ b) := by
  unfold TysOk
  rw [tyds_app]
  exact Wds.app h1 h2
/-! ### what a signature, a head, a term says -/
abbrev Sg := List (Str × Ty)
def sgGet (sg : Sg) (x : Str) : Option Ty := (sg.find? fun r => decide (r.1 = x)).map (·.2)
def hkI (hs own : List Ty) (s : D) (i : Int) : Option Ty :=
  if (eqD s (.str "b") && decide (i < own.length)) = true then own[own.length - 1 - i.toNat]? else
  if (eqD s (.str "h") && decide (i < hs.length)) = true then hs[i.toNat]? else none
def hkM (hs own : List Ty) (s : D) : D → Option Ty
  | .int i => if i < 0 then none else hkI hs own s i
  | _ => none
def hkC (sg : Sg) : D → Option Ty
  | .str x => sgGet sg x
  | _ => none
def hkB (sg : Sg) (hs own : List Ty) (s m : D) : Option Ty := if (eqD s (.str "c") && m.isS) = true then hkC sg m else hkM hs own s m
def hdB (sg : Sg) (hs own : List Ty) : D → Option Ty
  | .tup [s, m] => hkB sg hs own s m
  | _ => none
mutual
def tmB (sg : Sg) (hs own : List Ty) (k : Ty) : D → Bool
  | .tup [.int n, h, .tup ps] => decide (n = k.as.length) && (match hdB sg hs (own ++ k.as) h with
    | none => false
    | some t => decide (t.s = k.s) && decide (t.as.length = ps.length) && tmsB sg hs (own ++ k.as) t.as ps)
  | _ => false
def tmsB (sg : Sg) (hs own : List Ty) (ts : List Ty) : List D → Bool
  | [] => ts.isEmpty
  | p :: ps => match ts with
    | [] => false
    | t :: ts => tmB sg hs own t p && tmsB sg hs own ts ps
end
theorem mem_of_at {α : Type} {l : List α} {i : Nat} {x : α} (h : l[i]? = some x) : x ∈ l := List.mem_of_getElem? h
theorem hkM_int (hs own : List Ty) (s : D) (i : Int) : hkM hs own s (.int i) = if i < 0 then none else hkI hs own s i := rfl
theorem hkC_mem {sg : Sg} {m : D} {t : Ty} (h : hkC sg m = some t) : ∃ x, (x, t) ∈ sg := by
  unfold hkC at h
  split at h
  · unfold sgGet at h
    obtain ⟨r, hr, e⟩ := Option.map_eq_some_iff.mp h
    exact ⟨r.1, e ▸ List.mem_of_find?_eq_some hr⟩
  · exact absurd h (by simp)
theorem hkI_mem {hs own : List Ty} {s : D} {i : Int} {t : Ty} (h : hkI hs own s i = some t) : t ∈ hs ∨ t ∈ own := by
  unfold hkI at h
  split at h
  · exact .inr (mem_of_at h)
  · split at h
    · exact .inl (mem_of_at h)
    · exact absurd h (by simp)
theorem hkM_mem {hs own : List Ty} {s m : D} {t : Ty} (h : hkM hs own s m = some t) : t ∈ hs ∨ t ∈ own := by
  unfold hkM at h
  split at h
  · split at h
    · exact absurd h (by simp)
    · exact hkI_mem h
  · exact absurd h (by simp)
theorem hdB_mem {sg : Sg} {hs own : List Ty} {d : D} {t : Ty} (h : hdB sg hs own d = some t) : (∃ x, (x, t) ∈ sg) ∨ t ∈ hs ∨ t ∈ own := by
  unfold hdB at h
  split at h
  · unfold hkB at h
    split at h
    · exact .inl (hkC_mem h)
    · exact .inr (hkM_mem h)
  · exact absurd h (by simp)
structure SgOk (W : Nat) (sg : Sg) : Prop where
  nd : (sg.map (·.1)).Nodup
  ok : ∀ r ∈ sg, Tx r.1 ∧ r.2.Ok W
theorem hdB_ok {W : Nat} {sg : Sg} {hs own : List Ty} {d : D} {t : Ty} (s : SgOk W sg) (h1 : TysOk W hs) (h2 : TysOk W own) (h : hdB sg hs own d = some t) : t.Ok W := by
  rcases hdB_mem h with ⟨x, m⟩ | m | m
  · exact (s.ok _ m).2
  · exact h1.at m
  · exact h2.at m
def formB (n : Nat) : D → Bool
  | .tup [.int m, _, .tup _] => decide (m = (n : Int))
  | _ => false
theorem formB_len {n : Nat} {ds : List D} (h : formB n (.tup ds) = true) : ds.length = 3 := by
  unfold formB at h
  split at h
  · next e =>
    cases e
    rfl
  · cases h
/-! ### a signature, a dict of one -/
def Prs (H : Hp) (sg : Sg) (ps : List Addr) (kvs : List (Key × V)) : Prop := ps.length = sg.length ∧ kvs.length = sg.length ∧
  ∀ (i : Nat) (r : Str × Ty), sg[i]? = some r → ∃ p v, ps[i]? = some p ∧ kvs[i]? = some (Sum.inr r.1, v) ∧ H p = some (.tup [.str r.1, v]) ∧ Dt H r.2.d v
/-- the value is the signature -/
def SgV (H : Hp) (sg : Sg) (v : V) : Prop := ∃ a ob ps kvs, v = .ref a ∧ H a = some (.frz ob (.tup (ps.map V.ref))) ∧ ob.dict = none ∧ Prs H sg ps kvs
theorem Prs.mono {H H' : Hp} {sg : Sg} {ps : List Addr} {kvs : List (Key × V)} (h : Prs H sg ps kvs) (k : KeepT H H') : Prs H' sg ps kvs :=
  ⟨h.1, h.2.1, fun i r e => by
    obtain ⟨p, v, e1, e2, e3, e4⟩ := h.2.2 i r e
    exact ⟨p, v, e1, e2, k _ _ e3, e4.mono k⟩⟩
theorem SgV.mono {l : List Addr} {H H' : Hp} {sg : Sg} {v : V} (h : SgV H sg v) (k : Kp l H H') (n : ∀ c ∈ l, ∃ xs, H c = some (.lst xs)) : SgV H' sg v := by
  obtain ⟨a, ob, ps, kvs, e, h1, h2, h3⟩ := h
  refine ⟨a, ob, ps, kvs, e, k a _ (fun z => ?_) h1, h2, h3.mono (k.tl fun c m => ?_)⟩
  · obtain ⟨xs, e⟩ := n a z
    rw [h1] at e
    cases e
  · obtain ⟨xs, e⟩ := n c m
    exact NoT.lst e
theorem SgV.mono0 {H H' : Hp} {sg : Sg} {v : V} (h : SgV H sg v) (k : Kp [] H H') : SgV H' sg v := h.mono k fun _ z => nomatch z
theorem SgV.mono1 {H H' : Hp} {sg : Sg} {v : V} {c : Addr} {xs : List V} (h : SgV H sg v) (k : Kp [c] H H') (e : H c = some (.lst xs)) : SgV H' sg v := h.mono k fun b z => ⟨xs, by rw [List.mem_singleton.mp z]; exact e⟩
theorem Prs.paired {K : PySem.W.Frag} {H : Hp} : ∀ {sg : Sg} {ps : List Addr} {kvs : List (Key × V)}, Prs H sg ps kvs → Paired (fun p kv => SqT K H p [kV kv.1, kv.2]) ps kvs
  | [], [], [], _ => .nil
  | [], _ :: _, _, h => by cases h.1
  | [], _, _ :: _, h => by cases h.2.1
  | _ :: _, [], _, h => by cases h.1
  | _ :: _, _, [], h => by cases h.2.1
  | r :: sg, p :: ps, kv :: kvs, h => by
    refine .cons ?_ (Prs.paired (sg := sg) ⟨Nat.succ.inj h.1, Nat.succ.inj h.2.1, fun i r' e => h.2.2 (i + 1) r' (by simpa using e)⟩)
    obtain ⟨p', v, e1, e2, e3, _⟩ := h.2.2 0 r rfl
    cases e1
    cases e2
    exact SqT.of e3
theorem Prs.keys {H : Hp} : ∀ {sg : Sg} {ps : List Addr} {kvs : List (Key × V)}, Prs H sg ps kvs → kvs.map (·.1) = sg.map fun r => Sum.inr r.1
  | [], [], [], _ => rfl
  | [], _ :: _, _, h => by cases h.1
  | [], _, _ :: _, h => by cases h.2.1
  | _ :: _, [], _, h => by cases h.1
  | _ :: _, _, [], h => by cases h.2.1
  | r :: sg, p :: ps, kv :: kvs, h => by
    have ih := Prs.keys (sg := sg) (ps := ps) (kvs := kvs) ⟨Nat.succ.inj h.1, Nat.succ.inj h.2.1, fun i r' e => h.2.2 (i + 1) r' (by simpa using e)⟩
    obtain ⟨p', v, e1, e2, e3, _⟩ := h.2.2 0 r rfl
    cases e2
    rw [List.map_cons, List.map_cons, ih]
theorem Prs.get {H : Hp} : ∀ {sg : Sg} {ps : List Addr} {kvs : List (Key × V)}, Prs H sg ps kvs → ∀ x, match sgGet sg x with | none => valV kvs (.inr x) = none | some t => ∃ v, valV kvs (.inr x) = some v ∧ Dt H t.d v
  | [], [], [], _, x => rfl
  | [], _ :: _, _, h, _ => by cases h.1
  | [], _, _ :: _, h, _ => by cases h.2.1
  | _ :: _, [], _, h, _ => by cases h.1
  | _ :: _, _, [], h, _ => by cases h.2.1
  | r :: sg, p :: ps, kv :: kvs, h, x => by
    have ih := Prs.get (sg := sg) (ps := ps) (kvs := kvs) ⟨Nat.succ.inj h.1, Nat.succ.inj h.2.1, fun i r' e => h.2.2 (i + 1) r' (by simpa using e)⟩ x
    obtain ⟨p', v, e1, e2, e3, e4⟩ := h.2.2 0 r rfl
    cases e2
    by_cases z : r.1 = x
    · have e : sgGet (r :: sg) x = some r.2 := by
        unfold sgGet
        rw [List.find?_cons, decide_eq_true z]
        rfl
      rw [e]
      exact ⟨v, valV_pos (by rw [z]), e4⟩
    · have e : sgGet (r :: sg) x = sgGet sg x := by
        unfold sgGet
        rw [List.find?_cons, decide_eq_false z]
      have e2 : valV ((.inr r.1, v) :: kvs) (.inr x) = valV kvs (.inr x) := valV_neg fun q => z (Sum.inr.inj q)
      rw [e, e2]
      exact ih
/-- at p there is a dict of the signature -/
def SgD (H : Hp) (sg : Sg) (p : Addr) : Prop := ∃ kvs, H p = some (.dK kvs) ∧ ∀ x, match sgGet sg x with | none => valV kvs (.inr x) = none | some t => ∃ v, valV kvs (.inr x) = some v ∧ Dt H t.d v
theorem SgD.mono {l : List Addr} {H H' : Hp} {sg : Sg} {p : Addr} (h : SgD H sg p) (k : Kp l H H') (n : ∀ c ∈ l, ∃ xs, H c = some (.lst xs)) : SgD H' sg p := by
  obtain ⟨kvs, e, g⟩ := h
  have t : KeepT H H' := k.tl fun c m => by
    obtain ⟨xs, e⟩ := n c m
    exact NoT.lst e
  refine ⟨kvs, k p _ (fun z => ?_) e, fun x => ?_⟩
  · obtain ⟨xs, e2⟩ := n p z
    rw [e] at e2
    cases e2
  · have := g x
    cases q : sgGet sg x with
    | none => rw [q] at this; exact this
    | some r =>
      rw [q] at this
      obtain ⟨v, h1, h2⟩ := this
      exact ⟨v, h1, h2.mono t⟩
section
variable {K : PySem.W.Frag} {H : Hp} {Q : VK}
theorem r_dict {W : Nat} {sg : Sg} {v : V} (s : SgV H sg v) (ok : SgOk W sg) (few : sg.length ≤ 1000) (k : ∀ p H', Kp [] H H' → KeepT H H' → H p = none → SgD H' sg p → Q (.ref p) H') : rDictT K [v] H Q := by
  obtain ⟨a, ob, ps, kvs, rfl, h1, h2, h3⟩ := s
  refine ⟨a, ob, ps, kvs, rfl, h1, h2, h3.paired, by rw [h3.1]; omega, fun p np => ?_⟩
  have k1 : Kp [] H (upd H p (.dK (mergeK [] kvs))) := (Kp.refl _ _).up np
  refine k p _ k1 k1.t0 np ⟨_, upd_same, fun x => ?_⟩
  have nd : (kvs.map (·.1)).Nodup := by
    rw [h3.keys]
    have e : (sg.map fun r => (Sum.inr r.1 : Key)) = (sg.map (·.1)).map Sum.inr := by rw [List.map_map]; rfl
    rw [e]
    exact List.Pairwise.map _ (fun a b n z => n (Sum.inr.inj z)) ok.nd
  have e2 : valV (mergeK [] kvs) (.inr x) = valV kvs (.inr x) := by
    rw [valV_merge _ kvs [] nd, valV_nil]
    cases valV kvs (.inr x) <;> rfl
  have g := (h3.mono k1.t0).get x
  cases q : sgGet sg x with
  | none => rw [q] at g; exact e2.trans g
  | some t =>
    rw [q] at g
    obtain ⟨v, g1, g2⟩ := g
    exact ⟨v, e2.trans g1, g2⟩
end
section
variable {K : PySem.W.Frag} {σ : L2.St} {H : Hp} {N : L2.St → Hp → Prop} {t : TG} {u : TGs} {v : V} {r : List V}
/-- a tuple is taken apart -/
theorem r_gtup {n : Nat} {a : Addr} {xs : List V} (h : H a = some (.tup xs)) (l : xs.length = n) (q : u xs σ H N) : gTup K n u (.ref a) σ H N := ⟨a, xs, rfl, SqT.of h, l, q⟩
theorem r_gcons (h : t v σ H fun σ' H' => u r σ' H' N) : gCons t u (v :: r) σ H N := ⟨v, r, rfl, h⟩
theorem r_gnil (h : N σ H) : gNil [] σ H N := ⟨rfl, h⟩
theorem r_dget1 {td ty : TE} {Q : VK} (h : td σ H fun x H1 => ∃ a, x = .ref a ∧ IsD H1 a ∧ ty σ H1 fun y H2 => ∃ o, DGet H2 a y o ∧ Q (o.getD .non) H2) : tDGet1 td ty σ H Q := h
theorem r_dget2 {td ty tx : TE} {Q : VK} (h : td σ H fun x H1 => ∃ a, x = .ref a ∧ IsD H1 a ∧ ty σ H1 fun y H2 => tx σ H2 fun z H3 => ∃ o, DGet H3 a y o ∧ Q (o.getD z) H3) : tDGet2 td ty tx σ H Q := h
theorem u1 {k : Nat} {A : Around} (r : Room k A) : A.units + 1 < cLine := by
  have := r.un
  omega
theorem Dts.ix {ds : List D} {xs : List V} {i : Int} {d : D} (h : Dts H ds xs) (h0 : 0 ≤ i) (e : ds[i.toNat]? = some d) : ∃ x, atI xs i = some x ∧ Dt H d x := by
  obtain ⟨x, hx, q⟩ := h.of e
  refine ⟨x, ?_, q⟩
  have z := atI_nat hx
  rw [Int.toNat_of_nonneg h0] at z
  exact z
end
/-- a test of two parts: what is behind it once -/
theorem if_and2 {A0 A B : Prop} {b c : Bool} (step : b = true → (if c = true then A else B) → A0) (h1 : b = true → c = true → A) (h2 : (b && c) = false → B) : if b = true then A0 else (if false = true then A else B) := by
  cases b with
  | false => exact if_f rfl (if_f rfl (h2 rfl))
  | true =>
    refine if_t rfl (step rfl ?_)
    cases c with
    | true => exact if_t rfl (h1 rfl rfl)
    | false => exact if_f rfl (h2 rfl)
/-! ### what is still to be seen -/
/-- outer binders, type, term -/
abbrev Fr := List Ty × Ty × D
def frB (sg : Sg) (hs : List Ty) (f : Fr) : Bool := tmB sg hs f.1 f.2.1 f.2.2
def frsB (sg : Sg) (hs : List Ty) (fs : List Fr) : Bool := fs.all (frB sg hs)
def frZ (fs : List Fr) : Nat := (fs.map fun f => f.2.2.sz).sum
theorem frsB_app (sg : Sg) (hs : List Ty) (a b : List Fr) : frsB sg hs (a ++ b) = (frsB sg hs a && frsB sg hs b) := List.all_append
theorem frZ_app (a b : List Fr) : frZ (a ++ b) = frZ a + frZ b := by unfold frZ; rw [List.map_append, List.sum_append]
/-- a value that is such a triple -/
def FrV (W : Nat) (H : Hp) (f : Fr) (v : V) : Prop := ∃ a vo vk vt, v = .ref a ∧ H a = some (.tup [vo, vk, vt]) ∧ Dt H (.tup (tyds f.1)) vo ∧ Dt H f.2.1.d vk ∧ Dt H f.2.2 vt ∧
  TysOk W f.1 ∧ f.2.1.Ok W ∧ Wd Tx 1000000 f.2.2 ∧ f.1.length + W * f.2.2.dp ≤ 9000
def FrsV (W : Nat) (H : Hp) (fs : List Fr) (vs : List V) : Prop := vs.length = fs.length ∧ ∀ (i : Nat) (f : Fr), fs[i]? = some f → ∃ v, vs[i]? = some v ∧ FrV W H f v
theorem FrV.mono {W : Nat} {H H' : Hp} {f : Fr} {v : V} (h : FrV W H f v) (k : KeepT H H') : FrV W H' f v := by
  obtain ⟨a, vo, vk, vt, e, h1, h2, h3, h4, h5⟩ := h
  exact ⟨a, vo, vk, vt, e, k _ _ h1, h2.mono k, h3.mono k, h4.mono k, h5⟩
theorem FrsV.mono {W : Nat} {H H' : Hp} {fs : List Fr} {vs : List V} (h : FrsV W H fs vs) (k : KeepT H H') : FrsV W H' fs vs :=
  ⟨h.1, fun i f e => by
    obtain ⟨v, e1, e2⟩ := h.2 i f e
    exact ⟨v, e1, e2.mono k⟩⟩
theorem FrsV.nil {W : Nat} {H : Hp} : FrsV W H [] [] := ⟨rfl, fun i f e => by simp at e⟩
theorem FrsV.snoc {W : Nat} {H : Hp} {fs : List Fr} {vs : List V} {f : Fr} {v : V} (h : FrsV W H fs vs) (g : FrV W H f v) : FrsV W H (fs ++ [f]) (vs ++ [v]) := by
  refine ⟨by rw [List.length_append, List.length_append, h.1]; rfl, fun i f' e => ?_⟩
  rcases Nat.lt_or_ge i fs.length with lt | ge
  · rw [List.getElem?_append_left lt] at e
    obtain ⟨v', e1, e2⟩ := h.2 i f' e
    exact ⟨v', by rw [List.getElem?_append_left (by rw [h.1]; exact lt)]; exact e1, e2⟩
  · rw [List.getElem?_append_right ge] at e
    have i0 : i - fs.length = 0 := by
      have := (List.getElem?_eq_some_iff.mp e).1
      simp at this
      omega
    rw [i0] at e
    cases e
    refine ⟨v, ?_, g⟩
    rw [List.getElem?_append_right (by rw [h.1]; exact ge), h.1, i0]
    rfl
theorem FrsV.app {W : Nat} {H : Hp} {fs : List Fr} {vs : List V} (h : FrsV W H fs vs) : ∀ {gs : List Fr} {us : List V}, FrsV W H gs us → FrsV W H (fs ++ gs) (vs ++ us) := fun {gs us} g => by
  refine ⟨by rw [List.length_append, List.length_append, h.1, g.1], fun i f e => ?_⟩
  rcases Nat.lt_or_ge i fs.length with lt | ge
  · rw [List.getElem?_append_left lt] at e
    obtain ⟨v', e1, e2⟩ := h.2 i f e
    exact ⟨v', by rw [List.getElem?_append_left (by rw [h.1]; exact lt)]; exact e1, e2⟩
  · rw [List.getElem?_append_right ge] at e
    obtain ⟨v', e1, e2⟩ := g.2 _ f e
    exact ⟨v', by rw [List.getElem?_append_right (by rw [h.1]; exact ge), h.1]; exact e1, e2⟩
theorem FrsV.last {W : Nat} {H : Hp} {fs : List Fr} {vs : List V} (h : FrsV W H fs vs) (n : vs ≠ []) : ∃ gs f us v, fs = gs ++ [f] ∧ vs = us ++ [v] ∧ FrsV W H gs us ∧ FrV W H f v := by
  have nf : fs ≠ [] := fun z => by
    have := h.1
    rw [z] at this
    exact n (List.eq_nil_of_length_eq_zero this)
  obtain ⟨gs, f, rfl⟩ : ∃ gs f, fs = gs ++ [f] := ⟨fs.dropLast, fs.getLast nf, (List.dropLast_concat_getLast nf).symm⟩
  obtain ⟨us, v, rfl⟩ : ∃ us v, vs = us ++ [v] := ⟨vs.dropLast, vs.getLast n, (List.dropLast_concat_getLast n).symm⟩
  have hl : us.length = gs.length := by
    have := h.1
    rw [List.length_append, List.length_append] at this
    exact Nat.add_right_cancel this
  refine ⟨gs, f, us, v, rfl, rfl, ⟨hl, fun i f' e => ?_⟩, ?_⟩
  · have lt : i < gs.length := (List.getElem?_eq_some_iff.mp e).1
    obtain ⟨v', e1, e2⟩ := h.2 i f' (by rw [List.getElem?_append_left lt]; exact e)
    rw [List.getElem?_append_left (by rw [hl]; exact lt)] at e1
    exact ⟨v', e1, e2⟩
  · obtain ⟨v', e1, e2⟩ := h.2 gs.length f (by rw [List.getElem?_append_right (Nat.le_refl _), Nat.sub_self]; rfl)
    rw [← hl, List.getElem?_append_right (Nat.le_refl _), Nat.sub_self] at e1
    cases e1
    exact e2
/-- the parts with their types -/
def kids (own : List Ty) (ts : List Ty) (ps : List D) : List Fr := (ts.zip ps).map fun x => (own, x.1, x.2)
theorem kids_len {own ts : List Ty} {ps : List D} (h : ts.length = ps.length) : (kids own ts ps).length = ps.length := by
  unfold kids
  rw [List.length_map, List.length_zip, h, Nat.min_self]
theorem kids_B {sg : Sg} {hs own : List Ty} : ∀ {ts : List Ty} {ps : List D}, ts.length = ps.length → frsB sg hs (kids own ts ps) = tmsB sg hs own ts ps
  | [], [], _ => by rw [tmsB]; rfl
  | t :: ts, p :: ps, h => by
    rw [tmsB]
    show (frB sg hs (own, t, p) && frsB sg hs (kids own ts ps)) = _
    rw [kids_B (Nat.succ.inj h)]
    rfl
theorem kids_Z {own : List Ty} : ∀ {ts : List Ty} {ps : List D}, ts.length = ps.length → frZ (kids own ts ps) = szs ps
  | [], [], _ => rfl
  | t :: ts, p :: ps, h => by
    show p.sz + frZ (kids own ts ps) = _
    rw [kids_Z (Nat.succ.inj h), szs]
theorem kids_at {own ts : List Ty} {ps : List D} {i : Nat} {t : Ty} {p : D} (h1 : ts[i]? = some t) (h2 : ps[i]? = some p) : (kids own ts ps)[i]? = some (own, t, p) := by
  unfold kids
  rw [List.getElem?_map, show (ts.zip ps)[i]? = some (t, p) from List.getElem?_zip_eq_some.mpr ⟨h1, h2⟩]
  rfl
theorem formB_of {n : Nat} {d : D} (h : formB n d = true) : ∃ x ps, d = .tup [.int (n : Nat), x, .tup ps] := by
  unfold formB at h
  split at h
  · next m x ps =>
    exact ⟨x, ps, by rw [of_decide_eq_true h]⟩
  · cases h
theorem tmB_form {sg : Sg} {hs own : List Ty} {k : Ty} {d : D} (h : formB k.as.length d = false) : tmB sg hs own k d = false := by
  unfold tmB
  split
  · next n x ps =>
    have e : formB k.as.length (.tup [.int n, x, .tup ps]) = decide (n = (k.as.length : Int)) := rfl
    rw [e] at h
    rw [h]
    rfl
  · rfl
theorem tmB_eq {sg : Sg} {hs own : List Ty} {k : Ty} {x : D} {ps : List D} : tmB sg hs own k (.tup [.int (k.as.length : Nat), x, .tup ps]) = match hdB sg hs (own ++ k.as) x with
    | none => false
    | some t => decide (t.s = k.s) && decide (t.as.length = ps.length) && tmsB sg hs (own ++ k.as) t.as ps := by
  rw [tmB, decide_eq_true rfl, Bool.true_and]
theorem lst1 {H : Hp} {c : Addr} {xs : List V} (e : H c = some (.lst xs)) : ∀ b ∈ [c], ∃ xs, H b = some (.lst xs) := fun b z => by
  cases List.mem_singleton.mp z
  exact ⟨xs, e⟩
theorem frZ_len (fs : List Fr) : fs.length ≤ frZ fs := by
  induction fs with
  | nil => exact Nat.le_refl _
  | cons f fs ih =>
    have := f.2.2.sz_pos
    have e : frZ (f :: fs) = f.2.2.sz + frZ fs := rfl
    rw [e, List.length_cons]
    omega
theorem Prs.nil {H : Hp} : Prs H [] [] [] := ⟨rfl, rfl, fun i r e => by simp at e⟩
theorem Prs.snoc {H : Hp} {sg : Sg} {ps : List Addr} {kvs : List (Key × V)} {p : Addr} {n : Str} {t : Ty} {v : V} (h : Prs H sg ps kvs) (e : H p = some (.tup [.str n, v])) (d : Dt H t.d v) : Prs H (sg ++ [(n, t)]) (ps ++ [p]) (kvs ++ [(Sum.inr n, v)]) := by
  refine ⟨by rw [List.length_append, List.length_append, h.1]; rfl, by rw [List.length_append, List.length_append, h.2.1]; rfl, fun i r q => ?_⟩
  rcases Nat.lt_or_ge i sg.length with lt | ge
  · rw [List.getElem?_append_left lt] at q
    obtain ⟨p', v', e1, e2, e3⟩ := h.2.2 i r q
    exact ⟨p', v', by rw [List.getElem?_append_left (by rw [h.1]; exact lt)]; exact e1, by rw [List.getElem?_append_left (by rw [h.2.1]; exact lt)]; exact e2, e3⟩
  · rw [List.getElem?_append_right ge] at q
    have i0 : i - sg.length = 0 := by
      have := (List.getElem?_eq_some_iff.mp q).1
      simp at this
      omega
    rw [i0] at q
    cases q
    refine ⟨p, v, ?_, ?_, e, d⟩
    · rw [List.getElem?_append_right (by rw [h.1]; exact ge), h.1, i0]
      rfl
    · rw [List.getElem?_append_right (by rw [h.2.1]; exact ge), h.2.1, i0]
      rfl
def rowD (r : Str × Ty) : D := .tup [.str r.1, r.2.d]
theorem str_app_inj {a x y : Str} (h : a ++ x = a ++ y) : x = y := by
  have e : a.cps.toList ++ x.cps.toList = a.cps.toList ++ y.cps.toList := by
    have z := congrArg (fun s : Str => s.cps.toList) h
    have e1 : (a ++ x).cps.toList = a.cps.toList ++ x.cps.toList := Array.toList_append
    have e2 : (a ++ y).cps.toList = a.cps.toList ++ y.cps.toList := Array.toList_append
    rw [← e1, ← e2]
    exact z
  have e3 := List.append_cancel_left e
  cases x
  cases y
  exact congrArg Str.mk (Array.toList_inj.mp e3)
theorem tx_app {a x : Str} (h1 : Tx a) (h2 : Tx x) : Tx (a ++ x) := by
  have e1 : (a ++ x).cps = a.cps ++ x.cps := rfl
  unfold Tx PyData.strOk at *
  rw [e1, Array.all_append, h1, h2]
  rfl
/-- a test of two parts, one of which is enough -/
theorem if_or2 {A0 A B : Prop} {b c : Bool} (step : b = false → (if c = true then A else B) → A0) (h1 : A) (h2 : b = false → c = false → B) : if b = true then (if true = true then A else B) else A0 := by
  cases b with
  | true => exact if_t rfl (if_t rfl h1)
  | false =>
    refine if_f rfl (step rfl ?_)
    cases c with
    | true => exact if_t rfl h1
    | false => exact if_f rfl (h2 rfl rfl)
theorem hdB_all {p : Ty → Prop} {sg : Sg} {hs own : List Ty} {d : D} {t : Ty} (s : ∀ r ∈ sg, p r.2) (h1 : ∀ t ∈ hs, p t) (h2 : ∀ t ∈ own, p t) (h : hdB sg hs own d = some t) : p t := by
  rcases hdB_mem h with ⟨x, m⟩ | m | m
  · exact s _ m
  · exact h1 t m
  · exact h2 t m
theorem eq_nil_of {as : List Ty} (h : eqD (.tup (tyds as)) (.tup []) = true) : as = [] := by
  cases as with
  | nil => rfl
  | cons t ts =>
    rw [eqD_tup, tyds, eqDs_nilR] at h
    cases h
theorem eq_nil_to : eqD (.tup (tyds [])) (.tup []) = true := by rw [eqD_tup, tyds, eqDs_nil]
theorem kids_snoc {own : List Ty} {ts : List Ty} {ds : List D} {t : Ty} {d : D} (h : ts.length = ds.length) : kids own (ts ++ [t]) (ds ++ [d]) = kids own ts ds ++ [(own, t, d)] := by
  unfold kids
  rw [List.zip_append h, List.map_append]
  rfl
/-! ### long forms -/
abbrev hb (i : Int) : D := .tup [.str "b", .int i]
abbrev hd2 (s : Str) (i : Int) : D := .tup [.str s, .int i]
def raiseH (s : Str) (i n : Int) : D := if s = "b" then hd2 "b" (i + n) else hd2 s i
mutual
def longD (s : Str) (i : Int) : Ty → D
  | .mk as _ => .tup [.int as.length, raiseH s i as.length, .tup (longs as.length 0 as)]
def longs (n j : Nat) : List Ty → List D
  | [] => []
  | t :: ts => longD "b" ((n : Int) - 1 - j) t :: longs n (j + 1) ts
end
theorem longs_len (n : Nat) : ∀ (ts : List Ty) (j : Nat), (longs n j ts).length = ts.length
  | [], _ => rfl
  | t :: ts, j => by rw [longs, List.length_cons, List.length_cons, longs_len n ts]
theorem longs_at (n : Nat) : ∀ (ts : List Ty) (j i : Nat) (t : Ty), ts[i]? = some t → (longs n j ts)[i]? = some (longD "b" ((n : Int) - 1 - (j + i : Nat)) t)
  | [], _, _, _, h => by simp at h
  | u :: ts, j, 0, t, h => by
    have e : u = t := by simpa using h
    subst e
    rw [longs]
    rfl
  | u :: ts, j, i + 1, t, h => by
    rw [longs, List.getElem?_cons_succ, longs_at n ts (j + 1) i t (by simpa using h), show j + 1 + i = j + (i + 1) by omega]
theorem longD_eq (s : Str) (i : Int) (t : Ty) : longD s i t = .tup [.int t.as.length, raiseH s i t.as.length, .tup (longs t.as.length 0 t.as)] := by
  cases t
  rw [longD]
  rfl
theorem ty_dp (t : Ty) : t.d.dp = 1 + max (1 + dps (tyds t.as)) 1 := by
  rw [Ty.d_eq]
  rfl
theorem ty_dp_mem {t u : Ty} (h : u ∈ t.as) : u.d.dp < t.d.dp := by
  have m := dps_mem (show u.d ∈ tyds t.as by rw [tyds_map]; exact List.mem_map.mpr ⟨u, h, rfl⟩)
  rw [ty_dp t]
  omega
end Lc
end

section
/-! Nodes in the order of reading. -/
namespace Lc
open PySem L2 PyProof.Rows PySem.Spec
variable [Lc.Tbs]
/-- a node with the number of binders -/
abbrev Pl := D × Int
def plD (x : Pl) : D := .tup [x.1, .int x.2]
mutual
def preo (o : Int) : D → List Pl
  | .tup [.int n, h, .tup ps] => (.tup [.int n, h, .tup ps], o + n) :: preos (o + n) ps
  | _ => []
def preos (o : Int) : List D → List Pl
  | [] => []
  | p :: ps => preo o p ++ preos o ps
end
mutual
/-- it has the form of a term throughout -/
def tmF : D → Bool
  | .tup [.int _, _, .tup ps] => tmFs ps
  | _ => false
def tmFs : List D → Bool
  | [] => true
  | p :: ps => tmF p && tmFs ps
end
theorem preo_eq (o n : Int) (h : D) (ps : List D) : preo o (.tup [.int n, h, .tup ps]) = (.tup [.int n, h, .tup ps], o + n) :: preos (o + n) ps := by rw [preo]
theorem preos_flat (o : Int) : ∀ ps : List D, preos o ps = (ps.map (preo o)).flatten
  | [] => by rw [preos]; rfl
  | p :: ps => by rw [preos, preos_flat o ps]; rfl
theorem tmF_of {d : D} (h : tmF d = true) : ∃ n x ps, d = .tup [.int n, x, .tup ps] ∧ tmFs ps = true := by
  unfold tmF at h
  split at h
  · exact ⟨_, _, _, rfl, h⟩
  · cases h
theorem tmFs_mem : ∀ {ps : List D}, tmFs ps = true → ∀ p ∈ ps, tmF p = true
  | [], _, p, hp => nomatch hp
  | q :: ps, h, p, hp => by
    rw [tmFs, Bool.and_eq_true] at h
    rcases List.mem_cons.mp hp with rfl | hp
    · exact h.1
    · exact tmFs_mem h.2 p hp
mutual
theorem preo_len (o : Int) : ∀ d : D, (preo o d).length ≤ d.sz
  | .tup xs => by
    unfold preo
    split
    · next n h ps e =>
      injection e with e
      subst e
      have := preos_len (o + n) ps
      have ez : (D.tup [.int n, h, .tup ps]).sz = 1 + (1 + (h.sz + ((1 + szs ps) + 0))) := rfl
      rw [List.length_cons]
      omega
    · exact Nat.zero_le _
  | .non => Nat.zero_le _
  | .bl _ => Nat.zero_le _
  | .int _ => Nat.zero_le _
  | .str _ => Nat.zero_le _
theorem preos_len (o : Int) : ∀ ps : List D, (preos o ps).length ≤ szs ps
  | [] => by rw [preos]; exact Nat.zero_le _
  | p :: ps => by
    have h1 := preo_len o p
    have h2 := preos_len o ps
    rw [preos, szs, List.length_append]
    omega
end
/-- what the stack will still give, its end first -/
def stackPl (t : List Pl) : List Pl := (t.reverse.map fun x => preo x.2 x.1).flatten
theorem stackPl_snoc (t : List Pl) (x : Pl) : stackPl (t ++ [x]) = preo x.2 x.1 ++ stackPl t := by
  unfold stackPl
  rw [List.reverse_append]
  rfl
theorem stackPl_app (t u : List Pl) : stackPl (t ++ u) = stackPl u ++ stackPl t := by
  unfold stackPl
  rw [List.reverse_append, List.map_append, List.flatten_append]
theorem stackPl_parts (o : Int) (ps : List D) : stackPl (ps.reverse.map fun p => (p, o)) = preos o ps := by
  unfold stackPl
  rw [preos_flat, ← List.map_reverse, List.reverse_reverse, List.map_map]
  rfl
def stackZ (t : List Pl) : Nat := (t.map fun x => x.1.sz).sum
theorem stackZ_app (t u : List Pl) : stackZ (t ++ u) = stackZ t + stackZ u := by unfold stackZ; rw [List.map_append, List.sum_append]
theorem stackZ_len (fs : List Pl) : fs.length ≤ stackZ fs := by
  induction fs with
  | nil => exact Nat.le_refl _
  | cons f fs ih =>
    have := f.1.sz_pos
    have e : stackZ (f :: fs) = f.1.sz + stackZ fs := rfl
    rw [e, List.length_cons]
    omega
theorem stackZ_parts (o : Int) : ∀ ps : List D, stackZ (ps.map fun p => (p, o)) = szs ps
  | [] => rfl
  | p :: ps => by
    have e : stackZ ((p :: ps).map fun p => (p, o)) = p.sz + stackZ (ps.map fun p => (p, o)) := rfl
    rw [e, stackZ_parts o ps, szs]
theorem szs_rev (ps : List D) : szs ps.reverse = szs ps := by
  induction ps with
  | nil => rfl
  | cons p ps ih =>
    rw [List.reverse_cons, szs_app, ih, szs, szs, szs]
    omega
section
variable {K : PySem.W.Frag} {a : Addr} {xs : List V}
theorem walk_revT : Walk (RT.ItvT K a xs.length) xs.length (fun H => SqT K H a xs) (fun i H x H' => H' = H ∧ xs[xs.length - 1 - i]? = some x) :=
  ⟨fun i _ hi q => ⟨hi, xs, xs[xs.length - 1 - i]'(by omega), q, by simp [show xs.length - 1 - i < xs.length by omega]⟩, fun _ _ => Nat.le_refl _, fun _ _ _ _ _ q y => ⟨y.1, y.2 xs q⟩⟩
end
section
variable {K : PySem.W.Frag} {σ : L2.St} {H : Hp}
theorem r_iR {te : TE} {R : It → Hp → Prop} (h : te σ H fun v H1 => ∃ (a : Addr) (xs : List V), v = .ref a ∧ ((SqL K H1 a xs ∧ R (Itv K a xs.length) H1) ∨ (SqT K H1 a xs ∧ R (RT.ItvT K a xs.length) H1))) : RT.iRevA K te σ H R := h
theorem r_par3 {i j l : Nat} {A : TA} {D0 : Ends} (h : A σ H fun vs H1 => ∃ u v w, vs = [u, v, w] ∧ D0.nx (((σ.set i (some u)).set j (some v)).set l (some w)) H1) : tPar3 i j l A D0 σ H := h
end
end Lc
end

section
/-! Lifting. -/
namespace Lc
open PySem L2 PyProof.Rows PySem.Spec
variable [Lc.Tbs]
/-- a head, as it is written -/
def hdG : D → Bool
  | .tup [.str s, .int _] => decide (s = "b") || decide (s = "h")
  | .tup [.str s, .str _] => decide (s = "c")
  | _ => false
mutual
def tmG : D → Bool
  | .tup [.int _, h, .tup ps] => hdG h && tmGs ps
  | _ => false
def tmGs : List D → Bool
  | [] => true
  | p :: ps => tmG p && tmGs ps
end
theorem hdG_of {h : D} (g : hdG h = true) : (∃ s i, h = hd2 s i ∧ (s = "b" ∨ s = "h")) ∨ ∃ x, h = .tup [.str "c", .str x] := by
  unfold hdG at g
  split at g
  · next s i =>
    rcases (Bool.or_eq_true _ _).mp g with z | z
    · exact .inl ⟨s, i, rfl, .inl (of_decide_eq_true z)⟩
    · exact .inl ⟨s, i, rfl, .inr (of_decide_eq_true z)⟩
  · next s x =>
    rw [of_decide_eq_true g]
    exact .inr ⟨x, rfl⟩
  · cases g
theorem tmG_of {d : D} (h : tmG d = true) : ∃ n x ps, d = .tup [.int n, x, .tup ps] ∧ hdG x = true ∧ tmGs ps = true := by
  unfold tmG at h
  split at h
  · rw [Bool.and_eq_true] at h
    exact ⟨_, _, _, rfl, h.1, h.2⟩
  · cases h
theorem tmG_eq (n : Int) (x : D) (ps : List D) : tmG (.tup [.int n, x, .tup ps]) = (hdG x && tmGs ps) := by rw [tmG]
theorem tmGs_mem : ∀ {ps : List D}, tmGs ps = true → ∀ p ∈ ps, tmG p = true
  | [], _, p, hp => nomatch hp
  | q :: ps, h, p, hp => by
    rw [tmGs, Bool.and_eq_true] at h
    rcases List.mem_cons.mp hp with rfl | hp
    · exact h.1
    · exact tmGs_mem h.2 p hp
theorem hdB_G {sg : Sg} {hs own : List Ty} {d : D} {t : Ty} (h : hdB sg hs own d = some t) : hdG d = true := by
  unfold hdB at h
  split at h
  · next s m =>
    unfold hkB at h
    split at h
    · next c =>
      rw [Bool.and_eq_true] at c
      cases eqD_strR c.1
      obtain ⟨x, rfl⟩ := D.str_of c.2
      rfl
    · unfold hkM at h
      split at h
      · next i =>
        split at h
        · exact absurd h (by simp)
        · unfold hkI at h
          split at h
          · next c =>
            rw [Bool.and_eq_true] at c
            cases eqD_strR c.1
            rfl
          · split at h
            · next c =>
              rw [Bool.and_eq_true] at c
              cases eqD_strR c.1
              show (decide (("h" : Str) = "b") || decide (("h" : Str) = "h")) = true
              rw [decide_eq_true rfl, Bool.or_true]
            · exact absurd h (by simp)
      · exact absurd h (by simp)
  · exact absurd h (by simp)
mutual
theorem tmB_G {sg : Sg} {hs : List Ty} : ∀ (own : List Ty) (k : Ty) (d : D), tmB sg hs own k d = true → tmG d = true
  | own, k, .tup xs, h => by
    unfold tmB at h
    split at h
    · next n x ps e =>
      injection e with e
      subst e
      rw [Bool.and_eq_true] at h
      obtain ⟨_, h⟩ := h
      split at h
      · cases h
      · next t ht =>
        rw [Bool.and_eq_true] at h
        rw [tmG_eq, hdB_G ht, tmsB_G _ _ ps h.2]
        rfl
    · cases h
  | _, _, .non, h => by simp [tmB] at h
  | _, _, .bl _, h => by simp [tmB] at h
  | _, _, .int _, h => by simp [tmB] at h
  | _, _, .str _, h => by simp [tmB] at h
theorem tmsB_G {sg : Sg} {hs : List Ty} : ∀ (own : List Ty) (ts : List Ty) (ps : List D), tmsB sg hs own ts ps = true → tmGs ps = true
  | _, _, [], _ => by rw [tmGs]
  | own, ts, p :: ps, h => by
    cases ts with
    | nil => simp [tmsB] at h
    | cons t ts =>
      rw [tmsB] at h
      have h' : (tmB sg hs own t p && tmsB sg hs own ts ps) = true := h
      rw [Bool.and_eq_true] at h'
      rw [tmGs, tmB_G own t p h'.1, tmsB_G own ts ps h'.2]
      rfl
end
mutual
theorem tmG_F : ∀ d : D, tmG d = true → tmF d = true
  | .tup xs, h => by
    unfold tmG at h
    split at h
    · next n x ps e =>
      injection e with e
      subst e
      rw [Bool.and_eq_true] at h
      rw [tmF]
      exact tmGs_F ps h.2
    · cases h
  | .non, h => by simp [tmG] at h
  | .bl _, h => by simp [tmG] at h
  | .int _, h => by simp [tmG] at h
  | .str _, h => by simp [tmG] at h
theorem tmGs_F : ∀ ps : List D, tmGs ps = true → tmFs ps = true
  | [], _ => by rw [tmFs]
  | p :: ps, h => by
    rw [tmGs, Bool.and_eq_true] at h
    rw [tmFs, tmG_F p h.1, tmGs_F ps h.2]
    rfl
end
/-- a head lifted by k, inner binders being its own -/
def liftH (k inner : Int) : D → D
  | .tup [.str s, .int i] => if s = "b" ∧ inner ≤ i then hb (i + k) else hd2 s i
  | h => h
mutual
def liftD (k o : Int) : D → D
  | .tup [.int n, h, .tup ps] => .tup [.int n, liftH k (o + n) h, .tup (lifts k (o + n) ps)]
  | .tup xs => .tup xs
  | .non => .non
  | .bl b => .bl b
  | .int i => .int i
  | .str x => .str x
def lifts (k o : Int) : List D → List D
  | [] => []
  | p :: ps => liftD k o p :: lifts k o ps
end
theorem liftD_eq (k o n : Int) (h : D) (ps : List D) : liftD k o (.tup [.int n, h, .tup ps]) = .tup [.int n, liftH k (o + n) h, .tup (lifts k (o + n) ps)] := by rw [liftD]
theorem lifts_map (k o : Int) : ∀ ps : List D, lifts k o ps = ps.map (liftD k o)
  | [] => by rw [lifts]; rfl
  | p :: ps => by rw [lifts, lifts_map k o ps, List.map_cons]
end Lc
end

section
/-! A function made within a def is handed on to another def of the text, which calls it. -/
namespace Lc
open PySem L2 PyProof.Rows PySem.Spec NdefX
variable [Lc.Tbs]
/-- a def's promise where more is known at the call: Φ speaks of the callers' frames, the state, what is tracked and the arguments -/
structure OkC (P : Program) (w : World) (K : PySem.W.Frag) (mg : Str → Option Value) (base : Heap) (k : Nat) (f : Addr) (fd : FuncData) (ps : List Str) (Φ : List Env → Shared → Hp → List V → Prop) (sp : Sp) : Prop where
  len : ∀ vs H Q E, sp vs H Q E → vs.length = ps.length
  go : ∀ (A : Around) (out : List Env) (s : Shared) (H : Hp) (us : List Value) (vs : List V) (Q : VK) (E : XK), Room k A → Env0 P w K mg base A out s H → BindsTo s fd ⟨us, []⟩ (ps.zip us) → Vals vs us → Φ out s H vs → sp vs H Q E →
    codeAny (model P w) A (.call (.ref f) ⟨us, []⟩) (CR CX0 out P w H s Q E) s
section
variable {P : Program} {w : World} {K : PySem.W.Frag} {mg : Str → Option Value} {base : Heap}
theorem okC_of {x qual : Str} {st : Stmt} {f : Addr} {fd : FuncData} {N ps : List Str} {k : Nat} {Φ : List Env → Shared → Hp → List V → Prop} {sp : Sp} (F : Fun K x qual st f fd) (S : FnScope N ps (defScope st)) (len : ∀ vs H Q E, sp vs H Q E → vs.length = ps.length)
    (body : ∀ (cdv : Value) (A : Around) (out : List Env) (s : Shared) (H : Hp) (vs : List V) (Q : VK) (E : XK), Room k (A.deeper (envOfC qual (defScope st) s.heap.objs.size f cdv)) → Φ out s H vs → sp vs H Q E →
      ∃ t, PSs (cxOf CX0 P w K mg base N qual (defScope st) f cdv A out s H E).nox (defBody st) t ∧ t { nx := fun _ H' => Q .non H', rt := Q } (start N vs) H) : OkC P w K mg base (k + 1) f fd ps Φ sp := by
  obtain ⟨oc, od, kV, doc, pm, an, cdv, ct, osl, rfl, lk, hcd⟩ := F.ex
  constructor
  · exact len
  intro A out s H us vs Q E room env bnd rel more want
  have inK : K.In s.heap := env.mod.kin.keeps fun b o e => (env.bs b o e).1
  have free : s.heap.NoLimit := env.mod.nolimit.keeps fun b o e => (env.bs b o e).1
  have params : ∀ y ∈ ps.zip us, (defScope st).names.lookup y.1 = some .local ∨ ((defScope st).names.lookup y.1 = some .cell ∧ ((cellsFrom (s.heap.objs.size + 1) (defScope st).names []).lookup y.1).isSome = true) := by
    rintro ⟨n, v⟩ hy
    refine (S.par n (List.of_mem_zip hy).1).imp id fun q => ⟨q, PySem.W.cellsFrom_some _ _ _ (.inl q)⟩
  refine codeAny_call_function room.depth (inK _ _ lk) rfl S.co S.gen rfl (PySem.W.codeRec_of inK hcd) (bnd _ _ _ _ (wpAny_newFunctionEnv_cells S.kind params fun e he s1 made => ?_))
  subst he
  refine ⟨free.keeps made.toInCall.keep, codeAny_func ?_⟩
  obtain ⟨t, rule, read⟩ := body cdv A out s H vs Q E (room.deeper _) more want
  have I := inv_start (CX := CX0) (P := P) (w := w) (K := K) (mg := mg) (base := base) (E := E) S room.hd env (len _ _ _ _ want) rel made
  refine wpAny_mono (rule.nox.run [] s1 (start N vs) H _ I read) (fun fl s2 h => ?_) (fun _ _ h => h)
  match fl, h with
  | .ret u, h =>
    obtain ⟨v, σ2, H2, J, rv, q⟩ := h
    exact ⟨v, H2, J.os, J.bare, J.base, J.hok, rv, q⟩
  | .next, h =>
    obtain ⟨σ2, H2, J, q⟩ := h
    exact ⟨.non, H2, J.os, J.bare, J.base, J.hok, rfl, q⟩
  | .brk, h =>
    obtain ⟨_, _, _, q⟩ := h
    exact q.elim
  | .cont, h =>
    obtain ⟨_, _, _, q⟩ := h
    exact q.elim
end
/-- the call: M is what the reading tells of the arguments -/
def tCallM (M : L2.St → Hp → List V → Prop) (sp : Sp) (E : XK) (t : TA) : TE := fun σ H Q => t σ H fun vs H1 => M σ H1 vs ∧ sp vs H1 Q E
section
variable {X : Cx} {k : Nat} {f : Addr} {fd : FuncData} {ps : List Str} {Φ : List Env → Shared → Hp → List V → Prop} {sp : Sp} {M : L2.St → Hp → List V → Prop} {E : XK} {x : Str} {p pos : Pos} {e : Expr} {es : List Expr} {t : TA}
theorem pe_callM (F : OkC X.prog X.w X.K X.mg X.base k f fd ps Φ sp) (room : Room k X.A) (hg : Gl X x) (hm : X.mg x = some (.ref f)) (hk : PySem.W.keepIn X.K (.ref f) = true) (bnd : Binds X.K fd ps []) (pass : Passes CX0 X E)
    (tell : ∀ (pins : List (Addr × Obj)) (s : Shared) (σ : L2.St) (H : Hp) (vs : List V), Inv X pins σ H s → M σ H vs → Φ X.stack s H vs) (ha : PA X (e :: es) t) (hdb : (x == ("__debug__" : Str)) = false := by decide)
    (he : starEach (e :: es) X.env = (false, eval e X.env) :: starEach es X.env := by rfl) (hpl : (backTo pos (starEach es X.env)).any (·.1) = false := by rfl) : PE X (.Call (.Name x p) (e :: es) [] pos) (tCallM M sp E t) := by
  constructor
  intro pins s σ H Q I h
  refine wpAny_Call_Name_kw (ld_glob I hg hm ?_ hdb)
  refine PySem.W.callWith_K (h₀ := X.base) I.ok.mod.kin hk (thn (ha.run pos pins s σ H _ I h) fun us s1 ⟨vs, H1, I1, r, m, q⟩ => ⟨I1.kIn, ?_⟩) he hpl
  have len : us.length = ps.length := r.length.symm.trans (F.len _ _ _ _ q)
  have b := bnd s1 us I1.kIn (by rw [List.append_nil]; exact len)
  rw [List.append_nil] at b
  show wpAny (model X.prog X.w) X.A (call (.ref f) us) _ _ _
  refine wpAny_call (codeAny_mono (F.go X.A X.stack s1 H1 us vs Q E room I1.env0 b r (tell pins s1 σ H1 vs I1 m) q) fun end_ s2 h2 => ?_)
  match end_, h2 with
  | .error v, h2 => exact pass pins σ H1 s1 v s2 I1 h2
  | .ok (.ret u), h2 => exact I1.after h2
  | .ok .next, h2 => exact h2.elim
  | .ok .brk, h2 => exact h2.elim
  | .ok .cont, h2 => exact h2.elim
end
/-- a function that was handed on is called: it lies in the slot i, its captured cells held ws when the running def began -/
def tCallH (F : NF) (f : Addr) (i : Nat) (ws : List (Option V)) (sp : List (Option V) → Sp) (E : XK) (t : TA) : TE := fun σ H Q => σ[i]? = some (some (.ref f)) ∧ H f = some (FnO f F) ∧ t σ H fun vs H1 => H1 f = some (FnO f F) ∧ H1 F.c = some (LamX.CodeO F.c F.qual) ∧ sp ws vs H1 Q E
section
variable {X : Cx} {F : NF} {f : Addr} {ps fr : List Str} {ws : List (Option V)} {i j k : Nat} {x : Str} {sp : List (Option V) → Sp} {E : XK} {t : TA} {e : Expr} {es : List Expr} {p pos : Pos}
theorem pe_callH (Fn : NOk X.prog X.w X.K X.mg X.base CX0 k f F ps fr sp) (C : CellsAt F.cl fr ws X.s_0.heap X.H_0) (far : ∀ y c, F.cl.lookup y = some c → c ∉ X.fs) (noex : X.ex = []) (room : Room j X.A) (hk : k ≤ j) (pass : Passes CX0 X E) (hN : X.N[i]? = some x) (hv : Vis X.env.scope x) (ha : PA X (e :: es) t)
    (hd : (x == ("__debug__" : Str)) = false := by decide) (hcd : (x == ("__classdict__" : Str)) = false := by decide) (he : starEach (e :: es) X.env = (false, eval e X.env) :: starEach es X.env := by rfl) (hpl : (backTo pos (starEach es X.env)).any (·.1) = false := by rfl) :
    PE X (.Call (.Name x p) (e :: es) [] pos) (tCallH F f i ws sp E t) := by
  constructor
  intro pins s σ H Q I h
  obtain ⟨hs, hf, ht⟩ := h
  refine wpAny_Call_Name_kw (thn ((pe_var (pos := p) hN hv hd hcd).run pins s σ H (fun v H1 => v = .ref f ∧ H1 = H) I ⟨.ref f, hs, rfl, rfl⟩) fun u s1 ⟨v, H1, I1, r1, ev, eH⟩ => ?_)
  subst ev eH
  cases r1
  refine PySem.W.callWith_F (first := []) (fnAt_of I1 hf) (thn (ha.run pos pins s1 σ _ _ I1 ht) fun us s2 ⟨vs, H2, I2, r, h1, hc, q⟩ => ⟨fnAt_of I2 h1, ?_⟩) he hpl
  show wpAny (model X.prog X.w) X.A (call (.ref f) us) _ _ _
  have C2 : CellsAt F.cl fr ws s2.heap H2 := C.later far (fun y c _ => by rw [noex]; simp) I2
  refine wpAny_call (codeAny_mono (Fn.run X.A X.stack s2 H2 us vs ws Q E (room.mono hk) I2.env0 h1 hc C2 r q) fun end_ s3 h2 => ?_)
  match end_, h2 with
  | .error v, h2 => exact pass pins σ H2 s2 v s3 I2 h2
  | .ok (.ret u), h2 => exact I2.after h2
  | .ok .next, h2 => exact h2.elim
  | .ok .brk, h2 => exact h2.elim
  | .ok .cont, h2 => exact h2.elim
/-- the cells of a running def are no frames of its callers, nor its own -/
theorem cells_far {X : Cx} {pins : List (Addr × Obj)} {σ : L2.St} {H : Hp} {s : Shared} (I : Inv X pins σ H s) (all : ∀ y, X.fn y = true) {y : Str} {c : Addr} (e : X.env.cells.lookup y = some c) : c ∉ frs X.stack := by
  intro m
  rcases List.mem_cons.mp (I.stkSub c m) with z | z
  · exact I.cne y c e z
  · obtain ⟨_, o, ho, _⟩ := I.ok.funs.mem z
    exact absurd (Nat.lt_of_lt_of_le (Heap.lt_size ho) (I.ok.cab y c (all y) e)) (Nat.lt_irrefl _)
end
end Lc
end

section
/-! What comes of a term when each node is changed, its parts first. -/
namespace Lc
open PySem L2 PyProof.Rows PySem.Spec NdefX
variable [Lc.Tbs]
mutual
def foldD (g : D → Int → List D → D) (o : Int) : D → D
  | .tup [.int n, h, .tup ps] => g (.tup [.int n, h, .tup ps]) (o + n) (folds g (o + n) ps)
  | .tup xs => .tup xs
  | .non => .non
  | .bl b => .bl b
  | .int i => .int i
  | .str x => .str x
def folds (g : D → Int → List D → D) (o : Int) : List D → List D
  | [] => []
  | p :: ps => foldD g o p :: folds g o ps
end
theorem foldD_eq (g : D → Int → List D → D) (o n : Int) (h : D) (ps : List D) : foldD g o (.tup [.int n, h, .tup ps]) = g (.tup [.int n, h, .tup ps]) (o + n) (folds g (o + n) ps) := by rw [foldD]
theorem folds_map (g : D → Int → List D → D) (o : Int) : ∀ ps : List D, folds g o ps = ps.map (foldD g o)
  | [] => by rw [folds]; rfl
  | p :: ps => by rw [folds, folds_map g o ps, List.map_cons]
/-- the stack, its top first -/
def stepS : List Pl → List Pl
  | (.tup [.int n, _, .tup ps], o) :: S => ps.map (fun p => (p, o + n)) ++ S
  | _ => []
def stS (S0 : List Pl) : Nat → List Pl
  | 0 => S0
  | j + 1 => stepS (stS S0 j)
def stackS (S : List Pl) : List Pl := (S.map fun x => preo x.2 x.1).flatten
theorem stackS_cons (n o : Int) (h : D) (ps : List D) (S : List Pl) : stackS ((.tup [.int n, h, .tup ps], o) :: S) = (.tup [.int n, h, .tup ps], o + n) :: stackS (stepS ((.tup [.int n, h, .tup ps], o) :: S)) := by
  unfold stackS
  show preo o (.tup [.int n, h, .tup ps]) ++ _ = _ :: (((ps.map fun p => (p, o + n)) ++ S).map fun x => preo x.2 x.1).flatten
  rw [preo_eq, List.map_append, List.flatten_append, preos_flat, List.map_map]
  rfl
theorem stS_all {S0 : List Pl} (h : ∀ x ∈ S0, tmF x.1 = true) : ∀ j, (∀ x ∈ stS S0 j, tmF x.1 = true) ∧ stackS (stS S0 j) = (stackS S0).drop j
  | 0 => ⟨h, rfl⟩
  | j + 1 => by
    obtain ⟨h1, h2⟩ := stS_all h j
    cases e : stS S0 j with
    | nil =>
      rw [e] at h2
      refine ⟨fun x hx => ?_, ?_⟩
      · have : stS S0 (j + 1) = [] := by show stepS (stS S0 j) = []; rw [e]; rfl
        rw [this] at hx
        cases hx
      · have e1 : stS S0 (j + 1) = [] := by show stepS (stS S0 j) = []; rw [e]; rfl
        rw [e1, ← List.drop_drop, ← h2]
        rfl
    | cons y S =>
      rw [e] at h1 h2
      obtain ⟨node, o⟩ := y
      obtain ⟨n, hd, ps, rfl, fps⟩ := tmF_of (h1 (node, o) List.mem_cons_self)
      have e1 : stS S0 (j + 1) = stepS ((.tup [.int n, hd, .tup ps], o) :: S) := by show stepS (stS S0 j) = _; rw [e]
      rw [e1]
      refine ⟨fun x hx => ?_, ?_⟩
      · have hx' : x ∈ ps.map (fun p => (p, o + n)) ++ S := hx
        rcases List.mem_append.mp hx' with hx | hx
        · obtain ⟨p, hp, rfl⟩ := List.mem_map.mp hx
          exact tmFs_mem fps p hp
        · exact h1 x (List.mem_cons_of_mem _ hx)
      · rw [stackS_cons] at h2
        rw [← List.drop_drop, ← h2]
        rfl
/-- the results that wait, the last one on top -/
def doneD (g : D → Int → List D → D) (S : List Pl) : List D := (S.map fun x => foldD g x.2 x.1).reverse
theorem doneD_cons (g : D → Int → List D → D) (x : Pl) (S : List Pl) : doneD g (x :: S) = doneD g S ++ [foldD g x.2 x.1] := by
  unfold doneD
  rw [List.map_cons, List.reverse_cons]
theorem doneD_step (g : D → Int → List D → D) (n o : Int) (h : D) (ps : List D) (S : List Pl) : doneD g (stepS ((.tup [.int n, h, .tup ps], o) :: S)) = doneD g S ++ (folds g (o + n) ps).reverse := by
  unfold doneD
  show ((ps.map (fun p => (p, o + n)) ++ S).map fun x => foldD g x.2 x.1).reverse = _
  rw [List.map_append, List.reverse_append, folds_map, List.map_map]
  rfl
structure CalC (P : Program) (w : World) (K : PySem.W.Frag) (mg : Str → Option Value) (base : Heap) (x : Str) (ps : List Str) (k : Nat) (Φ : List Env → Shared → Hp → List V → Prop) (sp : Sp) : Prop where
  ex : ∃ f fd, OkC P w K mg base k f fd ps Φ sp ∧ Binds K fd ps [] ∧ mg x = some (.ref f) ∧ PySem.W.keepIn K (.ref f) = true
section
variable {P : Program} {w : World} {K : PySem.W.Frag} {mg : Str → Option Value} {base : Heap} {x : Str} {ps N : List Str} {k j : Nat} {Φ : List Env → Shared → Hp → List V → Prop} {sp : Sp} {st : Stmt}
theorem CalC.mono (c : CalC P w K mg base x ps j Φ sp) (h : j ≤ k) : CalC P w K mg base x ps k Φ sp := by
  obtain ⟨f, fd, a, b, m, d⟩ := c.ex
  exact ⟨f, fd, ⟨a.len, fun A out s H us vs Q E r => a.go A out s H us vs Q E (r.mono h)⟩, b, m, d⟩
theorem Df.okC (d : Df K mg x st ps) (S : FnScope N ps (defScope st)) (len : ∀ vs H Q E, sp vs H Q E → vs.length = ps.length)
    (body : ∀ (f : Addr) (cdv : Value) (A : Around) (out : List Env) (s : Shared) (H : Hp) (vs : List V) (Q : VK) (E : XK), Room k (A.deeper (envOfC x (defScope st) s.heap.objs.size f cdv)) → Φ out s H vs → sp vs H Q E →
      ∃ t, PSs (cxOf CX0 P w K mg base N x (defScope st) f cdv A out s H E).nox (defBody st) t ∧ t { nx := fun _ H' => Q .non H', rt := Q } (start N vs) H) : CalC P w K mg base x ps (k + 1) Φ sp := by
  obtain ⟨f, fd, F, b, m⟩ := d.ex
  exact ⟨f, fd, okC_of F S len fun cdv A out s H vs Q E => body f cdv A out s H vs Q E, b, m, F.kp⟩
end
section
variable {X : Cx} {k : Nat} {ps : List Str} {Φ : List Env → Shared → Hp → List V → Prop} {sp : Sp} {M : L2.St → Hp → List V → Prop} {E : XK} {x : Str} {p pos : Pos} {e : Expr} {es : List Expr} {t : TA}
theorem pe_calM (c : CalC X.prog X.w X.K X.mg X.base x ps k Φ sp) (room : Room k X.A) (hg : Gl X x) (pass : Passes CX0 X E)
    (tell : ∀ (pins : List (Addr × Obj)) (s : Shared) (σ : L2.St) (H : Hp) (vs : List V), Inv X pins σ H s → M σ H vs → Φ X.stack s H vs) (ha : PA X (e :: es) t) (hdb : (x == ("__debug__" : Str)) = false := by decide)
    (he : starEach (e :: es) X.env = (false, eval e X.env) :: starEach es X.env := by rfl) (hpl : (backTo pos (starEach es X.env)).any (·.1) = false := by rfl) : PE X (.Call (.Name x p) (e :: es) [] pos) (tCallM M sp E t) := by
  obtain ⟨f, fd, a, b, m, d⟩ := c.ex
  exact pe_callM a room hg m d b pass tell ha hdb he hpl
end
/-- what is asked of a change: J of its captured values, g what it gives -/
def spCh (g : D → Int → List D → D) (ok : D → Prop) (J : List (Option V) → Hp → Prop) (ws : List (Option V)) : Sp := fun vs H Q _ => ∃ (nv : V) (node : D) (inner : Int) (L : Addr) (ys : List V) (ds : List D), vs = [nv, .int inner, .ref L] ∧ J ws H ∧ Dt H node nv ∧ ok node ∧ H L = some (.lst ys) ∧ Dts H ds ys ∧ ds.length ≤ 1000000 ∧
  ∀ r H', Kp [] H H' → Dt H' (g node inner ds) r → Q r H'
/-- a function with this promise is handed on -/
def FnH (P : Program) (w : World) (K : PySem.W.Frag) (mg : Str → Option Value) (base : Heap) (kc : Nat) (g : D → Int → List D → D) (ok : D → Prop) (J : List (Option V) → Hp → Prop) (out : List Env) (s : Shared) (H : Hp) (vs : List V) : Prop :=
  ∃ (F : NF) (f : Addr) (fr : List Str) (ws : List (Option V)) (v : V), vs = [v, .ref f] ∧ H f = some (FnO f F) ∧ H F.c = some (LamX.CodeO F.c F.qual) ∧ CellsAt F.cl fr ws s.heap H ∧ (∀ y c, F.cl.lookup y = some c → c ∉ frs out) ∧ J ws H ∧ NOk P w K mg base CX0 kc f F ["node", "inner", "parts"] fr (spCh g ok J)
theorem r_callM {M : L2.St → Hp → List V → Prop} {sp : Sp} {E : XK} {t : TA} {σ : L2.St} {H : Hp} {Q : VK} (h : t σ H fun vs H1 => M σ H1 vs ∧ sp vs H1 Q E) : tCallM M sp E t σ H Q := h
theorem r_callH {F : NF} {f : Addr} {i : Nat} {ws : List (Option V)} {sp : List (Option V) → Sp} {E : XK} {t : TA} {σ : L2.St} {H : Hp} {Q : VK} (h1 : σ[i]? = some (some (.ref f))) (h2 : H f = some (FnO f F)) (h : t σ H fun vs H1 => H1 f = some (FnO f F) ∧ H1 F.c = some (LamX.CodeO F.c F.qual) ∧ sp ws vs H1 Q E) : tCallH F f i ws sp E t σ H Q := ⟨h1, h2, h⟩
/-- e.pop() within a comprehension -/
theorem pe_popB {X : Cx} {K : PySem.W.Frag} {o : Expr} {to : TE} {apos cpos : Pos} (hK : X.K = K) (ho : PE X o to) (hbase : attributeBase o "pop" X.env (eval o X.env) = eval o X.env := by rfl) (hline : (apos.endLine == cpos.line) = true := by rfl) :
    PE X (.Call (.Attribute o "pop" apos) [] [] cpos) (tBM0 K "list" rPop to) := by
  subst hK
  exact pe_bm0 PySem.F.plainAttrs_list PySem.F.slot_list_pop PySem.F.type_list_pop mt_pop ho hbase hline
theorem stackS_len : ∀ {S : List Pl}, (∀ x ∈ S, tmF x.1 = true) → S.length ≤ (stackS S).length
  | [], _ => Nat.le_refl _
  | (nd, o) :: S, h => by
    obtain ⟨n, hd, ps, rfl, _⟩ := tmF_of (h (nd, o) List.mem_cons_self)
    have ih := stackS_len (S := S) fun x hx => h x (List.mem_cons_of_mem _ hx)
    have e : stackS ((.tup [.int n, hd, .tup ps], o) :: S) = preo o (.tup [.int n, hd, .tup ps]) ++ stackS S := rfl
    rw [e, List.length_append, preo_eq, List.length_cons, List.length_cons]
    omega
theorem stackS_nil {S : List Pl} (h : ∀ x ∈ S, tmF x.1 = true) (e : stackS S = []) : S = [] := by
  have := stackS_len h
  rw [e] at this
  exact List.eq_nil_of_length_eq_zero (Nat.le_zero.mp this)
theorem Dts.split {H : Hp} : ∀ {ds es : List D} {zs : List V}, Dts H (ds ++ es) zs → ∃ xs ys, zs = xs ++ ys ∧ Dts H ds xs ∧ Dts H es ys
  | [], es, zs, h => ⟨[], zs, rfl, rfl, h⟩
  | d :: ds, es, zs, h => by
    obtain ⟨x, r, rfl, h1, h2⟩ := h
    obtain ⟨xs, ys, rfl, h3, h4⟩ := Dts.split h2
    exact ⟨x :: xs, ys, rfl, .cons h1 h3, h4⟩
theorem drop_rev {α : Type} {l : List α} {i : Nat} {x : α} (h : l[i]? = some x) : (l.drop i).reverse = (l.drop (i + 1)).reverse ++ [x] := by
  have hl : i < l.length := (List.getElem?_eq_some_iff.mp h).1
  rw [List.drop_eq_getElem_cons hl, List.reverse_cons]
  congr 2
  rw [List.getElem?_eq_getElem hl] at h
  exact Option.some.inj h
/-- a function is made: its code object is new, or known -/
theorem r_ndef {i : Nat} {mk : Addr → NF} {D0 : Ends} {σ : L2.St} {H : Hp} (tb : TabsN Tbs.T H) (h : ∀ (fa c' : Addr) (H1 : Hp), Kp [] H H1 → H fa = none → H1 fa = some (FnO fa (mk c')) → H1 c' = some (LamX.CodeO c' (mk c').qual) → D0.nx (σ.set i (some (.ref fa))) H1) : tNdefM Tbs.T i mk D0 σ H :=
  ⟨tb, fun fa c' H1 e n t f0 f1 c1 => h fa c' H1 ⟨fun b o _ z => .of (fun q => by rw [n b q] at z; cases z) fun m => e b o z m, fun _ => t⟩ f0 f1 c1⟩
end Lc
end

section
/-! Long forms are terms; lifting keeps terms and adds up. -/
namespace Lc
open PySem L2 PyProof.Rows PySem.Spec
variable [Lc.Tbs]
theorem tmB_inv {sg : Sg} {hs own : List Ty} {k : Ty} {d : D} (h : tmB sg hs own k d = true) : ∃ x ps t, d = .tup [.int (k.as.length : Nat), x, .tup ps] ∧ hdB sg hs (own ++ k.as) x = some t ∧ t.s = k.s ∧ t.as.length = ps.length ∧ tmsB sg hs (own ++ k.as) t.as ps = true := by
  unfold tmB at h
  split at h
  · next n x ps =>
    rw [Bool.and_eq_true] at h
    obtain ⟨h1, h⟩ := h
    have en := of_decide_eq_true h1
    split at h
    · cases h
    · next t ht =>
      rw [Bool.and_eq_true, Bool.and_eq_true] at h
      exact ⟨x, ps, t, by rw [en], ht, of_decide_eq_true h.1.1, of_decide_eq_true h.1.2, h.2⟩
  · cases h
theorem tmB_mk {sg : Sg} {hs own : List Ty} {k : Ty} {x : D} {ps : List D} {t : Ty} (h1 : hdB sg hs (own ++ k.as) x = some t) (h2 : t.s = k.s) (h3 : t.as.length = ps.length) (h4 : tmsB sg hs (own ++ k.as) t.as ps = true) :
    tmB sg hs own k (.tup [.int (k.as.length : Nat), x, .tup ps]) = true := by
  rw [tmB_eq, h1]
  simp [h2, h3, h4]
theorem hdB_bI {sg : Sg} {hs own : List Ty} {i : Int} (h0 : 0 ≤ i) (h : i < own.length) : hdB sg hs own (hb i) = own[own.length - 1 - i.toNat]? := by
  show hkB sg hs own (.str "b") (.int i) = _
  unfold hkB
  rw [show (eqD (.str "b") (.str "c") && (D.int i).isS) = false by rw [eqD_str]; rfl, if_neg (by decide), hkM_int, if_neg (by omega)]
  unfold hkI
  rw [eqD_str, decide_eq_true rfl, decide_eq_true h]
  rfl
theorem hdB_b_inv {sg : Sg} {hs own : List Ty} {i : Int} {t : Ty} (h : hdB sg hs own (hb i) = some t) : 0 ≤ i ∧ i < own.length := by
  replace h : hkB sg hs own (.str "b") (.int i) = some t := h
  unfold hkB at h
  rw [show (eqD (.str "b") (.str "c") && (D.int i).isS) = false by rw [eqD_str]; rfl, if_neg (by decide), hkM_int] at h
  split at h
  · exact absurd h (by simp)
  · unfold hkI at h
    split at h
    · next c =>
      rw [Bool.and_eq_true] at c
      exact ⟨by omega, of_decide_eq_true c.2⟩
    · rw [show eqD (.str "b") (.str "h") = false by rw [eqD_str]; exact decide_eq_false (by decide), Bool.false_and] at h
      exact absurd h (by simp)
theorem hdB_h_own {sg : Sg} {hs own own' : List Ty} {i : Int} : hdB sg hs own (hd2 "h" i) = hdB sg hs own' (hd2 "h" i) := by
  show hkB sg hs own (.str "h") (.int i) = hkB sg hs own' (.str "h") (.int i)
  unfold hkB
  rw [show (eqD (.str "h") (.str "c") && (D.int i).isS) = false by rw [eqD_str]; rfl, if_neg (by decide), if_neg (by decide), hkM_int, hkM_int]
  unfold hkI
  rw [show eqD (.str "h") (.str "b") = false by rw [eqD_str]; exact decide_eq_false (by decide), Bool.false_and, Bool.false_and]
  simp only [Bool.false_eq_true, if_false]
theorem hdB_c_own {sg : Sg} {hs own own' : List Ty} {x : Str} : hdB sg hs own (.tup [.str "c", .str x]) = hdB sg hs own' (.tup [.str "c", .str x]) := by
  show hkB sg hs own (.str "c") (.str x) = hkB sg hs own' (.str "c") (.str x)
  unfold hkB
  rw [show (eqD (.str "c") (.str "c") && (D.str x).isS) = true by rw [eqD_str, decide_eq_true rfl]; rfl, if_pos rfl, if_pos rfl]
theorem lift_hd {sg : Sg} {hs pre more loc : List Ty} {h : D} {t : Ty} (e : hdB sg hs (pre ++ loc) h = some t) : hdB sg hs (pre ++ more ++ loc) (liftH more.length loc.length h) = some t := by
  rcases hdG_of (hdB_G e) with ⟨s, i, rfl, rfl | rfl⟩ | ⟨x, rfl⟩
  · obtain ⟨i0, il⟩ := hdB_b_inv e
    rw [hdB_bI i0 il] at e
    have el : liftH more.length loc.length (hd2 "b" i) = if "b" = ("b" : Str) ∧ (loc.length : Int) ≤ i then hb (i + more.length) else hd2 "b" i := rfl
    rw [List.length_append] at il e
    rw [el]
    by_cases c : (loc.length : Int) ≤ i
    · rw [if_pos ⟨rfl, c⟩, hdB_bI (by omega) (by rw [List.length_append, List.length_append]; omega)]
      have j1 : (pre ++ more ++ loc).length - 1 - (i + more.length).toNat = pre.length + loc.length - 1 - i.toNat := by
        rw [List.length_append, List.length_append]
        omega
      have lt : pre.length + loc.length - 1 - i.toNat < pre.length := by omega
      rw [j1, List.append_assoc, List.getElem?_append_left lt]
      rw [List.getElem?_append_left lt] at e
      exact e
    · rw [if_neg (fun z => c z.2), hdB_bI i0 (by rw [List.length_append, List.length_append]; omega)]
      have ge : pre.length ≤ pre.length + loc.length - 1 - i.toNat := by omega
      rw [List.getElem?_append_right ge] at e
      rw [List.getElem?_append_right (by rw [List.length_append, List.length_append, List.length_append]; omega)]
      have j1 : (pre ++ more ++ loc).length - 1 - i.toNat - (pre ++ more).length = pre.length + loc.length - 1 - i.toNat - pre.length := by
        rw [List.length_append, List.length_append]
        omega
      rw [j1]
      exact e
  · have el : liftH more.length loc.length (hd2 "h" i) = if "h" = ("b" : Str) ∧ (loc.length : Int) ≤ i then hb (i + more.length) else hd2 "h" i := rfl
    rw [el, if_neg (fun z => absurd z.1 (by decide)), ← e]
    exact hdB_h_own
  · show hdB sg hs (pre ++ more ++ loc) (.tup [.str "c", .str x]) = _
    rw [← e]
    exact hdB_c_own
mutual
theorem tm_lift {sg : Sg} {hs pre more : List Ty} : ∀ (loc : List Ty) (k : Ty) (d : D), tmB sg hs (pre ++ loc) k d = true → tmB sg hs (pre ++ more ++ loc) k (liftD more.length loc.length d) = true
  | loc, k, .tup xs, h => by
    obtain ⟨x, ps, t, e, h1, h2, h3, h4⟩ := tmB_inv h
    injection e with e
    subst e
    rw [List.append_assoc] at h1 h4
    have q1 := lift_hd (more := more) h1
    rw [liftD_eq]
    have eo : ((loc.length : Int) + (k.as.length : Nat)) = ((loc ++ k.as).length : Nat) := by
      rw [List.length_append]
      omega
    rw [eo]
    refine tmB_mk (t := t) (by rw [List.append_assoc]; exact q1) h2 (by rw [lifts_map, List.length_map]; exact h3) ?_
    rw [List.append_assoc (pre ++ more)]
    exact tms_lift (loc ++ k.as) t.as ps h4
  | _, _, .non, h => by simp [tmB] at h
  | _, _, .bl _, h => by simp [tmB] at h
  | _, _, .int _, h => by simp [tmB] at h
  | _, _, .str _, h => by simp [tmB] at h
theorem tms_lift {sg : Sg} {hs pre more : List Ty} : ∀ (loc : List Ty) (ts : List Ty) (ps : List D), tmsB sg hs (pre ++ loc) ts ps = true → tmsB sg hs (pre ++ more ++ loc) ts (lifts more.length loc.length ps) = true
  | _, ts, [], h => by
    rw [lifts]
    cases ts with
    | nil => rw [tmsB]; rfl
    | cons t ts => simp [tmsB] at h
  | loc, ts, p :: ps, h => by
    cases ts with
    | nil => simp [tmsB] at h
    | cons t ts =>
      rw [tmsB] at h
      have h' : (tmB sg hs (pre ++ loc) t p && tmsB sg hs (pre ++ loc) ts ps) = true := h
      rw [Bool.and_eq_true] at h'
      rw [lifts, tmsB]
      show (tmB sg hs (pre ++ more ++ loc) t _ && tmsB sg hs (pre ++ more ++ loc) ts _) = true
      rw [tm_lift loc t p h'.1, tms_lift loc ts ps h'.2]
      rfl
end
theorem liftH_add {a b inner : Int} (ha : 0 ≤ a) {h : D} (g : hdG h = true) : liftH b inner (liftH a inner h) = liftH (a + b) inner h := by
  rcases hdG_of g with ⟨s, i, rfl, _⟩ | ⟨x, rfl⟩
  · have e : ∀ c, liftH c inner (hd2 s i) = if s = "b" ∧ inner ≤ i then hb (i + c) else hd2 s i := fun _ => rfl
    rw [e a, e (a + b)]
    by_cases c : s = "b" ∧ inner ≤ i
    · rw [if_pos c, if_pos c]
      have e2 : liftH b inner (hb (i + a)) = if "b" = ("b" : Str) ∧ inner ≤ i + a then hb (i + a + b) else hb (i + a) := rfl
      rw [e2, if_pos ⟨rfl, by omega⟩, Int.add_assoc]
    · rw [if_neg c, if_neg c, e b, if_neg c]
  · rfl
theorem liftH_G {a inner : Int} {h : D} (g : hdG h = true) : hdG (liftH a inner h) = true := by
  rcases hdG_of g with ⟨s, i, rfl, hs⟩ | ⟨x, rfl⟩
  · have e : liftH a inner (hd2 s i) = if s = "b" ∧ inner ≤ i then hb (i + a) else hd2 s i := rfl
    rw [e]
    split
    · rfl
    · exact g
  · exact g
mutual
theorem lift_add {a b : Int} (ha : 0 ≤ a) : ∀ (o : Int) (d : D), tmG d = true → liftD b o (liftD a o d) = liftD (a + b) o d
  | o, .tup xs, h => by
    obtain ⟨n, x, ps, e, gx, gp⟩ := tmG_of h
    injection e with e
    subst e
    rw [liftD_eq, liftD_eq, liftD_eq, liftH_add ha gx, lifts_add ha (o + n) ps gp]
  | _, .non, h => by simp [tmG] at h
  | _, .bl _, h => by simp [tmG] at h
  | _, .int _, h => by simp [tmG] at h
  | _, .str _, h => by simp [tmG] at h
theorem lifts_add {a b : Int} (ha : 0 ≤ a) : ∀ (o : Int) (ps : List D), tmGs ps = true → lifts b o (lifts a o ps) = lifts (a + b) o ps
  | _, [], _ => by rw [lifts, lifts, lifts]
  | o, p :: ps, h => by
    rw [tmGs, Bool.and_eq_true] at h
    rw [lifts, lifts, lifts, lift_add ha o p h.1, lifts_add ha o ps h.2]
end
mutual
theorem lift_G {a : Int} : ∀ (o : Int) (d : D), tmG d = true → tmG (liftD a o d) = true ∧ (liftD a o d).sz = d.sz ∧ (liftD a o d).dp = d.dp
  | o, .tup xs, h => by
    obtain ⟨n, x, ps, e, gx, gp⟩ := tmG_of h
    injection e with e
    subst e
    obtain ⟨q1, q2, q3⟩ := lifts_G (a := a) (o + n) ps gp
    have hz : (liftH a (o + n) x).sz = x.sz ∧ (liftH a (o + n) x).dp = x.dp := by
      rcases hdG_of gx with ⟨s, i, rfl, _⟩ | ⟨y, rfl⟩
      · have e : liftH a (o + n) (hd2 s i) = if s = "b" ∧ o + n ≤ i then hb (i + a) else hd2 s i := rfl
        rw [e]
        split <;> exact ⟨rfl, rfl⟩
      · exact ⟨rfl, rfl⟩
    rw [liftD_eq]
    refine ⟨by rw [tmG_eq, liftH_G gx, q1]; rfl, ?_, ?_⟩
    · show 1 + (1 + ((liftH a (o + n) x).sz + ((1 + szs (lifts a (o + n) ps)) + 0))) = 1 + (1 + (x.sz + ((1 + szs ps) + 0)))
      rw [hz.1, q2]
    · show 1 + max 1 (max (liftH a (o + n) x).dp (max (1 + dps (lifts a (o + n) ps)) 0)) = 1 + max 1 (max x.dp (max (1 + dps ps) 0))
      rw [hz.2, q3]
  | _, .non, h => by simp [tmG] at h
  | _, .bl _, h => by simp [tmG] at h
  | _, .int _, h => by simp [tmG] at h
  | _, .str _, h => by simp [tmG] at h
theorem lifts_G {a : Int} : ∀ (o : Int) (ps : List D), tmGs ps = true → tmGs (lifts a o ps) = true ∧ szs (lifts a o ps) = szs ps ∧ dps (lifts a o ps) = dps ps
  | _, [], _ => by rw [lifts]; exact ⟨by rw [tmGs], rfl, rfl⟩
  | o, p :: ps, h => by
    rw [tmGs, Bool.and_eq_true] at h
    obtain ⟨a1, a2, a3⟩ := lift_G (a := a) o p h.1
    obtain ⟨b1, b2, b3⟩ := lifts_G (a := a) o ps h.2
    rw [lifts, tmGs, szs, szs, dps, dps, a1, a2, a3, b1, b2, b3]
    exact ⟨rfl, rfl, rfl⟩
end
mutual
theorem lift_0 : ∀ (o : Int) (d : D), tmG d = true → liftD 0 o d = d
  | o, .tup xs, h => by
    obtain ⟨n, x, ps, e, gx, gp⟩ := tmG_of h
    injection e with e
    subst e
    have hx : liftH 0 (o + n) x = x := by
      rcases hdG_of gx with ⟨s, i, rfl, _⟩ | ⟨y, rfl⟩
      · have e : liftH 0 (o + n) (hd2 s i) = if s = "b" ∧ o + n ≤ i then hb (i + 0) else hd2 s i := rfl
        rw [e, Int.add_zero]
        split
        · next c => rw [c.1]
        · rfl
      · rfl
    rw [liftD_eq, hx, lifts_0 (o + n) ps gp]
  | _, .non, h => by simp [tmG] at h
  | _, .bl _, h => by simp [tmG] at h
  | _, .int _, h => by simp [tmG] at h
  | _, .str _, h => by simp [tmG] at h
theorem lifts_0 : ∀ (o : Int) (ps : List D), tmGs ps = true → lifts 0 o ps = ps
  | _, [], _ => by rw [lifts]
  | o, p :: ps, h => by
    rw [tmGs, Bool.and_eq_true] at h
    rw [lifts, lift_0 o p h.1, lifts_0 o ps h.2]
end
mutual
theorem lift_Wd {W : Nat} (hW : 3 ≤ W) {a : Int} : ∀ (o : Int) (d : D), tmG d = true → Wd Tx W d → Wd Tx W (liftD a o d)
  | o, .tup xs, h, w => by
    obtain ⟨n, x, ps, e, gx, gp⟩ := tmG_of h
    injection e with e
    subst e
    rw [liftD_eq]
    have wx : Wd Tx W (liftH a (o + n) x) := by
      rcases hdG_of gx with ⟨s, i, rfl, _⟩ | ⟨y, rfl⟩
      · have e : liftH a (o + n) (hd2 s i) = if s = "b" ∧ o + n ≤ i then hb (i + a) else hd2 s i := rfl
        rw [e]
        split
        · exact ⟨by show 2 ≤ W; omega, (by decide +kernel : Tx "b"), trivial, trivial⟩
        · exact w.2.2.1
      · exact w.2.2.1
    refine ⟨hW, trivial, wx, ⟨?_, lifts_Wd hW (o + n) ps gp w.2.2.2.1.2⟩, trivial⟩
    rw [lifts_map, List.length_map]
    exact w.2.2.2.1.1
  | _, .non, h, _ => by simp [tmG] at h
  | _, .bl _, h, _ => by simp [tmG] at h
  | _, .int _, h, _ => by simp [tmG] at h
  | _, .str _, h, _ => by simp [tmG] at h
theorem lifts_Wd {W : Nat} (hW : 3 ≤ W) {a : Int} : ∀ (o : Int) (ps : List D), tmGs ps = true → Wds Tx W ps → Wds Tx W (lifts a o ps)
  | _, [], _, _ => by rw [lifts]; trivial
  | o, p :: ps, h, w => by
    rw [tmGs, Bool.and_eq_true] at h
    rw [lifts]
    exact ⟨lift_Wd hW o p h.1 w.1, lifts_Wd hW o ps h.2 w.2⟩
end
mutual
theorem tm_long {sg : Sg} {hs : List Ty} : ∀ (k : Ty) (own : List Ty) (s : Str) (i : Int), (s = "b" ∨ s = "h") → hdB sg hs own (hd2 s i) = some k → tmB sg hs own k (longD s i k) = true
  | .mk as srt, own, s, i, hs', h => by
    rw [longD]
    have hr : hdB sg hs (own ++ as) (raiseH s i as.length) = some (.mk as srt) := by
      unfold raiseH
      rcases hs' with rfl | rfl
      · rw [if_pos rfl]
        obtain ⟨i0, il⟩ := hdB_b_inv h
        rw [hdB_bI i0 il] at h
        rw [hdB_bI (by omega) (by rw [List.length_append]; omega)]
        have lt : own.length - 1 - i.toNat < own.length := by omega
        have j1 : (own ++ as).length - 1 - (i + as.length).toNat = own.length - 1 - i.toNat := by
          rw [List.length_append]
          omega
        rw [j1, List.getElem?_append_left lt]
        exact h
      · rw [if_neg (by decide), ← h]
        exact hdB_h_own
    refine tmB_mk (k := .mk as srt) (t := .mk as srt) hr rfl (by show as.length = _; rw [longs_len]) ?_
    exact tms_long as (own ++ as) as.length 0 (fun m t ht => by
      have lt : m < as.length := (List.getElem?_eq_some_iff.mp ht).1
      rw [hdB_bI (by omega) (by rw [List.length_append]; omega)]
      have j1 : (own ++ as).length - 1 - ((as.length : Int) - 1 - (0 + m : Nat)).toNat = own.length + m := by
        rw [List.length_append]
        omega
      rw [j1, List.getElem?_append_right (Nat.le_add_right _ _), Nat.add_sub_cancel_left]
      exact ht)
theorem tms_long {sg : Sg} {hs : List Ty} : ∀ (ts own : List Ty) (n j : Nat), (∀ (m : Nat) (t : Ty), ts[m]? = some t → hdB sg hs own (hb ((n : Int) - 1 - (j + m : Nat))) = some t) → tmsB sg hs own ts (longs n j ts) = true
  | [], _, _, _, _ => by rw [longs, tmsB]; rfl
  | t :: ts, own, n, j, h => by
    rw [longs, tmsB]
    show (tmB sg hs own t (longD "b" ((n : Int) - 1 - j) t) && tmsB sg hs own ts (longs n (j + 1) ts)) = true
    have h0 := h 0 t rfl
    rw [Nat.add_zero] at h0
    rw [tm_long t own "b" _ (.inl rfl) h0, tms_long ts own n (j + 1) (fun m u hu => by
      have := h (m + 1) u (by simpa using hu)
      rw [show j + 1 + m = j + (m + 1) by omega]
      exact this)]
    rfl
end
mutual
theorem long_bd {W : Nat} (hW : 3 ≤ W) : ∀ (k : Ty) (s : Str) (i : Int), Tx s → k.Ok W → Wd Tx W (longD s i k) ∧ (longD s i k).dp ≤ k.d.dp + 1 ∧ (longD s i k).sz ≤ 2 * k.d.sz
  | .mk as srt, s, i, ts, ok => by
    have oka := Ty.Ok.as (t := .mk as srt) ok
    have la : as.length ≤ W := oka.2.1
    obtain ⟨q1, q2, q3⟩ := longs_bd hW as as.length 0 oka.1
    have hr : Wd Tx W (raiseH s i as.length) ∧ (raiseH s i as.length).dp = 2 ∧ (raiseH s i as.length).sz = 3 := by
      unfold raiseH
      split
      · exact ⟨⟨by show 2 ≤ W; omega, (by decide +kernel : Tx "b"), trivial, trivial⟩, rfl, rfl⟩
      · exact ⟨⟨by show 2 ≤ W; omega, ts, trivial, trivial⟩, rfl, rfl⟩
    rw [longD, Ty.d]
    refine ⟨⟨hW, trivial, hr.1, ⟨by rw [longs_len]; exact la, q1⟩, trivial⟩, ?_, ?_⟩
    · show 1 + max 1 (max (raiseH s i as.length).dp (max (1 + dps (longs as.length 0 as)) 0)) ≤ 1 + max (1 + dps (tyds as)) (max 1 0) + 1
      rw [hr.2.1]
      omega
    · show 1 + (1 + ((raiseH s i as.length).sz + ((1 + szs (longs as.length 0 as)) + 0))) ≤ 2 * (1 + ((1 + szs (tyds as)) + (1 + 0)))
      rw [hr.2.2]
      omega
theorem longs_bd {W : Nat} (hW : 3 ≤ W) : ∀ (ts : List Ty) (n j : Nat), TysOk W ts → Wds Tx W (longs n j ts) ∧ dps (longs n j ts) ≤ dps (tyds ts) + 1 ∧ szs (longs n j ts) ≤ 2 * szs (tyds ts)
  | [], _, _, _ => by rw [longs]; exact ⟨trivial, Nat.zero_le _, Nat.zero_le _⟩
  | t :: ts, n, j, ok => by
    have ok' : Wd Tx W t.d ∧ Wds Tx W (tyds ts) := ok
    obtain ⟨a1, a2, a3⟩ := long_bd hW t "b" ((n : Int) - 1 - j) (by decide +kernel) ok'.1
    obtain ⟨b1, b2, b3⟩ := longs_bd hW ts n (j + 1) ok'.2
    rw [longs, tyds, dps, dps, szs, szs]
    exact ⟨⟨a1, b1⟩, by omega, by omega⟩
end
theorem eqD_refl {W : Nat} {d : D} (h : Wd Tx W d) : eqD d d = true := SeqAt.eqv_refl d.py (D.can h)
end Lc
end

section
/-! The head: where defs stand; tables of code objects of inner functions. -/
namespace Lc
open PySem L2 PyProof.Rows PySem.Spec NdefX LamX
/-- code object, its table, the one inner function's name -/
abbrev TabL := List (Addr × Addr × Str)
def tbsOf (L : TabL) : Tbs := ⟨L.map fun r => (r.2.1, fun _ _ => r.2.2)⟩
def csOf (L : TabL) : List (Addr × Addr) := L.map fun r => (r.1, r.2.1)
theorem tb_start {L : TabL} {H : Hp} (h : ∀ p ∈ csOf L, H p.2 = some (.tbl #[])) : TabsN (tbsOf L).T H := fun q hq => by
  obtain ⟨r, hr, rfl⟩ := List.mem_map.mp hq
  exact TabN.nil (h (r.1, r.2.1) (List.mem_map.mpr ⟨r, hr, rfl⟩))
theorem tb_mem {L : TabL} {c Pt : Addr} {q : Str} (m : (c, Pt, q) ∈ L) : (Pt, fun _ _ => q) ∈ (tbsOf L).T := List.mem_map.mpr ⟨_, m, rfl⟩
theorem tb_one : ∀ {L : TabL} {c Pt : Addr} {q : Str}, (L.map (·.2.1)).Nodup → (c, Pt, q) ∈ L → ∀ p ∈ (tbsOf L).T, p.1 = Pt → p.2 = fun _ _ => q
  | r :: L, c, Pt, q, nd, m, p, hp, e => by
    rw [List.map_cons, List.nodup_cons] at nd
    have hp' : p = (r.2.1, fun _ _ => r.2.2) ∨ p ∈ (tbsOf L).T := List.mem_cons.mp hp
    rcases hp' with rfl | hp' <;> rcases List.mem_cons.mp m with m' | m'
    · rw [← m']
    · exact absurd (List.mem_map.mpr ⟨_, m', e.symm⟩) nd.1
    · obtain ⟨r', hr', rfl⟩ := List.mem_map.mp hp'
      rw [← m'] at nd
      exact absurd (List.mem_map.mpr ⟨r', hr', e⟩) nd.1
    · exact tb_one nd.2 m' p hp' e
/-- where a def that makes a function stands: its own code object and the table of the inner ones -/
structure DfN [Tbs] (K : PySem.W.Frag) (mg : Str → Option Value) (base : Heap) (x : Str) (st : Stmt) (qual : Str) (ps : List Str) : Prop where
  ex : ∃ (f : Addr) (oc : Value) (od : Option Addr) (kV doc pm : Value) (an : Option Addr) (ct : Value) (sl : Array (Option Value)) (c Pt : Addr),
    K.lookup f = some ⟨oc, od, .func (PySem.W.fnOf x x (defArgs st) (defBody st) (defScope st) .none kV doc pm an (.ref c) ct), sl⟩ ∧ PySem.W.codeIn K (.ref c) x = true ∧ PySem.W.keepIn K (.ref f) = true ∧ mg x = some (.ref f) ∧
    (∀ us : List Value, us.length = ps.length → bindArgs (PySem.W.fnOf x x (defArgs st) (defBody st) (defScope st) .none kV doc pm an (.ref c) ct) ⟨us, []⟩ = pure (ps.zip us)) ∧
    TabB base mg c Pt ∧ (Pt, fun _ _ => qual) ∈ Tbs.T ∧ ∀ p ∈ Tbs.T, p.1 = Pt → p.2 = fun _ _ => qual
theorem dfN_mk {L : TabL} {K : PySem.W.Frag} {h base : Heap} {mg : Str → Option Value} {x : Str} {st : Stmt} {qual : Str} {ps : List Str} {f c Pt : Addr} {oc : Value} {od an : Option Addr} {sl : Array (Option Value)} {kV doc pm ct : Value} (X : K.In h) (G : h.Ns mainGlobals mg)
    (a : PySem.W.nsIn K mainGlobals x = some (some (.ref f))) (l : K.lookup f = some ⟨oc, od, .func (PySem.W.fnOf x x (defArgs st) (defBody st) (defScope st) .none kV doc pm an (.ref c) ct), sl⟩) (cd : PySem.W.codeIn K (.ref c) x = true) (k : PySem.W.keepIn K (.ref f) = true)
    (hb : ∀ us : List Value, us.length = ps.length → bindArgs (PySem.W.fnOf x x (defArgs st) (defBody st) (defScope st) .none kV doc pm an (.ref c) ct) ⟨us, []⟩ = pure (ps.zip us))
    (nd : (L.map (·.2.1)).Nodup) (m : (c, Pt, qual) ∈ L) (TB : ∀ p ∈ csOf L, TabB base mg p.1 p.2) : @DfN (tbsOf L) K mg base x st qual ps :=
  letI := tbsOf L
  ⟨⟨f, oc, od, kV, doc, pm, an, ct, sl, c, Pt, l, cd, k, PySem.W.mg_of X G a, hb, TB (c, Pt) (List.mem_map.mpr ⟨_, m, rfl⟩), tb_mem m, tb_one nd m⟩⟩
/-- what the head asks -/
theorem at_head {l : PySem.W.OpenLaw} {w : World} {K : PySem.W.Frag} {k : Nat} {mg : Str → Option Value} {fa : Addr} {h : Heap} {L : TabL} {sp : Sp} (hT : ∀ P ∈ L.map (·.2.1), h.get? P = some { cls := .none, data := .fields #[] }) (nT : ∀ r ∈ L, K.lookup r.2.1 = none)
    (C : ∀ r ∈ L, PySem.W.CodeHd h r.1 r.2.1) (hsp : ∀ (H : Hp) (a : Addr) (ns : List Int), ns.length ≤ 63 → TabsN (tbsOf L).T H → SqL K H a (ns.map V.int) → sp [.ref a] H (fun v _ => v = .bl true) fun _ _ _ => False)
    (F : ∃ fd : FuncData, (∀ (s : Shared) (u : Value), BindsTo s fd ⟨[u], []⟩ [("script", u)]) ∧ ∀ base : Heap, K.In base → base.Ns mainGlobals mg → (∀ p ∈ csOf L, TabB base mg p.1 p.2) → FnOk l.prog w K mg base CX0 k fa fd ["script"] sp) :
    LawAtS l w K CX0 k 63 "script" mg fa h := by
  obtain ⟨fd, hb, hF⟩ := F
  refine ⟨fd, csOf L, sp, fun p hp => ?_, fun p hp => ?_, fun p hp => ?_, hb, fun H a ns hl _ hH hS => hsp H a ns hl (tb_start hH) hS, hF⟩
  · obtain ⟨r, hr, rfl⟩ := List.mem_map.mp hp
    exact hT _ (List.mem_map.mpr ⟨r, hr, rfl⟩)
  · obtain ⟨r, hr, rfl⟩ := List.mem_map.mp hp
    exact nT r hr
  · obtain ⟨r, hr, rfl⟩ := List.mem_map.mp hp
    exact C r hr
end Lc
end

section
/-! The program's defs: heads, terms. -/
namespace K03
open PySem L2 PyProof.Rows PySem.Spec Lc
variable [Lc.Tbs]
local macro_rules | `(tactic| walk_at "rd") => `(tactic| repeat (first
  | with_reducible refine r_seq ?_ | with_reducible refine r_mknx ?_ | with_reducible refine r_mkrt ?_ | with_reducible refine r_asg ?_ | with_reducible refine r_name ?_ | with_reducible refine r_next ?_
  | with_reducible refine r_drop ?_ | with_reducible refine r_ret ?_ | with_reducible refine r_if ?_
  | ((with_reducible refine' r_var ?e ?_); (case e => rfl)) | with_reducible refine r_c ?_ | with_reducible refine r_op ?_ | with_reducible refine r_un ?_ | with_reducible refine r_test ?_ | with_reducible refine r_tb ?_
  | with_reducible refine r_and ?_ | with_reducible refine r_or ?_ | with_reducible refine r_not ?_ | with_reducible refine r_andV ?_ | with_reducible refine r_orV ?_ | with_reducible refine r_notV ?_ | with_reducible refine r_bl ?_
  | with_reducible refine r_cb ?_ | with_reducible refine r_cons ?_ | with_reducible refine r_nil ?_ | with_reducible refine r_tup ?_ | with_reducible refine r_lst ?_ | with_reducible refine r_call ?_
  | with_reducible refine r_i0 ?_ | with_reducible refine r_par ?_ | with_reducible refine r_two ?_ | with_reducible refine r_lc ?_ | with_reducible refine r_iL ?_ | with_reducible refine r_iT ?_ | with_reducible refine r_iS ?_ | with_reducible refine r_i1 ?_ | with_reducible refine r_yes ?_ | with_reducible refine r_chain ?_ | with_reducible refine if_t rfl ?_ | with_reducible refine if_f rfl ?_ | with_reducible refine r_nt ?_ | ((with_reducible refine r_eq ?e ?_); (case e => rfl)) | ((with_reducible refine r_ne ?e ?_); (case e => rfl))
  | with_reducible refine r_sub ?_ | with_reducible refine r_sl ?_ | with_reducible refine r_nopart ?_ | with_reducible refine r_part ?_ | with_reducible refine r_int ?_ | with_reducible refine r_bm ?_ | with_reducible refine r_bm0 ?_ | with_reducible refine r_gcons ?_ | with_reducible refine r_gnil ?_ | with_reducible refine r_dget1 ?_ | with_reducible refine r_dget2 ?_))


local macro_rules | `(tactic| walk_at "dt") => `(tactic| repeat' (first | (show Dt _ _ _; assumption) | exact dt_str | exact dt_int | exact dt_bl | exact dt_non | exact Dts.nil | refine' Dts.cons ?_ ?_ | (refine' Dt.mono ?kk ?_; (case kk => assumption)) | fail))
local macro_rules | `(tactic| walk_at "at") => `(tactic| repeat (first | assumption | (refine' Kp.ge ?kk ?nn ?_; (case kk => assumption); (case nn => intro _ z; cases z)) | fail))
local macro_rules | `(tactic| walk_at "kp") => `(tactic| repeat (first | assumption | exact Kp.refl _ _ | (refine' Kp.trans ?_ ?kk; (case kk => assumption)) | fail))
local macro_rules | `(tactic| walk_at "tup") => `(tactic| (refine' r_tupN ?h ?f ?k; (case h => walk_at "dt"); (case f => simp); skip))
def top (i : Nat) : Stmt := PySem.Challenge.pw_lacuna_k03_long_forms_and_lifting.main.body.getD i (.Pass ⟨0, 0, 0, 0⟩)
/-- no name at the module's top hides a built-in -/
structure Txt (mg : Str → Option Value) : Prop where
  z_type : mg "type" = none
  z_str : mg "str" = none
  z_len : mg "len" = none
  z_all : mg "all" = none
  z_tuple : mg "tuple" = none
  z_list : mg "list" = none
  z_dict : mg "dict" = none
  z_set : mg "set" = none
  z_int : mg "int" = none
  z_max : mg "max" = none
  z_sum : mg "sum" = none
  z_range : mg "range" = none
  z_reversed : mg "reversed" = none
  z_isinstance : mg "isinstance" = none
  z_bool : mg "bool" = none
def pairD : D → Bool
  | .tup xs => decide (xs.length = 2)
  | _ => false
def spPair : Sp := fun vs H Q _ => ∃ v d, vs = [v] ∧ Dt H d v ∧ ∀ H', Kp [] H H' → Q (.bl (pairD d)) H'
def idxD : D → Bool
  | .int i => decide (0 ≤ i)
  | _ => false
def spIndex : Sp := fun vs H Q _ => ∃ v d, vs = [v] ∧ Dt H d v ∧ ∀ H', Kp [] H H' → Q (.bl (idxD d)) H'
def spHeadKind : Sp := fun vs H Q _ => ∃ p hv ov v sg hs own d W, vs = [.ref p, hv, ov, v] ∧ SgD H sg p ∧ Dt H (.tup (tyds hs)) hv ∧ Dt H (.tup (tyds own)) ov ∧ Dt H d v ∧ Wd Tx W d ∧
  ∀ r H', Kp [] H H' → (match hdB sg hs own d with | none => r = .non | some t => Dt H' t.d r) → Q r H'
def spForm : Sp := fun vs H Q _ => ∃ v d n, vs = [v, .int (n : Nat)] ∧ Dt H d v ∧ ∀ H', Kp [] H H' → Q (.bl (formB n d)) H'
abbrev s_is_pair : Stmt := top 1
abbrev N_is_pair : List Str := ["value"]
theorem sc_is_pair : FnScope N_is_pair ["value"] (defScope s_is_pair) := ⟨rfl, rfl, rfl, by decide +kernel, rfl, by decide +kernel, by decide +kernel⟩
abbrev s_is_index : Stmt := top 2
abbrev N_is_index : List Str := ["value"]
theorem sc_is_index : FnScope N_is_index ["value"] (defScope s_is_index) := ⟨rfl, rfl, rfl, by decide +kernel, rfl, by decide +kernel, by decide +kernel⟩
abbrev s_head_kind : Stmt := top 3
abbrev N_head_kind : List Str := ["constants", "holes", "binders", "head", "sign", "mark"]
theorem sc_head_kind : FnScope N_head_kind ["constants", "holes", "binders", "head"] (defScope s_head_kind) := ⟨rfl, rfl, rfl, by decide +kernel, rfl, by decide +kernel, by decide +kernel⟩
abbrev s_has_term_form : Stmt := top 4
abbrev N_has_term_form : List Str := ["value", "n"]
theorem sc_has_term_form : FnScope N_has_term_form ["value", "n"] (defScope s_has_term_form) := ⟨rfl, rfl, rfl, by decide +kernel, rfl, by decide +kernel, by decide +kernel⟩
section
variable {P : Program} {w : World} {K : PySem.W.Frag} {mg : Str → Option Value} {base : Heap}
theorem ok_is_pair (F : Df K mg "is_pair" s_is_pair ["value"]) (T : Txt mg) : Cal P w K mg base "is_pair" ["value"] 1 spPair := by
  refine F.ok sc_is_pair (fun vs H Q E h => ?_) (fun f cdv A outer s H vs Q E hr h => ?_)
  · obtain ⟨v, d, rfl, _⟩ := h
    rfl
  obtain ⟨v, d, rfl, hd, q⟩ := h
  refine ⟨_, (pss_one (ps_ret (pe_and (pe_cmpR op_isTyB (pe_callTy call_type1 (by rfl) T.z_type (by decide +kernel) (pa_cons (pv 0) pa_nil)) (pe_bty (T := "tuple") (by rfl) T.z_tuple (by decide +kernel)) (nomark _)) (pe_one (pe_cmpR op_eq (pe_callB call_len_seq (by rfl) T.z_len (by decide +kernel) (pa_cons (pv 0) pa_nil)) pe_int (nomark _)))))), ?_⟩
  walk_at "rd"
  refine r_ty hd ?_
  walk_at "rd"
  refine ⟨_, _, rfl, rfl, ?_⟩
  walk_at "rd"
  rw [ty_tup]
  refine if_2 (fun c => ?_) (fun c => ?_)
  · obtain ⟨ds, rfl⟩ := D.tup_of c
    obtain ⟨a, xs, rfl, ha, hs⟩ := hd.tup
    walk_at "rd"
    refine ⟨a, xs, rfl, .inr (SqT.of ha), ?_⟩
    walk_at "rd"
    have e : pairD (.tup ds) = decide (V.int (xs.length : Int) = V.int 2) := by
      rw [hs.len]
      show decide _ = _
      congr 1
      refine propext ⟨fun z => by rw [z]; rfl, fun z => ?_⟩
      have := V.int.inj z
      omega
    exact e ▸ q H (Kp.refl _ _)
  · walk_at "rd"
    have e : pairD d = false := by cases d <;> first | rfl | cases c
    exact e ▸ q H (Kp.refl _ _)
theorem ok_is_index (F : Df K mg "is_index" s_is_index ["value"]) (T : Txt mg) : Cal P w K mg base "is_index" ["value"] 1 spIndex := by
  refine F.ok sc_is_index (fun vs H Q E h => ?_) (fun f cdv A outer s H vs Q E hr h => ?_)
  · obtain ⟨v, d, rfl, _⟩ := h
    rfl
  obtain ⟨v, d, rfl, hd, q⟩ := h
  refine ⟨_, (pss_one (ps_ret (pe_and (pe_cmpR op_isTyB (pe_callTy call_type1 (by rfl) T.z_type (by decide +kernel) (pa_cons (pv 0) pa_nil)) (pe_bty (T := "int") (by rfl) T.z_int (by decide +kernel)) (nomark _)) (pe_one (pe_cmpR op_ge (pv 0) pe_int (nomark _)))))), ?_⟩
  walk_at "rd"
  refine r_ty hd ?_
  walk_at "rd"
  refine ⟨_, _, rfl, rfl, ?_⟩
  walk_at "rd"
  rw [ty_int]
  refine if_2 (fun c => ?_) (fun c => ?_)
  · obtain ⟨i, rfl⟩ : ∃ i, d = .int i := by cases d <;> first | exact ⟨_, rfl⟩ | cases c
    cases hd.int
    walk_at "rd"
    exact q H (Kp.refl _ _)
  · walk_at "rd"
    have e : idxD d = false := by cases d <;> first | rfl | cases c
    exact e ▸ q H (Kp.refl _ _)
theorem ok_head_kind (F : Df K mg "head_kind" s_head_kind ["constants", "holes", "binders", "head"]) (T : Txt mg) (C_is_pair : Cal P w K mg base "is_pair" ["value"] 1 spPair) (C_is_index : Cal P w K mg base "is_index" ["value"] 1 spIndex) :
    Cal P w K mg base "head_kind" ["constants", "holes", "binders", "head"] 2 spHeadKind := by
  refine F.ok sc_head_kind (fun vs H Q E h => ?_) (fun f cdv A outer s H vs Q E hr h => ?_)
  · obtain ⟨p, hv, ov, v, sg, hs, own, d, W, rfl, _⟩ := h
    rfl
  obtain ⟨p, hv, ov, v, sg, hs, own, d, W, rfl, hp, hh, ho, hd, hw, q⟩ := h
  refine ⟨_, (pss_cons (ps_if (pt_not (pt_val (pe_cal C_is_pair hr rfl (pa_cons (pv 3) pa_nil)))) (pss_one (ps_ret pe_non)) pss_nil)
      (pss_cons (ps_asg (pv 3) (pg_tup (by rfl) (pgs_cons (pg_name (i := 4) sc_head_kind.nd rfl (.inl rfl)) (pgs_cons (pg_name (i := 5) sc_head_kind.nd rfl (.inl rfl)) pgs_nil))))
      (pss_cons (ps_if (PW.pt (pw_and (pt_cmpR (op_eqA (n := 150) (u150 hr)) (pv 4) pe_str (nomark _)) (pw_and1 (pt_cmpR op_isTyB (pe_callTy call_type1 (by rfl) T.z_type (by decide +kernel) (pa_cons (pv 5) pa_nil)) (pe_bty (T := "str") (by rfl) T.z_str (by decide +kernel)) (nomark _))))) (pss_one (ps_ret (pe_dget1 (u1 hr) (pv 0) (pv 5) ⟨rfl, rfl, rfl, rfl⟩))) pss_nil)
      (pss_cons (ps_if (pt_not (pt_val (pe_cal C_is_index hr rfl (pa_cons (pv 5) pa_nil)))) (pss_one (ps_ret pe_non)) pss_nil)
      (pss_cons (ps_if (PW.pt (pw_and (pt_cmpR (op_eqA (n := 150) (u150 hr)) (pv 4) pe_str (nomark _)) (pw_and1 (pt_cmpR op_lt (pv 5) (pe_callB call_len_seq (by rfl) T.z_len (by decide +kernel) (pa_cons (pv 2) pa_nil)) (nomark _))))) (pss_one (ps_ret (pe_ix ix_tup (pv 2) (pe_op op_sub (pe_op op_sub (pe_callB call_len_seq (by rfl) T.z_len (by decide +kernel) (pa_cons (pv 2) pa_nil)) pe_int) (pv 5)) (fun _ _ => rfl)))) pss_nil)
      (pss_cons (ps_if (PW.pt (pw_and (pt_cmpR (op_eqA (n := 150) (u150 hr)) (pv 4) pe_str (nomark _)) (pw_and1 (pt_cmpR op_lt (pv 5) (pe_callB call_len_seq (by rfl) T.z_len (by decide +kernel) (pa_cons (pv 1) pa_nil)) (nomark _))))) (pss_one (ps_ret (pe_ix ix_tup (pv 1) (pv 5) (fun _ _ => rfl)))) pss_nil)
      (pss_one (ps_ret pe_non)))))))), ?_⟩
  walk_at "rd"
  refine ⟨v, d, rfl, hd, fun H1 k1 => ?_⟩
  walk_at "rd"
  refine if_2 (fun c => ?_) (fun c => ?_)
  · walk_at "rd"
    have e : hdB sg hs own d = none := by
      unfold hdB
      split
      · cases c
      · rfl
    exact q _ H1 k1 (by rw [e])
  obtain ⟨s, m, rfl⟩ : ∃ x y, d = .tup [x, y] := by
    have c' : pairD d = true := by simpa using c
    match d, c' with
    | .tup [x, y], _ => exact ⟨x, y, rfl⟩
  replace hp := hp.mono k1 (fun _ z => nomatch z)
  replace hh := hh.mono k1.t0
  replace ho := ho.mono k1.t0
  replace hd := hd.mono k1.t0
  have q2 : ∀ r H2, Kp [] H1 H2 → (match hkB sg hs own s m with | none => r = .non | some t => Dt H2 t.d r) → Q r H2 := fun r H2 k2 z => q r H2 (k1.trans k2) z
  replace q : ∀ r, (match hkB sg hs own s m with | none => r = .non | some t => Dt H1 t.d r) → Q r H1 := fun r z => q2 r H1 (Kp.refl _ _) z
  obtain ⟨a, xs, rfl, ha, hsm⟩ := hd.tup
  obtain ⟨vs, r1, rfl, hvs, vm, r2, rfl, hm, rfl⟩ := hsm
  obtain ⟨ah, hx, rfl, hah, hhs⟩ := hh.tup
  obtain ⟨ao, ox, rfl, hao, hos⟩ := ho.tup
  have lh : hx.length = hs.length := by rw [hhs.len, tyds_len]
  have lo : ox.length = own.length := by rw [hos.len, tyds_len]
  have ws : Wd Tx W s := hw.2.1
  walk_at "rd"
  refine r_gtup ha rfl ?_
  walk_at "rd"
  refine ⟨s, .str "c", W, hvs, rfl, ws, (by decide +kernel : Tx "c"), Nat.le_trans (Nat.min_le_right _ _) (by decide), ?_⟩
  walk_at "rd"
  refine if_and2 (c := m.isS) (fun c1 z => ?_) (fun c1 c2 => ?_) (fun c1 => ?_)
  · walk_at "rd"
    refine r_ty hm ?_
    walk_at "rd"
    refine ⟨_, _, rfl, rfl, ?_⟩
    walk_at "rd"
    rw [ty_str]
    exact z
  · obtain ⟨x, rfl⟩ := D.str_of c2
    cases hm.str
    walk_at "rd"
    obtain ⟨kvs, hkv, hget⟩ := hp
    refine ⟨p, rfl, .inl ⟨kvs, Rd.of hkv⟩, ?_⟩
    walk_at "rd"
    refine ⟨valV kvs (.inr x), DGet.k (k := .inr x) hkv, q _ ?_⟩
    have e : hkB sg hs own s (.str x) = sgGet sg x := by
      unfold hkB
      rw [c1]
      rfl
    rw [e]
    have g := hget x
    cases z : sgGet sg x with
    | none => rw [z] at g; rw [g]; rfl
    | some t =>
      rw [z] at g
      obtain ⟨v, g1, g2⟩ := g
      rw [g1]
      exact g2
  have e1 : hkB sg hs own s m = hkM hs own s m := by
    unfold hkB
    rw [if_neg (by rw [c1]; decide)]
  walk_at "rd"
  refine ⟨vm, m, rfl, hm, fun H2 k2 => ?_⟩
  walk_at "rd"
  refine if_2 (fun c2 => ?_) (fun c2 => ?_)
  · walk_at "rd"
    have e : hkB sg hs own s m = none := by
      rw [e1]
      cases m with
      | int i => 
        have c3 : idxD (.int i) = false := by simpa using c2
        have := of_decide_eq_false c3
        rw [hkM_int, if_pos (by omega)]
      | _ => rfl
    exact q2 _ H2 k2 (by rw [e])
  obtain ⟨i, rfl⟩ : ∃ i, m = .int i := by cases m <;> first | exact ⟨_, rfl⟩ | cases c2
  cases hm.int
  have i0 : 0 ≤ i := by
    have c3 : idxD (.int i) = true := by simpa using c2
    exact of_decide_eq_true c3
  rw [hkM_int, if_neg (by omega)] at e1
  unfold hkI at e1
  replace hhs := hhs.mono k2.t0
  replace hos := hos.mono k2.t0
  replace hah := k2.get hah
  replace hao := k2.get hao
  replace hvs := hvs.mono k2.t0
  walk_at "rd"
  refine ⟨s, .str "b", W, hvs, rfl, ws, (by decide +kernel : Tx "b"), Nat.le_trans (Nat.min_le_right _ _) (by decide), ?_⟩
  walk_at "rd"
  refine if_and2 (c := decide (i < own.length)) (fun c3 z => ?_) (fun c3 c4 => ?_) (fun c3 => ?_)
  · walk_at "rd"
    refine ⟨ao, ox, rfl, .inr (SqT.of hao), ?_⟩
    walk_at "rd"
    rw [lo]
    exact z
  · walk_at "rd"
    refine ⟨ao, ox, rfl, .inr (SqT.of hao), ?_⟩
    walk_at "rd"
    have il := of_decide_eq_true c4
    rw [c3, c4] at e1
    have e2 : hkB sg hs own s (.int i) = own[own.length - 1 - i.toNat]? := e1
    have lt : own.length - 1 - i.toNat < own.length := by omega
    rw [List.getElem?_eq_getElem lt] at e2
    obtain ⟨x, hx, hd⟩ := hos.of (tyds_at (List.getElem?_eq_getElem lt))
    have z := atI_nat hx
    have iz : ((own.length - 1 - i.toNat : Nat) : Int) = (ox.length : Int) - 1 - i := by omega
    rw [iz] at z
    refine r_ixT hao z (q2 _ H2 k2 ?_)
    rw [e2]
    exact hd
  rw [c3] at e1
  replace e1 : hkB sg hs own s (.int i) = if (eqD s (.str "h") && decide (i < hs.length)) = true then hs[i.toNat]? else none := e1
  walk_at "rd"
  refine ⟨s, .str "h", W, hvs, rfl, ws, (by decide +kernel : Tx "h"), Nat.le_trans (Nat.min_le_right _ _) (by decide), ?_⟩
  walk_at "rd"
  refine if_and2 (c := decide (i < hs.length)) (fun c4 z => ?_) (fun c4 c5 => ?_) (fun c4 => ?_)
  · walk_at "rd"
    refine ⟨ah, hx, rfl, .inr (SqT.of hah), ?_⟩
    walk_at "rd"
    rw [lh]
    exact z
  · walk_at "rd"
    have il := of_decide_eq_true c5
    rw [c4, c5] at e1
    have e2 : hkB sg hs own s (.int i) = hs[i.toNat]? := e1
    have lt : i.toNat < hs.length := by omega
    rw [List.getElem?_eq_getElem lt] at e2
    obtain ⟨x, hx, hd⟩ := hhs.ix i0 (tyds_at (List.getElem?_eq_getElem lt))
    refine r_ixT hah hx (q2 _ H2 k2 ?_)
    rw [e2]
    exact hd
  · walk_at "rd"
    rw [c4] at e1
    exact q2 _ H2 k2 (by rw [e1]; rfl)
theorem ok_form (F : Df K mg "has_term_form" s_has_term_form ["value", "n"]) (T : Txt mg) (C_is_index : Cal P w K mg base "is_index" ["value"] 1 spIndex) :
    Cal P w K mg base "has_term_form" ["value", "n"] 2 spForm := by
  refine F.ok sc_has_term_form (fun vs H Q E h => ?_) (fun f cdv A outer s H vs Q E hr h => ?_)
  · obtain ⟨v, d, n, rfl, _⟩ := h
    rfl
  obtain ⟨v, d, n, rfl, hd, q⟩ := h
  refine ⟨_, (pss_cons (ps_if (PW.pt (pw_or (pt_cmpR op_notTyB (pe_callTy call_type1 (by rfl) T.z_type (by decide +kernel) (pa_cons (pv 0) pa_nil)) (pe_bty (T := "tuple") (by rfl) T.z_tuple (by decide +kernel)) (nomark _)) (pw_or1 (pt_cmpR op_ne (pe_callB call_len_seq (by rfl) T.z_len (by decide +kernel) (pa_cons (pv 0) pa_nil)) pe_int (nomark _))))) (pss_one (ps_ret pe_bl)) pss_nil)
      (pss_one (ps_ret (pe_and (pe_cal C_is_index hr rfl (pa_cons (pe_ix ix_tup (pv 0) pe_int (fun _ _ => rfl)) pa_nil)) (pe_and (pe_cmpR op_eq (pe_ix ix_tup (pv 0) pe_int (fun _ _ => rfl)) (pv 1) (nomark _)) (pe_one (pe_cmpR op_isTyB (pe_callTy call_type1 (by rfl) T.z_type (by decide +kernel) (pa_cons (pe_ix ix_tup (pv 0) pe_int (fun _ _ => rfl)) pa_nil)) (pe_bty (T := "tuple") (by rfl) T.z_tuple (by decide +kernel)) (nomark _)))))))), ?_⟩
  walk_at "rd"
  refine r_ty hd ?_
  walk_at "rd"
  rw [ty_tup]
  refine if_2 (fun c => ?_) (fun c => ?_)
  · walk_at "rd"
    have e : formB n d = false := by cases d <;> first | rfl | cases c
    exact e ▸ q H (Kp.refl _ _)
  obtain ⟨ds, rfl⟩ := D.tup_of (by simpa using c)
  obtain ⟨a, xs, rfl, ha, hs⟩ := hd.tup
  walk_at "rd"
  refine ⟨a, xs, rfl, .inr (SqT.of ha), ?_⟩
  walk_at "rd"
  refine if_2 (fun c2 => ?_) (fun c2 => ?_)
  · walk_at "rd"
    have e : formB n (.tup ds) = false := by
      cases z : formB n (.tup ds) with
      | false => rfl
      | true =>
        have l := formB_len z
        rw [hs.len, l] at c2
        cases c2
    exact e ▸ q H (Kp.refl _ _)
  obtain ⟨d1, d2, d3, rfl⟩ : ∃ d1 d2 d3, ds = [d1, d2, d3] := by
    have c' : (xs.length : Int) = 3 := by simpa using c2
    rw [hs.len] at c'
    match ds, c' with
    | [x, y, z], _ => exact ⟨x, y, z, rfl⟩
    | [], l => simp at l
    | [_], l => simp at l
    | [_, _], l => simp at l
    | _ :: _ :: _ :: _ :: _, l => simp at l; omega
  obtain ⟨v1, r1, rfl, h1, v2, r2, rfl, h2, v3, r3, rfl, h3, rfl⟩ := hs
  walk_at "rd"
  refine r_ixT ha rfl ?_
  walk_at "rd"
  refine ⟨v1, d1, rfl, h1, fun H1 k1 => ?_⟩
  walk_at "rd"
  have ha1 := k1.get ha
  refine if_2 (fun c1 => ?_) (fun c1 => ?_)
  · obtain ⟨i, rfl⟩ : ∃ i, d1 = .int i := by cases d1 <;> first | exact ⟨_, rfl⟩ | cases c1
    cases h1.int
    try clear c2
    walk_at "rd"
    refine r_ixT ha1 rfl ?_
    walk_at "rd"
    refine if_2 (fun c2 => ?_) (fun c2 => ?_)
    · walk_at "rd"
      refine r_ixT ha1 rfl ?_
      walk_at "rd"
      refine r_ty (h3.mono k1.t0) ?_
      walk_at "rd"
      refine ⟨_, _, rfl, rfl, ?_⟩
      walk_at "rd"
      rw [ty_tup]
      have ei : i = (n : Int) := V.int.inj (of_decide_eq_true c2)
      have e : formB n (.tup [.int i, d2, d3]) = d3.isT := by
        cases d3 <;> first | rfl | exact decide_eq_true ei
      exact e ▸ q H1 k1
    · walk_at "rd"
      have ei : i ≠ (n : Int) := fun z => of_decide_eq_false c2 (by rw [z])
      have e : formB n (.tup [.int i, d2, d3]) = false := by
        cases d3 <;> first | rfl | exact decide_eq_false ei
      exact e ▸ q H1 k1
  · walk_at "rd"
    have e : formB n (.tup [d1, d2, d3]) = false := by
      cases d1 with
      | int i =>
        cases d3 <;> first | rfl | skip
        have c1' := of_decide_eq_false c1
        exact decide_eq_false (by omega)
      | non => rfl
      | bl _ => rfl
      | str _ => rfl
      | tup _ => rfl
    exact e ▸ q H1 k1
end
end K03
end

section
/-! The program's defs: is_term. -/
namespace K03
open PySem L2 PyProof.Rows PySem.Spec Lc
variable [Lc.Tbs]
local macro_rules | `(tactic| walk_at "rd") => `(tactic| repeat (first
  | with_reducible refine r_seq ?_ | with_reducible refine r_mknx ?_ | with_reducible refine r_mkrt ?_ | with_reducible refine r_asg ?_ | with_reducible refine r_name ?_ | with_reducible refine r_next ?_
  | with_reducible refine r_drop ?_ | with_reducible refine r_ret ?_ | with_reducible refine r_if ?_
  | ((with_reducible refine' r_var ?e ?_); (case e => rfl)) | with_reducible refine r_c ?_ | with_reducible refine r_op ?_ | with_reducible refine r_un ?_ | with_reducible refine r_test ?_ | with_reducible refine r_tb ?_
  | with_reducible refine r_and ?_ | with_reducible refine r_or ?_ | with_reducible refine r_not ?_ | with_reducible refine r_andV ?_ | with_reducible refine r_orV ?_ | with_reducible refine r_notV ?_ | with_reducible refine r_bl ?_
  | with_reducible refine r_cb ?_ | with_reducible refine r_cons ?_ | with_reducible refine r_nil ?_ | with_reducible refine r_tup ?_ | with_reducible refine r_lst ?_ | with_reducible refine r_call ?_
  | with_reducible refine r_i0 ?_ | with_reducible refine r_par ?_ | with_reducible refine r_two ?_ | with_reducible refine r_lc ?_ | with_reducible refine r_iL ?_ | with_reducible refine r_iT ?_ | with_reducible refine r_iS ?_ | with_reducible refine r_i1 ?_ | with_reducible refine r_yes ?_ | with_reducible refine r_chain ?_ | with_reducible refine if_t rfl ?_ | with_reducible refine if_f rfl ?_ | with_reducible refine r_nt ?_ | ((with_reducible refine r_eq ?e ?_); (case e => rfl)) | ((with_reducible refine r_ne ?e ?_); (case e => rfl))
  | with_reducible refine r_sub ?_ | with_reducible refine r_sl ?_ | with_reducible refine r_nopart ?_ | with_reducible refine r_part ?_ | with_reducible refine r_int ?_ | with_reducible refine r_bm ?_ | with_reducible refine r_bm0 ?_ | with_reducible refine r_gcons ?_ | with_reducible refine r_gnil ?_ | with_reducible refine r_dget1 ?_ | with_reducible refine r_dget2 ?_))


local macro_rules | `(tactic| walk_at "dt") => `(tactic| repeat' (first | (show Dt _ _ _; assumption) | exact dt_str | exact dt_int | exact dt_bl | exact dt_non | exact Dts.nil | refine' Dts.cons ?_ ?_ | (refine' Dt.mono ?kk ?_; (case kk => assumption)) | fail))
local macro_rules | `(tactic| walk_at "at") => `(tactic| repeat (first | assumption | (refine' Kp.ge ?kk ?nn ?_; (case kk => assumption); (case nn => intro _ z; cases z)) | fail))
local macro_rules | `(tactic| walk_at "kp") => `(tactic| repeat (first | assumption | exact Kp.refl _ _ | (refine' Kp.trans ?_ ?kk; (case kk => assumption)) | fail))
local macro_rules | `(tactic| walk_at "tup") => `(tactic| (refine' r_tupN ?h ?f ?k; (case h => walk_at "dt"); (case f => simp); skip))

def spIsTerm : Sp := fun vs H Q _ => ∃ sv hv pv kv v sg hs own k d W, vs = [sv, hv, pv, kv, v] ∧ SgV H sg sv ∧ SgOk W sg ∧ sg.length ≤ 1000 ∧ Dt H (.tup (tyds hs)) hv ∧ TysOk W hs ∧ Dt H (.tup (tyds own)) pv ∧ TysOk W own ∧
  Dt H k.d kv ∧ k.Ok W ∧ Dt H d v ∧ Wd Tx 1000000 d ∧ d.sz ≤ 1000000 ∧ W ≤ 1000 ∧ own.length + W * d.dp ≤ 9000 ∧ ∀ H', Kp [] H H' → Q (.bl (tmB sg hs own k d)) H'
abbrev s_is_term : Stmt := top 5
abbrev N_is_term : List Str := ["signature", "holes", "prefix", "kind", "value", "constants", "todo", "binders", "needed", "outer", "term", "arguments", "sort", "j"]
theorem sc_is_term : FnScope N_is_term ["signature", "holes", "prefix", "kind", "value"] (defScope s_is_term) := ⟨rfl, rfl, rfl, by decide +kernel, rfl, by decide +kernel, by decide +kernel⟩
section
variable {P : Program} {w : World} {K : PySem.W.Frag} {mg : Str → Option Value} {base : Heap}
theorem ok_is_term (F : Df K mg "is_term" s_is_term ["signature", "holes", "prefix", "kind", "value"]) (T : Txt mg) (C_has_term_form : Cal P w K mg base "has_term_form" ["value", "n"] 2 spForm) (C_head_kind : Cal P w K mg base "head_kind" ["constants", "holes", "binders", "head"] 2 spHeadKind) :
    Cal P w K mg base "is_term" ["signature", "holes", "prefix", "kind", "value"] 3 spIsTerm := by
  refine F.ok sc_is_term (fun vs H Q E h => ?_) (fun f cdv A outer s H vs Q E hr h => ?_)
  · obtain ⟨sv, hv, xv, kv, v, sg, hs, own, k, d, W, rfl, _⟩ := h
    rfl
  obtain ⟨sv, hv, xv, kv, v, sg, hs, own, k, d, W, rfl, hsg, osg, fsg, hh, oh, hp, op, hk, ok, hd, wd, zd, hW, far, q⟩ := h
  refine ⟨_, (pss_cons (ps_set (i := 5) sc_is_term.nd rfl (Or.inl rfl) (pe_callTy (call_dictTup rfl) (by rfl) T.z_dict (by decide +kernel) (pa_cons (pv 0) pa_nil)))
      (pss_cons (ps_set (i := 6) sc_is_term.nd rfl (Or.inl rfl) (pe_lst (pa_cons (pe_tup (pa_cons (pv 2) (pa_cons (pv 3) (pa_cons (pv 4) pa_nil)))) pa_nil)))
      (pss_cons (ps_while PassesOwn.never (pt_truth (pv 6) (by intro _; rfl)) (pss_cons (ps_asg (pe_bm0 PySem.F.plainAttrs_list PySem.F.slot_list_pop PySem.F.type_list_pop mt_pop (pv 6)) (pg_tup (by rfl) (pgs_cons (pg_name (i := 9) sc_is_term.nd rfl (.inl rfl)) (pgs_cons (pg_tup (by rfl) (pgs_cons (pg_name (i := 11) sc_is_term.nd rfl (.inl rfl)) (pgs_cons (pg_name (i := 12) sc_is_term.nd rfl (.inl rfl)) pgs_nil))) (pgs_cons (pg_name (i := 10) sc_is_term.nd rfl (.inr rfl)) pgs_nil)))))
      (pss_cons (ps_if (pt_not (pt_val (pe_cal C_has_term_form hr rfl (pa_cons (pv 10) (pa_cons (pe_callB call_len_seq (by rfl) T.z_len (by decide +kernel) (pa_cons (pv 11) pa_nil)) pa_nil))))) (pss_one (ps_ret pe_bl)) pss_nil)
      (pss_cons (ps_set (i := 7) sc_is_term.nd rfl (Or.inr rfl) (pe_op op_catA (pv 9) (pv 11)))
      (pss_cons (ps_set (i := 8) sc_is_term.nd rfl (Or.inr rfl) (pe_cal C_head_kind hr rfl (pa_cons (pv 5) (pa_cons (pv 1) (pa_cons (pv 7) (pa_cons (pe_ix ix_tup (pv 10) pe_int (fun _ _ => rfl)) pa_nil))))))
      (pss_cons (ps_if (PW.pt (pw_or (pt_cmpR op_isN (pv 8) pe_non (nomark _)) (pw_or (pt_cmpR op_ne (pe_ix ix_tup (pv 8) pe_int (fun _ _ => rfl)) (pv 12) (nomark _)) (pw_or1 (pt_cmpR op_ne (pe_callB call_len_seq (by rfl) T.z_len (by decide +kernel) (pa_cons (pe_ix ix_tup (pv 8) pe_int (fun _ _ => rfl)) pa_nil)) (pe_callB call_len_seq (by rfl) T.z_len (by decide +kernel) (pa_cons (pe_ix ix_tup (pv 10) pe_int (fun _ _ => rfl)) pa_nil)) (nomark _)))))) (pss_one (ps_ret pe_bl)) pss_nil)
      (pss_one (ps_expr (pe_bm PySem.F.plainAttrs_list PySem.F.slot_list_extend PySem.F.type_list_extend mt_extend (pv 6) (pa_cons (pe_lc (own := [("j", 13)]) (g := gName 13) rfl sc_is_term.nd (pi_range1 rfl T.z_range (pa_cons (pe_callB call_len_seq (by rfl) T.z_len (by decide +kernel) (pa_cons (pe_ix ix_tup (pv 8) pe_int (fun _ _ => rfl)) pa_nil)) pa_nil)) (blkOk_by (N := N_is_term) (sc := defScope s_is_term) (by decide +kernel)) (fun _ _ _ _ _ => (pg_name (i := 13) sc_is_term.nd rfl (Or.inl rfl))) (fun _ _ _ _ _ => pts_nil) (fun _ _ _ _ _ => (pe_tup (pa_cons (pv 7) (pa_cons (pe_ix (r := rIxT K) ix_tup (pe_ix (r := rIxT K) ix_tup (pv 8) pe_int (fun _ _ => rfl)) (pv 13) (fun _ _ => rfl)) (pa_cons (pe_ix (r := rIxT K) ix_tup (pe_ix (r := rIxT K) ix_tup (pv 10) pe_int (fun _ _ => rfl)) (pv 13) (fun _ _ => rfl)) pa_nil)))))) pa_nil))))))))))
      (pss_one (ps_ret pe_bl))))), ?_⟩
  walk_at "rd"
  refine r_dict hsg osg fsg fun pc H1 k1 t1 n1 hc1 => ?_
  walk_at "rd"
  refine ⟨Nat.le_trans (show 3 ≤ 10000 by decide) (by decide), fun pt np => ?_⟩
  walk_at "rd"
  have k2 : Kp [] H1 (upd H1 pt (.tup [xv, kv, v])) := (Kp.refl _ _).up np
  refine r_lstN (show 1 ≤ 10000 by decide) fun L H3 k3 t3 nL hL => ?_
  walk_at "rd"
  have k03 : Kp [] H H3 := k1.trans (k2.trans k3)
  have hL0 : H L = none := (k1.trans k2).none nL
  have hc3 : SgD H3 sg pc := hc1.mono (k2.trans k3) fun _ z => nomatch z
  refine ⟨fun m σ H' => ∃ fs zs v7 v8 v9 v10 v11 v12 v13, σ = [some sv, some hv, some xv, some kv, some v, some (.ref pc), some (.ref L), v7, v8, v9, v10, v11, v12, v13] ∧ Kp [] H H' ∧ SgD H' sg pc ∧ H' L = some (.lst zs) ∧ FrsV W H' fs zs ∧ frZ fs ≤ 1000000 ∧ tmB sg hs own k d = frsB sg hs fs ∧ m = frZ fs,
    ⟨_, [(own, k, d)], [.ref pt], none, none, none, none, none, none, none, rfl, k03, hc3, hL, ?_, ?_, ?_, rfl⟩, ?_⟩
  · refine FrsV.nil.snoc ⟨pt, xv, kv, v, rfl, k3.get upd_same, hp.mono k03.t0, hk.mono k03.t0, hd.mono k03.t0, op, ok, wd, far⟩
  · unfold frZ
    simpa using zd
  · unfold frsB frB
    simp
  rintro m σ H4 ⟨fs, zs, v7, v8, v9, v10, v11, v12, v13, rfl, k4, hc4, hL4, hfs, zfs, etm, rfl⟩
  walk_at "rd"
  refine ⟨_, .inl ⟨zs, SqL.of hL4, rfl⟩, if_2 (fun c1 => ?_) (fun c1 => ?_)⟩
  · obtain ⟨gs, fr, us, y, rfl, rfl, hgs, a, vo, vk, vt, rfl, ha, ho, hk', ht, oo, okk, wt, fart⟩ := hfs.last (by rintro rfl; cases c1)
    obtain ⟨ow, ⟨as, srt⟩, tm⟩ := fr
    refine ⟨_, fun _ _ z => z, ?_⟩
    walk_at "rd"
    have k5 : Kp [] H (upd H4 L (.lst us)) := k4.own hL0
    have t5 : KeepT H4 (upd H4 L (.lst us)) := fun p xs z => by rw [upd_ne (ne_of z hL4 (fun q => by cases q))]; exact z
    have hc5 : SgD (upd H4 L (.lst us)) sg pc := hc4.mono (l := [L]) ((Kp.refl _ _).at (List.mem_singleton.mpr rfl)) (lst1 hL4)
    refine ⟨.inl ⟨rfl, _, SqL.of hL4⟩, L, _, _, rfl, rfl, hL4, at_last us _, ?_⟩
    rw [drop_last]
    refine r_gtup (t5 _ _ ha) rfl ?_
    walk_at "rd"
    replace hk' : Dt H4 (Ty.mk as srt).d vk := hk'
    rw [Ty.d] at hk'
    obtain ⟨a2, x2, rfl, ha2, va, r2, rfl, hva, vs2, r3, rfl, hvs2, rfl⟩ := hk'
    cases hvs2.str
    refine r_gtup (t5 _ _ ha2) rfl ?_
    walk_at "rd"
    obtain ⟨a3, x3, rfl, ha3, hs3⟩ := hva
    have l3 : x3.length = as.length := by rw [hs3.len, tyds_len]
    refine ⟨a3, x3, rfl, .inr (SqT.of (t5 _ _ ha3)), ?_⟩
    walk_at "rd"
    rw [l3]
    refine ⟨vt, tm, as.length, rfl, ht.mono t5, fun H6 k6 => ?_⟩
    walk_at "rd"
    have ebs : tmB sg hs own k d = (frsB sg hs gs && tmB sg hs ow (.mk as srt) tm) := by
      rw [etm, frsB_app]
      show (frsB sg hs gs && (frB sg hs (ow, Ty.mk as srt, tm) && true)) = _
      rw [Bool.and_true]
      rfl
    have k06 : Kp [] H H6 := k5.trans k6
    refine if_2 (fun c2 => ?_) (fun c2 => ?_)
    · walk_at "rd"
      have e : tmB sg hs own k d = false := by
        have c3 : formB (Ty.mk as srt).as.length tm = false := (show formB as.length tm = false by simpa using c2)
        rw [ebs, tmB_form c3, Bool.and_false]
      exact e ▸ q H6 k06
    obtain ⟨hd2, ps, rfl⟩ := formB_of (by simpa using c2)
    have t6 : KeepT H4 H6 := t5.trans k6.t0
    obtain ⟨at4, x4, rfl, ha4, hs4⟩ := (show Dt H4 (.tup [.int (as.length : Nat), hd2, .tup ps]) vt from ht)
    obtain ⟨y1, r1, rfl, hy1, y2, r2, rfl, hy2, y3, r3, rfl, hy3, rfl⟩ := hs4
    cases hy1.int
    obtain ⟨ap, xp, rfl, hap, hsp⟩ := hy3
    obtain ⟨ao, xo, rfl, hao, hso⟩ := (show Dt H4 (.tup (tyds ow)) vo from ho)
    have lo : xo.length = ow.length := by rw [hso.len, tyds_len]
    have oas : TysOk W as ∧ as.length ≤ W ∧ Tx srt := Ty.Ok.as (t := .mk as srt) okk
    have zt : (D.tup [.int (as.length : Nat), hd2, .tup ps]).dp = 1 + max 1 (max hd2.dp (max (1 + dps ps) 0)) := rfl
    have fart' : ow.length + W * (D.tup [.int (as.length : Nat), hd2, .tup ps]).dp ≤ 9000 := fart
    have fw : ow.length ≤ 9000 := Nat.le_trans (Nat.le_add_right _ _) fart'
    walk_at "rd"
    refine r_catT (t6 _ _ hao) (t6 _ _ ha3) (hso.mono t6) (hs3.mono t6) (by omega) fun vb H7 k7 t7 hb => ?_
    rw [← tyds_app] at hb
    have t47 : KeepT H4 H7 := t6.trans t7
    have k07 := k06.trans k7
    have hc7 := hc5.mono (k6.trans k7) fun _ z => nomatch z
    walk_at "rd"
    refine r_ixT (t47 _ _ ha4) rfl ?_
    walk_at "rd"
    refine ⟨pc, hv, vb, y2, sg, hs, ow ++ as, hd2, 1000000, rfl, hc7, hh.mono k07.t0, hb, hy2.mono t47, (show Wd Tx 1000000 hd2 from wt.2.2.1), fun r H8 k8 hr8 => ?_⟩
    have t48 : KeepT H4 H8 := t47.trans k8.t0
    have k08 := k07.trans k8
    walk_at "rd"
    refine ⟨rfl, ?_⟩
    walk_at "rd"
    have etm2 := tmB_eq (sg := sg) (hs := hs) (own := ow) (k := .mk as srt) (x := hd2) (ps := ps)
    replace etm2 : tmB sg hs ow (.mk as srt) (.tup [.int (as.length : Nat), hd2, .tup ps]) = match hdB sg hs (ow ++ as) hd2 with
      | none => false
      | some t => decide (t.s = srt) && decide (t.as.length = ps.length) && tmsB sg hs (ow ++ as) t.as ps := etm2
    cases eh : hdB sg hs (ow ++ as) hd2 with
    | none =>
      rw [eh] at hr8 etm2
      subst hr8
      refine if_t rfl ?_
      walk_at "rd"
      have e : tmB sg hs own k d = false := by rw [ebs, etm2, Bool.and_false]
      exact e ▸ q H8 k08
    | some t =>
      rw [eh] at hr8 etm2
      replace hr8 : Dt H8 t.d r := hr8
      have okt : t.Ok W := hdB_ok osg oh (oo.app oas.1) eh
      rw [Ty.d_eq] at hr8
      obtain ⟨ar, xr, rfl, har, w1, r2, rfl, hw1, w2, r3, rfl, hw2, rfl⟩ := hr8
      cases hw2.str
      obtain ⟨a9, x9, rfl, ha9, hs9⟩ := hw1
      have l9 : x9.length = t.as.length := by rw [hs9.len, tyds_len]
      have lp : xp.length = ps.length := hsp.len
      refine if_f rfl ?_
      walk_at "rd"
      refine r_ixT har rfl ?_
      walk_at "rd"
      refine if_2 (fun c3 => ?_) (fun c3 => ?_)
      · walk_at "rd"
        have ne : t.s ≠ srt := fun z => by rw [z] at c3; simp at c3
        have e : tmB sg hs own k d = false := by
          rw [ebs, etm2]
          simp [ne]
        exact e ▸ q H8 k08
      have es : t.s = srt := by simpa using c3
      walk_at "rd"
      refine r_ixT har rfl ?_
      walk_at "rd"
      refine ⟨a9, x9, rfl, .inr (SqT.of ha9), ?_⟩
      walk_at "rd"
      refine r_ixT (t48 _ _ ha4) rfl ?_
      walk_at "rd"
      refine ⟨ap, xp, rfl, .inr (SqT.of (t48 _ _ hap)), ?_⟩
      walk_at "rd"
      rw [l9, lp]
      refine if_2 (fun c4 => ?_) (fun c4 => ?_)
      · walk_at "rd"
        have ne : t.as.length ≠ ps.length := fun z => by rw [z] at c4; simp at c4
        have e : tmB sg hs own k d = false := by
          rw [ebs, etm2]
          simp [ne]
        exact e ▸ q H8 k08
      have el : t.as.length = ps.length := by
        have z : V.int (t.as.length : Nat) = V.int (ps.length : Nat) := by simpa using c4
        have := V.int.inj z
        omega
      have k58 : Kp [] (upd H4 L (.lst us)) H8 := k6.trans (k7.trans k8)
      have hL8 : H8 L = some (.lst us) := k58.get upd_same
      have etm3 : tmB sg hs own k d = frsB sg hs (gs ++ kids (ow ++ as) t.as ps) := by
        rw [ebs, etm2, frsB_app, kids_B el]
        simp [es, el]
      have zps : szs ps + 2 ≤ (D.tup [.int (as.length : Nat), hd2, .tup ps]).sz := by
        have e : (D.tup [.int (as.length : Nat), hd2, .tup ps]).sz = 1 + (1 + (hd2.sz + ((1 + szs ps) + 0))) := rfl
        omega
      have zall : frZ (gs ++ [(ow, Ty.mk as srt, D.tup [.int (as.length : Nat), hd2, .tup ps])]) = frZ gs + (D.tup [.int (as.length : Nat), hd2, .tup ps]).sz := by
        rw [frZ_app]
        simp [frZ]
      have wps : Wds Tx 1000000 ps := wt.2.2.2.1.2
      walk_at "rd"
      refine ⟨.inl ⟨rfl, _, SqL.of hL8⟩, ?_⟩
      walk_at "rd"
      refine r_ixT har rfl ?_
      walk_at "rd"
      refine ⟨a9, x9, rfl, .inr (SqT.of ha9), ?_⟩
      walk_at "rd"
      rw [l9]
      have lps := szs_len ps
      have zsz : szs ps ≤ 1000000 := by omega
      refine ⟨_, rfl, by omega, by omega, fun L2 nL2 => lc_it walk_range (fun i H' => ∃ ys, H' L2 = some (.lst ys) ∧ FrsV W H' ((kids (ow ++ as) t.as ps).take i) ys ∧ Kp [] H8 H')
        ⟨[], upd_same, FrsV.nil, (Kp.refl _ _).up nL2⟩ (fun _ _ _ _ => trivial) ?_ ?_⟩
      · rintro i y H0 H9 hi9 ⟨ys, eL2, hys, k9⟩ ⟨rfl, rfl⟩
        have hi : i < t.as.length := by simpa using hi9
        have hip : i < ps.length := by omega
        walk_at "rd"
        refine ⟨rfl, ?_⟩
        walk_at "rd"
        have t49 := t48.trans k9.t0
        obtain ⟨w3, hw3, hdw3⟩ := (hs9.mono k9.t0).of (tyds_at (List.getElem?_eq_getElem hi))
        obtain ⟨w4, hw4, hdw4⟩ := (hsp.mono t49).of (List.getElem?_eq_getElem hip)
        refine r_ixT (k9.get har) rfl ?_
        walk_at "rd"
        refine r_ixT (k9.get ha9) (by simpa using atI_nat hw3) ?_
        walk_at "rd"
        refine r_ixT (t49 _ _ ha4) rfl ?_
        walk_at "rd"
        refine r_ixT (t49 _ _ hap) (by simpa using atI_nat hw4) ?_
        walk_at "rd"
        refine ⟨Nat.le_trans (show 3 ≤ 10000 by decide) (by decide), fun pn npn => ?_⟩
        walk_at "rd"
        have kn : Kp [] H9 (upd H9 pn (.tup [vb, w3, w4])) := (Kp.refl _ _).up npn
        refine ⟨ys, kn.get eL2, ?_, _, upd_same, ?_, (k9.trans kn).own nL2⟩
        · rw [hys.1, List.length_take]
          exact Nat.lt_of_le_of_lt (show _ ≤ 1000000 by omega) (by decide)
        · have ek := kids_at (own := ow ++ as) (List.getElem?_eq_getElem hi) (List.getElem?_eq_getElem hip)
          rw [take_one ek]
          have tn : KeepT H9 (upd (upd H9 pn (.tup [vb, w3, w4])) L2 (.lst (ys ++ [.ref pn]))) := kn.t0.trans fun p xs z => by rw [upd_ne (ne_of z (kn.get eL2) (fun q => by cases q))]; exact z
          have hpn : upd (upd H9 pn (.tup [vb, w3, w4])) L2 (.lst (ys ++ [.ref pn])) pn = some (.tup [vb, w3, w4]) := by
            rw [upd_ne (ne_of upd_same (kn.get eL2) (fun q => by cases q))]
            exact upd_same
          refine (hys.mono tn).snoc ⟨pn, vb, w3, w4, rfl, hpn, (hb.mono (k8.trans k9).t0).mono tn, hdw3.mono tn, hdw4.mono tn, oo.app oas.1, okt.as.1.at (List.getElem_mem hi), Wds.mem.mp wps _ (List.getElem_mem hip), ?_⟩
          have m1 := dps_mem (List.getElem_mem hip)
          have m2 : W * (1 + (ps[i]).dp) ≤ W * (D.tup [.int (as.length : Nat), hd2, .tup ps]).dp := Nat.mul_le_mul_left _ (by omega)
          rw [Nat.mul_add, Nat.mul_one] at m2
          have := oas.2.1
          show (ow ++ as).length + W * (ps[i]).dp ≤ 9000
          rw [List.length_append]
          omega
      · rintro H9 ⟨ys, eL2, hys, k9⟩
        rw [List.take_of_length_le (by rw [kids_len el]; simp; omega)] at hys
        have hL9 : H9 L = some (.lst us) := k9.get hL8
        have lys : ys.length = ps.length := by rw [hys.1, kids_len el]
        have lus : us.length ≤ 1000000 := by
          have := frZ_len gs
          rw [hgs.1]
          omega
        refine ⟨L, L2, us, ys, rfl, rfl, hL9, eL2, Nat.le_trans (show _ ≤ 2000000 by omega) (by decide), ?_⟩
        have t9 : KeepT H9 (upd H9 L (.lst (us ++ ys))) := fun p xs z => by rw [upd_ne (ne_of z hL9 (fun q => by cases q))]; exact z
        walk_at "rd"
        refine ⟨frZ (gs ++ kids (ow ++ as) t.as ps), ?_, gs ++ kids (ow ++ as) t.as ps, us ++ ys, _, _, _, _, _, _, _, rfl, (k08.trans k9).own hL0, (hc7.mono (k8.trans k9) fun _ z => nomatch z).mono (l := [L]) ((Kp.refl _ _).at (List.mem_singleton.mpr rfl)) (lst1 hL9), upd_same, ((hgs.mono (t48.trans k9.t0)).app hys).mono t9, ?_, etm3, rfl⟩
        · rw [zall, frZ_app, kids_Z el]
          omega
        · rw [frZ_app, kids_Z el]
          omega
  · walk_at "rd"
    have e0 : zs = [] := by
      cases zs with
      | nil => rfl
      | cons _ _ => cases c1
    subst e0
    have e1 : fs = [] := List.eq_nil_of_length_eq_zero hfs.1.symm
    subst e1
    have e2 : tmB sg hs own k d = true := etm
    exact e2 ▸ q H4 k4
end
end K03
end

section
/-! what is drawn. -/
namespace K03
open PySem L2 PyProof.Rows PySem.Spec Lc
variable [Lc.Tbs]
local macro_rules | `(tactic| walk_at "rd") => `(tactic| repeat (first
  | with_reducible refine r_seq ?_ | with_reducible refine r_mknx ?_ | with_reducible refine r_mkrt ?_ | with_reducible refine r_asg ?_ | with_reducible refine r_name ?_ | with_reducible refine r_next ?_
  | with_reducible refine r_drop ?_ | with_reducible refine r_ret ?_ | with_reducible refine r_if ?_
  | ((with_reducible refine' r_var ?e ?_); (case e => rfl)) | with_reducible refine r_c ?_ | with_reducible refine r_op ?_ | with_reducible refine r_un ?_ | with_reducible refine r_test ?_ | with_reducible refine r_tb ?_
  | with_reducible refine r_and ?_ | with_reducible refine r_or ?_ | with_reducible refine r_not ?_ | with_reducible refine r_andV ?_ | with_reducible refine r_orV ?_ | with_reducible refine r_notV ?_ | with_reducible refine r_bl ?_
  | with_reducible refine r_cb ?_ | with_reducible refine r_cons ?_ | with_reducible refine r_nil ?_ | with_reducible refine r_tup ?_ | with_reducible refine r_lst ?_ | with_reducible refine r_call ?_
  | with_reducible refine r_i0 ?_ | with_reducible refine r_par ?_ | with_reducible refine r_two ?_ | with_reducible refine r_lc ?_ | with_reducible refine r_iL ?_ | with_reducible refine r_iT ?_ | with_reducible refine r_iS ?_ | with_reducible refine r_i1 ?_ | with_reducible refine r_yes ?_ | with_reducible refine r_chain ?_ | with_reducible refine if_t rfl ?_ | with_reducible refine if_f rfl ?_ | with_reducible refine r_nt ?_ | ((with_reducible refine r_eq ?e ?_); (case e => rfl)) | ((with_reducible refine r_ne ?e ?_); (case e => rfl))
  | with_reducible refine r_sub ?_ | with_reducible refine r_sl ?_ | with_reducible refine r_nopart ?_ | with_reducible refine r_part ?_ | with_reducible refine r_int ?_ | with_reducible refine r_bm ?_ | with_reducible refine r_bm0 ?_ | with_reducible refine r_gcons ?_ | with_reducible refine r_gnil ?_ | with_reducible refine r_dget1 ?_ | with_reducible refine r_dget2 ?_))


local macro_rules | `(tactic| walk_at "dt") => `(tactic| repeat' (first | (show Dt _ _ _; assumption) | exact dt_str | exact dt_int | exact dt_bl | exact dt_non | exact Dts.nil | refine' Dts.cons ?_ ?_ | (refine' Dt.mono ?kk ?_; (case kk => assumption)) | fail))
local macro_rules | `(tactic| walk_at "at") => `(tactic| repeat (first | assumption | (refine' Kp.ge ?kk ?nn ?_; (case kk => assumption); (case nn => intro _ z; cases z)) | fail))
local macro_rules | `(tactic| walk_at "kp") => `(tactic| repeat (first | assumption | exact Kp.refl _ _ | (refine' Kp.trans ?_ ?kk; (case kk => assumption)) | fail))
local macro_rules | `(tactic| walk_at "tup") => `(tactic| (refine' r_tupN ?h ?f ?k; (case h => walk_at "dt"); (case f => simp); skip))



/-! ### the draws' state -/
/-- at c stand the script's ints, how many are taken, the digits left, a count, and one thing more -/
def CS (a : Addr) (H : Hp) (c : Addr) : Prop := ∃ (ns : List Int) (i d k z : Int), H c = some (.lst [.ref a, .int i, .int d, .int k, .int z]) ∧ H a = some (.lst (ns.map V.int)) ∧ 0 ≤ i ∧ a ≠ c
theorem CS.keep {a : Addr} {H H' : Hp} {c : Addr} (h : CS a H c) (k : Kp [] H H') : CS a H' c := by
  obtain ⟨ns, i, d, n, z, h1, h2, h3, h4⟩ := h
  exact ⟨ns, i, d, n, z, k c _ (fun q => nomatch q) h1, k a _ (fun q => nomatch q) h2, h3, h4⟩
theorem CS.noT {a : Addr} {H : Hp} {c : Addr} (h : CS a H c) : NoT H c := by
  obtain ⟨ns, i, d, n, z, h1, _⟩ := h
  exact NoT.lst h1
theorem CS.t {a : Addr} {H H' : Hp} {c : Addr} (h : CS a H c) (k : Kp [c] H H') : KeepT H H' := k.t1 h.noT
/-- a new object is none of the state's -/
theorem CS.ne {a : Addr} {H : Hp} {c l : Addr} (h : CS a H c) (n : H l = none) : l ≠ c ∧ l ≠ a := by
  obtain ⟨ns, i, d, m, z, h1, h2, _⟩ := h
  exact ⟨fun q => (by rw [q, h1] at n; cases n), fun q => (by rw [q, h2] at n; cases n)⟩
theorem CS.own {a : Addr} {H : Hp} {c l : Addr} {o : HO} (h : CS a H c) (n : l ≠ c ∧ l ≠ a) : CS a (upd H l o) c := by
  obtain ⟨ns, i, d, m, z, h1, h2, h3, h4⟩ := h
  exact ⟨ns, i, d, m, z, by rw [upd_ne n.1.symm]; exact h1, by rw [upd_ne n.2.symm]; exact h2, h3, h4⟩
def spFill : Sp := fun vs H Q _ => ∃ c a, vs = [.ref c] ∧ CS a H c ∧ ∀ (d : Int) H', Kp [c] H H' → CS a H' c → Q (.int d) H'
def spTake : Sp := fun vs H Q _ => ∃ (c a : Addr) (m : Int), vs = [.ref c, .int m] ∧ CS a H c ∧ 0 < m ∧ m < 1073741824 ∧ ∀ (d : Int) H', 0 ≤ d → d < m → Kp [c] H H' → CS a H' c → Q (.int d) H'
theorem at_ints {ns : List Int} {i : Int} (h0 : 0 ≤ i) (h : i < ((ns.map V.int).length : Nat)) : ∃ v, atI (ns.map V.int) i = some (.int v) := by
  have e : i = ((i.toNat : Nat) : Int) := by omega
  have hk : i.toNat < ns.length := by
    rw [List.length_map] at h
    omega
  refine ⟨ns[i.toNat], at_of e ?_⟩
  rw [List.getElem?_map, List.getElem?_eq_getElem hk]
  rfl
theorem last_int {ns : List Int} (h : (ns.map V.int).isEmpty = false) : ∃ v, atI (ns.map V.int) (-1) = some (.int v) := by
  have n : ns ≠ [] := by
    rintro rfl
    cases h
  refine ⟨ns.getLast n, ?_⟩
  have e : ns.map V.int = ns.dropLast.map V.int ++ [V.int (ns.getLast n)] := by
    rw [← List.map_singleton (f := V.int), ← List.map_append, List.dropLast_concat_getLast]
  rw [e]
  exact atI_last _ _

abbrev s_law_fill : Stmt := top 17
abbrev N_law_fill : List Str := ["c", "number"]
theorem sc_law_fill : FnScope N_law_fill ["c"] (defScope s_law_fill) := ⟨rfl, rfl, rfl, by decide +kernel, rfl, by decide +kernel, by decide +kernel⟩
abbrev s_law_take : Stmt := top 18
abbrev N_law_take : List Str := ["c", "many", "digit"]
theorem sc_law_take : FnScope N_law_take ["c", "many"] (defScope s_law_take) := ⟨rfl, rfl, rfl, by decide +kernel, rfl, by decide +kernel, by decide +kernel⟩
section
variable {P : Program} {w : World} {K : PySem.W.Frag} {mg : Str → Option Value} {base : Heap}
theorem ok_fill (F : Df K mg "_law_fill" s_law_fill ["c"]) (T : Txt mg) : Cal P w K mg base "_law_fill" ["c"] 1 spFill := by
  refine F.ok sc_law_fill (fun vs H Q E h => ?_) (fun f cdv A outer s H vs Q E hr h => ?_)
  · obtain ⟨c, a, rfl, _⟩ := h
    rfl
  obtain ⟨c, a, rfl, ⟨ns, i, d, k, z, hc, ha, h0, hne⟩, q⟩ := h
  refine ⟨_, (pss_cons (ps_asg (pe_op op_add (pe_ix ix_list (pv 0) pe_int (fun _ _ => rfl)) pe_int) (pg_sub (pv 0) pe_int set_list))
      (pss_cons (ps_set (i := 1) sc_law_fill.nd rfl (Or.inl rfl) (pe_op op_add (pe_op op_mul (pe_ix ix_list (pv 0) pe_int (fun _ _ => rfl)) pe_int) pe_int))
      (Evl.pss_cut (ps_if (pt_cmpR op_lt (pe_ix ix_list (pv 0) pe_int (fun _ _ => rfl)) (pe_callB call_len_seq (by rfl) T.z_len (by decide +kernel) (pa_cons (pe_ix ix_list (pv 0) pe_int (fun _ _ => rfl)) pa_nil)) (nomark _)) (pss_cons (ps_set (i := 1) sc_law_fill.nd rfl (Or.inl rfl) (pe_callB (call_max2 rfl) (by rfl) T.z_max (by decide +kernel) (pa_cons (pe_ix ix_list (pe_ix ix_list (pv 0) pe_int (fun _ _ => rfl)) (pe_ix ix_list (pv 0) pe_int (fun _ _ => rfl)) (fun _ _ => rfl)) (pa_cons (pe_op op_sub (pe_op op_sub pe_int pe_int) (pe_ix ix_list (pe_ix ix_list (pv 0) pe_int (fun _ _ => rfl)) (pe_ix ix_list (pv 0) pe_int (fun _ _ => rfl)) (fun _ _ => rfl))) pa_nil))))
      (pss_cons (ps_asg (pe_op op_add (pe_ix ix_list (pv 0) pe_int (fun _ _ => rfl)) pe_int) (pg_sub (pv 0) pe_int set_list))
      (pss_one (ps_if (pt_cmpR op_ge (pv 1) (pe_op op_pow pe_int pe_int) (nomark _)) (pss_one (ps_ret (pv 1))) pss_nil)))) pss_nil)
      (Evl.pss_cut (ps_if (PW.pt (pw_and (pt_truth (pe_ix ix_list (pv 0) pe_int (fun _ _ => rfl)) (by intro _; rfl)) (pw_and1 (pt_cmpR op_ge (pe_ix ix_list (pv 0) pe_int (fun _ _ => rfl)) (pe_callB call_len_seq (by rfl) T.z_len (by decide +kernel) (pa_cons (pe_ix ix_list (pv 0) pe_int (fun _ _ => rfl)) pa_nil)) (nomark _))))) (pss_one (ps_set (i := 1) sc_law_fill.nd rfl (Or.inl rfl) (pe_op op_add (pv 1) (pe_op op_modN (pe_callTy call_int1 (by rfl) T.z_int (by decide +kernel) (pa_cons (pe_ix ix_list (pe_ix ix_list (pv 0) pe_int (fun _ _ => rfl)) (pe_un un_neg pe_int) (fun _ _ => rfl)) pa_nil)) pe_int)))) pss_nil)
      (pss_cons (ps_set (i := 1) sc_law_fill.nd rfl (Or.inl rfl) (pe_op op_modN (pe_callTy call_int1 (by rfl) T.z_int (by decide +kernel) (pa_cons (pe_op op_add (pe_op op_mul (pv 1) pe_int) (pe_op op_mul (pe_ix ix_list (pv 0) pe_int (fun _ _ => rfl)) pe_int)) pa_nil)) pe_int))
      (pss_one (ps_ret (pe_op op_add (pe_op op_fdivN (pe_callTy call_int1 (by rfl) T.z_int (by decide +kernel) (pa_cons (pe_op op_add (pe_op op_add (pe_op op_mul (pv 1) (pv 1)) (pe_op op_mul (pe_ix ix_list (pv 0) pe_int (fun _ _ => rfl)) pe_int)) pe_int) pa_nil)) pe_int) pe_int)))))))), ?_⟩
  walk_at "rd"
  refine r_ixL hc rfl ?_
  walk_at "rd"
  refine r_set hc rfl ?_
  walk_at "rd"
  refine r_ixL upd_same rfl ?_
  walk_at "rd"
  refine r_i (.inr (by decide)) ?_
  walk_at "rd"
  refine r_cut (fun σ H' => ∃ (n : Int) (i' : Int), σ = [some (.ref c), some (.int n)] ∧ Kp [c] H H' ∧ H' c = some (.lst [.ref a, .int i', .int d, .int (k + 1), .int z]) ∧ H' a = some (.lst (ns.map V.int)) ∧ 0 ≤ i') ?_ ?_
  · walk_at "rd"
    refine r_ixL upd_same rfl ?_
    walk_at "rd"
    have ha1 : (upd H c (.lst [.ref a, .int i, .int d, .int (k + 1), .int z])) a = some (.lst (ns.map V.int)) := by rw [upd_ne hne]; exact ha
    have k1 : Kp [c] H (upd H c (.lst [.ref a, .int i, .int d, .int (k + 1), .int z])) := (Kp.refl _ _).at (by simp)
    refine r_ixL upd_same rfl ?_
    walk_at "rd"
    refine ⟨a, _, rfl, .inl (SqL.of ha1), ?_⟩
    walk_at "rd"
    refine if_2 (fun c1 => ?_) (fun c1 => ?_)
    · obtain ⟨v, hv⟩ := at_ints h0 (by simpa using c1)
      walk_at "rd"
      refine r_ixL upd_same rfl ?_
      walk_at "rd"
      refine r_ixL upd_same rfl ?_
      walk_at "rd"
      refine r_ixL ha1 hv ?_
      walk_at "rd"
      refine r_ixL upd_same rfl ?_
      walk_at "rd"
      refine r_ixL upd_same rfl ?_
      walk_at "rd"
      refine r_ixL ha1 hv ?_
      walk_at "rd"
      refine ⟨_, _, rfl, ?_⟩
      walk_at "rd"
      refine r_ixL upd_same rfl ?_
      walk_at "rd"
      refine r_set upd_same rfl ?_
      have k2 : Kp [c] H (upd (upd H c (.lst [.ref a, .int i, .int d, .int (k + 1), .int z])) c (.lst [.ref a, .int (i + 1), .int d, .int (k + 1), .int z])) := k1.at (by simp)
      have ha2 : (upd (upd H c (.lst [.ref a, .int i, .int d, .int (k + 1), .int z])) c (.lst [.ref a, .int (i + 1), .int d, .int (k + 1), .int z])) a = some (.lst (ns.map V.int)) := by rw [upd_ne hne]; exact ha1
      walk_at "rd"
      refine r_i ⟨by decide, by decide, by decide⟩ ?_
      walk_at "rd"
      refine if_2 (fun c2 => ?_) (fun c2 => ?_)
      · walk_at "rd"
        exact q _ _ k2 ⟨ns, i + 1, d, k + 1, z, upd_same, ha2, by omega, hne⟩
      · walk_at "rd"
        exact ⟨_, i + 1, rfl, k2, upd_same, ha2, by omega⟩
    · walk_at "rd"
      exact ⟨_, i, rfl, k1, upd_same, ha1, h0⟩
  · rintro σ H1 ⟨n, j, rfl, k1, hc1, ha1, hj⟩
    have cs : CS a H1 c := ⟨ns, j, d, k + 1, z, hc1, ha1, hj, hne⟩
    refine r_cut (fun σ H' => ∃ (n : Int), σ = [some (.ref c), some (.int n)] ∧ H' = H1) ?_ ?_
    · walk_at "rd"
      refine r_ixL hc1 rfl ?_
      walk_at "rd"
      refine ⟨_, .inl ⟨_, SqL.of ha1, rfl⟩, if_2 (fun c1 => ?_) (fun c1 => ?_)⟩
      · walk_at "rd"
        refine r_ixL hc1 rfl ?_
        walk_at "rd"
        refine r_ixL hc1 rfl ?_
        walk_at "rd"
        refine ⟨a, _, rfl, .inl (SqL.of ha1), ?_⟩
        walk_at "rd"
        refine if_2 (fun c2 => ?_) (fun c2 => ?_)
        · obtain ⟨v, hv⟩ := last_int (by simpa using c1)
          walk_at "rd"
          refine r_ixL hc1 rfl ?_
          walk_at "rd"
          refine ⟨1, rfl, ?_⟩
          walk_at "rd"
          refine r_ixL ha1 hv ?_
          walk_at "rd"
          refine .inl ⟨_, rfl, ?_⟩
          walk_at "rd"
          refine r_i (by decide) ?_
          walk_at "rd"
          exact ⟨_, rfl, rfl⟩
        · walk_at "rd"
          exact ⟨_, rfl, rfl⟩
      · walk_at "rd"
        exact ⟨_, rfl, rfl⟩
    · rintro σ H2 ⟨n2, rfl, rfl⟩
      walk_at "rd"
      refine r_i (.inr (by decide)) ?_
      walk_at "rd"
      refine r_ixL hc1 rfl ?_
      walk_at "rd"
      refine r_i (.inr (by decide)) ?_
      walk_at "rd"
      refine .inl ⟨_, rfl, ?_⟩
      walk_at "rd"
      refine r_i (by decide) ?_
      walk_at "rd"
      have lo := Int.fmod_nonneg_of_pos (n2 * 48271 + (k + 1) * 69621) (show (0 : Int) < 2147483647 by decide)
      have hi := Int.fmod_lt_of_pos (n2 * 48271 + (k + 1) * 69621) (show (0 : Int) < 2147483647 by decide)
      generalize (n2 * 48271 + (k + 1) * 69621).fmod 2147483647 = g at lo hi ⊢
      refine r_i (.inl ⟨by omega, by omega⟩) ?_
      walk_at "rd"
      refine r_ixL hc1 rfl ?_
      walk_at "rd"
      refine r_i (.inr (by decide)) ?_
      walk_at "rd"
      refine .inl ⟨_, rfl, ?_⟩
      walk_at "rd"
      refine r_i ⟨by decide, by decide⟩ ?_
      walk_at "rd"
      exact q _ _ k1 cs
theorem ok_take (F : Df K mg "_law_take" s_law_take ["c", "many"]) (T : Txt mg) (C_law_fill : Cal P w K mg base "_law_fill" ["c"] 1 spFill) : Cal P w K mg base "_law_take" ["c", "many"] 2 spTake := by
  refine F.ok sc_law_take (fun vs H Q E h => ?_) (fun f cdv A outer s H vs Q E hr h => ?_)
  · obtain ⟨c, a, m, rfl, _⟩ := h
    rfl
  obtain ⟨c, a, m, rfl, cs, hm, hm2, q⟩ := h
  obtain ⟨ns, i, d, k, z, hc, ha, h0, hne⟩ := id cs
  refine ⟨_, (Evl.pss_cut (ps_if (pt_cmpR op_lt (pe_ix ix_list (pv 0) pe_int (fun _ _ => rfl)) (pv 1) (nomark _)) (pss_one (ps_asg (pe_cal C_law_fill hr rfl (pa_cons (pv 0) pa_nil)) (pg_sub (pv 0) pe_int set_list))) pss_nil)
      (pss_cons (ps_set (i := 2) sc_law_take.nd rfl (Or.inl rfl) (pe_op op_modN (pe_callTy call_int1 (by rfl) T.z_int (by decide +kernel) (pa_cons (pe_ix ix_list (pv 0) pe_int (fun _ _ => rfl)) pa_nil)) (pv 1)))
      (pss_cons (ps_asg (pe_op op_fdivN (pe_ix ix_list (pv 0) pe_int (fun _ _ => rfl)) (pv 1)) (pg_sub (pv 0) pe_int set_list))
      (pss_one (ps_ret (pv 2)))))), ?_⟩
  refine r_cut (fun σ H' => σ = [some (.ref c), some (.int m), none] ∧ Kp [c] H H' ∧ CS a H' c) ?_ ?_
  · walk_at "rd"
    refine r_ixL hc rfl ?_
    walk_at "rd"
    refine if_2 (fun c1 => ?_) (fun c1 => ?_)
    · walk_at "rd"
      refine ⟨c, a, rfl, cs, fun d' H1 k1 cs1 => ?_⟩
      obtain ⟨ns1, i1, d1, n1, z1, hc1, ha1, h01, hne1⟩ := id cs1
      walk_at "rd"
      refine r_set hc1 rfl ?_
      exact ⟨rfl, k1.at (by simp), ns1, i1, d', n1, z1, upd_same, by rw [upd_ne hne1]; exact ha1, h01, hne1⟩
    · walk_at "rd"
      exact ⟨rfl, Kp.refl _ _, cs⟩
  · rintro σ H1 ⟨rfl, k1, cs1⟩
    obtain ⟨ns1, i1, d1, n1, z1, hc1, ha1, h01, hne1⟩ := id cs1
    walk_at "rd"
    refine r_ixL hc1 rfl ?_
    walk_at "rd"
    refine .inl ⟨_, rfl, ?_⟩
    walk_at "rd"
    refine r_i (by omega) ?_
    walk_at "rd"
    refine r_ixL hc1 rfl ?_
    walk_at "rd"
    refine r_i ⟨by omega, by omega⟩ ?_
    walk_at "rd"
    refine r_set hc1 rfl ?_
    walk_at "rd"
    exact q _ _ (Int.fmod_nonneg_of_pos d1 hm) (Int.fmod_lt_of_pos d1 hm) (k1.at (by simp)) ⟨ns1, i1, _, n1, z1, upd_same, by rw [upd_ne hne1]; exact ha1, h01, hne1⟩
end
end K03
end

section
/-! the start, a drawn type, a drawn signature. -/
namespace K03
open PySem L2 PyProof.Rows PySem.Spec Lc
variable [Lc.Tbs]
local macro_rules | `(tactic| walk_at "rd") => `(tactic| repeat (first
  | with_reducible refine r_seq ?_ | with_reducible refine r_mknx ?_ | with_reducible refine r_mkrt ?_ | with_reducible refine r_asg ?_ | with_reducible refine r_name ?_ | with_reducible refine r_next ?_
  | with_reducible refine r_drop ?_ | with_reducible refine r_ret ?_ | with_reducible refine r_if ?_
  | ((with_reducible refine' r_var ?e ?_); (case e => rfl)) | with_reducible refine r_c ?_ | with_reducible refine r_op ?_ | with_reducible refine r_un ?_ | with_reducible refine r_test ?_ | with_reducible refine r_tb ?_
  | with_reducible refine r_and ?_ | with_reducible refine r_or ?_ | with_reducible refine r_not ?_ | with_reducible refine r_andV ?_ | with_reducible refine r_orV ?_ | with_reducible refine r_notV ?_ | with_reducible refine r_bl ?_
  | with_reducible refine r_cb ?_ | with_reducible refine r_cons ?_ | with_reducible refine r_nil ?_ | with_reducible refine r_tup ?_ | with_reducible refine r_lst ?_ | with_reducible refine r_call ?_
  | with_reducible refine r_i0 ?_ | with_reducible refine r_par ?_ | with_reducible refine r_two ?_ | with_reducible refine r_lc ?_ | with_reducible refine r_iL ?_ | with_reducible refine r_iT ?_ | with_reducible refine r_iS ?_ | with_reducible refine r_i1 ?_ | with_reducible refine r_yes ?_ | with_reducible refine r_chain ?_ | with_reducible refine if_t rfl ?_ | with_reducible refine if_f rfl ?_ | with_reducible refine r_nt ?_ | ((with_reducible refine r_eq ?e ?_); (case e => rfl)) | ((with_reducible refine r_ne ?e ?_); (case e => rfl))
  | with_reducible refine r_sub ?_ | with_reducible refine r_sl ?_ | with_reducible refine r_nopart ?_ | with_reducible refine r_part ?_ | with_reducible refine r_int ?_ | with_reducible refine r_bm ?_ | with_reducible refine r_bm0 ?_ | with_reducible refine r_gcons ?_ | with_reducible refine r_gnil ?_ | with_reducible refine r_dget1 ?_ | with_reducible refine r_dget2 ?_))


local macro_rules | `(tactic| walk_at "dt") => `(tactic| repeat' (first | (show Dt _ _ _; assumption) | exact dt_str | exact dt_int | exact dt_bl | exact dt_non | exact Dts.nil | refine' Dts.cons ?_ ?_ | (refine' Dt.mono ?kk ?_; (case kk => assumption)) | fail))
local macro_rules | `(tactic| walk_at "at") => `(tactic| repeat (first | assumption | (refine' Kp.ge ?kk ?nn ?_; (case kk => assumption); (case nn => intro _ z; cases z)) | fail))
local macro_rules | `(tactic| walk_at "kp") => `(tactic| repeat (first | assumption | exact Kp.refl _ _ | (refine' Kp.trans ?_ ?kk; (case kk => assumption)) | fail))
local macro_rules | `(tactic| walk_at "tup") => `(tactic| (refine' r_tupN ?h ?f ?k; (case h => walk_at "dt"); (case f => simp); skip))



def spStart (K : PySem.W.Frag) : Sp := fun vs H Q _ => ∃ (s : Addr) (ns : List Int), vs = [.ref s] ∧ SqL K H s (ns.map V.int) ∧ ns.length ≤ 63 ∧ ∀ c a H', Kp [] H H' → H c = none → CS a H' c → Q (.ref c) H'
def AB (x : Str) : Prop := x = "a" ∨ x = "b"
theorem AB.tx {x : Str} (h : AB x) : Tx x := by
  rcases h with rfl | rfl
  all_goals decide +kernel
theorem tys_of : ∀ {ds : List D}, (∀ d ∈ ds, ∃ t : Lc.Ty, d = t.d) → ∃ ts, ds = tyds ts
  | [], _ => ⟨[], rfl⟩
  | d :: ds, h => by
    obtain ⟨t, rfl⟩ := h d List.mem_cons_self
    obtain ⟨ts, rfl⟩ := tys_of (ds := ds) fun e he => h e (List.mem_cons_of_mem _ he)
    exact ⟨t :: ts, rfl⟩
structure KindOk (h : Nat) (d : D) : Prop where
  wd : Wd AB 3 d
  dp : d.dp ≤ 2 * h + 2
  sz : d.sz ≤ 4 ^ (h + 1)
  ty : ∃ t : Lc.Ty, d = t.d
theorem KindOk.up {h j : Nat} {d : D} (k : KindOk h d) (l : h ≤ j) : KindOk j d :=
  ⟨k.wd, Nat.le_trans k.dp (by omega), Nat.le_trans k.sz (Nat.pow_le_pow_right (by decide) (by omega)), k.ty⟩
theorem kind_ok {h : Nat} {ds : List D} {x : Str} (hx : AB x) (few : ds.length ≤ 3) (hh : h = 0 → ds = []) (all : ∀ d ∈ ds, KindOk (h - 1) d) : KindOk h (.tup [.tup ds, .str x]) := by
  have e1 : (D.tup [.tup ds, .str x]).dp = 1 + max (1 + dps ds) (max 1 0) := rfl
  have e2 : (D.tup [.tup ds, .str x]).sz = 1 + ((1 + szs ds) + (1 + 0)) := rfl
  have a1 : dps ds ≤ 2 * (h - 1) + 2 := dps_max fun d hd => (all d hd).dp
  have a2 : szs ds ≤ ds.length * 4 ^ (h - 1 + 1) := szs_max fun d hd => (all d hd).sz
  refine ⟨⟨by show 2 ≤ 3; decide, ⟨few, Wds.mem.mpr fun d hd => (all d hd).wd⟩, hx, trivial⟩, ?_, ?_, ?_⟩
  · by_cases z : h = 0
    · subst z
      rw [e1, hh rfl]
      decide
    · omega
  · by_cases z : h = 0
    · subst z
      rw [e2, hh rfl]
      decide
    · have e3 : h - 1 + 1 = h := by omega
      rw [e3] at a2
      have a3 : ds.length * 4 ^ h ≤ 3 * 4 ^ h := Nat.mul_le_mul_right _ few
      have a4 : 4 ^ (h + 1) = 4 ^ h * 4 := Nat.pow_succ ..
      have a5 : 4 ≤ 4 ^ h := by
        have := Nat.pow_le_pow_right (n := 4) (by decide) (show 1 ≤ h by omega)
        simpa using this
      omega
  · obtain ⟨ts, rfl⟩ := tys_of fun d hd => (all d hd).ty
    exact ⟨.mk ts x, by rw [Ty.d]⟩
def spKind (n : Nat) : Sp := fun vs H Q _ => ∃ (c a : Addr) (h : Nat), vs = [.ref c, .int h] ∧ h < n ∧ CS a H c ∧ ∀ v d H', Kp [c] H H' → CS a H' c → Dt H' d v → KindOk h d → Q v H'

abbrev s_law_start : Stmt := top 16
abbrev N_law_start : List Str := ["script", "cell"]
theorem sc_law_start : FnScope N_law_start ["script"] (defScope s_law_start) := ⟨rfl, rfl, rfl, by decide +kernel, rfl, by decide +kernel, by decide +kernel⟩
abbrev s_law_kind : Stmt := top 20
abbrev N_law_kind : List Str := ["c", "high", "sort", "many", "k"]
theorem sc_law_kind : FnScope N_law_kind ["c", "high"] (defScope s_law_kind) := ⟨rfl, rfl, rfl, by decide +kernel, rfl, by decide +kernel, by decide +kernel⟩
section
variable {P : Program} {w : World} {K : PySem.W.Frag} {mg : Str → Option Value} {base : Heap}
theorem ok_start (F : Df K mg "_law_start" s_law_start ["script"]) (T : Txt mg) : Cal P w K mg base "_law_start" ["script"] 1 (spStart K) := by
  refine F.ok sc_law_start (fun vs H Q E h => ?_) (fun f cdv A outer s H vs Q E hr h => ?_)
  · obtain ⟨c, ns, rfl, _⟩ := h
    rfl
  obtain ⟨sa, ns, rfl, hS, hl, q⟩ := h
  refine ⟨_, (pss_one (ps_ret (pe_lst (pa_cons (pe_lc (own := [("cell", 1)]) (g := gName 1) rfl sc_law_start.nd (pi_list (pe_slice sl_list (pv 0) po_none (po_some pe_int))) (blkOk_by (N := N_law_start) (sc := defScope s_law_start) (by decide +kernel)) (fun _ _ _ _ _ => (pg_name (i := 1) sc_law_start.nd rfl (Or.inl rfl))) (fun _ _ _ _ _ => pts_nil) (fun _ _ _ _ _ => (pe_callTy call_int1 (by rfl) T.z_int (by decide +kernel) (pa_cons (pv 1) pa_nil)))) (pa_cons pe_int (pa_cons pe_int (pa_cons pe_int (pa_cons pe_int pa_nil)))))))), ?_⟩
  walk_at "rd"
  refine ⟨sa, _, rfl, hS, fun p np => ?_⟩
  obtain ⟨ms, em, lm⟩ := cut_map (f := V.int) ns none (some 63)
  rw [em]
  have k1 : Kp [] H (upd H p (.lst (ms.map V.int))) := (Kp.refl _ _).up np
  refine ⟨p, rfl, ⟨_, SqL.of upd_same⟩, fun L nL => lc_it (walk_list (K := K) (a := p) (xs := ms.map V.int)) (fun i H' => Kp [] (upd H p (.lst (ms.map V.int))) H' ∧ H' L = some (.lst ((ms.take i).map V.int))) ⟨(Kp.refl _ _).up nL, upd_same⟩ (fun i H' _ k => SqL.of (k.1 p _ (fun z => nomatch z) upd_same)) ?_ ?_⟩
  · rintro i y H1 H2 hi ⟨k2, hL⟩ ⟨rfl, hy⟩
    rw [List.getElem?_map] at hy
    obtain ⟨n, hn, rfl⟩ := Option.map_eq_some_iff.mp hy
    walk_at "rd"
    refine ⟨rfl, ?_⟩
    walk_at "rd"
    refine .inl ⟨n, rfl, _, hL, ?_, k2.own nL, ?_⟩
    · rw [List.length_map]
      have := List.length_take_le i ms
      rw [List.length_map] at hi
      exact Nat.lt_of_le_of_lt (show _ ≤ 1000 by omega) (by decide)
    · rw [upd_same, take_one hn, List.map_append]
      rfl
  · rintro H1 ⟨k2, hL⟩
    walk_at "rd"
    refine r_lstN (by simp) fun c H2 k3 _ nc hc => ?_
    rw [List.length_map, List.take_length] at hL
    refine q c L H2 ((k1.trans k2).trans k3) ?_ ?_
    · exact (k1.trans k2).none nc
    · have hL2 := k3 L _ (fun z => nomatch z) hL
      exact ⟨ms, 0, 0, 0, 20, hc, hL2, Int.le_refl _, fun z => by rw [z, nc] at hL; cases hL⟩
theorem ok_kind0 {k n : Nat} (F : Df K mg "_law_kind" s_law_kind ["c", "high"]) (T : Txt mg) (hk : 2 ≤ k) (C_law_take : Cal P w K mg base "_law_take" ["c", "many"] 2 spTake) (C_law_kind : Cal P w K mg base "_law_kind" ["c", "high"] k (spKind n)) :
    Cal P w K mg base "_law_kind" ["c", "high"] (k + 1) (spKind (n + 1)) := by
  replace C_law_take := C_law_take.mono hk
  refine F.ok sc_law_kind (fun vs H Q E h => ?_) (fun f cdv A outer s H vs Q E hr h => ?_)
  · obtain ⟨c, a, h, rfl, _⟩ := h
    rfl
  obtain ⟨c, a, h, rfl, hn, cs, q⟩ := h
  refine ⟨_, (pss_cons (ps_set (i := 2) sc_law_kind.nd rfl (Or.inl rfl) (pe_ix ix_list (pe_lst (pa_cons pe_str (pa_cons pe_str (pa_cons pe_str pa_nil)))) (pe_cal C_law_take hr rfl (pa_cons (pv 0) (pa_cons pe_int pa_nil))) (fun _ _ => rfl)))
      (pss_cons (ps_if (pt_cmpR op_eq (pv 1) pe_int (nomark _)) (pss_one (ps_ret (pe_tup (pa_cons (pe_tup pa_nil) (pa_cons (pv 2) pa_nil))))) pss_nil)
      (pss_cons (ps_set (i := 3) sc_law_kind.nd rfl (Or.inl rfl) (pe_ix ix_list (pe_lst (pa_cons pe_int (pa_cons pe_int (pa_cons pe_int (pa_cons pe_int (pa_cons pe_int pa_nil)))))) (pe_cal C_law_take hr rfl (pa_cons (pv 0) (pa_cons pe_int pa_nil))) (fun _ _ => rfl)))
      (pss_one (ps_ret (pe_tup (pa_cons (pe_callTy call_tuple_of (by rfl) T.z_tuple (by decide +kernel) (pa_cons (pe_lc (own := [("k", 4)]) (g := gName 4) rfl sc_law_kind.nd (pi_range1 rfl T.z_range (pa_cons (pv 3) pa_nil)) (blkOk_by (N := N_law_kind) (sc := defScope s_law_kind) (by decide +kernel)) (fun _ _ _ _ _ => (pg_name (i := 4) sc_law_kind.nd rfl (Or.inl rfl))) (fun _ _ _ _ _ => pts_nil) (fun _ _ _ _ _ => (pe_cal C_law_kind hr rfl (pa_cons (pv 0) (pa_cons (pe_ix (r := rIxL K) ix_list (pe_lst (pa_cons (pe_op op_sub (pv 1) pe_int) (pa_cons pe_int pa_nil))) (pe_callTy call_int1 (by rfl) T.z_int (by decide +kernel) (pa_cons (pe_cmpR op_ne (pe_cal C_law_take hr rfl (pa_cons (pv 0) (pa_cons pe_int pa_nil))) pe_int (nomark _)) pa_nil)) (fun _ _ => rfl)) pa_nil))))) pa_nil)) (pa_cons (pv 2) pa_nil)))))))), ?_⟩
  walk_at "rd"
  refine r_lstN (by decide) fun l1 H1 k1 t1 n1 h1 => ?_
  walk_at "rd"
  refine ⟨c, a, 3, rfl, cs.keep k1, by decide, by decide, fun i H2 lo hi k2 cs2 => ?_⟩
  have ne1 : l1 ≠ c := (cs.ne n1).1
  obtain ⟨v, hv, mv, _⟩ := at_mem (xs := [.str "a", .str "a", .str "b"]) lo hi
  have kc2 : Kp [c] H H2 := (k1.of0).trans k2
  walk_at "rd"
  refine r_ixL (k2 l1 _ (by simpa using ne1) h1) hv ?_
  walk_at "rd"
  obtain ⟨x, rfl, ox⟩ : ∃ x, v = .str x ∧ AB x := by
    simp only [List.mem_cons, List.not_mem_nil, or_false] at mv
    rcases mv with rfl | rfl | rfl
    · exact ⟨_, rfl, .inl rfl⟩
    · exact ⟨_, rfl, .inl rfl⟩
    · exact ⟨_, rfl, .inr rfl⟩
  refine if_2 (fun c1 => ?_) (fun c1 => ?_)
  · have h0 : h = 0 := by
      have := V.int.inj (of_decide_eq_true c1)
      omega
    subst h0
    walk_at "rd"
    refine r_tupN Dts.nil (by decide) fun p1 H3 k3 t3 n3 e3 d3 => ?_
    walk_at "rd"
    refine r_tupN (ds := [.tup [], .str x]) (by walk_at "dt") (by simp) fun p2 H4 k4 t4 n4 e4 d4 => ?_
    walk_at "rd"
    exact q _ _ H4 (kc2.trans (k3.trans k4).of0) (cs2.keep (k3.trans k4)) d4 (kind_ok ox (by decide) (fun _ => rfl) (fun d hd => nomatch hd))
  have h0 : h ≠ 0 := fun z => by
    subst z
    exact absurd rfl (of_decide_eq_false c1)
  walk_at "rd"
  refine r_lstN (by decide) fun l2 H3 k3 t3 n3 e3 => ?_
  walk_at "rd"
  refine ⟨c, a, 5, rfl, cs2.keep k3, by decide, by decide, fun j H4 lo2 hi2 k4 cs4 => ?_⟩
  have ne2 : l2 ≠ c := (cs2.ne n3).1
  obtain ⟨v2, hv2, mv2, _⟩ := at_mem (xs := [.int 0, .int 1, .int 1, .int 2, .int 3]) lo2 hi2
  have kc4 : Kp [c] H H4 := (kc2.trans k3.of0).trans k4
  walk_at "rd"
  refine r_ixL (k4 l2 _ (by simpa using ne2) e3) hv2 ?_
  walk_at "rd"
  obtain ⟨m, rfl, om⟩ : ∃ m : Nat, v2 = .int m ∧ m ≤ 3 := by
    simp only [List.mem_cons, List.not_mem_nil, or_false] at mv2
    rcases mv2 with rfl | rfl | rfl | rfl | rfl
    · exact ⟨0, rfl, by decide⟩
    · exact ⟨1, rfl, by decide⟩
    · exact ⟨1, rfl, by decide⟩
    · exact ⟨2, rfl, by decide⟩
    · exact ⟨3, rfl, by decide⟩
  refine ⟨_, rfl, by omega, by omega, fun L nL => lc_it walk_range (fun i H' => ∃ ys ds, H' L = some (.lst ys) ∧ Dts H' ds ys ∧ ds.length = i ∧ Kp [c] H4 H' ∧ CS a H' c ∧ ∀ d ∈ ds, KindOk (h - 1) d)
    ⟨[], [], upd_same, rfl, rfl, (Kp.refl _ _).up nL, cs4.keep ((Kp.refl _ _).up nL), fun d hd => nomatch hd⟩ (fun _ _ _ _ => trivial) ?_ ?_⟩
  · rintro i y H0 H5 hi5 ⟨ys, ds, eL, hds, ldn, k5, cs5, all⟩ ⟨rfl, rfl⟩
    have neL : L ≠ c := (cs4.ne nL).1
    walk_at "rd"
    refine ⟨rfl, ?_⟩
    walk_at "rd"
    refine r_lstN (by simp) fun l3 H6 k6 t6 n6 e6 => ?_
    walk_at "rd"
    refine ⟨c, a, 3, rfl, cs5.keep k6, by decide, by decide, fun g H7 lo3 hi3 k7 cs7 => ?_⟩
    have ne3 : l3 ≠ c := (cs5.ne n6).1
    walk_at "rd"
    refine .inr ⟨_, rfl, ?_⟩
    obtain ⟨g2, hg2, lg2⟩ : ∃ g2 : Nat, atI [V.int ((h : Int) - 1), .int 0] (if (!decide (V.int g = V.int 0)) = true then 1 else 0) = some (.int (g2 : Nat)) ∧ g2 ≤ h - 1 := by
      cases (!decide (V.int g = V.int 0)) with
      | true => exact ⟨0, rfl, Nat.zero_le _⟩
      | false => exact ⟨h - 1, by show some (V.int ((h : Int) - 1)) = _; rw [show ((h : Int) - 1) = ((h - 1 : Nat) : Int) by omega], Nat.le_refl _⟩
    refine r_ixL (k7 l3 _ (by simpa using ne3) e6) hg2 ?_
    walk_at "rd"
    refine ⟨c, a, g2, rfl, by omega, cs7, fun v8 d8 H8 k8 cs8 hd8 ok8 => ?_⟩
    have kk : Kp [c] H5 H8 := (k6.of0.trans k7).trans k8
    have eL8 : H8 L = some (.lst ys) := kk L _ (by simpa using neL) eL
    have tt : KeepT H5 H8 := cs5.t kk
    refine ⟨ys, eL8, ?_, ys ++ [v8], ds ++ [d8], upd_same, ?_, ?_, ?_, ?_, ?_⟩
    · have := hds.len
      exact Nat.lt_of_le_of_lt (show _ ≤ 1000 by omega) (by decide)
    · exact Dts.mono (fun p xs z => by rw [upd_ne (ne_of z eL8 (fun q => by cases q))]; exact z) ((hds.mono tt).snoc hd8)
    · rw [List.length_append, ldn]
      rfl
    · exact (k5.trans kk).own nL
    · exact cs8.own (cs4.ne nL)
    · intro d hd
      rcases List.mem_append.mp hd with hd | hd
      · exact all d hd
      · rw [List.mem_singleton.mp hd]
        exact ok8.up lg2
  · rintro H5 ⟨ys, ds, eL, hds, ldn, k5, cs5, all⟩
    walk_at "rd"
    refine ⟨L, ys, rfl, .inl ⟨SqL.of eL, fun l nl => ?_⟩⟩
    obtain ⟨k6, t6, d6⟩ := new_tup nl hds
    walk_at "rd"
    refine r_tupN (ds := [.tup ds, .str x]) (by walk_at "dt") (by simp) fun p2 H7 k7 t7 n7 e7 d7 => ?_
    walk_at "rd"
    have few : ds.length ≤ 3 := by
      rw [ldn]
      omega
    exact q _ _ H7 ((kc4.trans k5).trans (k6.trans k7).of0) (cs5.keep (k6.trans k7)) d7 (kind_ok ox few (fun z => absurd z h0) all)
end
end K03
end

section
/-! The law's own is_int, needed, is_term. -/
namespace K03
open PySem L2 PyProof.Rows PySem.Spec Lc
variable [Lc.Tbs]
local macro_rules | `(tactic| walk_at "rd") => `(tactic| repeat (first
  | with_reducible refine r_seq ?_ | with_reducible refine r_mknx ?_ | with_reducible refine r_mkrt ?_ | with_reducible refine r_asg ?_ | with_reducible refine r_name ?_ | with_reducible refine r_next ?_
  | with_reducible refine r_drop ?_ | with_reducible refine r_ret ?_ | with_reducible refine r_if ?_
  | ((with_reducible refine' r_var ?e ?_); (case e => rfl)) | with_reducible refine r_c ?_ | with_reducible refine r_op ?_ | with_reducible refine r_un ?_ | with_reducible refine r_test ?_ | with_reducible refine r_tb ?_
  | with_reducible refine r_and ?_ | with_reducible refine r_or ?_ | with_reducible refine r_not ?_ | with_reducible refine r_andV ?_ | with_reducible refine r_orV ?_ | with_reducible refine r_notV ?_ | with_reducible refine r_bl ?_
  | with_reducible refine r_cb ?_ | with_reducible refine r_cons ?_ | with_reducible refine r_nil ?_ | with_reducible refine r_tup ?_ | with_reducible refine r_lst ?_ | with_reducible refine r_call ?_
  | with_reducible refine r_i0 ?_ | with_reducible refine r_par ?_ | with_reducible refine r_two ?_ | with_reducible refine r_lc ?_ | with_reducible refine r_iL ?_ | with_reducible refine r_iT ?_ | with_reducible refine r_iS ?_ | with_reducible refine r_i1 ?_ | with_reducible refine r_yes ?_ | with_reducible refine r_chain ?_ | with_reducible refine if_t rfl ?_ | with_reducible refine if_f rfl ?_ | with_reducible refine r_nt ?_ | ((with_reducible refine r_eq ?e ?_); (case e => rfl)) | ((with_reducible refine r_ne ?e ?_); (case e => rfl))
  | with_reducible refine r_sub ?_ | with_reducible refine r_sl ?_ | with_reducible refine r_nopart ?_ | with_reducible refine r_part ?_ | with_reducible refine r_int ?_ | with_reducible refine r_bm ?_ | with_reducible refine r_bm0 ?_ | with_reducible refine r_gcons ?_ | with_reducible refine r_gnil ?_ | with_reducible refine r_dget1 ?_ | with_reducible refine r_dget2 ?_))


local macro_rules | `(tactic| walk_at "dt") => `(tactic| repeat' (first | (show Dt _ _ _; assumption) | exact dt_str | exact dt_int | exact dt_bl | exact dt_non | exact Dts.nil | refine' Dts.cons ?_ ?_ | (refine' Dt.mono ?kk ?_; (case kk => assumption)) | fail))
local macro_rules | `(tactic| walk_at "at") => `(tactic| repeat (first | assumption | (refine' Kp.ge ?kk ?nn ?_; (case kk => assumption); (case nn => intro _ z; cases z)) | fail))
local macro_rules | `(tactic| walk_at "kp") => `(tactic| repeat (first | assumption | exact Kp.refl _ _ | (refine' Kp.trans ?_ ?kk; (case kk => assumption)) | fail))
local macro_rules | `(tactic| walk_at "tup") => `(tactic| (refine' r_tupN ?h ?f ?k; (case h => walk_at "dt"); (case f => simp); skip))
def intD : D → Bool
  | .int _ => true
  | _ => false
def spIsInt : Sp := fun vs H Q _ => ∃ v d, vs = [v] ∧ Dt H d v ∧ ∀ H', Kp [] H H' → Q (.bl (intD d)) H'
def spNeeded : Sp := fun vs H Q _ => ∃ sv hv ov v sg hs own d W W2, vs = [sv, hv, ov, v] ∧ SgV H sg sv ∧ SgOk W sg ∧ sg.length ≤ 1000 ∧ Dt H (.tup (tyds hs)) hv ∧ Dt H (.tup (tyds own)) ov ∧ Dt H d v ∧ Wd Tx W2 d ∧
  ∀ r H', Kp [] H H' → (match hdB sg hs own d with | none => r = .non | some t => Dt H' t.d r) → Q r H'
def spIsTermL (n : Nat) : Sp := fun vs H Q _ => ∃ sv hv pv kv v sg hs own k d W, vs = [sv, hv, pv, kv, v] ∧ SgV H sg sv ∧ SgOk W sg ∧ sg.length ≤ 1000 ∧ Dt H (.tup (tyds hs)) hv ∧ TysOk W hs ∧ Dt H (.tup (tyds own)) pv ∧ TysOk W own ∧
  Dt H k.d kv ∧ k.Ok W ∧ Dt H d v ∧ Wd Tx 1000000 d ∧ d.sz ≤ 1000000 ∧ W ≤ 1000 ∧ own.length + W * d.dp ≤ 9000 ∧ d.dp < n ∧ ∀ H', Kp [] H H' → Q (.bl (tmB sg hs own k d)) H'
abbrev s_law_is_int : Stmt := top 23
abbrev N_law_is_int : List Str := ["value"]
theorem sc_law_is_int : FnScope N_law_is_int ["value"] (defScope s_law_is_int) := ⟨rfl, rfl, rfl, by decide +kernel, rfl, by decide +kernel, by decide +kernel⟩
abbrev s_law_needed : Stmt := top 24
abbrev N_law_needed : List Str := ["signature", "holes", "own", "head"]
theorem sc_law_needed : FnScope N_law_needed ["signature", "holes", "own", "head"] (defScope s_law_needed) := ⟨rfl, rfl, rfl, by decide +kernel, rfl, by decide +kernel, by decide +kernel⟩
abbrev s_law_is_term : Stmt := top 25
abbrev N_law_is_term : List Str := ["signature", "holes", "prefix", "kind", "value", "own", "needed", "j"]
theorem sc_law_is_term : FnScope N_law_is_term ["signature", "holes", "prefix", "kind", "value"] (defScope s_law_is_term) := ⟨rfl, rfl, rfl, by decide +kernel, rfl, by decide +kernel, by decide +kernel⟩
section
variable {P : Program} {w : World} {K : PySem.W.Frag} {mg : Str → Option Value} {base : Heap}
theorem ok_law_is_int (F : Df K mg "_law_is_int" s_law_is_int ["value"]) (T : Txt mg) : Cal P w K mg base "_law_is_int" ["value"] 1 spIsInt := by
  refine F.ok sc_law_is_int (fun vs H Q E h => ?_) (fun f cdv A outer s H vs Q E hr h => ?_)
  · obtain ⟨v, d, rfl, _⟩ := h
    rfl
  obtain ⟨v, d, rfl, hd, q⟩ := h
  refine ⟨_, (pss_one (ps_ret (pe_and (pe_callB call_isi (by rfl) T.z_isinstance (by decide +kernel) (pa_cons (pv 0) (pa_cons (pe_bty (T := "int") (by rfl) T.z_int (by decide +kernel)) pa_nil))) (pe_one (pe_not (pe_callB call_isi (by rfl) T.z_isinstance (by decide +kernel) (pa_cons (pv 0) (pa_cons (pe_bty (T := "bool") (by rfl) T.z_bool (by decide +kernel)) pa_nil)))))))), ?_⟩
  walk_at "rd"
  refine r_isI hd ?_
  walk_at "rd"
  refine if_2 (fun c => ?_) (fun c => ?_)
  · walk_at "rd"
    refine r_isB hd ?_
    walk_at "rd"
    have e : intD d = !d.isB := by cases d <;> first | rfl | cases c
    exact e ▸ q H (Kp.refl _ _)
  · walk_at "rd"
    have e : intD d = false := by cases d <;> first | rfl | cases c
    exact e ▸ q H (Kp.refl _ _)
theorem ok_needed (F : Df K mg "_law_needed" s_law_needed ["signature", "holes", "own", "head"]) (T : Txt mg) (C_law_is_int : Cal P w K mg base "_law_is_int" ["value"] 1 spIsInt) :
    Cal P w K mg base "_law_needed" ["signature", "holes", "own", "head"] 2 spNeeded := by
  refine F.ok sc_law_needed (fun vs H Q E h => ?_) (fun f cdv A outer s H vs Q E hr h => ?_)
  · obtain ⟨sv, hv, ov, v, sg, hs, own, d, W, W2, rfl, _⟩ := h
    rfl
  obtain ⟨sv, hv, ov, v, sg, hs, own, d, W, W2, rfl, hsg, osg, fsg, hh, ho, hd, hw, q⟩ := h
  refine ⟨_, (pss_cons (ps_if (PW.pt (pw_or (pt_not (pt_val (pe_callB call_isi (by rfl) T.z_isinstance (by decide +kernel) (pa_cons (pv 3) (pa_cons (pe_bty (T := "tuple") (by rfl) T.z_tuple (by decide +kernel)) pa_nil))))) (pw_or1 (pt_cmpR op_ne (pe_callB call_len_seq (by rfl) T.z_len (by decide +kernel) (pa_cons (pv 3) pa_nil)) pe_int (nomark _))))) (pss_one (ps_ret pe_non)) pss_nil)
      (pss_cons (ps_if (PW.pt (pw_and (pt_cmpR (op_eqA (n := 150) (u150 hr)) (pe_ix ix_tup (pv 3) pe_int (fun _ _ => rfl)) pe_str (nomark _)) (pw_and1 (pt_val (pe_callB call_isi (by rfl) T.z_isinstance (by decide +kernel) (pa_cons (pe_ix ix_tup (pv 3) pe_int (fun _ _ => rfl)) (pa_cons (pe_bty (T := "str") (by rfl) T.z_str (by decide +kernel)) pa_nil))))))) (pss_one (ps_ret (pe_dget2 (u1 hr) (pe_callTy (call_dictTup rfl) (by rfl) T.z_dict (by decide +kernel) (pa_cons (pv 0) pa_nil)) (pe_ix ix_tup (pv 3) pe_int (fun _ _ => rfl)) pe_non ⟨rfl, rfl, rfl, rfl⟩))) pss_nil)
      (Evl.pss_cut (ps_if (PW.pt (pw_and (pt_cmpR (op_eqA (n := 150) (u150 hr)) (pe_ix ix_tup (pv 3) pe_int (fun _ _ => rfl)) pe_str (nomark _)) (pw_and (pt_val (pe_cal C_law_is_int hr rfl (pa_cons (pe_ix ix_tup (pv 3) pe_int (fun _ _ => rfl)) pa_nil))) (pw_and (pt_cmpR op_ge (pe_ix ix_tup (pv 3) pe_int (fun _ _ => rfl)) pe_int (nomark _)) (pw_and1 (pt_cmpR op_lt (pe_ix ix_tup (pv 3) pe_int (fun _ _ => rfl)) (pe_callB call_len_seq (by rfl) T.z_len (by decide +kernel) (pa_cons (pv 2) pa_nil)) (nomark _))))))) (pss_one (ps_ret (pe_ix ix_tup (pv 2) (pe_op op_sub (pe_op op_sub (pe_callB call_len_seq (by rfl) T.z_len (by decide +kernel) (pa_cons (pv 2) pa_nil)) pe_int) (pe_ix ix_tup (pv 3) pe_int (fun _ _ => rfl))) (fun _ _ => rfl)))) pss_nil)
      (Evl.pss_cut (ps_if (PW.pt (pw_and (pt_cmpR (op_eqA (n := 150) (u150 hr)) (pe_ix ix_tup (pv 3) pe_int (fun _ _ => rfl)) pe_str (nomark _)) (pw_and (pt_val (pe_cal C_law_is_int hr rfl (pa_cons (pe_ix ix_tup (pv 3) pe_int (fun _ _ => rfl)) pa_nil))) (pw_and (pt_cmpR op_ge (pe_ix ix_tup (pv 3) pe_int (fun _ _ => rfl)) pe_int (nomark _)) (pw_and1 (pt_cmpR op_lt (pe_ix ix_tup (pv 3) pe_int (fun _ _ => rfl)) (pe_callB call_len_seq (by rfl) T.z_len (by decide +kernel) (pa_cons (pv 1) pa_nil)) (nomark _))))))) (pss_one (ps_ret (pe_ix ix_tup (pv 1) (pe_ix ix_tup (pv 3) pe_int (fun _ _ => rfl)) (fun _ _ => rfl)))) pss_nil)
      (pss_one (ps_ret pe_non)))))), ?_⟩
  walk_at "rd"
  refine r_isT hd ?_
  walk_at "rd"
  have none_of : (∀ s m, d ≠ .tup [s, m]) → hdB sg hs own d = none := fun n => by
    unfold hdB
    split
    · exact absurd rfl (n _ _)
    · rfl
  refine if_2 (fun c => ?_) (fun c => ?_)
  · walk_at "rd"
    have e := none_of fun s m z => by
      subst z
      cases c
    exact q _ H (Kp.refl _ _) (by rw [e])
  obtain ⟨ds, rfl⟩ := D.tup_of (by simpa using c)
  obtain ⟨a, xs, rfl, ha, hsm⟩ := hd.tup
  walk_at "rd"
  refine ⟨a, xs, rfl, .inr (SqT.of ha), ?_⟩
  walk_at "rd"
  refine if_2 (fun cc2 => ?_) (fun cc2 => ?_)
  · walk_at "rd"
    have e := none_of fun s m z => by
      cases z
      rw [hsm.len] at cc2
      cases cc2
    exact q _ H (Kp.refl _ _) (by rw [e])
  obtain ⟨s, m, rfl⟩ : ∃ x y, ds = [x, y] := by
    have c' : V.int (xs.length : Nat) = V.int 2 := by simpa using cc2
    have c3 := V.int.inj c'
    rw [hsm.len] at c3
    match ds, c3 with
    | [x, y], _ => exact ⟨x, y, rfl⟩
    | [], l => simp at l
    | [_], l => simp at l
    | _ :: _ :: _ :: _, l => simp at l; omega
  replace q : ∀ r H', Kp [] H H' → (match hkB sg hs own s m with | none => r = .non | some t => Dt H' t.d r) → Q r H' := q
  obtain ⟨vs, r1, rfl, hvs, vm, r2, rfl, hm, rfl⟩ := hsm
  obtain ⟨ah, hx, rfl, hah, hhs⟩ := hh.tup
  obtain ⟨ao, ox, rfl, hao, hos⟩ := ho.tup
  have lh : hx.length = hs.length := by rw [hhs.len, tyds_len]
  have lo : ox.length = own.length := by rw [hos.len, tyds_len]
  have ws : Wd Tx W2 s := hw.2.1
  walk_at "rd"
  refine r_ixT ha rfl ?_
  walk_at "rd"
  refine ⟨s, .str "c", W2, hvs, rfl, ws, (by decide +kernel : Tx "c"), Nat.le_trans (Nat.min_le_right _ _) (by decide), ?_⟩
  walk_at "rd"
  refine if_and2 (c := m.isS) (fun c1 z => ?_) (fun c1 c2 => ?_) (fun c1 => ?_)
  · walk_at "rd"
    refine r_ixT ha rfl ?_
    walk_at "rd"
    refine r_isS hm ?_
    walk_at "rd"
    exact z
  · obtain ⟨x, rfl⟩ := D.str_of c2
    cases hm.str
    walk_at "rd"
    refine r_dict hsg osg fsg fun pc H1 k1 t1 n1 hc1 => ?_
    obtain ⟨kvs, hkv, hget⟩ := hc1
    refine ⟨pc, rfl, .inl ⟨kvs, Rd.of hkv⟩, ?_⟩
    walk_at "rd"
    refine r_ixT (k1.get ha) rfl ?_
    walk_at "rd"
    refine ⟨valV kvs (.inr x), DGet.k (k := .inr x) hkv, q _ H1 k1 ?_⟩
    have e : hkB sg hs own s (.str x) = sgGet sg x := by
      unfold hkB
      rw [c1]
      rfl
    rw [e]
    have g := hget x
    cases z : sgGet sg x with
    | none => rw [z] at g; rw [g]; rfl
    | some t =>
      rw [z] at g
      obtain ⟨v, g1, g2⟩ := g
      rw [g1]
      exact g2
  have e1 : hkB sg hs own s m = hkM hs own s m := by
    unfold hkB
    rw [if_neg (by rw [c1]; decide)]
  walk_at "rd"
  refine r_cut (fun σ H' => σ = [some sv, some (.ref ah), some (.ref ao), some (.ref a)] ∧ Kp [] H H' ∧ ¬ (∃ i, m = .int i ∧ 0 ≤ i ∧ (eqD s (.str "b") && decide (i < own.length)) = true)) ?_ ?_
  · walk_at "rd"
    refine r_ixT ha rfl ?_
    walk_at "rd"
    refine ⟨s, .str "b", W2, hvs, rfl, ws, (by decide +kernel : Tx "b"), Nat.le_trans (Nat.min_le_right _ _) (by decide), ?_⟩
    walk_at "rd"
    refine if_2 (fun c2 => ?_) (fun c2 => ?_)
    · walk_at "rd"
      refine r_ixT ha rfl ?_
      walk_at "rd"
      refine ⟨vm, m, rfl, hm, fun H1 k1 => ?_⟩
      walk_at "rd"
      have ha1 := k1.get ha
      refine if_2 (fun c3 => ?_) (fun c3 => ?_)
      · obtain ⟨i, rfl⟩ : ∃ i, m = .int i := by cases m <;> first | exact ⟨_, rfl⟩ | cases c3
        cases hm.int
        walk_at "rd"
        refine r_ixT ha1 rfl ?_
        walk_at "rd"
        refine if_2 (fun c4 => ?_) (fun c4 => ?_)
        · have i0 := of_decide_eq_true c4
          walk_at "rd"
          refine r_ixT ha1 rfl ?_
          walk_at "rd"
          refine ⟨ao, ox, rfl, .inr (SqT.of (k1.get hao)), ?_⟩
          walk_at "rd"
          rw [lo]
          refine if_2 (fun c5 => ?_) (fun c5 => ?_)
          · have il := of_decide_eq_true c5
            walk_at "rd"
            refine ⟨ao, ox, rfl, .inr (SqT.of (k1.get hao)), ?_⟩
            walk_at "rd"
            refine r_ixT ha1 rfl ?_
            walk_at "rd"
            have e2 : hkB sg hs own s (.int i) = own[own.length - 1 - i.toNat]? := by
              rw [e1, hkM_int, if_neg (by omega)]
              unfold hkI
              rw [c2, c5]
              rfl
            have lt : own.length - 1 - i.toNat < own.length := by omega
            rw [List.getElem?_eq_getElem lt] at e2
            obtain ⟨x, hx, hd⟩ := (hos.mono k1.t0).of (tyds_at (List.getElem?_eq_getElem lt))
            have z := atI_nat hx
            have iz : ((own.length - 1 - i.toNat : Nat) : Int) = (ox.length : Int) - 1 - i := by omega
            rw [iz] at z
            refine r_ixT (k1.get hao) z (q _ H1 k1 ?_)
            rw [e2]
            exact hd
          · walk_at "rd"
            refine ⟨rfl, k1, ?_⟩
            rintro ⟨j, ej, _, z⟩
            cases ej
            rw [c5, Bool.and_false] at z
            cases z
        · have i0 := of_decide_eq_false c4
          walk_at "rd"
          refine ⟨rfl, k1, ?_⟩
          rintro ⟨j, ej, z, _⟩
          cases ej
          exact i0 z
      · walk_at "rd"
        refine ⟨rfl, k1, ?_⟩
        rintro ⟨j, ej, _⟩
        subst ej
        cases c3
    · walk_at "rd"
      refine ⟨rfl, Kp.refl _ _, ?_⟩
      rintro ⟨j, ej, _, z⟩
      rw [c2, Bool.false_and] at z
      cases z
  rintro _ H1 ⟨rfl, k1, nb⟩
  have ha1 := k1.get ha
  refine r_cut (fun σ H' => Kp [] H H' ∧ ¬ (∃ i, m = .int i ∧ 0 ≤ i ∧ (eqD s (.str "h") && decide (i < hs.length)) = true)) ?_ ?_
  · walk_at "rd"
    refine r_ixT ha1 rfl ?_
    walk_at "rd"
    refine ⟨s, .str "h", W2, hvs.mono k1.t0, rfl, ws, (by decide +kernel : Tx "h"), Nat.le_trans (Nat.min_le_right _ _) (by decide), ?_⟩
    walk_at "rd"
    refine if_2 (fun c2 => ?_) (fun c2 => ?_)
    · walk_at "rd"
      refine r_ixT ha1 rfl ?_
      walk_at "rd"
      refine ⟨vm, m, rfl, hm.mono k1.t0, fun H2 k2 => ?_⟩
      walk_at "rd"
      have k02 := k1.trans k2
      have ha2 := k02.get ha
      refine if_2 (fun c3 => ?_) (fun c3 => ?_)
      · obtain ⟨i, rfl⟩ : ∃ i, m = .int i := by cases m <;> first | exact ⟨_, rfl⟩ | cases c3
        cases hm.int
        walk_at "rd"
        refine r_ixT ha2 rfl ?_
        walk_at "rd"
        refine if_2 (fun c4 => ?_) (fun c4 => ?_)
        · have i0 := of_decide_eq_true c4
          walk_at "rd"
          refine r_ixT ha2 rfl ?_
          walk_at "rd"
          refine ⟨ah, hx, rfl, .inr (SqT.of (k02.get hah)), ?_⟩
          walk_at "rd"
          rw [lh]
          refine if_2 (fun c5 => ?_) (fun c5 => ?_)
          · have il := of_decide_eq_true c5
            walk_at "rd"
            refine r_ixT ha2 rfl ?_
            walk_at "rd"
            have nb2 : ¬ (eqD s (.str "b") && decide (i < own.length)) = true := fun z => nb ⟨i, rfl, i0, z⟩
            have e2 : hkB sg hs own s (.int i) = hs[i.toNat]? := by
              rw [e1, hkM_int, if_neg (by omega)]
              unfold hkI
              rw [if_neg nb2, c2, c5]
              rfl
            have lt : i.toNat < hs.length := by omega
            rw [List.getElem?_eq_getElem lt] at e2
            obtain ⟨x, hx, hd⟩ := (hhs.mono k02.t0).ix i0 (tyds_at (List.getElem?_eq_getElem lt))
            refine r_ixT (k02.get hah) hx (q _ H2 k02 ?_)
            rw [e2]
            exact hd
          · walk_at "rd"
            refine ⟨k02, ?_⟩
            rintro ⟨j, ej, _, z⟩
            cases ej
            rw [c5, Bool.and_false] at z
            cases z
        · have i0 := of_decide_eq_false c4
          walk_at "rd"
          refine ⟨k02, ?_⟩
          rintro ⟨j, ej, z, _⟩
          cases ej
          exact i0 z
      · walk_at "rd"
        refine ⟨k02, ?_⟩
        rintro ⟨j, ej, _⟩
        subst ej
        cases c3
    · walk_at "rd"
      refine ⟨k1, ?_⟩
      rintro ⟨j, ej, _, z⟩
      rw [c2, Bool.false_and] at z
      cases z
  rintro _ H2 ⟨k2, nh⟩
  walk_at "rd"
  refine q _ H2 k2 ?_
  have e : hkB sg hs own s m = none := by
    rw [e1]
    unfold hkM
    split
    · next i =>
      split
      · rfl
      · next i0 =>
        unfold hkI
        rw [if_neg (fun z => nb ⟨i, rfl, by omega, z⟩), if_neg (fun z => nh ⟨i, rfl, by omega, z⟩)]
    · rfl
  rw [e]
theorem ok_law_is_term0 {k n : Nat} (F : Df K mg "_law_is_term" s_law_is_term ["signature", "holes", "prefix", "kind", "value"]) (T : Txt mg) (hk : 2 ≤ k) (C_law_is_int : Cal P w K mg base "_law_is_int" ["value"] 1 spIsInt)
    (C_law_needed : Cal P w K mg base "_law_needed" ["signature", "holes", "own", "head"] 2 spNeeded) (C_law_is_term : Cal P w K mg base "_law_is_term" ["signature", "holes", "prefix", "kind", "value"] k (spIsTermL n)) :
    Cal P w K mg base "_law_is_term" ["signature", "holes", "prefix", "kind", "value"] (k + 1) (spIsTermL (n + 1)) := by
  replace C_law_is_int := C_law_is_int.mono (show 1 ≤ k by omega)
  replace C_law_needed := C_law_needed.mono hk
  refine F.ok sc_law_is_term (fun vs H Q E h => ?_) (fun f cdv A outer s H vs Q E hr h => ?_)
  · obtain ⟨sv, hv, pv, kv, v, sg, hs, own, k, d, W, rfl, _⟩ := h
    rfl
  obtain ⟨sv, hv, xv, kv, v, sg, hs, own, kd, d, W, rfl, hsg, osg, fsg, hh, oh, hp, op, hkd, okk, hd, wd, zd, hW, far, dn, q⟩ := h
  obtain ⟨as, srt⟩ := kd
  refine ⟨_, (pss_cons (ps_if (PW.pt (pw_or (pt_not (pt_val (pe_callB call_isi (by rfl) T.z_isinstance (by decide +kernel) (pa_cons (pv 4) (pa_cons (pe_bty (T := "tuple") (by rfl) T.z_tuple (by decide +kernel)) pa_nil))))) (pw_or (pt_cmpR op_ne (pe_callB call_len_seq (by rfl) T.z_len (by decide +kernel) (pa_cons (pv 4) pa_nil)) pe_int (nomark _)) (pw_or (pt_not (pt_val (pe_cal C_law_is_int hr rfl (pa_cons (pe_ix ix_tup (pv 4) pe_int (fun _ _ => rfl)) pa_nil)))) (pw_or1 (pt_cmpR op_ne (pe_ix ix_tup (pv 4) pe_int (fun _ _ => rfl)) (pe_callB call_len_seq (by rfl) T.z_len (by decide +kernel) (pa_cons (pe_ix ix_tup (pv 3) pe_int (fun _ _ => rfl)) pa_nil)) (nomark _))))))) (pss_one (ps_ret pe_bl)) pss_nil)
      (pss_cons (ps_set (i := 5) sc_law_is_term.nd rfl (Or.inr rfl) (pe_op op_catA (pv 2) (pe_ix ix_tup (pv 3) pe_int (fun _ _ => rfl))))
      (pss_cons (ps_set (i := 6) sc_law_is_term.nd rfl (Or.inr rfl) (pe_cal C_law_needed hr rfl (pa_cons (pv 0) (pa_cons (pv 1) (pa_cons (pv 5) (pa_cons (pe_ix ix_tup (pv 4) pe_int (fun _ _ => rfl)) pa_nil))))))
      (pss_cons (ps_if (PW.pt (pw_or (pt_cmpR op_isN (pv 6) pe_non (nomark _)) (pw_or (pt_cmpR op_ne (pe_ix ix_tup (pv 6) pe_int (fun _ _ => rfl)) (pe_ix ix_tup (pv 3) pe_int (fun _ _ => rfl)) (nomark _)) (pw_or (pt_not (pt_val (pe_callB call_isi (by rfl) T.z_isinstance (by decide +kernel) (pa_cons (pe_ix ix_tup (pv 4) pe_int (fun _ _ => rfl)) (pa_cons (pe_bty (T := "tuple") (by rfl) T.z_tuple (by decide +kernel)) pa_nil))))) (pw_or1 (pt_cmpR op_ne (pe_callB call_len_seq (by rfl) T.z_len (by decide +kernel) (pa_cons (pe_ix ix_tup (pv 4) pe_int (fun _ _ => rfl)) pa_nil)) (pe_callB call_len_seq (by rfl) T.z_len (by decide +kernel) (pa_cons (pe_ix ix_tup (pv 6) pe_int (fun _ _ => rfl)) pa_nil)) (nomark _))))))) (pss_one (ps_ret pe_bl)) pss_nil)
      (pss_one (ps_ret (pe_callB (cr_all rfl) (by rfl) T.z_all (by decide +kernel) (pa_cons (pe_lc (own := [("j", 7)]) (g := gName 7) rfl sc_law_is_term.nd (pi_range1 rfl T.z_range (pa_cons (pe_callB call_len_seq (by rfl) T.z_len (by decide +kernel) (pa_cons (pe_ix ix_tup (pv 6) pe_int (fun _ _ => rfl)) pa_nil)) pa_nil)) (blkOk_by (N := N_law_is_term) (sc := defScope s_law_is_term) (by decide +kernel)) (fun _ _ _ _ _ => (pg_name (i := 7) sc_law_is_term.nd rfl (Or.inl rfl))) (fun _ _ _ _ _ => pts_nil) (fun _ _ _ _ _ => (pe_cal C_law_is_term hr rfl (pa_cons (pv 0) (pa_cons (pv 1) (pa_cons (pv 5) (pa_cons (pe_ix (r := rIxT K) ix_tup (pe_ix (r := rIxT K) ix_tup (pv 6) pe_int (fun _ _ => rfl)) (pv 7) (fun _ _ => rfl)) (pa_cons (pe_ix (r := rIxT K) ix_tup (pe_ix (r := rIxT K) ix_tup (pv 4) pe_int (fun _ _ => rfl)) (pv 7) (fun _ _ => rfl)) pa_nil)))))))) pa_nil)))))))), ?_⟩
  walk_at "rd"
  refine r_isT hd ?_
  walk_at "rd"
  have no : formB as.length d = false → tmB sg hs own (.mk as srt) d = false := fun z => tmB_form (k := .mk as srt) z
  refine if_2 (fun c => ?_) (fun c => ?_)
  · walk_at "rd"
    have e := no (by cases d <;> first | rfl | cases c)
    exact e ▸ q H (Kp.refl _ _)
  obtain ⟨ds, rfl⟩ := D.tup_of (by simpa using c)
  obtain ⟨a, xs, rfl, ha, hds⟩ := hd.tup
  walk_at "rd"
  refine ⟨a, xs, rfl, .inr (SqT.of ha), ?_⟩
  walk_at "rd"
  refine if_2 (fun cc => ?_) (fun cc => ?_)
  · walk_at "rd"
    have e := no (by
      cases z : formB as.length (.tup ds) with
      | false => rfl
      | true =>
        have l := formB_len z
        rw [hds.len, l] at cc
        cases cc)
    exact e ▸ q H (Kp.refl _ _)
  obtain ⟨d1, d2, d3, rfl⟩ : ∃ d1 d2 d3, ds = [d1, d2, d3] := by
    have c1 : V.int (xs.length : Nat) = V.int 3 := by simpa using cc
    have c' := V.int.inj c1
    rw [hds.len] at c'
    match ds, c' with
    | [x, y, z], _ => exact ⟨x, y, z, rfl⟩
    | [], l => simp at l
    | [_], l => simp at l
    | [_, _], l => simp at l
    | _ :: _ :: _ :: _ :: _, l => simp at l; omega
  obtain ⟨v1, r1, rfl, h1, v2, r2, rfl, h2, v3, r3, rfl, h3, rfl⟩ := hds
  rw [Ty.d] at hkd
  obtain ⟨ak, xk, rfl, hak, va, r2, rfl, hva, vs2, r3, rfl, hvs2, rfl⟩ := hkd
  cases hvs2.str
  obtain ⟨a3, x3, rfl, ha3, hs3⟩ := hva
  have l3 : x3.length = as.length := by rw [hs3.len, tyds_len]
  walk_at "rd"
  refine r_ixT ha rfl ?_
  walk_at "rd"
  refine ⟨v1, d1, rfl, h1, fun H1 k1 => ?_⟩
  walk_at "rd"
  refine if_2 (fun c1 => ?_) (fun c1 => ?_)
  · walk_at "rd"
    have e := no (by cases d1 <;> first | rfl | cases c1)
    exact e ▸ q H1 k1
  obtain ⟨i, rfl⟩ : ∃ i, d1 = .int i := by cases d1 <;> first | exact ⟨_, rfl⟩ | cases c1
  cases h1.int
  walk_at "rd"
  refine r_ixT (k1.get ha) rfl ?_
  walk_at "rd"
  refine r_ixT (k1.get hak) rfl ?_
  walk_at "rd"
  refine ⟨a3, x3, rfl, .inr (SqT.of (k1.get ha3)), ?_⟩
  walk_at "rd"
  rw [l3]
  refine if_2 (fun c4 => ?_) (fun c4 => ?_)
  · walk_at "rd"
    have ne : i ≠ (as.length : Nat) := fun z => by rw [z] at c4; simp at c4
    have e := no (by cases d3 <;> first | rfl | exact decide_eq_false ne)
    exact e ▸ q H1 k1
  have ei : i = (as.length : Nat) := by
    have z : V.int i = V.int (as.length : Nat) := by simpa using c4
    exact V.int.inj z
  subst ei
  obtain ⟨ao, xo, rfl, hao, hso⟩ := hp.tup
  have lo : xo.length = own.length := by rw [hso.len, tyds_len]
  have oas : TysOk W as ∧ as.length ≤ W ∧ Tx srt := Ty.Ok.as (t := .mk as srt) okk
  walk_at "rd"
  refine r_ixT (k1.get hak) rfl ?_
  walk_at "rd"
  refine r_catT (k1.get hao) (k1.get ha3) (hso.mono k1.t0) (hs3.mono k1.t0) (by omega) fun vb H2 k2 t2 hb => ?_
  rw [← tyds_app] at hb
  have k02 := k1.trans k2
  walk_at "rd"
  refine r_ixT (k02.get ha) rfl ?_
  walk_at "rd"
  refine ⟨sv, hv, vb, v2, sg, hs, own ++ as, d2, W, 1000000, rfl, hsg.mono0 k02, osg, fsg, hh.mono k02.t0, hb, h2.mono k02.t0, (show Wd Tx 1000000 d2 from wd.2.2.1), fun r H3 k3 hr3 => ?_⟩
  have k03 := k02.trans k3
  walk_at "rd"
  refine ⟨rfl, ?_⟩
  walk_at "rd"
  have notup : d3.isT = false → tmB sg hs own (.mk as srt) (.tup [.int (as.length : Nat), d2, d3]) = false := fun z => no (by cases d3 <;> first | rfl | cases z)
  have etm : ∀ ps, d3 = .tup ps → tmB sg hs own (.mk as srt) (.tup [.int (as.length : Nat), d2, d3]) = match hdB sg hs (own ++ as) d2 with
      | none => false
      | some t => decide (t.s = srt) && decide (t.as.length = ps.length) && tmsB sg hs (own ++ as) t.as ps := fun ps e => by
    subst e
    exact tmB_eq (sg := sg) (hs := hs) (own := own) (k := .mk as srt) (x := d2) (ps := ps)
  cases eh : hdB sg hs (own ++ as) d2 with
  | none =>
    rw [eh] at hr3
    subst hr3
    refine if_t rfl (if_t rfl ?_)
    walk_at "rd"
    have e : tmB sg hs own (.mk as srt) (.tup [.int (as.length : Nat), d2, d3]) = false := by
      cases z : d3.isT with
      | false => exact notup z
      | true =>
        obtain ⟨ps, rfl⟩ := D.tup_of z
        rw [etm ps rfl, eh]
    exact e ▸ q H3 k03
  | some t =>
    rw [eh] at hr3
    replace hr3 : Dt H3 t.d r := hr3
    have okt : t.Ok W := hdB_ok osg oh (op.app oas.1) eh
    rw [Ty.d_eq] at hr3
    obtain ⟨ar, xr, rfl, har, w1, r2, rfl, hw1, w2, r3, rfl, hw2, rfl⟩ := hr3
    cases hw2.str
    obtain ⟨a9, x9, rfl, ha9, hs9⟩ := hw1
    have l9 : x9.length = t.as.length := by rw [hs9.len, tyds_len]
    refine if_f rfl ?_
    walk_at "rd"
    refine r_ixT har rfl ?_
    walk_at "rd"
    refine r_ixT (k03.get hak) rfl ?_
    walk_at "rd"
    refine if_2 (fun c3 => ?_) (fun c3 => ?_)
    · walk_at "rd"
      have ne : t.s ≠ srt := fun z => by rw [z] at c3; simp at c3
      have e : tmB sg hs own (.mk as srt) (.tup [.int (as.length : Nat), d2, d3]) = false := by
        cases z : d3.isT with
        | false => exact notup z
        | true =>
          obtain ⟨ps, rfl⟩ := D.tup_of z
          rw [etm ps rfl, eh]
          simp [ne]
      exact e ▸ q H3 k03
    have es : t.s = srt := by simpa using c3
    walk_at "rd"
    refine r_ixT (k03.get ha) rfl ?_
    walk_at "rd"
    refine r_isT (h3.mono k03.t0) ?_
    walk_at "rd"
    refine if_2 (fun c5 => ?_) (fun c5 => ?_)
    · walk_at "rd"
      have e := notup (by simpa using c5)
      exact e ▸ q H3 k03
    obtain ⟨ps, rfl⟩ := D.tup_of (by simpa using c5)
    obtain ⟨ap, xp, rfl, hap, hsp⟩ := h3.tup
    have lp : xp.length = ps.length := hsp.len
    walk_at "rd"
    refine r_ixT (k03.get ha) rfl ?_
    walk_at "rd"
    refine ⟨ap, xp, rfl, .inr (SqT.of (k03.get hap)), ?_⟩
    walk_at "rd"
    refine r_ixT har rfl ?_
    walk_at "rd"
    refine ⟨a9, x9, rfl, .inr (SqT.of ha9), ?_⟩
    walk_at "rd"
    rw [l9, lp]
    refine if_2 (fun c4 => ?_) (fun c4 => ?_)
    · walk_at "rd"
      have ne : t.as.length ≠ ps.length := fun z => by rw [z] at c4; simp at c4
      have e : tmB sg hs own (.mk as srt) (.tup [.int (as.length : Nat), d2, .tup ps]) = false := by
        rw [etm ps rfl, eh]
        simp [ne]
      exact e ▸ q H3 k03
    have el : t.as.length = ps.length := by
      have z : V.int (ps.length : Nat) = V.int (t.as.length : Nat) := by simpa using c4
      have := V.int.inj z
      omega
    have efin : tmB sg hs own (.mk as srt) (.tup [.int (as.length : Nat), d2, .tup ps]) = ((kids (own ++ as) t.as ps).map (frB sg hs)).all id := by
      rw [etm ps rfl, eh]
      simp only [es, el, decide_eq_true, Bool.true_and]
      rw [← kids_B el]
      unfold frsB
      rw [List.all_map]
      rfl
    have wps : Wds Tx 1000000 ps := wd.2.2.2.1.2
    have lps := szs_len ps
    have zps : szs ps + 2 ≤ (D.tup [.int (as.length : Nat), d2, .tup ps]).sz := by
      have e : (D.tup [.int (as.length : Nat), d2, .tup ps]).sz = 1 + (1 + (d2.sz + ((1 + szs ps) + 0))) := rfl
      omega
    have dpt : (D.tup [.int (as.length : Nat), d2, .tup ps]).dp = 1 + max 1 (max d2.dp (max (1 + dps ps) 0)) := rfl
    walk_at "rd"
    refine r_ixT har rfl ?_
    walk_at "rd"
    refine ⟨a9, x9, rfl, .inr (SqT.of ha9), ?_⟩
    walk_at "rd"
    rw [l9]
    refine ⟨_, rfl, by omega, by omega, fun L nL => lc_it walk_range (fun i H' => Kp [] H3 H' ∧ H' L = some (.lst ((((kids (own ++ as) t.as ps).map (frB sg hs)).take i).map V.bl)))
      ⟨(Kp.refl _ _).up nL, upd_same⟩ (fun _ _ _ _ => trivial) ?_ ?_⟩
    · rintro i y H0 H4 hi4 ⟨k4, hL⟩ ⟨rfl, rfl⟩
      have hi : i < t.as.length := by simpa using hi4
      have hip : i < ps.length := by omega
      have k04 := k03.trans k4
      walk_at "rd"
      refine ⟨rfl, ?_⟩
      walk_at "rd"
      obtain ⟨w3, hw3, hdw3⟩ := (hs9.mono k4.t0).of (tyds_at (List.getElem?_eq_getElem hi))
      obtain ⟨w4, hw4, hdw4⟩ := (hsp.mono k04.t0).of (List.getElem?_eq_getElem hip)
      refine r_ixT (k4.get har) rfl ?_
      walk_at "rd"
      refine r_ixT (k4.get ha9) (by simpa using atI_nat hw3) ?_
      walk_at "rd"
      refine r_ixT (k04.get ha) rfl ?_
      walk_at "rd"
      refine r_ixT (k04.get hap) (by simpa using atI_nat hw4) ?_
      walk_at "rd"
      have m1 := dps_mem (List.getElem_mem hip)
      have m3 := szs_mem (List.getElem_mem hip)
      have m2 : W * (1 + (ps[i]).dp) ≤ W * (D.tup [.int (as.length : Nat), d2, .tup ps]).dp := Nat.mul_le_mul_left _ (by omega)
      rw [Nat.mul_add, Nat.mul_one] at m2
      have la := oas.2.1
      refine ⟨sv, hv, vb, w3, w4, sg, hs, own ++ as, t.as[i], ps[i], W, rfl, hsg.mono0 k04, osg, fsg, hh.mono k04.t0, oh, hb.mono (k3.trans k4).t0, op.app oas.1, hdw3, okt.as.1.at (List.getElem_mem hi), hdw4, Wds.mem.mp wps _ (List.getElem_mem hip), by omega, hW, ?_, by omega, fun H5 k5 => ?_⟩
      · rw [List.length_append]
        omega
      · have ek : ((kids (own ++ as) t.as ps).map (frB sg hs))[i]? = some (tmB sg hs (own ++ as) t.as[i] ps[i]) := by
          rw [List.getElem?_map, kids_at (List.getElem?_eq_getElem hi) (List.getElem?_eq_getElem hip)]
          rfl
        refine ⟨_, k5.get hL, ?_, (k4.trans k5).own nL ⟨_, k5.get hL, rfl⟩, ?_⟩
        · rw [List.length_map]
          have n2 := List.length_take_le' i ((kids (own ++ as) t.as ps).map (frB sg hs))
          rw [List.length_map, kids_len el] at n2
          exact Nat.lt_of_le_of_lt (show _ ≤ 1000000 by omega) (by decide)
        · rw [upd_same, take_one ek, List.map_append]
          rfl
    · rintro H4 ⟨k4, hL⟩
      rw [List.take_of_length_le (by rw [List.length_map, kids_len el]; simp; omega)] at hL
      walk_at "rd"
      refine ⟨L, _, rfl, SqL.of hL, ?_⟩
      rw [efin] at q
      exact q H4 (k03.trans k4)
end
end K03
end

section
/-! The drawn signature. -/
namespace K03
open PySem L2 PyProof.Rows PySem.Spec Lc
variable [Lc.Tbs]
local macro_rules | `(tactic| walk_at "rd") => `(tactic| repeat (first
  | with_reducible refine r_seq ?_ | with_reducible refine r_mknx ?_ | with_reducible refine r_mkrt ?_ | with_reducible refine r_asg ?_ | with_reducible refine r_name ?_ | with_reducible refine r_next ?_
  | with_reducible refine r_drop ?_ | with_reducible refine r_ret ?_ | with_reducible refine r_if ?_
  | ((with_reducible refine' r_var ?e ?_); (case e => rfl)) | with_reducible refine r_c ?_ | with_reducible refine r_op ?_ | with_reducible refine r_un ?_ | with_reducible refine r_test ?_ | with_reducible refine r_tb ?_
  | with_reducible refine r_and ?_ | with_reducible refine r_or ?_ | with_reducible refine r_not ?_ | with_reducible refine r_andV ?_ | with_reducible refine r_orV ?_ | with_reducible refine r_notV ?_ | with_reducible refine r_bl ?_
  | with_reducible refine r_cb ?_ | with_reducible refine r_cons ?_ | with_reducible refine r_nil ?_ | with_reducible refine r_tup ?_ | with_reducible refine r_lst ?_ | with_reducible refine r_call ?_
  | with_reducible refine r_i0 ?_ | with_reducible refine r_par ?_ | with_reducible refine r_two ?_ | with_reducible refine r_lc ?_ | with_reducible refine r_iL ?_ | with_reducible refine r_iT ?_ | with_reducible refine r_iS ?_ | with_reducible refine r_i1 ?_ | with_reducible refine r_yes ?_ | with_reducible refine r_chain ?_ | with_reducible refine if_t rfl ?_ | with_reducible refine if_f rfl ?_ | with_reducible refine r_nt ?_ | ((with_reducible refine r_eq ?e ?_); (case e => rfl)) | ((with_reducible refine r_ne ?e ?_); (case e => rfl))
  | with_reducible refine r_sub ?_ | with_reducible refine r_sl ?_ | with_reducible refine r_nopart ?_ | with_reducible refine r_part ?_ | with_reducible refine r_int ?_ | with_reducible refine r_bm ?_ | with_reducible refine r_bm0 ?_ | with_reducible refine r_gcons ?_ | with_reducible refine r_gnil ?_ | with_reducible refine r_dget1 ?_ | with_reducible refine r_dget2 ?_))


local macro_rules | `(tactic| walk_at "dt") => `(tactic| repeat' (first | (show Dt _ _ _; assumption) | exact dt_str | exact dt_int | exact dt_bl | exact dt_non | exact Dts.nil | refine' Dts.cons ?_ ?_ | (refine' Dt.mono ?kk ?_; (case kk => assumption)) | fail))
local macro_rules | `(tactic| walk_at "at") => `(tactic| repeat (first | assumption | (refine' Kp.ge ?kk ?nn ?_; (case kk => assumption); (case nn => intro _ z; cases z)) | fail))
local macro_rules | `(tactic| walk_at "kp") => `(tactic| repeat (first | assumption | exact Kp.refl _ _ | (refine' Kp.trans ?_ ?kk; (case kk => assumption)) | fail))
local macro_rules | `(tactic| walk_at "tup") => `(tactic| (refine' r_tupN ?h ?f ?k; (case h => walk_at "dt"); (case f => simp); skip))
def tyA : Lc.Ty := .mk [] "a"
def tyB : Lc.Ty := .mk [] "b"
def tyO : Lc.Ty := .mk [tyA] "a"
/-- the constants that are drawn from -/
def tab : Sg := [("c", tyA), ("f", .mk [tyA, tyA] "a"), ("g", tyO), ("lam", .mk [tyO] "a"), ("e", tyB), ("k", .mk [tyA, tyB] "b"), ("d", tyA), ("w", .mk [.mk [tyA, tyA] "a"] "b"), ("m", .mk [tyO, tyB] "a")]
def tabR : Sg := (tab.drop 1).take 3 ++ tab.drop 5
abbrev rC : Str × Lc.Ty := ("c", tyA)
abbrev rE : Str × Lc.Ty := ("e", tyB)
def tabA : Sg := [rC, rE] ++ tabR
theorem at_mem' {α : Type} {xs : List α} {i : Int} (h0 : 0 ≤ i) (h : i < (xs.length : Nat)) : ∃ v, atI xs i = some v ∧ v ∈ xs ∧ xs[i.toNat]? = some v := by
  have hk : i.toNat < xs.length := by omega
  obtain ⟨v, hv⟩ := at_any h0 h
  have q := atI_nat (List.getElem?_eq_getElem hk)
  rw [Int.toNat_of_nonneg h0] at q
  exact ⟨_, q, List.getElem_mem hk, List.getElem?_eq_getElem hk⟩
def kindB (d : D) : Bool := wdB (fun x => decide (x = "a") || decide (x = "b")) 3 d && decide (d.dp ≤ 8) && decide (d.sz ≤ 256)
theorem kindB_ok {t : Lc.Ty} (h : kindB t.d = true) : KindOk 3 t.d := by
  unfold kindB at h
  simp only [Bool.and_eq_true] at h
  refine ⟨wd_of (fun x hx => ?_) h.1.1, of_decide_eq_true h.1.2, of_decide_eq_true h.2, t, rfl⟩
  rcases (Bool.or_eq_true _ _).mp hx with z | z
  · exact .inl (of_decide_eq_true z)
  · exact .inr (of_decide_eq_true z)
theorem tabA_ok : ∀ r ∈ tabA, Tx r.1 ∧ r.1.length ≤ 10 ∧ KindOk 3 r.2.d := by
  have h : (tabA.all fun r => PyData.strOk r.1 && decide (r.1.length ≤ 10) && kindB r.2.d) = true := by decide +kernel
  intro r hr
  have z := List.all_eq_true.mp h r hr
  simp only [Bool.and_eq_true] at z
  exact ⟨z.1.1, of_decide_eq_true z.1.2, kindB_ok z.2⟩
theorem tabA_nd : (tabA.map (·.1)).Nodup := by decide +kernel
/-- a drawn signature -/
structure SgG (sg : Sg) : Prop where
  ok : SgOk 3 sg
  kinds : ∀ r ∈ sg, KindOk 3 r.2.d
  few : sg.length ≤ 20
  short : ∀ r ∈ sg, r.1.length ≤ 20
  cons : ∀ x, AB x → ∃ n, (n, Lc.Ty.mk [] x) ∈ sg
theorem sgG_of {front : Str} {sub : Sg} (hf : Tx front) (lf : front.length ≤ 3) (h : sub.Sublist tabA) (hc : rC ∈ sub) (he : rE ∈ sub) : SgG (sub.map fun r => (front ++ r.1, r.2)) := by
  have ok : ∀ r ∈ sub, Tx r.1 ∧ r.1.length ≤ 10 ∧ KindOk 3 r.2.d := fun r hr => tabA_ok r (h.subset hr)
  have ln : sub.length ≤ 9 := h.length_le
  refine ⟨⟨?_, ?_⟩, ?_, ?_, ?_, ?_⟩
  · rw [List.map_map]
    have nd : (sub.map (·.1)).Nodup := tabA_nd.sublist (h.map _)
    have e : sub.map ((fun x => x.1) ∘ fun r => (front ++ r.1, r.2)) = (sub.map (·.1)).map (front ++ ·) := by
      rw [List.map_map]
      rfl
    rw [e]
    exact List.Pairwise.map _ (fun a b n z => n (str_app_inj z)) nd
  · intro r hr
    obtain ⟨r0, h0, rfl⟩ := List.mem_map.mp hr
    exact ⟨tx_app hf (ok r0 h0).1, Wd.mono (fun x hx => AB.tx hx) (Nat.le_refl 3) (ok r0 h0).2.2.wd⟩
  · intro r hr
    obtain ⟨r0, h0, rfl⟩ := List.mem_map.mp hr
    exact (ok r0 h0).2.2
  · rw [List.length_map]
    omega
  · intro r hr
    obtain ⟨r0, h0, rfl⟩ := List.mem_map.mp hr
    have l : (front ++ r0.1).length = front.length + r0.1.length := Array.size_append
    have := (ok r0 h0).2.1
    show (front ++ r0.1).length ≤ 20
    omega
  · rintro x (rfl | rfl)
    · exact ⟨front ++ rC.1, List.mem_map.mpr ⟨rC, hc, rfl⟩⟩
    · exact ⟨front ++ rE.1, List.mem_map.mpr ⟨rE, he, rfl⟩⟩
def spSigDraw : Sp := fun vs H Q _ => ∃ (c a : Addr), vs = [.ref c] ∧ CS a H c ∧ ∀ v sg H', Kp [c] H H' → CS a H' c → SgV H' sg v → SgG sg → Q v H'

abbrev s_law_signature : Stmt := top 19
abbrev N_law_signature : List Str := ["c", "one", "rows", "front", "kept", "a", "b", "j", "row", "name", "kind"]
theorem sc_law_signature : FnScope N_law_signature ["c"] (defScope s_law_signature) := ⟨rfl, rfl, rfl, by decide +kernel, rfl, by decide +kernel, by decide +kernel⟩
section
variable {P : Program} {w : World} {K : PySem.W.Frag} {mg : Str → Option Value} {base : Heap}
theorem ok_signature (F : Df K mg "_law_signature" s_law_signature ["c"]) (T : Txt mg) (C_law_take : Cal P w K mg base "_law_take" ["c", "many"] 2 spTake) :
    Cal P w K mg base "_law_signature" ["c"] 3 spSigDraw := by
  refine F.ok sc_law_signature (fun vs H Q E h => ?_) (fun f cdv A outer s H vs Q E hr h => ?_)
  · obtain ⟨c, a, rfl, _⟩ := h
    rfl
  obtain ⟨c, a, rfl, cs, q⟩ := h
  refine ⟨_, (pss_cons (ps_asg (pe_tup (pa_cons (pe_tup (pa_cons (pe_tup pa_nil) (pa_cons pe_str pa_nil))) (pa_cons (pe_tup (pa_cons (pe_tup pa_nil) (pa_cons pe_str pa_nil))) pa_nil))) (pg_tup (by rfl) (pgs_cons (pg_name (i := 5) sc_law_signature.nd rfl (.inl rfl)) (pgs_cons (pg_name (i := 6) sc_law_signature.nd rfl (.inl rfl)) pgs_nil))))
      (pss_cons (ps_set (i := 1) sc_law_signature.nd rfl (Or.inl rfl) (pe_tup (pa_cons (pe_tup (pa_cons (pv 5) pa_nil)) (pa_cons pe_str pa_nil))))
      (pss_cons (ps_set (i := 2) sc_law_signature.nd rfl (Or.inl rfl) (pe_lst (pa_cons (pe_tup (pa_cons pe_str (pa_cons (pv 5) pa_nil))) (pa_cons (pe_tup (pa_cons pe_str (pa_cons (pe_tup (pa_cons (pe_tup (pa_cons (pv 5) (pa_cons (pv 5) pa_nil))) (pa_cons pe_str pa_nil))) pa_nil))) (pa_cons (pe_tup (pa_cons pe_str (pa_cons (pv 1) pa_nil))) (pa_cons (pe_tup (pa_cons pe_str (pa_cons (pe_tup (pa_cons (pe_tup (pa_cons (pv 1) pa_nil)) (pa_cons pe_str pa_nil))) pa_nil))) (pa_cons (pe_tup (pa_cons pe_str (pa_cons (pv 6) pa_nil))) (pa_cons (pe_tup (pa_cons pe_str (pa_cons (pe_tup (pa_cons (pe_tup (pa_cons (pv 5) (pa_cons (pv 6) pa_nil))) (pa_cons pe_str pa_nil))) pa_nil))) (pa_cons (pe_tup (pa_cons pe_str (pa_cons (pv 5) pa_nil))) pa_nil)))))))))
      (pss_cons (ps_set (i := 2) sc_law_signature.nd rfl (Or.inl rfl) (pe_op op_cat (pv 2) (pe_lst (pa_cons (pe_tup (pa_cons pe_str (pa_cons (pe_tup (pa_cons (pe_tup (pa_cons (pe_tup (pa_cons (pe_tup (pa_cons (pv 5) (pa_cons (pv 5) pa_nil))) (pa_cons pe_str pa_nil))) pa_nil)) (pa_cons pe_str pa_nil))) pa_nil))) (pa_cons (pe_tup (pa_cons pe_str (pa_cons (pe_tup (pa_cons (pe_tup (pa_cons (pv 1) (pa_cons (pv 6) pa_nil))) (pa_cons pe_str pa_nil))) pa_nil))) pa_nil)))))
      (pss_cons (ps_set (i := 3) sc_law_signature.nd rfl (Or.inr rfl) (pe_bm PySem.F.plainAttrs_str PySem.F.slot_str_join PySem.F.type_str_join mt_join pe_str (pa_cons (pe_lc (own := [("j", 7)]) (g := gName 7) rfl sc_law_signature.nd (pi_range1 rfl T.z_range (pa_cons (pe_cal C_law_take hr rfl (pa_cons (pv 0) (pa_cons pe_int pa_nil))) pa_nil)) (blkOk_by (N := N_law_signature) (sc := defScope s_law_signature) (by decide +kernel)) (fun _ _ _ _ _ => (pg_name (i := 7) sc_law_signature.nd rfl (Or.inl rfl))) (fun _ _ _ _ _ => pts_nil) (fun _ _ _ _ _ => (pe_ix ix_str pe_str (pe_cal C_law_take hr rfl (pa_cons (pv 0) (pa_cons pe_int pa_nil))) (fun _ _ => rfl)))) pa_nil)))
      (pss_cons (ps_set (i := 4) sc_law_signature.nd rfl (Or.inl rfl) (pe_op op_cat (pe_lst (pa_cons (pe_ix ix_list (pv 2) pe_int (fun _ _ => rfl)) (pa_cons (pe_ix ix_list (pv 2) pe_int (fun _ _ => rfl)) pa_nil))) (pe_lc (own := [("row", 8)]) (g := gName 8) rfl sc_law_signature.nd (pi_list (pe_op op_cat (pe_slice sl_list (pv 2) (po_some pe_int) (po_some pe_int)) (pe_slice sl_list (pv 2) (po_some pe_int) po_none))) (blkOk_by (N := N_law_signature) (sc := defScope s_law_signature) (by decide +kernel)) (fun _ _ _ _ _ => (pg_name (i := 8) sc_law_signature.nd rfl (Or.inl rfl))) (fun _ _ _ _ _ => pts_one (pt_cmpR op_ne (pe_cal C_law_take hr rfl (pa_cons (pv 0) (pa_cons pe_int pa_nil))) pe_int (nomark _))) (fun _ _ _ _ _ => (pv 8)))))
      (pss_one (ps_ret (pe_callTy call_tuple_frz (by rfl) T.z_tuple (by decide +kernel) (pa_cons (pe_lc (own := [("name", 9), ("kind", 10)]) (g := gTup K 2 (gCons (gName 9) (gCons (gName 10) gNil))) rfl sc_law_signature.nd (pi_list (pv 4)) (blkOk_by (N := N_law_signature) (sc := defScope s_law_signature) (by decide +kernel)) (fun _ _ _ _ _ => (pg_tup (by rfl) (pgs_cons (pg_name (i := 9) sc_law_signature.nd rfl (Or.inl rfl)) (pgs_cons (pg_name (i := 10) sc_law_signature.nd rfl (Or.inl rfl)) pgs_nil)))) (fun _ _ _ _ _ => pts_nil) (fun _ _ _ _ _ => (pe_tup (pa_cons (pe_op op_add_str (pv 3) (pv 9)) (pa_cons (pv 10) pa_nil))))) pa_nil)))))))))), ?_⟩
  walk_at "rd"
  walk_at "tup"
  intro p1 G1 k1 t1 n1 e1 d1
  walk_at "rd"
  walk_at "tup"
  intro p2 G2 k2 t2 n2 e2 d2
  walk_at "rd"
  walk_at "tup"
  intro p3 G3 k3 t3 n3 e3 d3
  walk_at "rd"
  walk_at "tup"
  intro p4 G4 k4 t4 n4 e4 d4
  walk_at "rd"
  walk_at "tup"
  intro p5 G5 k5 t5 n5 e5 d5
  walk_at "rd"
  refine r_gtup e5 rfl ?_
  walk_at "rd"
  walk_at "tup"
  intro p6 G6 k6 t6 n6 e6 d6
  walk_at "rd"
  walk_at "tup"
  intro p7 G7 k7 t7 n7 e7 d7
  walk_at "rd"
  walk_at "tup"
  intro p8 G8 k8 t8 n8 e8 d8
  walk_at "rd"
  walk_at "tup"
  intro p9 G9 k9 t9 n9 e9 d9
  walk_at "rd"
  walk_at "tup"
  intro p10 G10 k10 t10 n10 e10 d10
  walk_at "rd"
  walk_at "tup"
  intro p11 G11 k11 t11 n11 e11 d11
  walk_at "rd"
  walk_at "tup"
  intro p12 G12 k12 t12 n12 e12 d12
  walk_at "rd"
  walk_at "tup"
  intro p13 G13 k13 t13 n13 e13 d13
  walk_at "rd"
  walk_at "tup"
  intro p14 G14 k14 t14 n14 e14 d14
  walk_at "rd"
  walk_at "tup"
  intro p15 G15 k15 t15 n15 e15 d15
  walk_at "rd"
  walk_at "tup"
  intro p16 G16 k16 t16 n16 e16 d16
  walk_at "rd"
  walk_at "tup"
  intro p17 G17 k17 t17 n17 e17 d17
  walk_at "rd"
  walk_at "tup"
  intro p18 G18 k18 t18 n18 e18 d18
  walk_at "rd"
  walk_at "tup"
  intro p19 G19 k19 t19 n19 e19 d19
  walk_at "rd"
  walk_at "tup"
  intro p20 G20 k20 t20 n20 e20 d20
  walk_at "rd"
  refine r_lstN (by simp) fun l1 G21 k21 t21 n21 e21 => ?_
  walk_at "rd"
  walk_at "tup"
  intro p22 G22 k22 t22 n22 e22 d22
  walk_at "rd"
  walk_at "tup"
  intro p23 G23 k23 t23 n23 e23 d23
  walk_at "rd"
  walk_at "tup"
  intro p24 G24 k24 t24 n24 e24 d24
  walk_at "rd"
  walk_at "tup"
  intro p25 G25 k25 t25 n25 e25 d25
  walk_at "rd"
  walk_at "tup"
  intro p26 G26 k26 t26 n26 e26 d26
  walk_at "rd"
  walk_at "tup"
  intro p27 G27 k27 t27 n27 e27 d27
  walk_at "rd"
  walk_at "tup"
  intro p28 G28 k28 t28 n28 e28 d28
  walk_at "rd"
  walk_at "tup"
  intro p29 G29 k29 t29 n29 e29 d29
  walk_at "rd"
  refine r_lstN (by simp) fun l2 G30 k30 t30 n30 e30 => ?_
  walk_at "rd"
  refine r_catN (l := l1) (b := l2) (by walk_at "at") e30 (by simp) fun R G31 k31 t31 n31 e31 => ?_
  have hrows : Dts G31 (tab.map rowD) ([V.ref p8, .ref p11, .ref p12, .ref p15, .ref p16, .ref p19, .ref p20] ++ [.ref p26, .ref p29]) := by
    have e : tab.map rowD = [.tup [.str "c", .tup [.tup [], .str "a"]], .tup [.str "f", .tup [.tup [.tup [.tup [], .str "a"], .tup [.tup [], .str "a"]], .str "a"]], .tup [.str "g", .tup [.tup [.tup [.tup [], .str "a"]], .str "a"]],
        .tup [.str "lam", .tup [.tup [.tup [.tup [.tup [.tup [], .str "a"]], .str "a"]], .str "a"]], .tup [.str "e", .tup [.tup [], .str "b"]], .tup [.str "k", .tup [.tup [.tup [.tup [], .str "a"], .tup [.tup [], .str "b"]], .str "b"]], .tup [.str "d", .tup [.tup [], .str "a"]],
        .tup [.str "w", .tup [.tup [.tup [.tup [.tup [.tup [], .str "a"], .tup [.tup [], .str "a"]], .str "a"]], .str "b"]], .tup [.str "m", .tup [.tup [.tup [.tup [.tup [.tup [], .str "a"]], .str "a"], .tup [.tup [], .str "b"]], .str "a"]]] := by
      simp only [tab, rowD, tyA, tyB, tyO, List.map_cons, List.map_nil, Ty.d, tyds]
    rw [e]
    show Dts _ _ [V.ref p8, .ref p11, .ref p12, .ref p15, .ref p16, .ref p19, .ref p20, .ref p26, .ref p29]
    walk_at "dt"
  have ka : Kp [] H G31 := by walk_at "kp"
  have ca := cs.keep ka
  generalize ev : [V.ref p8, V.ref p11, V.ref p12, V.ref p15, V.ref p16, V.ref p19, V.ref p20] ++ [V.ref p26, V.ref p29] = rows at e31 hrows
  have r0 : atI rows 0 = some (.ref p8) := by rw [← ev]; rfl
  have r4 : atI rows 4 = some (.ref p16) := by rw [← ev]; rfl
  have rl : rows.length = 9 := by rw [← ev]; rfl
  have g0 : rows[0]? = some (V.ref p8) := by rw [← ev]; rfl
  have g4 : rows[4]? = some (V.ref p16) := by rw [← ev]; rfl
  clear ev
  clear d1 d2 d3 d4 d5 d6 d7 d8 d9 d10 d11 d12 d13 d14 d15 d16 d17 d18 d19 d20 d22 d23 d24 d25 d26 d27 d28 d29
  walk_at "rd"
  refine ⟨rfl, ?_⟩
  walk_at "rd"
  refine ⟨c, a, 4, rfl, ca, by decide, by decide, fun j F1 lo1 hi1 kf1 cf1 => ?_⟩
  have kk1 : Kp [c] H F1 := ka.of0.trans kf1
  walk_at "rd"
  refine ⟨_, rfl, by omega, by omega, fun L nL => lc_it walk_range (fun i H' => ∃ cs : List Nat, H' L = some (.lst ((cs.map fun k => (⟨#[k]⟩ : Str)).map V.str)) ∧ cs.length = i ∧ (∀ k ∈ cs, k < 0x110000) ∧ Kp [c] F1 H' ∧ CS a H' c)
    ⟨[], upd_same, rfl, (fun y hy => by cases hy), (Kp.refl _ _).up nL, cf1.own (cf1.ne nL)⟩ (fun _ _ _ _ => trivial) ?_ ?_⟩
  · rintro i y H0 F2 hi2 ⟨ys, eL, ly, one, k2, c2⟩ ⟨rfl, rfl⟩
    walk_at "rd"
    refine ⟨rfl, ?_⟩
    walk_at "rd"
    refine ⟨c, a, 18, rfl, c2, by decide, by decide, fun g F3 lo3 hi3 k3 c3 => ?_⟩
    walk_at "rd"
    obtain ⟨ch, hch, mch, _⟩ := at_mem' (xs := ("abdeghjklmnpqrvwxy" : Str).cps.toList) lo3 (show g < 18 from hi3)
    refine ⟨_, _, ch, rfl, rfl, by decide, hch, ?_⟩
    have neL : L ≠ c := (cf1.ne nL).1
    have eL3 := k3 L _ (by simpa using neL) eL
    refine ⟨_, eL3, ?_, ys ++ [ch], ?_, ?_, ?_, (k2.trans k3).own nL, c3.own (cf1.ne nL)⟩
    · rw [List.length_map, List.length_map]
      exact Nat.lt_of_le_of_lt (show _ ≤ 1000 by omega) (by decide)
    · rw [upd_same, List.map_append, List.map_append]
      rfl
    · rw [List.length_append, ly]
      rfl
    · intro y hy
      rcases List.mem_append.mp hy with hy | hy
      · exact one y hy
      · rw [List.mem_singleton.mp hy]
        have al : (("abdeghjklmnpqrvwxy" : Str).cps.toList.all fun k => decide (k < 0x110000)) = true := by decide +kernel
        exact of_decide_eq_true (List.all_eq_true.mp al ch mch)
  · rintro F2 ⟨ys, eL, ly, one, k2, c2⟩
    walk_at "rd"
    have few : ys.length ≤ 3 := by omega
    have sums : (((ys.map fun k => (⟨#[k]⟩ : Str))).map (·.length)).sum + (ys.map fun k => (⟨#[k]⟩ : Str)).length * ("" : Str).length ≤ 16777216 := by
      have s1 : ∀ l : List Nat, ((l.map fun k => (⟨#[k]⟩ : Str)).map (·.length)).sum = l.length := by
        intro l
        induction l with
        | nil => rfl
        | cons x r ih =>
          rw [List.map_cons, List.map_cons, List.sum_cons, ih, List.length_cons, Nat.add_comm]
          rfl
      rw [s1 ys, show ("" : Str).length = 0 by decide]
      omega
    refine ⟨"", L, ys.map fun k => (⟨#[k]⟩ : Str), rfl, rfl, .inl (SqL.of eL), sums, ?_⟩
    have jl : Txt.join ("" : Str) (ys.map fun k => (⟨#[k]⟩ : Str)) = ⟨ys.toArray⟩ := by
      show Builtin.Str.glued ("" : Str) _ = _
      rw [StrLaws.glued_eq_join]
      exact PyProof.Rows.join_ones ys
    have tf : Tx (⟨ys.toArray⟩ : Str) := by
      show (ys.toArray.all fun k => decide (k < 0x110000)) = true
      rw [List.all_toArray]
      exact List.all_eq_true.mpr fun k hk => decide_eq_true (one k hk)
    have lf0 : (⟨ys.toArray⟩ : Str).length = ys.length := List.size_toArray
    rw [jl]
    generalize (⟨ys.toArray⟩ : Str) = front at tf lf0
    have lf : front.length ≤ 3 := by omega
    have kk2 : Kp [c] H F2 := kk1.trans k2
    have kg : Kp [c] G31 F2 := kf1.trans k2
    have neR : R ≠ c := (CS.ne (cs.keep (show Kp [] H G30 by walk_at "kp")) n31).1
    have eR2 : F2 R = some (.lst rows) := kg R _ (by simpa using neR) e31
    have tg : KeepT G31 F2 := ca.t kg
    walk_at "rd"
    refine r_ixL eR2 r0 ?_
    walk_at "rd"
    refine r_ixL eR2 r4 ?_
    walk_at "rd"
    refine r_lstN (by simp) fun l3 F3 k3 t3 n3 e3 => ?_
    walk_at "rd"
    refine r_slL (k3.get eR2) fun s1 F4 k4 t4 n4 e4 => ?_
    walk_at "rd"
    refine r_slL (k4.get (k3.get eR2)) fun s2 F5 k5 t5 n5 e5 => ?_
    walk_at "rd"
    have cl1 := cutV_length rows (some 1) (some 4)
    have cl2 := cutV_length rows (some 5) none
    refine r_catN (k5.get e4) e5 (by omega) fun s3 F6 k6 t6 n6 e6 => ?_
    walk_at "rd"
    have k36 : Kp [] F2 F6 := ((k3.trans k4).trans k5).trans k6
    have hr6 : Dts F6 (tab.map rowD) rows := hrows.mono (tg.trans k36.t0)
    have c6 := c2.keep k36
    have hcut0 : Dts F6 (tabR.map rowD) (cutV rows (some 1) (some 4) ++ cutV rows (some 5) none) := by
      have e1 : cutV rows (some 1) (some 4) = (rows.drop 1).take 3 := by
        unfold cutV
        rw [rl]
        rfl
      have e2 : cutV rows (some 5) none = rows.drop 5 := by
        unfold cutV
        rw [rl]
        show List.take 4 (List.drop 5 rows) = _
        rw [List.take_of_length_le]
        rw [List.length_drop, rl]
        decide
      rw [e1, e2]
      show Dts F6 (((tab.drop 1).take 3 ++ tab.drop 5).map rowD) _
      rw [List.map_append, List.map_take, List.map_drop, List.map_drop]
      exact Dts.app ((hr6.drop 1).take 3) (hr6.drop 5)
    generalize ec : cutV rows (some 1) (some 4) ++ cutV rows (some 5) none = cut at e6 hcut0
    have hcut := hcut0
    have lcut : cut.length ≤ 18 := by
      rw [← ec, List.length_append]
      omega
    clear ec
    refine ⟨s3, rfl, ⟨_, SqL.of e6⟩, fun L2 nL2 => lc_it (walk_list (K := K) (a := s3) (xs := cut)) (fun i H' => ∃ ys zs, H' L2 = some (.lst ys) ∧ Dts F6 (zs.map rowD) ys ∧ zs.Sublist (tabR.take i) ∧ Kp [c] F6 H' ∧ CS a H' c)
      ⟨[], [], upd_same, (show Dts F6 (([] : Sg).map rowD) [] from rfl), List.nil_sublist _, (Kp.refl _ _).up nL2, c6.own (c6.ne nL2)⟩ (fun i H' _ ⟨_, _, _, _, _, k, _⟩ => SqL.of (k s3 _ ?_ e6)) ?_ ?_⟩
    · exact fun z => (CS.ne (c2.keep ((k3.trans k4).trans k5)) n6).1 (List.mem_singleton.mp z)
    · rintro i y H0 F7 hi7 ⟨ys, zs, eL2, hys, sub, k7, c7⟩ ⟨rfl, hy⟩
      obtain ⟨dr, hdr, hdy⟩ := hcut.at hy
      rw [List.getElem?_map] at hdr
      obtain ⟨r, hr, rfl⟩ := Option.map_eq_some_iff.mp hdr
      walk_at "rd"
      refine ⟨rfl, ?_⟩
      walk_at "rd"
      refine ⟨c, a, 3, rfl, c7, by decide, by decide, fun g F8 lo8 hi8 k8 c8 => ?_⟩
      walk_at "rd"
      have neL2 : L2 ≠ c := (c6.ne nL2).1
      have eL28 := k8 L2 _ (by simpa using neL2) eL2
      have lys : ys.length ≤ 9 := by
        have l1 := hys.len
        have l2 := sub.length_le
        have l3 := List.length_take_le' i tabR
        rw [List.length_map] at l1
        have l4 : tabR.length = 7 := rfl
        omega
      refine if_2 (fun _ => ?_) (fun _ => ?_)
      · walk_at "rd"
        refine ⟨ys, eL28, Nat.lt_of_le_of_lt (show _ ≤ 1000 by omega) (by decide), ys ++ [y], zs ++ [r], upd_same, ?_, ?_, (k7.trans k8).own nL2, c8.own (c6.ne nL2)⟩
        · rw [List.map_append]
          exact hys.snoc hdy
        · rw [take_one hr]
          exact sub.append (List.Sublist.refl _)
      · refine ⟨ys, zs, eL28, hys, ?_, k7.trans k8, c8⟩
        rw [take_one hr]
        exact sub.trans (List.sublist_append_left _ _)
    · rintro F7 ⟨ys, zs, eL2, hys, sub, k7, c7⟩
      have t7 : KeepT F6 F7 := c6.t k7
      have ne3 : l3 ≠ c := (CS.ne c2 n3).1
      have e37 : F7 l3 = some (.lst [V.ref p8, V.ref p16]) := k7 l3 _ (by simpa using ne3) (k6.get (k5.get (k4.get e3)))
      have sub2 : zs.Sublist tabR := sub.trans (List.take_sublist _ _)
      have lzs := sub2.length_le
      have l7 : tabR.length = 7 := rfl
      have lys : ys.length = zs.length := by rw [hys.len, List.length_map]
      walk_at "rd"
      refine r_catN e37 eL2 (by simp; omega) fun l4 F8 k8 t8 n8 e8 => ?_
      walk_at "rd"
      have c8 := c7.keep k8
      have subA : ([rC, rE] ++ zs : Sg).Sublist tabA := (List.Sublist.refl _).append sub2
      have hc : rC ∈ ([rC, rE] ++ zs : Sg) := by simp
      have he : rE ∈ ([rC, rE] ++ zs : Sg) := by simp
      have hk : Dts F8 (([rC, rE] ++ zs : Sg).map rowD) ([V.ref p8, V.ref p16] ++ ys) := by
        rw [List.map_append]
        refine Dts.app ?_ (hys.mono (t7.trans t8))
        obtain ⟨x0, hx0, q0⟩ := hr6.at g0
        obtain ⟨x4, hx4, q4⟩ := hr6.at g4
        cases hx0
        cases hx4
        exact Dts.cons (q0.mono (t7.trans t8)) (Dts.cons (q4.mono (t7.trans t8)) Dts.nil)
      have good := sgG_of tf (by omega) subA hc he
      have lk : ([V.ref p8, V.ref p16] ++ ys).length ≤ 20 := by
        rw [List.length_append, lys]
        exact Nat.le_trans (Nat.add_le_add_left lzs 2) (by rw [l7]; decide)
      generalize ([rC, rE] ++ zs : Sg) = fin at subA hk good
      generalize [V.ref p8, V.ref p16] ++ ys = kept at e8 hk lk
      have hns : ∀ r ∈ fin, r.1.length ≤ 10 := fun r hr => (tabA_ok r (subA.subset hr)).2.1
      refine ⟨l4, rfl, ⟨_, SqL.of e8⟩, fun L3 nL3 => lc_it (walk_list (K := K) (a := l4) (xs := kept)) (fun i H' => ∃ ps kvs, H' L3 = some (.lst (ps.map V.ref)) ∧ Prs H' ((fin.take i).map fun r => (front ++ r.1, r.2)) ps kvs ∧ Kp [] F8 H')
        ⟨[], [], upd_same, Prs.nil, (Kp.refl _ _).up nL3⟩ (fun i H' _ ⟨_, _, _, _, k⟩ => SqL.of (k.get e8)) ?_ ?_⟩
      · rintro i y H0 F9 hi9 ⟨ps, kvs, eL3, hps, k9⟩ ⟨rfl, hy⟩
        obtain ⟨dr, hdr, hdy⟩ := (hk.mono k9.t0).at hy
        rw [List.getElem?_map] at hdr
        obtain ⟨r, hr, rfl⟩ := Option.map_eq_some_iff.mp hdr
        obtain ⟨p, us, rfl, hp, hus⟩ := hdy
        obtain ⟨u1, r1, rfl, hu1, u2, r2, rfl, hu2, rfl⟩ := hus
        cases hu1.str
        have ln := hns r (List.mem_of_getElem? hr)
        walk_at "rd"
        refine r_gtup hp rfl ?_
        walk_at "rd"
        refine ⟨rfl, ?_⟩
        walk_at "rd"
        refine ⟨front, r.1, rfl, rfl, Nat.le_trans (show _ ≤ 1000 by omega) (by decide), ?_⟩
        walk_at "rd"
        refine r_tupN (ds := [.str (front ++ r.1), r.2.d]) (Dts.cons dt_str (Dts.cons hu2 Dts.nil)) (by simp) fun p9 F10 k10 t10 n10 e10 d10 => ?_
        have eL30 := k10.get eL3
        have tn : KeepT F10 (upd F10 L3 (.lst (ps.map V.ref ++ [.ref p9]))) := fun p xs z => by rw [upd_ne (ne_of z eL30 (fun q => by cases q))]; exact z
        refine ⟨_, eL30, ?_, ps ++ [p9], kvs ++ [(Sum.inr (front ++ r.1), u2)], ?_, ?_, (k9.trans k10).own nL3⟩
        · rw [List.length_map, hps.1, List.length_map]
          have := List.length_take_le' i fin
          have l5 := subA.length_le
          have l6 : tabA.length = 9 := rfl
          exact Nat.lt_of_le_of_lt (show _ ≤ 1000 by omega) (by decide)
        · rw [upd_same, List.map_append]
          rfl
        · rw [take_one hr, List.map_append]
          exact (hps.mono (t10.trans tn)).snoc (tn _ _ e10) ((hu2.mono t10).mono tn)
      · rintro F9 ⟨ps, kvs, eL3, hps, k9⟩
        walk_at "rd"
        have lfin : fin.length = kept.length := by
          have := hk.len
          rw [List.length_map] at this
          exact this.symm
        rw [List.take_of_length_le (by omega)] at hps
        refine ⟨L3, ps.map V.ref, rfl, SqL.of eL3, fun l ob nl hob => ?_⟩
        walk_at "rd"
        have kl : Kp [] F9 (upd F9 l (.frz ob (.tup (ps.map V.ref)))) := (Kp.refl _ _).up nl
        refine q _ _ _ ?_ ?_ ⟨l, ob, ps, kvs, rfl, upd_same, hob, hps.mono kl.t0⟩ good
        · exact (kk2.trans ((k36.of0.trans k7).trans ((k8.trans k9).trans kl).of0))
        · exact c8.keep (k9.trans kl)
end
end K03
end

section
/-! The drawn prefix; the heads that fit. -/
namespace K03
open PySem L2 PyProof.Rows PySem.Spec Lc
variable [Lc.Tbs]
local macro_rules | `(tactic| walk_at "rd") => `(tactic| repeat (first
  | with_reducible refine r_seq ?_ | with_reducible refine r_mknx ?_ | with_reducible refine r_mkrt ?_ | with_reducible refine r_asg ?_ | with_reducible refine r_name ?_ | with_reducible refine r_next ?_
  | with_reducible refine r_drop ?_ | with_reducible refine r_ret ?_ | with_reducible refine r_if ?_
  | ((with_reducible refine' r_var ?e ?_); (case e => rfl)) | with_reducible refine r_c ?_ | with_reducible refine r_op ?_ | with_reducible refine r_un ?_ | with_reducible refine r_test ?_ | with_reducible refine r_tb ?_
  | with_reducible refine r_and ?_ | with_reducible refine r_or ?_ | with_reducible refine r_not ?_ | with_reducible refine r_andV ?_ | with_reducible refine r_orV ?_ | with_reducible refine r_notV ?_ | with_reducible refine r_bl ?_
  | with_reducible refine r_cb ?_ | with_reducible refine r_cons ?_ | with_reducible refine r_nil ?_ | with_reducible refine r_tup ?_ | with_reducible refine r_lst ?_ | with_reducible refine r_call ?_
  | with_reducible refine r_i0 ?_ | with_reducible refine r_par ?_ | with_reducible refine r_two ?_ | with_reducible refine r_lc ?_ | with_reducible refine r_iL ?_ | with_reducible refine r_iT ?_ | with_reducible refine r_iS ?_ | with_reducible refine r_i1 ?_ | with_reducible refine r_yes ?_ | with_reducible refine r_chain ?_ | with_reducible refine if_t rfl ?_ | with_reducible refine if_f rfl ?_ | with_reducible refine r_nt ?_ | ((with_reducible refine r_eq ?e ?_); (case e => rfl)) | ((with_reducible refine r_ne ?e ?_); (case e => rfl))
  | with_reducible refine r_sub ?_ | with_reducible refine r_sl ?_ | with_reducible refine r_nopart ?_ | with_reducible refine r_part ?_ | with_reducible refine r_int ?_ | with_reducible refine r_bm ?_ | with_reducible refine r_bm0 ?_ | with_reducible refine r_gcons ?_ | with_reducible refine r_gnil ?_ | with_reducible refine r_dget1 ?_ | with_reducible refine r_dget2 ?_))


local macro_rules | `(tactic| walk_at "dt") => `(tactic| repeat' (first | (show Dt _ _ _; assumption) | exact dt_str | exact dt_int | exact dt_bl | exact dt_non | exact Dts.nil | refine' Dts.cons ?_ ?_ | (refine' Dt.mono ?kk ?_; (case kk => assumption)) | fail))
local macro_rules | `(tactic| walk_at "at") => `(tactic| repeat (first | assumption | (refine' Kp.ge ?kk ?nn ?_; (case kk => assumption); (case nn => intro _ z; cases z)) | fail))
local macro_rules | `(tactic| walk_at "kp") => `(tactic| repeat (first | assumption | exact Kp.refl _ _ | (refine' Kp.trans ?_ ?kk; (case kk => assumption)) | fail))
local macro_rules | `(tactic| walk_at "tup") => `(tactic| (refine' r_tupN ?h ?f ?k; (case h => walk_at "dt"); (case f => simp); skip))
def spPrefix : Sp := fun vs H Q _ => ∃ (c a : Addr), vs = [.ref c] ∧ CS a H c ∧ ∀ v ts H', Kp [c] H H' → CS a H' c → Dt H' (.tup (tyds ts)) v → ts.length ≤ 3 → (∀ t ∈ ts, KindOk 2 t.d) → Q v H'
theorem sgGet_mem : ∀ {sg : Sg} {n : Str} {t : Lc.Ty}, (sg.map (·.1)).Nodup → (n, t) ∈ sg → sgGet sg n = some t
  | r :: sg, n, t, nd, h => by
    rw [List.map_cons, List.nodup_cons] at nd
    unfold sgGet
    rw [List.find?_cons]
    rcases List.mem_cons.mp h with rfl | h
    · rw [decide_eq_true rfl]
      rfl
    · have ne : r.1 ≠ n := fun z => nd.1 (List.mem_map.mpr ⟨(n, t), h, z.symm⟩)
      rw [decide_eq_false ne]
      exact sgGet_mem nd.2 h
theorem hdB_c {sg : Sg} {hs own : List Lc.Ty} {n : Str} {t : Lc.Ty} (nd : (sg.map (·.1)).Nodup) (h : (n, t) ∈ sg) : hdB sg hs own (.tup [.str "c", .str n]) = some t := by
  show hkB sg hs own (.str "c") (.str n) = _
  unfold hkB
  rw [eqD_str, decide_eq_true rfl]
  exact sgGet_mem nd h
theorem hdB_b {sg : Sg} {hs own : List Lc.Ty} {k : Nat} (h : k < own.length) : hdB sg hs own (.tup [.str "b", .int k]) = own[own.length - 1 - k]? := by
  show hkB sg hs own (.str "b") (.int k) = _
  unfold hkB
  rw [show (eqD (.str "b") (.str "c") && (D.int k).isS) = false by rw [eqD_str]; rfl, if_neg (by decide), hkM_int, if_neg (by omega)]
  unfold hkI
  rw [eqD_str, decide_eq_true rfl, decide_eq_true (by omega)]
  rfl
theorem hdB_h {sg : Sg} {hs own : List Lc.Ty} {k : Nat} (h : k < hs.length) : hdB sg hs own (.tup [.str "h", .int k]) = hs[k]? := by
  show hkB sg hs own (.str "h") (.int k) = _
  unfold hkB
  rw [show (eqD (.str "h") (.str "c") && (D.int k).isS) = false by rw [eqD_str]; rfl, if_neg (by decide), hkM_int, if_neg (by omega)]
  unfold hkI
  rw [show (eqD (.str "h") (.str "b")) = false by rw [eqD_str]; exact decide_eq_false (by decide), Bool.false_and, if_neg (by decide), eqD_str, decide_eq_true rfl, decide_eq_true (by omega)]
  rfl
/-- a head with its type, as a row -/
abbrev Hr := D × Lc.Ty
def hrD (r : Hr) : D := .tup [r.1, r.2.d]
/-- what a row of the heads is -/
structure HrOk (sg : Sg) (hs own : List Lc.Ty) (sort : Str) (r : Hr) : Prop where
  hd : hdB sg hs own r.1 = some r.2
  s : r.2.s = sort
  tx : Wd Tx 3 r.1
  dp : r.1.dp = 2
  sz : r.1.sz = 3
  pr : ∃ x m, r.1 = .tup [.str x, m]
structure HrOk0 (sg : Sg) (hs own : List Lc.Ty) (r : Hr) : Prop where
  hd : hdB sg hs own r.1 = some r.2
  tx : Wd Tx 3 r.1
  dp : r.1.dp = 2
  sz : r.1.sz = 3
  pr : ∃ x m, r.1 = .tup [.str x, m]
def spHeads : Sp := fun vs H Q _ => ∃ sv hv ov sg hs own sort, vs = [sv, hv, ov, .str sort] ∧ SgV H sg sv ∧ SgG sg ∧ Dt H (.tup (tyds hs)) hv ∧ Dt H (.tup (tyds own)) ov ∧ own.length ≤ 2000 ∧ hs.length ≤ 1000 ∧
  ∀ (L : Addr) (ys : List V) (rs : List Hr) (H' : Hp), Kp [] H H' → H L = none → H' L = some (.lst ys) → Dts H' (rs.map hrD) ys → rs.length ≤ 5000 → (∀ r ∈ rs, HrOk sg hs own sort r) → (AB sort → ∃ r ∈ rs, r.2.as = []) → Q (.ref L) H'
abbrev s_law_prefix : Stmt := top 28
abbrev N_law_prefix : List Str := ["c", "k"]
theorem sc_law_prefix : FnScope N_law_prefix ["c"] (defScope s_law_prefix) := ⟨rfl, rfl, rfl, by decide +kernel, rfl, by decide +kernel, by decide +kernel⟩
abbrev s_law_heads : Stmt := top 26
abbrev N_law_heads : List Str := ["signature", "holes", "own", "sort", "found", "k", "row", "name", "kind"]
theorem sc_law_heads : FnScope N_law_heads ["signature", "holes", "own", "sort"] (defScope s_law_heads) := ⟨rfl, rfl, rfl, by decide +kernel, rfl, by decide +kernel, by decide +kernel⟩
section
variable {P : Program} {w : World} {K : PySem.W.Frag} {mg : Str → Option Value} {base : Heap}
theorem ok_prefix (F : Df K mg "_law_prefix" s_law_prefix ["c"]) (T : Txt mg) (C_law_take : Cal P w K mg base "_law_take" ["c", "many"] 8 spTake) (C_law_kind : Cal P w K mg base "_law_kind" ["c", "high"] 8 (spKind 4)) :
    Cal P w K mg base "_law_prefix" ["c"] 9 spPrefix := by
  refine F.ok sc_law_prefix (fun vs H Q E h => ?_) (fun f cdv A outer s H vs Q E hr h => ?_)
  · obtain ⟨c, a, rfl, _⟩ := h
    rfl
  obtain ⟨c, a, rfl, cs, q⟩ := h
  refine ⟨_, (pss_one (ps_ret (pe_callTy call_tuple_of (by rfl) T.z_tuple (by decide +kernel) (pa_cons (pe_lc (own := [("k", 1)]) (g := gName 1) rfl sc_law_prefix.nd (pi_range1 rfl T.z_range (pa_cons (pe_ix ix_list (pe_lst (pa_cons pe_int (pa_cons pe_int (pa_cons pe_int (pa_cons pe_int pa_nil))))) (pe_cal C_law_take hr rfl (pa_cons (pv 0) (pa_cons pe_int pa_nil))) (fun _ _ => rfl)) pa_nil)) (blkOk_by (N := N_law_prefix) (sc := defScope s_law_prefix) (by decide +kernel)) (fun _ _ _ _ _ => (pg_name (i := 1) sc_law_prefix.nd rfl (Or.inl rfl))) (fun _ _ _ _ _ => pts_nil) (fun _ _ _ _ _ => (pe_cal C_law_kind hr rfl (pa_cons (pv 0) (pa_cons (pe_ix (r := rIxL K) ix_list (pe_lst (pa_cons pe_int (pa_cons pe_int (pa_cons pe_int (pa_cons pe_int pa_nil))))) (pe_cal C_law_take hr rfl (pa_cons (pv 0) (pa_cons pe_int pa_nil))) (fun _ _ => rfl)) pa_nil))))) pa_nil)))), ?_⟩
  walk_at "rd"
  refine r_lstN (by decide) fun l1 H1 k1 t1 n1 h1 => ?_
  walk_at "rd"
  refine ⟨c, a, 4, rfl, cs.keep k1, by decide, by decide, fun i H2 lo hi k2 cs2 => ?_⟩
  have ne1 : l1 ≠ c := (cs.ne n1).1
  obtain ⟨v, hv, mv, _⟩ := at_mem (xs := [.int 0, .int 1, .int 2, .int 3]) lo hi
  have kc2 : Kp [c] H H2 := (k1.of0).trans k2
  walk_at "rd"
  refine r_ixL (k2 l1 _ (by simpa using ne1) h1) hv ?_
  walk_at "rd"
  obtain ⟨m, rfl, om⟩ : ∃ m : Nat, v = .int m ∧ m ≤ 3 := by
    simp only [List.mem_cons, List.not_mem_nil, or_false] at mv
    rcases mv with rfl | rfl | rfl | rfl
    · exact ⟨0, rfl, by decide⟩
    · exact ⟨1, rfl, by decide⟩
    · exact ⟨2, rfl, by decide⟩
    · exact ⟨3, rfl, by decide⟩
  refine ⟨_, rfl, by omega, by omega, fun L nL => lc_it walk_range (fun i H' => ∃ ys ts, H' L = some (.lst ys) ∧ Dts H' (tyds ts) ys ∧ ts.length = i ∧ Kp [c] H2 H' ∧ CS a H' c ∧ ∀ t ∈ ts, KindOk 2 t.d)
    ⟨[], [], upd_same, rfl, rfl, (Kp.refl _ _).up nL, cs2.keep ((Kp.refl _ _).up nL), fun d hd => nomatch hd⟩ (fun _ _ _ _ => trivial) ?_ ?_⟩
  · rintro i y H0 H5 hi5 ⟨ys, ts, eL, hds, ldn, k5, cs5, all⟩ ⟨rfl, rfl⟩
    have neL : L ≠ c := (cs2.ne nL).1
    walk_at "rd"
    refine ⟨rfl, ?_⟩
    walk_at "rd"
    refine r_lstN (by decide) fun l3 H6 k6 t6 n6 e6 => ?_
    walk_at "rd"
    refine ⟨c, a, 4, rfl, cs5.keep k6, by decide, by decide, fun g H7 lo3 hi3 k7 cs7 => ?_⟩
    have ne3 : l3 ≠ c := (cs5.ne n6).1
    walk_at "rd"
    obtain ⟨v2, hv2, mv2, _⟩ := at_mem (xs := [.int 0, .int 0, .int 1, .int 2]) lo3 hi3
    obtain ⟨g2, rfl, lg2⟩ : ∃ g2 : Nat, v2 = .int g2 ∧ g2 ≤ 2 := by
      simp only [List.mem_cons, List.not_mem_nil, or_false] at mv2
      rcases mv2 with rfl | rfl | rfl | rfl
      · exact ⟨0, rfl, by decide⟩
      · exact ⟨0, rfl, by decide⟩
      · exact ⟨1, rfl, by decide⟩
      · exact ⟨2, rfl, by decide⟩
    refine r_ixL (k7 l3 _ (by simpa using ne3) e6) hv2 ?_
    walk_at "rd"
    refine ⟨c, a, g2, rfl, by omega, cs7, fun v8 d8 H8 k8 cs8 hd8 ok8 => ?_⟩
    obtain ⟨t8, rfl⟩ := ok8.ty
    have kk : Kp [c] H5 H8 := (k6.of0.trans k7).trans k8
    have eL8 : H8 L = some (.lst ys) := kk L _ (by simpa using neL) eL
    have tt : KeepT H5 H8 := cs5.t kk
    refine ⟨ys, eL8, ?_, ys ++ [v8], ts ++ [t8], upd_same, ?_, ?_, ?_, ?_, ?_⟩
    · have := hds.len
      rw [tyds_len] at this
      exact Nat.lt_of_le_of_lt (show _ ≤ 1000 by omega) (by decide)
    · rw [tyds_app]
      exact Dts.mono (fun p xs z => by rw [upd_ne (ne_of z eL8 (fun q => by cases q))]; exact z) ((hds.mono tt).snoc hd8)
    · rw [List.length_append, ldn]
      rfl
    · exact (k5.trans kk).own nL
    · exact cs8.own (cs2.ne nL)
    · intro d hd
      rcases List.mem_append.mp hd with hd | hd
      · exact all d hd
      · rw [List.mem_singleton.mp hd]
        exact ok8.up lg2
  · rintro H5 ⟨ys, ts, eL, hds, ldn, k5, cs5, all⟩
    walk_at "rd"
    refine ⟨L, ys, rfl, .inl ⟨SqL.of eL, fun l nl => ?_⟩⟩
    obtain ⟨k6, t6, d6⟩ := new_tup nl hds
    walk_at "rd"
    exact q _ ts _ ((kc2.trans k5).trans k6.of0) (cs5.keep k6) d6 (by rw [ldn]; omega) all
theorem ok_heads (F : Df K mg "_law_heads" s_law_heads ["signature", "holes", "own", "sort"]) (T : Txt mg) :
    Cal P w K mg base "_law_heads" ["signature", "holes", "own", "sort"] 1 spHeads := by
  refine F.ok sc_law_heads (fun vs H Q E h => ?_) (fun f cdv A outer s H vs Q E hr h => ?_)
  · obtain ⟨sv, hv, ov, sg, hs, own, sort, rfl, _⟩ := h
    rfl
  obtain ⟨sv, hv, ov, sg, hs, own, sort, rfl, hsg, good, hh, ho, lown, lhs, q⟩ := h
  obtain ⟨ah, hx, rfl, hah, hhs⟩ := hh.tup
  obtain ⟨ao, ox, rfl, hao, hos⟩ := ho.tup
  have lh : hx.length = hs.length := by rw [hhs.len, tyds_len]
  have lo : ox.length = own.length := by rw [hos.len, tyds_len]
  refine ⟨_, (pss_cons (ps_setLc (i := 4) (own := [("k", 5)]) (g := gName 5) (by rfl) sc_law_heads.nd rfl rfl (sw_true rfl rfl rfl (by decide +kernel)) (pi_range1 rfl T.z_range (pa_cons (pe_callB call_len_seq (by rfl) T.z_len (by decide +kernel) (pa_cons (pv 2) pa_nil)) pa_nil)) (blkOk_by (N := N_law_heads) (sc := defScope s_law_heads) (by decide +kernel)) (fun _ _ _ _ _ => (pg_name (i := 5) sc_law_heads.nd rfl (Or.inl rfl))) (fun _ _ _ _ _ => pts_nil) (fun _ _ _ _ _ => (pe_tup (pa_cons (pe_tup (pa_cons pe_str (pa_cons (pv 5) pa_nil))) (pa_cons (pe_ix (r := rIxT K) ix_tup (pv 2) (pe_op op_sub (pe_op op_sub (pe_callB (r := Evl.rLenS K) call_len_seq (by rfl) T.z_len (by decide +kernel) (pa_cons (pv 2) pa_nil)) pe_int) (pv 5)) (fun _ _ => rfl)) pa_nil)))))
      (pss_cons (ps_set (i := 4) sc_law_heads.nd rfl (Or.inl rfl) (pe_op op_cat (pv 4) (pe_lc (own := [("name", 7), ("kind", 8)]) (g := gTup K 2 (gCons (gName 7) (gCons (gName 8) gNil))) rfl sc_law_heads.nd (pi_tup (pv 0)) (blkOk_by (N := N_law_heads) (sc := defScope s_law_heads) (by decide +kernel)) (fun _ _ _ _ _ => (pg_tup (by rfl) (pgs_cons (pg_name (i := 7) sc_law_heads.nd rfl (Or.inl rfl)) (pgs_cons (pg_name (i := 8) sc_law_heads.nd rfl (Or.inl rfl)) pgs_nil)))) (fun _ _ _ _ _ => pts_nil) (fun _ _ _ _ _ => (pe_tup (pa_cons (pe_tup (pa_cons pe_str (pa_cons (pv 7) pa_nil))) (pa_cons (pv 8) pa_nil)))))))
      (pss_cons (ps_set (i := 4) sc_law_heads.nd rfl (Or.inl rfl) (pe_op op_cat (pv 4) (pe_lc (own := [("k", 5)]) (g := gName 5) rfl sc_law_heads.nd (pi_range1 rfl T.z_range (pa_cons (pe_callB call_len_seq (by rfl) T.z_len (by decide +kernel) (pa_cons (pv 1) pa_nil)) pa_nil)) (blkOk_by (N := N_law_heads) (sc := defScope s_law_heads) (by decide +kernel)) (fun _ _ _ _ _ => (pg_name (i := 5) sc_law_heads.nd rfl (Or.inl rfl))) (fun _ _ _ _ _ => pts_nil) (fun _ _ _ _ _ => (pe_tup (pa_cons (pe_tup (pa_cons pe_str (pa_cons (pv 5) pa_nil))) (pa_cons (pe_ix (r := rIxT K) ix_tup (pv 1) (pv 5) (fun _ _ => rfl)) pa_nil)))))))
      (pss_one (ps_ret (pe_lc (own := [("row", 6)]) (g := gName 6) rfl sc_law_heads.nd (pi_list (pv 4)) (blkOk_by (N := N_law_heads) (sc := defScope s_law_heads) (by decide +kernel)) (fun _ _ _ _ _ => (pg_name (i := 6) sc_law_heads.nd rfl (Or.inl rfl))) (fun _ _ _ _ _ => pts_one (pt_cmpR op_eq (pe_ix (r := rIxT K) ix_tup (pe_ix (r := rIxT K) ix_tup (pv 6) pe_int (fun _ _ => rfl)) pe_int (fun _ _ => rfl)) (pv 3) (nomark _))) (fun _ _ _ _ _ => (pv 6)))))))), ?_⟩
  walk_at "rd"
  refine ⟨ao, ox, rfl, .inr (SqT.of hao), ?_⟩
  walk_at "rd"
  rw [lo]
  refine ⟨_, rfl, by omega, by omega, fun L1 nL1 => lc_it walk_range (fun i H' => ∃ (ys : List V) (rs : List Hr), H' L1 = some (.lst ys) ∧ Dts H' (rs.map hrD) ys ∧ rs.length = i ∧ Kp [] H H' ∧ ∀ r ∈ rs, HrOk0 sg hs own r)
    ⟨[], [], upd_same, (show Dts _ (([] : List Hr).map hrD) [] from rfl), rfl, (Kp.refl _ _).up nL1, fun d hd => nomatch hd⟩ (fun _ _ _ _ => trivial) ?_ ?_⟩
  · rintro i y H0 H1 hi1 ⟨ys, rs, eL, hys, lrs, k1, all⟩ ⟨rfl, rfl⟩
    have hi : i < own.length := by simpa using hi1
    walk_at "rd"
    refine ⟨rfl, ?_⟩
    walk_at "rd"
    refine r_tupN (ds := [.str "b", .int i]) (Dts.cons dt_str (Dts.cons (show (V.int (0 + (i : Int)) : V) = .int i by rw [Int.zero_add]) Dts.nil)) (by simp) fun p1 G1 g1 u1 m1 e1 d1 => ?_
    walk_at "rd"
    have k11 := k1.trans g1
    refine ⟨ao, ox, rfl, .inr (SqT.of (k11.get hao)), ?_⟩
    walk_at "rd"
    have lt : own.length - 1 - i < own.length := by omega
    obtain ⟨x, hx1, hdx⟩ := (hos.mono k11.t0).of (tyds_at (List.getElem?_eq_getElem lt))
    have z := atI_nat hx1
    have iz : ((own.length - 1 - i : Nat) : Int) = (ox.length : Int) - 1 - (0 + i) := by omega
    rw [iz] at z
    refine r_ixT (k11.get hao) z ?_
    walk_at "rd"
    refine r_tupN (ds := [.tup [.str "b", .int i], (own[own.length - 1 - i]).d]) (Dts.cons d1 (Dts.cons hdx Dts.nil)) (by simp) fun p2 G2 g2 u2 m2 e2 d2 => ?_
    walk_at "rd"
    have eL2 := (g1.trans g2).get eL
    refine ⟨ys, eL2, ?_, ys ++ [.ref p2], rs ++ [(.tup [.str "b", .int i], own[own.length - 1 - i])], upd_same, ?_, ?_, (k11.trans g2).own nL1, ?_⟩
    · have := hys.len
      rw [List.length_map] at this
      exact Nat.lt_of_le_of_lt (show _ ≤ 5000 by omega) (by decide)
    · rw [List.map_append]
      exact Dts.mono (fun p xs z => by rw [upd_ne (ne_of z eL2 (fun q => by cases q))]; exact z) ((hys.mono (u1.trans u2)).snoc d2)
    · rw [List.length_append, lrs]
      rfl
    · intro r hr
      rcases List.mem_append.mp hr with hr | hr
      · exact all r hr
      · rw [List.mem_singleton.mp hr]
        refine ⟨?_, ⟨by show 2 ≤ 3; decide, (by decide +kernel : Tx "b"), trivial, trivial⟩, rfl, rfl, _, _, rfl⟩
        rw [hdB_b hi, List.getElem?_eq_getElem lt]
  rintro H1 ⟨ys1, rs1, eL1, hys1, lrs1, k1, all1⟩
  walk_at "rd"
  obtain ⟨asg, obs, ps, kvs, rfl, hasg, hobs, hprs⟩ := hsg
  have sq : ∀ {H' : Hp}, Kp [] H H' → SqT K H' asg (ps.map V.ref) := fun k => .inl (.inr ⟨obs, k.get hasg⟩)
  refine ⟨asg, rfl, ⟨_, sq k1⟩, fun L2 nL2 => lc_it (walk_tup (K := K) (a := asg) (xs := ps.map V.ref)) (fun i H' => ∃ (ys : List V) (rs : List Hr), H' L2 = some (.lst ys) ∧ Dts H' (rs.map hrD) ys ∧ rs.length = i ∧ Kp [] H1 H' ∧ (∀ r ∈ rs, HrOk0 sg hs own r) ∧ ∀ r ∈ sg.take i, (D.tup [.str "c", .str r.1], r.2) ∈ rs)
    ⟨[], [], upd_same, (show Dts _ (([] : List Hr).map hrD) [] from rfl), rfl, (Kp.refl _ _).up nL2, (fun d hd => nomatch hd), fun r hr => nomatch hr⟩ (fun i H' _ ⟨_, _, _, _, _, k, _⟩ => sq (k1.trans k)) ?_ ?_⟩
  · rintro i y H0 H2 hi2 ⟨ys, rs, eL, hys, lrs, k2, all, inn⟩ ⟨rfl, hy⟩
    have hi : i < sg.length := by
      have := hprs.1
      simp at hi2
      omega
    obtain ⟨p, v, e1, e2, e3, e4⟩ := hprs.2.2 i _ (List.getElem?_eq_getElem hi)
    rw [List.getElem?_map, e1] at hy
    cases hy
    have k02 := k1.trans k2
    walk_at "rd"
    refine r_gtup (k02.get e3) rfl ?_
    walk_at "rd"
    refine ⟨rfl, ?_⟩
    walk_at "rd"
    refine r_tupN (ds := [.str "c", .str (sg[i]).1]) (by walk_at "dt") (by simp) fun p1 G1 g1 u1 m1 f1 d1 => ?_
    walk_at "rd"
    refine r_tupN (ds := [.tup [.str "c", .str (sg[i]).1], (sg[i]).2.d]) (Dts.cons d1 (Dts.cons (e4.mono (k02.trans g1).t0) Dts.nil)) (by simp) fun p2 G2 g2 u2 m2 f2 d2 => ?_
    walk_at "rd"
    have eL2 := (g1.trans g2).get eL
    have msg : sg[i] ∈ sg := List.getElem_mem hi
    refine ⟨ys, eL2, ?_, ys ++ [.ref p2], rs ++ [(.tup [.str "c", .str (sg[i]).1], (sg[i]).2)], upd_same, ?_, ?_, ((k2.trans g1).trans g2).own nL2, ?_, ?_⟩
    · have := hys.len
      rw [List.length_map] at this
      have := good.few
      exact Nat.lt_of_le_of_lt (show _ ≤ 5000 by omega) (by decide)
    · rw [List.map_append]
      exact Dts.mono (fun p xs z => by rw [upd_ne (ne_of z eL2 (fun q => by cases q))]; exact z) ((hys.mono (u1.trans u2)).snoc d2)
    · rw [List.length_append, lrs]
      rfl
    · intro r hr
      rcases List.mem_append.mp hr with hr | hr
      · exact all r hr
      · rw [List.mem_singleton.mp hr]
        refine ⟨hdB_c good.ok.nd msg, ⟨by show 2 ≤ 3; decide, (by decide +kernel : Tx "c"), (good.ok.ok _ msg).1, trivial⟩, rfl, rfl, _, _, rfl⟩
    · intro r hr
      rw [take_one (List.getElem?_eq_getElem hi)] at hr
      rcases List.mem_append.mp hr with hr | hr
      · exact List.mem_append_left _ (inn r hr)
      · rw [List.mem_singleton.mp hr]
        exact List.mem_append_right _ List.mem_cons_self
  rintro H2 ⟨ys2, rs2, eL2, hys2, lrs2, k2, all2, inn2⟩
  have lps : (ps.map V.ref).length = sg.length := by rw [List.length_map, hprs.1]
  rw [lps] at lrs2 inn2
  rw [List.take_length] at inn2
  have fsg := good.few
  have l1 := hys1.len
  have l2 := hys2.len
  rw [List.length_map] at l1 l2
  have k02 := k1.trans k2
  walk_at "rd"
  refine r_catN (k2.get eL1) eL2 (by omega) fun L3 H3 k3 t3 n3 e3 => ?_
  walk_at "rd"
  have k03 := k02.trans k3
  refine ⟨ah, hx, rfl, .inr (SqT.of (k03.get hah)), ?_⟩
  walk_at "rd"
  rw [lh]
  refine ⟨_, rfl, by omega, by omega, fun L4 nL4 => lc_it walk_range (fun i H' => ∃ (ys : List V) (rs : List Hr), H' L4 = some (.lst ys) ∧ Dts H' (rs.map hrD) ys ∧ rs.length = i ∧ Kp [] H3 H' ∧ ∀ r ∈ rs, HrOk0 sg hs own r)
    ⟨[], [], upd_same, (show Dts _ (([] : List Hr).map hrD) [] from rfl), rfl, (Kp.refl _ _).up nL4, fun d hd => nomatch hd⟩ (fun _ _ _ _ => trivial) ?_ ?_⟩
  · rintro i y H0 H4 hi4 ⟨ys, rs, eL, hys, lrs, k4, all⟩ ⟨rfl, rfl⟩
    have hi : i < hs.length := by simpa using hi4
    walk_at "rd"
    refine ⟨rfl, ?_⟩
    walk_at "rd"
    refine r_tupN (ds := [.str "h", .int i]) (Dts.cons dt_str (Dts.cons (show (V.int (0 + (i : Int)) : V) = .int i by rw [Int.zero_add]) Dts.nil)) (by simp) fun p1 G1 g1 u1 m1 e1 d1 => ?_
    walk_at "rd"
    have k11 := (k03.trans k4).trans g1
    obtain ⟨x, hx1, hdx⟩ := (hhs.mono k11.t0).of (tyds_at (List.getElem?_eq_getElem hi))
    refine r_ixT (k11.get hah) (by simpa using atI_nat hx1) ?_
    walk_at "rd"
    refine r_tupN (ds := [.tup [.str "h", .int i], (hs[i]).d]) (Dts.cons d1 (Dts.cons hdx Dts.nil)) (by simp) fun p2 G2 g2 u2 m2 e2 d2 => ?_
    walk_at "rd"
    have eL2 := (g1.trans g2).get eL
    refine ⟨ys, eL2, ?_, ys ++ [.ref p2], rs ++ [(.tup [.str "h", .int i], hs[i])], upd_same, ?_, ?_, ((k4.trans g1).trans g2).own nL4, ?_⟩
    · have := hys.len
      rw [List.length_map] at this
      exact Nat.lt_of_le_of_lt (show _ ≤ 5000 by omega) (by decide)
    · rw [List.map_append]
      exact Dts.mono (fun p xs z => by rw [upd_ne (ne_of z eL2 (fun q => by cases q))]; exact z) ((hys.mono (u1.trans u2)).snoc d2)
    · rw [List.length_append, lrs]
      rfl
    · intro r hr
      rcases List.mem_append.mp hr with hr | hr
      · exact all r hr
      · rw [List.mem_singleton.mp hr]
        refine ⟨?_, ⟨by show 2 ≤ 3; decide, (by decide +kernel : Tx "h"), trivial, trivial⟩, rfl, rfl, _, _, rfl⟩
        rw [hdB_h hi, List.getElem?_eq_getElem hi]
  rintro H4 ⟨ys4, rs4, eL4, hys4, lrs4, k4, all4⟩
  have l4 := hys4.len
  rw [List.length_map] at l4
  walk_at "rd"
  refine r_catN (k4.get e3) eL4 (by rw [List.length_append]; omega) fun L5 H5 k5 t5 n5 e5 => ?_
  walk_at "rd"
  have k05 := (k03.trans k4).trans k5
  have hall : Dts H5 (((rs1 ++ rs2) ++ rs4).map hrD) ((ys1 ++ ys2) ++ ys4) := by
    rw [List.map_append, List.map_append]
    exact Dts.app (Dts.app (hys1.mono (((k2.trans k3).trans k4).trans k5).t0) (hys2.mono ((k3.trans k4).trans k5).t0)) (hys4.mono k5.t0)
  have allr : ∀ r ∈ (rs1 ++ rs2) ++ rs4, HrOk0 sg hs own r := fun r hr => by
    rcases List.mem_append.mp hr with hr | hr
    · rcases List.mem_append.mp hr with hr | hr
      · exact all1 r hr
      · exact all2 r hr
    · exact all4 r hr
  have there : AB sort → ∃ r ∈ (rs1 ++ rs2) ++ rs4, r.2.s = sort ∧ r.2.as = [] := fun ab => by
    obtain ⟨n, hn⟩ := good.cons sort ab
    exact ⟨_, List.mem_append_left _ (List.mem_append_right _ (inn2 _ hn)), rfl, rfl⟩
  have lall : ((rs1 ++ rs2) ++ rs4).length ≤ 5000 := by
    rw [List.length_append, List.length_append]
    omega
  generalize (rs1 ++ rs2) ++ rs4 = rows at hall allr there lall
  generalize (ys1 ++ ys2) ++ ys4 = vals at e5 hall
  refine ⟨L5, rfl, ⟨_, SqL.of e5⟩, fun L6 nL6 => lc_it (walk_list (K := K) (a := L5) (xs := vals)) (fun i H' => ∃ (ys : List V) (rs : List Hr), H' L6 = some (.lst ys) ∧ Dts H' (rs.map hrD) ys ∧ rs.length ≤ i ∧ Kp [] H5 H' ∧ (∀ r ∈ rs, HrOk sg hs own sort r) ∧ ∀ r ∈ rows.take i, r.2.s = sort → r ∈ rs)
    ⟨[], [], upd_same, (show Dts _ (([] : List Hr).map hrD) [] from rfl), Nat.le_refl 0, (Kp.refl _ _).up nL6, (fun d hd => nomatch hd), fun r hr => nomatch hr⟩ (fun i H' _ ⟨_, _, _, _, _, k, _⟩ => SqL.of (k.get e5)) ?_ ?_⟩
  · rintro i y H0 H6 hi6 ⟨ys, rs, eL, hys, lrs, k6, all, inn⟩ ⟨rfl, hy⟩
    obtain ⟨dr, hdr, hdy⟩ := (hall.mono k6.t0).at hy
    rw [List.getElem?_map] at hdr
    obtain ⟨r, hr, rfl⟩ := Option.map_eq_some_iff.mp hdr
    have mr := List.mem_of_getElem? hr
    have hdy0 := hdy
    obtain ⟨a1, x1, rfl, ha1, w1, r1, rfl, hw1, w2, r2, rfl, hw2, rfl⟩ := hdy
    rw [Ty.d_eq] at hw2
    obtain ⟨a2, x2, rfl, ha2, w3, r3, rfl, hw3, w4, r4, rfl, hw4, rfl⟩ := hw2
    cases hw4.str
    walk_at "rd"
    refine ⟨rfl, ?_⟩
    walk_at "rd"
    refine r_ixT ha1 rfl ?_
    walk_at "rd"
    refine r_ixT ha2 rfl ?_
    walk_at "rd"
    refine if_2 (fun c => ?_) (fun c => ?_)
    · have es : r.2.s = sort := V.str.inj (of_decide_eq_true c)
      walk_at "rd"
      have lv := hall.len
      rw [List.length_map] at lv
      refine ⟨ys, eL, ?_, ys ++ [.ref a1], rs ++ [r], upd_same, ?_, ?_, k6.own nL6, ?_, ?_⟩
      · have := hys.len
        rw [List.length_map] at this
        exact Nat.lt_of_le_of_lt (show _ ≤ 5000 by omega) (by decide)
      · rw [List.map_append]
        exact Dts.mono (fun p xs z => by rw [upd_ne (ne_of z eL (fun q => by cases q))]; exact z) (hys.snoc hdy0)
      · rw [List.length_append]
        exact Nat.succ_le_succ lrs
      · intro r' hr'
        rcases List.mem_append.mp hr' with hr' | hr'
        · exact all r' hr'
        · rw [List.mem_singleton.mp hr']
          have z := allr r mr
          exact ⟨z.hd, es, z.tx, z.dp, z.sz, z.pr⟩
      · intro r' hr' es'
        rw [take_one hr] at hr'
        rcases List.mem_append.mp hr' with hr' | hr'
        · exact List.mem_append_left _ (inn r' hr' es')
        · rw [List.mem_singleton.mp hr']
          exact List.mem_append_right _ List.mem_cons_self
    · have es : r.2.s ≠ sort := fun z => of_decide_eq_false c (by rw [z])
      refine ⟨ys, rs, eL, hys, Nat.le_succ_of_le lrs, k6, all, fun r' hr' es' => ?_⟩
      rw [take_one hr] at hr'
      rcases List.mem_append.mp hr' with hr' | hr'
      · exact inn r' hr' es'
      · rw [List.mem_singleton.mp hr'] at es'
        exact absurd es' es
  · rintro H6 ⟨ys, rs, eL, hys, lrs, k6, all, inn⟩
    have lv := hall.len
    rw [List.length_map] at lv
    rw [lv] at lrs inn
    rw [List.take_length] at inn
    walk_at "rd"
    refine q L6 ys rs H6 (k05.trans k6) (k05.none nL6) eL hys (by omega) all fun ab => ?_
    obtain ⟨r, hr, e1, e2⟩ := there ab
    exact ⟨r, inn r hr e1, e2⟩
end
end K03
end

section
/-! A drawn term. -/
namespace K03
open PySem L2 PyProof.Rows PySem.Spec Lc
variable [Lc.Tbs]
local macro_rules | `(tactic| walk_at "rd") => `(tactic| repeat (first
  | with_reducible refine r_seq ?_ | with_reducible refine r_mknx ?_ | with_reducible refine r_mkrt ?_ | with_reducible refine r_asg ?_ | with_reducible refine r_name ?_ | with_reducible refine r_next ?_
  | with_reducible refine r_drop ?_ | with_reducible refine r_ret ?_ | with_reducible refine r_if ?_
  | ((with_reducible refine' r_var ?e ?_); (case e => rfl)) | with_reducible refine r_c ?_ | with_reducible refine r_op ?_ | with_reducible refine r_un ?_ | with_reducible refine r_test ?_ | with_reducible refine r_tb ?_
  | with_reducible refine r_and ?_ | with_reducible refine r_or ?_ | with_reducible refine r_not ?_ | with_reducible refine r_andV ?_ | with_reducible refine r_orV ?_ | with_reducible refine r_notV ?_ | with_reducible refine r_bl ?_
  | with_reducible refine r_cb ?_ | with_reducible refine r_cons ?_ | with_reducible refine r_nil ?_ | with_reducible refine r_tup ?_ | with_reducible refine r_lst ?_ | with_reducible refine r_call ?_
  | with_reducible refine r_i0 ?_ | with_reducible refine r_par ?_ | with_reducible refine r_two ?_ | with_reducible refine r_lc ?_ | with_reducible refine r_iL ?_ | with_reducible refine r_iT ?_ | with_reducible refine r_iS ?_ | with_reducible refine r_i1 ?_ | with_reducible refine r_yes ?_ | with_reducible refine r_chain ?_ | with_reducible refine if_t rfl ?_ | with_reducible refine if_f rfl ?_ | with_reducible refine r_nt ?_ | ((with_reducible refine r_eq ?e ?_); (case e => rfl)) | ((with_reducible refine r_ne ?e ?_); (case e => rfl))
  | with_reducible refine r_sub ?_ | with_reducible refine r_sl ?_ | with_reducible refine r_nopart ?_ | with_reducible refine r_part ?_ | with_reducible refine r_int ?_ | with_reducible refine r_bm ?_ | with_reducible refine r_bm0 ?_ | with_reducible refine r_gcons ?_ | with_reducible refine r_gnil ?_ | with_reducible refine r_dget1 ?_ | with_reducible refine r_dget2 ?_))


local macro_rules | `(tactic| walk_at "dt") => `(tactic| repeat' (first | (show Dt _ _ _; assumption) | exact dt_str | exact dt_int | exact dt_bl | exact dt_non | exact Dts.nil | refine' Dts.cons ?_ ?_ | (refine' Dt.mono ?kk ?_; (case kk => assumption)) | fail))
local macro_rules | `(tactic| walk_at "at") => `(tactic| repeat (first | assumption | (refine' Kp.ge ?kk ?nn ?_; (case kk => assumption); (case nn => intro _ z; cases z)) | fail))
local macro_rules | `(tactic| walk_at "kp") => `(tactic| repeat (first | assumption | exact Kp.refl _ _ | (refine' Kp.trans ?_ ?kk; (case kk => assumption)) | fail))
local macro_rules | `(tactic| walk_at "tup") => `(tactic| (refine' r_tupN ?h ?f ?k; (case h => walk_at "dt"); (case f => simp); skip))
/-- sorts are a and b, at most three arguments -/
abbrev TyG (t : Lc.Ty) : Prop := Wd AB 3 t.d
theorem TyG.ok {t : Lc.Ty} (h : TyG t) : t.Ok 3 := Wd.mono (fun _ z => AB.tx z) (Nat.le_refl 3) h
theorem TyG.as {t : Lc.Ty} (h : TyG t) : (∀ u ∈ t.as, TyG u) ∧ t.as.length ≤ 3 ∧ AB t.s := by
  unfold TyG at h
  rw [Ty.d_eq, Wd, Wds, Wds, Wd] at h
  refine ⟨fun u hu => Wds.mem.mp h.2.1.2 _ (by rw [tyds_map]; exact List.mem_map.mpr ⟨u, hu, rfl⟩), by have := h.2.1.1; rw [tyds_len] at this; exact this, h.2.2.1⟩
structure TmOk (n : Nat) (d : D) : Prop where
  wd : Wd Tx 3 d
  dp : d.dp ≤ 2 * n + 3
  sz : d.sz ≤ 6 * 4 ^ n
theorem TmOk.up {h j : Nat} {d : D} (k : TmOk h d) (l : h ≤ j) : TmOk j d :=
  ⟨k.wd, Nat.le_trans k.dp (by omega), Nat.le_trans k.sz (Nat.mul_le_mul_left _ (Nat.pow_le_pow_right (by decide) l))⟩
theorem tm_ok {n m : Nat} {h : D} {ps : List D} (wh : Wd Tx 3 h) (dh : h.dp = 2) (zh : h.sz = 3) (few : ps.length ≤ 3) (z : n = 0 → ps = []) (all : ∀ d ∈ ps, TmOk (n - 1) d) : TmOk n (.tup [.int m, h, .tup ps]) := by
  have e1 : (D.tup [.int m, h, .tup ps]).dp = 1 + max 1 (max h.dp (max (1 + dps ps) 0)) := rfl
  have e2 : (D.tup [.int m, h, .tup ps]).sz = 1 + (1 + (h.sz + ((1 + szs ps) + 0))) := rfl
  have a1 : dps ps ≤ 2 * (n - 1) + 3 := dps_max fun d hd => (all d hd).dp
  have a2 : szs ps ≤ ps.length * (6 * 4 ^ (n - 1)) := szs_max fun d hd => (all d hd).sz
  refine ⟨⟨by show 3 ≤ 3; decide, trivial, wh, ⟨few, Wds.mem.mpr fun d hd => (all d hd).wd⟩, trivial⟩, ?_, ?_⟩
  · by_cases n0 : n = 0
    · subst n0
      rw [e1, z rfl, dh]
      decide
    · omega
  · by_cases n0 : n = 0
    · subst n0
      rw [e2, z rfl, zh]
      decide
    · have a3 : ps.length * (6 * 4 ^ (n - 1)) ≤ 3 * (6 * 4 ^ (n - 1)) := Nat.mul_le_mul_right _ few
      have e3 : 4 ^ n = 4 ^ (n - 1) * 4 := by rw [← Nat.pow_succ]; congr 1; omega
      have a5 : 1 ≤ 4 ^ (n - 1) := Nat.pow_pos (by decide)
      omega
def spTerm (n : Nat) : Sp := fun vs H Q _ => ∃ (c a : Addr) (sv hv pv kv : V) (depth : Nat) (sg : Sg) (hs own : List Lc.Ty) (k : Lc.Ty), vs = [.ref c, sv, hv, pv, kv, .int depth] ∧ CS a H c ∧ SgV H sg sv ∧ SgG sg ∧ Dt H (.tup (tyds hs)) hv ∧ (∀ t ∈ hs, TyG t) ∧
  Dt H (.tup (tyds own)) pv ∧ (∀ t ∈ own, TyG t) ∧ Dt H k.d kv ∧ TyG k ∧ own.length + 3 * (depth + 1) ≤ 1000 ∧ hs.length ≤ 1000 ∧ depth < n ∧
  ∀ v d H', Kp [c] H H' → CS a H' c → Dt H' d v → tmB sg hs own k d = true → TmOk depth d → Q v H'
abbrev s_law_term : Stmt := top 27
abbrev N_law_term : List Str := ["c", "signature", "holes", "prefix", "kind", "depth", "own", "fits", "parts", "head", "needed", "row", "one"]
theorem sc_law_term : FnScope N_law_term ["c", "signature", "holes", "prefix", "kind", "depth"] (defScope s_law_term) := ⟨rfl, rfl, rfl, by decide +kernel, rfl, by decide +kernel, by decide +kernel⟩
section
variable {P : Program} {w : World} {K : PySem.W.Frag} {mg : Str → Option Value} {base : Heap}
theorem ok_law_term0 {k n : Nat} (F : Df K mg "_law_term" s_law_term ["c", "signature", "holes", "prefix", "kind", "depth"]) (T : Txt mg) (hk : 2 ≤ k) (C_law_take : Cal P w K mg base "_law_take" ["c", "many"] 2 spTake) (C_law_heads : Cal P w K mg base "_law_heads" ["signature", "holes", "own", "sort"] 1 spHeads)
    (C_law_term : Cal P w K mg base "_law_term" ["c", "signature", "holes", "prefix", "kind", "depth"] k (spTerm n)) : Cal P w K mg base "_law_term" ["c", "signature", "holes", "prefix", "kind", "depth"] (k + 1) (spTerm (n + 1)) := by
  replace C_law_take := C_law_take.mono hk
  replace C_law_heads := C_law_heads.mono (show 1 ≤ k by omega)
  refine F.ok sc_law_term (fun vs H Q E h => ?_) (fun f cdv A outer s H vs Q E hr h => ?_)
  · obtain ⟨c, a, sv, hv, xv, kv, depth, sg, hs, own, k, rfl, _⟩ := h
    rfl
  obtain ⟨c, a, sv, hv, xv, kv, depth, sg, hs, own, ⟨as, srt⟩, rfl, cs, hsg, good, hh, wh, hp, wp, hkd, wk, far, lhs, dn, q⟩ := h
  obtain ⟨ao, xo, rfl, hao, hso⟩ := hp.tup
  have lo : xo.length = own.length := by rw [hso.len, tyds_len]
  rw [Ty.d] at hkd
  obtain ⟨ak, xk, rfl, hak, va, r2, rfl, hva, vs2, r3, rfl, hvs2, rfl⟩ := hkd
  cases hvs2.str
  obtain ⟨a3, x3, rfl, ha3, hs3⟩ := hva
  have l3 : x3.length = as.length := by rw [hs3.len, tyds_len]
  have gk := TyG.as wk
  have las : as.length ≤ 3 := gk.2.1
  have wown : ∀ t ∈ own ++ as, TyG t := fun t ht => by
    rcases List.mem_append.mp ht with ht | ht
    · exact wp t ht
    · exact gk.1 t ht
  have cs' := cs
  obtain ⟨ns, i, dg, cnt, z, hc, ha, h0, hne⟩ := cs'
  refine ⟨_, (pss_cons (ps_asg (pe_op op_sub (pe_ix ix_list (pv 0) pe_int (fun _ _ => rfl)) pe_int) (pg_sub (pv 0) pe_int set_list))
      (pss_cons (ps_set (i := 6) sc_law_term.nd rfl (Or.inr rfl) (pe_op op_catA (pv 3) (pe_ix ix_tup (pv 4) pe_int (fun _ _ => rfl))))
      (pss_cons (ps_set (i := 7) sc_law_term.nd rfl (Or.inl rfl) (pe_cal C_law_heads hr rfl (pa_cons (pv 1) (pa_cons (pv 2) (pa_cons (pv 6) (pa_cons (pe_ix ix_tup (pv 4) pe_int (fun _ _ => rfl)) pa_nil))))))
      (Evl.pss_cut (ps_if (PW.pt (pw_or (pt_cmpR op_lt (pv 5) pe_int (nomark _)) (pw_or1 (pt_cmpR op_lt (pe_ix ix_list (pv 0) pe_int (fun _ _ => rfl)) pe_int (nomark _))))) (pss_one (ps_setLc (i := 7) (own := [("row", 11)]) (g := gName 11) (by rfl) sc_law_term.nd rfl rfl (sw_true rfl rfl rfl (by decide +kernel)) (pi_list (pv 7)) (blkOk_by (N := N_law_term) (sc := defScope s_law_term) (by decide +kernel)) (fun _ _ _ _ _ => (pg_name (i := 11) sc_law_term.nd rfl (Or.inl rfl))) (fun _ _ _ _ _ => pts_one (pt_cmpR (r := rEqA 150) (op_eqA (n := 150) (u150 hr)) (pe_ix (r := rIxT K) ix_tup (pe_ix (r := rIxT K) ix_tup (pv 11) pe_int (fun _ _ => rfl)) pe_int (fun _ _ => rfl)) (pe_tup pa_nil) (nomark _))) (fun _ _ _ _ _ => (pv 11)))) pss_nil)
      (pss_cons (ps_asg (pe_ix ix_list (pv 7) (pe_cal C_law_take hr rfl (pa_cons (pv 0) (pa_cons (pe_callB call_len_seq (by rfl) T.z_len (by decide +kernel) (pa_cons (pv 7) pa_nil)) pa_nil))) (fun _ _ => rfl)) (pg_tup (by rfl) (pgs_cons (pg_name (i := 9) sc_law_term.nd rfl (.inl rfl)) (pgs_cons (pg_name (i := 10) sc_law_term.nd rfl (.inl rfl)) pgs_nil))))
      (pss_cons (ps_set (i := 8) sc_law_term.nd rfl (Or.inl rfl) (pe_callTy call_tuple_of (by rfl) T.z_tuple (by decide +kernel) (pa_cons (pe_lc (own := [("one", 12)]) (g := gName 12) rfl sc_law_term.nd (pi_tup (pe_ix ix_tup (pv 10) pe_int (fun _ _ => rfl))) (blkOk_by (N := N_law_term) (sc := defScope s_law_term) (by decide +kernel)) (fun _ _ _ _ _ => (pg_name (i := 12) sc_law_term.nd rfl (Or.inl rfl))) (fun _ _ _ _ _ => pts_nil) (fun _ _ _ _ _ => (pe_cal C_law_term hr rfl (pa_cons (pv 0) (pa_cons (pv 1) (pa_cons (pv 2) (pa_cons (pv 6) (pa_cons (pv 12) (pa_cons (pe_op op_sub (pv 5) pe_int) pa_nil))))))))) pa_nil)))
      (pss_one (ps_ret (pe_tup (pa_cons (pe_callB call_len_seq (by rfl) T.z_len (by decide +kernel) (pa_cons (pe_ix ix_tup (pv 4) pe_int (fun _ _ => rfl)) pa_nil)) (pa_cons (pv 9) (pa_cons (pv 8) pa_nil)))))))))))), ?_⟩
  walk_at "rd"
  refine r_ixL hc rfl ?_
  walk_at "rd"
  refine r_set hc rfl ?_
  rw [show ([V.ref a, .int i, .int dg, .int cnt, .int z].set (Int.toNat 4) (.int (z - 1))) = [.ref a, .int i, .int dg, .int cnt, .int (z - 1)] from rfl]
  have k1 : Kp [c] H (upd H c (.lst [.ref a, .int i, .int dg, .int cnt, .int (z - 1)])) := (Kp.refl _ _).at (by simp)
  have cs1 : CS a (upd H c (.lst [.ref a, .int i, .int dg, .int cnt, .int (z - 1)])) c := ⟨ns, i, dg, cnt, z - 1, upd_same, by rw [upd_ne hne]; exact ha, h0, hne⟩
  have hc1 : (upd H c (.lst [.ref a, .int i, .int dg, .int cnt, .int (z - 1)])) c = some (.lst [.ref a, .int i, .int dg, .int cnt, .int (z - 1)]) := upd_same
  have t1 : KeepT H (upd H c (.lst [.ref a, .int i, .int dg, .int cnt, .int (z - 1)])) := cs.t k1
  have hsg1 := hsg.mono1 k1 hc
  generalize (upd H c (.lst [.ref a, .int i, .int dg, .int cnt, .int (z - 1)])) = H1 at k1 cs1 hc1 t1 hsg1
  walk_at "rd"
  refine r_ixT (t1 _ _ hak) rfl ?_
  walk_at "rd"
  refine r_catT (t1 _ _ hao) (t1 _ _ ha3) (hso.mono t1) (hs3.mono t1) (by omega) fun vb H2 k2 t2 hb => ?_
  rw [← tyds_app] at hb
  walk_at "rd"
  refine r_ixT (k2.get (t1 _ _ hak)) rfl ?_
  walk_at "rd"
  refine ⟨sv, hv, vb, sg, hs, own ++ as, srt, rfl, hsg1.mono0 k2, good, hh.mono (t1.trans t2), hb, by rw [List.length_append]; omega, lhs, fun L ys rs H3 k3 nL eL hys lrs hrs there => ?_⟩
  walk_at "rd"
  have k13 := k2.trans k3
  have k03 : Kp [c] H H3 := k1.trans k13.of0
  have t03 : KeepT H H3 := t1.trans k13.t0
  have hc3 := k13.get hc1
  have neL : L ≠ c := fun q => by
    rw [q, k2.get hc1] at nL
    cases nL
  have cs3 := cs1.keep k13
  obtain ⟨r0, hr0, as0⟩ := there gk.2.2
  refine r_cut (fun σ H' => ∃ (L' : Addr) (ys' : List V) (rs' : List Hr) (v11 : Option V), σ = [some (.ref c), some sv, some hv, some (.ref ao), some (.ref ak), some (.int depth), some vb, some (.ref L'), none, none, none, v11, none] ∧ Kp [] H3 H' ∧ L' ≠ c ∧ H' L' = some (.lst ys') ∧ Dts H' (rs'.map hrD) ys' ∧
    rs'.length ≤ 5000 ∧ rs' ≠ [] ∧ (∀ r ∈ rs', HrOk sg hs (own ++ as) srt r) ∧ (depth = 0 → ∀ r ∈ rs', r.2.as = [])) ?_ ?_
  · walk_at "rd"
    refine if_or2 (c := decide (z - 1 < 1)) (fun c1 y => ?_) ?_ (fun c1 c2 => ?_)
    · walk_at "rd"
      refine r_ixL hc3 rfl ?_
      walk_at "rd"
      exact y
    · walk_at "rd"
      refine ⟨L, rfl, ⟨_, SqL.of eL⟩, fun L6 nL6 => lc_it (walk_list (K := K) (a := L) (xs := ys)) (fun i H' => ∃ (us : List V) (gs : List Hr), H' L6 = some (.lst us) ∧ Dts H' (gs.map hrD) us ∧ gs.length ≤ i ∧ Kp [] H3 H' ∧ (∀ r ∈ gs, HrOk sg hs (own ++ as) srt r ∧ r.2.as = []) ∧ ∀ r ∈ rs.take i, r.2.as = [] → r ∈ gs)
        ⟨[], [], upd_same, (show Dts _ (([] : List Hr).map hrD) [] from rfl), Nat.le_refl 0, (Kp.refl _ _).up nL6, (fun d hd => nomatch hd), fun r hr => nomatch hr⟩ (fun i H' _ ⟨_, _, _, _, _, k, _⟩ => SqL.of (k.get eL)) ?_ ?_⟩
      · rintro i y H0 H6 hi6 ⟨us, gs, eL6, hus, lgs, k6, all, inn⟩ ⟨rfl, hy⟩
        obtain ⟨dr, hdr, hdy⟩ := (hys.mono k6.t0).at hy
        rw [List.getElem?_map] at hdr
        obtain ⟨r, hr', rfl⟩ := Option.map_eq_some_iff.mp hdr
        have mr := List.mem_of_getElem? hr'
        have tr : TyG r.2 := hdB_all (fun r hr => (good.kinds r hr).wd) wh wown (hrs r mr).hd
        have hdy0 := hdy
        obtain ⟨a1, x1, rfl, ha1, w1, r1, rfl, hw1, w2, r2, rfl, hw2, rfl⟩ := hdy
        rw [Ty.d_eq] at hw2
        obtain ⟨a2, x2, rfl, ha2, w3, r3, rfl, hw3, w4, r4, rfl, hw4, rfl⟩ := hw2
        walk_at "rd"
        refine ⟨rfl, ?_⟩
        walk_at "rd"
        refine r_ixT ha1 rfl ?_
        walk_at "rd"
        refine r_ixT ha2 rfl ?_
        walk_at "rd"
        refine r_tupN Dts.nil (by decide) fun p1 G1 g1 u1 m1 e1 d1 => ?_
        have tsr : Wd Tx 3 (.tup (tyds r.2.as)) := by
          have y := tr.ok
          unfold Ty.Ok at y
          rw [Ty.d_eq] at y
          exact y.2.1
        refine ⟨.tup (tyds r.2.as), .tup [], 3, hw3.mono u1, d1, tsr, ⟨by show 0 ≤ 3; decide, trivial⟩, Nat.le_trans (Nat.min_le_right _ _) (by decide), ?_⟩
        have lv := hys.len
        rw [List.length_map] at lv
        walk_at "rd"
        refine if_2 (fun c => ?_) (fun c => ?_)
        · have es := eq_nil_of c
          have eL7 := g1.get eL6
          walk_at "rd"
          refine ⟨us, eL7, ?_, us ++ [.ref a1], gs ++ [r], upd_same, ?_, ?_, (k6.trans g1).own nL6, ?_, ?_⟩
          · have := hus.len
            rw [List.length_map] at this
            exact Nat.lt_of_le_of_lt (show _ ≤ 5000 by omega) (by decide)
          · rw [List.map_append]
            exact Dts.mono (fun p xs z => by rw [upd_ne (ne_of z eL7 (fun q => by cases q))]; exact z) ((hus.mono u1).snoc (hdy0.mono u1))
          · rw [List.length_append]
            exact Nat.succ_le_succ lgs
          · intro r' hr''
            rcases List.mem_append.mp hr'' with hr'' | hr''
            · exact all r' hr''
            · rw [List.mem_singleton.mp hr'']
              exact ⟨hrs r mr, es⟩
          · intro r' hr'' es'
            rw [take_one hr'] at hr''
            rcases List.mem_append.mp hr'' with hr'' | hr''
            · exact List.mem_append_left _ (inn r' hr'' es')
            · rw [List.mem_singleton.mp hr'']
              exact List.mem_append_right _ List.mem_cons_self
        · have es : r.2.as ≠ [] := fun y => by
            rw [y, eq_nil_to] at c
            cases c
          refine ⟨us, gs, g1.get eL6, hus.mono u1, Nat.le_succ_of_le lgs, k6.trans g1, all, fun r' hr'' es' => ?_⟩
          rw [take_one hr'] at hr''
          rcases List.mem_append.mp hr'' with hr'' | hr''
          · exact inn r' hr'' es'
          · rw [List.mem_singleton.mp hr''] at es'
            exact absurd es' es
      · rintro H6 ⟨us, gs, eL6, hus, lgs, k6, all, inn⟩
        have lv := hys.len
        rw [List.length_map] at lv
        rw [lv] at lgs inn
        rw [List.take_length] at inn
        have neL6 : L6 ≠ c := fun q => by
          rw [q, hc3] at nL6
          cases nL6
        walk_at "rd"
        refine ⟨L6, us, gs, _, rfl, k6, neL6, eL6, hus, by omega, fun y => ?_, fun r hr => (all r hr).1, fun _ r hr => (all r hr).2⟩
        have := inn r0 hr0 as0
        rw [y] at this
        cases this
    · walk_at "rd"
      refine ⟨L, ys, rs, _, rfl, Kp.refl _ _, neL, eL, hys, lrs, fun y => ?_, hrs, fun y => ?_⟩
      · rw [y] at hr0
        cases hr0
      · have y2 := of_decide_eq_false c1
        omega
  rintro _ H4 ⟨L', ys', rs', v11, rfl, k4, neL', eL', hys', lrs', nrs', hrs', zero⟩
  have lv := hys'.len
  rw [List.length_map] at lv
  have pos : 0 < rs'.length := List.length_pos_iff.mpr nrs'
  have cs4 := cs3.keep k4
  walk_at "rd"
  refine ⟨L', ys', rfl, .inl (SqL.of eL'), ?_⟩
  walk_at "rd"
  refine ⟨c, a, ys'.length, rfl, cs4, by omega, by omega, fun j H5 lo5 hi5 k5 cs5 => ?_⟩
  have k05 : Kp [c] H H5 := (k03.trans k4.of0).trans k5
  have t05 : KeepT H H5 := cs.t k05
  have t35 : KeepT H3 H5 := k4.t0.trans (cs4.t k5)
  walk_at "rd"
  obtain ⟨vr, hvr, _, hj⟩ := at_mem (xs := ys') lo5 hi5
  refine r_ixL (k5 L' _ (by simpa using neL') eL') hvr ?_
  walk_at "rd"
  obtain ⟨dr, hdr, hdy⟩ := (hys'.mono (cs4.t k5)).at hj
  rw [List.getElem?_map] at hdr
  obtain ⟨⟨hd, ty⟩, hr', rfl⟩ := Option.map_eq_some_iff.mp hdr
  have mr := List.mem_of_getElem? hr'
  have okr := hrs' _ mr
  have tr : TyG ty := hdB_all (fun r hr => (good.kinds r hr).wd) wh wown okr.hd
  obtain ⟨a1, x1, rfl, ha1, w1, r1, rfl, hw1, w2, r2, rfl, hw2, rfl⟩ := hdy
  replace hw2 : Dt H5 ty.d w2 := hw2
  rw [Ty.d_eq] at hw2
  obtain ⟨a2, x2, rfl, ha2, w3, r3, rfl, hw3, w4, r4, rfl, hw4, rfl⟩ := hw2
  obtain ⟨a9, x9, rfl, ha9, hs9⟩ := hw3
  have l9 : x9.length = ty.as.length := by rw [hs9.len, tyds_len]
  refine r_gtup ha1 rfl ?_
  walk_at "rd"
  refine r_ixT ha2 rfl ?_
  walk_at "rd"
  have gt := TyG.as tr
  refine ⟨a9, rfl, ⟨_, SqT.of ha9⟩, fun L7 nL7 => lc_it (walk_tup (K := K) (a := a9) (xs := x9)) (fun i H' => ∃ us ds, H' L7 = some (.lst us) ∧ Dts H' ds us ∧ ds.length = i ∧ Kp [c] H5 H' ∧ CS a H' c ∧ frsB sg hs (kids (own ++ as) (ty.as.take i) ds) = true ∧ ∀ d ∈ ds, TmOk (depth - 1) d)
    ⟨[], [], upd_same, rfl, rfl, (Kp.refl _ _).up nL7, cs5.own (cs5.ne nL7), rfl, fun d hd => nomatch hd⟩ (fun i H' _ ⟨_, _, _, _, _, k, _⟩ => SqT.of (cs5.t k _ _ ha9)) ?_ ?_⟩
  · rintro i y H0 H6 hi6 ⟨us, ds, eL7, hds, lds, k6, cs6, fr, all⟩ ⟨rfl, hy⟩
    obtain ⟨dt, hdt, hdy⟩ := (hs9.mono (cs5.t k6)).at hy
    have hi : i < ty.as.length := by omega
    have edt : dt = (ty.as[i]).d := by
      rw [tyds_at (List.getElem?_eq_getElem hi)] at hdt
      exact (Option.some.inj hdt).symm
    subst edt
    have dpos : depth ≠ 0 := fun y => by
      have := zero y _ mr
      have l0 : ty.as.length = 0 := by
        show ty.as.length = 0
        rw [show ty.as = [] from this]
        rfl
      omega
    have k06 : Kp [c] H H6 := k05.trans k6
    have t06 : KeepT H H6 := cs.t k06
    have neL7 : L7 ≠ c := (cs5.ne nL7).1
    walk_at "rd"
    refine ⟨rfl, ?_⟩
    walk_at "rd"
    have ed : ((depth : Int) - 1) = ((depth - 1 : Nat) : Int) := by omega
    refine ⟨c, a, sv, hv, vb, y, depth - 1, sg, hs, own ++ as, ty.as[i], (by rw [ed]; rfl), cs6, hsg.mono1 k06 hc, good, hh.mono t06, wh, hb.mono ((k3.t0.trans t35).trans (cs5.t k6)), wown, hdy, gt.1 _ (List.getElem_mem hi), ?_, lhs, by omega, fun v d H7 k7 cs7 hdv tm okd => ?_⟩
    · rw [List.length_append]
      omega
    · have eL8 := k7 L7 _ (by simpa using neL7) eL7
      refine ⟨us, eL8, ?_, us ++ [v], ds ++ [d], upd_same, ?_, ?_, (k6.trans k7).own nL7, cs7.own (cs5.ne nL7), ?_, ?_⟩
      · have := hds.len
        exact Nat.lt_of_le_of_lt (show _ ≤ 1000 by omega) (by decide)
      · exact Dts.mono (fun p xs z => by rw [upd_ne (ne_of z eL8 (fun q => by cases q))]; exact z) ((hds.mono (cs6.t k7)).snoc hdv)
      · rw [List.length_append, lds]
        rfl
      · rw [take_one (List.getElem?_eq_getElem hi), kids_snoc (by rw [List.length_take, lds]; omega), frsB_app, fr]
        show (true && (frB sg hs (own ++ as, ty.as[i], d) && true)) = true
        rw [Bool.and_true, Bool.true_and]
        exact tm
      · intro d' hd'
        rcases List.mem_append.mp hd' with hd' | hd'
        · exact all d' hd'
        · rw [List.mem_singleton.mp hd']
          exact okd
  · rintro H6 ⟨us, ds, eL7, hds, lds, k6, cs6, fr, all⟩
    have k06 : Kp [c] H H6 := k05.trans k6
    have t06 : KeepT H H6 := cs.t k06
    walk_at "rd"
    refine ⟨L7, us, rfl, .inl ⟨SqL.of eL7, fun l nl => ?_⟩⟩
    obtain ⟨k7, t7, d7⟩ := new_tup nl hds
    walk_at "rd"
    refine r_ixT (k7.get (t06 _ _ hak)) rfl ?_
    walk_at "rd"
    refine ⟨a3, x3, rfl, .inr (SqT.of (k7.get (t06 _ _ ha3))), ?_⟩
    walk_at "rd"
    rw [l3]
    refine r_tupN (ds := [.int (as.length : Nat), hd, .tup ds]) (Dts.cons dt_int (Dts.cons (hw1.mono ((cs5.t k6).trans t7)) (Dts.cons d7 Dts.nil))) (by simp) fun p2 H8 k8 t8 n8 e8 d8 => ?_
    walk_at "rd"
    refine q _ _ H8 (k06.trans (k7.trans k8).of0) (cs6.keep (k7.trans k8)) d8 ?_ ?_
    · have e := tmB_eq (sg := sg) (hs := hs) (own := own) (k := .mk as srt) (x := hd) (ps := ds)
      have e2 : tmB sg hs own (.mk as srt) (.tup [.int (as.length : Nat), hd, .tup ds]) = match hdB sg hs (own ++ as) hd with
        | none => false
        | some t => decide (t.s = srt) && decide (t.as.length = ds.length) && tmsB sg hs (own ++ as) t.as ds := e
      have ehd : hdB sg hs (own ++ as) hd = some ty := okr.hd
      have els : ty.s = srt := okr.s
      have ell : ty.as.length = ds.length := by omega
      rw [e2, ehd]
      rw [List.take_of_length_le (by omega), kids_B ell] at fr
      simp [els, ell, fr]
    · refine tm_ok okr.tx okr.dp okr.sz (by have := gt.2.1; omega) (fun y => ?_) all
      have z1 := zero y _ mr
      have l0 : ty.as.length = 0 := by
        rw [show ty.as = [] from z1]
        rfl
      exact List.eq_nil_of_length_eq_zero (by omega)
end
end K03
end

section
/-! The law's long forms. -/
namespace K03
open PySem L2 PyProof.Rows PySem.Spec Lc
variable [Lc.Tbs]
local macro_rules | `(tactic| walk_at "rd") => `(tactic| repeat (first
  | with_reducible refine r_seq ?_ | with_reducible refine r_mknx ?_ | with_reducible refine r_mkrt ?_ | with_reducible refine r_asg ?_ | with_reducible refine r_name ?_ | with_reducible refine r_next ?_
  | with_reducible refine r_drop ?_ | with_reducible refine r_ret ?_ | with_reducible refine r_if ?_
  | ((with_reducible refine' r_var ?e ?_); (case e => rfl)) | with_reducible refine r_c ?_ | with_reducible refine r_op ?_ | with_reducible refine r_un ?_ | with_reducible refine r_test ?_ | with_reducible refine r_tb ?_
  | with_reducible refine r_and ?_ | with_reducible refine r_or ?_ | with_reducible refine r_not ?_ | with_reducible refine r_andV ?_ | with_reducible refine r_orV ?_ | with_reducible refine r_notV ?_ | with_reducible refine r_bl ?_
  | with_reducible refine r_cb ?_ | with_reducible refine r_cons ?_ | with_reducible refine r_nil ?_ | with_reducible refine r_tup ?_ | with_reducible refine r_lst ?_ | with_reducible refine r_call ?_
  | with_reducible refine r_i0 ?_ | with_reducible refine r_par ?_ | with_reducible refine r_two ?_ | with_reducible refine r_lc ?_ | with_reducible refine r_iL ?_ | with_reducible refine r_iT ?_ | with_reducible refine r_iS ?_ | with_reducible refine r_i1 ?_ | with_reducible refine r_yes ?_ | with_reducible refine r_chain ?_ | with_reducible refine if_t rfl ?_ | with_reducible refine if_f rfl ?_ | with_reducible refine r_nt ?_ | ((with_reducible refine r_eq ?e ?_); (case e => rfl)) | ((with_reducible refine r_ne ?e ?_); (case e => rfl))
  | with_reducible refine r_sub ?_ | with_reducible refine r_sl ?_ | with_reducible refine r_nopart ?_ | with_reducible refine r_part ?_ | with_reducible refine r_int ?_ | with_reducible refine r_bm ?_ | with_reducible refine r_bm0 ?_ | with_reducible refine r_gcons ?_ | with_reducible refine r_gnil ?_ | with_reducible refine r_dget1 ?_ | with_reducible refine r_dget2 ?_))


local macro_rules | `(tactic| walk_at "dt") => `(tactic| repeat' (first | (show Dt _ _ _; assumption) | exact dt_str | exact dt_int | exact dt_bl | exact dt_non | exact Dts.nil | refine' Dts.cons ?_ ?_ | (refine' Dt.mono ?kk ?_; (case kk => assumption)) | fail))
local macro_rules | `(tactic| walk_at "at") => `(tactic| repeat (first | assumption | (refine' Kp.ge ?kk ?nn ?_; (case kk => assumption); (case nn => intro _ z; cases z)) | fail))
local macro_rules | `(tactic| walk_at "kp") => `(tactic| repeat (first | assumption | exact Kp.refl _ _ | (refine' Kp.trans ?_ ?kk; (case kk => assumption)) | fail))
local macro_rules | `(tactic| walk_at "tup") => `(tactic| (refine' r_tupN ?h ?f ?k; (case h => walk_at "dt"); (case f => simp); skip))
def spLong (n : Nat) : Sp := fun vs H Q _ => ∃ hv kv s i k, vs = [hv, kv] ∧ Dt H (hd2 s i) hv ∧ Dt H (Lc.Ty.d k) kv ∧ k.Ok 1000 ∧ k.d.dp < n ∧ ∀ v H', Kp [] H H' → Dt H' (longD s i k) v → Q v H'
abbrev s_law_long : Stmt := top 21
abbrev N_law_long : List Str := ["head", "kind", "many", "j"]
theorem sc_law_long : FnScope N_law_long ["head", "kind"] (defScope s_law_long) := ⟨rfl, rfl, rfl, by decide +kernel, rfl, by decide +kernel, by decide +kernel⟩
section
variable {P : Program} {w : World} {K : PySem.W.Frag} {mg : Str → Option Value} {base : Heap}
theorem ok_law_long0 {k n : Nat} (F : Df K mg "_law_long" s_law_long ["head", "kind"]) (T : Txt mg) (C_law_long : Cal P w K mg base "_law_long" ["head", "kind"] k (spLong n)) :
    Cal P w K mg base "_law_long" ["head", "kind"] (k + 1) (spLong (n + 1)) := by
  refine F.ok sc_law_long (fun vs H Q E h => ?_) (fun f cdv A outer s H vs Q E hr h => ?_)
  · obtain ⟨hv, kv, s, i, k, rfl, _⟩ := h
    rfl
  obtain ⟨hv, kv, s, i, kd, rfl, hh, hk, ok, dk, q⟩ := h
  rw [Ty.d_eq] at hk
  obtain ⟨ak, xk, rfl, hak, va, r2, rfl, hva, vs2, r3, rfl, hvs2, rfl⟩ := hk
  obtain ⟨a3, x3, rfl, ha3, hs3⟩ := hva
  have l3 : x3.length = kd.as.length := by rw [hs3.len, tyds_len]
  obtain ⟨ah, xh, rfl, hah, vh, r2, rfl, hvh, vi, r3, rfl, hvi, rfl⟩ := hh
  cases hvh.str
  cases hvi.int
  have oka := Ty.Ok.as ok
  refine ⟨_, (pss_cons (ps_set (i := 2) sc_law_long.nd rfl (Or.inr rfl) (pe_callB call_len_seq (by rfl) T.z_len (by decide +kernel) (pa_cons (pe_ix ix_tup (pv 1) pe_int (fun _ _ => rfl)) pa_nil)))
      (Evl.pss_cut (ps_if (pt_cmpR op_eq (pe_ix ix_tup (pv 0) pe_int (fun _ _ => rfl)) pe_str (nomark _)) (pss_one (ps_set (i := 0) sc_law_long.nd rfl (Or.inl rfl) (pe_tup (pa_cons pe_str (pa_cons (pe_op op_add (pe_ix ix_tup (pv 0) pe_int (fun _ _ => rfl)) (pv 2)) pa_nil))))) pss_nil)
      (pss_one (ps_ret (pe_tup (pa_cons (pv 2) (pa_cons (pv 0) (pa_cons (pe_callTy call_tuple_of (by rfl) T.z_tuple (by decide +kernel) (pa_cons (pe_lc (own := [("j", 3)]) (g := gName 3) rfl sc_law_long.nd (pi_range1 rfl T.z_range (pa_cons (pv 2) pa_nil)) (blkOk_by (N := N_law_long) (sc := defScope s_law_long) (by decide +kernel)) (fun _ _ _ _ _ => (pg_name (i := 3) sc_law_long.nd rfl (Or.inl rfl))) (fun _ _ _ _ _ => pts_nil) (fun _ _ _ _ _ => (pe_cal C_law_long hr rfl (pa_cons (pe_tup (pa_cons pe_str (pa_cons (pe_op op_sub (pe_op op_sub (pv 2) pe_int) (pv 3)) pa_nil))) (pa_cons (pe_ix (r := rIxT K) ix_tup (pe_ix (r := rIxT K) ix_tup (pv 1) pe_int (fun _ _ => rfl)) (pv 3) (fun _ _ => rfl)) pa_nil))))) pa_nil)) pa_nil)))))))), ?_⟩
  walk_at "rd"
  refine r_ixT hak rfl ?_
  walk_at "rd"
  refine ⟨a3, x3, rfl, .inr (SqT.of ha3), ?_⟩
  walk_at "rd"
  rw [l3]
  refine r_cut (fun σ H' => ∃ hv', σ = [some hv', some (.ref ak), some (.int kd.as.length), none] ∧ Kp [] H H' ∧ Dt H' (raiseH s i kd.as.length) hv') ?_ ?_
  · walk_at "rd"
    refine r_ixT hah rfl ?_
    walk_at "rd"
    refine if_2 (fun c => ?_) (fun c => ?_)
    · have es : s = "b" := V.str.inj (of_decide_eq_true c)
      walk_at "rd"
      refine r_ixT hah rfl ?_
      walk_at "rd"
      refine r_tupN (ds := [.str "b", .int (i + kd.as.length)]) (by walk_at "dt") (by simp) fun p1 H1 k1 t1 n1 e1 d1 => ?_
      walk_at "rd"
      refine ⟨_, rfl, k1, ?_⟩
      unfold raiseH
      rw [if_pos es]
      exact d1
    · have es : s ≠ "b" := fun z => of_decide_eq_false c (by rw [z])
      walk_at "rd"
      refine ⟨_, rfl, Kp.refl _ _, ?_⟩
      unfold raiseH
      rw [if_neg es]
      exact ⟨ah, _, rfl, hah, Dts.cons dt_str (Dts.cons dt_int Dts.nil)⟩
  rintro _ H1 ⟨hv', rfl, k1, hr1⟩
  walk_at "rd"
  refine ⟨_, rfl, by omega, by omega, fun L nL => lc_it walk_range (fun j H' => ∃ us, H' L = some (.lst us) ∧ Dts H' ((longs kd.as.length 0 kd.as).take j) us ∧ Kp [] H1 H')
    ⟨[], upd_same, rfl, (Kp.refl _ _).up nL⟩ (fun _ _ _ _ => trivial) ?_ ?_⟩
  · rintro j y H0 H2 hj ⟨us, eL, hus, k2⟩ ⟨rfl, rfl⟩
    have hj' : j < kd.as.length := by simpa using hj
    have k02 := k1.trans k2
    walk_at "rd"
    refine ⟨rfl, ?_⟩
    walk_at "rd"
    have ej : ((kd.as.length : Int) - 1 - (0 + (j : Int))) = (kd.as.length : Int) - 1 - (0 + j : Nat) := by omega
    refine r_tupN (ds := [.str "b", .int ((kd.as.length : Int) - 1 - (0 + j : Nat))]) (Dts.cons dt_str (Dts.cons (show (V.int _ : V) = .int _ by rw [ej]) Dts.nil)) (by simp) fun p1 H3 k3 t3 n3 e3 d3 => ?_
    walk_at "rd"
    refine r_ixT ((k02.trans k3).get hak) rfl ?_
    walk_at "rd"
    obtain ⟨w3, hw3, hdw3⟩ := (hs3.mono (k02.trans k3).t0).of (tyds_at (List.getElem?_eq_getElem hj'))
    refine r_ixT ((k02.trans k3).get ha3) (by simpa using atI_nat hw3) ?_
    walk_at "rd"
    have mj := List.getElem_mem hj'
    refine ⟨.ref p1, w3, "b", _, kd.as[j], rfl, d3, hdw3, oka.1.at mj, (by have := ty_dp_mem mj; omega), fun v H4 k4 hv4 => ?_⟩
    have eL4 := (k3.trans k4).get eL
    refine ⟨us, eL4, ?_, us ++ [v], upd_same, ?_, ((k2.trans k3).trans k4).own nL⟩
    · have := hus.len
      rw [List.length_take, longs_len] at this
      have := oka.2.1
      exact Nat.lt_of_le_of_lt (show _ ≤ 1000 by omega) (by decide)
    · rw [take_one (longs_at _ _ _ _ _ (List.getElem?_eq_getElem hj'))]
      exact Dts.mono (fun p xs z => by rw [upd_ne (ne_of z eL4 (fun q => by cases q))]; exact z) ((hus.mono (k3.trans k4).t0).snoc hv4)
  · rintro H2 ⟨us, eL, hus, k2⟩
    rw [List.take_of_length_le (by rw [longs_len]; simp)] at hus
    walk_at "rd"
    refine ⟨L, us, rfl, .inl ⟨SqL.of eL, fun l nl => ?_⟩⟩
    obtain ⟨k3, t3, d3⟩ := new_tup nl hus
    walk_at "rd"
    refine r_tupN (ds := [.int kd.as.length, raiseH s i kd.as.length, .tup (longs kd.as.length 0 kd.as)]) (Dts.cons dt_int (Dts.cons (hr1.mono (k2.trans k3).t0) (Dts.cons d3 Dts.nil))) (by simp) fun p2 H4 k4 t4 n4 e4 d4 => ?_
    walk_at "rd"
    refine q _ H4 (((k1.trans k2).trans k3).trans k4) ?_
    rw [longD_eq]
    exact d4
end
end K03
end

section
/-! The program's places. -/
namespace K03
open PySem L2 PyProof.Rows PySem.Spec Lc
variable [Lc.Tbs]
local macro_rules | `(tactic| walk_at "rd") => `(tactic| repeat (first
  | with_reducible refine r_seq ?_ | with_reducible refine r_mknx ?_ | with_reducible refine r_mkrt ?_ | with_reducible refine r_asg ?_ | with_reducible refine r_name ?_ | with_reducible refine r_next ?_
  | with_reducible refine r_drop ?_ | with_reducible refine r_ret ?_ | with_reducible refine r_if ?_
  | ((with_reducible refine' r_var ?e ?_); (case e => rfl)) | with_reducible refine r_c ?_ | with_reducible refine r_op ?_ | with_reducible refine r_un ?_ | with_reducible refine r_test ?_ | with_reducible refine r_tb ?_
  | with_reducible refine r_and ?_ | with_reducible refine r_or ?_ | with_reducible refine r_not ?_ | with_reducible refine r_andV ?_ | with_reducible refine r_orV ?_ | with_reducible refine r_notV ?_ | with_reducible refine r_bl ?_
  | with_reducible refine r_cb ?_ | with_reducible refine r_cons ?_ | with_reducible refine r_nil ?_ | with_reducible refine r_tup ?_ | with_reducible refine r_lst ?_ | with_reducible refine r_call ?_
  | with_reducible refine r_i0 ?_ | with_reducible refine r_par ?_ | with_reducible refine r_two ?_ | with_reducible refine r_lc ?_ | with_reducible refine r_iL ?_ | with_reducible refine r_iT ?_ | with_reducible refine r_iS ?_ | with_reducible refine r_i1 ?_ | with_reducible refine r_yes ?_ | with_reducible refine r_chain ?_ | with_reducible refine if_t rfl ?_ | with_reducible refine if_f rfl ?_ | with_reducible refine r_nt ?_ | ((with_reducible refine r_eq ?e ?_); (case e => rfl)) | ((with_reducible refine r_ne ?e ?_); (case e => rfl))
  | with_reducible refine r_sub ?_ | with_reducible refine r_sl ?_ | with_reducible refine r_nopart ?_ | with_reducible refine r_part ?_ | with_reducible refine r_int ?_ | with_reducible refine r_bm ?_ | with_reducible refine r_bm0 ?_ | with_reducible refine r_gcons ?_ | with_reducible refine r_gnil ?_ | with_reducible refine r_dget1 ?_ | with_reducible refine r_dget2 ?_))


local macro_rules | `(tactic| walk_at "dt") => `(tactic| repeat' (first | (show Dt _ _ _; assumption) | exact dt_str | exact dt_int | exact dt_bl | exact dt_non | exact Dts.nil | refine' Dts.cons ?_ ?_ | (refine' Dt.mono ?kk ?_; (case kk => assumption)) | fail))
local macro_rules | `(tactic| walk_at "at") => `(tactic| repeat (first | assumption | (refine' Kp.ge ?kk ?nn ?_; (case kk => assumption); (case nn => intro _ z; cases z)) | fail))
local macro_rules | `(tactic| walk_at "kp") => `(tactic| repeat (first | assumption | exact Kp.refl _ _ | (refine' Kp.trans ?_ ?kk; (case kk => assumption)) | fail))
local macro_rules | `(tactic| walk_at "tup") => `(tactic| (refine' r_tupN ?h ?f ?k; (case h => walk_at "dt"); (case f => simp); skip))
def spPlaces : Sp := fun vs H Q _ => ∃ v d, vs = [v] ∧ Dt H d v ∧ tmF d = true ∧ d.sz ≤ 1000000 ∧ ∀ (L : Addr) (ys : List V) (H' : Hp), Kp [] H H' → H L = none → H' L = some (.lst ys) → Dts H' ((preo 0 d).map plD) ys → Q (.ref L) H'
abbrev s_places : Stmt := top 6
abbrev N_places : List Str := ["term", "found", "todo", "inner", "part", "node", "outer"]
theorem sc_places : FnScope N_places ["term"] (defScope s_places) := ⟨rfl, rfl, rfl, by decide +kernel, rfl, by decide +kernel, by decide +kernel⟩
section
variable {P : Program} {w : World} {K : PySem.W.Frag} {mg : Str → Option Value} {base : Heap}
theorem ok_places (F : Df K mg "places" s_places ["term"]) (T : Txt mg) : Cal P w K mg base "places" ["term"] 1 spPlaces := by
  refine F.ok sc_places (fun vs H Q E h => ?_) (fun f cdv A outer s H vs Q E hr h => ?_)
  · obtain ⟨v, d, rfl, _⟩ := h
    rfl
  obtain ⟨v, d, rfl, hd, fm, zd, q⟩ := h
  refine ⟨_, (pss_cons (ps_set (i := 1) sc_places.nd rfl (Or.inl rfl) (pe_lst pa_nil))
      (pss_cons (ps_set (i := 2) sc_places.nd rfl (Or.inl rfl) (pe_lst (pa_cons (pe_tup (pa_cons (pv 0) (pa_cons pe_int pa_nil))) pa_nil)))
      (pss_cons (ps_while PassesOwn.never (pt_truth (pv 2) (by intro _; rfl)) (pss_cons (ps_asg (pe_bm0 PySem.F.plainAttrs_list PySem.F.slot_list_pop PySem.F.type_list_pop mt_pop (pv 2)) (pg_tup (by rfl) (pgs_cons (pg_name (i := 5) sc_places.nd rfl (.inl rfl)) (pgs_cons (pg_name (i := 6) sc_places.nd rfl (.inl rfl)) pgs_nil))))
      (pss_cons (ps_set (i := 3) sc_places.nd rfl (Or.inl rfl) (pe_op op_add (pv 6) (pe_ix ix_tup (pv 5) pe_int (fun _ _ => rfl))))
      (pss_cons (ps_expr (pe_bm PySem.F.plainAttrs_list PySem.F.slot_list_append PySem.F.type_list_append mt_append (pv 1) (pa_cons (pe_tup (pa_cons (pv 5) (pa_cons (pv 3) pa_nil))) pa_nil)))
      (pss_one (ps_for PassesOwn.never rfl (RT.pi_revA rfl T.z_reversed (pe_ix ix_tup (pv 5) pe_int (fun _ _ => rfl))) (pg_name (i := 4) sc_places.nd rfl (.inl rfl)) (pss_one (ps_expr (pe_bm PySem.F.plainAttrs_list PySem.F.slot_list_append PySem.F.type_list_append mt_append (pv 2) (pa_cons (pe_tup (pa_cons (pv 4) (pa_cons (pv 3) pa_nil))) pa_nil))))))))))
      (pss_one (ps_ret (pv 1)))))), ?_⟩
  walk_at "rd"
  refine r_lstN (show 0 ≤ 10000 by decide) fun L1 H1 k1 t1 n1 e1 => ?_
  walk_at "rd"
  refine r_tupN (ds := [d, .int 0]) (Dts.cons (hd.mono t1) (Dts.cons dt_int Dts.nil)) (show 2 ≤ 10000 by decide) fun p1 H2 k2 t2 n2 e2 d2 => ?_
  walk_at "rd"
  refine r_lstN (show 1 ≤ 10000 by decide) fun L2 H3 k3 t3 n3 e3 => ?_
  walk_at "rd"
  have k03 : Kp [] H H3 := k1.trans (k2.trans k3)
  have hL1 : H L1 = none := n1
  have hL2 : H L2 = none := (k1.trans k2).none n3
  have ne12 : L1 ≠ L2 := fun z => by
    rw [← z, k2.get e1] at n3
    cases n3
  refine ⟨fun m σ H' => ∃ (fs T : List Pl) (us zs : List V) (v3 v4 v5 v6 : Option V), σ = [some v, some (.ref L1), some (.ref L2), v3, v4, v5, v6] ∧ Kp [] H H' ∧ H' L1 = some (.lst us) ∧ H' L2 = some (.lst zs) ∧ Dts H' (fs.map plD) us ∧ Dts H' (T.map plD) zs ∧ (∀ x ∈ T, tmF x.1 = true) ∧
      preo 0 d = fs ++ stackPl T ∧ stackZ T ≤ 1000000 ∧ m = stackZ T,
    ⟨_, [], [(d, 0)], [], [.ref p1], none, none, none, none, rfl, k03, k3.get (k2.get e1), e3, rfl, Dts.cons (d2.mono t3) Dts.nil, ?_, ?_, ?_, rfl⟩, ?_⟩
  · intro x hx
    rw [List.mem_singleton.mp hx]
    exact fm
  · show preo 0 d = [] ++ (preo 0 d ++ [])
    rw [List.nil_append, List.append_nil]
  · show d.sz + 0 ≤ 1000000
    omega
  rintro m σ H4 ⟨fs, T, us, zs, v3, v4, v5, v6, rfl, k4, eL1, eL2, hfs, hT, fT, epre, zT, rfl⟩
  walk_at "rd"
  refine ⟨_, .inl ⟨zs, SqL.of eL2, rfl⟩, if_2 (fun c1 => ?_) (fun c1 => ?_)⟩
  · obtain ⟨ds, dl, us2, y, eds, rfl, hds, hy⟩ := hT.last (by rintro rfl; cases c1)
    obtain ⟨T0, x, rfl⟩ : ∃ T0 x, T = T0 ++ [x] := by
      rcases List.eq_nil_or_concat T with rfl | ⟨T0, x, rfl⟩
      · have := congrArg List.length eds
        simp at this
      · exact ⟨T0, x, by rw [List.concat_eq_append]⟩
    rw [List.map_append] at eds
    obtain ⟨rfl, ex⟩ := List.append_inj' eds rfl
    have edl : dl = plD x := (List.singleton_inj.mp ex).symm
    subst edl
    obtain ⟨node, o⟩ := x
    have fx := fT (node, o) (by simp)
    obtain ⟨n, hd2', ps, rfl, fps⟩ := tmF_of fx
    refine ⟨_, fun _ _ z => z, ?_⟩
    walk_at "rd"
    have k5 : Kp [] H (upd H4 L2 (.lst us2)) := k4.own hL2
    have t5 : KeepT H4 (upd H4 L2 (.lst us2)) := fun p xs z => by rw [upd_ne (ne_of z eL2 (fun q => by cases q))]; exact z
    refine ⟨.inl ⟨rfl, _, SqL.of eL2⟩, L2, _, _, rfl, rfl, eL2, at_last us2 _, ?_⟩
    rw [drop_last]
    obtain ⟨py, xy, rfl, hpy, w1, r1, rfl, hw1, w2, r2, rfl, hw2, rfl⟩ := (hy.mono t5)
    cases hw2.int
    have hw0 := hw1
    obtain ⟨pn, xn, rfl, hpn, u1', r1, rfl, hu1, u2', r2, rfl, hu2, u3', r3, rfl, hu3, rfl⟩ := hw1
    cases hu1.int
    obtain ⟨pp, xp, rfl, hpp, hps⟩ := hu3
    refine r_gtup hpy rfl ?_
    walk_at "rd"
    refine r_ixT hpn rfl ?_
    walk_at "rd"
    have eL15 : (upd H4 L2 (.lst us2)) L1 = some (.lst us) := by rw [upd_ne ne12]; exact eL1
    have eL25 : (upd H4 L2 (.lst us2)) L2 = some (.lst us2) := upd_same
    generalize (upd H4 L2 (.lst us2)) = H5 at k5 t5 hpy hw0 hpn hu2 hpp hps eL15 eL25
    refine ⟨.inl ⟨rfl, _, SqL.of eL15⟩, ?_⟩
    walk_at "rd"
    refine r_tupN (ds := [.tup [.int n, hd2', .tup ps], .int (o + n)]) (Dts.cons hw0 (Dts.cons dt_int Dts.nil)) (show 2 ≤ 10000 by decide) fun p2 H6 k6 t6 n6 e6 d6 => ?_
    walk_at "rd"
    have lfs : us.length = fs.length := by
      have := hfs.len
      rw [List.length_map] at this
      exact this
    have lpre : fs.length ≤ 1000000 := by
      have h1 := preo_len 0 d
      rw [epre, List.length_append] at h1
      omega
    refine ⟨L1, us, _, rfl, rfl, k6.get eL15, Nat.lt_of_le_of_lt (show _ ≤ 1000000 by omega) (by decide), ?_⟩
    have eL26 := k6.get eL25
    have t7 : KeepT H6 (upd H6 L1 (.lst (us ++ [.ref p2]))) := fun p xs z => by rw [upd_ne (ne_of z (k6.get eL15) (fun q => by cases q))]; exact z
    have k7 : Kp [] H (upd H6 L1 (.lst (us ++ [.ref p2]))) := (k5.trans k6).own hL1 ⟨_, k6.get eL15, rfl⟩
    have eL17 : (upd H6 L1 (.lst (us ++ [.ref p2]))) L1 = some (.lst (us ++ [.ref p2])) := upd_same
    have eL27 : (upd H6 L1 (.lst (us ++ [.ref p2]))) L2 = some (.lst us2) := by rw [upd_ne ne12.symm]; exact eL26
    have t47 : KeepT H5 (upd H6 L1 (.lst (us ++ [.ref p2]))) := t6.trans t7
    have t67 := t7
    generalize (upd H6 L1 (.lst (us ++ [.ref p2]))) = H7 at t7 t67 k7 eL17 eL27 t47
    have lps : xp.length = ps.length := hps.len
    have zall : stackZ (T0 ++ [(D.tup [.int n, hd2', .tup ps], o)]) = stackZ T0 + (D.tup [.int n, hd2', .tup ps]).sz := by
      rw [stackZ_app]
      rfl
    have ez : (D.tup [.int n, hd2', .tup ps]).sz = 1 + (1 + (hd2'.sz + ((1 + szs ps) + 0))) := rfl
    have lps2 := szs_len ps
    have lT0 := stackZ_len T0
    walk_at "rd"
    refine r_iR ?_
    walk_at "rd"
    refine r_ixT (t47 _ _ hpn) rfl ?_
    refine ⟨pp, xp, rfl, .inr ⟨SqT.of (t47 _ _ hpp), for_it (walk_revT (K := K) (a := pp) (xs := xp)) (fun i σ H' => ∃ zs' v4', σ = [some v, some (.ref L1), some (.ref L2), some (.int (o + n)), v4', some (.ref pn), some (.int o)] ∧ Kp [L2] H7 H' ∧ H' L2 = some (.lst zs') ∧ Dts H' ((T0 ++ (ps.reverse.take i).map fun p => (p, o + n)).map plD) zs')
      ⟨us2, _, rfl, Kp.refl _ _, eL27, ?_⟩ (fun i σ H' _ ⟨_, _, _, k, _, _⟩ => SqT.of (k.t1 (NoT.lst eL27) _ _ (t47 _ _ hpp))) ?_ ?_⟩⟩
    · rw [List.take_zero]
      show Dts H7 ((T0 ++ []).map plD) us2
      rw [List.append_nil]
      exact hds.mono (t5.trans t47)
    · rintro i y σ H8 _ hi ⟨zs', v4', rfl, k8, e8, hz8⟩ ⟨rfl, hy8⟩
      obtain ⟨dp8, hdp8, hdy8⟩ := (hps.mono (t47.trans (k8.t1 (NoT.lst eL27)))).at hy8
      have hrev : ps.reverse[i]? = some dp8 := by
        rw [List.getElem?_reverse (by omega), ← lps]
        exact hdp8
      walk_at "rd"
      refine ⟨.inl ⟨rfl, _, SqL.of e8⟩, ?_⟩
      walk_at "rd"
      refine r_tupN (ds := [dp8, .int (o + n)]) (Dts.cons hdy8 (Dts.cons dt_int Dts.nil)) (show 2 ≤ 10000 by decide) fun p9 H9 k9 t9 n9 e9 d9 => ?_
      walk_at "rd"
      have lz := hz8.len
      rw [List.length_map, List.length_append, List.length_map] at lz
      have lt8 := List.length_take_le' i ps.reverse
      rw [List.length_reverse] at lt8
      refine ⟨L2, zs', _, rfl, rfl, k9.get e8, Nat.lt_of_le_of_lt (show _ ≤ 2000000 by omega) (by decide), ?_⟩
      walk_at "rd"
      refine ⟨zs' ++ [.ref p9], _, rfl, (k8.trans k9.of0).at (by simp) ⟨_, k9.get e8, rfl⟩, upd_same, ?_⟩
      have e : (T0 ++ (ps.reverse.take i ++ [dp8]).map fun p => (p, o + n)).map plD = (T0 ++ (ps.reverse.take i).map fun p => (p, o + n)).map plD ++ [plD (dp8, o + n)] := by simp
      rw [take_one hrev, e]
      exact Dts.mono (fun p xs z => by rw [upd_ne (ne_of z (k9.get e8) (fun q => by cases q))]; exact z) ((hz8.mono t9).snoc d9)
    · rintro σ H8 ⟨zs', v4', rfl, k8, e8, hz8⟩
      rw [List.take_of_length_le (by rw [List.length_reverse]; omega)] at hz8
      have t8 : KeepT H7 H8 := k8.t1 (NoT.lst eL27)
      walk_at "rd"
      have szr : stackZ (ps.reverse.map fun p => (p, o + n)) = szs ps := by rw [stackZ_parts, szs_rev]
      refine ⟨stackZ (T0 ++ ps.reverse.map fun p => (p, o + n)), ?_, fs ++ [(.tup [.int n, hd2', .tup ps], o + n)], T0 ++ ps.reverse.map fun p => (p, o + n), us ++ [.ref p2], zs', _, _, _, _, rfl, (k7.of0.trans k8).drop hL2, ?_, e8, ?_, hz8, ?_, ?_, ?_, rfl⟩
      · rw [stackZ_app, szr, zall]
        omega
      · exact k8 L1 _ (by simpa using ne12) eL17
      · rw [List.map_append]
        exact ((hfs.mono ((t5.trans t6).trans t67)).snoc (d6.mono t67)).mono t8
      · intro x hx
        rcases List.mem_append.mp hx with hx | hx
        · exact fT x (List.mem_append_left _ hx)
        · obtain ⟨p, hp, rfl⟩ := List.mem_map.mp hx
          exact tmFs_mem fps p (List.mem_reverse.mp hp)
      · rw [epre, stackPl_snoc, preo_eq, stackPl_app, stackPl_parts]
        simp
      · rw [stackZ_app, szr]
        rw [zall] at zT
        omega
  · walk_at "rd"
    have e0 : zs = [] := by
      cases zs with
      | nil => rfl
      | cons _ _ => cases c1
    subst e0
    have e1 : T = [] := by
      have := hT.len
      rw [List.length_map] at this
      exact List.eq_nil_of_length_eq_zero this.symm
    subst e1
    refine q L1 us H4 k4 hL1 eL1 ?_
    rw [epre]
    show Dts H4 ((fs ++ []).map plD) us
    rw [List.append_nil]
    exact hfs
end
end K03
end

section
/-! The law's lifting. -/
namespace K03
open PySem L2 PyProof.Rows PySem.Spec Lc
variable [Lc.Tbs]
local macro_rules | `(tactic| walk_at "rd") => `(tactic| repeat (first
  | with_reducible refine r_seq ?_ | with_reducible refine r_mknx ?_ | with_reducible refine r_mkrt ?_ | with_reducible refine r_asg ?_ | with_reducible refine r_name ?_ | with_reducible refine r_next ?_
  | with_reducible refine r_drop ?_ | with_reducible refine r_ret ?_ | with_reducible refine r_if ?_
  | ((with_reducible refine' r_var ?e ?_); (case e => rfl)) | with_reducible refine r_c ?_ | with_reducible refine r_op ?_ | with_reducible refine r_un ?_ | with_reducible refine r_test ?_ | with_reducible refine r_tb ?_
  | with_reducible refine r_and ?_ | with_reducible refine r_or ?_ | with_reducible refine r_not ?_ | with_reducible refine r_andV ?_ | with_reducible refine r_orV ?_ | with_reducible refine r_notV ?_ | with_reducible refine r_bl ?_
  | with_reducible refine r_cb ?_ | with_reducible refine r_cons ?_ | with_reducible refine r_nil ?_ | with_reducible refine r_tup ?_ | with_reducible refine r_lst ?_ | with_reducible refine r_call ?_
  | with_reducible refine r_i0 ?_ | with_reducible refine r_par ?_ | with_reducible refine r_two ?_ | with_reducible refine r_lc ?_ | with_reducible refine r_iL ?_ | with_reducible refine r_iT ?_ | with_reducible refine r_iS ?_ | with_reducible refine r_i1 ?_ | with_reducible refine r_yes ?_ | with_reducible refine r_chain ?_ | with_reducible refine if_t rfl ?_ | with_reducible refine if_f rfl ?_ | with_reducible refine r_nt ?_ | ((with_reducible refine r_eq ?e ?_); (case e => rfl)) | ((with_reducible refine r_ne ?e ?_); (case e => rfl))
  | with_reducible refine r_sub ?_ | with_reducible refine r_sl ?_ | with_reducible refine r_nopart ?_ | with_reducible refine r_part ?_ | with_reducible refine r_int ?_ | with_reducible refine r_bm ?_ | with_reducible refine r_bm0 ?_ | with_reducible refine r_gcons ?_ | with_reducible refine r_gnil ?_ | with_reducible refine r_dget1 ?_ | with_reducible refine r_dget2 ?_))


local macro_rules | `(tactic| walk_at "dt") => `(tactic| repeat' (first | (show Dt _ _ _; assumption) | exact dt_str | exact dt_int | exact dt_bl | exact dt_non | exact Dts.nil | refine' Dts.cons ?_ ?_ | (refine' Dt.mono ?kk ?_; (case kk => assumption)) | fail))
local macro_rules | `(tactic| walk_at "at") => `(tactic| repeat (first | assumption | (refine' Kp.ge ?kk ?nn ?_; (case kk => assumption); (case nn => intro _ z; cases z)) | fail))
local macro_rules | `(tactic| walk_at "kp") => `(tactic| repeat (first | assumption | exact Kp.refl _ _ | (refine' Kp.trans ?_ ?kk; (case kk => assumption)) | fail))
local macro_rules | `(tactic| walk_at "tup") => `(tactic| (refine' r_tupN ?h ?f ?k; (case h => walk_at "dt"); (case f => simp); skip))
def spLiftL (n : Nat) : Sp := fun vs H Q _ => ∃ v d k o, vs = [v, .int k, .int o] ∧ Dt H d v ∧ tmG d = true ∧ d.dp < n ∧ d.sz ≤ 1000000 ∧ ∀ r H', Kp [] H H' → Dt H' (liftD k o d) r → Q r H'
abbrev s_law_lifted : Stmt := top 22
abbrev N_law_lifted : List Str := ["term", "k", "depth", "inner", "own", "head", "parts", "part"]
theorem sc_law_lifted : FnScope N_law_lifted ["term", "k", "depth"] (defScope s_law_lifted) := ⟨rfl, rfl, rfl, by decide +kernel, rfl, by decide +kernel, by decide +kernel⟩
section
variable {P : Program} {w : World} {K : PySem.W.Frag} {mg : Str → Option Value} {base : Heap}
theorem ok_law_lifted0 {k n : Nat} (F : Df K mg "_law_lifted" s_law_lifted ["term", "k", "depth"]) (T : Txt mg) (C_law_lifted : Cal P w K mg base "_law_lifted" ["term", "k", "depth"] k (spLiftL n)) :
    Cal P w K mg base "_law_lifted" ["term", "k", "depth"] (k + 1) (spLiftL (n + 1)) := by
  refine F.ok sc_law_lifted (fun vs H Q E h => ?_) (fun f cdv A outer s H vs Q E hr h => ?_)
  · obtain ⟨v, d, k, o, rfl, _⟩ := h
    rfl
  obtain ⟨v, d, kk, o, rfl, hd, gd, dn, zd, q⟩ := h
  obtain ⟨n', x, ps, rfl, gx, gps⟩ := tmG_of gd
  obtain ⟨a, xs, rfl, ha, v1, r1, rfl, h1, v2, r2, rfl, h2, v3, r3, rfl, h3, rfl⟩ := hd
  cases h1.int
  obtain ⟨ap, xp, rfl, hap, hps⟩ := h3
  have lps : xp.length = ps.length := hps.len
  have lps2 := szs_len ps
  have ez : (D.tup [.int n', x, .tup ps]).sz = 1 + (1 + (x.sz + ((1 + szs ps) + 0))) := rfl
  have edp : (D.tup [.int n', x, .tup ps]).dp = 1 + max 1 (max x.dp (max (1 + dps ps) 0)) := rfl
  refine ⟨_, (pss_cons (ps_asg (pv 0) (pg_tup (by rfl) (pgs_cons (pg_name (i := 4) sc_law_lifted.nd rfl (.inl rfl)) (pgs_cons (pg_name (i := 5) sc_law_lifted.nd rfl (.inl rfl)) (pgs_cons (pg_name (i := 6) sc_law_lifted.nd rfl (.inl rfl)) pgs_nil)))))
      (pss_cons (ps_set (i := 3) sc_law_lifted.nd rfl (Or.inr rfl) (pe_op op_add (pv 2) (pv 4)))
      (Evl.pss_cut (ps_if (PW.pt (pw_and (pt_cmpR op_eq (pe_ix ix_tup (pv 5) pe_int (fun _ _ => rfl)) pe_str (nomark _)) (pw_and1 (pt_cmpR op_ge (pe_ix ix_tup (pv 5) pe_int (fun _ _ => rfl)) (pv 3) (nomark _))))) (pss_one (ps_set (i := 5) sc_law_lifted.nd rfl (Or.inl rfl) (pe_tup (pa_cons pe_str (pa_cons (pe_op op_add (pe_ix ix_tup (pv 5) pe_int (fun _ _ => rfl)) (pv 1)) pa_nil))))) pss_nil)
      (pss_one (ps_ret (pe_tup (pa_cons (pv 4) (pa_cons (pv 5) (pa_cons (pe_callTy call_tuple_of (by rfl) T.z_tuple (by decide +kernel) (pa_cons (pe_lc (own := [("part", 7)]) (g := gName 7) rfl sc_law_lifted.nd (pi_tup (pv 6)) (blkOk_by (N := N_law_lifted) (sc := defScope s_law_lifted) (by decide +kernel)) (fun _ _ _ _ _ => (pg_name (i := 7) sc_law_lifted.nd rfl (Or.inl rfl))) (fun _ _ _ _ _ => pts_nil) (fun _ _ _ _ _ => (pe_cal C_law_lifted hr rfl (pa_cons (pv 7) (pa_cons (pv 1) (pa_cons (pv 3) pa_nil)))))) pa_nil)) pa_nil))))))))), ?_⟩
  walk_at "rd"
  refine r_gtup ha rfl ?_
  walk_at "rd"
  refine r_cut (fun σ H' => ∃ hv', σ = [some (.ref a), some (.int kk), some (.int o), some (.int (o + n')), some (.int n'), some hv', some (.ref ap), none] ∧ Kp [] H H' ∧ Dt H' (liftH kk (o + n') x) hv') ?_ ?_
  · walk_at "rd"
    rcases hdG_of gx with ⟨s, i, rfl, _⟩ | ⟨y, rfl⟩
    · have h20 := h2
      obtain ⟨ah, xh, rfl, hah, vh, r2, rfl, hvh, vi, r3, rfl, hvi, rfl⟩ := h2
      cases hvh.str
      cases hvi.int
      refine r_ixT hah rfl ?_
      walk_at "rd"
      have el : liftH kk (o + n') (hd2 s i) = if s = "b" ∧ o + n' ≤ i then hb (i + kk) else hd2 s i := rfl
      refine if_2 (fun c => ?_) (fun c => ?_)
      · have es : s = "b" := V.str.inj (of_decide_eq_true c)
        walk_at "rd"
        refine r_ixT hah rfl ?_
        walk_at "rd"
        refine if_2 (fun c2 => ?_) (fun c2 => ?_)
        · walk_at "rd"
          refine r_ixT hah rfl ?_
          walk_at "rd"
          refine r_tupN (ds := [.str "b", .int (i + kk)]) (by walk_at "dt") (by simp) fun p1 H1 k1 t1 n1 e1 d1 => ?_
          walk_at "rd"
          refine ⟨_, rfl, k1, ?_⟩
          rw [el, if_pos ⟨es, of_decide_eq_true c2⟩]
          exact d1
        · walk_at "rd"
          refine ⟨_, rfl, Kp.refl _ _, ?_⟩
          rw [el, if_neg (fun z => of_decide_eq_false c2 z.2)]
          exact h20
      · walk_at "rd"
        refine ⟨_, rfl, Kp.refl _ _, ?_⟩
        rw [el, if_neg (fun z => of_decide_eq_false c (by rw [z.1]))]
        exact h20
    · have h20 := h2
      obtain ⟨ah, xh, rfl, hah, vh, r2, rfl, hvh, vi, r3, rfl, hvi, rfl⟩ := h2
      cases hvh.str
      refine r_ixT hah rfl ?_
      walk_at "rd"
      exact ⟨_, rfl, Kp.refl _ _, h20⟩
  rintro _ H1 ⟨hv', rfl, k1, hr1⟩
  walk_at "rd"
  refine ⟨ap, rfl, ⟨_, SqT.of (k1.get hap)⟩, fun L nL => lc_it (walk_tup (K := K) (a := ap) (xs := xp)) (fun i H' => ∃ us, H' L = some (.lst us) ∧ Dts H' ((lifts kk (o + n') ps).take i) us ∧ Kp [] H1 H')
    ⟨[], upd_same, rfl, (Kp.refl _ _).up nL⟩ (fun i H' _ ⟨_, _, _, k⟩ => SqT.of ((k1.trans k).get hap)) ?_ ?_⟩
  · rintro i y H0 H2 hi ⟨us, eL, hus, k2⟩ ⟨rfl, hy⟩
    obtain ⟨p, hp, hpy⟩ := (hps.mono (k1.trans k2).t0).at hy
    have mp := List.mem_of_getElem? hp
    have m1 := dps_mem mp
    have m2 := szs_mem mp
    walk_at "rd"
    refine ⟨rfl, ?_⟩
    walk_at "rd"
    refine ⟨y, p, kk, o + n', rfl, hpy, tmGs_mem gps p mp, by omega, by omega, fun r H3 k3 hr3 => ?_⟩
    have eL3 := k3.get eL
    have el : (lifts kk (o + n') ps)[i]? = some (liftD kk (o + n') p) := by
      rw [lifts_map, List.getElem?_map, hp]
      rfl
    refine ⟨us, eL3, ?_, us ++ [r], upd_same, ?_, (k2.trans k3).own nL⟩
    · have := hus.len
      rw [List.length_take, lifts_map, List.length_map] at this
      exact Nat.lt_of_le_of_lt (show _ ≤ 1000000 by omega) (by decide)
    · rw [take_one el]
      exact Dts.mono (fun p xs z => by rw [upd_ne (ne_of z eL3 (fun q => by cases q))]; exact z) ((hus.mono k3.t0).snoc hr3)
  · rintro H2 ⟨us, eL, hus, k2⟩
    rw [List.take_of_length_le (by rw [lifts_map, List.length_map]; omega)] at hus
    walk_at "rd"
    refine ⟨L, us, rfl, .inl ⟨SqL.of eL, fun l nl => ?_⟩⟩
    obtain ⟨k3, t3, d3⟩ := new_tup nl hus
    walk_at "rd"
    refine r_tupN (ds := [.int n', liftH kk (o + n') x, .tup (lifts kk (o + n') ps)]) (Dts.cons dt_int (Dts.cons (hr1.mono (k2.trans k3).t0) (Dts.cons d3 Dts.nil))) (by simp) fun p2 H4 k4 t4 n4 e4 d4 => ?_
    walk_at "rd"
    refine q _ H4 (((k1.trans k2).trans k3).trans k4) ?_
    rw [liftD_eq]
    exact d4
end
end K03
end

section
/-! The program's long forms. -/
namespace K03
open PySem L2 PyProof.Rows PySem.Spec Lc
variable [Lc.Tbs]
local macro_rules | `(tactic| walk_at "rd") => `(tactic| repeat (first
  | with_reducible refine r_seq ?_ | with_reducible refine r_mknx ?_ | with_reducible refine r_mkrt ?_ | with_reducible refine r_asg ?_ | with_reducible refine r_name ?_ | with_reducible refine r_next ?_
  | with_reducible refine r_drop ?_ | with_reducible refine r_ret ?_ | with_reducible refine r_if ?_
  | ((with_reducible refine' r_var ?e ?_); (case e => rfl)) | with_reducible refine r_c ?_ | with_reducible refine r_op ?_ | with_reducible refine r_un ?_ | with_reducible refine r_test ?_ | with_reducible refine r_tb ?_
  | with_reducible refine r_and ?_ | with_reducible refine r_or ?_ | with_reducible refine r_not ?_ | with_reducible refine r_andV ?_ | with_reducible refine r_orV ?_ | with_reducible refine r_notV ?_ | with_reducible refine r_bl ?_
  | with_reducible refine r_cb ?_ | with_reducible refine r_cons ?_ | with_reducible refine r_nil ?_ | with_reducible refine r_tup ?_ | with_reducible refine r_lst ?_ | with_reducible refine r_call ?_
  | with_reducible refine r_i0 ?_ | with_reducible refine r_par ?_ | with_reducible refine r_two ?_ | with_reducible refine r_lc ?_ | with_reducible refine r_iL ?_ | with_reducible refine r_iT ?_ | with_reducible refine r_iS ?_ | with_reducible refine r_i1 ?_ | with_reducible refine r_yes ?_ | with_reducible refine r_chain ?_ | with_reducible refine if_t rfl ?_ | with_reducible refine if_f rfl ?_ | with_reducible refine r_nt ?_ | ((with_reducible refine r_eq ?e ?_); (case e => rfl)) | ((with_reducible refine r_ne ?e ?_); (case e => rfl))
  | with_reducible refine r_sub ?_ | with_reducible refine r_sl ?_ | with_reducible refine r_nopart ?_ | with_reducible refine r_part ?_ | with_reducible refine r_int ?_ | with_reducible refine r_bm ?_ | with_reducible refine r_bm0 ?_ | with_reducible refine r_gcons ?_ | with_reducible refine r_gnil ?_ | with_reducible refine r_dget1 ?_ | with_reducible refine r_dget2 ?_))


local macro_rules | `(tactic| walk_at "dt") => `(tactic| repeat' (first | (show Dt _ _ _; assumption) | exact dt_str | exact dt_int | exact dt_bl | exact dt_non | exact Dts.nil | refine' Dts.cons ?_ ?_ | (refine' Dt.mono ?kk ?_; (case kk => assumption)) | fail))
local macro_rules | `(tactic| walk_at "at") => `(tactic| repeat (first | assumption | (refine' Kp.ge ?kk ?nn ?_; (case kk => assumption); (case nn => intro _ z; cases z)) | fail))
local macro_rules | `(tactic| walk_at "kp") => `(tactic| repeat (first | assumption | exact Kp.refl _ _ | (refine' Kp.trans ?_ ?kk; (case kk => assumption)) | fail))
local macro_rules | `(tactic| walk_at "tup") => `(tactic| (refine' r_tupN ?h ?f ?k; (case h => walk_at "dt"); (case f => simp); skip))
def raiseG (n : Int) : D → D
  | .tup [.str s, .int i] => raiseH s i n
  | h => h
def spRaised : Sp := fun vs H Q _ => ∃ hv h n, vs = [hv, .int n] ∧ Dt H h hv ∧ hdG h = true ∧ ∀ r H', Kp [] H H' → Dt H' (raiseG n h) r → Q r H'
def spLongP (n : Nat) : Sp := fun vs H Q _ => ∃ hv kv s i k, vs = [hv, kv] ∧ Dt H (hd2 s i) hv ∧ (s = "b" ∨ s = "h") ∧ Dt H (Lc.Ty.d k) kv ∧ k.Ok 1000 ∧ k.d.dp < n ∧ ∀ v H', Kp [] H H' → Dt H' (longD s i k) v → Q v H'
def spLongRow (n : Nat) : Sp := fun vs H Q _ => ∃ bv ts, vs = [bv] ∧ Dt H (.tup (tyds ts)) bv ∧ TysOk 1000 ts ∧ ts.length ≤ 1000 ∧ dps (tyds ts) < n ∧ ∀ v H', Kp [] H H' → Dt H' (.tup (longs ts.length 0 ts)) v → Q v H'
def spLongOf (s : Str) (n : Nat) : Sp := fun vs H Q _ => ∃ kv i k, vs = [.int i, kv] ∧ Dt H (Lc.Ty.d k) kv ∧ k.Ok 1000 ∧ k.d.dp < n ∧ ∀ v H', Kp [] H H' → Dt H' (longD s i k) v → Q v H'
abbrev s_raised_head : Stmt := top 8
abbrev N_raised_head : List Str := ["head", "k"]
theorem sc_raised_head : FnScope N_raised_head ["head", "k"] (defScope s_raised_head) := ⟨rfl, rfl, rfl, by decide +kernel, rfl, by decide +kernel, by decide +kernel⟩
abbrev s_long_form : Stmt := top 11
abbrev N_long_form : List Str := ["head", "kind", "n"]
theorem sc_long_form : FnScope N_long_form ["head", "kind"] (defScope s_long_form) := ⟨rfl, rfl, rfl, by decide +kernel, rfl, by decide +kernel, by decide +kernel⟩
abbrev s_long_row : Stmt := top 12
abbrev N_long_row : List Str := ["binders", "j"]
theorem sc_long_row : FnScope N_long_row ["binders"] (defScope s_long_row) := ⟨rfl, rfl, rfl, by decide +kernel, rfl, by decide +kernel, by decide +kernel⟩
abbrev s_long_binder : Stmt := top 13
abbrev N_long_binder : List Str := ["i", "kind"]
theorem sc_long_binder : FnScope N_long_binder ["i", "kind"] (defScope s_long_binder) := ⟨rfl, rfl, rfl, by decide +kernel, rfl, by decide +kernel, by decide +kernel⟩
abbrev s_long_hole : Stmt := top 14
abbrev N_long_hole : List Str := ["k", "kind"]
theorem sc_long_hole : FnScope N_long_hole ["k", "kind"] (defScope s_long_hole) := ⟨rfl, rfl, rfl, by decide +kernel, rfl, by decide +kernel, by decide +kernel⟩
section
variable {P : Program} {w : World} {K : PySem.W.Frag} {mg : Str → Option Value} {base : Heap}
theorem ok_raised (F : Df K mg "raised_head" s_raised_head ["head", "k"]) (T : Txt mg) : Cal P w K mg base "raised_head" ["head", "k"] 1 spRaised := by
  refine F.ok sc_raised_head (fun vs H Q E h => ?_) (fun f cdv A outer s H vs Q E hr h => ?_)
  · obtain ⟨hv, h, n, rfl, _⟩ := h
    rfl
  obtain ⟨hv, h, n, rfl, h2, gx, q⟩ := h
  refine ⟨_, (pss_cons (ps_if (pt_cmpR op_eq (pe_ix ix_tup (pv 0) pe_int (fun _ _ => rfl)) pe_str (nomark _)) (pss_one (ps_ret (pe_tup (pa_cons pe_str (pa_cons (pe_op op_add (pe_ix ix_tup (pv 0) pe_int (fun _ _ => rfl)) (pv 1)) pa_nil))))) pss_nil)
      (pss_one (ps_ret (pv 0)))), ?_⟩
  walk_at "rd"
  rcases hdG_of gx with ⟨s, i, rfl, _⟩ | ⟨y, rfl⟩
  · have h20 := h2
    obtain ⟨ah, xh, rfl, hah, vh, r2, rfl, hvh, vi, r3, rfl, hvi, rfl⟩ := h2
    cases hvh.str
    cases hvi.int
    have el : raiseG n (hd2 s i) = if s = "b" then hd2 "b" (i + n) else hd2 s i := rfl
    refine r_ixT hah rfl ?_
    walk_at "rd"
    refine if_2 (fun c => ?_) (fun c => ?_)
    · have es : s = "b" := V.str.inj (of_decide_eq_true c)
      walk_at "rd"
      refine r_ixT hah rfl ?_
      walk_at "rd"
      refine r_tupN (ds := [.str "b", .int (i + n)]) (by walk_at "dt") (by simp) fun p1 H1 k1 t1 n1 e1 d1 => ?_
      walk_at "rd"
      refine q _ H1 k1 ?_
      rw [el, if_pos es]
      exact d1
    · walk_at "rd"
      refine q _ H (Kp.refl _ _) ?_
      rw [el, if_neg (fun z => of_decide_eq_false c (by rw [z]))]
      exact h20
  · have h20 := h2
    obtain ⟨ah, xh, rfl, hah, vh, r2, rfl, hvh, vi, r3, rfl, hvi, rfl⟩ := h2
    cases hvh.str
    refine r_ixT hah rfl ?_
    walk_at "rd"
    exact q _ H (Kp.refl _ _) h20
theorem ok_long_row {k n : Nat} (F : Df K mg "long_row" s_long_row ["binders"]) (T : Txt mg) (C_long_form : Cal P w K mg base "long_form" ["head", "kind"] k (spLongP n)) :
    Cal P w K mg base "long_row" ["binders"] (k + 1) (spLongRow n) := by
  refine F.ok sc_long_row (fun vs H Q E h => ?_) (fun f cdv A outer s H vs Q E hr h => ?_)
  · obtain ⟨bv, ts, rfl, _⟩ := h
    rfl
  obtain ⟨bv, ts, rfl, hb, okt, lt, dt, q⟩ := h
  obtain ⟨a3, x3, rfl, ha3, hs3⟩ := hb
  have l3 : x3.length = ts.length := by rw [hs3.len, tyds_len]
  refine ⟨_, (pss_one (ps_ret (pe_callTy call_tuple_of (by rfl) T.z_tuple (by decide +kernel) (pa_cons (pe_lc (own := [("j", 1)]) (g := gName 1) rfl sc_long_row.nd (pi_range1 rfl T.z_range (pa_cons (pe_callB call_len_seq (by rfl) T.z_len (by decide +kernel) (pa_cons (pv 0) pa_nil)) pa_nil)) (blkOk_by (N := N_long_row) (sc := defScope s_long_row) (by decide +kernel)) (fun _ _ _ _ _ => (pg_name (i := 1) sc_long_row.nd rfl (Or.inl rfl))) (fun _ _ _ _ _ => pts_nil) (fun _ _ _ _ _ => (pe_cal C_long_form hr rfl (pa_cons (pe_tup (pa_cons pe_str (pa_cons (pe_op op_sub (pe_op op_sub (pe_callB (r := Evl.rLenS K) call_len_seq (by rfl) T.z_len (by decide +kernel) (pa_cons (pv 0) pa_nil)) pe_int) (pv 1)) pa_nil))) (pa_cons (pe_ix (r := rIxT K) ix_tup (pv 0) (pv 1) (fun _ _ => rfl)) pa_nil))))) pa_nil)))), ?_⟩
  walk_at "rd"
  refine ⟨a3, x3, rfl, .inr (SqT.of ha3), ?_⟩
  rw [l3]
  refine ⟨_, rfl, by omega, by omega, fun L nL => lc_it walk_range (fun j H' => ∃ us, H' L = some (.lst us) ∧ Dts H' ((longs ts.length 0 ts).take j) us ∧ Kp [] H H')
    ⟨[], upd_same, rfl, (Kp.refl _ _).up nL⟩ (fun _ _ _ _ => trivial) ?_ ?_⟩
  · rintro j y H0 H2 hj ⟨us, eL, hus, k02⟩ ⟨rfl, rfl⟩
    have hj' : j < ts.length := by simpa using hj
    walk_at "rd"
    refine ⟨rfl, ?_⟩
    walk_at "rd"
    refine ⟨a3, x3, rfl, .inr (SqT.of (k02.get ha3)), ?_⟩
    walk_at "rd"
    rw [l3]
    have ej : ((ts.length : Int) - 1 - (0 + (j : Int))) = (ts.length : Int) - 1 - (0 + j : Nat) := by omega
    refine r_tupN (ds := [.str "b", .int ((ts.length : Int) - 1 - (0 + j : Nat))]) (Dts.cons dt_str (Dts.cons (show (V.int _ : V) = .int _ by rw [ej]) Dts.nil)) (by simp) fun p1 H3 k3 t3 n3 e3 d3 => ?_
    walk_at "rd"
    obtain ⟨w3, hw3, hdw3⟩ := (hs3.mono (k02.trans k3).t0).of (tyds_at (List.getElem?_eq_getElem hj'))
    refine r_ixT ((k02.trans k3).get ha3) (by simpa using atI_nat hw3) ?_
    walk_at "rd"
    have mj := List.getElem_mem hj'
    refine ⟨.ref p1, w3, "b", _, ts[j], rfl, d3, .inl rfl, hdw3, okt.at mj, Nat.lt_of_le_of_lt (dps_mem (by rw [tyds_map]; exact List.mem_map.mpr ⟨_, mj, rfl⟩)) dt, fun v H4 k4 hv4 => ?_⟩
    have eL4 := (k3.trans k4).get eL
    refine ⟨us, eL4, ?_, us ++ [v], upd_same, ?_, ((k02.trans k3).trans k4).own nL⟩
    · have := hus.len
      rw [List.length_take, longs_len] at this
      exact Nat.lt_of_le_of_lt (show _ ≤ 1000 by omega) (by decide)
    · rw [take_one (longs_at _ _ _ _ _ (List.getElem?_eq_getElem hj'))]
      exact Dts.mono (fun p xs z => by rw [upd_ne (ne_of z eL4 (fun q => by cases q))]; exact z) ((hus.mono (k3.trans k4).t0).snoc hv4)
  · rintro H2 ⟨us, eL, hus, k2⟩
    rw [List.take_of_length_le (by rw [longs_len]; simp)] at hus
    walk_at "rd"
    refine ⟨L, us, rfl, .inl ⟨SqL.of eL, fun l nl => ?_⟩⟩
    obtain ⟨k4, t4, d4⟩ := new_tup nl hus
    walk_at "rd"
    exact q _ _ (k2.trans k4) d4
theorem ok_long_form0 {k n : Nat} (F : Df K mg "long_form" s_long_form ["head", "kind"]) (T : Txt mg) (hk : 1 ≤ k) (C_raised_head : Cal P w K mg base "raised_head" ["head", "k"] 1 spRaised) (C_long_row : Cal P w K mg base "long_row" ["binders"] k (spLongRow n)) :
    Cal P w K mg base "long_form" ["head", "kind"] (k + 1) (spLongP (n + 1)) := by
  replace C_raised_head := C_raised_head.mono hk
  refine F.ok sc_long_form (fun vs H Q E h => ?_) (fun f cdv A outer s H vs Q E hr h => ?_)
  · obtain ⟨hv, kv, s, i, k, rfl, _⟩ := h
    rfl
  obtain ⟨hv, kv, s, i, kd, rfl, hh, sbh, hk', ok, dk, q⟩ := h
  rw [Ty.d_eq] at hk' dk
  obtain ⟨ak, xk, rfl, hak, va, r2, rfl, hva, vs2, r3, rfl, hvs2, rfl⟩ := hk'
  have hva0 := hva
  obtain ⟨a3, x3, rfl, ha3, hs3⟩ := hva
  have l3 : x3.length = kd.as.length := by rw [hs3.len, tyds_len]
  have oka := Ty.Ok.as ok
  have edk : (D.tup [.tup (tyds kd.as), .str kd.s]).dp = 1 + max (1 + dps (tyds kd.as)) (max 1 0) := rfl
  rw [edk] at dk
  refine ⟨_, (pss_cons (ps_set (i := 2) sc_long_form.nd rfl (Or.inl rfl) (pe_callB call_len_seq (by rfl) T.z_len (by decide +kernel) (pa_cons (pe_ix ix_tup (pv 1) pe_int (fun _ _ => rfl)) pa_nil)))
      (pss_one (ps_ret (pe_tup (pa_cons (pv 2) (pa_cons (pe_cal C_raised_head hr rfl (pa_cons (pv 0) (pa_cons (pv 2) pa_nil))) (pa_cons (pe_cal C_long_row hr rfl (pa_cons (pe_ix ix_tup (pv 1) pe_int (fun _ _ => rfl)) pa_nil)) pa_nil))))))), ?_⟩
  walk_at "rd"
  refine r_ixT hak rfl ?_
  walk_at "rd"
  refine ⟨a3, x3, rfl, .inr (SqT.of ha3), ?_⟩
  walk_at "rd"
  rw [l3]
  refine ⟨hv, _, kd.as.length, rfl, hh, ?_, fun r H3 k3 hr3 => ?_⟩
  · rcases sbh with rfl | rfl
    · rfl
    · show (decide (("h" : Str) = "b") || decide (("h" : Str) = "h")) = true
      rw [decide_eq_true rfl, Bool.or_true]
  walk_at "rd"
  refine r_ixT (k3.get hak) rfl ?_
  walk_at "rd"
  refine ⟨.ref a3, kd.as, rfl, hva0.mono k3.t0, oka.1, oka.2.1, by omega, fun v H4 k4 d4 => ?_⟩
  walk_at "rd"
  refine r_tupN (ds := [.int kd.as.length, raiseH s i kd.as.length, .tup (longs kd.as.length 0 kd.as)]) (Dts.cons dt_int (Dts.cons ((show Dt H3 (raiseH s i kd.as.length) r from hr3).mono k4.t0) (Dts.cons d4 Dts.nil))) (by simp) fun p2 H5 k5 t5 n5 e5 d5 => ?_
  walk_at "rd"
  refine q _ H5 ((k3.trans k4).trans k5) ?_
  rw [longD_eq]
  exact d5
theorem ok_long_binder {k n : Nat} (F : Df K mg "long_binder" s_long_binder ["i", "kind"]) (T : Txt mg) (C_long_form : Cal P w K mg base "long_form" ["head", "kind"] k (spLongP n)) : Cal P w K mg base "long_binder" ["i", "kind"] (k + 1) (spLongOf "b" n) := by
  refine F.ok sc_long_binder (fun vs H Q E h => ?_) (fun f cdv A outer s H vs Q E hr h => ?_)
  · obtain ⟨kv, i, k, rfl, _⟩ := h
    rfl
  obtain ⟨kv, i, kd, rfl, hk, ok, dk, q⟩ := h
  refine ⟨_, (pss_one (ps_ret (pe_cal C_long_form hr rfl (pa_cons (pe_tup (pa_cons pe_str (pa_cons (pv 0) pa_nil))) (pa_cons (pv 1) pa_nil))))), ?_⟩
  walk_at "rd"
  refine r_tupN (ds := [.str "b", .int i]) (by walk_at "dt") (by simp) fun p1 H1 k1 t1 n1 e1 d1 => ?_
  walk_at "rd"
  exact ⟨_, kv, "b", i, kd, rfl, d1, .inl rfl, hk.mono t1, ok, dk, fun v H2 k2 hv => q v H2 (k1.trans k2) hv⟩
theorem ok_long_hole {k n : Nat} (F : Df K mg "long_hole" s_long_hole ["k", "kind"]) (T : Txt mg) (C_long_form : Cal P w K mg base "long_form" ["head", "kind"] k (spLongP n)) : Cal P w K mg base "long_hole" ["k", "kind"] (k + 1) (spLongOf "h" n) := by
  refine F.ok sc_long_hole (fun vs H Q E h => ?_) (fun f cdv A outer s H vs Q E hr h => ?_)
  · obtain ⟨kv, i, k, rfl, _⟩ := h
    rfl
  obtain ⟨kv, i, kd, rfl, hk, ok, dk, q⟩ := h
  refine ⟨_, (pss_one (ps_ret (pe_cal C_long_form hr rfl (pa_cons (pe_tup (pa_cons pe_str (pa_cons (pv 0) pa_nil))) (pa_cons (pv 1) pa_nil))))), ?_⟩
  walk_at "rd"
  refine r_tupN (ds := [.str "h", .int i]) (by walk_at "dt") (by simp) fun p1 H1 k1 t1 n1 e1 d1 => ?_
  walk_at "rd"
  exact ⟨_, kv, "h", i, kd, rfl, d1, .inr rfl, hk.mono t1, ok, dk, fun v H2 k2 hv => q v H2 (k1.trans k2) hv⟩
end
end K03
end

section
/-! The program's folded. -/
namespace K03
open PySem L2 PyProof.Rows PySem.Spec Lc NdefX
variable [Lc.Tbs]
local macro_rules | `(tactic| walk_at "rd") => `(tactic| repeat (first
  | with_reducible refine r_seq ?_ | with_reducible refine r_mknx ?_ | with_reducible refine r_mkrt ?_ | with_reducible refine r_asg ?_ | with_reducible refine r_name ?_ | with_reducible refine r_next ?_
  | with_reducible refine r_drop ?_ | with_reducible refine r_ret ?_ | with_reducible refine r_if ?_
  | ((with_reducible refine' r_var ?e ?_); (case e => rfl)) | with_reducible refine r_c ?_ | with_reducible refine r_op ?_ | with_reducible refine r_un ?_ | with_reducible refine r_test ?_ | with_reducible refine r_tb ?_
  | with_reducible refine r_and ?_ | with_reducible refine r_or ?_ | with_reducible refine r_not ?_ | with_reducible refine r_andV ?_ | with_reducible refine r_orV ?_ | with_reducible refine r_notV ?_ | with_reducible refine r_bl ?_
  | with_reducible refine r_cb ?_ | with_reducible refine r_cons ?_ | with_reducible refine r_nil ?_ | with_reducible refine r_tup ?_ | with_reducible refine r_lst ?_ | with_reducible refine r_call ?_
  | with_reducible refine r_i0 ?_ | with_reducible refine r_par ?_ | with_reducible refine r_two ?_ | with_reducible refine r_lc ?_ | with_reducible refine r_iL ?_ | with_reducible refine r_iT ?_ | with_reducible refine r_iS ?_ | with_reducible refine r_i1 ?_ | with_reducible refine r_yes ?_ | with_reducible refine r_chain ?_ | with_reducible refine if_t rfl ?_ | with_reducible refine if_f rfl ?_ | with_reducible refine r_nt ?_ | ((with_reducible refine r_eq ?e ?_); (case e => rfl)) | ((with_reducible refine r_ne ?e ?_); (case e => rfl))
  | with_reducible refine r_sub ?_ | with_reducible refine r_sl ?_ | with_reducible refine r_nopart ?_ | with_reducible refine r_part ?_ | with_reducible refine r_int ?_ | with_reducible refine r_bm ?_ | with_reducible refine r_bm0 ?_ | with_reducible refine r_gcons ?_ | with_reducible refine r_gnil ?_ | with_reducible refine r_dget1 ?_ | with_reducible refine r_dget2 ?_))


local macro_rules | `(tactic| walk_at "dt") => `(tactic| repeat' (first | (show Dt _ _ _; assumption) | exact dt_str | exact dt_int | exact dt_bl | exact dt_non | exact Dts.nil | refine' Dts.cons ?_ ?_ | (refine' Dt.mono ?kk ?_; (case kk => assumption)) | fail))
local macro_rules | `(tactic| walk_at "at") => `(tactic| repeat (first | assumption | (refine' Kp.ge ?kk ?nn ?_; (case kk => assumption); (case nn => intro _ z; cases z)) | fail))
local macro_rules | `(tactic| walk_at "kp") => `(tactic| repeat (first | assumption | exact Kp.refl _ _ | (refine' Kp.trans ?_ ?kk; (case kk => assumption)) | fail))
local macro_rules | `(tactic| walk_at "tup") => `(tactic| (refine' r_tupN ?h ?f ?k; (case h => walk_at "dt"); (case f => simp); skip))
def spFolded (g : D → Int → List D → D) (ok : D → Prop) : Sp := fun vs H Q _ => ∃ v fv d, vs = [v, fv] ∧ Dt H d v ∧ tmF d = true ∧ d.sz ≤ 1000000 ∧ (∀ x ∈ preo 0 d, ok x.1) ∧ ∀ r H', Kp [] H H' → Dt H' (foldD g 0 d) r → Q r H'
abbrev s_folded : Stmt := top 7
abbrev N_folded : List Str := ["term", "change", "done", "node", "inner", "parts", "_"]
theorem sc_folded : FnScope N_folded ["term", "change"] (defScope s_folded) := ⟨rfl, rfl, rfl, by decide +kernel, rfl, by decide +kernel, by decide +kernel⟩
section
variable {P : Program} {w : World} {K : PySem.W.Frag} {mg : Str → Option Value} {base : Heap}
theorem ok_folded {kc k : Nat} {g : D → Int → List D → D} {ok : D → Prop} {J : List (Option V) → Hp → Prop} (Jm : ∀ ws H H', Kp [] H H' → J ws H → J ws H') (F : Df K mg "folded" s_folded ["term", "change"]) (T : Txt mg) (kcle : kc ≤ k) (k1 : 1 ≤ k) (C_places : Cal P w K mg base "places" ["term"] 1 spPlaces) :
    CalC P w K mg base "folded" ["term", "change"] (k + 1) (FnH P w K mg base kc g ok J) (spFolded g ok) := by
  replace C_places := C_places.mono k1
  refine F.okC sc_folded (fun vs H Q E h => ?_) (fun f cdv A outer s H vs Q E hr hΦ h => ?_)
  · obtain ⟨v, fv, d, rfl, _⟩ := h
    rfl
  obtain ⟨v, fv, d, rfl, hd, fm, zd, okn, q⟩ := h
  obtain ⟨FF, fa, fr, ws, v', ev, hfa, hco, CA, far, hJ, Fn⟩ := hΦ
  cases ev
  refine ⟨_, (pss_cons (ps_set (i := 2) sc_folded.nd rfl (Or.inr rfl) (pe_lst pa_nil))
      (pss_cons (ps_for PassesOwn.never rfl (RT.pi_revA rfl T.z_reversed (pe_cal C_places hr rfl (pa_cons (pv 0) pa_nil))) (pg_tup (by rfl) (pgs_cons (pg_name (i := 3) sc_folded.nd rfl (.inl rfl)) (pgs_cons (pg_name (i := 4) sc_folded.nd rfl (.inl rfl)) pgs_nil))) (pss_cons (ps_setLc (i := 5) (own := [("_", 6)]) (g := gName 6) (by rfl) sc_folded.nd rfl rfl (sw_true rfl rfl rfl (by decide +kernel)) (pi_tup (pe_ix ix_tup (pv 3) pe_int (fun _ _ => rfl))) (blkOk_by (N := N_folded) (sc := defScope s_folded) (by decide +kernel)) (fun _ _ _ _ _ => (pg_name (i := 6) sc_folded.nd rfl (Or.inl rfl))) (fun _ _ _ _ _ => pts_nil) (fun _ _ _ _ _ => (pe_popB (K := K) rfl (pv 2))))
      (pss_one (ps_expr (pe_bm PySem.F.plainAttrs_list PySem.F.slot_list_append PySem.F.type_list_append mt_append (pv 2) (pa_cons (pe_callH (i := 1) Fn CA far rfl hr kcle pass0 rfl (Or.inl rfl) (pa_cons (pv 3) (pa_cons (pv 4) (pa_cons (pv 5) pa_nil)))) pa_nil))))))
      (pss_one (ps_ret (pe_ix ix_list (pv 2) pe_int (fun _ _ => rfl)))))), ?_⟩
  walk_at "rd"
  refine r_lstN (show 0 ≤ 10000 by decide) fun L1 H1 k1' t1 n1 e1 => ?_
  walk_at "rd"
  refine r_iR ?_
  walk_at "rd"
  refine ⟨v, d, rfl, hd.mono t1, fm, zd, fun L ys H2 k2 nL eL hys => ?_⟩
  have k02 : Kp [] H H2 := k1'.trans k2
  have e12 : H2 L1 = some (.lst []) := k2.get e1
  have neL : L ≠ L1 := fun z => by
    rw [z, e1] at nL
    cases nL
  have nfa : fa ≠ L1 := fun z => by
    rw [z, n1] at hfa
    cases hfa
  have lys : ys.length = (preo 0 d).length := by
    have := hys.len
    rw [List.length_map] at this
    exact this
  have lpre := preo_len 0 d
  have S0 : ∀ x ∈ ([(d, 0)] : List Pl), tmF x.1 = true := fun x hx => by
    rw [List.mem_singleton.mp hx]
    exact fm
  have st0 : stackS [(d, 0)] = preo 0 d := by
    show preo 0 d ++ [] = _
    rw [List.append_nil]
  refine ⟨L, ys, rfl, .inl ⟨SqL.of eL, for_it (walk_rev (K := K) (a := L) (xs := ys)) (fun i σ H' => ∃ zs v3 v4 v5 v6, σ = [some v, some (.ref fa), some (.ref L1), v3, v4, v5, v6] ∧ Kp [L1] H2 H' ∧ H' L1 = some (.lst zs) ∧ Dts H' (doneD g (stS [(d, 0)] (ys.length - i))) zs)
    ⟨[], _, _, _, _, rfl, Kp.refl _ _, e12, ?_⟩ (fun i σ H' _ ⟨_, _, _, _, _, _, k, _⟩ => SqL.of (k L _ (by simpa using neL) eL)) ?_ ?_⟩⟩
  · obtain ⟨h1, h2⟩ := stS_all S0 ys.length
    rw [st0, List.drop_of_length_le (by omega)] at h2
    rw [Nat.sub_zero, stackS_nil h1 h2]
    rfl
  · rintro i y σ H0 H3 hi ⟨zs, v3, v4, v5, v6, rfl, k3, e3, hz⟩ ⟨rfl, hy⟩
    have t23 : KeepT H2 H3 := k3.t1 (NoT.lst e12)
    obtain ⟨dy, hdy, hyd⟩ := (hys.mono t23).at hy
    rw [List.getElem?_map] at hdy
    obtain ⟨⟨nd, inner⟩, hpj, rfl⟩ := Option.map_eq_some_iff.mp hdy
    have ej : ys.length - i = (ys.length - 1 - i) + 1 := by omega
    rw [ej] at hz
    have ei : ys.length - (i + 1) = ys.length - 1 - i := by omega
    generalize ys.length - 1 - i = j at hz ei hpj hy ej
    obtain ⟨allj, dropj⟩ := stS_all S0 j
    rw [st0] at dropj
    have lenj := stackS_len allj
    have hzs : stS [(d, 0)] (j + 1) = stepS (stS [(d, 0)] j) := rfl
    rw [hzs] at hz
    cases eS : stS [(d, 0)] j with
    | nil =>
      rw [eS] at dropj
      have l0 : ((preo 0 d).drop j).length = 0 := by rw [← dropj]; rfl
      have := (List.getElem?_eq_some_iff.mp hpj).1
      rw [List.length_drop] at l0
      omega
    | cons x S =>
      rw [eS] at allj dropj hz lenj
      obtain ⟨nd', o⟩ := x
      obtain ⟨n, hdd, ps, rfl, fps⟩ := tmF_of (allj (nd', o) List.mem_cons_self)
      rw [stackS_cons] at dropj
      have hpj2 : (preo 0 d)[j]? = some (.tup [.int n, hdd, .tup ps], o + n) := by
        have z : ((preo 0 d).drop j)[0]? = some (.tup [.int n, hdd, .tup ps], o + n) := by rw [← dropj]; rfl
        rw [List.getElem?_drop] at z
        exact z
      rw [hpj] at hpj2
      cases hpj2
      have oknd := okn _ (List.mem_of_getElem? hpj)
      rw [doneD_step] at hz
      obtain ⟨A, B, rfl, hA, hB⟩ := hz.split
      have lA : A.length ≤ 1000000 := by
        have z1 := hA.len
        have z2 : (doneD g S).length = S.length := by unfold doneD; rw [List.length_reverse, List.length_map]
        rw [stackS_cons, dropj] at lenj
        rw [List.length_cons, List.length_drop] at lenj
        omega
      obtain ⟨py, xy, rfl, hpy, w1, r1, rfl, hw1, w2, r2, rfl, hw2, rfl⟩ := hyd
      cases hw2.int
      have hw0 := hw1
      obtain ⟨pn, xn, rfl, hpn, u1', r1, rfl, hu1, u2', r2, rfl, hu2, u3', r3, rfl, hu3, rfl⟩ := hw1
      obtain ⟨pp, xp, rfl, hpp, hps⟩ := hu3
      have lps : xp.length = ps.length := hps.len
      have lfs : (folds g (o + n) ps).length = ps.length := by rw [folds_map, List.length_map]
      have zps : ps.length ≤ 1000000 := by
        obtain ⟨all1, drop1⟩ := stS_all S0 (j + 1)
        have z1 := stackS_len all1
        have z2 : stS [(d, 0)] (j + 1) = ps.map (fun p => (p, o + n)) ++ S := by
          show stepS (stS [(d, 0)] j) = _
          rw [eS]
          rfl
        rw [drop1, st0, z2, List.length_append, List.length_map, List.length_drop] at z1
        omega
      refine r_gtup hpy rfl ?_
      walk_at "rd"
      refine r_ixT hpn rfl ?_
      refine ⟨pp, rfl, ⟨_, SqT.of hpp⟩, fun L3 nL3 => lc_it (walk_tup (K := K) (a := pp) (xs := xp)) (fun i H' => ∃ acc rest, H' L3 = some (.lst acc) ∧ H' L1 = some (.lst (A ++ rest)) ∧ Dts H' ((folds g (o + n) ps).take i) acc ∧ Dts H' ((folds g (o + n) ps).drop i).reverse rest ∧ Kp [L1] H3 H')
        ⟨[], B, upd_same, ?_, rfl, ?_, (Kp.refl _ _).up nL3⟩ (fun i H' _ ⟨_, _, _, _, _, _, k⟩ => SqT.of (k.t1 (NoT.lst e3) _ _ hpp)) ?_ ?_⟩
      · rw [upd_ne (ne_of_none e3 nL3)]
        exact e3
      · rw [List.drop_zero]
        exact hB.mono ((Kp.refl [] _).up nL3).t0
      · rintro i2 y2 H4 H5 hi2 ⟨acc, rest, eL3, eL1, hacc, hrest, k5⟩ ⟨rfl, hy2⟩
        have hi3 : i2 < (folds g (o + n) ps).length := by omega
        have e5 := List.getElem?_eq_getElem hi3
        rw [drop_rev e5] at hrest
        obtain ⟨r', xl, rfl, hr', hxl⟩ := hrest.split
        obtain ⟨x0, _, rfl, hx0, rfl⟩ := hxl
        have ne31 : L3 ≠ L1 := fun z => by
          rw [z, e3] at nL3
          cases nL3
        walk_at "rd"
        refine ⟨rfl, ?_⟩
        walk_at "rd"
        refine ⟨.inl ⟨rfl, _, SqL.of eL1⟩, L1, A ++ (r' ++ [x0]), x0, rfl, rfl, eL1, ?_, ?_⟩
        · rw [← List.append_assoc]
          exact at_last _ _
        · rw [← List.append_assoc, drop_last]
          have t5 : KeepT H5 (upd H5 L1 (.lst (A ++ r'))) := fun p xs z => by rw [upd_ne (ne_of z eL1 (fun q => by cases q))]; exact z
          have eL35 : (upd H5 L1 (.lst (A ++ r'))) L3 = some (.lst acc) := by rw [upd_ne ne31]; exact eL3
          have t6 : KeepT (upd H5 L1 (.lst (A ++ r'))) (upd (upd H5 L1 (.lst (A ++ r'))) L3 (.lst (acc ++ [x0]))) := fun p xs z => by rw [upd_ne (ne_of z eL35 (fun q => by cases q))]; exact z
          refine ⟨acc, eL35, ?_, acc ++ [x0], r', upd_same, ?_, ?_, hr'.mono (t5.trans t6), ?_⟩
          · have := hacc.len
            rw [List.length_take] at this
            exact Nat.lt_of_le_of_lt (show _ ≤ 1000000 by omega) (by decide)
          · rw [upd_ne ne31.symm]
            exact upd_same
          · rw [take_one e5]
            exact ((hacc.snoc hx0).mono t5).mono t6
          · exact (k5.at (by simp)).own nL3
      · rintro H5 ⟨acc, rest, eL3, eL1, hacc, hrest, k5⟩
        rw [List.take_of_length_le (by omega)] at hacc
        have er : rest = [] := by
          have := hrest.len
          rw [List.length_reverse, List.length_drop] at this
          exact List.eq_nil_of_length_eq_zero (by omega)
        subst er
        rw [List.append_nil] at eL1
        have t35 : KeepT H3 H5 := k5.t1 (NoT.lst e3)
        have k25 : Kp [L1] H2 H5 := k3.trans k5
        have k05 : Kp [] H H5 := (k02.of0.trans k25).drop n1
        have hfa5 := k05.get hfa
        have hco5 := k05.get hco
        walk_at "rd"
        refine ⟨.inl ⟨rfl, _, SqL.of eL1⟩, ?_⟩
        walk_at "rd"
        refine r_callH rfl hfa5 ?_
        walk_at "rd"
        refine ⟨hfa5, hco5, _, .tup [.int n, hdd, .tup ps], o + n, L3, acc, folds g (o + n) ps, rfl, Jm _ _ _ k05 hJ, hw0.mono t35, oknd, eL3, hacc, by omega, fun r H6 k6 hr6 => ?_⟩
        walk_at "rd"
        have e6 := k6.get eL1
        refine ⟨L1, A, r, rfl, rfl, e6, Nat.lt_of_le_of_lt (show _ ≤ 1000000 by omega) (by decide), ?_⟩
        walk_at "rd"
        have t6 : KeepT H6 (upd H6 L1 (.lst (A ++ [r]))) := fun p xs z => by rw [upd_ne (ne_of z e6 (fun q => by cases q))]; exact z
        refine ⟨A ++ [r], _, _, _, _, rfl, (k25.trans k6.of0).at (by simp), upd_same, ?_⟩
        rw [ei, eS, doneD_cons, foldD_eq]
        exact ((hA.mono (t35.trans k6.t0)).snoc hr6).mono t6
  · rintro σ H3 ⟨zs, v3, v4, v5, v6, rfl, k3, e3, hz⟩
    rw [Nat.sub_self] at hz
    have hz' : Dts H3 [foldD g 0 d] zs := hz
    obtain ⟨x, _, rfl, hx, rfl⟩ := hz'
    walk_at "rd"
    refine r_ixL e3 rfl ?_
    exact q x H3 ((k02.of0.trans k3).drop n1) hx
end
end K03
end

section
/-! The program's lifting. -/
namespace K03
open PySem L2 PyProof.Rows PySem.Spec Lc NdefX LamX
variable [Lc.Tbs]
local macro_rules | `(tactic| walk_at "rd") => `(tactic| repeat (first
  | with_reducible refine r_seq ?_ | with_reducible refine r_mknx ?_ | with_reducible refine r_mkrt ?_ | with_reducible refine r_asg ?_ | with_reducible refine r_name ?_ | with_reducible refine r_next ?_
  | with_reducible refine r_drop ?_ | with_reducible refine r_ret ?_ | with_reducible refine r_if ?_
  | ((with_reducible refine' r_var ?e ?_); (case e => rfl)) | with_reducible refine r_c ?_ | with_reducible refine r_op ?_ | with_reducible refine r_un ?_ | with_reducible refine r_test ?_ | with_reducible refine r_tb ?_
  | with_reducible refine r_and ?_ | with_reducible refine r_or ?_ | with_reducible refine r_not ?_ | with_reducible refine r_andV ?_ | with_reducible refine r_orV ?_ | with_reducible refine r_notV ?_ | with_reducible refine r_bl ?_
  | with_reducible refine r_cb ?_ | with_reducible refine r_cons ?_ | with_reducible refine r_nil ?_ | with_reducible refine r_tup ?_ | with_reducible refine r_lst ?_ | with_reducible refine r_call ?_
  | with_reducible refine r_i0 ?_ | with_reducible refine r_par ?_ | with_reducible refine r_two ?_ | with_reducible refine r_lc ?_ | with_reducible refine r_iL ?_ | with_reducible refine r_iT ?_ | with_reducible refine r_iS ?_ | with_reducible refine r_i1 ?_ | with_reducible refine r_yes ?_ | with_reducible refine r_chain ?_ | with_reducible refine if_t rfl ?_ | with_reducible refine if_f rfl ?_ | with_reducible refine r_nt ?_ | ((with_reducible refine r_eq ?e ?_); (case e => rfl)) | ((with_reducible refine r_ne ?e ?_); (case e => rfl))
  | with_reducible refine r_sub ?_ | with_reducible refine r_sl ?_ | with_reducible refine r_nopart ?_ | with_reducible refine r_part ?_ | with_reducible refine r_int ?_ | with_reducible refine r_bm ?_ | with_reducible refine r_bm0 ?_ | with_reducible refine r_gcons ?_ | with_reducible refine r_gnil ?_ | with_reducible refine r_dget1 ?_ | with_reducible refine r_dget2 ?_))


local macro_rules | `(tactic| walk_at "dt") => `(tactic| repeat' (first | (show Dt _ _ _; assumption) | exact dt_str | exact dt_int | exact dt_bl | exact dt_non | exact Dts.nil | refine' Dts.cons ?_ ?_ | (refine' Dt.mono ?kk ?_; (case kk => assumption)) | fail))
local macro_rules | `(tactic| walk_at "at") => `(tactic| repeat (first | assumption | (refine' Kp.ge ?kk ?nn ?_; (case kk => assumption); (case nn => intro _ z; cases z)) | fail))
local macro_rules | `(tactic| walk_at "kp") => `(tactic| repeat (first | assumption | exact Kp.refl _ _ | (refine' Kp.trans ?_ ?kk; (case kk => assumption)) | fail))
local macro_rules | `(tactic| walk_at "tup") => `(tactic| (refine' r_tupN ?h ?f ?k; (case h => walk_at "dt"); (case f => simp); skip))
abbrev s_lifted_under : Stmt := top 9
abbrev N_lifted_under : List Str := ["term", "k", "d", "change"]
theorem sc_lifted_under : FnScope N_lifted_under ["term", "k", "d"] (defScope s_lifted_under) := ⟨rfl, rfl, rfl, by decide +kernel, rfl, by decide +kernel, by decide +kernel⟩
abbrev s_lifted : Stmt := top 10
abbrev N_lifted : List Str := ["term", "k"]
theorem sc_lifted : FnScope N_lifted ["term", "k"] (defScope s_lifted) := ⟨rfl, rfl, rfl, by decide +kernel, rfl, by decide +kernel, by decide +kernel⟩
/-- the def within it -/
abbrev s_change : Stmt := (defBody s_lifted_under).getD 1 (.Pass ⟨0, 0, 0, 0⟩)
abbrev N_change : List Str := ["node", "inner", "parts", "d", "k", "n", "head", "_"]
theorem sc_change : NScope N_change ["node", "inner", "parts"] ["d", "k"] (C8.fnScope s_change) := nscope_by (by decide +kernel)
def gLift (k d : Int) (node : D) (inner : Int) (ds : List D) : D := match node with
  | .tup [.int n, h, _] => .tup [.int n, liftH k (d + inner) h, .tup ds]
  | d => d
def okLift (d : D) : Prop := ∃ n h ps, d = .tup [.int n, h, .tup ps] ∧ hdG h = true
def jLift (k d : Int) (ws : List (Option V)) (_ : Hp) : Prop := ws = [some (.int d), some (.int k)]
section
variable {P : Program} {w : World} {K : PySem.W.Frag} {mg : Str → Option Value} {base : Heap}
theorem ok_change {kk dd : Int} {qual : Str} {cl : List (Str × Addr)} {c' f : Addr} (T : Txt mg) (C_raised_head : Cal P w K mg base "raised_head" ["head", "k"] 1 spRaised) :
    NOk P w K mg base CX0 2 f (NF.of s_change "change" qual cl c') ["node", "inner", "parts"] ["d", "k"] (spCh (gLift kk dd) okLift (jLift kk dd)) := by
  refine nok_of (N := N_change) sc_change (fun doc pm ctv us hl => ?_) (fun ws vs H Q E h => ?_) (fun A out s H vs ws Q E hr hf hco lw h => ?_)
  · match us, hl with
    | [_, _, _], _ => rfl
  · obtain ⟨nv, node, inner, L, ys, ds, rfl, _⟩ := h
    rfl
  obtain ⟨nv, node, inner, L, ys, ds, rfl, hJ, hn, ⟨n, h, ps, rfl, gh⟩, hL, hds, few, q⟩ := h
  cases (show ws = _ from hJ)
  refine ⟨_, (pss_cons (ps_asg (pv 0) (pg_tup (by rfl) (pgs_cons (pg_name (i := 5) sc_change.nd rfl (.inl rfl)) (pgs_cons (pg_name (i := 6) sc_change.nd rfl (.inl rfl)) (pgs_cons (pg_name (i := 7) sc_change.nd rfl (.inl rfl)) pgs_nil)))))
      (Evl.pss_cut (ps_if (PW.pt (pw_and (pt_cmpR op_eq (pe_ix ix_tup (pv 6) pe_int (fun _ _ => rfl)) pe_str (nomark _)) (pw_and1 (pt_cmpR op_ge (pe_ix ix_tup (pv 6) pe_int (fun _ _ => rfl)) (pe_op op_add (pv 3) (pv 1)) (nomark _))))) (pss_one (ps_set (i := 6) sc_change.nd rfl (Or.inl rfl) (pe_cal C_raised_head hr rfl (pa_cons (pv 6) (pa_cons (pv 4) pa_nil))))) pss_nil)
      (pss_one (ps_ret (pe_tup (pa_cons (pv 5) (pa_cons (pv 6) (pa_cons (pe_callTy call_tuple_of (by rfl) T.z_tuple (by decide +kernel) (pa_cons (pv 2) pa_nil)) pa_nil)))))))), ?_⟩
  walk_at "rd"
  obtain ⟨a, xs, rfl, ha, v1, r1, rfl, h1, v2, r2, rfl, h2, v3, r3, rfl, h3, rfl⟩ := hn
  cases h1.int
  refine r_gtup ha rfl ?_
  walk_at "rd"
  refine r_cut (fun σ H' => ∃ hv', σ = [some (.ref a), some (.int inner), some (.ref L), some (.int dd), some (.int kk), some (.int n), some hv', some v3] ∧ Kp [] H H' ∧ Dt H' (liftH kk (dd + inner) h) hv') ?_ ?_
  · walk_at "rd"
    rcases hdG_of gh with ⟨s', i, rfl, _⟩ | ⟨y, rfl⟩
    · have h20 := h2
      obtain ⟨ah, xh, rfl, hah, vh, r2, rfl, hvh, vi, r3, rfl, hvi, rfl⟩ := h2
      cases hvh.str
      cases hvi.int
      refine r_ixT hah rfl ?_
      walk_at "rd"
      have el : liftH kk (dd + inner) (hd2 s' i) = if s' = "b" ∧ dd + inner ≤ i then hb (i + kk) else hd2 s' i := rfl
      refine if_2 (fun c => ?_) (fun c => ?_)
      · have es : s' = "b" := V.str.inj (of_decide_eq_true c)
        walk_at "rd"
        refine r_ixT hah rfl ?_
        walk_at "rd"
        refine if_2 (fun c2 => ?_) (fun c2 => ?_)
        · walk_at "rd"
          refine ⟨_, _, kk, rfl, h20, gh, fun r H1 k1 hr1 => ?_⟩
          walk_at "rd"
          refine ⟨_, rfl, k1, ?_⟩
          rw [el, if_pos ⟨es, of_decide_eq_true c2⟩]
          have er : raiseG kk (hd2 s' i) = if s' = "b" then hd2 "b" (i + kk) else hd2 s' i := rfl
          rw [er, if_pos es] at hr1
          exact hr1
        · walk_at "rd"
          refine ⟨_, rfl, Kp.refl _ _, ?_⟩
          rw [el, if_neg (fun z => of_decide_eq_false c2 z.2)]
          exact h20
      · walk_at "rd"
        refine ⟨_, rfl, Kp.refl _ _, ?_⟩
        rw [el, if_neg (fun z => of_decide_eq_false c (by rw [z.1]))]
        exact h20
    · have h20 := h2
      obtain ⟨ah, xh, rfl, hah, vh, r2, rfl, hvh, vi, r3, rfl, hvi, rfl⟩ := h2
      cases hvh.str
      refine r_ixT hah rfl ?_
      walk_at "rd"
      exact ⟨_, rfl, Kp.refl _ _, h20⟩
  rintro _ H1 ⟨hv', rfl, k1, hr1⟩
  walk_at "rd"
  refine ⟨L, ys, rfl, .inl ⟨SqL.of (k1.get hL), fun l nl => ?_⟩⟩
  obtain ⟨k2, t2, d2⟩ := new_tup nl (hds.mono k1.t0)
  walk_at "rd"
  refine r_tupN (ds := [.int n, liftH kk (dd + inner) h, .tup ds]) (Dts.cons dt_int (Dts.cons (hr1.mono t2) (Dts.cons d2 Dts.nil))) (by simp) fun p3 H3 k3 t3 n3 e3 d3 => ?_
  walk_at "rd"
  exact q _ H3 ((k1.trans k2).trans k3) d3
mutual
theorem fold_lift (k d : Int) : ∀ (o : Int) (t : D), tmG t = true → foldD (gLift k d) o t = liftD k (d + o) t
  | o, .tup xs, h => by
    obtain ⟨n, x, ps, e, _, gp⟩ := tmG_of h
    injection e with e
    subst e
    rw [foldD_eq, liftD_eq, folds_lift k d (o + n) ps gp, Int.add_assoc]
    rfl
  | _, .non, h => by simp [tmG] at h
  | _, .bl _, h => by simp [tmG] at h
  | _, .int _, h => by simp [tmG] at h
  | _, .str _, h => by simp [tmG] at h
theorem folds_lift (k d : Int) : ∀ (o : Int) (ps : List D), tmGs ps = true → folds (gLift k d) o ps = lifts k (d + o) ps
  | _, [], _ => by rw [folds, lifts]
  | o, p :: ps, h => by
    rw [tmGs, Bool.and_eq_true] at h
    rw [folds, lifts, fold_lift k d o p h.1, folds_lift k d o ps h.2]
end
mutual
theorem preo_ok : ∀ (o : Int) (d : D), tmG d = true → ∀ x ∈ preo o d, okLift x.1
  | o, .tup xs, h, x, hx => by
    obtain ⟨n, y, ps, e, gy, gp⟩ := tmG_of h
    injection e with e
    subst e
    rw [preo_eq] at hx
    rcases List.mem_cons.mp hx with rfl | hx
    · exact ⟨n, y, ps, rfl, gy⟩
    · exact preos_ok (o + n) ps gp x hx
  | _, .non, h, _, _ => by simp [tmG] at h
  | _, .bl _, h, _, _ => by simp [tmG] at h
  | _, .int _, h, _, _ => by simp [tmG] at h
  | _, .str _, h, _, _ => by simp [tmG] at h
theorem preos_ok : ∀ (o : Int) (ps : List D), tmGs ps = true → ∀ x ∈ preos o ps, okLift x.1
  | _, [], _, x, hx => by rw [preos] at hx; cases hx
  | o, p :: ps, h, x, hx => by
    rw [tmGs, Bool.and_eq_true] at h
    rw [preos] at hx
    rcases List.mem_append.mp hx with hx | hx
    · exact preo_ok o p h.1 x hx
    · exact preos_ok o ps h.2 x hx
end
def spLiftedU : Sp := fun vs H Q _ => ∃ v d k o, vs = [v, .int k, .int o] ∧ TabsN Tbs.T H ∧ Dt H d v ∧ tmG d = true ∧ d.sz ≤ 1000000 ∧ ∀ r H', Kp [] H H' → Dt H' (if k = 0 then d else liftD k o d) r → Q r H'
def spLifted : Sp := fun vs H Q _ => ∃ v d k, vs = [v, .int k] ∧ TabsN Tbs.T H ∧ Dt H d v ∧ tmG d = true ∧ d.sz ≤ 1000000 ∧ ∀ r H', Kp [] H H' → Dt H' (if k = 0 then d else liftD k 0 d) r → Q r H'
theorem free_lifted : ∀ y ∈ (C8.fnScope s_change).names, y.2 = .free → (defScope s_lifted_under).names.lookup y.1 = some .cell ∨ (defScope s_lifted_under).names.lookup y.1 = some .free := by decide +kernel
theorem free_k : ∀ y ∈ (["d", "k"] : List Str), (y, NameKind.free) ∈ (C8.fnScope s_change).names := by decide +kernel
theorem ok_lifted_under (F : DfN K mg base "lifted_under" s_lifted_under "lifted_under.<locals>.change" ["term", "k", "d"]) (T : Txt mg) (C_raised_head : Cal P w K mg base "raised_head" ["head", "k"] 1 spRaised)
    (C_folded : ∀ k d, CalC P w K mg base "folded" ["term", "change"] 3 (FnH P w K mg base 2 (gLift k d) okLift (jLift k d)) (spFolded (gLift k d) okLift)) : Cal P w K mg base "lifted_under" ["term", "k", "d"] 4 spLiftedU := by
  obtain ⟨f, oc, od, kV, doc, pm, an, ct, sl, c, Pt, lk, hcd, kp, hm, hbd, TB, hT, hu⟩ := F.ex
  refine ⟨f, _, fn_of (k := 3) (sp := spLiftedU) lk hcd sc_lifted_under (fun vs H Q E h => ?_) (fun A out s H vs Q E hr h => ?_), Binds.all hbd, hm, kp⟩
  · obtain ⟨v, d, k, o, rfl, _⟩ := h
    rfl
  obtain ⟨v, d, k, o, rfl, tb, hd, gd, zd, q⟩ := h
  have hfree : ∀ y ∈ (C8.fnScope s_change).names, y.2 = .free → (cxOf CX0 P w K mg base N_lifted_under "lifted_under" (defScope s_lifted_under) f (.ref c) A out s H E).env.scope.names.lookup y.1 = some .cell ∨ (cxOf CX0 P w K mg base N_lifted_under "lifted_under" (defScope s_lifted_under) f (.ref c) A out s H E).env.scope.names.lookup y.1 = some .free := by
    exact free_lifted
  refine ⟨_, (pss_cons (ps_if (pt_cmpR op_eq (pv 1) pe_int (nomark _)) (pss_one (ps_ret (pv 0))) pss_nil) (pss_cons (ps_ndefMS (i := 3) (T := Tbs.T) rfl TB rfl hT rfl hu hfree rfl rfl rfl sc_lifted_under.nd rfl (Or.inl rfl) (.inl rfl)) (pss_one (ps_ret (pe_calM (M := fun σ H' vs => ∃ fa c' v', vs = [v', V.ref fa] ∧ H' fa = some (FnO fa (NF.of s_change "change" "lifted_under.<locals>.change" (cloFrom (cxOf CX0 P w K mg base N_lifted_under "lifted_under" (defScope s_lifted_under) f (.ref c) A out s H E).env.cells (C8.fnScope s_change).names []) c')) ∧ H' c' = some (LamX.CodeO c' "lifted_under.<locals>.change") ∧ σ[1]? = some (some (V.int k)) ∧ σ[2]? = some (some (V.int o))) (C_folded k o) hr (by rfl) pass0 (fun pins s' σ H' vs I hM => ?_) (pa_cons (pv 0) (pa_cons (pv 3) pa_nil))))))), ?_⟩
  · obtain ⟨fa, c', v', rfl, hfa, hco, h1, h2⟩ := hM
    have caps := Caps.made (fr := ["d", "k"]) (js := [2, 1]) I.ok hfree free_k rfl
    have CA := cells_of I caps
    have e : [2, 1].map (NdefX.slotAt σ) = [some (V.int o), some (V.int k)] := by simp [NdefX.slotAt, h1, h2]
    rw [e] at CA
    exact ⟨_, fa, ["d", "k"], [some (V.int o), some (V.int k)], v', rfl, hfa, hco, CA, fun y c ey => cells_far I (fun _ => rfl) (caps.sub y c ey), rfl, ok_change T C_raised_head⟩
  walk_at "rd"
  refine if_2 (fun c1 => ?_) (fun c1 => ?_)
  · have k0 : k = 0 := V.int.inj (of_decide_eq_true c1)
    walk_at "rd"
    refine q v H (Kp.refl _ _) ?_
    rw [if_pos k0]
    exact hd
  have k0 : k ≠ 0 := fun z => of_decide_eq_false c1 (by rw [z])
  walk_at "rd"
  refine r_ndef tb fun fa c' H1 k1 nfa efa eco => ?_
  walk_at "rd"
  refine r_callM ?_
  walk_at "rd"
  refine ⟨⟨fa, c', v, rfl, efa, eco, rfl, rfl⟩, v, .ref fa, d, rfl, hd.mono k1.t0, tmG_F d gd, zd, preo_ok 0 d gd, fun r H' k' hr' => ?_⟩
  walk_at "rd"
  refine q r H' (k1.trans k') ?_
  rw [if_neg k0]
  have e := fold_lift k o 0 d gd
  rw [Int.add_zero] at e
  rw [← e]
  exact hr'
theorem ok_lifted {j : Nat} (F : Df K mg "lifted" s_lifted ["term", "k"]) (T : Txt mg) (C_lifted_under : Cal P w K mg base "lifted_under" ["term", "k", "d"] j spLiftedU) : Cal P w K mg base "lifted" ["term", "k"] (j + 1) spLifted := by
  refine F.ok sc_lifted (fun vs H Q E h => ?_) (fun f cdv A outer s H vs Q E hr h => ?_)
  · obtain ⟨v, d, k, rfl, _⟩ := h
    rfl
  obtain ⟨v, d, k, rfl, tb, hd, gd, zd, q⟩ := h
  refine ⟨_, (pss_one (ps_ret (pe_cal C_lifted_under hr rfl (pa_cons (pv 0) (pa_cons (pv 1) (pa_cons pe_int pa_nil)))))), ?_⟩
  walk_at "rd"
  exact ⟨v, d, k, 0, rfl, tb, hd, gd, zd, q⟩
end
end K03
end

section
/-! The law's own measure of terms. -/
namespace K03
open PySem L2 PyProof.Rows PySem.Spec Lc
variable [Lc.Tbs]
local macro_rules | `(tactic| walk_at "rd") => `(tactic| repeat (first
  | with_reducible refine r_seq ?_ | with_reducible refine r_mknx ?_ | with_reducible refine r_mkrt ?_ | with_reducible refine r_asg ?_ | with_reducible refine r_name ?_ | with_reducible refine r_next ?_
  | with_reducible refine r_drop ?_ | with_reducible refine r_ret ?_ | with_reducible refine r_if ?_
  | ((with_reducible refine' r_var ?e ?_); (case e => rfl)) | with_reducible refine r_c ?_ | with_reducible refine r_op ?_ | with_reducible refine r_un ?_ | with_reducible refine r_test ?_ | with_reducible refine r_tb ?_
  | with_reducible refine r_and ?_ | with_reducible refine r_or ?_ | with_reducible refine r_not ?_ | with_reducible refine r_andV ?_ | with_reducible refine r_orV ?_ | with_reducible refine r_notV ?_ | with_reducible refine r_bl ?_
  | with_reducible refine r_cb ?_ | with_reducible refine r_cons ?_ | with_reducible refine r_nil ?_ | with_reducible refine r_tup ?_ | with_reducible refine r_lst ?_ | with_reducible refine r_call ?_
  | with_reducible refine r_i0 ?_ | with_reducible refine r_par ?_ | with_reducible refine r_two ?_ | with_reducible refine r_lc ?_ | with_reducible refine r_iL ?_ | with_reducible refine r_iT ?_ | with_reducible refine r_iS ?_ | with_reducible refine r_i1 ?_ | with_reducible refine r_yes ?_ | with_reducible refine r_chain ?_ | with_reducible refine if_t rfl ?_ | with_reducible refine if_f rfl ?_ | with_reducible refine r_nt ?_ | ((with_reducible refine r_eq ?e ?_); (case e => rfl)) | ((with_reducible refine r_ne ?e ?_); (case e => rfl))
  | with_reducible refine r_sub ?_ | with_reducible refine r_sl ?_ | with_reducible refine r_nopart ?_ | with_reducible refine r_part ?_ | with_reducible refine r_int ?_ | with_reducible refine r_bm ?_ | with_reducible refine r_bm0 ?_ | with_reducible refine r_gcons ?_ | with_reducible refine r_gnil ?_ | with_reducible refine r_dget1 ?_ | with_reducible refine r_dget2 ?_))


local macro_rules | `(tactic| walk_at "dt") => `(tactic| repeat' (first | (show Dt _ _ _; assumption) | exact dt_str | exact dt_int | exact dt_bl | exact dt_non | exact Dts.nil | refine' Dts.cons ?_ ?_ | (refine' Dt.mono ?kk ?_; (case kk => assumption)) | fail))
local macro_rules | `(tactic| walk_at "at") => `(tactic| repeat (first | assumption | (refine' Kp.ge ?kk ?nn ?_; (case kk => assumption); (case nn => intro _ z; cases z)) | fail))
local macro_rules | `(tactic| walk_at "kp") => `(tactic| repeat (first | assumption | exact Kp.refl _ _ | (refine' Kp.trans ?_ ?kk; (case kk => assumption)) | fail))
local macro_rules | `(tactic| walk_at "tup") => `(tactic| (refine' r_tupN ?h ?f ?k; (case h => walk_at "dt"); (case f => simp); skip))
/-- terms go in, a truth value comes -/
def spApt : Sp := fun vs H Q _ => ∃ (a : Addr) (ys : List V) (ds : List D), vs = [.ref a] ∧ H a = some (.lst ys) ∧ Dts H ds ys ∧ (∀ d ∈ ds, tmF d = true ∧ d.sz ≤ 1000000) ∧ ds.length ≤ 1000 ∧ ∀ (b : Bool) H', Kp [] H H' → Q (.bl b) H'
abbrev s_law_is_apt : Stmt := top 29
abbrev N_law_is_apt : List Str := ["terms", "counts", "term", "left", "nodes", "deep", "one", "level", "part"]
theorem sc_law_is_apt : FnScope N_law_is_apt ["terms"] (defScope s_law_is_apt) := ⟨rfl, rfl, rfl, by decide +kernel, rfl, by decide +kernel, by decide +kernel⟩
section
variable {P : Program} {w : World} {K : PySem.W.Frag} {mg : Str → Option Value} {base : Heap}
theorem ok_apt (F : Df K mg "_law_is_apt" s_law_is_apt ["terms"]) (T : Txt mg) : Cal P w K mg base "_law_is_apt" ["terms"] 1 spApt := by
  refine F.ok sc_law_is_apt (fun vs H Q E h => ?_) (fun f cdv A outer s H vs Q E hr h => ?_)
  · obtain ⟨a, ys, ds, rfl, _⟩ := h
    rfl
  obtain ⟨a, ys, ds, rfl, ha, hds, ok, few, q⟩ := h
  refine ⟨_, (pss_cons (ps_set (i := 1) sc_law_is_apt.nd rfl (Or.inl rfl) (pe_lst pa_nil))
      (pss_cons (ps_for PassesOwn.never rfl (pi_list (pv 0)) (pg_name (i := 2) sc_law_is_apt.nd rfl (.inl rfl)) (pss_cons (ps_par3 (i := 3) (j := 4) (l := 5) (by rfl) sc_law_is_apt.nd rfl rfl rfl (by decide) (by decide) (by decide) rfl rfl rfl (pa_cons (pe_lst (pa_cons (pe_tup (pa_cons (pv 2) (pa_cons pe_int pa_nil))) pa_nil)) (pa_cons pe_int (pa_cons pe_int pa_nil))) (by rfl))
      (pss_cons (ps_while PassesOwn.never (pt_truth (pv 3) (by intro _; rfl)) (pss_cons (ps_asg (pe_bm0 PySem.F.plainAttrs_list PySem.F.slot_list_pop PySem.F.type_list_pop mt_pop (pv 3)) (pg_tup (by rfl) (pgs_cons (pg_name (i := 6) sc_law_is_apt.nd rfl (.inl rfl)) (pgs_cons (pg_name (i := 7) sc_law_is_apt.nd rfl (.inr rfl)) pgs_nil))))
      (pss_cons (ps_par (i := 4) (j := 5) (by rfl) sc_law_is_apt.nd rfl rfl (by decide) rfl rfl (pa_cons (pe_op op_add (pv 4) pe_int) (pa_cons (pe_callB (call_max2 rfl) (by rfl) T.z_max (by decide +kernel) (pa_cons (pv 5) (pa_cons (pv 7) pa_nil))) pa_nil)) (by rfl))
      (pss_one (ps_expr (pe_bm PySem.F.plainAttrs_list PySem.F.slot_list_extend PySem.F.type_list_extend mt_extend (pv 3) (pa_cons (pe_lc (own := [("part", 8)]) (g := gName 8) rfl sc_law_is_apt.nd (pi_tup (pe_ix ix_tup (pv 6) pe_int (fun _ _ => rfl))) (blkOk_by (N := N_law_is_apt) (sc := defScope s_law_is_apt) (by decide +kernel)) (fun _ _ _ _ _ => (pg_name (i := 8) sc_law_is_apt.nd rfl (Or.inl rfl))) (fun _ _ _ _ _ => pts_nil) (fun _ _ _ _ _ => (pe_tup (pa_cons (pv 8) (pa_cons (pe_op op_add (pv 7) pe_int) pa_nil))))) pa_nil)))))))
      (pss_one (ps_expr (pe_bm PySem.F.plainAttrs_list PySem.F.slot_list_append PySem.F.type_list_append mt_append (pv 1) (pa_cons (pe_and (pe_cmpR op_le (pv 4) pe_int (nomark _)) (pe_one (pe_cmpR op_le (pv 5) pe_int (nomark _)))) pa_nil)))))))
      (pss_one (ps_ret (pe_callB (cr_all rfl) (by rfl) T.z_all (by decide +kernel) (pa_cons (pv 1) pa_nil)))))), ?_⟩
  walk_at "rd"
  refine r_lstN (show 0 ≤ 10000 by decide) fun L1 H1 k1 t1 n1 e1 => ?_
  walk_at "rd"
  have lds := hds.len
  refine ⟨_, rfl, a, rfl, ⟨_, SqL.of (k1.get ha)⟩, for_it (walk_list (K := K) (a := a) (xs := ys)) (fun i σ H' => ∃ (bs : List Bool) (v2 v3 v4 v5 v6 v7 v8 : Option V), σ = [some (.ref a), some (.ref L1), v2, v3, v4, v5, v6, v7, v8] ∧ Kp [L1] H1 H' ∧ H' L1 = some (.lst (bs.map V.bl)) ∧ bs.length = i)
    ⟨[], _, _, _, _, _, _, _, rfl, Kp.refl _ _, e1, rfl⟩ (fun i σ H' _ ⟨_, _, _, _, _, _, _, _, _, k, _⟩ => SqL.of (k a _ (fun z => ?_) (k1.get ha))) ?_ ?_⟩
  · have := List.mem_singleton.mp z
    rw [this, n1] at ha
    cases ha
  · rintro i y σ H0 H2 hi ⟨bs, v2, v3, v4, v5, v6, v7, v8, rfl, k2, e2, lbs⟩ ⟨rfl, hy⟩
    have t12 : KeepT H1 H2 := k2.t1 (NoT.lst e1)
    obtain ⟨d, hd, hdy⟩ := (hds.mono (t1.trans t12)).at hy
    have okd := ok d (List.mem_of_getElem? hd)
    walk_at "rd"
    refine r_par3 ?_
    walk_at "rd"
    refine r_tupN (ds := [d, .int 1]) (Dts.cons hdy (Dts.cons dt_int Dts.nil)) (show 2 ≤ 10000 by decide) fun p1 H3 k3 t3 n3 e3 d3 => ?_
    walk_at "rd"
    refine r_lstN (show 1 ≤ 10000 by decide) fun L2 H4 k4 t4 n4 e4 => ?_
    walk_at "rd"
    refine ⟨_, _, _, rfl, ?_⟩
    walk_at "rd"
    have k24 := k3.trans k4
    have nL2 : H2 L2 = none := k3.none n4
    refine ⟨fun m σ H' => ∃ (T : List Pl) (zs : List V) (nn dd : Int) (w6 w7 w8 : Option V), σ = [some (.ref a), some (.ref L1), some y, some (.ref L2), some (.int nn), some (.int dd), w6, w7, w8] ∧ Kp [] H2 H' ∧ H' L2 = some (.lst zs) ∧ Dts H' (T.map plD) zs ∧ (∀ x ∈ T, tmF x.1 = true) ∧ stackZ T ≤ 1000000 ∧ m = stackZ T,
      ⟨_, [(d, 1)], [.ref p1], 0, 0, _, _, _, rfl, k24, e4, Dts.cons (d3.mono t4) Dts.nil, ?_, ?_, rfl⟩, ?_⟩
    · intro x hx
      rw [List.mem_singleton.mp hx]
      exact okd.1
    · have := okd.2
      show d.sz + 0 ≤ 1000000
      omega
    rintro m σ H5 ⟨T, zs, nn, dd, w6, w7, w8, rfl, k5, eL2, hT, fT, zT, rfl⟩
    walk_at "rd"
    refine ⟨_, .inl ⟨zs, SqL.of eL2, rfl⟩, if_2 (fun c1 => ?_) (fun c1 => ?_)⟩
    · obtain ⟨ds2, dl, us2, y2, eds, rfl, hds2, hy2⟩ := hT.last (by rintro rfl; cases c1)
      obtain ⟨T0, x, rfl⟩ : ∃ T0 x, T = T0 ++ [x] := by
        rcases List.eq_nil_or_concat T with rfl | ⟨T0, x, rfl⟩
        · have := congrArg List.length eds
          simp at this
        · exact ⟨T0, x, by rw [List.concat_eq_append]⟩
      rw [List.map_append] at eds
      obtain ⟨rfl, ex⟩ := List.append_inj' eds rfl
      have edl : dl = plD x := (List.singleton_inj.mp ex).symm
      subst edl
      obtain ⟨node, o⟩ := x
      have fx := fT (node, o) (by simp)
      obtain ⟨n, hd2', ps, rfl, fps⟩ := tmF_of fx
      refine ⟨_, fun _ _ z => z, ?_⟩
      walk_at "rd"
      have k6 : Kp [] H2 (upd H5 L2 (.lst us2)) := k5.own nL2
      have t6 : KeepT H5 (upd H5 L2 (.lst us2)) := fun p xs z => by rw [upd_ne (ne_of z eL2 (fun q => by cases q))]; exact z
      refine ⟨.inl ⟨rfl, _, SqL.of eL2⟩, L2, _, _, rfl, rfl, eL2, at_last us2 _, ?_⟩
      rw [drop_last]
      obtain ⟨py, xy, rfl, hpy, w1, r1, rfl, hw1, w2, r2, rfl, hw2, rfl⟩ := (hy2.mono t6)
      cases hw2.int
      obtain ⟨pn, xn, rfl, hpn, u1', r1, rfl, hu1, u2', r2, rfl, hu2, u3', r3, rfl, hu3, rfl⟩ := hw1
      obtain ⟨pp, xp, rfl, hpp, hps⟩ := hu3
      refine r_gtup hpy rfl ?_
      walk_at "rd"
      have eL26 : (upd H5 L2 (.lst us2)) L2 = some (.lst us2) := upd_same
      generalize (upd H5 L2 (.lst us2)) = H6 at k6 t6 hpy hpn hu2 hpp hps eL26
      have lps : xp.length = ps.length := hps.len
      have zall : stackZ (T0 ++ [(D.tup [.int n, hd2', .tup ps], o)]) = stackZ T0 + (D.tup [.int n, hd2', .tup ps]).sz := by
        rw [stackZ_app]
        rfl
      have ez : (D.tup [.int n, hd2', .tup ps]).sz = 1 + (1 + (hd2'.sz + ((1 + szs ps) + 0))) := rfl
      have lps2 := szs_len ps
      have lT0 := stackZ_len T0
      have lz := hds2.len
      rw [List.length_map] at lz
      refine ⟨_, _, rfl, ?_⟩
      walk_at "rd"
      refine ⟨.inl ⟨rfl, _, SqL.of eL26⟩, ?_⟩
      walk_at "rd"
      refine r_ixT hpn rfl ?_
      refine ⟨pp, rfl, ⟨_, SqT.of hpp⟩, fun L3 nL3 => lc_it (walk_tup (K := K) (a := pp) (xs := xp)) (fun i H' => ∃ acc, H' L3 = some (.lst acc) ∧ Dts H' (((ps.map fun p => ((p, o + 1) : Pl)).take i).map plD) acc ∧ Kp [] H6 H')
        ⟨[], upd_same, rfl, (Kp.refl _ _).up nL3⟩ (fun i H' _ ⟨_, _, _, k⟩ => SqT.of (k.get hpp)) ?_ ?_⟩
      · rintro i2 y3 H7 H8 hi2 ⟨acc, eL3, hacc, k8⟩ ⟨rfl, hy3⟩
        obtain ⟨dp, hdp, hdpy⟩ := (hps.mono k8.t0).at hy3
        have e5 : (ps.map fun p => ((p, o + 1) : Pl))[i2]? = some (dp, o + 1) := by rw [List.getElem?_map, hdp]; rfl
        walk_at "rd"
        refine ⟨rfl, ?_⟩
        walk_at "rd"
        refine r_tupN (ds := [dp, .int (o + 1)]) (Dts.cons hdpy (Dts.cons dt_int Dts.nil)) (show 2 ≤ 10000 by decide) fun p9 H9 k9 t9 n9 e9 d9 => ?_
        have eL9 := k9.get eL3
        refine ⟨acc, eL9, ?_, acc ++ [.ref p9], upd_same, ?_, (k8.trans k9).own nL3⟩
        · have := hacc.len
          rw [List.length_map, List.length_take, List.length_map] at this
          exact Nat.lt_of_le_of_lt (show _ ≤ 1000000 by omega) (by decide)
        · rw [take_one e5, List.map_append]
          exact Dts.mono (fun p xs z => by rw [upd_ne (ne_of z eL9 (fun q => by cases q))]; exact z) ((hacc.mono t9).snoc d9)
      · rintro H8 ⟨acc, eL3, hacc, k8⟩
        rw [List.take_of_length_le (by rw [List.length_map]; omega)] at hacc
        have eL28 := k8.get eL26
        have la := hacc.len
        rw [List.length_map, List.length_map] at la
        refine ⟨L2, L3, us2, acc, rfl, rfl, eL28, eL3, Nat.le_trans (show _ ≤ 2000000 by omega) (by decide), ?_⟩
        walk_at "rd"
        have t9 : KeepT H8 (upd H8 L2 (.lst (us2 ++ acc))) := fun p xs z => by rw [upd_ne (ne_of z eL28 (fun q => by cases q))]; exact z
        have sz2 := stackZ_parts (o + 1) ps
        refine ⟨stackZ (T0 ++ ps.map fun p => ((p, o + 1) : Pl)), ?_, T0 ++ ps.map fun p => ((p, o + 1) : Pl), us2 ++ acc, _, _, _, _, _, rfl, (k6.trans k8).own nL2, upd_same, ?_, ?_, ?_, rfl⟩
        · rw [stackZ_app, sz2, zall]
          omega
        · rw [List.map_append]
          exact ((hds2.mono (t6.trans k8.t0)).app hacc).mono t9
        · intro x hx
          rcases List.mem_append.mp hx with hx | hx
          · exact fT x (List.mem_append_left _ hx)
          · obtain ⟨p, hp, rfl⟩ := List.mem_map.mp hx
            exact tmFs_mem fps p hp
        · rw [stackZ_app, sz2]
          rw [zall] at zT
          omega
    · have e5 := k5.of0 (l := [L1])
      have eL1 : H5 L1 = some (.lst (bs.map V.bl)) := k5.get e2
      walk_at "rd"
      refine ⟨.inl ⟨rfl, _, SqL.of eL1⟩, ?_⟩
      walk_at "rd"
      have lb : bs.length ≤ 1000 := by omega
      have fin : ∀ b : Bool, ∃ (bs' : List Bool) (u2 u3 u4 u5 u6 u7 u8 : Option V), [some (.ref a), some (.ref L1), some y, some (.ref L2), some (.int nn), some (.int dd), w6, w7, w8] = [some (.ref a), some (.ref L1), u2, u3, u4, u5, u6, u7, u8] ∧ Kp [L1] H1 (upd H5 L1 (.lst (bs.map V.bl ++ [.bl b]))) ∧ (upd H5 L1 (.lst (bs.map V.bl ++ [.bl b]))) L1 = some (.lst (bs'.map V.bl)) ∧ bs'.length = i + 1 := fun b => by
        refine ⟨bs ++ [b], _, _, _, _, _, _, _, rfl, (k2.trans e5).at (by simp), ?_, by rw [List.length_append, lbs]; rfl⟩
        rw [upd_same, List.map_append]
        rfl
      refine if_2 (fun c2 => ?_) (fun c2 => ?_)
      · walk_at "rd"
        refine ⟨L1, _, _, rfl, rfl, eL1, ?_, ?_⟩
        · rw [List.length_map]
          exact Nat.lt_of_le_of_lt (show _ ≤ 1000 by omega) (by decide)
        · walk_at "rd"
          exact fin _
      · walk_at "rd"
        refine ⟨L1, _, _, rfl, rfl, eL1, ?_, ?_⟩
        · rw [List.length_map]
          exact Nat.lt_of_le_of_lt (show _ ≤ 1000 by omega) (by decide)
        · walk_at "rd"
          exact fin _
  · rintro σ H2 ⟨bs, v2, v3, v4, v5, v6, v7, v8, rfl, k2, e2, lbs⟩
    walk_at "rd"
    refine ⟨L1, bs, rfl, SqL.of e2, ?_⟩
    exact q _ H2 ((k1.of0.trans k2).drop n1)
end
end K03
end

section
/-! The law. -/
namespace K03
open PySem L2 PyProof.Rows PySem.Spec Lc
variable [Lc.Tbs]
local macro_rules | `(tactic| walk_at "rd") => `(tactic| repeat (first
  | with_reducible refine r_seq ?_ | with_reducible refine r_mknx ?_ | with_reducible refine r_mkrt ?_ | with_reducible refine r_asg ?_ | with_reducible refine r_name ?_ | with_reducible refine r_next ?_
  | with_reducible refine r_drop ?_ | with_reducible refine r_ret ?_ | with_reducible refine r_if ?_
  | ((with_reducible refine' r_var ?e ?_); (case e => rfl)) | with_reducible refine r_c ?_ | with_reducible refine r_op ?_ | with_reducible refine r_un ?_ | with_reducible refine r_test ?_ | with_reducible refine r_tb ?_
  | with_reducible refine r_and ?_ | with_reducible refine r_or ?_ | with_reducible refine r_not ?_ | with_reducible refine r_andV ?_ | with_reducible refine r_orV ?_ | with_reducible refine r_notV ?_ | with_reducible refine r_bl ?_
  | with_reducible refine r_cb ?_ | with_reducible refine r_cons ?_ | with_reducible refine r_nil ?_ | with_reducible refine r_tup ?_ | with_reducible refine r_lst ?_ | with_reducible refine r_call ?_
  | with_reducible refine r_i0 ?_ | with_reducible refine r_par ?_ | with_reducible refine r_two ?_ | with_reducible refine r_lc ?_ | with_reducible refine r_iL ?_ | with_reducible refine r_iT ?_ | with_reducible refine r_iS ?_ | with_reducible refine r_i1 ?_ | with_reducible refine r_yes ?_ | with_reducible refine r_chain ?_ | with_reducible refine if_t rfl ?_ | with_reducible refine if_f rfl ?_ | with_reducible refine r_nt ?_ | ((with_reducible refine r_eq ?e ?_); (case e => rfl)) | ((with_reducible refine r_ne ?e ?_); (case e => rfl))
  | with_reducible refine r_sub ?_ | with_reducible refine r_sl ?_ | with_reducible refine r_nopart ?_ | with_reducible refine r_part ?_ | with_reducible refine r_int ?_ | with_reducible refine r_bm ?_ | with_reducible refine r_bm0 ?_ | with_reducible refine r_gcons ?_ | with_reducible refine r_gnil ?_ | with_reducible refine r_dget1 ?_ | with_reducible refine r_dget2 ?_))


local macro_rules | `(tactic| walk_at "dt") => `(tactic| repeat' (first | (show Dt _ _ _; assumption) | exact dt_str | exact dt_int | exact dt_bl | exact dt_non | exact Dts.nil | refine' Dts.cons ?_ ?_ | (refine' Dt.mono ?kk ?_; (case kk => assumption)) | fail))
local macro_rules | `(tactic| walk_at "at") => `(tactic| repeat (first | assumption | (refine' Kp.ge ?kk ?nn ?_; (case kk => assumption); (case nn => intro _ z; cases z)) | fail))
local macro_rules | `(tactic| walk_at "kp") => `(tactic| repeat (first | assumption | exact Kp.refl _ _ | (refine' Kp.trans ?_ ?kk; (case kk => assumption)) | fail))
local macro_rules | `(tactic| walk_at "tup") => `(tactic| (refine' r_tupN ?h ?f ?k; (case h => walk_at "dt"); (case f => simp); skip))
theorem CS.lst {a c : Addr} {H : Hp} (h : CS a H c) : ∃ xs, H c = some (.lst xs) := by
  obtain ⟨ns, i, d, n, z, h1, _⟩ := h
  exact ⟨_, h1⟩
/-- what is drawn stands -/
structure Dn (a c : Addr) (sg : Sg) (vsg : V) (pre : List Lc.Ty) (vp : V) (hs : List Lc.Ty) (vh : V) (H : Hp) : Prop where
  cs : CS a H c
  sgv : SgV H sg vsg
  p : Dt H (.tup (tyds pre)) vp
  h : Dt H (.tup (tyds hs)) vh
  tb : NdefX.TabsN Tbs.T H
theorem Dn.step {a c : Addr} {sg : Sg} {vsg : V} {pre : List Lc.Ty} {vp : V} {hs : List Lc.Ty} {vh : V} {H H' : Hp} (e : Dn a c sg vsg pre vp hs vh H) (k : Kp [c] H H') (cs' : CS a H' c) : Dn a c sg vsg pre vp hs vh H' := by
  obtain ⟨xs, hx⟩ := e.cs.lst
  exact ⟨cs', e.sgv.mono1 k hx, e.p.mono (e.cs.t k), e.h.mono (e.cs.t k), k.tab e.tb⟩
theorem Dn.keep {a c : Addr} {sg : Sg} {vsg : V} {pre : List Lc.Ty} {vp : V} {hs : List Lc.Ty} {vh : V} {H H' : Hp} (e : Dn a c sg vsg pre vp hs vh H) (k : Kp [] H H') : Dn a c sg vsg pre vp hs vh H' := e.step k.of0 (e.cs.keep k)
theorem tysOk_of {ts : List Lc.Ty} (h : ∀ t ∈ ts, TyG t) : TysOk 3 ts := Wds.mem.mpr fun d hd => by
  rw [tyds_map] at hd
  obtain ⟨t, ht, rfl⟩ := List.mem_map.mp hd
  exact (h t ht).ok
def spLaw (K : PySem.W.Frag) : Sp := fun vs H Q _ => ∃ (a : Addr) (ns : List Int), vs = [.ref a] ∧ SqL K H a (ns.map V.int) ∧ ns.length ≤ 63 ∧ NdefX.TabsN Tbs.T H ∧ ∀ H', Q (.bl true) H'
theorem kind_tyG {n : Nat} {t : Lc.Ty} (h : KindOk n t.d) : TyG t := h.wd
abbrev s_law : Stmt := top 30
abbrev N_law : List Str := ["script", "c", "signature", "prefix", "holes", "i", "k", "kind", "term", "more", "far"]
theorem sc_law : FnScope N_law ["script"] (defScope s_law) := ⟨rfl, rfl, rfl, by decide +kernel, rfl, by decide +kernel, by decide +kernel⟩
section
variable {P : Program} {w : World} {K : PySem.W.Frag} {mg : Str → Option Value} {base : Heap}
theorem ok_law {fa : Addr} {fd : FuncData} (F : Fun K "law" "law" s_law fa fd) (T : Txt mg) (C_law_start : Cal P w K mg base "_law_start" ["script"] 59 (spStart K)) (C_law_signature : Cal P w K mg base "_law_signature" ["c"] 59 spSigDraw) (C_law_prefix : Cal P w K mg base "_law_prefix" ["c"] 59 spPrefix)
    (C_law_kind : Cal P w K mg base "_law_kind" ["c", "high"] 59 (spKind 4)) (C_law_take : Cal P w K mg base "_law_take" ["c", "many"] 59 spTake) (C_long_binder : Cal P w K mg base "long_binder" ["i", "kind"] 59 (spLongOf "b" 20)) (C_long_hole : Cal P w K mg base "long_hole" ["k", "kind"] 59 (spLongOf "h" 20))
    (C_law_long : Cal P w K mg base "_law_long" ["head", "kind"] 59 (spLong 20)) (C_is_term : Cal P w K mg base "is_term" ["signature", "holes", "prefix", "kind", "value"] 59 spIsTerm) (C_law_term : Cal P w K mg base "_law_term" ["c", "signature", "holes", "prefix", "kind", "depth"] 59 (spTerm 10))
    (C_law_is_apt : Cal P w K mg base "_law_is_apt" ["terms"] 59 spApt) (C_lifted : Cal P w K mg base "lifted" ["term", "k"] 59 spLifted) (C_law_lifted : Cal P w K mg base "_law_lifted" ["term", "k", "depth"] 59 (spLiftL 40)) (C_law_is_term : Cal P w K mg base "_law_is_term" ["signature", "holes", "prefix", "kind", "value"] 59 (spIsTermL 40)) :
    FnOk P w K mg base CX0 60 fa fd ["script"] (spLaw K) := by
  refine F.ok sc_law (fun vs H Q E h => ?_) (fun cdv A outer s H vs Q E hr h => ?_)
  · obtain ⟨a, ns, rfl, _⟩ := h
    rfl
  obtain ⟨sa, ns, rfl, hS, hl, tb0, q⟩ := h
  refine ⟨_, (pss_cons (ps_set (i := 1) sc_law.nd rfl (Or.inr rfl) (pe_cal C_law_start hr rfl (pa_cons (pv 0) pa_nil)))
      (pss_cons (ps_set (i := 2) sc_law.nd rfl (Or.inl rfl) (pe_cal C_law_signature hr rfl (pa_cons (pv 1) pa_nil)))
      (pss_cons (ps_set (i := 3) sc_law.nd rfl (Or.inl rfl) (pe_op op_catA (pe_op op_catA (pe_cal C_law_prefix hr rfl (pa_cons (pv 1) pa_nil)) (pe_tup (pa_cons (pe_cal C_law_kind hr rfl (pa_cons (pv 1) (pa_cons pe_int pa_nil))) pa_nil))) (pe_cal C_law_prefix hr rfl (pa_cons (pv 1) pa_nil))))
      (pss_cons (ps_set (i := 4) sc_law.nd rfl (Or.inl rfl) (pe_callTy call_tuple_of (by rfl) T.z_tuple (by decide +kernel) (pa_cons (pe_lc (own := [("k", 6)]) (g := gName 6) rfl sc_law.nd (pi_range1 rfl T.z_range (pa_cons (pe_op op_add pe_int (pe_cal C_law_take hr rfl (pa_cons (pv 1) (pa_cons pe_int pa_nil)))) pa_nil)) (blkOk_by (N := N_law) (sc := defScope s_law) (by decide +kernel)) (fun _ _ _ _ _ => (pg_name (i := 6) sc_law.nd rfl (Or.inl rfl))) (fun _ _ _ _ _ => pts_nil) (fun _ _ _ _ _ => (pe_cal C_law_kind hr rfl (pa_cons (pv 1) (pa_cons pe_int pa_nil))))) pa_nil)))
      (pss_cons (ps_for PassesOwn.never rfl (pi_range1 rfl T.z_range (pa_cons (pe_callB call_len_seq (by rfl) T.z_len (by decide +kernel) (pa_cons (pv 3) pa_nil)) pa_nil)) (pg_name (i := 5) sc_law.nd rfl (.inl rfl)) (pss_cons (ps_set (i := 7) sc_law.nd rfl (Or.inl rfl) (pe_ix ix_tup (pv 3) (pe_op op_sub (pe_op op_sub (pe_callB call_len_seq (by rfl) T.z_len (by decide +kernel) (pa_cons (pv 3) pa_nil)) pe_int) (pv 5)) (fun _ _ => rfl)))
      (pss_one (ps_if (PW.pt (pw_or (pt_cmpR (op_neA (n := 150) (u150 hr)) (pe_cal C_long_binder hr rfl (pa_cons (pv 5) (pa_cons (pv 7) pa_nil))) (pe_cal C_law_long hr rfl (pa_cons (pe_tup (pa_cons pe_str (pa_cons (pv 5) pa_nil))) (pa_cons (pv 7) pa_nil))) (nomark _)) (pw_or1 (pt_not (pt_val (pe_cal C_is_term hr rfl (pa_cons (pv 2) (pa_cons (pv 4) (pa_cons (pv 3) (pa_cons (pv 7) (pa_cons (pe_cal C_long_binder hr rfl (pa_cons (pv 5) (pa_cons (pv 7) pa_nil))) pa_nil))))))))))) (pss_one (ps_ret pe_bl)) pss_nil))))
      (pss_cons (ps_for PassesOwn.never rfl (pi_range1 rfl T.z_range (pa_cons (pe_callB call_len_seq (by rfl) T.z_len (by decide +kernel) (pa_cons (pv 4) pa_nil)) pa_nil)) (pg_name (i := 6) sc_law.nd rfl (.inl rfl)) (pss_one (ps_if (PW.pt (pw_or (pt_cmpR (op_neA (n := 150) (u150 hr)) (pe_cal C_long_hole hr rfl (pa_cons (pv 6) (pa_cons (pe_ix ix_tup (pv 4) (pv 6) (fun _ _ => rfl)) pa_nil))) (pe_cal C_law_long hr rfl (pa_cons (pe_tup (pa_cons pe_str (pa_cons (pv 6) pa_nil))) (pa_cons (pe_ix ix_tup (pv 4) (pv 6) (fun _ _ => rfl)) pa_nil))) (nomark _)) (pw_or1 (pt_not (pt_val (pe_cal C_is_term hr rfl (pa_cons (pv 2) (pa_cons (pv 4) (pa_cons (pe_tup pa_nil) (pa_cons (pe_ix ix_tup (pv 4) (pv 6) (fun _ _ => rfl)) (pa_cons (pe_cal C_long_hole hr rfl (pa_cons (pv 6) (pa_cons (pe_ix ix_tup (pv 4) (pv 6) (fun _ _ => rfl)) pa_nil))) pa_nil))))))))))) (pss_one (ps_ret pe_bl)) pss_nil)))
      (pss_cons (ps_set (i := 7) sc_law.nd rfl (Or.inl rfl) (pe_cal C_law_kind hr rfl (pa_cons (pv 1) (pa_cons pe_int pa_nil))))
      (pss_cons (ps_asg (pe_op op_add pe_int (pe_cal C_law_take hr rfl (pa_cons (pv 1) (pa_cons pe_int pa_nil)))) (pg_sub (pv 1) pe_int set_list))
      (pss_cons (ps_set (i := 8) sc_law.nd rfl (Or.inl rfl) (pe_cal C_law_term hr rfl (pa_cons (pv 1) (pa_cons (pv 2) (pa_cons (pv 4) (pa_cons (pv 3) (pa_cons (pv 7) (pa_cons (pe_cal C_law_take hr rfl (pa_cons (pv 1) (pa_cons pe_int pa_nil))) pa_nil))))))))
      (pss_cons (ps_if (pt_not (pt_val (pe_cal C_law_is_apt hr rfl (pa_cons (pe_lst (pa_cons (pv 8) pa_nil)) pa_nil)))) (pss_one (ps_ret pe_bl)) pss_nil)
      (pss_cons (ps_set (i := 9) sc_law.nd rfl (Or.inl rfl) (pe_cal C_law_prefix hr rfl (pa_cons (pv 1) pa_nil)))
      (pss_cons (ps_set (i := 6) sc_law.nd rfl (Or.inl rfl) (pe_callB call_len_seq (by rfl) T.z_len (by decide +kernel) (pa_cons (pv 9) pa_nil)))
      (pss_cons (ps_if (PW.pt (pw_or (pt_cmpR (op_neA (n := 150) (u150 hr)) (pe_cal C_lifted hr rfl (pa_cons (pv 8) (pa_cons (pv 6) pa_nil))) (pe_cal C_law_lifted hr rfl (pa_cons (pv 8) (pa_cons (pv 6) (pa_cons pe_int pa_nil)))) (nomark _)) (pw_or1 (pt_cmpR (op_neA (n := 150) (u150 hr)) (pe_cal C_lifted hr rfl (pa_cons (pv 8) (pa_cons pe_int pa_nil))) (pv 8) (nomark _))))) (pss_one (ps_ret pe_bl)) pss_nil)
      (pss_cons (ps_if (pt_not (pt_val (pe_cal C_law_is_term hr rfl (pa_cons (pv 2) (pa_cons (pv 4) (pa_cons (pe_op op_catA (pv 3) (pv 9)) (pa_cons (pv 7) (pa_cons (pe_cal C_lifted hr rfl (pa_cons (pv 8) (pa_cons (pv 6) pa_nil))) pa_nil)))))))) (pss_one (ps_ret pe_bl)) pss_nil)
      (pss_cons (ps_set (i := 10) sc_law.nd rfl (Or.inl rfl) (pe_cal C_law_take hr rfl (pa_cons (pv 1) (pa_cons pe_int pa_nil))))
      (pss_one (ps_ret (pe_cmpR (op_eqA (n := 150) (u150 hr)) (pe_cal C_lifted hr rfl (pa_cons (pe_cal C_lifted hr rfl (pa_cons (pv 8) (pa_cons (pv 6) pa_nil))) (pa_cons (pv 10) pa_nil))) (pe_cal C_lifted hr rfl (pa_cons (pv 8) (pa_cons (pe_op op_add (pv 6) (pv 10)) pa_nil))) (nomark _))))))))))))))))))), ?_⟩
  walk_at "rd"
  refine ⟨sa, ns, rfl, hS, hl, fun c a H1 k1 nc cs1 => ?_⟩
  walk_at "rd"
  refine ⟨c, a, rfl, cs1, fun vsg sg H2 k2 cs2 hsg good => ?_⟩
  walk_at "rd"
  refine ⟨c, a, rfl, cs2, fun vp1 ts1 H3 k3 cs3 hp1 lp1 ok1 => ?_⟩
  walk_at "rd"
  refine ⟨c, a, 3, rfl, by decide, cs3, fun vk dk H4 k4 cs4 hk okk => ?_⟩
  obtain ⟨tk, rfl⟩ := okk.ty
  walk_at "rd"
  refine r_tupN (ds := tyds [tk]) (Dts.cons hk Dts.nil) (show 1 ≤ 10000 by decide) fun p1 H5 k5 t5 n5 e5 d5 => ?_
  obtain ⟨ap1, xp1, rfl, hap1, hsp1⟩ := ((hp1.mono (cs3.t k4)).mono t5).tup
  have len1 : xp1.length = ts1.length := by rw [hsp1.len, tyds_len]
  refine r_catT hap1 e5 hsp1 (Dts.cons (hk.mono t5) Dts.nil) (by simp; omega) fun vp2 H6 k6 t6 hp2 => ?_
  walk_at "rd"
  have k46 : Kp [] H4 H6 := k5.trans k6
  have cs6 := cs4.keep k46
  refine ⟨c, a, rfl, cs6, fun vp3 ts3 H7 k7 cs7 hp3 lp3 ok3 => ?_⟩
  have et : tyds ts1 ++ [tk.d] = tyds (ts1 ++ [tk]) := by
    rw [tyds_app]
    simp [tyds]
  have hp2' : Dt H6 (.tup (tyds (ts1 ++ [tk]))) vp2 := et ▸ hp2
  replace hp2 := hp2'
  obtain ⟨ap2, xp2, rfl, hap2, hsp2⟩ := (hp2.mono (cs6.t k7)).tup
  have len2 : xp2.length = (ts1 ++ [tk]).length := by rw [hsp2.len, tyds_len]
  obtain ⟨ap3, xp3, rfl, hap3, hsp3⟩ := hp3.tup
  have len3 : xp3.length = ts3.length := by rw [hsp3.len, tyds_len]
  rw [List.length_append] at len2
  refine r_catT hap2 hap3 hsp2 hsp3 (by simp at len2; omega) fun vp H8 k8 t8 hp => ?_
  rw [← tyds_app] at hp
  walk_at "rd"
  have gpre : ∀ t ∈ (ts1 ++ [tk]) ++ ts3, TyG t ∧ t.d.dp ≤ 8 ∧ t.d.sz ≤ 256 := fun t ht => by
    rcases List.mem_append.mp ht with ht | ht
    · rcases List.mem_append.mp ht with ht | ht
      · have z := (ok1 t ht).up (show 2 ≤ 3 by decide)
        exact ⟨z.wd, z.dp, z.sz⟩
      · rw [List.mem_singleton.mp ht]
        exact ⟨okk.wd, okk.dp, okk.sz⟩
    · have z := (ok3 t ht).up (show 2 ≤ 3 by decide)
      exact ⟨z.wd, z.dp, z.sz⟩
  have lpre : ((ts1 ++ [tk]) ++ ts3).length ≤ 7 := by
    rw [List.length_append, List.length_append, List.length_singleton]
    omega
  generalize (ts1 ++ [tk]) ++ ts3 = pre at hp gpre lpre
  have cs8 := cs7.keep k8
  obtain ⟨x2, hx2⟩ := cs2.lst
  have k28 : Kp [c] H2 H8 := ((k3.trans k4).trans (k46.of0.trans k7)).trans k8.of0
  have hsg8 : SgV H8 sg vsg := hsg.mono1 k28 hx2
  refine ⟨c, a, 4, rfl, cs8, by decide, by decide, fun j H9 lo9 hi9 k9 cs9 => ?_⟩
  walk_at "rd"
  obtain ⟨x8, hx8⟩ := cs8.lst
  have hsg9 := hsg8.mono1 k9 hx8
  have hp9 := hp.mono (cs8.t k9)
  refine ⟨_, rfl, by omega, by omega, fun L nL => lc_it walk_range (fun i H' => ∃ ys ts, H' L = some (.lst ys) ∧ Dts H' (tyds ts) ys ∧ ts.length = i ∧ Kp [c] H9 H' ∧ CS a H' c ∧ ∀ t ∈ ts, KindOk 3 t.d)
    ⟨[], [], upd_same, rfl, rfl, (Kp.refl _ _).up nL, cs9.keep ((Kp.refl _ _).up nL), fun d hd => nomatch hd⟩ (fun _ _ _ _ => trivial) ?_ ?_⟩
  · rintro i y H0 Ha hia ⟨ys, ts, eL, hds, ldn, ka, csa, all⟩ ⟨rfl, rfl⟩
    have neL : L ≠ c := (cs9.ne nL).1
    walk_at "rd"
    refine ⟨rfl, ?_⟩
    walk_at "rd"
    refine ⟨c, a, 3, rfl, by decide, csa, fun v8 d8 Hb kb csb hd8 ok8 => ?_⟩
    obtain ⟨t8', rfl⟩ := ok8.ty
    have eL8 : Hb L = some (.lst ys) := kb L _ (by simpa using neL) eL
    refine ⟨ys, eL8, ?_, ys ++ [v8], ts ++ [t8'], upd_same, ?_, ?_, (ka.trans kb).own nL, csb.own (cs9.ne nL), ?_⟩
    · have := hds.len
      rw [tyds_len] at this
      exact Nat.lt_of_le_of_lt (show _ ≤ 1000 by omega) (by decide)
    · rw [tyds_app]
      exact Dts.mono (fun p xs z => by rw [upd_ne (ne_of z eL8 (fun q => by cases q))]; exact z) ((hds.mono (csa.t kb)).snoc hd8)
    · rw [List.length_append, ldn]
      rfl
    · intro d hd
      rcases List.mem_append.mp hd with hd | hd
      · exact all d hd
      · rw [List.mem_singleton.mp hd]
        exact ok8
  rintro Ha ⟨ys, hs, eL, hds, lhs, ka, csa, allh⟩
  walk_at "rd"
  refine ⟨L, ys, rfl, .inl ⟨SqL.of eL, fun l nl => ?_⟩⟩
  obtain ⟨kb, tb, dh⟩ := new_tup nl hds
  obtain ⟨x9, hx9⟩ := cs9.lst
  have dn : Dn a c sg vsg pre vp hs (.ref l) (upd Ha l (.tup ys)) := ⟨csa.keep kb, (hsg9.mono1 ka hx9).mono0 kb, (hp9.mono (cs9.t ka)).mono tb, dh, kb.tab (ka.tab (k9.tab (k28.tab (k2.tab (k1.tab tb0)))))⟩
  generalize upd Ha l (.tup ys) = Hb at kb tb dh dn
  have ghs : ∀ t ∈ hs, TyG t ∧ t.d.dp ≤ 8 ∧ t.d.sz ≤ 256 := fun t ht => ⟨(allh t ht).wd, (allh t ht).dp, (allh t ht).sz⟩
  have lhs4 : hs.length ≤ 4 := by omega
  have okpre := tysOk_of fun t ht => (gpre t ht).1
  have okhs := tysOk_of fun t ht => (ghs t ht).1
  clear kb tb dh
  obtain ⟨apre, xpre, rfl, -, -⟩ := dn.p.tup
  have vlen : ∀ {H' : Hp} {ts : List Lc.Ty} {b : Addr} , Dt H' (.tup (tyds ts)) (.ref b) → ∃ xs, H' b = some (.tup xs) ∧ Dts H' (tyds ts) xs ∧ xs.length = ts.length := fun h => by
    obtain ⟨b', xs, e, h1, h2⟩ := h
    cases e
    exact ⟨xs, h1, h2, by rw [h2.len, tyds_len]⟩
  walk_at "rd"
  obtain ⟨xpre, hapre, hspre, lxpre⟩ := vlen dn.p
  refine ⟨_, rfl, apre, xpre, rfl, .inr (SqT.of hapre), xpre.length, rfl, by omega, by omega, for_it walk_range (fun i σ H' => ∃ (v5 v6 v7 : Option V), σ = [some (.ref sa), some (.ref c), some vsg, some (.ref apre), some (.ref l), v5, v6, v7, none, none, none] ∧ Dn a c sg vsg pre (.ref apre) hs (.ref l) H')
    ⟨_, _, _, rfl, dn⟩ (fun _ _ _ _ _ => trivial) ?_ ?_⟩
  · rintro i y σ H0 Hc hi ⟨v5, v6, v7, rfl, dc⟩ ⟨rfl, rfl⟩
    obtain ⟨xc, hac, hsc, lxc⟩ := vlen dc.p
    have hi' : i < pre.length := by
      have : i < xpre.length := by simpa using hi
      omega
    have lt : pre.length - 1 - i < pre.length := by omega
    obtain ⟨vk', hvk', hdk'⟩ := hsc.of (tyds_at (List.getElem?_eq_getElem lt))
    have mk' := gpre _ (List.getElem_mem lt)
    walk_at "rd"
    refine ⟨apre, xc, rfl, .inr (SqT.of hac), ?_⟩
    walk_at "rd"
    have iz : ((pre.length - 1 - i : Nat) : Int) = (xc.length : Int) - 1 - (0 + i) := by omega
    have zz := atI_nat hvk'
    rw [iz] at zz
    refine r_ixT hac zz ?_
    walk_at "rd"
    have okt : (pre[pre.length - 1 - i]).Ok 1000 := (mk'.1.ok).wide (by decide)
    refine ⟨vk', 0 + i, pre[pre.length - 1 - i], rfl, hdk', okt, by omega, fun vl Hd kd hvl => ?_⟩
    walk_at "rd"
    refine r_tupN (ds := [.str "b", .int (0 + i)]) (Dts.cons dt_str (Dts.cons dt_int Dts.nil)) (show 2 ≤ 10000 by decide) fun pq He ke te ne ee de => ?_
    walk_at "rd"
    refine ⟨.ref pq, vk', "b", 0 + i, pre[pre.length - 1 - i], rfl, de, hdk'.mono (kd.trans ke).t0, okt, by omega, fun vl2 Hf kf hvl2 => ?_⟩
    obtain ⟨bw, bdp, bsz⟩ := long_bd (Nat.le_refl 3) (pre[pre.length - 1 - i]) "b" (0 + i) (by decide +kernel) mk'.1.ok
    refine ⟨_, _, 3, hvl.mono (ke.trans kf).t0, hvl2, bw, bw, by omega, ?_⟩
    rw [eqD_refl bw]
    walk_at "rd"
    have kcf := (kd.trans ke).trans kf
    refine ⟨vk', 0 + i, pre[pre.length - 1 - i], rfl, hdk'.mono kcf.t0, okt, by omega, fun vl3 Hg kg hvl3 => ?_⟩
    walk_at "rd"
    have dg := dc.keep (kcf.trans kg)
    refine ⟨vsg, .ref l, .ref apre, vk', vl3, sg, hs, pre, pre[pre.length - 1 - i], longD "b" (0 + i) pre[pre.length - 1 - i], 3, rfl, dg.sgv, good.ok, by have := good.few; omega, dg.h, okhs, dg.p, okpre, hdk'.mono (kcf.trans kg).t0, mk'.1.ok, hvl3, bw.wide (by decide), by omega, by decide, by omega, fun Hh kh => ?_⟩
    have tmt : tmB sg hs pre pre[pre.length - 1 - i] (longD "b" (0 + i) pre[pre.length - 1 - i]) = true := tm_long _ _ _ _ (.inl rfl) (by
      rw [hdB_bI (by omega) (by omega), show (0 + (i : Int)).toNat = i by omega]
      exact List.getElem?_eq_getElem lt)
    rw [tmt]
    walk_at "rd"
    exact ⟨_, _, _, rfl, dg.keep kh⟩
  rintro σ Hc ⟨v5, v6, v7, rfl, dc⟩
  walk_at "rd"
  obtain ⟨xhl, hahl, hshl, lxhl⟩ := vlen dc.h
  refine ⟨_, rfl, l, xhl, rfl, .inr (SqT.of hahl), xhl.length, rfl, by omega, by omega, for_it walk_range (fun i σ H' => ∃ (v5 v6 v7 : Option V), σ = [some (.ref sa), some (.ref c), some vsg, some (.ref apre), some (.ref l), v5, v6, v7, none, none, none] ∧ Dn a c sg vsg pre (.ref apre) hs (.ref l) H')
    ⟨_, _, _, rfl, dc⟩ (fun _ _ _ _ _ => trivial) ?_ ?_⟩
  · rintro i y σ H0 Hd hi ⟨v5, v6, v7, rfl, dd⟩ ⟨rfl, rfl⟩
    obtain ⟨xc, hac, hsc, lxc⟩ := vlen dd.h
    have lt : i < hs.length := by
      have : i < xhl.length := by simpa using hi
      omega
    obtain ⟨vk', hvk', hdk'⟩ := hsc.of (tyds_at (List.getElem?_eq_getElem lt))
    have mk' := ghs _ (List.getElem_mem lt)
    have zz : atI xc (0 + (i : Int)) = some vk' := by
      have := atI_nat hvk'
      rw [Int.zero_add]
      exact this
    have okt : (hs[i]).Ok 1000 := (mk'.1.ok).wide (by decide)
    walk_at "rd"
    refine r_ixT hac zz ?_
    walk_at "rd"
    refine ⟨vk', 0 + i, hs[i], rfl, hdk', okt, by omega, fun vl He ke hvl => ?_⟩
    walk_at "rd"
    refine r_tupN (ds := [.str "h", .int (0 + i)]) (Dts.cons dt_str (Dts.cons dt_int Dts.nil)) (show 2 ≤ 10000 by decide) fun pq Hf kf te ne ee de => ?_
    walk_at "rd"
    have kdf := ke.trans kf
    refine r_ixT (kdf.get hac) zz ?_
    walk_at "rd"
    refine ⟨.ref pq, vk', "h", 0 + i, hs[i], rfl, de, hdk'.mono kdf.t0, okt, by omega, fun vl2 Hg kg hvl2 => ?_⟩
    obtain ⟨bw, bdp, bsz⟩ := long_bd (Nat.le_refl 3) hs[i] "h" (0 + i) (by decide +kernel) mk'.1.ok
    refine ⟨_, _, 3, hvl.mono (kf.trans kg).t0, hvl2, bw, bw, by omega, ?_⟩
    rw [eqD_refl bw]
    walk_at "rd"
    have kdg := kdf.trans kg
    refine r_tupN (ds := tyds []) Dts.nil (show 0 ≤ 10000 by decide) fun pe Hh kh th nh eh dh2 => ?_
    walk_at "rd"
    refine r_ixT ((kdg.trans kh).get hac) zz ?_
    walk_at "rd"
    refine r_ixT ((kdg.trans kh).get hac) zz ?_
    walk_at "rd"
    refine ⟨vk', 0 + i, hs[i], rfl, hdk'.mono (kdg.trans kh).t0, okt, by omega, fun vl3 Hi ki hvl3 => ?_⟩
    walk_at "rd"
    have di := dd.keep ((kdg.trans kh).trans ki)
    refine ⟨vsg, .ref l, .ref pe, vk', vl3, sg, hs, [], hs[i], longD "h" (0 + i) hs[i], 3, rfl, di.sgv, good.ok, by have := good.few; omega, di.h, okhs, dh2.mono ki.t0, trivial, hdk'.mono ((kdg.trans kh).trans ki).t0, mk'.1.ok, hvl3, bw.wide (by decide), by omega, by decide, by rw [List.length_nil]; omega, fun Hj kj => ?_⟩
    have tmt : tmB sg hs [] hs[i] (longD "h" (0 + i) hs[i]) = true := tm_long _ _ _ _ (.inr rfl) (by
      have e := hdB_h (sg := sg) (own := []) lt
      rw [List.getElem?_eq_getElem lt] at e
      rw [Int.zero_add]
      exact e)
    rw [tmt]
    walk_at "rd"
    exact ⟨_, _, _, rfl, di.keep kj⟩
  rintro σ Hd ⟨v5', v6', v7', rfl, dd⟩
  walk_at "rd"
  refine ⟨c, a, 2, rfl, by decide, dd.cs, fun vkd dkd He ke cse hkd okkd => ?_⟩
  obtain ⟨kd, rfl⟩ := okkd.ty
  have de := dd.step ke cse
  walk_at "rd"
  refine ⟨c, a, 30, rfl, cse, by decide, by decide, fun jf Hf lof hif kf csf => ?_⟩
  have df := de.step kf csf
  have hkdf := hkd.mono (cse.t kf)
  obtain ⟨ns2, i2, dg2, n2', z2, hcf, haf, h0f, hnef⟩ := id csf
  walk_at "rd"
  refine r_set hcf rfl ?_
  rw [show ([V.ref a, .int i2, .int dg2, .int n2', .int z2].set (Int.toNat 4) (.int (6 + jf))) = [.ref a, .int i2, .int dg2, .int n2', .int (6 + jf)] from rfl]
  have kg : Kp [c] Hf (upd Hf c (.lst [.ref a, .int i2, .int dg2, .int n2', .int (6 + jf)])) := (Kp.refl _ _).at (by simp)
  have csg : CS a (upd Hf c (.lst [.ref a, .int i2, .int dg2, .int n2', .int (6 + jf)])) c := ⟨ns2, i2, dg2, n2', 6 + jf, upd_same, by rw [upd_ne hnef]; exact haf, h0f, hnef⟩
  have dg := df.step kg csg
  have hkdg := hkdf.mono (csf.t kg)
  generalize upd Hf c (.lst [.ref a, .int i2, .int dg2, .int n2', .int (6 + jf)]) = Hg at kg csg dg hkdg
  walk_at "rd"
  refine ⟨c, a, 6, rfl, csg, by decide, by decide, fun jd Hh loh hih kh csh => ?_⟩
  have dh' := dg.step kh csh
  have hkdh := hkdg.mono (csg.t kh)
  walk_at "rd"
  have ejd : jd = ((jd.toNat : Nat) : Int) := by omega
  refine ⟨c, a, vsg, .ref l, .ref apre, vkd, jd.toNat, sg, hs, pre, kd, (by rw [← ejd]; rfl), csh, dh'.sgv, good, dh'.h, (fun t ht => (ghs t ht).1), dh'.p, (fun t ht => (gpre t ht).1), hkdh, okkd.wd, by omega, by omega, by omega, fun vt dt Hi ki csi hdt tm okd => ?_⟩
  have di := dh'.step ki csi
  have hkdi := hkdh.mono (csh.t ki)
  have gdt := tmB_G _ _ _ tm
  have zdt : dt.sz ≤ 6144 := Nat.le_trans okd.sz (Nat.mul_le_mul_left 6 (Nat.pow_le_pow_right (n := 4) (by decide) (show jd.toNat ≤ 5 by omega)))
  have pdt : dt.dp ≤ 13 := by
    have := okd.dp
    omega
  walk_at "rd"
  refine r_lstN (show 1 ≤ 10000 by decide) fun La Hj kj tj nj ej => ?_
  walk_at "rd"
  refine ⟨La, [vt], [dt], rfl, ej, Dts.cons (hdt.mono tj) Dts.nil, ?_, (show 1 ≤ 1000 by decide), fun bb Hk kk => ?_⟩
  · intro d hd
    rw [List.mem_singleton.mp hd]
    exact ⟨tmG_F _ gdt, by omega⟩
  walk_at "rd"
  refine if_2 (fun cb => ?_) (fun cb => ?_)
  · walk_at "rd"
    exact q _
  have kik := kj.trans kk
  have dk := di.keep kik
  walk_at "rd"
  refine ⟨c, a, rfl, dk.cs, fun vm tsm Hl kl csl hm lm okm => ?_⟩
  have dl := dk.step kl csl
  have til : KeepT Hi Hl := kik.t0.trans (dk.cs.t kl)
  have hdtl := hdt.mono til
  have hkdl := hkdi.mono til
  walk_at "rd"
  obtain ⟨am, xm', rfl, -, -⟩ := hm.tup
  obtain ⟨xm, ham, hsm, lxm⟩ := vlen hm
  refine ⟨am, xm, rfl, .inr (SqT.of ham), ?_⟩
  walk_at "rd"
  rw [lxm]
  have gmore : ∀ t ∈ tsm, TyG t := fun t ht => (okm t ht).wd
  have el : ∀ m : Int, (if m = 0 then dt else liftD m 0 dt) = liftD m 0 dt := fun m => by
    split
    · next e => rw [e, lift_0 0 dt gdt]
    · rfl
  obtain ⟨lg, lz, ldp⟩ := lift_G (a := tsm.length) 0 dt gdt
  have lwd := lift_Wd (Nat.le_refl 3) (a := tsm.length) 0 dt gdt okd.wd
  refine ⟨vt, dt, tsm.length, rfl, dl.tb, hdtl, gdt, by omega, fun r1 Hm km hr1 => ?_⟩
  rw [el] at hr1
  walk_at "rd"
  refine ⟨vt, dt, tsm.length, 0, rfl, hdtl.mono km.t0, gdt, by omega, by omega, fun r2 Hn kn hr2 => ?_⟩
  refine ⟨_, _, 3, hr1.mono kn.t0, hr2, lwd, lwd, by omega, ?_⟩
  rw [eqD_refl lwd]
  walk_at "rd"
  have kln := km.trans kn
  refine ⟨vt, dt, 0, rfl, kln.tab dl.tb, hdtl.mono kln.t0, gdt, by omega, fun r3 Ho ko hr3 => ?_⟩
  rw [if_pos rfl] at hr3
  walk_at "rd"
  have klo := kln.trans ko
  refine ⟨dt, dt, 3, hr3, hdtl.mono klo.t0, okd.wd, okd.wd, by omega, ?_⟩
  rw [eqD_refl okd.wd]
  walk_at "rd"
  have dob := dl.keep klo
  obtain ⟨xpo, hapo, hspo, lxpo⟩ := vlen dob.p
  refine r_catT hapo (klo.get ham) hspo (hsm.mono klo.t0) (by omega) fun vpm Hp kp tp hpm => ?_
  rw [← tyds_app] at hpm
  walk_at "rd"
  have klp := klo.trans kp
  refine ⟨vt, dt, tsm.length, rfl, klp.tab dl.tb, hdtl.mono klp.t0, gdt, by omega, fun r4 Hq kq hr4 => ?_⟩
  rw [el] at hr4
  walk_at "rd"
  have klq := klp.trans kq
  have dq := dl.keep klq
  have okpm : TysOk 3 (pre ++ tsm) := okpre.app (tysOk_of gmore)
  refine ⟨vsg, .ref l, vpm, vkd, r4, sg, hs, pre ++ tsm, kd, liftD tsm.length 0 dt, 3, rfl, dq.sgv, good.ok, by have := good.few; omega, dq.h, okhs, hpm.mono kq.t0, okpm, hkdl.mono klq.t0, TyG.ok okkd.wd, hr4, lwd.wide (by decide), by omega, by decide, by rw [List.length_append]; omega, by omega, fun Hr kr => ?_⟩
  have tml : tmB sg hs (pre ++ tsm) kd (liftD tsm.length 0 dt) = true := by
    have z := tm_lift (pre := pre) (more := tsm) [] kd dt (by rw [List.append_nil]; exact tm)
    rw [List.append_nil] at z
    exact z
  rw [tml]
  walk_at "rd"
  have klr := klq.trans kr
  have dr := dl.keep klr
  refine ⟨c, a, 30, rfl, dr.cs, by decide, by decide, fun jr Hs los his ks css => ?_⟩
  have tls : KeepT Hl Hs := klr.t0.trans (dr.cs.t ks)
  walk_at "rd"
  refine ⟨vt, dt, tsm.length, rfl, ks.tab dr.tb, hdtl.mono tls, gdt, by omega, fun r5 Ht kt hr5 => ?_⟩
  rw [el] at hr5
  walk_at "rd"
  refine ⟨r5, liftD tsm.length 0 dt, jr, rfl, kt.tab (ks.tab dr.tb), hr5, lg, by omega, fun r6 Hu ku hr6 => ?_⟩
  have el2 : (if jr = 0 then liftD tsm.length 0 dt else liftD jr 0 (liftD tsm.length 0 dt)) = liftD (tsm.length + jr) 0 dt := by
    split
    · next e => rw [e, Int.add_zero]
    · exact lift_add (by omega) 0 dt gdt
  rw [el2] at hr6
  walk_at "rd"
  refine ⟨vt, dt, tsm.length + jr, rfl, ku.tab (kt.tab (ks.tab dr.tb)), hdtl.mono ((tls.trans kt.t0).trans ku.t0), gdt, by omega, fun r7 Hv kv hr7 => ?_⟩
  rw [el] at hr7
  have lwd2 := lift_Wd (Nat.le_refl 3) (a := tsm.length + jr) 0 dt gdt okd.wd
  obtain ⟨_, _, ldp2⟩ := lift_G (a := tsm.length + jr) 0 dt gdt
  refine ⟨_, _, 3, hr6.mono kv.t0, hr7, lwd2, lwd2, by omega, ?_⟩
  rw [eqD_refl lwd2]
  walk_at "rd"
  exact q _
end
end K03
end

/-! The head. -/
namespace K03
open PySem L2 PyProof.Rows PySem.Spec Lc
def tabL : TabL := [(72, 68, "lifted_under.<locals>.change")]
local instance : Tbs := tbsOf tabL
theorem tab_nd : (tabL.map (·.2.1)).Nodup := by decide +kernel
theorem all_mk {l : PySem.W.OpenLaw} {w : World} {K : PySem.W.Frag} {h : Heap} {mg : Str → Option Value} {fa : Addr} (X : K.In h) (G : h.Ns mainGlobals mg) (hfa : mg "law" = some (.ref fa))
    {f1 f2 f3 f4 f5 f6 f7 f8 f9 f10 f11 f12 f13 f14 f15 f16 f17 f18 f19 f20 f21 f22 f23 f24 f25 f26 f27 f28 f29 : Addr} {od1 an1 od2 an2 od3 an3 od4 an4 od5 an5 od6 an6 od7 an7 od8 an8 od9 an9 od10 an10 od11 an11 od12 an12 od13 an13 od14 an14 od15 an15 od16 an16 od17 an17 od18 an18 od19 an19 od20 an20 od21 an21 od22 an22 od23 an23 od24 an24 od25 an25 od26 an26 od27 an27 od28 an28 od29 an29 : Option Addr} {sl1 sl2 sl3 sl4 sl5 sl6 sl7 sl8 sl9 sl10 sl11 sl12 sl13 sl14 sl15 sl16 sl17 sl18 sl19 sl20 sl21 sl22 sl23 sl24 sl25 sl26 sl27 sl28 sl29 : Array (Option Value)} {oc1 kV1 dc1 pm1 ct1 oc2 kV2 dc2 pm2 ct2 oc3 kV3 dc3 pm3 ct3 oc4 kV4 dc4 pm4 ct4 oc5 kV5 dc5 pm5 ct5 oc6 kV6 dc6 pm6 ct6 oc7 kV7 dc7 pm7 ct7 oc8 kV8 dc8 pm8 ct8 oc9 kV9 dc9 pm9 ct9 oc10 kV10 dc10 pm10 ct10 oc11 kV11 dc11 pm11 ct11 oc12 kV12 dc12 pm12 ct12 oc13 kV13 dc13 pm13 ct13 oc14 kV14 dc14 pm14 ct14 oc15 kV15 dc15 pm15 ct15 oc16 kV16 dc16 pm16 ct16 oc17 kV17 dc17 pm17 ct17 oc18 kV18 dc18 pm18 ct18 oc19 kV19 dc19 pm19 ct19 oc20 kV20 dc20 pm20 ct20 oc21 kV21 dc21 pm21 ct21 oc22 kV22 dc22 pm22 ct22 oc23 kV23 dc23 pm23 ct23 oc24 kV24 dc24 pm24 ct24 oc25 kV25 dc25 pm25 ct25 oc26 kV26 dc26 pm26 ct26 oc27 kV27 dc27 pm27 ct27 oc28 kV28 dc28 pm28 ct28 oc29 kV29 dc29 pm29 ct29 : Value} {cd1 cd2 cd3 cd4 cd5 cd6 cd7 cd8 cd9 cd10 cd11 cd12 cd13 cd14 cd15 cd16 cd17 cd18 cd19 cd20 cd21 cd22 cd23 cd24 cd25 cd26 cd27 cd28 cd29 : Value}
    (a1 : PySem.W.nsIn K mainGlobals "is_pair" = some (some (.ref f1))) (l1 : K.lookup f1 = some ⟨oc1, od1, .func (PySem.W.fnOf "is_pair" "is_pair" (defArgs s_is_pair) (defBody s_is_pair) (defScope s_is_pair) .none kV1 dc1 pm1 an1 cd1 ct1), sl1⟩) (c1 : PySem.W.codeIn K cd1 "is_pair" = true) (k1 : PySem.W.keepIn K (.ref f1) = true)
    (a2 : PySem.W.nsIn K mainGlobals "is_index" = some (some (.ref f2))) (l2 : K.lookup f2 = some ⟨oc2, od2, .func (PySem.W.fnOf "is_index" "is_index" (defArgs s_is_index) (defBody s_is_index) (defScope s_is_index) .none kV2 dc2 pm2 an2 cd2 ct2), sl2⟩) (c2 : PySem.W.codeIn K cd2 "is_index" = true) (k2 : PySem.W.keepIn K (.ref f2) = true)
    (a3 : PySem.W.nsIn K mainGlobals "head_kind" = some (some (.ref f3))) (l3 : K.lookup f3 = some ⟨oc3, od3, .func (PySem.W.fnOf "head_kind" "head_kind" (defArgs s_head_kind) (defBody s_head_kind) (defScope s_head_kind) .none kV3 dc3 pm3 an3 cd3 ct3), sl3⟩) (c3 : PySem.W.codeIn K cd3 "head_kind" = true) (k3 : PySem.W.keepIn K (.ref f3) = true)
    (a4 : PySem.W.nsIn K mainGlobals "has_term_form" = some (some (.ref f4))) (l4 : K.lookup f4 = some ⟨oc4, od4, .func (PySem.W.fnOf "has_term_form" "has_term_form" (defArgs s_has_term_form) (defBody s_has_term_form) (defScope s_has_term_form) .none kV4 dc4 pm4 an4 cd4 ct4), sl4⟩) (c4 : PySem.W.codeIn K cd4 "has_term_form" = true) (k4 : PySem.W.keepIn K (.ref f4) = true)
    (a5 : PySem.W.nsIn K mainGlobals "is_term" = some (some (.ref f5))) (l5 : K.lookup f5 = some ⟨oc5, od5, .func (PySem.W.fnOf "is_term" "is_term" (defArgs s_is_term) (defBody s_is_term) (defScope s_is_term) .none kV5 dc5 pm5 an5 cd5 ct5), sl5⟩) (c5 : PySem.W.codeIn K cd5 "is_term" = true) (k5 : PySem.W.keepIn K (.ref f5) = true)
    (a6 : PySem.W.nsIn K mainGlobals "places" = some (some (.ref f6))) (l6 : K.lookup f6 = some ⟨oc6, od6, .func (PySem.W.fnOf "places" "places" (defArgs s_places) (defBody s_places) (defScope s_places) .none kV6 dc6 pm6 an6 cd6 ct6), sl6⟩) (c6 : PySem.W.codeIn K cd6 "places" = true) (k6 : PySem.W.keepIn K (.ref f6) = true)
    (a7 : PySem.W.nsIn K mainGlobals "folded" = some (some (.ref f7))) (l7 : K.lookup f7 = some ⟨oc7, od7, .func (PySem.W.fnOf "folded" "folded" (defArgs s_folded) (defBody s_folded) (defScope s_folded) .none kV7 dc7 pm7 an7 cd7 ct7), sl7⟩) (c7 : PySem.W.codeIn K cd7 "folded" = true) (k7 : PySem.W.keepIn K (.ref f7) = true)
    (a8 : PySem.W.nsIn K mainGlobals "raised_head" = some (some (.ref f8))) (l8 : K.lookup f8 = some ⟨oc8, od8, .func (PySem.W.fnOf "raised_head" "raised_head" (defArgs s_raised_head) (defBody s_raised_head) (defScope s_raised_head) .none kV8 dc8 pm8 an8 cd8 ct8), sl8⟩) (c8 : PySem.W.codeIn K cd8 "raised_head" = true) (k8 : PySem.W.keepIn K (.ref f8) = true)
    (a9 : PySem.W.nsIn K mainGlobals "lifted_under" = some (some (.ref f9))) (l9 : K.lookup f9 = some ⟨oc9, od9, .func (PySem.W.fnOf "lifted_under" "lifted_under" (defArgs s_lifted_under) (defBody s_lifted_under) (defScope s_lifted_under) .none kV9 dc9 pm9 an9 cd9 ct9), sl9⟩) (c9 : PySem.W.codeIn K cd9 "lifted_under" = true) (k9 : PySem.W.keepIn K (.ref f9) = true)
    (a10 : PySem.W.nsIn K mainGlobals "lifted" = some (some (.ref f10))) (l10 : K.lookup f10 = some ⟨oc10, od10, .func (PySem.W.fnOf "lifted" "lifted" (defArgs s_lifted) (defBody s_lifted) (defScope s_lifted) .none kV10 dc10 pm10 an10 cd10 ct10), sl10⟩) (c10 : PySem.W.codeIn K cd10 "lifted" = true) (k10 : PySem.W.keepIn K (.ref f10) = true)
    (a11 : PySem.W.nsIn K mainGlobals "long_form" = some (some (.ref f11))) (l11 : K.lookup f11 = some ⟨oc11, od11, .func (PySem.W.fnOf "long_form" "long_form" (defArgs s_long_form) (defBody s_long_form) (defScope s_long_form) .none kV11 dc11 pm11 an11 cd11 ct11), sl11⟩) (c11 : PySem.W.codeIn K cd11 "long_form" = true) (k11 : PySem.W.keepIn K (.ref f11) = true)
    (a12 : PySem.W.nsIn K mainGlobals "long_row" = some (some (.ref f12))) (l12 : K.lookup f12 = some ⟨oc12, od12, .func (PySem.W.fnOf "long_row" "long_row" (defArgs s_long_row) (defBody s_long_row) (defScope s_long_row) .none kV12 dc12 pm12 an12 cd12 ct12), sl12⟩) (c12 : PySem.W.codeIn K cd12 "long_row" = true) (k12 : PySem.W.keepIn K (.ref f12) = true)
    (a13 : PySem.W.nsIn K mainGlobals "long_binder" = some (some (.ref f13))) (l13 : K.lookup f13 = some ⟨oc13, od13, .func (PySem.W.fnOf "long_binder" "long_binder" (defArgs s_long_binder) (defBody s_long_binder) (defScope s_long_binder) .none kV13 dc13 pm13 an13 cd13 ct13), sl13⟩) (c13 : PySem.W.codeIn K cd13 "long_binder" = true) (k13 : PySem.W.keepIn K (.ref f13) = true)
    (a14 : PySem.W.nsIn K mainGlobals "long_hole" = some (some (.ref f14))) (l14 : K.lookup f14 = some ⟨oc14, od14, .func (PySem.W.fnOf "long_hole" "long_hole" (defArgs s_long_hole) (defBody s_long_hole) (defScope s_long_hole) .none kV14 dc14 pm14 an14 cd14 ct14), sl14⟩) (c14 : PySem.W.codeIn K cd14 "long_hole" = true) (k14 : PySem.W.keepIn K (.ref f14) = true)
    (a15 : PySem.W.nsIn K mainGlobals "_law_start" = some (some (.ref f15))) (l15 : K.lookup f15 = some ⟨oc15, od15, .func (PySem.W.fnOf "_law_start" "_law_start" (defArgs s_law_start) (defBody s_law_start) (defScope s_law_start) .none kV15 dc15 pm15 an15 cd15 ct15), sl15⟩) (c15 : PySem.W.codeIn K cd15 "_law_start" = true) (k15 : PySem.W.keepIn K (.ref f15) = true)
    (a16 : PySem.W.nsIn K mainGlobals "_law_fill" = some (some (.ref f16))) (l16 : K.lookup f16 = some ⟨oc16, od16, .func (PySem.W.fnOf "_law_fill" "_law_fill" (defArgs s_law_fill) (defBody s_law_fill) (defScope s_law_fill) .none kV16 dc16 pm16 an16 cd16 ct16), sl16⟩) (c16 : PySem.W.codeIn K cd16 "_law_fill" = true) (k16 : PySem.W.keepIn K (.ref f16) = true)
    (a17 : PySem.W.nsIn K mainGlobals "_law_take" = some (some (.ref f17))) (l17 : K.lookup f17 = some ⟨oc17, od17, .func (PySem.W.fnOf "_law_take" "_law_take" (defArgs s_law_take) (defBody s_law_take) (defScope s_law_take) .none kV17 dc17 pm17 an17 cd17 ct17), sl17⟩) (c17 : PySem.W.codeIn K cd17 "_law_take" = true) (k17 : PySem.W.keepIn K (.ref f17) = true)
    (a18 : PySem.W.nsIn K mainGlobals "_law_signature" = some (some (.ref f18))) (l18 : K.lookup f18 = some ⟨oc18, od18, .func (PySem.W.fnOf "_law_signature" "_law_signature" (defArgs s_law_signature) (defBody s_law_signature) (defScope s_law_signature) .none kV18 dc18 pm18 an18 cd18 ct18), sl18⟩) (c18 : PySem.W.codeIn K cd18 "_law_signature" = true) (k18 : PySem.W.keepIn K (.ref f18) = true)
    (a19 : PySem.W.nsIn K mainGlobals "_law_kind" = some (some (.ref f19))) (l19 : K.lookup f19 = some ⟨oc19, od19, .func (PySem.W.fnOf "_law_kind" "_law_kind" (defArgs s_law_kind) (defBody s_law_kind) (defScope s_law_kind) .none kV19 dc19 pm19 an19 cd19 ct19), sl19⟩) (c19 : PySem.W.codeIn K cd19 "_law_kind" = true) (k19 : PySem.W.keepIn K (.ref f19) = true)
    (a20 : PySem.W.nsIn K mainGlobals "_law_long" = some (some (.ref f20))) (l20 : K.lookup f20 = some ⟨oc20, od20, .func (PySem.W.fnOf "_law_long" "_law_long" (defArgs s_law_long) (defBody s_law_long) (defScope s_law_long) .none kV20 dc20 pm20 an20 cd20 ct20), sl20⟩) (c20 : PySem.W.codeIn K cd20 "_law_long" = true) (k20 : PySem.W.keepIn K (.ref f20) = true)
    (a21 : PySem.W.nsIn K mainGlobals "_law_lifted" = some (some (.ref f21))) (l21 : K.lookup f21 = some ⟨oc21, od21, .func (PySem.W.fnOf "_law_lifted" "_law_lifted" (defArgs s_law_lifted) (defBody s_law_lifted) (defScope s_law_lifted) .none kV21 dc21 pm21 an21 cd21 ct21), sl21⟩) (c21 : PySem.W.codeIn K cd21 "_law_lifted" = true) (k21 : PySem.W.keepIn K (.ref f21) = true)
    (a22 : PySem.W.nsIn K mainGlobals "_law_is_int" = some (some (.ref f22))) (l22 : K.lookup f22 = some ⟨oc22, od22, .func (PySem.W.fnOf "_law_is_int" "_law_is_int" (defArgs s_law_is_int) (defBody s_law_is_int) (defScope s_law_is_int) .none kV22 dc22 pm22 an22 cd22 ct22), sl22⟩) (c22 : PySem.W.codeIn K cd22 "_law_is_int" = true) (k22 : PySem.W.keepIn K (.ref f22) = true)
    (a23 : PySem.W.nsIn K mainGlobals "_law_needed" = some (some (.ref f23))) (l23 : K.lookup f23 = some ⟨oc23, od23, .func (PySem.W.fnOf "_law_needed" "_law_needed" (defArgs s_law_needed) (defBody s_law_needed) (defScope s_law_needed) .none kV23 dc23 pm23 an23 cd23 ct23), sl23⟩) (c23 : PySem.W.codeIn K cd23 "_law_needed" = true) (k23 : PySem.W.keepIn K (.ref f23) = true)
    (a24 : PySem.W.nsIn K mainGlobals "_law_is_term" = some (some (.ref f24))) (l24 : K.lookup f24 = some ⟨oc24, od24, .func (PySem.W.fnOf "_law_is_term" "_law_is_term" (defArgs s_law_is_term) (defBody s_law_is_term) (defScope s_law_is_term) .none kV24 dc24 pm24 an24 cd24 ct24), sl24⟩) (c24 : PySem.W.codeIn K cd24 "_law_is_term" = true) (k24 : PySem.W.keepIn K (.ref f24) = true)
    (a25 : PySem.W.nsIn K mainGlobals "_law_heads" = some (some (.ref f25))) (l25 : K.lookup f25 = some ⟨oc25, od25, .func (PySem.W.fnOf "_law_heads" "_law_heads" (defArgs s_law_heads) (defBody s_law_heads) (defScope s_law_heads) .none kV25 dc25 pm25 an25 cd25 ct25), sl25⟩) (c25 : PySem.W.codeIn K cd25 "_law_heads" = true) (k25 : PySem.W.keepIn K (.ref f25) = true)
    (a26 : PySem.W.nsIn K mainGlobals "_law_term" = some (some (.ref f26))) (l26 : K.lookup f26 = some ⟨oc26, od26, .func (PySem.W.fnOf "_law_term" "_law_term" (defArgs s_law_term) (defBody s_law_term) (defScope s_law_term) .none kV26 dc26 pm26 an26 cd26 ct26), sl26⟩) (c26 : PySem.W.codeIn K cd26 "_law_term" = true) (k26 : PySem.W.keepIn K (.ref f26) = true)
    (a27 : PySem.W.nsIn K mainGlobals "_law_prefix" = some (some (.ref f27))) (l27 : K.lookup f27 = some ⟨oc27, od27, .func (PySem.W.fnOf "_law_prefix" "_law_prefix" (defArgs s_law_prefix) (defBody s_law_prefix) (defScope s_law_prefix) .none kV27 dc27 pm27 an27 cd27 ct27), sl27⟩) (c27 : PySem.W.codeIn K cd27 "_law_prefix" = true) (k27 : PySem.W.keepIn K (.ref f27) = true)
    (a28 : PySem.W.nsIn K mainGlobals "_law_is_apt" = some (some (.ref f28))) (l28 : K.lookup f28 = some ⟨oc28, od28, .func (PySem.W.fnOf "_law_is_apt" "_law_is_apt" (defArgs s_law_is_apt) (defBody s_law_is_apt) (defScope s_law_is_apt) .none kV28 dc28 pm28 an28 cd28 ct28), sl28⟩) (c28 : PySem.W.codeIn K cd28 "_law_is_apt" = true) (k28 : PySem.W.keepIn K (.ref f28) = true)
    (a29 : PySem.W.nsIn K mainGlobals "law" = some (some (.ref f29))) (l29 : K.lookup f29 = some ⟨oc29, od29, .func (PySem.W.fnOf "law" "law" (defArgs s_law) (defBody s_law) (defScope s_law) .none kV29 dc29 pm29 an29 cd29 ct29), sl29⟩) (c29 : PySem.W.codeIn K cd29 "law" = true) (k29 : PySem.W.keepIn K (.ref f29) = true)
    (e9 : cd9 = Value.ref 72)
    (z_type : PySem.W.nsIn K mainGlobals "type" = some none) (z_str : PySem.W.nsIn K mainGlobals "str" = some none) (z_len : PySem.W.nsIn K mainGlobals "len" = some none) (z_all : PySem.W.nsIn K mainGlobals "all" = some none) (z_tuple : PySem.W.nsIn K mainGlobals "tuple" = some none) (z_list : PySem.W.nsIn K mainGlobals "list" = some none) (z_dict : PySem.W.nsIn K mainGlobals "dict" = some none) (z_set : PySem.W.nsIn K mainGlobals "set" = some none) (z_int : PySem.W.nsIn K mainGlobals "int" = some none) (z_max : PySem.W.nsIn K mainGlobals "max" = some none) (z_sum : PySem.W.nsIn K mainGlobals "sum" = some none) (z_range : PySem.W.nsIn K mainGlobals "range" = some none) (z_reversed : PySem.W.nsIn K mainGlobals "reversed" = some none) (z_isinstance : PySem.W.nsIn K mainGlobals "isinstance" = some none) (z_bool : PySem.W.nsIn K mainGlobals "bool" = some none) :
    ∃ fd : FuncData, (∀ (s : Shared) (u : Value), BindsTo s fd ⟨[u], []⟩ [("script", u)]) ∧ ∀ base : Heap, K.In base → base.Ns mainGlobals mg → (∀ p ∈ csOf tabL, LamX.TabB base mg p.1 p.2) → FnOk l.prog w K mg base CX0 60 fa fd ["script"] (spLaw K) := by
  subst e9
  have e := hfa.symm.trans (PySem.W.mg_of X G a29)
  cases e
  have D_is_pair := df_mk (st := s_is_pair) (ps := ["value"]) X G a1 l1 c1 k1 fun _ _ _ _ _ _ us hl => match us, hl with | [_], _ => rfl
  have D_is_index := df_mk (st := s_is_index) (ps := ["value"]) X G a2 l2 c2 k2 fun _ _ _ _ _ _ us hl => match us, hl with | [_], _ => rfl
  have D_head_kind := df_mk (st := s_head_kind) (ps := ["constants", "holes", "binders", "head"]) X G a3 l3 c3 k3 fun _ _ _ _ _ _ us hl => match us, hl with | [_, _, _, _], _ => rfl
  have D_has_term_form := df_mk (st := s_has_term_form) (ps := ["value", "n"]) X G a4 l4 c4 k4 fun _ _ _ _ _ _ us hl => match us, hl with | [_, _], _ => rfl
  have D_is_term := df_mk (st := s_is_term) (ps := ["signature", "holes", "prefix", "kind", "value"]) X G a5 l5 c5 k5 fun _ _ _ _ _ _ us hl => match us, hl with | [_, _, _, _, _], _ => rfl
  have D_places := df_mk (st := s_places) (ps := ["term"]) X G a6 l6 c6 k6 fun _ _ _ _ _ _ us hl => match us, hl with | [_], _ => rfl
  have D_folded := df_mk (st := s_folded) (ps := ["term", "change"]) X G a7 l7 c7 k7 fun _ _ _ _ _ _ us hl => match us, hl with | [_, _], _ => rfl
  have D_raised_head := df_mk (st := s_raised_head) (ps := ["head", "k"]) X G a8 l8 c8 k8 fun _ _ _ _ _ _ us hl => match us, hl with | [_, _], _ => rfl
  have D_lifted := df_mk (st := s_lifted) (ps := ["term", "k"]) X G a10 l10 c10 k10 fun _ _ _ _ _ _ us hl => match us, hl with | [_, _], _ => rfl
  have D_long_form := df_mk (st := s_long_form) (ps := ["head", "kind"]) X G a11 l11 c11 k11 fun _ _ _ _ _ _ us hl => match us, hl with | [_, _], _ => rfl
  have D_long_row := df_mk (st := s_long_row) (ps := ["binders"]) X G a12 l12 c12 k12 fun _ _ _ _ _ _ us hl => match us, hl with | [_], _ => rfl
  have D_long_binder := df_mk (st := s_long_binder) (ps := ["i", "kind"]) X G a13 l13 c13 k13 fun _ _ _ _ _ _ us hl => match us, hl with | [_, _], _ => rfl
  have D_long_hole := df_mk (st := s_long_hole) (ps := ["k", "kind"]) X G a14 l14 c14 k14 fun _ _ _ _ _ _ us hl => match us, hl with | [_, _], _ => rfl
  have D_law_start := df_mk (st := s_law_start) (ps := ["script"]) X G a15 l15 c15 k15 fun _ _ _ _ _ _ us hl => match us, hl with | [_], _ => rfl
  have D_law_fill := df_mk (st := s_law_fill) (ps := ["c"]) X G a16 l16 c16 k16 fun _ _ _ _ _ _ us hl => match us, hl with | [_], _ => rfl
  have D_law_take := df_mk (st := s_law_take) (ps := ["c", "many"]) X G a17 l17 c17 k17 fun _ _ _ _ _ _ us hl => match us, hl with | [_, _], _ => rfl
  have D_law_signature := df_mk (st := s_law_signature) (ps := ["c"]) X G a18 l18 c18 k18 fun _ _ _ _ _ _ us hl => match us, hl with | [_], _ => rfl
  have D_law_kind := df_mk (st := s_law_kind) (ps := ["c", "high"]) X G a19 l19 c19 k19 fun _ _ _ _ _ _ us hl => match us, hl with | [_, _], _ => rfl
  have D_law_long := df_mk (st := s_law_long) (ps := ["head", "kind"]) X G a20 l20 c20 k20 fun _ _ _ _ _ _ us hl => match us, hl with | [_, _], _ => rfl
  have D_law_lifted := df_mk (st := s_law_lifted) (ps := ["term", "k", "depth"]) X G a21 l21 c21 k21 fun _ _ _ _ _ _ us hl => match us, hl with | [_, _, _], _ => rfl
  have D_law_is_int := df_mk (st := s_law_is_int) (ps := ["value"]) X G a22 l22 c22 k22 fun _ _ _ _ _ _ us hl => match us, hl with | [_], _ => rfl
  have D_law_needed := df_mk (st := s_law_needed) (ps := ["signature", "holes", "own", "head"]) X G a23 l23 c23 k23 fun _ _ _ _ _ _ us hl => match us, hl with | [_, _, _, _], _ => rfl
  have D_law_is_term := df_mk (st := s_law_is_term) (ps := ["signature", "holes", "prefix", "kind", "value"]) X G a24 l24 c24 k24 fun _ _ _ _ _ _ us hl => match us, hl with | [_, _, _, _, _], _ => rfl
  have D_law_heads := df_mk (st := s_law_heads) (ps := ["signature", "holes", "own", "sort"]) X G a25 l25 c25 k25 fun _ _ _ _ _ _ us hl => match us, hl with | [_, _, _, _], _ => rfl
  have D_law_term := df_mk (st := s_law_term) (ps := ["c", "signature", "holes", "prefix", "kind", "depth"]) X G a26 l26 c26 k26 fun _ _ _ _ _ _ us hl => match us, hl with | [_, _, _, _, _, _], _ => rfl
  have D_law_prefix := df_mk (st := s_law_prefix) (ps := ["c"]) X G a27 l27 c27 k27 fun _ _ _ _ _ _ us hl => match us, hl with | [_], _ => rfl
  have D_law_is_apt := df_mk (st := s_law_is_apt) (ps := ["terms"]) X G a28 l28 c28 k28 fun _ _ _ _ _ _ us hl => match us, hl with | [_], _ => rfl
  have T : Txt mg := {
    z_type := PySem.W.mg_none_of X G z_type
    z_str := PySem.W.mg_none_of X G z_str
    z_len := PySem.W.mg_none_of X G z_len
    z_all := PySem.W.mg_none_of X G z_all
    z_tuple := PySem.W.mg_none_of X G z_tuple
    z_list := PySem.W.mg_none_of X G z_list
    z_dict := PySem.W.mg_none_of X G z_dict
    z_set := PySem.W.mg_none_of X G z_set
    z_int := PySem.W.mg_none_of X G z_int
    z_max := PySem.W.mg_none_of X G z_max
    z_sum := PySem.W.mg_none_of X G z_sum
    z_range := PySem.W.mg_none_of X G z_range
    z_reversed := PySem.W.mg_none_of X G z_reversed
    z_isinstance := PySem.W.mg_none_of X G z_isinstance
    z_bool := PySem.W.mg_none_of X G z_bool }
  refine ⟨PySem.W.fnOf "law" "law" (defArgs s_law) (defBody s_law) (defScope s_law) .none kV29 dc29 pm29 an29 cd29 ct29, fun s v => .of_eq rfl, fun base _ _ TB => ?_⟩
  have D_lifted_under : DfN K mg base "lifted_under" s_lifted_under "lifted_under.<locals>.change" ["term", "k", "d"] := dfN_mk (L := tabL) X G a9 l9 c9 k9 (fun us hl => match us, hl with | [_, _, _], _ => rfl) tab_nd (show (72, 68, _) ∈ tabL by simp [tabL]) TB
  have c_pair := ok_is_pair (P := l.prog) (w := w) (base := base) D_is_pair T
  have c_index := ok_is_index (P := l.prog) (w := w) (base := base) D_is_index T
  have c_hk := ok_head_kind D_head_kind T c_pair c_index
  have c_form := ok_form D_has_term_form T c_index
  have c_it := ok_is_term D_is_term T c_form c_hk
  have c_fill := ok_fill (P := l.prog) (w := w) (base := base) D_law_fill T
  have c_take := ok_take D_law_take T c_fill
  have c_start := ok_start (P := l.prog) (w := w) (base := base) D_law_start T
  have c_kind : ∀ n, Cal l.prog w K mg base "_law_kind" ["c", "high"] (2 + n) (spKind n) := by
    intro n
    induction n with
    | zero =>
      refine Df.no D_law_kind fun vs H Q E q => ?_
      obtain ⟨_, _, _, _, hn, _⟩ := q
      exact absurd hn (Nat.not_lt_zero _)
    | succ n ih => exact ok_kind0 D_law_kind T (Nat.le_add_right 2 n) c_take ih
  have c_lint := ok_law_is_int (P := l.prog) (w := w) (base := base) D_law_is_int T
  have c_needed := ok_needed D_law_needed T c_lint
  have c_lit : ∀ n, Cal l.prog w K mg base "_law_is_term" ["signature", "holes", "prefix", "kind", "value"] (2 + n) (spIsTermL n) := by
    intro n
    induction n with
    | zero =>
      refine Df.no D_law_is_term fun vs H Q E q => ?_
      unfold spIsTermL at q
      obtain ⟨sv, hv, pv, kv, v, sg, hs, own, k, d, W, q⟩ := q
      simp only [Nat.not_lt_zero, false_and, and_false] at q
    | succ n ih => exact ok_law_is_term0 D_law_is_term T (Nat.le_add_right 2 n) c_lint c_needed ih
  have c_sig := ok_signature D_law_signature T c_take
  have c_prefix := ok_prefix D_law_prefix T (c_take.mono (by decide)) ((c_kind 4).mono (by decide))
  have c_heads := ok_heads (P := l.prog) (w := w) (base := base) D_law_heads T
  have c_term : ∀ n, Cal l.prog w K mg base "_law_term" ["c", "signature", "holes", "prefix", "kind", "depth"] (2 + n) (spTerm n) := by
    intro n
    induction n with
    | zero =>
      refine Df.no D_law_term fun vs H Q E q => ?_
      unfold spTerm at q
      obtain ⟨c, a, sv, hv, pv, kv, depth, sg, hs, own, k, q⟩ := q
      simp only [Nat.not_lt_zero, false_and, and_false] at q
    | succ n ih => exact ok_law_term0 D_law_term T (Nat.le_add_right 2 n) c_take c_heads ih
  have c_long : ∀ n, Cal l.prog w K mg base "_law_long" ["head", "kind"] n (spLong n) := by
    intro n
    induction n with
    | zero =>
      refine Df.no D_law_long fun vs H Q E q => ?_
      obtain ⟨_, _, _, _, _, _, _, _, _, hn, _⟩ := q
      exact absurd hn (Nat.not_lt_zero _)
    | succ n ih => exact ok_law_long0 D_law_long T ih
  have c_places := ok_places (P := l.prog) (w := w) (base := base) D_places T
  have c_llift : ∀ n, Cal l.prog w K mg base "_law_lifted" ["term", "k", "depth"] n (spLiftL n) := by
    intro n
    induction n with
    | zero =>
      refine Df.no D_law_lifted fun vs H Q E q => ?_
      obtain ⟨_, _, _, _, _, _, _, hn, _⟩ := q
      exact absurd hn (Nat.not_lt_zero _)
    | succ n ih => exact ok_law_lifted0 D_law_lifted T ih
  have c_raised := ok_raised (P := l.prog) (w := w) (base := base) D_raised_head T
  have c_lform : ∀ n, Cal l.prog w K mg base "long_form" ["head", "kind"] (1 + 2 * n) (spLongP n) := by
    intro n
    induction n with
    | zero =>
      refine Df.no D_long_form fun vs H Q E q => ?_
      obtain ⟨_, _, _, _, _, _, _, _, _, _, hn, _⟩ := q
      exact absurd hn (Nat.not_lt_zero _)
    | succ n ih => exact (ok_long_form0 D_long_form T (Nat.le_add_left 1 (1 + 2 * n)) c_raised (ok_long_row D_long_row T ih)).mono (by omega)
  have c_lb := ok_long_binder D_long_binder T (c_lform 20)
  have c_lh := ok_long_hole D_long_hole T (c_lform 20)
  have c_folded := fun k d => ok_folded (kc := 2) (k := 2) (g := gLift k d) (ok := okLift) (J := jLift k d) (fun _ _ _ _ h => h) D_folded T (Nat.le_refl 2) (by decide) c_places
  have c_lu := ok_lifted_under D_lifted_under T c_raised c_folded
  have c_lifted := ok_lifted D_lifted T c_lu
  have c_apt := ok_apt (P := l.prog) (w := w) (base := base) D_law_is_apt T
  exact ok_law (fun_mk (st := s_law) l29 c29 k29) T (c_start.mono (by decide)) (c_sig.mono (by decide)) (c_prefix.mono (by decide)) ((c_kind 4).mono (by decide)) (c_take.mono (by decide)) (c_lb.mono (by decide)) (c_lh.mono (by decide)) ((c_long 20).mono (by decide)) (c_it.mono (by decide)) ((c_term 10).mono (by decide)) (c_apt.mono (by decide)) (c_lifted.mono (by decide)) ((c_llift 40).mono (by decide)) ((c_lit 40).mono (by decide))
end K03
open PySem PySem.W PyProof.Rows
set_option maxRecDepth 100000 in
set_option maxHeartbeats 0 in
theorem PySem.Challenge.cw_lacuna_k03_long_forms_and_lifting_holds : PySem.Challenge.rw_lacuna_k03_long_forms_and_lifting.Holds := by
  w_on; o_law; k_head; (case hw => w_witness2)
  k_fill
  refine LamX.walk_ofTs (n := 63) (k := 60) (x := "script") (CX := fun _ => L2.CX0) rfl (by decide) rfl ⟨rfl, by decide, by decide⟩ (fun w h Y => PySem.W.km_in_of Y) ?F (fun _ _ _ _ _ z => z)
  case F =>
    intro w mg fa h Y KX G hmg
    refine Lc.at_head (L := K03.tabL) (sp := @K03.spLaw (Lc.tbsOf K03.tabL) _) ?hT ?nT ?C (fun H a ns hl tb hS => ⟨a, ns, rfl, hS, hl, tb, fun _ => rfl⟩) ?G
    case hT => exact PySem.W.km_tabs_of Y
    case nT => refine List.forall_mem_cons.mpr ⟨by kernel_rfl, ?_⟩; exact fun _ z => nomatch z
    case C => refine List.forall_mem_cons.mpr ⟨PySem.W.codeHd_of_K KX (by kernel_rfl), ?_⟩; exact fun _ z => nomatch z
    refine' K03.all_mk KX G hmg ?a1 ?l1 ?c1 ?k1 ?a2 ?l2 ?c2 ?k2 ?a3 ?l3 ?c3 ?k3 ?a4 ?l4 ?c4 ?k4 ?a5 ?l5 ?c5 ?k5 ?a6 ?l6 ?c6 ?k6 ?a7 ?l7 ?c7 ?k7 ?a8 ?l8 ?c8 ?k8 ?a9 ?l9 ?c9 ?k9 ?a10 ?l10 ?c10 ?k10 ?a11 ?l11 ?c11 ?k11 ?a12 ?l12 ?c12 ?k12 ?a13 ?l13 ?c13 ?k13 ?a14 ?l14 ?c14 ?k14 ?a15 ?l15 ?c15 ?k15 ?a16 ?l16 ?c16 ?k16 ?a17 ?l17 ?c17 ?k17 ?a18 ?l18 ?c18 ?k18 ?a19 ?l19 ?c19 ?k19 ?a20 ?l20 ?c20 ?k20 ?a21 ?l21 ?c21 ?k21 ?a22 ?l22 ?c22 ?k22 ?a23 ?l23 ?c23 ?k23 ?a24 ?l24 ?c24 ?k24 ?a25 ?l25 ?c25 ?k25 ?a26 ?l26 ?c26 ?k26 ?a27 ?l27 ?c27 ?k27 ?a28 ?l28 ?c28 ?k28 ?a29 ?l29 ?c29 ?k29 ?e9 ?z_type ?z_str ?z_len ?z_all ?z_tuple ?z_list ?z_dict ?z_set ?z_int ?z_max ?z_sum ?z_range ?z_reversed ?z_isinstance ?z_bool
    (case a1 => k_is)
    (case l1 => k_is)
    (case c1 => k_is)
    (case k1 => k_is)
    (case a2 => k_is)
    (case l2 => k_is)
    (case c2 => k_is)
    (case k2 => k_is)
    (case a3 => k_is)
    (case l3 => k_is)
    (case c3 => k_is)
    (case k3 => k_is)
    (case a4 => k_is)
    (case l4 => k_is)
    (case c4 => k_is)
    (case k4 => k_is)
    (case a5 => k_is)
    (case l5 => k_is)
    (case c5 => k_is)
    (case k5 => k_is)
    (case a6 => k_is)
    (case l6 => k_is)
    (case c6 => k_is)
    (case k6 => k_is)
    (case a7 => k_is)
    (case l7 => k_is)
    (case c7 => k_is)
    (case k7 => k_is)
    (case a8 => k_is)
    (case l8 => k_is)
    (case c8 => k_is)
    (case k8 => k_is)
    (case a9 => k_is)
    (case l9 => k_is)
    (case c9 => k_is)
    (case k9 => k_is)
    (case a10 => k_is)
    (case l10 => k_is)
    (case c10 => k_is)
    (case k10 => k_is)
    (case a11 => k_is)
    (case l11 => k_is)
    (case c11 => k_is)
    (case k11 => k_is)
    (case a12 => k_is)
    (case l12 => k_is)
    (case c12 => k_is)
    (case k12 => k_is)
    (case a13 => k_is)
    (case l13 => k_is)
    (case c13 => k_is)
    (case k13 => k_is)
    (case a14 => k_is)
    (case l14 => k_is)
    (case c14 => k_is)
    (case k14 => k_is)
    (case a15 => k_is)
    (case l15 => k_is)
    (case c15 => k_is)
    (case k15 => k_is)
    (case a16 => k_is)
    (case l16 => k_is)
    (case c16 => k_is)
    (case k16 => k_is)
    (case a17 => k_is)
    (case l17 => k_is)
    (case c17 => k_is)
    (case k17 => k_is)
    (case a18 => k_is)
    (case l18 => k_is)
    (case c18 => k_is)
    (case k18 => k_is)
    (case a19 => k_is)
    (case l19 => k_is)
    (case c19 => k_is)
    (case k19 => k_is)
    (case a20 => k_is)
    (case l20 => k_is)
    (case c20 => k_is)
    (case k20 => k_is)
    (case a21 => k_is)
    (case l21 => k_is)
    (case c21 => k_is)
    (case k21 => k_is)
    (case a22 => k_is)
    (case l22 => k_is)
    (case c22 => k_is)
    (case k22 => k_is)
    (case a23 => k_is)
    (case l23 => k_is)
    (case c23 => k_is)
    (case k23 => k_is)
    (case a24 => k_is)
    (case l24 => k_is)
    (case c24 => k_is)
    (case k24 => k_is)
    (case a25 => k_is)
    (case l25 => k_is)
    (case c25 => k_is)
    (case k25 => k_is)
    (case a26 => k_is)
    (case l26 => k_is)
    (case c26 => k_is)
    (case k26 => k_is)
    (case a27 => k_is)
    (case l27 => k_is)
    (case c27 => k_is)
    (case k27 => k_is)
    (case a28 => k_is)
    (case l28 => k_is)
    (case c28 => k_is)
    (case k28 => k_is)
    (case a29 => k_is)
    (case l29 => k_is)
    (case c29 => k_is)
    (case k29 => k_is)
    (case e9 => rfl)
    (case z_type => k_is)
    (case z_str => k_is)
    (case z_len => k_is)
    (case z_all => k_is)
    (case z_tuple => k_is)
    (case z_list => k_is)
    (case z_dict => k_is)
    (case z_set => k_is)
    (case z_int => k_is)
    (case z_max => k_is)
    (case z_sum => k_is)
    (case z_range => k_is)
    (case z_reversed => k_is)
    (case z_isinstance => k_is)
    (case z_bool => k_is)
